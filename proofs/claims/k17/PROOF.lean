import PyProof.Rows.All
import Wide.All
import OpenK.AllK
import Wide.FinOn
import Lean
import PyProof.EqAt
import PyProof.EqKinds
import PyProof.TupleCall
import Lean
import PyProof.ExcInit
import PyProof.ExcClass3
import PyProof.InstStoreFacts
import KE.KIsAll
import KE.KTryMore
import PyProof.ExcBaseAll.ValueError
import PyProof.ExcArgsOwn
import KE.RegKIsAll
import KE.RegKTryMore
import PyProof.RulesAs
import PyProof.WalksMore
import PyProof.TupleOfGen
import PyProof.EqAt
import PyProof.FactsAll.NoneType
import PySem.Challenge.RW_ownturn_k17_no_plan_has_fewer
set_option compiler.extract_closed false
set_option Elab.async false
set_option linter.all false
set_option maxRecDepth 100000
theorem Pn1_ {α:Type}{p:List α->Prop}(f:∀ a,p [a]):∀ us:List α,us.length=1->p us
 | [_],_=>f _
theorem Pn2_ {α:Type}{p:List α->Prop}(f:∀ a b,p [a,b]):∀ us:List α,us.length=2->p us
 | [_,_],_=>f _ _
theorem Pn3_ {α:Type}{p:List α->Prop}(f:∀ a b c,p [a,b,c]):∀ us:List α,us.length=3->p us
 | [_,_,_],_=>f _ _ _
theorem Pn4_ {α:Type}{p:List α->Prop}(f:∀ a b c d,p [a,b,c,d]):∀ us:List α,us.length=4->p us
 | [_,_,_,_],_=>f _ _ _ _
namespace L2
open PySem PySem.Spec PyProof.Rows
noncomputable abbrev Key:=Sum Int Str
noncomputable def VL:Key->Value->Bool
 | .inl k,v=>Value.isInt k v
 | .inr x,v=>Value.isStrOf x v
noncomputable def Dc (w:World):Key->Int
 | .inl k=>hashInt k
 | .inr x=>hashStr w x
theorem zJ:∀ {k:Key} {v:Value},VL k v=true->(∃ i t,k=Sum.inl i/\v=Value.int i t) \/ (∃ x t,k=Sum.inr x/\v=Value.str x t)
 | .inl i,v,h=>by
  obtain ⟨t,e⟩:=Value.isInt_shape (k:=i) (v:=v) h
  exact .inl ⟨i,t,rfl,e⟩
 | .inr x,v,h=>by
  obtain ⟨t,e⟩:=Value.isStrOf_shape (x:=x) (v:=v) h
  exact .inr ⟨x,t,rfl,e⟩
theorem W9 (a b:Int):decide ((Sum.inl a:Key)=Sum.inl b)=(a == b):=by
 by_cases e:a=b
 ·subst e;simp
 ·have h:¬ (Sum.inl a:Key)=Sum.inl b:=fun q=>e (Sum.inl.inj q)
  rw [decide_eq_false h]
  exact (beq_eq_false_iff_ne.mpr e).symm
theorem Aj (a b:Str):decide ((Sum.inr a:Key)=Sum.inr b)=decide (a=b):=by
 by_cases e:a=b
 ·subst e;simp
 ·have h:¬ (Sum.inr a:Key)=Sum.inr b:=fun q=>e (Sum.inr.inj q)
  rw [decide_eq_false h,decide_eq_false e]
theorem Wq (a:Int)(b:Str):decide ((Sum.inl a:Key)=Sum.inr b)=false:=decide_eq_false (fun q=>nomatch q)
theorem Ak (a:Str)(b:Int):decide ((Sum.inr a:Key)=Sum.inl b)=false:=decide_eq_false (fun q=>nomatch q)
noncomputable def xa (prog:Program)(w:World):PySem.KeyKind prog w Key where
 is:=VL
 hash:=Dc w
 inj:=fun v a b ha hb=>by
  rcases zJ ha with ⟨i,t,rfl,rfl⟩ | ⟨x,t,rfl,rfl⟩
  ·rcases zJ hb with ⟨j,u,rfl,e⟩ | ⟨y,u,rfl,e⟩
   ·injection e with e1 _;rw [e1]
   ·exact nomatch e
  ·rcases zJ hb with ⟨j,u,rfl,e⟩ | ⟨y,u,rfl,e⟩
   ·exact nomatch e
   ·injection e with e1 _;rw [e1]
 byValue:=fun k v h=>by
  rcases zJ h with ⟨i,t,rfl,rfl⟩ | ⟨x,t,rfl,rfl⟩ <;> rfl
 pyHash:=fun hv h=>by
  rcases zJ hv with ⟨i,t,rfl,rfl⟩ | ⟨x,t,rfl,rfl⟩
  ·exact wpAny_pyHash_int h
  ·exact wpAny_pyHash_str h
 eqBool:=fun hu hv h=>by
  rcases zJ hu with ⟨i,t,rfl,rfl⟩ | ⟨x,t,rfl,rfl⟩
  ·rcases zJ hv with ⟨j,u,rfl,rfl⟩ | ⟨y,u,rfl,rfl⟩
   ·rw [W9] at h;exact wpAny_eqBool_int h
   ·rw [Wq] at h;exact SeqAt.EqAt.int_str i t y u _ _ _ _ h
  ·rcases zJ hv with ⟨j,u,rfl,rfl⟩ | ⟨y,u,rfl,rfl⟩
   ·rw [Ak] at h;exact SeqAt.EqAt.str_int x t j u _ _ _ _ h
   ·rw [Aj] at h;exact wpAny_eqBool_str h
 «strs»:=fun k x t v h=>by
  rcases zJ h with ⟨i,u,rfl,e⟩ | ⟨y,u,rfl,e⟩
  ·exact nomatch e
  ·injection e with e1 _
   subst e1
   cases v <;> rfl
inductive V where
 | non | bl (b:Bool) | int (i:Int) | str (x:Str) | byt (b:Array UInt8) | flt (b:UInt64) | ref (a:Addr) | ty (n:String)
 deriving DecidableEq
noncomputable def zr:V->Value->Prop
 | .non,u=>u=Value.none
 | .bl b,u=>u=Value.bool b
 | .int i,u=>∃ t,u=Value.int i t
 | .str x,u=>∃ t,u=Value.str x t
 | .byt b,u=>∃ t,u=Value.bytes b t
 | .flt b,u=>∃ t,u=Value.float b t
 | .ref a,u=>u=Value.ref a
 | .ty n,u=>u=Value.type n
noncomputable abbrev zq:List V->List Value->Prop:=Paired zr
theorem zq.length {xs:List V}{us:List Value}(r:zq xs us):xs.length=us.length:=Paired.length r
theorem zq.get:∀ {xs:List V} {us:List Value} {i:Nat} {x:V},zq xs us->xs[i]?=some x->∃ u,us[i]?=some u/\zr x u
 | _,_,_,_,.nil,e=>by simp at e
 | _,_,0,_,.cons r _,e=>by simp at e;subst e;exact ⟨_,rfl,r⟩
 | _,_,i+1,x,.cons _ t,e=>by
  obtain ⟨u,h1,h2⟩:=zq.get (i:=i) (x:=x) t (by simpa using e)
  exact ⟨u,by simpa using h1,h2⟩
theorem zq.set {x:V}{u:Value}(r:zr x u):∀ {xs:List V} {us:List Value} (i:Nat),zq xs us->zq (xs.set i x) (us.set i u)
 | _,_,_,.nil=>.nil
 | _,_,0,.cons _ t=>.cons r t
 | _,_,i+1,.cons q t=>.cons q (zq.set r i t)
theorem zq.append:∀ {xs ys:List V} {us ws:List Value},zq xs us->zq ys ws->zq (xs ++ ys) (us ++ ws)
 | _,_,_,_,.nil,s=>s
 | _,_,_,_,.cons r t,s=>.cons r (zq.append t s)
theorem zq.take:∀ {xs:List V} {us:List Value} (n:Nat),zq xs us->zq (xs.take n) (us.take n)
 | _,_,0,_=>.nil
 | _,_,_+1,.nil=>.nil
 | _,_,n+1,.cons r t=>.cons r (zq.take n t)
theorem zq.drop:∀ {xs:List V} {us:List Value} (n:Nat),zq xs us->zq (xs.drop n) (us.drop n)
 | _,_,0,r=>r
 | _,_,_+1,.nil=>.nil
 | _,_,n+1,.cons _ t=>zq.drop n t
noncomputable def wj:Option V->Option Value->Prop
 | some v,some u=>zr v u
 | none,none=>True
 | _,_=>False
noncomputable def KV {κ:Type}:List (κ × V)->List (κ × Value)->Prop:=Paired fun (p:κ × V) (q:κ × Value)=>p.1=q.1/\zr p.2 q.2
noncomputable def kV:Key->V
 | .inl i=>.int i
 | .inr x=>.str x
inductive HO where
  | lst (xs:List V)
  | tup (xs:List V)
  | dK (kvs:List (Key × V)) | dT (kvs:List (List Key × V))
  | set (S:Int->Bool) (n:Nat)
  | ins (C dx:Addr) (fs:List (Str × V))
  | own (x:Addr)
  | xd (fs:List (Str × V))
  | met (f x:Addr)
  | rng (lo hi:Int)
  | frz (o:Obj) (u:HO)
  | tbl (ps:Array Value)
  | ext (φ:Heap->Prop)
noncomputable abbrev Hp:=Addr->Option HO
noncomputable def upd (H:Hp)(a:Addr)(o:HO):Hp:=fun b=>if b=a then some o else H b
theorem zh {H:Hp}{a:Addr}{o:HO}:upd H a o a=some o:=by unfold upd;rw [if_pos rfl]
theorem zf {H:Hp}{a b:Addr}{o:HO}(h:b ≠ a):upd H a o b=H b:=by unfold upd;rw [if_neg h]
theorem Z5 {H:Hp}{a b:Addr}{o u:HO}(h:H a=some o)(h':H b=some u)(d:o ≠ u):a ≠ b:=by
 intro e;subst e;rw [h] at h';exact d (Option.some.inj h')
theorem zg {H:Hp}{a b:Addr}{o:HO}(h:H a=some o)(h':H b=none):a ≠ b:=by
 intro e;subst e;rw [h] at h';cases h'
noncomputable def y4 (h:Heap)(a:Addr)(items:Array Value):Prop:=∃ o,h.get? a=some o/\o.cls=.type "tuple"/\(∃ n,o.data=.seq items n)/\o.dict=none
theorem y4.is {h:Heap}{a:Addr}{items:Array Value}(x:y4 h a items):IsTup h a items:=let ⟨o,e,c,n,_⟩:=x;⟨o,e,c,n⟩
theorem y4.lt {h:Heap}{a:Addr}{items:Array Value}(x:y4 h a items):a<h.objs.size:=x.is.lt
theorem y4.new (h:Heap)(items:Array Value):y4 (h.push { cls:=.type "tuple",data:=.seq items }) h.objs.size items:=⟨_,Heap.get?_push_size _ rfl,rfl,⟨_,rfl⟩,rfl⟩
section
variable (P:Program)(w:World)
noncomputable def zQ (H:Hp)(h:Heap)(a:Addr):HO->Prop
  | .lst xs=>xs.length<=sizeLine/\∃ (its:List Value) (n:Nat),zq xs its/\h.get? a=some { cls:=.type "list",data:=.seq its.toArray n }
  | .tup xs=>xs.length<=sizeLine/\∃ its:List Value,zq xs its/\y4 h a its.toArray
  | .dK kvs=>kvs.length<=sizeLine/\(a == sysModules)=false/\∃ vs,KV kvs vs/\h.DictOf (xa P w) a vs
  | .dT kvs => kvs.length <= sizeLine /\ (a == sysModules) = false /\ ∃ xs : List (List Key × Addr × Value),
      Paired (fun (p:List Key × V) (q:List Key × Addr × Value)=>p.1=q.1/\H q.2.1=some (.tup (p.1.map kV))/\zr p.2 q.2.2) kvs xs /\
      ∃ o es ep,h.get? a=some o/\o.ExactDict/\o.data=.dict es ep/\es.toList=xs.map (entryOfKey (tupleKind (xa P w)))/\(xs.map (·.1)).Nodup
  | .set S n=>h.SetOf (intKind P w) a S n
  | .ins C dx fs => H dx = some (.own a) /\ fs.length <= 1000 /\ dx ≠ a /\ h.get? a = some (PySem.W.instObj C dx) /\
      ∃ mA,h.Ns1 dx mA/\(∀ f,wj (fs.lookup f) (mA f))/\PySem.Within mA (fs.map (·.1))
  | .own _=>∃ o,h.get? a=some o
  | .xd fs=>∃ mA,h.Ns1 a mA/\∀ f,wj (fs.lookup f) (mA f)
  | .rng lo hi=>∃ t u v,h.get? a=some { cls:=.type "range",data:=.fields #[.int lo t,.int hi u,.int 1 v] }
  | .frz o u=>h.get? a=some o/\zQ H h a u
  | .tbl ps=>h.get? a=some { cls:=.none,data:=.fields ps }
  | .met f x=>h.get? a=some (PySem.W.methodObj (.ref f) (.ref x))
  | .ext φ=>φ h/\(∃ o,h.get? a=some o)/\∀ h1 h2:Heap,φ h1->(∀ o,h1.get? a=some o->h2.get? a=some o)->φ h2
noncomputable def HOk (H:Hp)(h:Heap):Prop:=∀ a o,H a=some o->zQ P w H h a o
end
section
variable {P:Program}{w:World}{H H':Hp}{h h':Heap}{a:Addr}{o:HO}
theorem zQ.lt (x:zQ P w H h a o):a<h.objs.size:=by
 cases o with
 | lst xs=>obtain ⟨_,_,_,_,e⟩:=x;exact Heap.lt_size e
 | tup xs=>obtain ⟨_,_,_,p⟩:=x;exact p.lt
 | dK kvs=>obtain ⟨_,_,_,_,o,_,_,e,_⟩:=x;exact Heap.lt_size e
 | dT kvs=>obtain ⟨_,_,_,_,o,_,_,e,_⟩:=x;exact Heap.lt_size e
 | set S n=>obtain ⟨o,_,_,_,e,_⟩:=x;exact Heap.lt_size e
 | ins C dx fs=>obtain ⟨_,_,_,e,_⟩:=x;exact Heap.lt_size e
 | own y=>obtain ⟨_,e⟩:=x;exact Heap.lt_size e
 | xd fs=>obtain ⟨_,⟨_,_,_,e,_⟩,_⟩:=x;exact Heap.lt_size e
 | rng lo hi=>obtain ⟨_,_,_,e⟩:=x;exact Heap.lt_size e
 | frz ob u=>obtain ⟨e,_⟩:=x;exact Heap.lt_size e
 | tbl ps=>exact Heap.lt_size (show h.get? a=some _ from x)
 | met f y=>exact Heap.lt_size (show h.get? a=some _ from x)
 | ext φ=>obtain ⟨_,⟨_,e⟩,_⟩:=x;exact Heap.lt_size e
theorem Paired.mapP {α β:Type}{F G:α->β->Prop}:∀ {l₁:List α} {l₂:List β},Paired F l₁ l₂->(∀ a b,F a b->G a b)->Paired G l₁ l₂
 | _,_,.nil,_=>.nil
 | _,_,.cons r t,f=>.cons (f _ _ r) (Paired.mapP t f)
theorem zQ.stay (x:zQ P w H h a o)(k:∀ b u,(b=a \/ H b=some (.own a))->h.get? b=some u->h'.get? b=some u)
  (ho:∀ b,H b=some (.own a)->H' b=some (.own a)) (ht:∀ b xs,H b=some (.tup xs)->H' b=some (.tup xs)):zQ P w H' h' a o:=by
 induction o with
 | lst xs=>obtain ⟨z,its,n,r,e⟩:=x;exact ⟨z,its,n,r,k _ _ (.inl rfl) e⟩
 | tup xs=>obtain ⟨z,its,r,ob,e,c⟩:=x;exact ⟨z,its,r,ob,k _ _ (.inl rfl) e,c⟩
 | dK kvs=>obtain ⟨z,y,vs,r,ob,es,ep,e,c⟩:=x;exact ⟨z,y,vs,r,ob,es,ep,k _ _ (.inl rfl) e,c⟩
 | dT kvs=>
  obtain ⟨z,y,xs,r,ob,es,ep,e,c⟩:=x
  exact ⟨z,y,xs,Paired.mapP r fun p q z=>⟨z.1,ht _ _ z.2.1,z.2.2⟩,ob,es,ep,k _ _ (.inl rfl) e,c⟩
 | set S n=>obtain ⟨ob,es,ep,t,e,c⟩:=x;exact ⟨ob,es,ep,t,k _ _ (.inl rfl) e,c⟩
 | ins C dx fs=>
  obtain ⟨d,z,ne,e,mA,⟨od,es,ep,e2,c⟩,r⟩:=x
  exact ⟨ho _ d,z,ne,k _ _ (.inl rfl) e,mA,⟨od,es,ep,k _ _ (.inr d) e2,c⟩,r⟩
 | own y=>obtain ⟨ob,e⟩:=x;exact ⟨ob,k _ _ (.inl rfl) e⟩
 | xd fs=>obtain ⟨mA,⟨od,es,ep,e,c⟩,r⟩:=x;exact ⟨mA,⟨od,es,ep,k _ _ (.inl rfl) e,c⟩,r⟩
 | rng lo hi=>obtain ⟨t,u,v,e⟩:=x;exact ⟨t,u,v,k _ _ (.inl rfl) e⟩
 | frz ob u ih=>obtain ⟨e,q⟩:=x;exact ⟨k _ _ (.inl rfl) e,ih q⟩
 | tbl ps=>
  have e:h.get? a=some { cls:=.none,data:=.fields ps }:=x
  show h'.get? a=some { cls:=.none,data:=.fields ps }
  exact k a _ (.inl rfl) e
 | met f y=>
  have e:h.get? a=some (PySem.W.methodObj (.ref f) (.ref y)):=x
  show h'.get? a=some (PySem.W.methodObj (.ref f) (.ref y))
  exact k a _ (.inl rfl) e
 | ext φ=>obtain ⟨p,⟨o,e⟩,st⟩:=x;exact ⟨st _ _ p fun o q=>k _ _ (.inl rfl) q,⟨o,k _ _ (.inl rfl) e⟩,st⟩
theorem HOk.lt (x:HOk P w H h)(e:H a=some o):a<h.objs.size:=(x a o e).lt
theorem HOk.fresh (x:HOk P w H h)(e:h.objs.size<=a):H a=none:=by
 cases q:H a with
 | none=>rfl
 | some u=>exact absurd (Nat.lt_of_lt_of_le (x.lt q) e) (Nat.lt_irrefl _)
theorem HOk.kept (x:HOk P w H h)(k:∀ b u,h.get? b=some u->h'.get? b=some u):HOk P w H h':=fun a o e=>
 (x a o e).stay (fun b u _ q=>k b u q) (fun _ q=>q) fun _ _ q=>q
theorem HOk.laid (x:HOk P w H h)(k:∀ b u,h.get? b=some u->h'.get? b=some u)(hp:h.objs.size<=a)(new:zQ P w (upd H a o) h' a o):HOk P w (upd H a o) h':=fun b u e=>by
 have hn:=x.fresh hp
 by_cases hb:b=a
 ·subst hb;rw [zh] at e;cases e;exact new
 ·rw [zf hb] at e
  exact (x b u e).stay (fun c v _ q=>k c v q) (fun c q=>by rw [zf (zg q hn)];exact q) fun c xs q=>by rw [zf (zg q hn)];exact q
end
noncomputable def Rd (H:Hp)(a:Addr)(u:HO):Prop:=H a=some u \/ ∃ o,H a=some (.frz o u)
theorem Rd.ok {P:Program}{w:World}{H:Hp}{h:Heap}{a:Addr}{u:HO}(r:Rd H a u)(x:HOk P w H h):zQ P w H h a u:=by
 rcases r with r | ⟨o,r⟩
 ·exact x a u r
 ·obtain ⟨_,q⟩:=x a _ r
  exact q
noncomputable def Mut:Option HO->Prop
 | some (.lst _)=>True
 | some (.dK _)=>True
 | some (.dT _)=>True
 | some (.set _ _)=>True
 | some (.ins _ _ _)=>True
 | some (.ext _)=>True
 | _=>False
section
variable {P:Program}{w:World}{H:Hp}{h h':Heap}{x e:Addr}{o':HO}
theorem HOk.write (ok : HOk P w H h)(mu : Mut (H x))(he : e = x \/ H e = some (.own x))(k : ∀ b u, b ≠ e -> h.get? b = some u -> h'.get? b = some u)(heo : ∃ u, h'.get? e = some u)
    (new:zQ P w (upd H x o') h' x o'):HOk P w (upd H x o') h':=fun b u q=>by
  have nown:∀ c y,H c=some (.own y)->c ≠ x:=fun c y r z=>by subst z;rw [r] at mu;exact mu
  have ntup:∀ c xs,H c=some (.tup xs)->c ≠ x:=fun c xs r z=>by subst z;rw [r] at mu;exact mu
  by_cases hb:b=x
  · subst hb;rw [zh] at q;cases q;exact new
  · rw [zf hb] at q
    by_cases hbe:b=e
    · have q' : H b = some (.own x) := by
        rcases he with z | z
        · exact absurd (hbe.trans z) hb
        · rw [hbe];exact z
      rw [q] at q';cases q'
      obtain ⟨v,hv⟩:=heo
      exact ⟨v,by rw [hbe];exact hv⟩
    · refine (ok b u q).stay (fun c v hc r=>k c v ?_ r) (fun c r=>by rw [zf (nown c b r)];exact r) fun c xs r=>by rw [zf (ntup c xs r)];exact r
      rcases hc with rfl | hc
      · exact hbe
      · rintro rfl
        rcases he with z | z
        · exact nown c b hc z
        · rw [hc] at z;cases z;exact hb rfl
end
structure Un (fs ex:List Addr)(H H':Hp)(h h':Heap):Prop where
 keep:∀ b o,h.get? b=some o->H b=none->b ∉ fs->b ∉ ex->h'.get? b=some o
 slot:∀ b o,h.get? b=some o->H b=none->b ∈ fs->b ∉ ex->∃ sl,h'.get? b=some { o with slots:=sl }
 free:∀ b o,h.get? b=some o->H b=none->b ∉ ex->H' b=none
 there:∀ b o,h.get? b=some o->b ∉ ex->∃ o',h'.get? b=some o'
 tups:∀ b xs,H b=some (.tup xs)->H' b=some (.tup xs)
 frzs:∀ b o u,H b=some (.frz o u)->H' b=some (.frz o u)
 tbls:∀ b ps,H b=some (.tbl ps)->∃ more,H' b=some (.tbl (ps ++ more))
section
variable {fs fs' ex ex':List Addr}{H H1 H2:Hp}{h h1 h2 h':Heap}{a x e:Addr}{o:HO}
theorem Un.any (u:Un fs ex H H1 h h1){b:Addr}{ob:Obj}(q:h.get? b=some ob)(n:H b=none)(hx:b ∉ ex):∃ sl,h1.get? b=some { ob with slots:=sl }:=by
 by_cases hb:b ∈ fs
 ·exact u.slot b ob q n hb hx
 ·exact ⟨ob.slots,u.keep b ob q n hb hx⟩
theorem Un.kept (k:∀ b u,h.get? b=some u->h'.get? b=some u):Un fs ex H H h h':=
 ⟨fun b ob q _ _ _=>k b ob q,fun b ob q _ _ _=>⟨ob.slots,k b ob q⟩,fun _ _ _ n _=>n,fun b ob q _=>⟨ob,k b ob q⟩,fun _ _ q=>q,fun _ _ _ q=>q,fun _ ps q=>⟨#[],by rw [q];simp⟩⟩
theorem Un.refl:Un fs ex H H h h:=Un.kept fun _ _ q=>q
theorem Un.laid (k:∀ b u,h.get? b=some u->h'.get? b=some u)(hp:h.objs.size<=a)(hn:H a=none):Un fs ex H (upd H a o) h h' where
 keep:=fun b u q _ _ _=>k b u q
 slot:=fun b u q _ _ _=>⟨u.slots,k b u q⟩
 free:=fun b u q n _=>by rw [zf (Nat.ne_of_lt (Nat.lt_of_lt_of_le (Heap.lt_size q) hp))];exact n
 there:=fun b u q _=>⟨u,k b u q⟩
 tups:=fun b xs q=>by rw [zf (zg q hn)];exact q
 frzs:=fun b u xs q=>by rw [zf (zg q hn)];exact q
 tbls:=fun b ps q=>⟨#[],by rw [zf (zg q hn),q];simp⟩
theorem Un.write (mu:Mut (H x))(he:e=x \/ H e=some (.own x))(k:∀ b u,b ≠ e->h.get? b=some u->h'.get? b=some u)(heo:∃ u,h'.get? e=some u):Un fs ex H (upd H x o) h h':=by
 have hx:∀ b,H b=none->b ≠ x:=fun b n z=>by subst z;rw [n] at mu;exact mu
 have hb:∀ b,H b=none->b ≠ e:=fun b n z=>by
  subst z
  rcases he with r | r
  ·exact hx b n r
  ·rw [n] at r;cases r
 have hm:∀ b u,H b=some u->¬ Mut (some u)->b ≠ x:=fun b u q nm z=>by subst z;rw [q] at mu;exact nm mu
 refine ⟨fun b u q n _ _=>k b u (hb b n) q,fun b u q n _ _=>⟨u.slots,k b u (hb b n) q⟩,fun b u q n _=>by rw [zf (hx b n)];exact n,fun b u q _=>?_,
  fun b xs q=>by rw [zf (hm b _ q fun z=>z)];exact q,fun b u xs q=>by rw [zf (hm b _ q fun z=>z)];exact q,fun b ps q=>⟨#[],by rw [zf (hm b _ q fun z=>z),q];simp⟩⟩
 by_cases hbe:b=e
 ·subst hbe;exact heo
 ·exact ⟨u,k b u hbe q⟩
end
noncomputable def trk (h:Heap)(H:Hp):List Addr:=(List.range h.objs.size).filter fun a=>(H a).isSome
noncomputable def yL (h:Heap)(H:Hp):Heap:=PySem.W.hideAll h (trk h H)
theorem QC (h:Heap)(H:Hp):(yL h H).objs.size=h.objs.size:=PySem.W.hideAll_size _ _
theorem Ku {h:Heap}{H:Hp}{b:Addr}{o:Obj}(e:h.get? b=some o)(n:H b=none):(yL h H).get? b=some o:=
 PySem.W.hideAll_get _ e fun hm=>by
  have q:(H b).isSome=true:=(List.mem_filter.mp hm).2
  rw [n] at q;simp at q
theorem XU {h:Heap}{H:Hp}{b:Addr}{o:Obj}(e:(yL h H).get? b=some o):h.get? b=some o/\H b=none:=by
 have e':h.get? b=some o:=PySem.W.of_hideAll (trk h H) e
 refine ⟨e',?_⟩
 cases q:H b with
 | none=>rfl
 | some x=>
  have hm:b ∈ trk h H:=List.mem_filter.mpr ⟨List.mem_range.mpr (Heap.lt_size e'),by simp [q]⟩
  have z:(yL h H).get? b=none:=PySem.W.hideAll_none (trk h H) hm
  rw [z] at e;cases e
noncomputable def X6 (g h:Heap)(L:Addr):List (Addr × Obj):=(List.range h.objs.size).filterMap fun a=>if a=L \/ (g.get? a).isSome=true then none else (h.get? a).map fun o=>(a,o)
noncomputable def qf (g h:Heap)(L d:Addr):List (Addr × Obj):=(X6 g h L).filter fun p=>decide (p.1 ≠ d)
structure Mod (K:PySem.W.Frag)(mg:Str->Option Value)(base:Heap):Prop where
 kin:K.In base
 glob:base.Ns mainGlobals mg
 blt:∃ mb,base.Ns builtinsNs mb/\∀ x:Str,x ≠ "__name__"->mb x=bootBuiltins x
 nolimit:base.NoLimit
structure Cx where
 prog:Program
 w:World
 K:PySem.W.Frag
 mg:Str->Option Value
 base:Heap
 A:Around
 N:List Str
 s₀:Shared
 H₀:Hp
 env:Env
 outer:List Env
 stack:List Env
 ex:List Addr
 fn:Str->Bool
 calm:Bool
 pn:List (Addr × Obj)
 xe:Value->Shared->Prop
noncomputable def frs (l:List Env):List Addr:=l.filterMap (·.frame)
noncomputable abbrev Cx.fs (X:Cx):List Addr:=frs X.outer
noncomputable def Vis (sc:Scope)(x:Str):Prop:=sc.names.lookup x=some .local \/ sc.names.lookup x=some .cell \/ sc.names.lookup x=some .free
noncomputable def Loc (sc:Scope)(x:Str):Prop:=sc.names.lookup x=some .local \/ sc.names.lookup x=some .cell
noncomputable def Dn (env:Env)(h:Heap)(m:Str->Option Value)(x:Str)(u:Value):Prop:=
 (env.kindOf x=some .local/\m x=some u) \/ ((env.kindOf x=some .cell \/ env.kindOf x=some .free)/\∃ c,env.cells.lookup x=some c/\h.IsCell c (some u))
structure Cx.Ok (X:Cx):Prop where
 mod:Mod X.K X.mg X.base
 kind:X.env.scope.kind=.function
 glob:X.env.globals=mainGlobals
 blt:X.env.builtins=builtinsNs
 above:X.s₀.heap.objs.size<=X.env.locals
 inj:∀ x y c,X.env.cells.lookup x=some c->X.env.cells.lookup y=some c->x=y
 has:∀ x,(X.env.kindOf x=some .cell \/ X.env.kindOf x=some .free)->∃ c,X.env.cells.lookup x=some c
 cab:∀ x c,X.fn x=true->X.env.cells.lookup x=some c->X.s₀.heap.objs.size<=c
 hd:X.calm=true->X.A.handled=none
 frames:X.A.frames=some X.stack
 stk:X.stack=X.outer \/ (X.stack=X.env :: X.outer/\X.env.frame=some X.env.locals)
 exf:∀ b ∈ X.ex,b ≠ X.env.locals/\∀ x c,X.env.cells.lookup x=some c->c ≠ b
 bs:∀ b o,X.base.get? b=some o->X.s₀.heap.get? b=some o/\X.H₀ b=none
 bsz:X.base.objs.size<=X.s₀.heap.objs.size
 noex:∀ b o,X.base.get? b=some o->b ∉ X.ex
 exfs:∀ b ∈ X.ex,b ∉ X.fs
 funs:X.s₀.heap.FunFrames X.base X.outer
 frf:∀ b ∈ X.fs,X.H₀ b=none
structure Inv (X:Cx)(pins:List (Addr × Obj))(σ:List (Option V))(H:Hp)(s:Shared):Prop where
 ok:X.Ok
 os:s.os=X.s₀.os
 bare:AllBare s.gens
 base:Un X.fs X.ex X.H₀ H X.s₀.heap s.heap
 loc:∃ m,s.heap.Ns X.env.locals m/\∀ (i:Nat) (x:Str) (v:V),X.N[i]?=some x->σ[i]?=some (some v)->Vis X.env.scope x->∃ u,zr v u/\Dn X.env s.heap m x u
 cell:∀ x c,X.env.cells.lookup x=some c->∃ v,s.heap.IsCell c v
 free:H X.env.locals=none
 freeC:∀ x c,X.env.cells.lookup x=some c->H c=none
 pin:∀ p ∈ X.pn ++ pins,s.heap.get? p.1=some p.2/\H p.1=none/\p.1 ≠ X.env.locals/\p.1 ∉ X.fs/\∀ v,p.2.data ≠ .cell v
 hok:HOk X.prog X.w H s.heap
 len:σ.length=X.N.length
section
variable {X:Cx}{pins:List (Addr × Obj)}{σ:List (Option V)}{H H':Hp}{s:Shared}{h':Heap}
theorem Cx.Ok.nofr (ok:X.Ok){b:Addr}{o:Obj}(e:X.base.get? b=some o):b ∉ X.fs:=fun hb=>by
 have:=(ok.funs.mem hb).1
 rw [e] at this;cases this
theorem Inv.bs (I:Inv X pins σ H s):∀ b o,X.base.get? b=some o->s.heap.get? b=some o/\H b=none:=fun b o e=>
 ⟨I.base.keep b o (I.ok.bs b o e).1 (I.ok.bs b o e).2 (I.ok.nofr e) (I.ok.noex b o e),I.base.free b o (I.ok.bs b o e).1 (I.ok.bs b o e).2 (I.ok.noex b o e)⟩
theorem Inv.bk (I:Inv X pins σ H s):∀ b o,X.base.get? b=some o->s.heap.get? b=some o:=fun b o e=>(I.bs b o e).1
theorem Inv.mod (I:Inv X pins σ H s):Mod X.K X.mg X.base:=I.ok.mod
theorem Inv.kIn (I:Inv X pins σ H s):X.K.In s.heap:=I.ok.mod.kin.keeps I.bk
theorem Inv.lt (I:Inv X pins σ H s):X.env.locals<s.heap.objs.size:=let ⟨_,hn,_⟩:=I.loc;hn.lt
theorem Inv.sz (I:Inv X pins σ H s):X.s₀.heap.objs.size<=s.heap.objs.size:=Nat.le_trans I.ok.above (Nat.le_of_lt I.lt)
theorem Inv.nofs (I:Inv X pins σ H s){a:Addr}(h:s.heap.objs.size<=a):a ∉ X.fs:=fun hb=>by
 obtain ⟨_,o,ho,_⟩:=I.ok.funs.mem hb
 exact absurd (Nat.lt_of_lt_of_le (Heap.lt_size ho) (Nat.le_trans I.sz h)) (Nat.lt_irrefl _)
theorem Inv.cne (I:Inv X pins σ H s):∀ x c,X.env.cells.lookup x=some c->c ≠ X.env.locals:=fun x c e z=>by
 obtain ⟨v,o,ho,hd⟩:=I.cell x c e
 obtain ⟨m,⟨o',es,ep,ho',hd',_⟩,_⟩:=I.loc
 rw [z,ho'] at ho;cases ho;rw [hd'] at hd;cases hd
theorem Inv.funs (I:Inv X pins σ H s):s.heap.FunFrames X.base X.outer:=by
 have all:∀ (l:List Env),(∀ b ∈ frs l,b ∈ X.fs)->X.s₀.heap.FunFrames X.base l->s.heap.FunFrames X.base l:=by
  intro l
  induction l with
  | nil=>intro _ _;trivial
  | cons env r ih=>
   intro hs hl
   obtain ⟨hk,⟨L,o,hf,hn,ho,hd⟩,hr⟩:=hl
   have hL:L ∈ X.fs:=hs L (by unfold frs;rw [List.filterMap_cons,hf];exact List.mem_cons_self)
   obtain ⟨sl,e⟩:=I.base.slot L o ho (I.ok.frf L hL) hL fun z=>I.ok.exfs L z hL
   exact ⟨hk,⟨L,_,hf,hn,e,hd⟩,ih (fun b hb=>hs b (by unfold frs;rw [List.filterMap_cons,hf];exact List.mem_cons_of_mem _ hb)) hr⟩
 exact all X.outer (fun _ hb=>hb) I.ok.funs
theorem Inv.stack (I:Inv X pins σ H s):s.heap.FunFrames X.base X.stack:=by
 rcases I.ok.stk with e | ⟨e,hf⟩
 ·rw [e];exact I.funs
 ·rw [e]
  obtain ⟨m,hn,_⟩:=I.loc
  refine .cons (by rw [I.ok.kind];decide) hf hn ?_ I.funs
  exact Heap.get?_none_of_le (Nat.le_trans I.ok.bsz I.ok.above)
theorem Inv.stkSub (I:Inv X pins σ H s):∀ b ∈ frs X.stack,b ∈ X.env.locals :: X.fs:=fun b hb=>by
 rcases I.ok.stk with e | ⟨e,hf⟩
 ·rw [e] at hb;exact List.mem_cons_of_mem _ hb
 ·rw [e] at hb
  unfold frs at hb
  rw [List.filterMap_cons,hf] at hb
  exact hb
theorem Inv.stkFree (I:Inv X pins σ H s):∀ b ∈ frs X.stack,H b=none:=fun b hb=>by
 rcases List.mem_cons.mp (I.stkSub b hb) with e | hb
 ·rw [e];exact I.free
 ·obtain ⟨_,o,ho,_⟩:=I.ok.funs.mem hb
  exact I.base.free b o ho (I.ok.frf b hb) fun z=>I.ok.exfs b z hb
theorem Inv.step {g':Array GenState}{t':Nat}{d':Drawn}{ch:List Addr}(I:Inv X pins σ H s)
  (hch:∀ b ∈ ch,(b ∈ X.ex \/ X.s₀.heap.objs.size<=b)/\b ≠ X.env.locals/\(∀ x c,X.env.cells.lookup x=some c->c ≠ b)/\∀ p ∈ X.pn ++ pins,p.1 ≠ b)
  (keep:∀ b o,b ≠ X.env.locals->b ∉ X.fs->b ∉ ch->s.heap.get? b=some o->H b=none->h'.get? b=some o)
  (slot:∀ b o,b ≠ X.env.locals->b ∈ X.fs->b ∉ ch->s.heap.get? b=some o->H b=none->∃ sl,h'.get? b=some { o with slots:=sl }) (free:∀ b o,b ∉ ch->s.heap.get? b=some o->H b=none->H' b=none)
  (there:∀ b o,b ∉ ch->s.heap.get? b=some o->∃ o',h'.get? b=some o')
  (tups:∀ b xs,H b=some (.tup xs)->H' b=some (.tup xs)) (frzs:∀ b o u,H b=some (.frz o u)->H' b=some (.frz o u)) (tbls:∀ b ps,H b=some (.tbl ps)->∃ more,H' b=some (.tbl (ps ++ more)))
  (ns:∀ m,s.heap.Ns X.env.locals m->h'.Ns X.env.locals m) (hok:HOk X.prog X.w H' h') (hg:AllBare g') :
  Inv X pins σ H' { s with heap:=h',gens:=g',drawn:=d',toks:=t' }:=by
 have neL:∀ b o,X.s₀.heap.get? b=some o->b ≠ X.env.locals:=fun b o e=>Nat.ne_of_lt (Nat.lt_of_lt_of_le (Heap.lt_size e) I.ok.above)
 have neC:∀ b o,X.s₀.heap.get? b=some o->b ∉ X.ex->b ∉ ch:=fun b o e hx hb=>by
  rcases (hch b hb).1 with z | z
  ·exact hx z
  ·exact absurd (Nat.lt_of_lt_of_le (Heap.lt_size e) z) (Nat.lt_irrefl _)
 have cellK:∀ x c,X.env.cells.lookup x=some c->∀ v,s.heap.IsCell c v->h'.IsCell c v:=fun x c e v ⟨o,ho,hd⟩=>by
  have nch:c ∉ ch:=fun z=>(hch c z).2.2.1 x c e rfl
  by_cases hc:c ∈ X.fs
  ·obtain ⟨sl,q⟩:=slot c o (I.cne x c e) hc nch ho (I.freeC x c e)
   exact ⟨_,q,hd⟩
  ·exact ⟨o,keep c o (I.cne x c e) hc nch ho (I.freeC x c e),hd⟩
 refine ⟨I.ok,I.os,hg,⟨fun b o e n hb hx=>?_,fun b o e n hb hx=>?_,fun b o e n hx=>?_,fun b o e hx=>?_,fun b xs e=>tups b xs (I.base.tups b xs e),fun b o xs e=>frzs b o xs (I.base.frzs b o xs e),fun b ps e=>?_⟩,?_,fun x c e=>?_,?_,fun x c e=>?_,fun p hp=>?_,hok,I.len⟩
 ·exact keep b o (neL b o e) hb (neC b o e hx) (I.base.keep b o e n hb hx) (I.base.free b o e n hx)
 ·obtain ⟨sl,e1⟩:=I.base.slot b o e n hb hx
  obtain ⟨sl',e2⟩:=slot b _ (neL b o e) hb (neC b o e hx) e1 (I.base.free b o e n hx)
  exact ⟨sl',e2⟩
 ·obtain ⟨o',e1⟩:=I.base.there b o e hx
  exact free b o' (neC b o e hx) e1 (I.base.free b o e n hx)
 ·obtain ⟨o',e1⟩:=I.base.there b o e hx
  exact there b o' (neC b o e hx) e1
 ·obtain ⟨m1,e1⟩:=I.base.tbls b ps e
  obtain ⟨m2,e2⟩:=tbls b _ e1
  exact ⟨m1 ++ m2,by rw [e2,Array.append_assoc]⟩
 ·obtain ⟨m,hn,hl⟩:=I.loc
  refine ⟨m,ns m hn,fun i x v e1 e2 e3=>?_⟩
  obtain ⟨u,r,l⟩:=hl i x v e1 e2 e3
  refine ⟨u,r,?_⟩
  rcases l with l | ⟨k,c,e,z⟩
  ·exact .inl l
  ·exact .inr ⟨k,c,e,cellK x c e _ z⟩
 ·obtain ⟨v,z⟩:=I.cell x c e
  exact ⟨v,cellK x c e v z⟩
 ·obtain ⟨m,⟨o,_,_,ho,_⟩,_⟩:=I.loc
  exact free _ o (fun z=>(hch _ z).2.1 rfl) ho I.free
 ·obtain ⟨v,o,ho,hd⟩:=I.cell x c e
  exact free c o (fun z=>(hch c z).2.2.1 x c e rfl) ho (I.freeC x c e)
 ·obtain ⟨e,n,ne,nf,d⟩:=I.pin p hp
  have nch:p.1 ∉ ch:=fun z=>(hch p.1 z).2.2.2 p hp rfl
  exact ⟨keep p.1 p.2 ne nf nch e n,free p.1 p.2 nch e n,ne,nf,d⟩
theorem Inv.un {t':Nat}(I:Inv X pins σ H s)(u:Un X.fs [] H H' s.heap h')(hok:HOk X.prog X.w H' h'):Inv X pins σ H' { s with heap:=h',toks:=t' }:=by
 obtain ⟨m,⟨o,es,ep,ho,r⟩,_⟩:=id I.loc
 obtain ⟨sl,hL⟩:=u.any ho I.free (by simp)
 exact I.step (g':=s.gens) (d':=s.drawn) (ch:=[]) (fun _ z=>nomatch z) (fun b o _ hb _ e n=>u.keep b o e n hb (by simp)) (fun b o _ hb _ e n=>u.slot b o e n hb (by simp)) (fun b o _ e n=>u.free b o e n (by simp)) (fun b o _ e=>u.there b o e (by simp)) u.tups u.frzs u.tbls (fun m' hm=>by
  obtain ⟨o',es',ep',ho',r'⟩:=hm
  rw [ho] at ho';cases ho'
  exact ⟨_,es',ep',hL,r'⟩) hok I.bare
theorem Inv.call {g':Array GenState}{t':Nat}{d':Drawn}{ch:List Addr}(I:Inv X pins σ H s)(u:Un (frs X.stack) ch H H' s.heap h')(hok:HOk X.prog X.w H' h')(hg:AllBare g')
  (hch:∀ b ∈ ch,(b ∈ X.ex \/ X.s₀.heap.objs.size<=b)/\b ≠ X.env.locals/\(∀ x c,X.env.cells.lookup x=some c->c ≠ b)/\∀ p ∈ X.pn ++ pins,p.1 ≠ b) :
  Inv X pins σ H' { s with heap:=h',gens:=g',drawn:=d',toks:=t' }:=by
 obtain ⟨m,⟨o,es,ep,ho,r⟩,_⟩:=id I.loc
 obtain ⟨sl,hL⟩:=u.any ho I.free fun z=>(hch _ z).2.1 rfl
 exact I.step (ch:=ch) hch (fun b o hL hb hc e n=>u.keep b o e n (fun z=>(List.mem_cons.mp (I.stkSub b z)).elim hL hb) hc) (fun b o _ _ hc e n=>u.any e n hc) (fun b o hc e n=>u.free b o e n hc) (fun b o hc e=>u.there b o e hc) u.tups u.frzs u.tbls (fun m' hm=>by
  obtain ⟨o',es',ep',ho',r'⟩:=hm
  rw [ho] at ho';cases ho'
  exact ⟨_,es',ep',hL,r'⟩) hok hg
theorem Inv.turned {t':Nat}{it:Addr}(I:Inv X pins σ H s)(k:∀ b o,b ≠ it->s.heap.get? b=some o->h'.get? b=some o)(hn:H it=none)(hL:it ≠ X.env.locals)
  (h1:it ∈ X.ex \/ X.s₀.heap.objs.size<=it) (h2:∀ x c,X.env.cells.lookup x=some c->c ≠ it) (h3:∀ p ∈ X.pn ++ pins,p.1 ≠ it):Inv X pins σ H { s with heap:=h',toks:=t' }:=by
 have nit:∀ b u,H b=some u->b ≠ it:=fun b u e z=>by rw [z,hn] at e;cases e
 refine I.step (g':=s.gens) (d':=s.drawn) (ch:=[it]) (fun b hb=>?_) (fun b o _ _ hc e _=>k b o (fun z=>hc (by simp [z])) e) (fun b o _ _ hc e _=>⟨o.slots,k b o (fun z=>hc (by simp [z])) e⟩) (fun _ _ _ _ n=>n)
  (fun b o hc e=>⟨o,k b o (fun z=>hc (by simp [z])) e⟩) (fun _ _ e=>e) (fun _ _ _ e=>e) (fun b ps e=>⟨#[],by rw [e];simp⟩) (fun m hm=>?_) (fun b u e=>?_) I.bare
 ·have e:b=it:=by simpa using hb
  subst e
  exact ⟨h1,hL,h2,h3⟩
 ·obtain ⟨o,es,ep,ho,r⟩:=hm
  exact ⟨o,es,ep,k _ o (Ne.symm hL) ho,r⟩
 ·refine (I.hok b u e).stay (fun c v hc q=>k c v ?_ q) (fun _ q=>q) fun _ _ q=>q
  rcases hc with z | z
  ·rw [z];exact nit b u e
  ·exact nit c _ z
theorem Inv.tok (I:Inv X pins σ H s)(t:Nat):Inv X pins σ H { s with toks:=t }:=I.un (h':=s.heap) (t':=t) Un.refl I.hok
theorem Inv.kept {t':Nat}(I:Inv X pins σ H s)(k:∀ b u,s.heap.get? b=some u->h'.get? b=some u):Inv X pins σ H { s with heap:=h',toks:=t' }:=I.un (Un.kept k) (I.hok.kept k)
theorem Inv.laid {a:Addr}{o:HO}{t':Nat}(I:Inv X pins σ H s)(k:∀ b u,s.heap.get? b=some u->h'.get? b=some u)(hp:s.heap.objs.size<=a)(new:zQ X.prog X.w (upd H a o) h' a o) :
  Inv X pins σ (upd H a o) { s with heap:=h',toks:=t' }:=I.un (Un.laid k hp (I.hok.fresh hp)) (I.hok.laid k hp new)
theorem Inv.write {x e:Addr}{o:HO}{t':Nat}(I:Inv X pins σ H s)(mu:Mut (H x))(he:e=x \/ H e=some (.own x))(k:∀ b u,b ≠ e->s.heap.get? b=some u->h'.get? b=some u)(heo:∃ u,h'.get? e=some u)
  (new:zQ X.prog X.w (upd H x o) h' x o):Inv X pins σ (upd H x o) { s with heap:=h',toks:=t' }:=I.un (Un.write mu he k heo) (I.hok.write mu he k heo new)
theorem Inv.pins_of {pins':List (Addr × Obj)}(I:Inv X pins σ H s)(h:∀ p ∈ pins',s.heap.get? p.1=some p.2/\H p.1=none/\p.1 ≠ X.env.locals/\p.1 ∉ X.fs/\∀ v,p.2.data ≠ .cell v):Inv X pins' σ H s:=
 ⟨I.ok,I.os,I.bare,I.base,I.loc,I.cell,I.free,I.freeC,fun p hp=>(List.mem_append.mp hp).elim (fun z=>I.pin p (List.mem_append_left _ z)) (h p),I.hok,I.len⟩
theorem vH {N:List Str}(hN:N.Nodup){i j:Nat}{x:Str}(a:N[i]?=some x)(b:N[j]?=some x):i=j:=by
 obtain ⟨h1,e1⟩:=List.getElem?_eq_some_iff.mp a
 obtain ⟨h2,e2⟩:=List.getElem?_eq_some_iff.mp b
 exact (List.getElem_inj hN).mp (e1.trans e2.symm)
theorem Q1 {M : Model}{A : Around}{E : Value -> Shared -> Prop}{i : Nat}{x : Str}{v : V}{u : Value}{Q : Unit -> Shared -> Prop}(I : Inv X pins σ H s)(hN : X.N.Nodup)(hi : X.N[i]? = some x)(hx : Loc X.env.scope x)(r : zr v u)
    (h:∀ s',Inv X pins (σ.set i (some v)) H s'->(∃ a,Heap.SameBut a s.heap s'.heap/\(a=X.env.locals \/ X.env.cells.lookup x=some a))->Q () s') (hf:X.fn x=true \/ X.env.scope.names.lookup x=some .local:=by first | exact .inl rfl | exact .inr rfl | assumption):wpAny M A (storeName X.env x u) Q E s:=by
  obtain ⟨m,hn,hl⟩:=id I.loc
  have hcls:(X.env.scope.kind == .class || (X.env.scope.kind == .module && X.env.locals != X.env.globals))=false:=by rw [I.ok.kind];rfl
  have hiσ:i<σ.length:=by rw [I.len];exact (List.getElem?_eq_some_iff.mp hi).1
  have cne:=I.cne
  have tracked:∀ {a:Addr} {h':Heap},(∃ o,s.heap.get? a=some o/\H a=none)->Heap.SameBut a s.heap h'->HOk X.prog X.w H h':=fun {a h'} ha hs b ob e=>by
    obtain ⟨_,_,hfree⟩:=ha
    refine (I.hok b ob e).stay (fun c w' hc q=>(hs.2 c ?_).trans q) (fun _ q=>q) fun _ _ q=>q
    rintro rfl
    rcases hc with rfl | hc
    · rw [hfree] at e;cases e
    · rw [hfree] at hc;cases hc
  rcases hx with hk | hk
  · refine wpAny_storeName_local hk hn (fun h' hn' hs=>?_) hcls
    obtain ⟨oL,_,_,hoL,_⟩:=id hn
    refine h _ ⟨I.ok,I.os,I.bare,⟨fun b o e n hb hx=>?_,fun b o e n hb hx=>?_,I.base.free,fun b o e hx=>?_,I.base.tups,I.base.frzs,I.base.tbls⟩,⟨_,hn',fun j y v' e1 e2 e3=>?_⟩,fun y c e=>?_,I.free,I.freeC,fun p hp=>?_,tracked ⟨oL,hoL,I.free⟩ hs,by simpa using I.len⟩ ⟨_,hs,.inl rfl⟩
    · exact (hs.2 b (Nat.ne_of_lt (Nat.lt_of_lt_of_le (Heap.lt_size e) I.ok.above))).trans (I.base.keep b o e n hb hx)
    · obtain ⟨sl,e1⟩:=I.base.slot b o e n hb hx
      exact ⟨sl,(hs.2 b (Nat.ne_of_lt (Nat.lt_of_lt_of_le (Heap.lt_size e) I.ok.above))).trans e1⟩
    · obtain ⟨o',e1⟩:=I.base.there b o e hx
      exact ⟨o',(hs.2 b (Nat.ne_of_lt (Nat.lt_of_lt_of_le (Heap.lt_size e) I.ok.above))).trans e1⟩
    · by_cases hj:j=i
      · subst hj
        rw [hi] at e1;cases e1
        rw [List.getElem?_set_self hiσ] at e2
        cases e2
        exact ⟨u,r,.inl ⟨hk,by simp⟩⟩
      · rw [List.getElem?_set_ne (Ne.symm hj)] at e2
        obtain ⟨u',r',q⟩:=hl j y v' e1 e2 e3
        refine ⟨u',r',?_⟩
        rcases q with ⟨k,e⟩ | ⟨k,c,e,z⟩
        · refine .inl ⟨k,?_⟩
          have:y ≠ x:=fun e=>hj (vH hN e1 (e ▸ hi))
          simp [this,e]
        · exact .inr ⟨k,c,e,z.sameBut hs (cne y c e)⟩
    · obtain ⟨w',z⟩:=I.cell y c e
      exact ⟨w',z.sameBut hs (cne y c e)⟩
    · obtain ⟨e,n,ne,nf,d⟩:=I.pin p hp
      exact ⟨(hs.2 p.1 ne).trans e,n,ne,nf,d⟩
  · have hfn : X.fn x = true := by
      rcases hf with z | z
      · exact z
      · rw [z] at hk;cases hk
    obtain ⟨c,hc⟩:=I.ok.has x (.inl hk)
    obtain ⟨w',z⟩:=I.cell x c hc
    refine wpAny_storeName_cell I.ok.kind hk hc z (fun h' hc' hs=>?_)
    obtain ⟨oc,hoc,hocd⟩:=id z
    refine h { s with heap:=h' } ⟨I.ok,I.os,I.bare,⟨fun b o e n hb hx=>?_,fun b o e n hb hx=>?_,I.base.free,fun b o e hx=>?_,I.base.tups,I.base.frzs,I.base.tbls⟩,⟨m,hn.sameBut hs (Ne.symm (cne x c hc)),fun j y v' e1 e2 e3=>?_⟩,fun y c' e=>?_,I.free,I.freeC,fun p hp=>?_,tracked ⟨oc,hoc,I.freeC x c hc⟩ hs,by simpa using I.len⟩ ⟨c,hs,.inr hc⟩
    · exact (hs.2 b (Nat.ne_of_lt (Nat.lt_of_lt_of_le (Heap.lt_size e) (I.ok.cab x c hfn hc)))).trans (I.base.keep b o e n hb hx)
    · obtain ⟨sl,e1⟩:=I.base.slot b o e n hb hx
      exact ⟨sl,(hs.2 b (Nat.ne_of_lt (Nat.lt_of_lt_of_le (Heap.lt_size e) (I.ok.cab x c hfn hc)))).trans e1⟩
    · obtain ⟨o',e1⟩:=I.base.there b o e hx
      exact ⟨o',(hs.2 b (Nat.ne_of_lt (Nat.lt_of_lt_of_le (Heap.lt_size e) (I.ok.cab x c hfn hc)))).trans e1⟩
    · by_cases hj:j=i
      · subst hj
        rw [hi] at e1;cases e1
        rw [List.getElem?_set_self hiσ] at e2
        cases e2
        exact ⟨u,r,.inr ⟨.inl hk,c,hc,hc'⟩⟩
      · rw [List.getElem?_set_ne (Ne.symm hj)] at e2
        obtain ⟨u',r',q⟩:=hl j y v' e1 e2 e3
        refine ⟨u',r',?_⟩
        rcases q with q | ⟨k,c',e,z'⟩
        · exact .inl q
        · refine .inr ⟨k,c',e,z'.sameBut hs ?_⟩
          rintro rfl
          exact hj (vH hN e1 (I.ok.inj _ _ _ e hc ▸ hi))
    · by_cases hcc:c'=c
      · subst hcc;exact ⟨_,hc'⟩
      · obtain ⟨w2,z2⟩:=I.cell y c' e
        exact ⟨w2,z2.sameBut hs hcc⟩
    · obtain ⟨e,n,ne,nf,d⟩:=I.pin p hp
      refine ⟨(hs.2 p.1 ?_).trans e,n,ne,nf,d⟩
      intro q
      rw [q,hoc] at e
      have q':oc=p.2:=Option.some.inj e
      exact d w' (by rw [<- q'];exact hocd)
theorem vp {M:Model}{A:Around}{E:Value->Shared->Prop}{i:Nat}{x:Str}{v:V}{u:Value}{Q:Unit->Shared->Prop}(I:Inv X pins σ H s)(hN:X.N.Nodup)(hi:X.N[i]?=some x)(hx:Loc X.env.scope x)(r:zr v u)
  (h:∀ s',Inv X pins (σ.set i (some v)) H s'->Q () s') (hf:X.fn x=true \/ X.env.scope.names.lookup x=some .local:=by first | exact .inl rfl | exact .inr rfl | assumption):wpAny M A (storeName X.env x u) Q E s:=
 Q1 I hN hi hx r (fun s' I' _=>h s' I') hf
theorem Inv.call' {s':Shared}{ch:List Addr}(I:Inv X pins σ H s)(ho:s'.os=s.os)(u:Un (frs X.stack) ch H H' s.heap s'.heap)(hok:HOk X.prog X.w H' s'.heap)(hg:AllBare s'.gens)
  (hch:∀ b ∈ ch,(b ∈ X.ex \/ X.s₀.heap.objs.size<=b)/\b ≠ X.env.locals/\(∀ x c,X.env.cells.lookup x=some c->c ≠ b)/\∀ p ∈ X.pn ++ pins,p.1 ≠ b):Inv X pins σ H' s':=by
 obtain ⟨h',g',d',t',o'⟩:=s'
 have e:o'=s.os:=ho
 subst e
 exact I.call (g':=g') (t':=t') (d':=d') u hok hg hch
end
noncomputable abbrev XK:=Value->Option Addr->Hp->Prop
noncomputable abbrev St:=List (Option V)
noncomputable abbrev VK:=V->Hp->Prop
noncomputable abbrev TE:=St->Hp->VK->Prop
noncomputable abbrev TT:=St->Hp->(Bool->Hp->Prop)->Prop
noncomputable abbrev TA:=St->Hp->(List V->Hp->Prop)->Prop
structure ju where
 nx:St->Hp->Prop
 rt:VK
 bk:St->Hp->Prop:=fun _ _=>False
 ct:St->Hp->Prop:=fun _ _=>False
noncomputable abbrev TS:=ju->St->Hp->Prop
noncomputable def EP (X:Cx)(pins:List (Addr × Obj))(σ:St)(Q:VK)(u:Value)(s':Shared):Prop:=∃ v H',Inv X pins σ H' s'/\zr v u/\Q v H'
noncomputable def TP (X:Cx)(pins:List (Addr × Obj))(σ:St)(Q:Bool->Hp->Prop)(b:Bool)(s':Shared):Prop:=∃ H',Inv X pins σ H' s'/\Q b H'
noncomputable def AP (X:Cx)(pins:List (Addr × Obj))(σ:St)(Q:List V->Hp->Prop)(us:List Value)(s':Shared):Prop:=∃ vs H',Inv X pins σ H' s'/\zq vs us/\Q vs H'
noncomputable def SP (X:Cx)(pins:List (Addr × Obj))(D:ju)(f:Flow)(s':Shared):Prop:=
 match f with
 | .next=>∃ σ' H',Inv X pins σ' H' s'/\D.nx σ' H'
 | .brk=>∃ σ' H',Inv X pins σ' H' s'/\D.bk σ' H'
 | .cont=>∃ σ' H',Inv X pins σ' H' s'/\D.ct σ' H'
 | .ret u=>∃ v σ' H',Inv X pins σ' H' s'/\zr v u/\D.rt v H'
noncomputable def PE (X:Cx)(e:Expr)(t:TE):Prop:=
 ∀ (pins:List (Addr × Obj)) (s:Shared) (σ:St) (H:Hp) (Q:VK),Inv X pins σ H s->t σ H Q->wpAny (model X.prog X.w) X.A (eval e X.env) (EP X pins σ Q) X.xe s
noncomputable def PT (X:Cx)(e:Expr)(t:TT):Prop:=
 ∀ (pins:List (Addr × Obj)) (s:Shared) (σ:St) (H:Hp) (Q:Bool->Hp->Prop),Inv X pins σ H s->t σ H Q->wpAny (model X.prog X.w) X.A (isTrue e X.env (eval e X.env)) (TP X pins σ Q) X.xe s
noncomputable def PW (X:Cx)(e:Expr)(t:TT):Prop:=
 ∀ (whole:Sem Value) (pins:List (Addr × Obj)) (s:Shared) (σ:St) (H:Hp) (Q:Bool->Hp->Prop),Inv X pins σ H s->t σ H Q->wpAny (model X.prog X.w) X.A (isTrue e X.env whole) (TP X pins σ Q) X.xe s
theorem PW.pt {X:Cx}{e:Expr}{t:TT}(h:PW X e t):PT X e t:=h _
noncomputable def PA (X:Cx)(es:List Expr)(t:TA):Prop:=
 ∀ (pos:Pos) (pins:List (Addr × Obj)) (s:Shared) (σ:St) (H:Hp) (Q:List V->Hp->Prop),Inv X pins σ H s->t σ H Q->wpAny (model X.prog X.w) X.A (spliced (backTo pos (starEach es X.env))) (AP X pins σ Q) X.xe s
noncomputable def PS (X:Cx)(st:Stmt)(t:TS):Prop:=
 ∀ (pins:List (Addr × Obj)) (s:Shared) (σ:St) (H:Hp) (D:ju),Inv X pins σ H s->t D σ H->wpAny (model X.prog X.w) X.A (exec st X.env) (SP X pins D) X.xe s
noncomputable def PSs (X:Cx)(st:List Stmt)(t:TS):Prop:=
 ∀ (pins:List (Addr × Obj)) (s:Shared) (σ:St) (H:Hp) (D:ju),Inv X pins σ H s->t D σ H->wpAny (model X.prog X.w) X.A (execs st X.env) (SP X pins D) X.xe s
theorem thn {α:Type}{t:Sem α}{Q Q':α->Shared->Prop}{M:Model}{A:Around}{E:Value->Shared->Prop}{s:Shared}(h:wpAny M A t Q E s)(hQ:∀ a s,Q a s->Q' a s):wpAny M A t Q' E s:=wpAny_mono h hQ fun _ _ x=>x
section
variable {X:Cx}
theorem bin {a b:Expr}{ta tb:TE}(ha:PE X a ta)(hb:PE X b tb){pins:List (Addr × Obj)}{s:Shared}{σ:St}{H:Hp}{R:V->V->Hp->Prop}(I:Inv X pins σ H s)(h:ta σ H fun x H1=>tb σ H1 fun y H2=>R x y H2)
  {α:Type} {Q:α->Shared->Prop} {f:Value->Value->Sem α}
  (hf:∀ v u s2 x y H2,Inv X pins σ H2 s2->zr x v->zr y u->R x y H2->wpAny (model X.prog X.w) X.A (f v u) Q X.xe s2) :
  wpAny (model X.prog X.w) X.A (eval a X.env) (fun v s₁=>wpAny (model X.prog X.w) X.A (eval b X.env) (fun u s₂=>wpAny (model X.prog X.w) X.A (f v u) Q X.xe s₂) X.xe s₁) X.xe s:=by
 refine thn (ha pins s σ H _ I h) fun v s1 ⟨x,H1,I1,r1,q1⟩=>?_
 refine thn (hb pins s1 σ H1 _ I1 q1) fun u s2 ⟨y,H2,I2,r2,q2⟩=>?_
 exact hf v u s2 x y H2 I2 r1 r2 q2
noncomputable def KY (i:Nat):TE:=fun σ H Q=>∃ v,σ[i]?=some (some v)/\Q v H
noncomputable def tC (v:V):TE:=fun _ H Q=>Q v H
theorem Wu {i:Nat}{x:Str}{pos:Pos}(hN:X.N[i]?=some x)(hv:Vis X.env.scope x)(hd:(x == ("__debug__":Str))=false:=by decide)(hcd:(x == ("__classdict__":Str))=false:=by decide):PE X (.Name x pos) (KY i):=by
 intro pins s σ H Q I h
 obtain ⟨v,e,h⟩:=h
 obtain ⟨m,hn,hl⟩:=I.loc
 obtain ⟨u,r,l⟩:=hl i x v hN e hv
 have fin:EP X pins σ Q u s:=⟨v,H,I,r,h⟩
 rcases l with ⟨hk,hm⟩ | ⟨hk,c,hc,hcell⟩
 ·exact wpAny_Name (wpAny_loadName_local I.ok.kind hk hn hm fin) hd
 ·rcases hk with hk | hk
  ·exact wpAny_Name (wpAny_loadName_cell I.ok.kind hk hc hcell fin) hd
  ·exact wpAny_Name (wpAny_loadName_free I.ok.kind hk hc hcell fin hcd) hd
theorem zk {i j pos}:PE X (.Constant (.int i) j pos) (tC (.int i)):=fun _ _ _ H _ I h=>wpAny_Constant_int ⟨.int i,H,I.tok _,⟨_,rfl⟩,h⟩
theorem kg {b j pos}:PE X (.Constant (.bool b) j pos) (tC (.bl b)):=fun _ _ _ H _ I h=>Constant_bool ⟨.bl b,H,I,rfl,h⟩
theorem qt {j pos}:PE X (.Constant .none j pos) (tC .non):=fun _ _ _ H _ I h=>Constant_none ⟨.non,H,I,rfl,h⟩
noncomputable def Gl (X:Cx)(x:Str):Prop:=X.env.kindOf x=some .globalImplicit
theorem Yb {E:Value->Shared->Prop}{pins:List (Addr × Obj)}{s:Shared}{σ:St}{H:Hp}{x:Str}{u:Value}{pos:Pos}{Q:Value->Shared->Prop}(I:Inv X pins σ H s)(hg:Gl X x)(hm:X.mg x=some u)(h:Q u s)
  (hd:(x == ("__debug__":Str))=false:=by decide):wpAny (model X.prog X.w) X.A (eval (.Name x pos) X.env) Q E s:=
 Calls.Name_function_global I.ok.kind hg (Calls.loadGlobal_global (by rw [I.ok.glob];exact I.mod.glob.keeps I.bk) hm h) hd
theorem xp {E:Value->Shared->Prop}{pins:List (Addr × Obj)}{s:Shared}{σ:St}{H:Hp}{x:Str}{u:Value}{pos:Pos}{Q:Value->Shared->Prop}(I:Inv X pins σ H s)(hg:Gl X x)(hm:X.mg x=none)(hv:bootBuiltins x=some u)(h:Q u s)
  (hn:x ≠ "__name__":=by decide) (hd:(x == ("__debug__":Str))=false:=by decide):wpAny (model X.prog X.w) X.A (eval (.Name x pos) X.env) Q E s:=by
 obtain ⟨mb,h1,h2⟩:=I.mod.blt
 exact Calls.Name_function_global I.ok.kind hg (Calls.loadGlobal_builtin (by rw [I.ok.glob];exact I.mod.glob.keeps I.bk) hm (by rw [I.ok.blt];exact h1.keeps I.bk) ((h2 x hn).trans hv) h) hd
variable {a b:Expr}{ta tb:TE}{pos:Pos}
noncomputable def PC (X:Cx)(op:CmpOp)(a b:Expr)(t:TE):Prop:=
 ∀ (pins:List (Addr × Obj)) (s:Shared) (σ:St) (H:Hp) (Q:VK),Inv X pins σ H s->t σ H Q ->
  wpAny (model X.prog X.w) X.A (eval a X.env) (fun v s₁=>wpAny (model X.prog X.w) X.A (eval b X.env) (fun u s₂=>wpAny (model X.prog X.w) X.A (compareOp op v u) (EP X pins σ Q) X.xe s₂) X.xe s₁) X.xe s
theorem XD (b:Expr){op:CmpOp}(h:op ≠ .In)(h2:op ≠ .NotIn):behindInMarks op b=false:=by
 have e1:(op == CmpOp.In)=false:=by cases op <;> first | rfl | exact absurd rfl h
 have e2:(op == CmpOp.NotIn)=false:=by cases op <;> first | rfl | exact absurd rfl h2
 cases b <;> simp [behindInMarks,e1,e2]
noncomputable def tB (t:TE):TT:=fun σ H Q=>t σ H fun x H1=>∃ c,x=.bl c/\Q c H1
theorem WI {op:CmpOp}{t:TE}(h:PC X op a b t)(h1:behindInMarks op b=false:=by first | exact XD _ (by decide) (by decide) | rfl):PT X (.Compare a [op] [b] pos) (tB t):=by
 intro pins s σ H Q I hw
 refine wpAny_isTrue_Compare1 (thn (h pins s σ H _ I hw) fun v s1 h1=>thn h1 fun u s2 h2=>thn h2 fun c s3 ⟨x,H1,I1,r1,q1⟩=>?_) h1
 obtain ⟨d,rfl,q⟩:=q1
 cases r1
 exact wpAny_truthy_bool ⟨H1,I1,q⟩
theorem j3 {e:Expr}{t:TE}(h:PE X e t)(he:∀ whole,isTrue e X.env whole=(do let v <- whole;standAt e.pos;holding [v] (truthy v)):=by intro _;rfl):PT X e (tB t):=by
 intro pins s σ H Q I hw
 refine isTrue_plain (thn (h pins s σ H _ I hw) fun v s1 ⟨x,H1,I1,r1,q1⟩=>?_) (he _)
 obtain ⟨d,rfl,q⟩:=q1
 cases r1
 exact wpAny_truthy_bool ⟨H1,I1,q⟩
variable {tA tB':TT}{qf:List Expr}
noncomputable def Ae (t u:TT):TT:=fun σ H Q=>t σ H fun c H1=>if c=true then u σ H1 Q else Q false H1
noncomputable def Al (t:TT):TT:=fun σ H Q=>t σ H fun c H1=>Q (!c) H1
theorem xi (ha:PT X a tA):PW X (.BoolOp .And [a] pos) tA:=by
 intro wh pins s σ H Q I h
 refine isTrue_and (thn (ha pins s σ H Q I h) fun c s1 e=>?_)
 cases c with
 | true=>exact isTrue_and_nil e
 | false=>exact e
theorem jX (ha:PT X a tA)(hb:PW X (.BoolOp .And (b :: qf) pos) tB'):PW X (.BoolOp .And (a :: b :: qf) pos) (Ae tA tB'):=by
 intro wh pins s σ H Q I h
 refine isTrue_and (thn (ha pins s σ H _ I h) fun c s1 ⟨H1,I1,q1⟩=>?_)
 cases c with
 | true=>exact hb wh pins s1 σ H1 Q I1 q1
 | false=>exact ⟨H1,I1,q1⟩
theorem kK (ha:PT X a tA):PT X (.UnaryOp .Not a pos) (Al tA):=by
 intro pins s σ H Q I h
 exact isTrue_not (ha pins s σ H (fun c H1=>Q (!c) H1) I h)
noncomputable def Xs (ta tb:TE):TE:=fun σ H Q=>ta σ H fun x H1=>∃ c,x=.bl c/\if c=true then tb σ H1 Q else Q (.bl false) H1
theorem V1 {op}{t:TE}(h:PE X a t):PE X (.BoolOp op [a] pos) t:=fun pins s σ H Q I hw=>BoolOp_one (h pins s σ H Q I hw)
theorem VU (ha:PE X a ta)(hb:PE X (.BoolOp .And (b :: qf) pos) tb):PE X (.BoolOp .And (a :: b :: qf) pos) (Xs ta tb):=by
 intro pins s σ H Q I h
 refine BoolOp_and (thn (ha pins s σ H _ I h) fun v s1 ⟨x,H1,I1,r1,q1⟩=>?_)
 obtain ⟨c,rfl,q1⟩:=q1
 cases r1
 refine wpAny_truthy_bool ?_
 cases c with
 | true=>exact hb pins s1 σ H1 Q I1 q1
 | false=>exact ⟨.bl false,H1,I1,rfl,q1⟩
end
noncomputable def SqL (K:PySem.W.Frag)(H:Hp)(a:Addr)(xs:List V):Prop:=
 Rd H a (.lst xs) \/
  ∃ (o:Obj) (its:Array Value) (n:Nat),K.lookup a=some o/\o.cls=.type "list"/\o.dict=none/\o.data=.seq its n/\its.size<=sizeLine/\zq xs its.toList
noncomputable def SqT (K:PySem.W.Frag)(H:Hp)(a:Addr)(xs:List V):Prop:=
 Rd H a (.tup xs) \/
  ∃ (o:Obj) (its:Array Value) (n:Nat),K.lookup a=some o/\o.cls=.type "tuple"/\o.data=.seq its n/\its.size<=sizeLine/\zq xs its.toList
noncomputable def Dl:Value->Option V
 | .none=>some .non
 | .bool b=>some (.bl b)
 | .int i _=>some (.int i)
 | .str x _=>some (.str x)
 | .bytes b _=>some (.byt b)
 | .float b _=>some (.flt b)
 | .ref a=>some (.ref a)
 | .type n=>some (.ty n)
 | _=>none
theorem zr.abs {x:V}{u:Value}(r:zr x u):Dl u=some x:=by
 cases x with
 | non=>cases r;rfl
 | bl _=>cases r;rfl
 | int _=>obtain ⟨t,rfl⟩:=r;rfl
 | str _=>obtain ⟨t,rfl⟩:=r;rfl
 | byt _=>obtain ⟨t,rfl⟩:=r;rfl
 | flt _=>obtain ⟨t,rfl⟩:=r;rfl
 | ref _=>cases r;rfl
 | ty _=>cases r;rfl
theorem zr.inj {x y:V}{u:Value}(r:zr x u)(q:zr y u):x=y:=Option.some.inj (r.abs.symm.trans q.abs)
theorem zq.inj:∀ {xs ys:List V} {us:List Value},zq xs us->zq ys us->xs=ys
 | _,_,_,.nil,.nil=>rfl
 | _,_,_,.cons r t,.cons r' t'=>by rw [r.inj r',zq.inj t t']
section
variable {X:Cx}{pins:List (Addr × Obj)}{σ:St}{H:Hp}{s:Shared}{a:Addr}{xs ys:List V}
theorem SqL.of {K:PySem.W.Frag}(h:H a=some (.lst xs)):SqL K H a xs:=.inl (.inl h)
theorem SqT.of {K:PySem.W.Frag}(h:H a=some (.tup xs)):SqT K H a xs:=.inl (.inl h)
theorem Inv.list (I:Inv X pins σ H s)(h:SqL X.K H a xs):∃ its:List Value,zq xs its/\PlainL s.heap a its.toArray/\xs.length<=sizeLine:=by
 rcases h with h | ⟨o,its,n,hk,hc,hd,hs,hz,r⟩
 ·obtain ⟨z,its,n,r,e⟩:=h.ok I.hok
  exact ⟨its,r,⟨_,n,e,rfl,rfl,rfl⟩,z⟩
 ·refine ⟨its.toList,r,⟨o,n,I.kIn a o hk,hc,hd,by simpa using hs⟩,?_⟩
  have e:=r.length
  simp only [Array.length_toList] at e
  omega
theorem Inv.tuple (I:Inv X pins σ H s)(h:SqT X.K H a xs):∃ its:List Value,zq xs its/\IsTup s.heap a its.toArray/\xs.length<=sizeLine:=by
 rcases h with h | ⟨o,its,n,hk,hc,hs,hz,r⟩
 ·obtain ⟨z,its,r,p⟩:=h.ok I.hok
  exact ⟨its,r,p.is,z⟩
 ·refine ⟨its.toList,r,⟨o,I.kIn a o hk,hc,n,by simpa using hs⟩,?_⟩
  have e:=r.length
  simp only [Array.length_toList] at e
  omega
theorem Inv.list_inj (I:Inv X pins σ H s)(h:SqL X.K H a xs)(h':SqL X.K H a ys):xs=ys:=by
 obtain ⟨its,r,⟨o,n,e,_,_,d⟩,_⟩:=I.list h
 obtain ⟨its',r',⟨o',n',e',_,_,d'⟩,_⟩:=I.list h'
 rw [e] at e';cases e'
 rw [d] at d'
 injection d' with d1 _
 have:its=its':=by simpa using congrArg Array.toList d1
 subst this
 exact r.inj r'
theorem Inv.tuple_inj (I:Inv X pins σ H s)(h:SqT X.K H a xs)(h':SqT X.K H a ys):xs=ys:=by
 obtain ⟨its,r,⟨o,e,_,n,d⟩,_⟩:=I.tuple h
 obtain ⟨its',r',⟨o',e',_,n',d'⟩,_⟩:=I.tuple h'
 rw [e] at e';cases e'
 rw [d] at d'
 injection d' with d1 _
 have:its=its':=by simpa using congrArg Array.toList d1
 subst this
 exact r.inj r'
end
noncomputable abbrev Cx.wish (X:Cx)(E:Value->Shared->Prop):Cx:={ X with xe:=E }
noncomputable abbrev Cx.nox (X:Cx):Cx:=X.wish fun _ _=>False
theorem Cx.Ok.wish {X:Cx}(ok:X.Ok)(E:Value->Shared->Prop):(X.wish E).Ok:=
 ⟨ok.mod,ok.kind,ok.glob,ok.blt,ok.above,ok.inj,ok.has,ok.cab,ok.hd,ok.frames,ok.stk,ok.exf,ok.bs,ok.bsz,ok.noex,ok.exfs,ok.funs,ok.frf⟩
theorem Cx.Ok.unwish {X:Cx}{E:Value->Shared->Prop}(ok:(X.wish E).Ok):X.Ok:=
 ⟨ok.mod,ok.kind,ok.glob,ok.blt,ok.above,ok.inj,ok.has,ok.cab,ok.hd,ok.frames,ok.stk,ok.exf,ok.bs,ok.bsz,ok.noex,ok.exfs,ok.funs,ok.frf⟩
section
variable {X:Cx}{pins:List (Addr × Obj)}{σ:St}{H:Hp}{s:Shared}{E:Value->Shared->Prop}
theorem Inv.wish (I:Inv X pins σ H s)(E:Value->Shared->Prop):Inv (X.wish E) pins σ H s:=⟨I.ok.wish E,I.os,I.bare,I.base,I.loc,I.cell,I.free,I.freeC,I.pin,I.hok,I.len⟩
theorem Inv.unwish (I:Inv (X.wish E) pins σ H s):Inv X pins σ H s:=⟨I.ok.unwish,I.os,I.bare,I.base,I.loc,I.cell,I.free,I.freeC,I.pin,I.hok,I.len⟩
theorem SP.unwish {D:ju}{f:Flow}{s':Shared}(h:SP (X.wish E) pins D f s'):SP X pins D f s':=by
 cases f with
 | next=>obtain ⟨σ',H',I,q⟩:=h;exact ⟨σ',H',I.unwish,q⟩
 | brk=>obtain ⟨σ',H',I,q⟩:=h;exact ⟨σ',H',I.unwish,q⟩
 | cont=>obtain ⟨σ',H',I,q⟩:=h;exact ⟨σ',H',I.unwish,q⟩
 | ret u=>obtain ⟨v,σ',H',I,r,q⟩:=h;exact ⟨v,σ',H',I.unwish,r,q⟩
theorem PSs.nox {st:List Stmt}{t:TS}(h:PSs X.nox st t):PSs X st t:=fun pins s σ H D I hw=>
 wpAny_mono (h pins s σ H D (I.wish _) hw) (fun _ _ q=>q.unwish) fun _ _ z=>False.elim z
end
section
variable {X:Cx}{st:Stmt}{qf:List Stmt}{t u:TS}{e:Expr}{te:TE}{pos:Pos}
noncomputable def Xf:TS:=fun D σ H=>D.nx σ H
noncomputable def Wt (t u:TS):TS:=fun D σ H=>t { D with nx:=u D } σ H
theorem qw:PSs X [] Xf:=fun _ _ σ H _ I h=>wpAny_execs_nil ⟨σ,H,I,h⟩
theorem zd (h1:PS X st t)(h2:PSs X qf u):PSs X (st :: qf) (Wt t u):=by
 intro pins s σ H D I h
 refine wpAny_execs_cons (thn (h1 pins s σ H { D with nx:=u D } I h) fun f s1 q=>?_)
 cases f with
 | next=>
  obtain ⟨σ',H',I',q⟩:=q
  exact h2 pins s1 σ' H' D I' q
 | ret v=>exact q
 | brk=>exact q
 | cont=>exact q
theorem zl (h1:PS X st t):PSs X [st] t:=by
 intro pins s σ H D I h
 refine wpAny_execs_cons (thn (h1 pins s σ H D I h) fun f s1 q=>?_)
 cases f with
 | next=>exact wpAny_execs_nil q
 | ret v=>exact q
 | brk=>exact q
 | cont=>exact q
theorem Inv.quiet {pins:List (Addr × Obj)}{σ:St}{H:Hp}{s:Shared}(I:Inv X pins σ H s):interactive X.env=false:=by simp [interactive,I.ok.kind]
noncomputable def Kg (te:TE):TS:=fun D σ H=>te σ H fun _ H1=>D.nx σ H1
theorem qD (he:PE X e te)(hs:swapsWith e none pos.line X.env=pure false:=by rfl):PS X (.Expr e pos) (Kg te):=by
 intro pins s σ H D I h
 exact wpAny_Expr_any (thn (he pins s σ H _ I h) fun v s1 ⟨x,H1,I1,r1,q1⟩=>⟨σ,H1,I1,q1⟩) I.quiet hs
noncomputable def A8 (te:TE):TS:=fun D σ H=>te σ H D.rt
theorem zV (he:PE X e te):PS X (.Return (some e) pos) (A8 te):=by
 intro pins s σ H D I h
 exact wpAny_Return_some (thn (he pins s σ H _ I h) fun v s1 ⟨x,H1,I1,r1,q1⟩=>⟨x,σ,H1,I1,r1,q1⟩)
noncomputable def A6 (c:TT)(t u:TS):TS:=fun D σ H=>c σ H fun b H1=>if b=true then t D σ H1 else u D σ H1
theorem jU {c:Expr}{a b:List Stmt}{tc:TT}(hc:PT X c tc)(ha:PSs X a t)(hb:PSs X b u):PS X (.If c a b pos) (A6 tc t u):=by
 intro pins s σ H D I h
 refine wpAny_If (thn (hc pins s σ H _ I h) fun d s1 ⟨H1,I1,q1⟩=>?_)
 cases d with
 | true=>exact ha pins s1 σ H1 D I1 q1
 | false=>exact hb pins s1 σ H1 D I1 q1
end
noncomputable abbrev TG:=V->St->Hp->(St->Hp->Prop)->Prop
noncomputable abbrev TGs:=List V->St->Hp->(St->Hp->Prop)->Prop
noncomputable def PG (X:Cx)(target:Expr)(t:TG):Prop:=
 ∀ (pins:List (Addr × Obj)) (s:Shared) (σ:St) (H:Hp) (v:V) (u:Value) (Q:St->Hp->Prop),Inv X pins σ H s->zr v u->t v σ H Q ->
  wpAny (model X.prog X.w) X.A (assign target X.env u) (fun _ s'=>∃ σ' H',Inv X pins σ' H' s'/\Q σ' H') X.xe s
noncomputable def PGs (X:Cx)(ts:List Expr)(t:TGs):Prop:=
 ∀ (pins:List (Addr × Obj)) (s:Shared) (σ:St) (H:Hp) (vs:List V) (us:List Value) (Q:St->Hp->Prop),Inv X pins σ H s->zq vs us->t vs σ H Q ->
  wpAny (model X.prog X.w) X.A (assignInOrder ((assignEach ts X.env).map (·.2)) us) (fun _ s'=>∃ σ' H',Inv X pins σ' H' s'/\Q σ' H') X.xe s
noncomputable abbrev Xe:=V->V->V->Hp->(Hp->Prop)->Prop
noncomputable def WA (X:Cx)(t:Xe):Prop:=
 ∀ (pins:List (Addr × Obj)) (s:Shared) (σ:St) (H:Hp) (o i v:V) (ov iv u:Value) (Q:Hp->Prop),Inv X pins σ H s->zr o ov->zr i iv->zr v u->t o i v H Q ->
  wpAny (model X.prog X.w) X.A (setItem ov iv u) (fun _ s'=>∃ H',Inv X pins σ H' s'/\Q H') X.xe s
noncomputable abbrev TIp:=V->V->Hp->VK->Prop
section
variable {X:Cx}{pos:Pos}
noncomputable def ZU (i:Nat):TG:=fun v σ H Q=>Q (σ.set i (some v)) H
theorem zu {i:Nat}{x:Str}(hN:X.N.Nodup)(hi:X.N[i]?=some x)(hx:Loc X.env.scope x)(hf:X.fn x=true \/ X.env.scope.names.lookup x=some .local:=by first | exact .inl rfl | exact .inr rfl | assumption):PG X (.Name x pos) (ZU i):=by
 intro pins s σ H v u Q I r h
 exact wpAny_assign_Name (vp I hN hi hx r (fun s' I'=>⟨_,H,I',h⟩) hf)
noncomputable def WX:TGs:=fun vs σ H Q=>vs=[]/\Q σ H
noncomputable def JA (t:TG)(u:TGs):TGs:=fun vs σ H Q=>∃ v r,vs=v :: r/\t v σ H fun σ' H'=>u r σ' H' Q
theorem qE:PGs X [] WX:=by
 intro pins s σ H vs us Q I r h
 obtain ⟨e,h⟩:=h
 subst e
 cases r
 exact assignInOrder_nil ⟨σ,H,I,h⟩
theorem zw {e:Expr}{es:List Expr}{t:TG}{u:TGs}(h1:PG X e t)(h2:PGs X es u)
  (hs:(assignEach (e :: es) X.env).map (·.2)=assign e X.env :: (assignEach es X.env).map (·.2):=by rfl):PGs X (e :: es) (JA t u):=by
 intro pins s σ H vs us Q I r h
 obtain ⟨v,vr,e1,h⟩:=h
 subst e1
 cases r with
 | cons r rr=>
  rw [hs]
  refine assignInOrder_cons (thn (h1 pins s σ H _ _ _ I r h) fun _ s1 ⟨σ1,H1,I1,q1⟩=>?_)
  exact h2 pins s1 σ1 H1 _ _ Q I1 rr q1
noncomputable def J4 (K:PySem.W.Frag)(n:Nat)(t:TGs):TG:=fun v σ H Q=>∃ a xs,v=.ref a/\SqT K H a xs/\xs.length=n/\t xs σ H Q
theorem Bc {es:List Expr}{k:Nat}{t:TGs}{n:Nat}(hc:X.calm=true)(h:PGs X es t)
  (hn:(assignEach es X.env).length=n:=by rfl) (hst:(assignEach es X.env).findIdx? (·.1)=none:=by rfl):PG X (.Tuple es k pos) (J4 X.K n t):=by
 intro pins s σ H v u Q I r hw
 obtain ⟨a,xs,e1,hq,hl,hw⟩:=hw
 subst e1
 cases r
 obtain ⟨its,rv,ht,hz⟩:=I.tuple hq
 refine assign_Tuple_tuple (I.ok.hd hc) ht (by simp [hn,<- hl,rv.length]) hst fun h' hx=>?_
 have I1:Inv X pins σ H { s with heap:=h' }:=I.kept (t':=s.toks) fun b o e=>hx b o (Nat.ne_of_lt (Heap.lt_size e)) e
 exact h pins _ σ H xs _ Q I1 (by simpa using rv) hw
noncomputable def Ai (to ti:TE)(t:Xe):TG:=fun v σ H Q=>to σ H fun o H1=>ti σ H1 fun i H2=>t o i v H2 fun H3=>Q σ H3
theorem qA {o i:Expr}{to ti:TE}{t:Xe}(ho:PE X o to)(hi:PE X i ti)(hs:WA X t)
  (ha:∀ v,assign (.Subscript o i pos) X.env v=(do
   let ov <- holding [v] (eval o X.env)
   let iv <- holding [v,ov] (eval i X.env)
   standAt pos
   holding [v,ov,iv] (setItem ov iv v)
   release [v,ov,iv] []):=by intro _;rfl):PG X (.Subscript o i pos) (Ai to ti t):=by
 intro pins s σ H v u Q I r h
 rw [ha]
 refine wpAny_bind (wpAny_holding (thn (ho pins s σ H _ I h) fun ov s1 ⟨x,H1,I1,r1,q1⟩=>?_))
 refine wpAny_bind (wpAny_holding (thn (hi pins s1 σ H1 _ I1 q1) fun iv s2 ⟨y,H2,I2,r2,q2⟩=>?_))
 refine wpAny_bind (wpAny_standAt (wpAny_bind (wpAny_holding (thn (hs pins s2 σ H2 x y v ov iv u _ I2 r1 r2 r q2) fun _ s3 ⟨H3,I3,q3⟩=>?_))))
 exact wpAny_release ⟨σ,H3,I3,q3⟩
noncomputable def Ke (te:TE)(g:TG):TS:=fun D σ H=>te σ H fun x H1=>g x σ H1 D.nx
theorem qp {tg e:Expr}{te:TE}{g:TG}(he:PE X e te)(hg:PG X tg g)(hs:swapsWithSole [tg] e pos.line X.env=pure false:=by rfl)(hw:swappedStores [tg] e X.env=pure none:=by rfl)
  (h1:(assignEach [tg] X.env).map (·.2)=[assign tg X.env]:=by rfl):PS X (.Assign [tg] e pos) (Ke te g):=by
 intro pins s σ H D I h
 refine wpAny_Assign_stores (thn (he pins s σ H _ I h) fun v s1 ⟨x,H1,I1,r1,q1⟩=>?_) hs hw
 rw [h1]
 exact thn (hg pins s1 σ H1 x v _ I1 r1 q1) fun _ s2 q=>q
theorem zz {i:Nat}{x:Str}{e:Expr}{te:TE}{pos':Pos}(hN:X.N.Nodup)(hi:X.N[i]?=some x)(hx:Loc X.env.scope x)(he:PE X e te)(hs:swapsWith e (some (.Name x pos')) pos.line X.env=pure false:=by rfl)(hf:X.fn x=true \/ X.env.scope.names.lookup x=some .local:=by first | exact .inl rfl | exact .inr rfl | assumption) :
  PS X (.Assign [.Name x pos'] e pos) (Ke te (ZU i)):=by
 intro pins s σ H D I h
 refine wpAny_Assign_Name (thn (he pins s σ H _ I h) fun v s1 ⟨y,H1,I1,r1,q1⟩=>?_) hs
 exact vp I1 hN hi hx r1 (fun s2 I2=>⟨_,H1,I2,q1⟩) hf
end
section
variable {X:Cx}{pos:Pos}
noncomputable def Zt (c:TT)(tb:TS):TS:=fun D σ H=>∃ W:Nat->St->Hp->Prop,(∃ m,W m σ H)/\∀ m σ H,W m σ H ->
 c σ H fun b H1=>if b=true then ∃ N:St->Hp->Prop,(∀ σ' H',N σ' H'->∃ m',m'<m/\W m' σ' H')/\tb { D with nx:=N,ct:=N,bk:=D.nx } σ H1 else D.nx σ H1
theorem wc {c:Expr}{body:List Stmt}{tc:TT}{tb:TS}(hp:PassesOwn (model X.prog X.w) X.A X.env X.xe)(hc:PT X c tc)(hb:PSs X body tb):PS X (.While c body [] pos) (Zt tc tb):=by
 intro pins s σ H D I h
 obtain ⟨W,⟨m0,w0⟩,turn⟩:=h
 refine wpAny_While (codeAny_whileLoop (fun n s'=>∃ σ' H',Inv X pins σ' H' s'/\W n σ' H') ?_ m0 ⟨σ,H,I,w0⟩)
 rintro n s1 ⟨σ1,H1,I1,w1⟩
 refine wpAny_passesOwn hp (thn (hc pins s1 σ1 H1 _ I1 (turn n σ1 H1 w1)) fun b s2 ⟨H2,I2,q2⟩=>?_)
 cases b with
 | true=>
  obtain ⟨N,hN,q2⟩:=q2
  rw [if_pos rfl]
  refine wpAny_passesOwn hp (thn (hb pins s2 σ1 H2 _ I2 q2) fun f s3 q3=>?_)
  cases f with
  | next=>
   obtain ⟨σ3,H3,I3,n3⟩:=q3
   obtain ⟨m',hm,w3⟩:=hN σ3 H3 n3
   exact ⟨m',hm,σ3,H3,I3,w3⟩
  | cont=>
   obtain ⟨σ3,H3,I3,n3⟩:=q3
   obtain ⟨m',hm,w3⟩:=hN σ3 H3 n3
   exact ⟨m',hm,σ3,H3,I3,w3⟩
  | brk=>exact q3
  | ret v=>exact q3
 | false=>
  rw [if_neg Bool.false_ne_true]
  exact wpAny_execs_nil ⟨σ1,H2,I2,q2⟩
end
structure It where
 go:Nat->Hp->Prop
 yld:Nat->Hp->V->Hp->Prop
 stop:Nat->Hp->Prop
noncomputable def kY (X:Cx)(pins:List (Addr × Obj))(H:Hp)(b:Addr):Prop:=
 H b=none/\b ≠ X.env.locals/\b ∉ X.fs/\(b ∈ X.ex \/ X.s₀.heap.objs.size<=b)/\(∀ x c,X.env.cells.lookup x=some c->c ≠ b)/\∀ p ∈ X.pn ++ pins,p.1 ≠ b
theorem Inv.fpOk {X:Cx}{pins:List (Addr × Obj)}{σ:St}{H H':Hp}{s:Shared}{b:Addr}(I:Inv X pins σ H s)(hb:s.heap.objs.size<=b)(hn:H' b=none):kY X pins H' b:=by
 refine ⟨hn,Nat.ne_of_gt (Nat.lt_of_lt_of_le I.lt hb),I.nofs hb,.inr (Nat.le_trans I.sz hb),fun x c e z=>?_,fun p hp z=>?_⟩
 ·obtain ⟨v,q⟩:=I.cell x c e
  exact absurd (Nat.lt_of_lt_of_le q.lt (by rw [z];exact hb)) (Nat.lt_irrefl _)
 ·exact absurd (Nat.lt_of_lt_of_le (Heap.lt_size (I.pin p hp).1) (by rw [z];exact hb)) (Nat.lt_irrefl _)
structure w6 (P:Program)(w:World)(K:PySem.W.Frag)(tg:Expr)(J:It)(fp:List Addr)(it:Addr)(tn:Nat->Heap->Prop):Prop where
 mem:it ∈ fp
 obj:∀ i h,tn i h->∀ b ∈ fp,∃ o,h.get? b=some o/\∀ v,o.data ≠ .cell v
 keep:∀ i h h',tn i h->(∀ b ∈ fp,∀ o,h.get? b=some o->h'.get? b=some o)->tn i h'
 item:∀ (X:Cx),X.prog=P->X.w=w->X.K=K->X.calm=true->∀ (i:Nat) (pins:List (Addr × Obj)) (s:Shared) (σ:St) (H:Hp) (E:Value->Shared->Prop),Inv X pins σ H s->(∀ b ∈ fp,kY X pins H b)->tn i s.heap->J.go i H ->
  wpAny (model P w) X.A (pyNext (.ref it)) (fun r s1=>∃ u,r=some u /\
   wpAny (model P w) X.A (letOwnedTupleGo tg (.ref it) u) (fun _ s2=>∃ x H',Inv X pins σ H' s2/\zr x u/\J.yld i H x H'/\tn (i+1) s2.heap/\∀ b ∈ fp,H' b=none) E s1) E s
 done:∀ (X:Cx),X.prog=P->X.w=w->X.K=K->X.calm=true->∀ (i:Nat) (pins:List (Addr × Obj)) (s:Shared) (σ:St) (H:Hp) (E:Value->Shared->Prop),Inv X pins σ H s->(∀ b ∈ fp,kY X pins H b)->tn i s.heap->J.stop i H ->
  wpAny (model P w) X.A (pyNext (.ref it)) (fun r s1=>r=none/\Inv X pins σ H s1) E s
 self:∀ (A:Around) (i:Nat) (s:Shared) (Q:Value->Shared->Prop) (E:Value->Shared->Prop),tn i s.heap->Q (.ref it) s->wpAny (model P w) A (pyIter (.ref it)) Q E s
noncomputable abbrev TI:=St->Hp->(It->Hp->Prop)->Prop
noncomputable def PIE (X:Cx)(pins:List (Addr × Obj))(σ:St)(tg:Expr)(R:It->Hp->Prop)(itv:Value)(s2:Shared):Prop:=
 ∃ (it:Addr) (fp:List Addr) (tn:Nat->Heap->Prop) (J:It) (H':Hp),itv=.ref it/\Inv X pins σ H' s2/\w6 X.prog X.w X.K tg J fp it tn/\tn 0 s2.heap/\(∀ b ∈ fp,kY X pins H' b)/\R J H'
noncomputable def PI (X:Cx)(tg iter:Expr)(wi:TI):Prop:=
 ∀ (pins:List (Addr × Obj)) (s:Shared) (σ:St) (H:Hp) (R:It->Hp->Prop),Inv X pins σ H s->wi σ H R ->
  wpAny (model X.prog X.w) X.A (eval iter X.env) (fun v s1=>wpAny (model X.prog X.w) X.A (pyIter v) (PIE X pins σ tg R) X.xe s1) X.xe s
theorem KI {M : Model}{A : Around}{E : Value -> Shared -> Prop}{s : Shared}{tg : Expr}{it : Addr}{u : Value}{o : Obj}{n : String}{vs : Array Value}{Q : Unit -> Shared -> Prop}(ho : s.heap.get? it = some o)(hc : o.cls = .type n)(hd : o.data = .fields vs)
    (hn:["enumerate","zip","dict_itemiterator","dict_reverseitemiterator","odict_iterator","itertools.zip_longest","itertools.pairwise"].contains n=false) (hQ:Q () s):wpAny M A (letOwnedTupleGo tg (.ref it) u) Q E s:=by
  unfold letOwnedTupleGo
  cases tg <;> first
    | exact wpAny_pure hQ
    | (cases u <;> first
        | exact wpAny_pure hQ
        | (refine wpAny_bind (wpAny_load ho ?_)
           rw [hc,hd]
           show wpAny M A (if (["enumerate","zip","dict_itemiterator","dict_reverseitemiterator","odict_iterator","itertools.zip_longest","itertools.pairwise"].contains n && vs[0]? == some (rawInt _))=true then _ else _) Q E s
           rw [if_neg (by intro h;rw [hn,Bool.false_and] at h;cases h)]
           exact wpAny_pure hQ))
noncomputable def Itl (K:PySem.W.Frag)(a:Addr):It:=
 ⟨fun i H=>∃ xs x,SqL K H a xs/\xs[i]?=some x,fun i H x H'=>H'=H/\∀ xs,SqL K H a xs->xs[i]?=some x,fun i H=>∃ xs,SqL K H a xs/\xs.length<=i⟩
noncomputable def Itt (K:PySem.W.Frag)(a:Addr):It:=
 ⟨fun i H=>∃ xs x,SqT K H a xs/\xs[i]?=some x,fun i H x H'=>H'=H/\∀ xs,SqT K H a xs->xs[i]?=some x,fun i H=>∃ xs,SqT K H a xs/\xs.length<=i⟩
noncomputable def Itr (lo:Int)(n:Nat):It:=⟨fun i _=>i<n,fun i H x H'=>H'=H/\x=.int (lo+i),fun i _=>n<=i⟩
theorem yv {P:Program}{w:World}{K:PySem.W.Frag}{tg:Expr}(a it:Addr):w6 P w K tg (Itl K a) [it] it (fun i h=>h.IsListIter it a i) where
 mem:=by simp
 obj:=fun i h st b hb=>by
  have e:b=it:=by simpa using hb
  subst e
  obtain ⟨o,e,c,d⟩:=st
  exact ⟨o,e,fun v z=>by rw [d] at z;cases z⟩
 keep:=fun i h h' st k=>st.at fun o e=>k it (by simp) o e
 item:=by
  intro X hP hw hK hc i pins s σ H E I hf st hg
  subst hP hw hK
  obtain ⟨xs,x,hq,hx⟩:=hg
  obtain ⟨its,rv,p,hz⟩:=I.list hq
  obtain ⟨u,hu,ru⟩:=rv.get hx
  obtain ⟨f0,f1,f2,f3,f4,f5⟩:=hf it (by simp)
  refine wpAny_pyNext_list_item st p.isList (x:=u) (by simpa using hu) fun h' st' sb=>?_
  have I1:Inv X pins σ H { s with heap:=h' }:=I.turned (t':=s.toks) (fun b o hb e=>(sb.2 b hb).trans e) f0 f1 f3 f4 f5
  obtain ⟨o,e,c,d⟩:=id st'
  exact ⟨u,rfl,KI (s:={ s with heap:=h' }) e c d (by decide) ⟨x,H,I1,ru,⟨rfl,fun ys hy=>by rw [I.list_inj hy hq];exact hx⟩,st',fun b hb=>(hf b hb).1⟩⟩
 done:=by
  intro X hP hw hK hc i pins s σ H E I hf st hg
  subst hP hw hK
  obtain ⟨xs,hq,hx⟩:=hg
  obtain ⟨its,rv,p,hz⟩:=I.list hq
  obtain ⟨f0,f1,f2,f3,f4,f5⟩:=hf it (by simp)
  have hl:=rv.length
  exact wpAny_pyNext_list_end (I.ok.hd hc) st p.isList (by simp;omega) fun h' eb=>⟨rfl,I.turned (t':=s.toks) (fun b o hb e=>eb b o hb e) f0 f1 f3 f4 f5⟩
 self:=fun _ _ _ _ _ st h=>wpAny_pyIter_listiter st h
theorem Zx {P:Program}{w:World}{K:PySem.W.Frag}{tg:Expr}(a it:Addr):w6 P w K tg (Itt K a) [it] it (fun i h=>h.IsTupleIter it a i) where
 mem:=by simp
 obj:=fun i h st b hb=>by
  have e:b=it:=by simpa using hb
  subst e
  obtain ⟨o,e,c,d⟩:=st
  exact ⟨o,e,fun v z=>by rw [d] at z;cases z⟩
 keep:=fun i h h' st k=>st.at fun o e=>k it (by simp) o e
 item:=by
  intro X hP hw hK hc i pins s σ H E I hf st hg
  subst hP hw hK
  obtain ⟨xs,x,hq,hx⟩:=hg
  obtain ⟨its,rv,p,hz⟩:=I.tuple hq
  obtain ⟨u,hu,ru⟩:=rv.get hx
  obtain ⟨f0,f1,f2,f3,f4,f5⟩:=hf it (by simp)
  refine wpAny_pyNext_tuple_item st (show s.heap.IsTuple a its.toArray from p) (x:=u) (by simpa using hu) fun h' st' sb=>?_
  have I1:Inv X pins σ H { s with heap:=h' }:=I.turned (t':=s.toks) (fun b o hb e=>(sb.2 b hb).trans e) f0 f1 f3 f4 f5
  obtain ⟨o,e,c,d⟩:=id st'
  exact ⟨u,rfl,KI (s:={ s with heap:=h' }) e c d (by decide) ⟨x,H,I1,ru,⟨rfl,fun ys hy=>by rw [I.tuple_inj hy hq];exact hx⟩,st',fun b hb=>(hf b hb).1⟩⟩
 done:=by
  intro X hP hw hK hc i pins s σ H E I hf st hg
  subst hP hw hK
  obtain ⟨xs,hq,hx⟩:=hg
  obtain ⟨its,rv,p,hz⟩:=I.tuple hq
  obtain ⟨f0,f1,f2,f3,f4,f5⟩:=hf it (by simp)
  have hl:=rv.length
  exact wpAny_pyNext_tuple_end (I.ok.hd hc) st (show s.heap.IsTuple a its.toArray from p) (by simp;omega) fun h' eb=>⟨rfl,I.turned (t':=s.toks) (fun b o hb e=>eb b o hb e) f0 f1 f3 f4 f5⟩
 self:=fun _ _ _ _ _ st h=>wpAny_pyIter_tupleiter st h
theorem Zy {P:Program}{w:World}{K:PySem.W.Frag}{tg:Expr}(it:Addr)(lo:Int)(n:Nat):w6 P w K tg (Itr lo n) [it] it (fun i h=>IsRangeIter h it (lo+(i:Nat) * 1) ((n:Int) - (i:Nat)) 1) where
 mem:=by simp
 obj:=fun i h st b hb=>by
  have e:b=it:=by simpa using hb
  subst e
  exact ⟨_,st,fun v z=>by
   have z':Data.fields _=Data.cell v:=z
   cases z'⟩
 keep:=fun i h h' st k=>k it (by simp) _ st
 item:=by
  intro X hP hw hK hc i pins s σ H E I hf st hg
  subst hP hw hK
  obtain ⟨f0,f1,f2,f3,f4,f5⟩:=hf it (by simp)
  have W:=Walks.range (prog:=X.prog) (w:=X.w) (I.ok.hd hc) it lo 1 n
  refine W.item i s _ _ hg st fun v h' tk hv st' kk=>?_
  obtain ⟨t,rfl⟩:=hv
  have I1:Inv X pins σ H { s with heap:=h',toks:=tk }:=I.turned (fun b o hb e=>kk b o (by simpa using hb) e) f0 f1 f3 f4 f5
  refine ⟨_,rfl,KI (s:={ s with heap:=h',toks:=tk }) (n:="range_iterator") st' rfl rfl (by decide) ⟨.int (lo+i),H,I1,⟨t,?_⟩,⟨rfl,rfl⟩,st',fun b hb=>(hf b hb).1⟩⟩
  rw [Int.mul_one]
 done:=by
  intro X hP hw hK hc i pins s σ H E I hf st hg
  subst hP hw hK
  obtain ⟨f0,f1,f2,f3,f4,f5⟩:=hf it (by simp)
  exact wpAny_pyNext_range_end (I.ok.hd hc) st (by have:n<=i:=hg;omega) fun h' eb=>⟨rfl,I.turned (t':=s.toks) (fun b o hb e=>eb b o hb e) f0 f1 f3 f4 f5⟩
 self:=fun _ _ _ _ _ st h=>wpAny_pyIter_rangeiter st h
section
variable {X:Cx}{tg:Expr}
noncomputable def Vv (K:PySem.W.Frag)(tl:TE):TI:=fun σ H R=>tl σ H fun x H1=>∃ a,x=.ref a/\(∃ xs,SqL K H1 a xs)/\R (Itl K a) H1
theorem YS {l:Expr}{tl:TE}(hl:PE X l tl):PI X tg l (Vv X.K tl):=by
 intro pins s σ H R I h
 refine thn (hl pins s σ H _ I h) fun v s1 ⟨x,H1,I1,r1,q1⟩=>?_
 obtain ⟨a,e,⟨xs,hq⟩,q⟩:=q1
 subst e
 cases r1
 obtain ⟨its,rv,p,hz⟩:=I1.list hq
 refine wpAny_pyIter_list p.isList ?_
 refine ⟨s1.heap.objs.size,[s1.heap.objs.size],_,_,H1,rfl,I1.kept (t':=s1.toks) fun b o e=>Heap.get?_push_of_some _ e,yv a _,⟨_,Heap.get?_push_size _ rfl,rfl,rfl⟩,fun b hb=>?_,q⟩
 have e:b=s1.heap.objs.size:=by simpa using hb
 subst e
 exact I1.fpOk (Nat.le_refl _) (I1.hok.fresh (Nat.le_refl _))
theorem JC {pins:List (Addr × Obj)}{σ:St}{H:Hp}{s:Shared}{R:It->Hp->Prop}{E:Value->Shared->Prop}{lo hi:Int}{t u v:Tok}{tk:Nat}(I:Inv X pins σ H s)(h1:-(2 ^ 62)<=lo)(h2:lo<2 ^ 62)(h3:-(2 ^ 62)<=hi)(h4:hi<2 ^ 62)
  (q:R (Itr lo (hi - lo).toNat) H):wpAny (model X.prog X.w) X.A (pyIter (.ref s.heap.objs.size)) (PIE X pins σ tg R) E { s with heap:=s.heap.push { cls:=.type "range",data:=.fields #[.int lo t,.int hi u,.int 1 v] },toks:=tk }:=by
 refine wpAny_pyIter_range (IsRange.new ..) (small_one h1 h2 h3 h4) ?_
 have I1:Inv X pins σ H { s with heap:=s.heap.push { cls:=.type "range",data:=.fields #[.int lo t,.int hi u,.int 1 v] },toks:=tk }:=I.kept fun b o e=>Heap.get?_push_of_some _ e
 refine ⟨(s.heap.push { cls:=.type "range",data:=.fields #[.int lo t,.int hi u,.int 1 v] }).objs.size,[(s.heap.push { cls:=.type "range",data:=.fields #[.int lo t,.int hi u,.int 1 v] }).objs.size],_,_,H,rfl,
  I1.kept (t':=tk) fun b o e=>Heap.get?_push_of_some _ e,Zy _ lo (hi - lo).toNat,?_,fun b hb=>?_,q⟩
 ·have e1:lo+((0:Nat):Int) * 1=lo:=by simp
  have e2:(((hi - lo).toNat:Nat):Int) - ((0:Nat):Int)=Builtin.Range.rangeSize lo hi 1:=by rw [rangeSize_one];split <;> omega
  show IsRangeIter _ _ (lo+((0:Nat):Int) * 1) ((((hi - lo).toNat:Nat):Int) - ((0:Nat):Int)) 1
  rw [e1,e2]
  exact Heap.get?_push_size _ rfl
 ·have e:b=(s.heap.push { cls:=.type "range",data:=.fields #[.int lo t,.int hi u,.int 1 v] }).objs.size:=by simpa using hb
  subst e
  exact I1.fpOk (Nat.le_refl _) (I1.hok.fresh (Nat.le_refl _))
noncomputable def Xw (ta:TA):TI:=fun σ H R=>ta σ H fun vs H1=>∃ j:Int,vs=[.int j]/\-(2 ^ 62)<=j/\j<2 ^ 62/\R (Itr 0 j.toNat) H1
theorem qg {a:Expr}{ta:TA}{p pos:Pos}(hg:Gl X "range")(hm:X.mg "range"=none)(ha:PA X [a] ta)(hs:starEach [a] X.env=[(false,eval a X.env)]:=by rfl):PI X tg (.Call (.Name "range" p) [a] [] pos) (Xw ta):=by
 intro pins s σ H R I h
 refine Call_ (xp I hg hm boot_range (PyProof.Rows.callWith_type1 (thn (ha pos pins s σ H _ I h) fun us s1 ⟨vs,H1,I1,r1,q1⟩=>?_) hs rfl))
 obtain ⟨j,e,q1,q2,q⟩:=q1
 subst e
 cases r1 with
 | cons r rr=>
  cases rr
  obtain ⟨t,rfl⟩:=r
  exact call_range_1 (JC I1 (by omega) (by omega) q1 q2 (by simpa using q))
noncomputable def Ao (wi:TI)(g:TG)(tb:TS):TS:=fun D σ H=>wi σ H fun J H1=>∃ W:Nat->Nat->St->Hp->Prop,(∃ m,W 0 m σ H1)/\∀ i m σ H,W i m σ H ->
 (J.stop i H/\D.nx σ H) \/ (J.go i H/\∃ N:St->Hp->Prop,(∀ σ' H',N σ' H'->∃ m',m'<m/\W (i+1) m' σ' H')/\∀ x H',J.yld i H x H'->g x σ H' fun σ2 H2=>tb { D with nx:=N,ct:=N,bk:=D.nx } σ2 H2)
noncomputable def xQ (fp:List Addr)(h:Heap):List (Addr × Obj):=fp.filterMap fun b=>(h.get? b).map fun o=>(b,o)
theorem js {fp:List Addr}{h:Heap}{b:Addr}{o:Obj}(hb:b ∈ fp)(e:h.get? b=some o):(b,o) ∈ xQ fp h:=List.mem_filterMap.mpr ⟨b,hb,by rw [e];rfl⟩
theorem QZ {fp:List Addr}{h:Heap}{p:Addr × Obj}(hp:p ∈ xQ fp h):p.1 ∈ fp/\h.get? p.1=some p.2:=by
 obtain ⟨b,hb,e⟩:=List.mem_filterMap.mp hp
 cases q:h.get? b with
 | none=>rw [q] at e;cases e
 | some o=>
  rw [q] at e
  have e':(b,o)=p:=Option.some.inj e
  subst e'
  exact ⟨hb,q⟩
theorem Inv.pinned {pins:List (Addr × Obj)}{σ:St}{H:Hp}{s:Shared}{fp:List Addr}(I:Inv X pins σ H s)(hf:∀ b ∈ fp,kY X pins H b)(ho:∀ b ∈ fp,∃ o,s.heap.get? b=some o/\∀ v,o.data ≠ .cell v):Inv X (pins ++ xQ fp s.heap) σ H s:=
 I.pins_of fun p hp=>(List.mem_append.mp hp).elim (fun z=>I.pin p (List.mem_append_right _ z)) fun z=>by
  obtain ⟨hb,e⟩:=QZ z
  obtain ⟨f0,f1,f2,_⟩:=hf p.1 hb
  obtain ⟨o,e',d⟩:=ho p.1 hb
  rw [e] at e';cases e'
  exact ⟨e,f0,f1,f2,d⟩
theorem Inv.unpinned {pins pl:List (Addr × Obj)}{σ:St}{H:Hp}{s:Shared}(I:Inv X (pins ++ pl) σ H s):Inv X pins σ H s:=I.pins_of fun p hp=>I.pin p (List.mem_append_right _ (List.mem_append_left _ hp))
theorem qu {iter:Expr}{body:List Stmt}{wi:TI}{g:TG}{tb:TS}{pos:Pos}(hp:PassesOwn (model X.prog X.w) X.A X.env X.xe)(hc:X.calm=true)(hi:PI X tg iter wi)(hg:PG X tg g)(hb:PSs X body tb)
  (hs:∀ x,foldedSetIterable iter X.env x=pure x:=by intro _;rfl):PS X (.For tg iter body [] pos) (Ao wi g tb):=by
 intro pins s σ H D I h
 refine wpAny_For (thn (hi pins s σ H _ I h) fun v s1 h1=>thn h1 fun itv s2 h2=>?_) hs
 obtain ⟨it,fp,tn,J,H2,e,I2,T,st2,f2,W,⟨m0,w0⟩,turn⟩:=h2
 subst e
 have stat:∀ {H':Hp},(∀ b ∈ fp,H' b=none)->∀ b ∈ fp,kY X pins H' b:=fun hn b hb=>⟨hn b hb,(f2 b hb).2⟩
 refine codeAny_forLoop_any (fun n s'=>∃ i σ' H',Inv X pins σ' H' s'/\tn i s'.heap/\(∀ b ∈ fp,H' b=none)/\W i n σ' H') ?_ m0 ⟨0,σ,H2,I2,st2,fun b hb=>(f2 b hb).1,w0⟩
 rintro n s3 ⟨i,σ3,H3,I3,st3,fr3,w3⟩
 rcases turn i n σ3 H3 w3 with ⟨stop,qn⟩ | ⟨go,N,hN,step⟩
 ·refine wpAny_passesOwn hp (thn (T.done X rfl rfl rfl hc i pins s3 σ3 H3 X.xe I3 (stat fr3) st3 stop) fun r s4 ⟨hr,I4⟩=>?_)
  subst hr
  exact wpAny_execs_nil ⟨σ3,H3,I4,qn⟩
 ·refine wpAny_passesOwn hp (thn (T.item X rfl rfl rfl hc i pins s3 σ3 H3 X.xe I3 (stat fr3) st3 go) fun r s4 ⟨u,hr,h4⟩=>?_)
  subst hr
  refine wpAny_passesOwn hp (thn h4 fun _ s5 ⟨x,H5,I5,r5,y5,st5,fr5⟩=>?_)
  have I5':=I5.pinned (stat fr5) (T.obj _ _ st5)
  refine wpAny_passesOwn hp (thn (hg _ s5 σ3 H5 x u _ I5' r5 (step x H5 y5)) fun _ s6 ⟨σ6,H6,I6,q6⟩=>?_)
  refine wpAny_passesOwn hp (thn (hb _ s6 σ6 H6 _ I6 q6) fun f s7 q7=>?_)
  have again:∀ {σ7:St} {H7:Hp},Inv X (pins ++ xQ fp s5.heap) σ7 H7 s7->N σ7 H7->∃ m,m<n/\∃ i σ' H',Inv X pins σ' H' s7/\tn i s7.heap/\(∀ b ∈ fp,H' b=none)/\W i m σ' H':=fun {σ7 H7} I7 n7=>by
   obtain ⟨m',hm,w7⟩:=hN σ7 H7 n7
   refine ⟨m',hm,i+1,σ7,H7,I7.unpinned,T.keep _ _ _ st5 fun b hb o e=>(I7.pin (b,o) (List.mem_append_right _ (List.mem_append_right _ (js hb e)))).1,fun b hb=>?_,w7⟩
   obtain ⟨o,e,d⟩:=T.obj _ _ st5 b hb
   exact (I7.pin (b,o) (List.mem_append_right _ (List.mem_append_right _ (js hb e)))).2.1
  cases f with
  | next=>obtain ⟨σ7,H7,I7,n7⟩:=q7;exact again I7 n7
  | cont=>obtain ⟨σ7,H7,I7,n7⟩:=q7;exact again I7 n7
  | brk=>obtain ⟨σ7,H7,I7,q7⟩:=q7;exact ⟨σ7,H7,I7.unpinned,q7⟩
  | ret v=>obtain ⟨x7,σ7,H7,I7,r7,q7⟩:=q7;exact ⟨x7,σ7,H7,I7.unpinned,r7,q7⟩
end
theorem XB {K:PySem.W.Frag}{a:Addr}{xs:List V}{g:TG}{tb:TS}{D:ju}{σ:St}{H:Hp}(Pv:Nat->St->Hp->Prop)(h0:Pv 0 σ H)(hl:∀ i σ H,i<=xs.length->Pv i σ H->SqL K H a xs)
  (hs:∀ i x σ H,xs[i]?=some x->Pv i σ H->g x σ H fun σ2 H2=>tb { D with nx:=Pv (i+1),ct:=Pv (i+1),bk:=D.nx } σ2 H2) (hd:∀ σ H,Pv xs.length σ H->D.nx σ H) :
  ∃ W:Nat->Nat->St->Hp->Prop,(∃ m,W 0 m σ H)/\∀ i m σ H,W i m σ H ->
   ((Itl K a).stop i H/\D.nx σ H) \/ ((Itl K a).go i H/\∃ N:St->Hp->Prop,(∀ σ' H',N σ' H'->∃ m',m'<m/\W (i+1) m' σ' H')/\∀ x H',(Itl K a).yld i H x H'->g x σ H' fun σ2 H2=>tb { D with nx:=N,ct:=N,bk:=D.nx } σ2 H2):=by
 refine ⟨fun i m σ H=>m=xs.length - i/\i<=xs.length/\Pv i σ H,⟨xs.length,by simp,Nat.zero_le _,h0⟩,?_⟩
 rintro i m σ H ⟨rfl,hi,p⟩
 have q:=hl i σ H hi p
 by_cases hlt:i<xs.length
 ·refine .inr ⟨⟨xs,xs[i],q,by simp [hlt]⟩,Pv (i+1),fun σ' H' p'=>⟨xs.length - (i+1),by omega,rfl,hlt,p'⟩,fun x H' y=>?_⟩
  obtain ⟨e,y⟩:=y
  subst e
  exact hs i x σ _ (y xs q) p
 ·have e:i=xs.length:=by omega
  subst e
  exact .inl ⟨⟨xs,q,Nat.le_refl _⟩,hd σ H p⟩
theorem QF {lo:Int}{n:Nat}{g:TG}{tb:TS}{D:ju}{σ:St}{H:Hp}(Pv:Nat->St->Hp->Prop)(h0:Pv 0 σ H)
  (hs:∀ i σ H,i<n->Pv i σ H->g (.int (lo+i)) σ H fun σ2 H2=>tb { D with nx:=Pv (i+1),ct:=Pv (i+1),bk:=D.nx } σ2 H2) (hd:∀ σ H,Pv n σ H->D.nx σ H) :
  ∃ W:Nat->Nat->St->Hp->Prop,(∃ m,W 0 m σ H)/\∀ i m σ H,W i m σ H ->
   ((Itr lo n).stop i H/\D.nx σ H) \/ ((Itr lo n).go i H/\∃ N:St->Hp->Prop,(∀ σ' H',N σ' H'->∃ m',m'<m/\W (i+1) m' σ' H')/\∀ x H',(Itr lo n).yld i H x H'->g x σ H' fun σ2 H2=>tb { D with nx:=N,ct:=N,bk:=D.nx } σ2 H2):=by
 refine ⟨fun i m σ H=>m=n - i/\i<=n/\Pv i σ H,⟨n,by simp,Nat.zero_le _,h0⟩,?_⟩
 rintro i m σ H ⟨rfl,hi,p⟩
 by_cases hlt:i<n
 ·refine .inr ⟨hlt,Pv (i+1),fun σ' H' p'=>⟨n - (i+1),by omega,rfl,hlt,p'⟩,fun x H' y=>?_⟩
  obtain ⟨e,y⟩:=y
  subst e y
  exact hs i σ _ hlt p
 ·have e:i=n:=by omega
  subst e
  exact .inl ⟨Nat.le_refl _,hd σ H p⟩
theorem KJ {c:TT}{tb:TS}{D:ju}{σ:St}{H:Hp}(Pv:St->Hp->Prop)(μ:St->Hp->Nat)(h0:Pv σ H)
  (hs:∀ σ H,Pv σ H->c σ H fun b H1=>if b=true then tb { D with nx:=fun σ' H'=>Pv σ' H'/\μ σ' H'<μ σ H,ct:=fun σ' H'=>Pv σ' H'/\μ σ' H'<μ σ H,bk:=D.nx } σ H1 else D.nx σ H1)
  (mono:∀ σ H Q Q',(∀ b H1,Q b H1->Q' b H1)->c σ H Q->c σ H Q'):Zt c tb D σ H:=by
 refine ⟨fun m σ H=>m=μ σ H/\Pv σ H,⟨_,rfl,h0⟩,?_⟩
 rintro m σ H ⟨rfl,p⟩
 refine mono σ H _ _ (fun b H1 q=>?_) (hs σ H p)
 cases b with
 | true=>exact ⟨_,fun σ' H' ⟨p',l⟩=>⟨_,l,rfl,p'⟩,q⟩
 | false=>exact q
noncomputable abbrev R2:=V->V->Hp->VK->Prop
noncomputable def OpR (X:Cx)(f:Value->Value->Sem Value)(r:R2):Prop:=
 ∀ (pins:List (Addr × Obj)) (s:Shared) (σ:St) (H:Hp) (x y:V) (v u:Value) (Q:VK),Inv X pins σ H s->zr x v->zr y u->r x y H Q ->
  wpAny (model X.prog X.w) X.A (f v u) (EP X pins σ Q) X.xe s
noncomputable def jn (X:Cx)(f:Value)(r:List V->Hp->VK->Prop):Prop:=
 ∀ (pins:List (Addr × Obj)) (s:Shared) (σ:St) (H:Hp) (xs:List V) (us:List Value) (Q:VK),Inv X pins σ H s->zq xs us->r xs H Q ->
  wpAny (model X.prog X.w) X.A (call f us) (EP X pins σ Q) X.xe s
noncomputable def tOp (r:R2)(ta tb:TE):TE:=fun σ H Q=>ta σ H fun x H1=>tb σ H1 fun y H2=>r x y H2 Q
noncomputable def rI (C:Int->Int->Prop)(g:Int->Int->V):R2:=fun x y H Q=>∃ i j,x=.int i/\y=.int j/\C i j/\Q (g i j) H
noncomputable def rI0 (g:Int->Int->V):R2:=fun x y H Q=>∃ i j,x=.int i/\y=.int j/\Q (g i j) H
section
variable {X:Cx}{a b c:Expr}{ta tb tc:TE}{pos:Pos}
theorem AB (ha:PE X a ta)(hb:PE X b tb){pins:List (Addr × Obj)}{s:Shared}{σ:St}{H:Hp}{R:V->V->Hp->Prop}(I:Inv X pins σ H s)
  (h:ta σ H fun x H1=>tb σ H1 fun y H2=>R x y H2) {Q:Value->Shared->Prop} {f:Value->Value->Sem Value}
  (hf:∀ v u s2 x y H2,Inv X pins σ H2 s2->zr x v->zr y u->R x y H2->wpAny (model X.prog X.w) X.A (f v u) Q X.xe s2) :
  wpAny (model X.prog X.w) X.A (eval a X.env) (fun v s₁=>wpAny (model X.prog X.w) X.A (eval b X.env) (fun u s₂=>wpAny (model X.prog X.w) X.A (f v u) Q X.xe s₂) X.xe s₁) X.xe s:=by
 refine thn (ha pins s σ H _ I h) fun v s1 ⟨x,H1,I1,r1,q1⟩=>?_
 refine thn (hb pins s1 σ H1 _ I1 q1) fun u s2 ⟨y,H2,I2,r2,q2⟩=>?_
 exact hf v u s2 x y H2 I2 r1 r2 q2
theorem zv {op:Operator}{r:R2}(ho:OpR X (binaryOp op) r)(ha:PE X a ta)(hb:PE X b tb):PE X (.BinOp a op b pos) (tOp r ta tb):=by
 intro pins s σ H Q I h
 exact wpAny_BinOp (AB ha hb I h fun v u s2 x y H2 I2 rx ry q=>ho pins s2 σ H2 x y v u Q I2 rx ry q)
theorem opI {f:Value->Value->Sem Value}{C:Int->Int->Prop}{g:Int->Int->Int}
  (rule:∀ (i j:Int) (t u:Tok) (s:Shared) (Q:Value->Shared->Prop) (E:Value->Shared->Prop),C i j->Q (.int (g i j) s.toks) { s with toks:=s.toks+1 }->wpAny (model X.prog X.w) X.A (f (.int i t) (.int j u)) Q E s) :
  OpR X f (rI C fun i j=>.int (g i j)):=by
 intro pins s σ H x y v u Q I rx ry h
 obtain ⟨i,j,rfl,rfl,hc,q⟩:=h
 obtain ⟨t,rfl⟩:=rx
 obtain ⟨t',rfl⟩:=ry
 exact rule i j t t' s _ _ hc ⟨.int (g i j),H,I.tok _,⟨_,rfl⟩,q⟩
theorem Bg {f:Value->Value->Sem Value}{g:Int->Int->Int}
  (rule:∀ (i j:Int) (t u:Tok) (s:Shared) (Q:Value->Shared->Prop) (E:Value->Shared->Prop),Q (.int (g i j) s.toks) { s with toks:=s.toks+1 }->wpAny (model X.prog X.w) X.A (f (.int i t) (.int j u)) Q E s) :
  OpR X f (rI0 fun i j=>.int (g i j)):=by
 intro pins s σ H x y v u Q I rx ry h
 obtain ⟨i,j,rfl,rfl,q⟩:=h
 obtain ⟨t,rfl⟩:=rx
 obtain ⟨t',rfl⟩:=ry
 exact rule i j t t' s _ _ ⟨.int (g i j),H,I.tok _,⟨_,rfl⟩,q⟩
theorem VX {f:Value->Value->Sem Value}{g:Int->Int->Bool}
  (rule:∀ (i j:Int) (t u:Tok) (s:Shared) (Q:Value->Shared->Prop) (E:Value->Shared->Prop),Q (.bool (g i j)) s->wpAny (model X.prog X.w) X.A (f (.int i t) (.int j u)) Q E s) :
  OpR X f (rI0 fun i j=>.bl (g i j)):=by
 intro pins s σ H x y v u Q I rx ry h
 obtain ⟨i,j,rfl,rfl,q⟩:=h
 obtain ⟨t,rfl⟩:=rx
 obtain ⟨t',rfl⟩:=ry
 exact rule i j t t' s _ _ ⟨.bl (g i j),H,I,rfl,q⟩
noncomputable def Wc (i j:Int):Prop:=0<j/\j<1073741824
noncomputable def B7 (i j:Int):Prop:=0<=j/\j<=1000000/\i.natAbs<2 ^ 64
noncomputable def JJ (i j:Int):Prop:=(-(2 ^ 64)<i/\i<2 ^ 64) \/ (-(2 ^ 64)<j/\j<2 ^ 64)
theorem JJ.ok {i j:Int}(h:JJ i j):IntMulOk i j:=by
 rcases h with ⟨h1,h2⟩ | ⟨h1,h2⟩
 ·exact .of_left (intBits_le_64 h1 h2)
 ·exact .of_right (intBits_le_64 h1 h2)
theorem qe:OpR X (binaryOp .Add) (rI0 fun i j=>.int (i+j)):=Bg fun _ _ _ _ _ _ _ q=>add_int q
theorem Wb:OpR X (binaryOp .Sub) (rI0 fun i j=>.int (i - j)):=Bg fun _ _ _ _ _ _ _ q=>sub_int q
theorem jy:OpR X (binaryOp .Mult) (rI JJ fun i j=>.int (i * j)):=opI fun _ _ _ _ _ _ _ hc q=>mul_int q hc.ok
theorem XZ:OpR X (binaryOp .FloorDiv) (rI Wc fun i j=>.int (i / j)):=opI fun i j _ _ _ _ _ hc q=>by
 have h1:(0:Int)<j:=hc.1
 have h2:j<1073741824:=hc.2
 exact floordiv_int (by omega) (by rw [Int.fdiv_eq_ediv_of_nonneg i (by omega)];exact q) (.inl (PyProof.noPylong_small (by omega)))
theorem qW:OpR X (binaryOp .Mod) (rI (fun _ j=>0<j) fun i j=>.int (i % j)):=opI fun i j _ _ _ _ _ hc q=>by
 have h1:(0:Int)<j:=hc
 exact mod_int' (by omega) (by rw [Int.fmod_eq_emod_of_nonneg i (by omega)];exact q)
theorem WJ:OpR X (binaryOp .Pow) (rI B7 fun i j=>.int (i ^ j.toNat)):=opI fun _ _ _ _ _ _ _ hc q=>pow_int_small hc.1 hc.2.1 hc.2.2 q
end
noncomputable def Dk:V->V->Bool
 | .non,.non=>true | .non,.int _=>true | .int _,.non=>true | .non,.bl _=>true | .bl _,.non=>true | .non,.str _=>true | .str _,.non=>true
 | .int _,.int _=>true | .bl _,.bl _=>true | .str _,.str _=>true | .byt _,.byt _=>true
 | .int _,.str _=>true | .str _,.int _=>true | .bl _,.str _=>true | .str _,.bl _=>true
 | _,_=>false
noncomputable def rNe:R2:=fun x y H Q=>Dk x y=true/\Q (.bl (!decide (x=y))) H
theorem Ve {i j:Int}:decide (V.int i=V.int j)=(i == j):=by
 rw [Bool.eq_iff_iff]
 simp
theorem AR {i j:Bool}:decide (V.bl i=V.bl j)=(i == j):=by
 rw [Bool.eq_iff_iff]
 simp
theorem X7 {i j:Str}:decide (V.str i=V.str j)=(i == j):=by
 rw [Bool.eq_iff_iff]
 simp
theorem XQ {i j:Array UInt8}:decide (V.byt i=V.byt j)=(i.toList == j.toList):=by
 rw [Bool.eq_iff_iff]
 cases i
 cases j
 simp
section
variable {X:Cx}{a b c:Expr}{ta tb tc:TE}{pos:Pos}
theorem zS {pins:List (Addr × Obj)}{σ:St}{H:Hp}{s:Shared}{Q:VK}{k k':Bool}(I:Inv X pins σ H s)(q:Q (.bl k) H)(e:k=k'):EP X pins σ Q (.bool k') s:=by
 subst e
 exact ⟨.bl k,H,I,rfl,q⟩
theorem BI:OpR X (compareOp .NotEq) rNe:=by
 intro pins s σ H x y v u Q I rx ry h
 obtain ⟨hs,q⟩:=h
 cases x with
 | non=>
  cases rx
  cases y with
  | non=>cases ry;exact PySem.EqNone.ne_none_none (zS I q (by simp))
  | bl j=>cases ry;exact PySem.EqNone.ne_none_bool (zS I q (by simp))
  | int j=>obtain ⟨t',rfl⟩:=ry;exact PySem.EqNone.ne_none_int (zS I q (by simp))
  | str j=>obtain ⟨t',rfl⟩:=ry;exact PySem.EqNone.ne_none_str (zS I q (by simp))
  | _=>exact absurd (show false=true from hs) Bool.false_ne_true
 | bl i=>
  cases rx
  cases y with
  | non=>cases ry;exact PySem.EqNone.ne_bool_none (zS I q (by simp))
  | bl j=>cases ry;exact ne_bool (zS I q (congrArg not AR))
  | str j=>obtain ⟨t',rfl⟩:=ry;exact PySem.EqMixed.ne_bool_str (zS I q (by simp))
  | _=>exact absurd (show false=true from hs) Bool.false_ne_true
 | int i=>
  obtain ⟨t,rfl⟩:=rx
  cases y with
  | non=>cases ry;exact PySem.EqNone.ne_int_none (zS I q (by simp))
  | int j=>obtain ⟨t',rfl⟩:=ry;exact ne_int (zS I q (congrArg not Ve))
  | str j=>obtain ⟨t',rfl⟩:=ry;exact PySem.EqMixed.ne_int_str (zS I q (by simp))
  | _=>exact absurd (show false=true from hs) Bool.false_ne_true
 | str i=>
  obtain ⟨t,rfl⟩:=rx
  cases y with
  | non=>cases ry;exact PySem.EqNone.ne_str_none (zS I q (by simp))
  | bl j=>cases ry;exact PySem.EqMixed.ne_str_bool (zS I q (by simp))
  | int j=>obtain ⟨t',rfl⟩:=ry;exact PySem.EqMixed.ne_str_int (zS I q (by simp))
  | str j=>obtain ⟨t',rfl⟩:=ry;exact ne_str (zS I q (congrArg not X7))
  | _=>exact absurd (show false=true from hs) Bool.false_ne_true
 | byt i=>
  obtain ⟨t,rfl⟩:=rx
  cases y with
  | byt j=>obtain ⟨t',rfl⟩:=ry;exact PySem.W.ne_bytes (zS I q (congrArg not XQ))
  | _=>exact absurd (show false=true from hs) Bool.false_ne_true
 | _=>cases y <;> exact absurd (show false=true from hs) Bool.false_ne_true
theorem Bk:OpR X (compareOp .Lt) (rI0 fun i j=>.bl (decide (i<j))):=VX fun _ _ _ _ _ _ _ q=>lt_int q
theorem VH:OpR X (compareOp .Gt) (rI0 fun i j=>.bl (decide (j<i))):=VX fun _ _ _ _ _ _ _ q=>gt_int q
theorem Bz:OpR X (compareOp .GtE) (rI0 fun i j=>.bl (decide (j<=i))):=VX fun _ _ _ _ _ _ _ q=>ge_int q
theorem wM:OpR X (compareOp .Is) (fun x y H Q=>y=.non/\Q (.bl (decide (x=.non))) H):=by
 intro pins s σ H x y v u Q I rx ry h
 obtain ⟨rfl,q⟩:=h
 cases ry
 refine is_none_gen (zS I q ?_)
 cases x <;> first
  | (cases rx;rfl)
  | (obtain ⟨t,rfl⟩:=rx;rfl)
theorem yT:OpR X (compareOp .IsNot) (fun x y H Q=>y=.non/\Q (.bl (!decide (x=.non))) H):=by
 intro pins s σ H x y v u Q I rx ry h
 obtain ⟨rfl,q⟩:=h
 cases ry
 refine isnot_none_gen (zS I q ?_)
 cases x <;> first
  | (cases rx;rfl)
  | (obtain ⟨t,rfl⟩:=rx;rfl)
theorem qc (b:Expr){op:CmpOp}(h:op ≠ .In:=by decide)(h2:op ≠ .NotIn:=by decide):behindInMarks op b=false:=by
 have e1:(op == CmpOp.In)=false:=by cases op <;> first | rfl | exact absurd rfl h
 have e2:(op == CmpOp.NotIn)=false:=by cases op <;> first | rfl | exact absurd rfl h2
 cases b <;> simp [behindInMarks,e1,e2]
theorem yZ {op:CmpOp}{r:R2}(ho:OpR X (compareOp op) r)(ha:PE X a ta)(hb:PE X b tb)(hm:behindInMarks op b=false):PE X (.Compare a [op] [b] pos) (tOp r ta tb):=by
 intro pins s σ H Q I h
 exact wpAny_Compare1 (AB ha hb I h fun v u s2 x y H2 I2 rx ry q=>ho pins s2 σ H2 x y v u Q I2 rx ry q) hm
noncomputable def Z3 (t:TE):TT:=fun σ H Q=>t σ H fun x H'=>∃ k,x=.bl k/\Q k H'
theorem qb {op:CmpOp}{r:R2}(ho:OpR X (compareOp op) r)(ha:PE X a ta)(hb:PE X b tb)(hm:behindInMarks op b=false):PT X (.Compare a [op] [b] pos) (Z3 (tOp r ta tb)):=by
 intro pins s σ H Q I h
 refine wpAny_isTrue_Compare1 (thn (ha pins s σ H _ I h) fun v s1 ⟨x,H1,I1,r1,q1⟩=>thn (hb pins s1 σ H1 _ I1 q1) fun u s2 ⟨y,H2,I2,r2,q2⟩=>
  thn (ho pins s2 σ H2 x y v u _ I2 r1 r2 q2) fun c s3 ⟨z,H3,I3,r3,k,e,q3⟩=>?_) hm
 subst e
 cases r3
 exact wpAny_truthy_bool ⟨H3,I3,q3⟩
theorem xv:(sizeLine:Nat)<2 ^ 63:=by rw [sizeLine_eq];decide
theorem jH {x:V}{us:List Value}(r:zq [x] us):∃ u,us=[u]/\zr x u:=by
 cases r with
 | cons r1 r2=>cases r2;exact ⟨_,rfl,r1⟩
theorem VP {x y:V}{us:List Value}(r:zq [x,y] us):∃ u w',us=[u,w']/\zr x u/\zr y w':=by
 cases r with
 | cons r1 r2=>
  cases r2 with
  | cons r3 r4=>cases r4;exact ⟨_,_,rfl,r1,r3⟩
theorem wv:jn X (.builtin "abs") (fun xs H Q=>∃ i,xs=[.int i]/\Q (.int (if i<0 then -i else i)) H):=by
 intro pins s σ H xs us Q I r h
 obtain ⟨i,rfl,q⟩:=h
 obtain ⟨u,rfl,t,rfl⟩:=jH r
 exact call_abs_int fun u tk=>⟨.int (if i<0 then -i else i),H,I.tok _,⟨_,rfl⟩,q⟩
theorem QX (hc:X.calm=true):jn X (.builtin "max") (fun xs H Q=>∃ i j,xs=[.int i,.int j]/\Q (.int (if j > i then j else i)) H):=by
 intro pins s σ H xs us Q I r h
 obtain ⟨i,j,rfl,q⟩:=h
 obtain ⟨u,w',rfl,⟨t,rfl⟩,⟨t',rfl⟩⟩:=VP r
 refine max_two_ints (I.ok.hd hc) fun h' tk k=>⟨_,H,I.kept k,?_,q⟩
 by_cases hj:j > i
 ·rw [if_pos hj,if_pos hj];exact ⟨_,rfl⟩
 ·rw [if_neg hj,if_neg hj];exact ⟨_,rfl⟩
theorem Qv:jn X (.type "int") (fun xs H Q=>(∃ i,xs=[.int i]/\Q (.int i) H) \/ ∃ k,xs=[.bl k]/\Q (.int (if k then 1 else 0)) H):=by
 intro pins s σ H xs us Q I r h
 rcases h with ⟨i,rfl,q⟩ | ⟨k,rfl,q⟩
 ·obtain ⟨u,rfl,t,rfl⟩:=jH r
  exact call_int_int ⟨.int i,H,I,⟨_,rfl⟩,q⟩
 ·obtain ⟨u,rfl,r1⟩:=jH r
  cases r1
  exact call_int_bool ⟨.int (if k then 1 else 0),H,I.tok _,⟨_,rfl⟩,q⟩
theorem vV:jn X (.builtin "divmod") (fun xs H Q=>∃ i j,xs=[.int i,.int j]/\Wc i j/\∀ p,H p=none->Q (.ref p) (upd H p (.tup [.int (i / j),.int (i % j)]))):=by
 intro pins s σ H xs us Q I r h
 obtain ⟨i,j,rfl,⟨h1,h2⟩,q⟩:=h
 obtain ⟨u,w',rfl,⟨t,rfl⟩,⟨t',rfl⟩⟩:=VP r
 refine divmod_int (by omega) ?_ (.inl (PyProof.noPylong_small (by omega)))
 rw [Int.fdiv_eq_ediv_of_nonneg i (by omega),Int.fmod_eq_emod_of_nonneg i (by omega)]
 have hn:H s.heap.objs.size=none:=I.hok.fresh (Nat.le_refl _)
 refine ⟨.ref s.heap.objs.size,_,?_,rfl,q _ hn⟩
 refine I.laid (fun b o e=>Heap.get?_push_of_some _ e) (Nat.le_refl _) ⟨by simp only [List.length_cons,List.length_nil];rw [sizeLine_eq];decide,[.int (i / j) s.toks,.int (i % j) (s.toks+1)],.cons ⟨_,rfl⟩ (.cons ⟨_,rfl⟩ .nil),?_⟩
 exact ⟨_,Heap.get?_push_size s.heap rfl,rfl,⟨0,rfl⟩,rfl⟩
end
structure Yt (h:Heap)(x dx C:Addr)(mA:Str->Option Value):Prop where
 obj:h.get? x=some (PySem.W.instObj C dx)
 ns:h.Ns1 dx mA
 ne:dx ≠ x
theorem Jp {h:Heap}{dx:Addr}{mA:Str->Option Value}(n:h.Ns1 dx mA):∃ od,h.get? dx=some od/\∀ name,PySem.W.lookIn name od=some (mA name):=by
 obtain ⟨o,es,ep,ho,hd,hk,_,hm⟩:=n
 refine ⟨o,ho,fun name=>?_⟩
 have e:=hm name
 unfold nsFind findBy at e
 rw [<- Array.find?_toList] at e
 unfold PySem.W.lookIn
 rw [hd]
 dsimp only
 split
 ·rename_i y q
  rw [q] at e
  exact congrArg some e
 ·rename_i q
  rw [q] at e
  have a:es.toList.any (·.refKey)=false:=by
   rw [List.any_eq_false]
   intro y hy
   obtain ⟨z,t,hkey⟩:=hk y (Array.mem_toList_iff.mp hy)
   simp [DictEntry.refKey,hkey]
  have a':¬ es.toList.any (·.refKey)=true:=by rw [a];exact Bool.false_ne_true
  rw [if_neg a']
  exact congrArg some e
theorem Yt.look {h:Heap}{x dx C:Addr}{mA:Str->Option Value}(I:Yt h x dx C mA):∃ od,PySem.W.InstAt h x (PySem.W.instObj C dx) C (some od)/\∀ name,PySem.W.lookIn name od=some (mA name):=
 let ⟨od,ho,hl⟩:=Jp I.ns
 ⟨od,⟨I.obj,rfl,rfl,ho⟩,hl⟩
section
variable {prog:Program}{w:World}{A:Around}{E:Value->Shared->Prop}{s:Shared}{K:PySem.W.Frag}{x dx C f:Addr}{mA:Str->Option Value}{name:Str}{v:Value}
theorem Qo {ns:List Str}{Q:Unit->Shared->Prop}(X:K.In s.heap)(I:Yt s.heap x dx C mA)
  (hs:PySem.W.findIn K (.ref C) "__setattr__"=some (some (.builtin "object.__setattr__"))) (hp:PySem.W.plainOver K C=true) (ht:PySem.W.takerIn K C name=some none) (hh:PySem.W.hasDictIn K C=true)
  (hw:PySem.Within mA ns) (hsz:ns.length<=sizeLine)
  (h:∀ h',Yt h' x dx C (fun y=>if y=name then some v else mA y)->Heap.SameBut dx s.heap h'->Q () { s with heap:=h',toks:=s.toks+2 }) :
  wpAny (model prog w) A (setAttr (.ref x) name v) Q E s:=by
 obtain ⟨od,J,hl⟩:=I.look
 refine PySem.W.set_plain X J hs (PySem.W.osa_open (s:={ s with toks:=s.toks+1 }) (r:=none) X J hp ht fun b=>?_)
 obtain ⟨cd,hc,hd'⟩:=PySem.W.any_some hh
 have hx:s.heap.get? x=some ⟨.ref C,some dx,.plain,#[]⟩:=I.obj
 refine wpAny_bind (wpAny_pure (wpAny_bind (wpAny_bind (wpAny_loadPart hx (wpAny_bind (PySem.W.Looks.here (s:={ s with toks:=s.toks+1 }) (PySem.W.looks_clsIn X hc) ?_))))))
 rw [hd']
 refine wpAny_pure (a:=some dx) (wpAny_bind (wpAny_pure (wpAny_bind ?_)))
 refine wpAny_nsSet1 (s:={ s with toks:=s.toks+1 }) I.ns fun h' hn2 hs2=>?_
 obtain ⟨oD,esD,epD,hoD,hdD,hcD⟩:=hn2.count (PySem.Within.cons name v hw)
 refine wpAny_bind (wpAny_lookBehind hoD (by rw [hdD];exact pastItsLine_dict (Nat.le_trans hcD (by rw [List.length_cons];omega))) ?_)
 exact wpAny_pure (h _ ⟨(hs2.2 _ (Ne.symm I.ne)).trans I.obj,hn2,I.ne⟩ hs2)
end
theorem wj.some_of {v:V}{o:Option Value}(r:wj (some v) o):∃ u,o=some u/\zr v u:=by
 cases o with
 | none=>exact (show False from r).elim
 | some u=>exact ⟨u,rfl,r⟩
section
variable {P:Program}{w:World}{H H':Hp}{h h':Heap}{a C dx:Addr}{fs fs':List (Str × V)}
end
structure Cls (K:PySem.W.Frag)(C:Addr):Prop where
 pg:PySem.W.plainGet K C Str.empty=true
 hd:PySem.W.hasDictIn K C=true
 po:PySem.W.plainOver K C=true
 sa:PySem.W.findIn K (.ref C) "__setattr__"=some (some (.builtin "object.__setattr__"))
structure Con (K:PySem.W.Frag)(C:Addr)(f:Str)(v:V)(u:Value):Prop where
 at_:PySem.W.findIn K (.ref C) f=some (some u)
 rel:zr v u
 get:PySem.W.specialIn K u "__get__"=some none
 cp:PySem.W.copiedNames.contains f=false
structure Bt (K:PySem.W.Frag)(C:Addr)(m:Str)(f:Addr):Prop where
 at_:PySem.W.findIn K (.ref C) m=some (some (.ref f))
 fn:PySem.W.isFn K (.ref f)=true
 kp:PySem.W.keepIn K (.ref f)=true
section
variable {X:Cx}{pins:List (Addr × Obj)}{σ:St}{H:Hp}{s:Shared}{a C dx:Addr}{fs:List (Str × V)}{f:Str}{v:V}{A:Around}{E:Value->Shared->Prop}
end
section
variable {X:Cx}{o e value:Expr}{f:Str}{pos pos' tpos:Pos}{ta tv:TE}
end
section
variable {X:Cx}{pins:List (Addr × Obj)}{σ:St}{H:Hp}{s:Shared}{A:Around}{E:Value->Shared->Prop}{Q:Value->Shared->Prop}{c:Value}{b:Bool}
inductive xY (K:PySem.W.Frag) (H:Hp):V->Value->Prop where
  | non:xY K H .non (.type "NoneType")
  | bl (x:Bool):xY K H (.bl x) (.type "bool")
  | int (i:Int):xY K H (.int i) (.type "int")
  | str (x:Str):xY K H (.str x) (.type "str")
  | flt (x:UInt64):xY K H (.flt x) (.type "float")
  | lst {a:Addr} {xs:List V} (e:H a=some (.lst xs)):xY K H (.ref a) (.type "list")
  | frz {a:Addr} {o:Obj} {xs:List V} (e:H a=some (.frz o (.lst xs))):xY K H (.ref a) (.type "list")
  | tup {a:Addr} {xs:List V} (e:H a=some (.tup xs)):xY K H (.ref a) (.type "tuple")
  | dK {a:Addr} {kvs:List (Key × V)} (e:H a=some (.dK kvs)):xY K H (.ref a) (.type "dict")
  | dT {a:Addr} {kvs:List (List Key × V)} (e:H a=some (.dT kvs)):xY K H (.ref a) (.type "dict")
  | ins {a C dx : Addr} {fs : List (Str × V)} (e : H a = some (.ins C dx fs)) (cl : Cls K C) (ha : PySem.W.findIn K (.ref C) "__class__" = some (some (.builtin "object.__class__")))
      (hn:PySem.W.specialIn K (.builtin "object.__class__") "__get__"=some (some (.builtin "getset_descriptor.__get__"))) (htk:PySem.W.takesIn K (.builtin "object.__class__")=some true)
      (hm:PySem.W.mroIn K C (.type "object")=some true):xY K H (.ref a) (.ref C)
end
structure qZ (k:Nat)(A:Around):Prop where
 hd:A.handled=none
 gd:A.guards=some []
 dp:A.depth+3 * k+5<recursionLimit
 un:A.units+16 * k+200<cLine
theorem qZ.mono {j k:Nat}{A:Around}(r:qZ k A)(h:j<=k):qZ j A:=⟨r.hd,r.gd,by have:=r.dp;omega,by have:=r.un;omega⟩
theorem qZ.deeper {k:Nat}{A:Around}(r:qZ (k+1) A)(env:Env):qZ k (A.deeper env):=
 ⟨r.hd,r.gd,by have:=r.dp;show A.depth+1+3 * k+5<_;omega,by have:=r.un;show A.units+3+16 * k+200<_;omega⟩
theorem qZ.depth {k:Nat}{A:Around}(r:qZ k A):A.depth<recursionLimit:=by have:=r.dp;omega
theorem qZ.units {k:Nat}{A:Around}(r:qZ k A):A.units+64<cLine:=by have:=r.un;omega
noncomputable def W5:TA:=fun _ H Q=>Q [] H
noncomputable def K6 (ta:TE)(tr:TA):TA:=fun σ H Q=>ta σ H fun x H1=>tr σ H1 fun xs H2=>Q (x :: xs) H2
section
variable {X:Cx}{e:Expr}{es:List Expr}{te:TE}{t:TA}{pos:Pos}
theorem zb:PA X [] W5:=fun _ _ _ _ H Q I h=>Calls.spliced_nil ⟨[],H,I,.nil,h⟩
theorem za (ha:PE X e te)(hr:PA X es t)(hs:starEach (e :: es) X.env=(false,eval e X.env) :: starEach es X.env:=by rfl):PA X (e :: es) (K6 te t):=by
 intro pos pins s σ H Q I h
 rw [hs]
 show wpAny _ _ (spliced ((false,eval e X.env) :: backTo pos (starEach es X.env))) _ _ s
 refine Calls.spliced_cons (thn (ha pins s σ H _ I h) fun u s1 ⟨x,H1,I1,r1,q1⟩=>?_)
 exact thn (hr pos pins s1 σ H1 _ I1 q1) fun us s2 ⟨xs,H2,I2,r2,q2⟩=>⟨x :: xs,H2,I2,.cons r1 r2,q2⟩
noncomputable def YY (t:TA):TE:=fun σ H Q=>t σ H fun xs H1=>xs.length<=sizeLine/\∀ p,H1 p=none->Q (.ref p) (upd H1 p (.tup xs))
noncomputable def V9 (t:TA):TE:=fun σ H Q=>t σ H fun xs H1=>xs.length<=sizeLine/\∀ p,H1 p=none->Q (.ref p) (upd H1 p (.lst xs))
theorem qY {x1}(h:PA X es t):PE X (.Tuple es x1 pos) (YY t):=by
 intro pins s σ H Q I hq
 refine wpAny_Tuple_spliced (thn (h pos pins s σ H _ I hq) fun us s1 ⟨xs,H1,I1,r,z,q⟩=>⟨by rw [<- r.length];exact z,?_⟩)
 have hf:H1 s1.heap.objs.size=none:=I1.hok.fresh (Nat.le_refl _)
 refine ⟨.ref s1.heap.objs.size,upd H1 s1.heap.objs.size (.tup xs),I1.laid (t':=s1.toks) (fun b u e=>Heap.get?_push_of_some _ e) (Nat.le_refl _) ?_,rfl,q _ hf⟩
 exact ⟨z,us,r,⟨_,Heap.get?_push_size _ rfl,rfl,⟨_,rfl⟩,rfl⟩⟩
theorem qd (h:PA X es t):PE X (.List es pos) (V9 t):=by
 intro pins s σ H Q I hq
 refine wpAny_List_spliced (thn (h pos pins s σ H _ I hq) fun us s1 ⟨xs,H1,I1,r,z,q⟩=>⟨by rw [<- r.length];exact z,?_⟩)
 have hf:H1 s1.heap.objs.size=none:=I1.hok.fresh (Nat.le_refl _)
 refine ⟨.ref s1.heap.objs.size,upd H1 s1.heap.objs.size (.lst xs),I1.laid (t':=s1.toks) (fun b u e=>Heap.get?_push_of_some _ e) (Nat.le_refl _) ?_,rfl,q _ hf⟩
 exact ⟨z,us,0,r,Heap.get?_push_size _ rfl⟩
end
noncomputable abbrev Sp:=List V->Hp->VK->XK->Prop
noncomputable abbrev CXT:=List Env->Hp->Shared->XK->Value->Shared->Prop
structure YE (P:Program)(w:World)(K:PySem.W.Frag)(mg:Str->Option Value)(base:Heap)(A:Around)(outer:List Env)(s:Shared)(H:Hp):Prop where
 frames:A.frames=some outer
 mod:Mod K mg base
 bs:∀ b o,base.get? b=some o->s.heap.get? b=some o/\H b=none
 bsz:base.objs.size<=s.heap.objs.size
 funs:s.heap.FunFrames base outer
 frf:∀ b ∈ frs outer,H b=none
 hok:HOk P w H s.heap
 bare:AllBare s.gens
noncomputable def CE (outer:List Env)(P:Program)(w:World)(H:Hp)(s:Shared)(Q:VK)(u:Value)(s':Shared):Prop:=
 ∃ v H',s'.os=s.os/\AllBare s'.gens/\Un (frs outer) [] H H' s.heap s'.heap/\HOk P w H' s'.heap/\zr v u/\Q v H'
noncomputable def CR (CX:CXT)(outer:List Env)(P:Program)(w:World)(H:Hp)(s:Shared)(Q:VK)(E:XK)(r:Result)(s':Shared):Prop:=
 match r with
 | .ok (.ret u)=>CE outer P w H s Q u s'
 | .ok _=>False
 | .error e=>CX outer H s E e s'
structure jE (P:Program)(w:World)(K:PySem.W.Frag)(mg:Str->Option Value)(base:Heap)(CX:CXT)(k:Nat)(f:Addr)(fd:FuncData)(ps:List Str)(sp:Sp):Prop where
 len:∀ vs H Q E,sp vs H Q E->vs.length=ps.length
 run:∀ (A:Around) (outer:List Env) (s:Shared) (H:Hp) (args:Args) (us:List Value) (vs:List V) (Q:VK) (E:XK),qZ k A->YE P w K mg base A outer s H->BindsTo s fd args (ps.zip us)->zq vs us->sp vs H Q E ->
  codeAny (model P w) A (.call (.ref f) args) (CR CX outer P w H s Q E) s
theorem jE.mono {P:Program}{w:World}{K:PySem.W.Frag}{mg:Str->Option Value}{base:Heap}{CX:CXT}{j k:Nat}{f:Addr}{fd:FuncData}{ps:List Str}{sp:Sp}(F:jE P w K mg base CX j f fd ps sp)(h:j<=k) :
  jE P w K mg base CX k f fd ps sp:=⟨F.len,fun A outer s H args us vs Q E hr=>F.run A outer s H args us vs Q E (hr.mono h)⟩
theorem jE.imp {P:Program}{w:World}{K:PySem.W.Frag}{mg:Str->Option Value}{base:Heap}{CX:CXT}{k:Nat}{f:Addr}{fd:FuncData}{ps:List Str}{sp sp':Sp}(F:jE P w K mg base CX k f fd ps sp)
  (h:∀ vs H Q E,sp' vs H Q E->sp vs H Q E):jE P w K mg base CX k f fd ps sp':=
 ⟨fun vs H Q E q=>F.len vs H Q E (h _ _ _ _ q),fun A outer s H args us vs Q E hr he hb hv hs=>F.run A outer s H args us vs Q E hr he hb hv (h _ _ _ _ hs)⟩
section
variable {X:Cx}{pins:List (Addr × Obj)}{σ:St}{H:Hp}{s s':Shared}
theorem Inv.env0 (I:Inv X pins σ H s):YE X.prog X.w X.K X.mg X.base X.A X.stack s H:=
 ⟨I.ok.frames,I.ok.mod,I.bs,Nat.le_trans I.ok.bsz I.sz,I.stack,I.stkFree,I.hok,I.bare⟩
theorem Inv.after {Q:VK}{u:Value}(I:Inv X pins σ H s)(h:CE X.stack X.prog X.w H s Q u s'):EP X pins σ Q u s':=by
 obtain ⟨v,H',os,bare,un,hok,r,q⟩:=h
 obtain ⟨hh,g,d,t,os'⟩:=s'
 obtain rfl:os'=s.os:=os
 exact ⟨v,H',I.call (h':=hh) (g':=g) (d':=d) (t':=t) (ch:=[]) un hok bare (fun b z=>absurd z (by simp)),r,q⟩
end
noncomputable def ZK (sp:Sp)(dvs:List V)(E:XK)(t:TA):TE:=fun σ H Q=>t σ H fun vs H1=>sp (vs ++ dvs) H1 Q E
noncomputable def xU (K:PySem.W.Frag)(fd:FuncData)(ps:List Str)(ds:List Value):Prop:=
 ∀ (s:Shared) (us:List Value),K.In s.heap->(us ++ ds).length=ps.length->BindsTo s fd ⟨us,[]⟩ (ps.zip (us ++ ds))
theorem xU.all {K:PySem.W.Frag}{fd:FuncData}{ps:List Str}(h:∀ us:List Value,us.length=ps.length->bindArgs fd ⟨us,[]⟩=pure (ps.zip us)):xU K fd ps []:=fun s us _ hl=>by
 rw [List.append_nil] at hl ⊢
 exact .of_eq (h us hl)
noncomputable def Zk (CX:CXT)(X:Cx)(E:XK):Prop:=∀ (pins:List (Addr × Obj)) (σ:St) (H:Hp) (s:Shared) (e:Value) (s':Shared),Inv X pins σ H s->CX X.stack H s E e s'->X.xe e s'
section
variable {X:Cx}{CX:CXT}{k:Nat}{f C:Addr}{fd:FuncData}{ps:List Str}{sp:Sp}{dvs:List V}{ds:List Value}{E:XK}{x m:Str}{p pos apos:Pos}{e o:Expr}{es:List Expr}{ta:TE}{t:TA}
theorem WM {pins:List (Addr × Obj)}{σ:St}{H:Hp}{s:Shared}{Q:VK}{us:List Value}{vs:List V}(F:jE X.prog X.w X.K X.mg X.base CX k f fd ps sp)(hr:qZ k X.A)(hb:xU X.K fd ps ds)(hd:zq dvs ds)(hx:Zk CX X E)
  (I:Inv X pins σ H s) (r:zq vs us) (h:sp (vs ++ dvs) H Q E):wpAny (model X.prog X.w) X.A (call (.ref f) us) (EP X pins σ Q) X.xe s:=by
 have r2:zq (vs ++ dvs) (us ++ ds):=r.append hd
 have hl:(us ++ ds).length=ps.length:=by rw [<- r2.length];exact F.len _ _ _ _ h
 refine wpAny_call (codeAny_mono (F.run X.A X.stack s H ⟨us,[]⟩ (us ++ ds) (vs ++ dvs) Q E hr I.env0 (hb s us I.kIn hl) r2 h) fun r s' hq=>?_)
 cases r with
 | error e=>exact hx pins σ H s e s' I hq
 | ok fl=>
  cases fl with
  | ret u=>exact I.after hq
  | next=>exact False.elim hq
  | brk=>exact False.elim hq
  | cont=>exact False.elim hq
theorem YX (F:jE X.prog X.w X.K X.mg X.base CX k f fd ps sp)(hr:qZ k X.A)(hg:Gl X x)(hm:X.mg x=some (.ref f))(hk:PySem.W.keepIn X.K (.ref f)=true)(hb:xU X.K fd ps ds)(hd:zq dvs ds)(hx:Zk CX X E)
  (ha:PA X (e :: es) t) (hdb:(x == ("__debug__":Str))=false:=by decide) (he:starEach (e :: es) X.env=(false,eval e X.env) :: starEach es X.env:=by rfl) (hpl:(backTo pos (starEach es X.env)).any (·.1)=false:=by rfl) :
  PE X (.Call (.Name x p) (e :: es) [] pos) (ZK sp dvs E t):=by
 intro pins s σ H Q I h
 refine wpAny_Call_Name_kw (Yb I hg hm ?_ hdb)
 refine PySem.W.callWith_K (h₀:=X.base) I.ok.mod.kin hk (thn (ha pos pins s σ H _ I h) fun us s1 ⟨vs,H1,I1,r,q⟩=>⟨I1.kIn,?_⟩) he hpl
 exact WM F hr hb hd hx I1 r q
structure Mk (K:PySem.W.Frag)(C f:Addr):Prop where
 makes:PySem.W.makesIn K C=true
 init:PySem.W.findIn K (.ref C) "__init__"=some (some (.ref f))
 fn:PySem.W.isFn K (.ref f)=true
 kp:PySem.W.keepIn K (.ref C)=true
end
section
variable {X:Cx}{CX:CXT}{k:Nat}{f C:Addr}{fd:FuncData}{ps ks:List Str}{sp:Sp}{E:XK}{x m:Str}{p pos apos kpos:Pos}{e o:Expr}{es:List Expr}{kws:List Keyword}{te ta:TE}{t tk:TA}{nm:Option Str}
structure Dh (K:PySem.W.Frag)(fd:FuncData)(ps ks:List Str)(g:List Value->List Value->List Value)(gV:List V->List V->List V):Prop where
 to:∀ (s:Shared) (us ws:List Value),K.In s.heap->(g us ws).length=ps.length->BindsTo s fd ⟨us,ks.zip ws⟩ (ps.zip (g us ws))
 rel:∀ {vs:List V} {us:List Value} {zs:List V} {ws:List Value},zq vs us->zq zs ws->zq (gV vs zs) (g us ws)
variable {g:List Value->List Value->List Value}{gV:List V->List V->List V}
end
structure zE (N P:List Str)(sc:Scope):Prop where
 kind:sc.kind=.function
 co:sc.isCoroutine=false
 gen:sc.isGenerator=false
 nd:N.Nodup
 pre:N.take P.length=P
 par:∀ x ∈ P,sc.names.lookup x=some .local \/ sc.names.lookup x=some .cell
 nofree:∀ y ∈ sc.names,y.2 ≠ .free
theorem yn {kindOf:Str->Option NameKind}{x:Str}:∀ {binds:List (Str × Value)} {m:Str->Option Value},(∀ v,(x,v) ∉ binds)->bindL kindOf binds m x=m x
 | [],_,_=>rfl
 | (n,v) :: r,m,h=>by
  unfold bindL
  rw [yn fun w hw=>h w (List.mem_cons_of_mem _ hw)]
  split
  ·have:x ≠ n:=by rintro rfl;exact h v List.mem_cons_self
   simp [this]
  ·rfl
theorem yq {kindOf:Str->Option NameKind}{x:Str}:∀ {binds:List (Str × Value)} {m:Str->Option Value},(∀ v,(x,v) ∉ binds)->bindC kindOf binds m x=m x
 | [],_,_=>rfl
 | (n,v) :: r,m,h=>by
  unfold bindC
  rw [yq fun w hw=>h w (List.mem_cons_of_mem _ hw)]
  split
  ·rfl
  ·have:x ≠ n:=by rintro rfl;exact h v List.mem_cons_self
   simp [this]
theorem yF {kindOf:Str->Option NameKind}{x:Str}{v:Value}:∀ {P:List Str} {vs:List Value} {i:Nat} {m:Str->Option Value},P.Nodup->P[i]?=some x->vs[i]?=some v->kindOf x=some .local ->
  bindL kindOf (P.zip vs) m x=some v
 | [],_,_,_,_,h,_,_=>by simp at h
 | _ :: _,[],_,_,_,_,h,_=>by simp at h
 | p :: P,w :: vs,0,m,nd,h1,h2,hk=>by
  simp at h1 h2;subst h1;subst h2
  show bindL kindOf ((p,w) :: P.zip vs) m p=_
  unfold bindL
  rw [yn fun v hv=>(List.nodup_cons.mp nd).1 (List.of_mem_zip hv).1,if_pos hk]
  simp
 | p :: P,w :: vs,i+1,m,nd,h1,h2,hk=>by
  show bindL kindOf ((p,w) :: P.zip vs) m x=_
  unfold bindL
  exact yF (i:=i) (List.nodup_cons.mp nd).2 (by simpa using h1) (by simpa using h2) hk
theorem yC {kindOf:Str->Option NameKind}{x:Str}{v:Value}:∀ {P:List Str} {vs:List Value} {i:Nat} {m:Str->Option Value},P.Nodup->P[i]?=some x->vs[i]?=some v->kindOf x ≠ some .local ->
  bindC kindOf (P.zip vs) m x=some v
 | [],_,_,_,_,h,_,_=>by simp at h
 | _ :: _,[],_,_,_,_,h,_=>by simp at h
 | p :: P,w :: vs,0,m,nd,h1,h2,hk=>by
  simp at h1 h2;subst h1;subst h2
  show bindC kindOf ((p,w) :: P.zip vs) m p=_
  unfold bindC
  rw [yq fun v hv=>(List.nodup_cons.mp nd).1 (List.of_mem_zip hv).1,if_neg hk]
  simp
 | p :: P,w :: vs,i+1,m,nd,h1,h2,hk=>by
  show bindC kindOf ((p,w) :: P.zip vs) m x=_
  unfold bindC
  exact yC (i:=i) (List.nodup_cons.mp nd).2 (by simpa using h1) (by simpa using h2) hk
noncomputable def qx (N:List Str)(vs:List V):St:=vs.map some ++ List.replicate (N.length - vs.length) none
noncomputable def vd (CX:CXT)(P:Program)(w:World)(K:PySem.W.Frag)(mg:Str->Option Value)(base:Heap)(N:List Str)(qual:Str)(scope:Scope)(f:Addr)(cd:Value)(A:Around)(outer:List Env)(s:Shared)(H:Hp)(E:XK):Cx where
 prog:=P
 w:=w
 K:=K
 mg:=mg
 base:=base
 A:=A.deeper (envOfC qual scope s.heap.objs.size f cd)
 N:=N
 s₀:=s
 H₀:=H
 env:=envOfC qual scope s.heap.objs.size f cd
 outer:=outer
 stack:=envOfC qual scope s.heap.objs.size f cd :: outer
 ex:=[]
 calm:=true
 fn:=fun _=>true
 pn:=[]
 xe:=fun e s'=>wpAny (model P w) (A.deeper (envOfC qual scope s.heap.objs.size f cd)) (leaving (envOfC qual scope s.heap.objs.size f cd) e) (fun _ s''=>CX outer H s E e s'') (fun e' s''=>CX outer H s E e' s'') s'
theorem wd {sc:Scope}{n:Nat}{x:Str}(h:sc.names.lookup x=some .cell):∃ c,(cellsFrom n sc.names []).lookup x=some c:=by
 have q:=PySem.W.cellsFrom_some sc.names n [] (.inl h)
 exact Option.isSome_iff_exists.mp q
theorem Qt {CX : CXT}{P : Program}{w : World}{K : PySem.W.Frag}{mg : Str -> Option Value}{base : Heap}{N ps : List Str}{qual : Str}{scope : Scope}{f : Addr}{cd : Value}{A : Around}{outer : List Env}{s s1 : Shared}{H : Hp}{E : XK}{us : List Value}{vs : List V}
    (S:zE N ps scope) (hd:A.handled=none) (e0:YE P w K mg base A outer s H) (hl:vs.length=ps.length) (r:zq vs us)
    (x:InCallC s s.heap.objs.size (bindL (envOfC qual scope s.heap.objs.size f cd).kindOf (ps.zip us) fun _=>none) (cellsFrom (s.heap.objs.size+1) scope.names []) (bindC (envOfC qual scope s.heap.objs.size f cd).kindOf (ps.zip us) fun _=>none) s1) :
    Inv (vd CX P w K mg base N qual scope f cd A outer s H E) [] (qx N vs) H s1:=by
  have hpl:ps.length<=N.length:=by have:=congrArg List.length S.pre;rw [List.length_take] at this;omega
  obtain ⟨h1,tk,rfl,hk⟩:=x.done
  have noA:∀ b:Addr,b ∉ (vd CX P w K mg base N qual scope f cd A outer s H E).ex:=fun b z=>absurd (show b ∈ ([]:List Addr) from z) (by simp)
  refine ⟨⟨e0.mod,S.kind,rfl,rfl,Nat.le_refl _,fun y z c h1 h2=>?_,fun y hy=>?_,fun y c _ h=>?_,fun _=>hd,Around.frames_deeper e0.frames,.inr ⟨rfl,rfl⟩,fun b z=>absurd z (noA b),e0.bs,e0.bsz,fun b _ _=>noA b,fun b z=>absurd z (noA b),e0.funs,e0.frf⟩,
    rfl,e0.bare,Un.kept hk,⟨_,x.toInCall.ns,fun i y v h1 h2 h3=>?_⟩,fun y c h=>⟨_,x.cell y c h⟩,e0.hok.fresh (Nat.le_refl _),fun y c h=>?_,fun p hp=>absurd (show p ∈ ([]:List (Addr × Obj)) from hp) (by simp),e0.hok.kept hk,?_⟩
  · exact name_of_addr x.apart (PySem.mem_of_lookup h1) (PySem.mem_of_lookup h2)
  · have hy:scope.names.lookup y=some .cell \/ scope.names.lookup y=some .free:=hy
    rcases hy with hy | hy
    · exact wd hy
    · exact absurd rfl (S.nofree _ (PySem.mem_of_lookup hy))
  · exact Nat.le_of_lt (x.above y c (PySem.mem_of_lookup h))
  · have hi : i < vs.length := by
      unfold qx at h2
      by_cases hi:i<vs.length
      · exact hi
      · rw [List.getElem?_append_right (by simpa using hi)] at h2
        rw [List.getElem?_replicate] at h2
        split at h2 <;> cases h2
    have ha:vs[i]?=some v:=by
      unfold qx at h2
      rw [List.getElem?_append_left (by simpa using hi),List.getElem?_map] at h2
      cases e:vs[i]? with
      | none=>rw [e] at h2;cases h2
      | some a=>rw [e] at h2;cases h2;rfl
    obtain ⟨u,hu,rv⟩:=r.get ha
    have hp:ps[i]?=some y:=by
      rw [<- S.pre,List.getElem?_take_of_lt (by omega)];exact h1
    have ndP:ps.Nodup:=by rw [<- S.pre];exact S.nd.sublist (List.take_sublist _ _)
    refine ⟨u,rv,?_⟩
    rcases S.par y (List.mem_of_getElem? hp) with k | k
    · exact .inl ⟨k,yF ndP hp hu k⟩
    · obtain ⟨c,e⟩:=wd (n:=s.heap.objs.size+1) k
      refine .inr ⟨.inl k,c,e,?_⟩
      have q:=x.cell y c e
      rw [yC ndP hp hu (by show scope.names.lookup y ≠ _;rw [k];decide)] at q
      exact q
  · exact e0.hok.fresh (Nat.le_of_lt (x.above y c (PySem.mem_of_lookup h)))
  · unfold qx
    show _=N.length
    rw [List.length_append,List.length_map,List.length_replicate]
    omega
theorem Br {CX:CXT}{P:Program}{w:World}{K:PySem.W.Frag}{mg:Str->Option Value}{base:Heap}{k:Nat}{f:Addr}{name qual:Str}{params:Arguments}{body:List Stmt}{scope:Scope}{dV kV doc pm cdv ct oc:Value}{an od:Option Addr}
  {osl:Array (Option Value)} {N ps:List Str} {sp:Sp} (lk:K.lookup f=some ⟨oc,od,.func (PySem.W.fnOf name qual params body scope dV kV doc pm an cdv ct),osl⟩) (hcd:PySem.W.codeIn K cdv qual=true) (S:zE N ps scope)
  (len:∀ vs H Q E,sp vs H Q E->vs.length=ps.length)
  (hbody:∀ (A:Around) (outer:List Env) (s:Shared) (H:Hp) (vs:List V) (Q:VK) (E:XK),qZ k (A.deeper (envOfC qual scope s.heap.objs.size f cdv))->sp vs H Q E ->
   ∃ t,PSs (vd CX P w K mg base N qual scope f cdv A outer s H E) body t/\t { nx:=fun _ H'=>Q .non H',rt:=Q } (qx N vs) H) :
  jE P w K mg base CX (k+1) f (PySem.W.fnOf name qual params body scope dV kV doc pm an cdv ct) ps sp:=by
 refine ⟨len,fun A outer s H args us vs Q E hr e0 hb r hsp=>?_⟩
 have hl:=len _ _ _ _ hsp
 have KX:K.In s.heap:=e0.mod.kin.keeps fun b o e=>(e0.bs b o e).1
 have lim:s.heap.NoLimit:=e0.mod.nolimit.keeps fun b o e=>(e0.bs b o e).1
 have hkind:∀ y ∈ ps.zip us,scope.names.lookup y.1=some .local \/ (scope.names.lookup y.1=some .cell/\((cellsFrom (s.heap.objs.size+1) scope.names []).lookup y.1).isSome=true):=fun ⟨n,v⟩ hy=>by
  rcases S.par n (List.of_mem_zip hy).1 with q | q
  ·exact .inl q
  ·exact .inr ⟨q,PySem.W.cellsFrom_some _ _ _ (.inl q)⟩
 refine codeAny_call_function hr.depth (KX _ _ lk) rfl S.co S.gen rfl (PySem.W.codeRec_of KX hcd) (hb _ _ _ _ ?_)
 refine wpAny_newFunctionEnv_cells S.kind hkind fun env he s1 x=>?_
 subst he
 refine ⟨lim.keeps x.toInCall.keep,codeAny_func ?_⟩
 obtain ⟨t,ht,hq⟩:=hbody A outer s H vs Q E (hr.deeper _) hsp
 have I:Inv (vd CX P w K mg base N qual scope f cdv A outer s H E) [] (qx N vs) H s1:=Qt S hr.hd e0 hl r x
 refine wpAny_mono (ht [] s1 (qx N vs) H _ I hq) (fun fl s' hs=>?_) fun e s' hs=>hs
 have fin:∀ {σ':St} {H':Hp} {v:V} {u:Value},Inv (vd CX P w K mg base N qual scope f cdv A outer s H E) [] σ' H' s'->zr v u->Q v H'->CE outer P w H s Q u s':=
  fun {σ' H' v u} J rv q=>⟨v,H',J.os,J.bare,J.base,J.hok,rv,q⟩
 cases fl with
 | ret u=>
  obtain ⟨v,σ',H',J,rv,q⟩:=hs
  exact fin J rv q
 | next=>
  obtain ⟨σ',H',J,q⟩:=hs
  exact fin (v:=V.non) (u:=Value.none) J rfl q
 | brk=>
  obtain ⟨_,_,_,q⟩:=hs
  exact False.elim q
 | cont=>
  obtain ⟨_,_,_,q⟩:=hs
  exact False.elim q
section
variable {X:Cx}{x:Str}{p pos:Pos}{e:Expr}{es:List Expr}{t:TA}{id T:String}{r:List V->Hp->VK->Prop}
noncomputable def tCB (r:List V->Hp->VK->Prop)(t:TA):TE:=fun σ H Q=>t σ H fun vs H1=>r vs H1 Q
theorem zC (hc:jn X (.builtin id) r)(hg:Gl X x)(hm:X.mg x=none)(hv:bootBuiltins x=some (.builtin id))(ha:PA X (e :: es) t)(hn:x ≠ "__name__":=by decide)(hdb:(x == ("__debug__":Str))=false:=by decide)
  (he:starEach (e :: es) X.env=(false,eval e X.env) :: starEach es X.env:=by rfl) (hpl:(backTo pos (starEach es X.env)).any (·.1)=false:=by rfl):PE X (.Call (.Name x p) (e :: es) [] pos) (tCB r t):=by
 intro pins s σ H Q I h
 refine wpAny_Call_Name_kw (xp I hg hm hv ?_ hn hdb)
 exact PyProof.Rows.callWith_builtin1 (thn (ha pos pins s σ H _ I h) fun us s1 ⟨vs,H1,I1,r1,q1⟩=>hc pins s1 σ H1 vs us Q I1 r1 q1) he hpl
theorem zM (hc:jn X (.type T) r)(hg:Gl X x)(hm:X.mg x=none)(hv:bootBuiltins x=some (.type T))(ha:PA X (e :: es) t)(hn:x ≠ "__name__":=by decide)(hdb:(x == ("__debug__":Str))=false:=by decide)
  (he:starEach (e :: es) X.env=(false,eval e X.env) :: starEach es X.env:=by rfl) (hpl:(backTo pos (starEach es X.env)).any (·.1)=false:=by rfl):PE X (.Call (.Name x p) (e :: es) [] pos) (tCB r t):=by
 intro pins s σ H Q I h
 refine wpAny_Call_Name_kw (xp I hg hm hv ?_ hn hdb)
 exact PyProof.Rows.callWith_type1 (thn (ha pos pins s σ H _ I h) fun us s1 ⟨vs,H1,I1,r1,q1⟩=>hc pins s1 σ H1 vs us Q I1 r1 q1) he hpl
end
end L2
namespace HT
open PySem PyProof.Rows
section
open PySem.SeqAt
open PySem.AutoSeq1 (wpAny_loadPart')
open PySem.MeetsSeq PySem.MeetsSeq2 PySem.MeetsSeq3
end
section
variable {prog:Program}{w:World}{A:Around}{E:Value->Shared->Prop}{s:Shared}
noncomputable def sIx (n d:Nat):Option Int->Nat
 | none=>d
 | some v=>if v<0 then (v+(n:Int)).toNat else min v.toNat n
theorem sIx_none (n d:Nat):sIx n d none=d:=rfl
theorem sIx_nat (n d k:Nat):sIx n d (some (k:Int))=min k n:=by
 show (if (k:Int)<0 then ((k:Int)+(n:Int)).toNat else min (k:Int).toNat n)=min k n
 rw [if_neg (by omega),Int.toNat_natCast]
end
end HT
namespace L2
open PySem PySem.Spec PyProof.Rows
noncomputable abbrev TO:=St->Hp->(Option Int->Hp->Prop)->Prop
noncomputable def PO (X:Cx)(e:Option Expr)(t:TO):Prop:=
 ∀ (pins:List (Addr × Obj)) (s:Shared) (σ:St) (H:Hp) (Q:Option Int->Hp->Prop),Inv X pins σ H s->t σ H Q ->
  wpAny (model X.prog X.w) X.A (evalPart e X.env) (fun u s'=>∃ o H',Inv X pins σ H' s'/\IsPart u o/\Q o H') X.xe s
noncomputable def yG:TO:=fun _ H Q=>Q none H
noncomputable def JK (t:TE):TO:=fun σ H Q=>t σ H fun x H1=>∃ i,x=.int i/\Q (some i) H1
section
variable {X:Cx}{e:Expr}{te:TE}{lo hi:Option Expr}{tl th:TO}{pos p2:Pos}
theorem yI:PO X none yG:=by
 intro pins s σ H Q I h
 rw [evalPart_none]
 exact wpAny_pure ⟨none,H,I,.none,h⟩
theorem kj (h:PE X e te):PO X (some e) (JK te):=by
 intro pins s σ H Q I hw
 rw [evalPart_some]
 refine thn (h pins s σ H _ I hw) fun u s1 ⟨x,H1,I1,r1,q1⟩=>?_
 obtain ⟨i,rfl,q⟩:=q1
 obtain ⟨t,rfl⟩:=r1
 exact ⟨some i,H1,I1,.int i t,q⟩
noncomputable def SlR (X:Cx)(r:V->Option Int->Option Int->Hp->VK->Prop):Prop:=
 ∀ (pins:List (Addr × Obj)) (s:Shared) (σ:St) (H:Hp) (x:V) (v vl vu:Value) (lo hi:Option Int) (sl:Addr) (Q:VK),Inv X pins σ H s->zr x v->s.heap.IsSliceOf sl vl vu .none->IsPart vl lo->IsPart vu hi->r x lo hi H Q ->
  ∃ T id,typeLookup (.type T) "__getitem__"=pure (some (.builtin id))/\s.TypeIs v T/\wpAny (model X.prog X.w) X.A (getItem v (.ref sl)) (EP X pins σ Q) X.xe s
noncomputable def tSl (r:V->Option Int->Option Int->Hp->VK->Prop)(te:TE)(tl th:TO):TE:=fun σ H Q=>te σ H fun x H1=>tl σ H1 fun l H2=>th σ H2 fun u H3=>r x l u H3 Q
theorem ka {r:V->Option Int->Option Int->Hp->VK->Prop}(hr:SlR X r)(he:PE X e te)(hl:PO X lo tl)(hu:PO X hi th):PE X (.Subscript e (.Slice lo hi none p2) pos) (tSl r te tl th):=by
 intro pins s σ H Q I h
 refine Subscript_ (thn (he pins s σ H _ I h) fun v s1 ⟨x,H1,I1,r1,q1⟩=>?_)
 refine wpAny_Slice (thn (hl pins s1 σ H1 _ I1 q1) fun vl s2 ⟨l,H2,I2,pl,q2⟩=>thn (hu pins s2 σ H2 _ I2 q2) fun vu s3 ⟨u,H3,I3,pu,q3⟩=>?_)
 rw [evalPart_none]
 refine wpAny_pure ?_
 have I4:Inv X pins σ H3 { s3 with heap:=s3.heap.push { cls:=.type "slice",data:=.fields #[vl,vu,.none] } }:=I3.kept (t':=s3.toks) fun b ob q=>Heap.get?_push_of_some _ q
 obtain ⟨T,id,hT,ht,hg⟩:=hr pins { s3 with heap:=s3.heap.push { cls:=.type "slice",data:=.fields #[vl,vu,.none] } } σ H3 x v vl vu l u s3.heap.objs.size Q I4 r1 (Heap.IsSliceOf.new ..) pl pu q3
 show wpAny (model X.prog X.w) X.A (subscriptTail e (.Slice lo hi none p2) v (.ref s3.heap.objs.size)) (EP X pins σ Q) X.xe { s3 with heap:=s3.heap.push { cls:=.type "slice",data:=.fields #[vl,vu,.none] } }
 exact tail_any (ops:=[.ref s3.heap.objs.size,v]) ht hT hg (by with_unfolding_all rfl)
noncomputable def wb (xs:List V)(lo hi:Option Int):List V:=(xs.drop (HT.sIx xs.length 0 lo)).take (HT.sIx xs.length xs.length hi - HT.sIx xs.length 0 lo)
theorem vw (xs:List V)(lo hi:Option Int):(wb xs lo hi).length<=xs.length:=by
 unfold wb
 rw [List.length_take,List.length_drop]
 omega
end
noncomputable def ixN (n:Nat)(i:Int):Option Nat:=if 0<=i then (if i<n then some i.toNat else none) else if -(n:Int)<=i then some (i+n).toNat else none
noncomputable def atI {α:Type}(xs:List α)(i:Int):Option α:=(ixN xs.length i).bind fun j=>xs[j]?
theorem Qi {n:Nat}{i:Int}{j:Nat}(h:ixN n i=some j):seqIndex? i n=some j/\j<n/\-(n:Int)<=i/\i<n:=by
 unfold ixN at h
 by_cases h0:0<=i
 ·rw [if_pos h0] at h
  by_cases h1:i<n
  ·rw [if_pos h1] at h
   have e:i.toNat=j:=Option.some.inj h
   exact ⟨by rw [seqIndex_of h0 h1,e],by omega,by omega,h1⟩
  ·rw [if_neg h1] at h;cases h
 ·rw [if_neg h0] at h
  by_cases h1:-(n:Int)<=i
  ·rw [if_pos h1] at h
   have e:(i+n).toNat=j:=Option.some.inj h
   exact ⟨by rw [seqIndex_neg (by omega) h1,e],by omega,h1,by omega⟩
  ·rw [if_neg h1] at h;cases h
theorem ZO {α:Type}{xs:List α}{i:Int}{v:α}(h:atI xs i=some v):∃ j,seqIndex? i xs.length=some j/\xs[j]?=some v/\j<xs.length/\-(xs.length:Int)<=i/\i<xs.length:=by
 unfold atI at h
 cases e:ixN xs.length i with
 | none=>rw [e] at h;cases h
 | some j=>
  rw [e] at h
  obtain ⟨h1,h2,h3,h4⟩:=Qi e
  exact ⟨j,h1,h,h2,h3,h4⟩
theorem XX {α:Type}{xs:List α}{j:Nat}{v:α}(h:xs[j]?=some v):atI xs (j:Int)=some v:=by
 have hj:j<xs.length:=(List.getElem?_eq_some_iff.mp h).1
 have e:ixN xs.length (j:Int)=some j:=by
  unfold ixN
  rw [if_pos (by omega),if_pos (by omega)];simp
 unfold atI;rw [e];exact h
noncomputable def Vn (b:Expr):Prop:=∀ o i,subscripted b false o i=operate [o,i] (getItem o i)
noncomputable def IxR (X:Cx)(r:R2):Prop:=
 ∀ (value slice:Expr) (pins:List (Addr × Obj)) (s:Shared) (σ:St) (H:Hp) (x y:V) (v u:Value) (Q:VK),Inv X pins σ H s->zr x v->zr y u->r x y H Q ->
  subscripted slice false v u=operate [v,u] (getItem v u)->wpAny (model X.prog X.w) X.A (subscriptTail value slice v u) (EP X pins σ Q) X.xe s
noncomputable def MtR (X:Cx)(id:String)(r:V->List V->Hp->VK->Prop):Prop:=
 ∀ (pins:List (Addr × Obj)) (s:Shared) (σ:St) (H:Hp) (x:V) (xs:List V) (v:Value) (us:List Value) (Q:VK),Inv X pins σ H s->zr x v->zq xs us->r x xs H Q ->
  wpAny (model X.prog X.w) X.A (call (.builtin id) (v :: us)) (EP X pins σ Q) X.xe s
section
variable {X:Cx}{a b:Expr}{ta tb:TE}{pos:Pos}
theorem zU {r:R2}(hr:IxR X r)(ha:PE X a ta)(hb:PE X b tb)(hs:Vn b):PE X (.Subscript a b pos) (tOp r ta tb):=by
 intro pins s σ H Q I h
 exact Subscript_ (AB ha hb I h fun v u s2 x y H2 I2 rx ry q=>hr a b pins s2 σ H2 x y v u Q I2 rx ry q (hs _ _))
noncomputable def BB (K:PySem.W.Frag):R2:=fun x y H Q=>∃ p xs i v,x=.ref p/\y=.int i/\SqL K H p xs/\atI xs i=some v/\Q v H
noncomputable def BZ (K:PySem.W.Frag):R2:=fun x y H Q=>∃ p xs i v,x=.ref p/\y=.int i/\SqT K H p xs/\atI xs i=some v/\Q v H
theorem zT:IxR X (BB X.K):=by
  intro value slice pins s σ H x y v u Q I rx ry h hs
  obtain ⟨p,xs,i,z,rfl,rfl,hq,he,q⟩:=h
  cases rx
  obtain ⟨t,rfl⟩:=ry
  obtain ⟨its,r,pl,hz⟩:=I.list hq
  obtain ⟨j,h1,h2,h3,h4,h5⟩:=ZO he
  obtain ⟨w,ew,rw'⟩:=r.get h2
  have hl:=r.length
  have hn:=xv
  have fin:EP X pins σ Q w s:=⟨z,H,I,rw',q⟩
  by_cases h0:0<=i
  · have hj : i.toNat = j := by
      rw [seqIndex_of h0 h5] at h1
      exact Option.some.inj h1
    exact item_listR pl.isList h0 (by omega) (by rw [hj];simpa using ew) fin hs
  · have hj : (i + (its.toArray.size : Int)).toNat = j := by
      rw [seqIndex_neg (by omega) h4] at h1
      rw [List.size_toArray,<- hl]
      exact Option.some.inj h1
    exact subscriptTail_builtinR (x:=w) pl.isList.typeIs slot_list_getitem.lookup
      (wpAny_getItem_list_neg (Q:=fun r s'=>r=w/\EP X pins σ Q r s') pl.isList (by omega) (by rw [List.size_toArray] <;> omega) (by omega) (by rw [hj];simpa using ew) ⟨rfl,fin⟩) hs
theorem WN:IxR X (BZ X.K):=by
 intro value slice pins s σ H x y v u Q I rx ry h hs
 obtain ⟨p,xs,i,z,rfl,rfl,hq,he,q⟩:=h
 cases rx
 obtain ⟨t,rfl⟩:=ry
 obtain ⟨its,r,pl,hz⟩:=I.tuple hq
 obtain ⟨j,h1,h2,h3,h4,h5⟩:=ZO he
 obtain ⟨w,ew,rw'⟩:=r.get h2
 have hl:=r.length
 have hn:=xv
 have fin:EP X pins σ Q w s:=⟨z,H,I,rw',q⟩
 exact subscriptTail_builtinR (x:=w) pl.typeIs slot_tuple_getitem.lookup
  (getItem_tuple (j:=j) (Q:=fun r s'=>r=w/\EP X pins σ Q r s') pl (by omega) (by omega) (by rw [List.size_toArray,<- hl];exact h1) (by simpa using ew) ⟨rfl,fin⟩) hs
theorem wI (its:List Value)(n j:Nat)(u:Value):Obj.mapSeq (·.setIfInBounds j u) { cls:=.type "list",data:=.seq its.toArray n }={ cls:=.type "list",data:=.seq (its.set j u).toArray n }:=by
 simp [Obj.mapSeq]
theorem Inv.lst {pins:List (Addr × Obj)}{σ:St}{H:Hp}{s:Shared}{p:Addr}{xs:List V}(I:Inv X pins σ H s)(h:H p=some (.lst xs)) :
  ∃ (its:List Value) (n:Nat),zq xs its/\s.heap.get? p=some { cls:=.type "list",data:=.seq its.toArray n }/\xs.length<=sizeLine:=by
 obtain ⟨z,its,n,r,e⟩:=I.hok p _ h
 exact ⟨its,n,r,e,z⟩
theorem Inv.lstUpd {pins:List (Addr × Obj)}{σ:St}{H:Hp}{s:Shared}{p:Addr}{xs ys:List V}{its its':List Value}{n n':Nat}{f:Obj->Obj}(I:Inv X pins σ H s)(h:H p=some (.lst xs))
  (ho:s.heap.get? p=some { cls:=.type "list",data:=.seq its.toArray n }) (hf:f { cls:=.type "list",data:=.seq its.toArray n }={ cls:=.type "list",data:=.seq its'.toArray n' }) (r:zq ys its') (hz:ys.length<=sizeLine) (t:Nat) :
  Inv X pins σ (upd H p (.lst ys)) { s with heap:=s.heap.update p f,toks:=t }:=by
 have e:(s.heap.update p f).get? p=some { cls:=.type "list",data:=.seq its'.toArray n' }:=by
  rw [Heap.get?_update_self f ho (by rw [hf] <;> rfl),hf]
 refine I.write (x:=p) (e:=p) (by rw [h];trivial) (.inl rfl) (fun b u hb q=>(Heap.get?_update_other _ _ (Ne.symm hb)).trans q) ⟨_,e⟩ ?_
 exact ⟨hz,its',n',r,e⟩
noncomputable def Vu:V->V->V->Hp->(Hp->Prop)->Prop:=fun o i v H Q=>∃ p xs k j,o=.ref p/\i=.int k/\H p=some (.lst xs)/\ixN xs.length k=some j/\Q (upd H p (.lst (xs.set j v)))
theorem Xt:WA X Vu:=by
  intro pins s σ H o i v ov iv u Q I ro ri rv h
  obtain ⟨p,xs,k,j,rfl,rfl,hp,hj,q⟩:=h
  cases ro
  obtain ⟨t,rfl⟩:=ri
  obtain ⟨its,n,r,ho,hz⟩:=I.lst hp
  obtain ⟨h1,h2,h3,h4⟩:=Qi hj
  have hl:=r.length
  have hn:=xv
  have I':Inv X pins σ (upd H p (.lst (xs.set j v))) { s with heap:=s.heap.update p (Obj.mapSeq (·.setIfInBounds j u)) }:=
    I.lstUpd hp ho (wI its n j u) (r.set rv j) (by rw [List.length_set];exact hz) s.toks
  by_cases h0:0<=k
  · have hk : k.toNat = j := by
      rw [seqIndex_of h0 h4] at h1
      exact Option.some.inj h1
    exact PySem.W.ki_setAt ho h0 (by omega) (by rw [List.size_toArray,<- hl];exact h4) (by rw [hk];exact ⟨_,I',q⟩)
  · have hk : (k + (its.toArray.size : Int)).toNat = j := by
      rw [seqIndex_neg (by omega) h3] at h1
      rw [List.size_toArray,<- hl]
      exact Option.some.inj h1
    exact PySem.W.ki_setBack ho (by omega) (by rw [List.size_toArray,<- hl];exact h3) (by omega) (by rw [hk];exact ⟨_,I',q⟩)
theorem yP (lo hi:Option Int)(n:Nat):(sliceBounds lo hi none n).1=((HT.sIx n 0 lo:Nat):Int)/\(sliceBounds lo hi none n).2.1=((HT.sIx n n hi:Nat):Int)/\(sliceBounds lo hi none n).2.2=1:=by
 refine ⟨?_,?_,rfl⟩
 ·cases lo with
  | none=>simp [sliceBounds,HT.sIx]
  | some i=>
   simp only [sliceBounds,HT.sIx,Option.getD_none,show (1:Int) > 0 by decide,if_true]
   by_cases h:i<0
   ·simp only [h,if_true] <;> omega
   ·simp only [h,if_false] <;> omega
 ·cases hi with
  | none=>simp [sliceBounds,HT.sIx]
  | some i=>
   simp only [sliceBounds,HT.sIx,Option.getD_none,show (1:Int) > 0 by decide,if_true]
   by_cases h:i<0
   ·simp only [h,if_true] <;> omega
   ·simp only [h,if_false] <;> omega
theorem yb (its:List Value)(lo hi:Option Int):slicePick its.toArray lo hi none=((its.drop (HT.sIx its.length 0 lo)).take (HT.sIx its.length its.length hi - HT.sIx its.length 0 lo)).toArray:=by
 obtain ⟨h1,h2,h3⟩:=yP lo hi its.toArray.size
 unfold slicePick
 rw [h1,h2,h3]
 simp only [sliceRange_one,pick_run,List.size_toArray] <;> rfl
noncomputable def Y2 (K:PySem.W.Frag):V->Option Int->Option Int->Hp->VK->Prop:=fun x lo hi H Q=>∃ a xs,x=.ref a/\SqL K H a xs/\∀ p,H p=none->Q (.ref p) (upd H p (.lst (wb xs lo hi)))
theorem y8:SlR X (Y2 X.K):=by
 intro pins s σ H x v vl vu lo hi sl Q I rx hs pl pu h
 obtain ⟨a,xs,rfl,hx,q⟩:=h
 cases rx
 obtain ⟨its,r,ht,hz⟩:=I.list hx
 have hlen:=r.length
 refine ⟨"list",_,slot_list_getitem.lookup,ht.isList.typeIs,?_⟩
 refine wpAny_getItem_list_slice ht.isList hs pl pu .none (by simp) ?_ (by rw [List.size_toArray] <;> omega)
 rw [yb,<- hlen]
 refine ⟨.ref s.heap.objs.size,_,I.laid (t':=s.toks) (o:=.lst (wb xs lo hi)) (fun b ob q=>Heap.get?_push_of_some _ q) (Nat.le_refl _) ?_,rfl,q _ (I.hok.fresh (Nat.le_refl _))⟩
 exact ⟨Nat.le_trans (vw xs lo hi) hz,_,0,(r.drop (HT.sIx xs.length 0 lo)).take (HT.sIx xs.length xs.length hi - HT.sIx xs.length 0 lo),Heap.get?_push_size _ rfl⟩
theorem zx:jn X (.builtin "len") (fun xs H Q=>∃ p ys,xs=[.ref p]/\(SqL X.K H p ys \/ SqT X.K H p ys)/\Q (.int ys.length) H):=by
 intro pins s σ H xs us Q I r h
 obtain ⟨p,ys,rfl,hq,q⟩:=h
 obtain ⟨u,rfl,rx⟩:=jH r
 cases rx
 have hn:=xv
 rcases hq with hq | hq
 ·obtain ⟨its,r',pl,hz⟩:=I.list hq
  have hlen:=r'.length
  exact Calls.call_len_list pl.isList (by simp only [List.size_toArray] <;> omega) ⟨.int ys.length,H,I.tok _,⟨s.toks+1,by rw [List.size_toArray,hlen]⟩,q⟩
 ·obtain ⟨its,r',pl,hz⟩:=I.tuple hq
  have hlen:=r'.length
  exact len_tuple pl (by simp only [List.size_toArray] <;> omega) ⟨.int ys.length,H,I.tok _,⟨s.toks+1,by rw [List.size_toArray,hlen]⟩,q⟩
theorem jq:jn X (.type "list") (fun xs H Q=>∃ p ys,xs=[.ref p]/\(SqL X.K H p ys \/ SqT X.K H p ys)/\∀ l,H l=none->Q (.ref l) (upd H l (.lst ys))):=by
 intro pins s σ H xs us Q I r h
 obtain ⟨p,ys,rfl,hq,q⟩:=h
 obtain ⟨u,rfl,rx⟩:=jH r
 cases rx
 have fin:∀ (its:List Value),zq ys its->ys.length<=sizeLine->∀ (h':Heap) (c':Nat),(∀ b o',s.heap.get? b=some o'->h'.get? b=some o') ->
   h'.get? s.heap.objs.size=some { cls:=.type "list",dict:=none,data:=.seq its.toArray c',slots:=#[] }->EP X pins σ Q (.ref s.heap.objs.size) { s with heap:=h' }:=fun its r' hz h' c' kp e=>
  ⟨.ref s.heap.objs.size,_,I.laid (t':=s.toks) kp (Nat.le_refl _) (show zQ X.prog X.w _ h' _ (.lst ys) from ⟨hz,its,c',r',e⟩),rfl,q _ (I.hok.fresh (Nat.le_refl _))⟩
 rcases hq with hq | hq
 ·obtain ⟨its,r',pl,hz⟩:=I.list hq
  have hlen:=r'.length
  obtain ⟨o,ho,hc,n,hd⟩:=pl.isList
  exact call_list_seq p (.inl rfl) ho hc hd (fun h' c' kp e=>fin its r' hz h' c' kp e) (by simp only [List.size_toArray] <;> omega)
 ·obtain ⟨its,r',pl,hz⟩:=I.tuple hq
  have hlen:=r'.length
  obtain ⟨o,ho,hc,n,hd⟩:=pl
  exact call_list_seq p (.inr rfl) ho hc hd (fun h' c' kp e=>fin its r' hz h' c' kp e) (by simp only [List.size_toArray] <;> omega)
theorem zY:jn X (.type "tuple") (fun xs H Q=>∃ p ys,xs=[.ref p]/\((SqL X.K H p ys/\∀ l,H l=none->Q (.ref l) (upd H l (.tup ys))) \/ (SqT X.K H p ys/\Q (.ref p) H))):=by
 intro pins s σ H xs us Q I r h
 obtain ⟨p,ys,rfl,h⟩:=h
 obtain ⟨u,rfl,rx⟩:=jH r
 cases rx
 rcases h with ⟨hq,q⟩ | ⟨hq,q⟩
 ·obtain ⟨its,r',pl,hz⟩:=I.list hq
  have hlen:=r'.length
  refine call_tuple_list pl.isList (fun h' kp=>?_) (by simp only [List.size_toArray] <;> omega)
  have I1:Inv X pins σ H { s with heap:=h' }:=I.kept (t':=s.toks) kp
  have I2:Inv X pins σ (upd H h'.objs.size (.tup ys)) { s with heap:=h'.push { cls:=.type "tuple",data:=.seq its.toArray } }:=
   I1.laid (t':=s.toks) (fun b o e=>Heap.get?_push_of_some _ e) (Nat.le_refl _) (show zQ X.prog X.w _ _ _ (.tup ys) from ⟨hz,its,r',y4.new _ _⟩)
  exact ⟨.ref h'.objs.size,_,I2,rfl,q _ (I1.hok.fresh (Nat.le_refl _))⟩
 ·obtain ⟨its,r',pl,hz⟩:=I.tuple hq
  exact call_tuple_same pl ⟨.ref p,H,I,rfl,q⟩
noncomputable def tyV (K:PySem.W.Frag)(T:String)(x:V)(H:Hp):Prop:=match x with
  | .str _=>T="str"
  | .int _=>T="int"
  | .ref p => (T = "list" /\ ∃ xs, SqL K H p xs) \/ (T = "tuple" /\ ((∃ xs, Rd H p (.tup xs)) \/ ∃ o, K.lookup p = some o /\ o.cls = .type "tuple" /\ o.dict = none)) \/
      (T="dict"/\((∃ kvs,H p=some (.dK kvs)) \/ ∃ kvs,H p=some (.dT kvs))) \/ (T="set"/\∃ S n,H p=some (.set S n))
  | _=>False
theorem Ac {pins : List (Addr × Obj)}{σ : St}{H : Hp}{s : Shared}{T : String}{x : V}{v : Value}(I : Inv X pins σ H s)(r : zr x v)(ty : tyV X.K T x H) :
    s.TypeIs v T/\∀ a,v=.ref a->∃ ob,s.heap.get? a=some ob/\ob.dict=none:=by
  cases x with
  | str z=>
    obtain ⟨t,rfl⟩:=r
    cases (show T="str" from ty)
    exact ⟨typeIs_str s z t,fun _ e=>nomatch e⟩
  | int i=>
    obtain ⟨t,rfl⟩:=r
    cases (show T="int" from ty)
    exact ⟨typeIs_int s i t,fun _ e=>nomatch e⟩
  | ref p=>
    cases r
    rcases ty with ⟨rfl,xs,hq⟩ | ⟨rfl,⟨xs,hx⟩ | ⟨o,hk,hc,hd⟩⟩ | ⟨rfl,hk⟩ | ⟨rfl,S,n,hk⟩
    · obtain ⟨its,_,pl,_⟩:=I.list hq
      refine ⟨pl.isList.typeIs,fun a e=>?_⟩
      cases e
      obtain ⟨o,n,e,c,hd,_⟩:=pl
      exact ⟨o,e,hd⟩
    · obtain ⟨_,its,_,o,e,c,_,hd⟩:=hx.ok I.hok
      refine ⟨⟨o,e,c⟩,fun a e2=>?_⟩
      cases e2
      exact ⟨o,e,hd⟩
    · refine ⟨⟨o,I.kIn p o hk,hc⟩,fun a e=>?_⟩
      cases e
      exact ⟨o,I.kIn _ o hk,hd⟩
    · have z : ∃ o, s.heap.get? p = some o /\ o.ExactDict := by
        rcases hk with ⟨kvs,hk⟩ | ⟨kvs,hk⟩
        · obtain ⟨_,_,_,_,o,_,_,e,ex,_⟩:=I.hok p _ hk
          exact ⟨o,e,ex⟩
        · obtain ⟨_,_,_,_,o,_,_,e,ex,_⟩:=I.hok p _ hk
          exact ⟨o,e,ex⟩
      obtain ⟨o,e,ex⟩:=z
      refine ⟨⟨o,e,ex.1⟩,fun a e2=>?_⟩
      cases e2
      exact ⟨o,e,ex.2.1⟩
    · obtain ⟨o,_,_,_,e,ex,_⟩:=I.hok p _ hk
      refine ⟨⟨o,e,ex.1⟩,fun a e2=>?_⟩
      cases e2
      exact ⟨o,e,ex.2.1⟩
  | _=>exact False.elim ty
noncomputable def tBM (K:PySem.W.Frag)(T:String)(r:V->List V->Hp->VK->Prop)(to:TE)(t:TA):TE:=fun σ H Q=>to σ H fun x H1=>tyV K T x H1/\t σ H1 fun xs H2=>r x xs H2 Q
variable {o e:Expr}{es:List Expr}{to:TE}{t:TA}{name:Str}{apos cpos:Pos}{T id:String}{r:V->List V->Hp->VK->Prop}
theorem kh (pa:PlainAttrs T)(slot:Slot T name id)(hty:typeOf (.builtin id)=pure (.type "method_descriptor"))(hm:MtR X id r)(ho:PE X o to)(ha:PA X (e :: es) t)
  (hbase:attributeBase o name X.env (eval o X.env)=eval o X.env:=by rfl)
  (hfew:((backTo cpos (starEach (e :: es) X.env)).all (fun x=>!x.1) && (backToKw cpos (keywordEach [] X.env)).all (fun x=>x.1.isSome)
   && decide ((e :: es).length+([]:List Keyword).length+(if ([]:List Keyword).isEmpty then 0 else 1)<30))=true:=by rfl)
  (hline:(apos.endLine == cpos.line)=true:=by rfl) (hs:starEach (e :: es) X.env=(false,eval e X.env) :: starEach es X.env:=by rfl) (hplain:(backTo cpos (starEach es X.env)).any (·.1)=false:=by rfl) :
  PE X (.Call (.Attribute o name apos) (e :: es) [] cpos) (tBM X.K T r to t):=by
 intro pins s σ H Q I h
 refine wpAny_Call_method_late hbase hfew hline rfl (thn (ho pins s σ H _ I h) fun v s1 ⟨x,H1,I1,r1,ty,q1⟩=>?_)
 obtain ⟨h1,h2⟩:=Ac I1 r1 ty
 refine ⟨T,id,pa,slot,hty,h1,h2,?_⟩
 have hA:=ha cpos pins s1 σ H1 _ I1 q1
 rw [hs] at hA ⊢
 refine Calls.callWith_builtin (by show (false || (backTo cpos (starEach es X.env)).any (·.1))=false;rw [hplain] <;> rfl) (Calls.evalArgs_plain ?_)
 exact thn hA fun us s2 ⟨vs,H2,I2,r2,q2⟩=>hm pins s2 σ H2 x vs v us Q I2 r1 r2 q2
/- xs.append(e),list.index on a module's tuple .. are MtR facts of 06m -/
end
noncomputable def MtM (X:Cx)(id:String)(r:V->List V->Hp->VK->Prop):Prop:=
 ∀ (pins:List (Addr × Obj)) (s:Shared) (σ:St) (H:Hp) (x:V) (xs:List V) (v:Value) (us:List Value) (Q:VK),Inv X pins σ H s->zr x v->zq xs us->r x xs H Q ->
  wpAny (model X.prog X.w) X.A (call (.builtin id) (v :: us)) (EP X pins σ Q) X.xe s
theorem zq.one:∀ {x:V} {us:List Value},zq [x] us->∃ u,us=[u]/\zr x u
 | _,_,.cons r .nil=>⟨_,rfl,r⟩
theorem zq.two:∀ {x y:V} {us:List Value},zq [x,y] us->∃ u v,us=[u,v]/\zr x u/\zr y v
 | _,_,_,.cons r (.cons q .nil)=>⟨_,_,rfl,r,q⟩
theorem zq.dropLast {xs:List V}{us:List Value}(h:zq xs us):zq xs.dropLast us.dropLast:=by
 induction h with
 | nil=>exact .nil
 | cons r t ih=>
  cases t with
  | nil=>exact .nil
  | cons q t'=>exact .cons r ih
theorem zq.rep {xs:List V}{us:List Value}(h:zq xs us):∀ k:Nat,zq (List.replicate k xs).flatten (List.replicate k us).flatten
 | 0=>.nil
 | k+1=>by
  rw [List.replicate_succ,List.replicate_succ,List.flatten_cons,List.flatten_cons]
  exact zq.append h (zq.rep h k)
theorem yu (its:List Value):∀ (k:Nat) (acc:List Value),
  List.foldl (fun x1 x2=>x1 ++ x2) acc.toArray (List.replicate k its.toArray)=(acc ++ (List.replicate k its).flatten).toArray
 | 0,acc=>by simp
 | k+1,acc=>by
  have e:acc.toArray ++ its.toArray=(acc ++ its).toArray:=by simp
  have e2:(acc ++ its) ++ (List.replicate k its).flatten=acc ++ (List.replicate (k+1) its).flatten:=by
   rw [List.replicate_succ,List.flatten_cons,List.append_assoc]
  rw [<- e2,<- yu its k (acc ++ its),<- e,List.replicate_succ,List.foldl_cons]
section
variable {X:Cx}{pins:List (Addr × Obj)}{σ:St}{H:Hp}{s:Shared}{l b:Addr}{xs ys zs:List V}
theorem Inv.lset {its its':List Value}{n:Nat}{f:Array Value->Array Value}{t':Nat}(I:Inv X pins σ H s)(hH:H l=some (.lst xs))
  (e:s.heap.get? l=some { cls:=.type "list",data:=.seq its.toArray n }) (hf:f its.toArray=its'.toArray) (hv:zq ys its') (hz:ys.length<=sizeLine) :
  Inv X pins σ (upd H l (.lst ys)) { s with heap:=s.heap.update l (Obj.mapSeq f),toks:=t' }:=by
 have q:=PySem.IsL.update e f
 rw [hf] at q
 refine I.write (x:=l) (e:=l) (by rw [hH];exact trivial) (.inl rfl) (fun b' u hb hu=>(Heap.get?_update_other s.heap (Obj.mapSeq f) (Ne.symm hb)).trans hu) ⟨_,q⟩ ?_
 exact ⟨hz,its',_,hv,q⟩
theorem Inv.lnew {its:List Value}{t':Nat}(I:Inv X pins σ H s)(hv:zq ys its)(hz:ys.length<=sizeLine) :
  Inv X pins σ (upd H s.heap.objs.size (.lst ys)) { s with heap:=s.heap.push { cls:=.type "list",data:=.seq its.toArray },toks:=t' }:=
 I.laid (fun _ _ q=>Heap.get?_push_of_some _ q) (Nat.le_refl _) ⟨hz,its,0,hv,Heap.get?_push_size _ rfl⟩
theorem Inv.fresh (I:Inv X pins σ H s):H s.heap.objs.size=none:=I.hok.fresh (Nat.le_refl _)
theorem Inv.lstM (I:Inv X pins σ H s)(hH:H l=some (.lst xs)):xs.length<=sizeLine/\∃ (its:List Value) (n:Nat),zq xs its/\xs.length=its.length/\s.heap.get? l=some { cls:=.type "list",data:=.seq its.toArray n }:=by
 obtain ⟨z,its,n,r,e⟩:=I.hok l _ hH
 exact ⟨z,its,n,r,r.length,e⟩
theorem wl {n:Nat}(h:n<=sizeLine):Builtin.List.listTooLong n=false:=by
 unfold Builtin.List.listTooLong
 exact decide_eq_false (by omega)
end
section
variable {X:Cx}
noncomputable def xj:V->List V->Hp->VK->Prop:=fun x vs H Q=>∃ l xs y,x=.ref l/\vs=[y]/\H l=some (.lst xs)/\xs.length<sizeLine/\Q .non (upd H l (.lst (xs ++ [y])))
theorem yx:MtM X "list.append" xj:=by
 intro pins s σ H x vs v us Q I rx rv h
 obtain ⟨l,xs,y,rfl,rfl,hH,hz,q⟩:=h
 cases rx
 obtain ⟨u,rfl,ru⟩:=rv.one
 obtain ⟨z,its,n,r,hl,e⟩:=I.lstM hH
 refine call_meets F.slot_list_append ⟨_,e,rfl⟩ F.entry_list_append (F.args_list_append_2 _ _) (PySem.list_append l its.toArray n u (by rw [List.size_toArray];omega)) ⟨e,?_⟩
 refine ⟨.non,_,I.lset (its':=its ++ [u]) hH e (by simp) (r.append (.cons ru .nil)) ?_,rfl,q⟩
 rw [List.length_append,List.length_singleton]
 omega
noncomputable def xh:V->List V->Hp->VK->Prop:=fun x vs H Q=>∃ l b xs zs,x=.ref l/\vs=[.ref b]/\H l=some (.lst xs)/\H b=some (.lst zs)/\xs.length+zs.length<=sizeLine/\Q .non (upd H l (.lst (xs ++ zs)))
theorem Q3:MtM X "list.extend" xh:=by
 intro pins s σ H x vs v us Q I rx rv h
 obtain ⟨l,b,xs,zs,rfl,rfl,hH,hB,hz,q⟩:=h
 cases rx
 obtain ⟨u,rfl,ru⟩:=rv.one
 cases ru
 obtain ⟨z,its,n,r,hl,e⟩:=I.lstM hH
 obtain ⟨z2,its2,n2,r2,hl2,e2⟩:=I.lstM hB
 have hsz:its.toArray.size+its2.toArray.size<=sizeLine:=by rw [List.size_toArray,List.size_toArray];omega
 have hlong:¬ (!its.toArray.isEmpty && Builtin.List.listTooLong (its.toArray.size+its2.toArray.size))=true:=by
  rw [wl hsz,Bool.and_false]
  exact Bool.false_ne_true
 refine call_meets F.slot_list_extend ⟨_,e,rfl⟩ F.entry_list_extend (F.args_list_extend_2 _ _)
  (AutoSeq1.list_extend_list_list_0 l its.toArray n b its2.toArray n2 hlong (by rw [List.size_toArray];omega) (by omega)) ⟨e,e2,?_⟩
 refine ⟨.non,_,I.lset (its':=its ++ its2) hH e (by simp) (r.append r2) ?_,rfl,q⟩
 rw [List.length_append]
 omega
noncomputable def Vd:R2:=fun x y H Q=>∃ l b xs zs,x=.ref l/\y=.ref b/\H l=some (.lst xs)/\H b=some (.lst zs)/\xs.length+zs.length<=sizeLine/\∀ p,H p=none->Q (.ref p) (upd H p (.lst (xs ++ zs)))
theorem Zo:OpR X (binaryOp .Add) Vd:=by
 intro pins s σ H x y v u Q I rx ry h
 obtain ⟨l,b,xs,zs,rfl,rfl,hH,hB,hz,q⟩:=h
 cases rx
 cases ry
 obtain ⟨z,its,n,r,hl,e⟩:=I.lstM hH
 obtain ⟨z2,its2,n2,r2,hl2,e2⟩:=I.lstM hB
 refine PySem.P.add_list e e2 ?_ (by rw [List.size_toArray,List.size_toArray];omega)
 have ea:its.toArray ++ its2.toArray=(its ++ its2).toArray:=by simp
 rw [ea]
 exact ⟨.ref _,_,I.lnew (t':=s.toks) (r.append r2) (by rw [List.length_append];omega),rfl,q _ I.fresh⟩
noncomputable def WU:R2:=fun x y H Q=>∃ l k xs,x=.ref l/\y=.int k/\H l=some (.lst xs)/\-(2 ^ 63)<=k/\k<2 ^ 63/\xs.length * k.toNat<=sizeLine /\
 ∀ p,H p=none->Q (.ref p) (upd H p (.lst (List.replicate k.toNat xs).flatten))
theorem Yi {α:Type}(xs:List α)(k:Nat):(List.replicate k xs).flatten.length=k * xs.length:=by
 induction k with
 | zero=>simp
 | succ k ih=>rw [List.replicate_succ,List.flatten_cons,List.length_append,ih,Nat.succ_mul,Nat.add_comm]
theorem wN:OpR X (binaryOp .Mult) WU:=by
 intro pins s σ H x y v u Q I rx ry h
 obtain ⟨l,k,xs,rfl,rfl,hH,h1,h2,hz,q⟩:=h
 cases rx
 obtain ⟨t,rfl⟩:=ry
 obtain ⟨z,its,n,r,hl,e⟩:=I.lstM hH
 have hlen:its.toArray.size * k.toNat<=sizeLine:=by rw [List.size_toArray,<- hl];exact hz
 have hcap:¬ its.toArray.size * k.toNat > (2 ^ 63 - 1) / 8:=by
  have:(sizeLine:Nat)<=(2 ^ 63 - 1) / 8:=by decide
  omega
 have hfit:¬ (!Builtin.List.listFitsIndex k)=true:=by
  rw [fitsIndex_both h1 h2]
  exact Bool.false_ne_true
 have hlong:¬ Builtin.List.listTooLong (its.toArray.size * k.toNat)=true:=by
  rw [wl hlen]
  exact Bool.false_ne_true
 have hnew:List.foldl (fun x1 x2=>x1 ++ x2) #[] (List.replicate (if its.toArray.isEmpty=true then 0 else k.toNat) its.toArray)=(List.replicate k.toNat its).flatten.toArray:=by
  have f0:∀ m:Nat,List.foldl (fun x1 x2=>x1 ++ x2) #[] (List.replicate m its.toArray)=(List.replicate m its).flatten.toArray:=fun m=>by
   have:=yu its m []
   rw [List.nil_append] at this
   exact this
  rw [f0]
  cases its with
  | nil=>simp
  | cons a r'=>rw [if_neg (by simp)]
 refine wpAny_binaryOp_repeat_ref (T:="list") (U:="int") (by decide) ⟨_,e,rfl⟩ (fun s'=>typeIs_int s' k t) noFill_list_mul F.fills_int_mul F.slot_int_rmul repeat_list F.slot_int_index.lookup
  (call_meets F.slot_int_rmul (typeIs_int s k t) F.entry_int_rmul (F.args_int_rmul_2 _ _) (int___rmul___int_list k t l its.toArray n)
   ⟨e,rfl,⟨_,e,rfl⟩,call_meets F.slot_list_mul ⟨_,e,rfl⟩ F.entry_list_mul (F.args_list_mul_2 _ _) (AutoListH.list___mul___list_int_3 l its.toArray n k t hfit hcap hlong) ⟨e,?_⟩⟩)
 rw [hnew]
 exact ⟨.ref _,_,I.lnew (t':=s.toks) (r.rep k.toNat) (by rw [Yi,Nat.mul_comm];exact hz),rfl,q _ I.fresh⟩
end
section
variable {prog:Program}{w:World}{A:Around}{E:Value->Shared->Prop}{s:Shared}
end
section
variable {X:Cx}
end
end L2
namespace Att
open PySem PySem.W PySem.Calls PyProof.Rows
theorem kT {P:Params}{h:Heap}:∀ (ns:List Int) (vs:List Value),WellAll P h vs (ns.map WData.int)->IntsAre vs ns:=by
 intro ns
 induction ns with
 | nil=>
  intro vs w
  rw [List.map_nil] at w
  cases w
  exact .nil
 | cons n ns ih=>
  intro vs w
  rw [List.map_cons] at w
  cases w with
  | cons a b=>
   cases a
   exact .cons _ _ (ih _ b)
theorem Q8 {l:OpenLaw}{n:Nat}(hn:l.most=some n){P:Params}{h:Heap}{args:List WData}{vals:List Value}
  (hpre:l.row.toRowW.claim.pre args=true) (hwl:WellAll P h vals args) :
  ∃ a vs ns,vals=[Value.ref a]/\args=[WData.list (ns.map WData.int)]/\h.get? a=some { cls:=.type "list",data:=.seq vs.toArray }/\IntsAre vs ns/\ns.length<=n:=by
 have hsh:WShape.hasAll [] args [.list .int]=true:=(pre_splitW hpre).1
 have hc:l.pre.holds [] { args:=args }=true:=(pre_splitW hpre).2
 obtain ⟨d,r,rfl,h1,h2⟩:=hasAllW_cons hsh
 obtain rfl:=hasAllW_nil h2
 obtain ⟨xs,rfl,h3⟩:=hasW_list h1
 obtain ⟨ns,rfl⟩:=items_int h3
 have hlen:ns.length<=n:=by
  unfold OpenLaw.pre at hc
  have h4:(WTm.not (.lt (.lit (.int (n:Int))) (.len (.arg 0)))).holds [] { args:=[.list (ns.map .int)] }=true:=by
   have h4:=(holds_andW hc).1
   rw [hn] at h4
   exact h4
  have h5:=condW_of h4 (w_not (w_lt w_lit (w_len_list (w_arg rfl))))
  rw [List.length_map] at h5
  refine Nat.le_of_not_lt fun q=>?_
  have q':(n:Int)<((ns.length:Nat):Int):=by omega
  first
   | (rw [decide_eq_true q'] at h5;exact absurd h5 (by decide))
   | (simp at h5;omega)
 cases hwl with
 | cons w1 w2=>
  cases w2
  cases w1 with
  | list ho hall=>exact ⟨_,_,ns,rfl,rfl,ho,kT ns _ hall,hlen⟩
theorem QG (l:OpenLaw)(args:List WData):l.row.toRowW.claim.post args (.bool true) args=true:=
 postW_of (r:=l.row.toRowW) (X:=(true == true))
  (show WShape.has [] (.bool true) .bool=true by first | rfl | decide | simp [WShape.has,WShape.arms,WShape.armsAll])
  (show (WTm.eq .res (.lit (.bool true))).value [] { args:=args,res:=some (.bool true),after:=args }=some (.bool (true == true)) from w_eq_bool (w_res rfl) w_lit) rfl
theorem attach_call {l:OpenLaw}{n:Nat}{q:Program}{loose:List Str}{XP:(Str->Option Value)->Heap->Prop}{YP:World->Heap->Prop}{d:DefRec}
  (hn:l.most=some n) (hdf:d.params.defaults=[])
  (call:∀ (w:World) (s₀ s₁:Shared) (mg mb:Str->Option Value) (fa:Addr) (o:Obj) (pm cd doc:Value) (a:Addr) (vs:List Value) (ns:List Int),
   Ground q loose [] XP w s₀ mg mb s₁.heap->YP w s₁.heap ->
   s₁.heap.get? fa=some o->o.data=.func (docDef d.name d.params d.body d.scope pm cd doc)->s₁.heap.CodeRec cd d.name->mg d.name=some (.ref fa) ->
   s₁.heap.get? a=some { cls:=.type "list",data:=.seq vs.toArray }->IntsAre vs ns->ns.length<=n->s₁.gens=#[] ->
   codeAny (model l.prog w) callerA (.call (.ref fa) ⟨[.ref a],[]⟩) (fun r s'=>r=.ok (.ret (.bool true))/\OldK s₁.heap s'.heap/\s'.os=s₁.os/\AllBare s'.gens) s₁) :
  WalkO q loose XP YP l.row.toRowW d [] (fun f vs=>PySem.call f vs):=by
 intro w s₀ s₁ mg mb G Y fa o pm cd doc dV kV ho hd hcd hD hmg hg args vals as hpre hlay hrd hwl hlo
 obtain rfl:dV=.none:=Dflts.none hD hdf
 obtain rfl:kV=.none:=Dflts.noKw hD
 obtain ⟨a,vs,ns,rfl,rfl,hobj,hints,hlen⟩:=Q8 hn hpre hwl
 refine enter_call (codeAny_mono (call w s₀ s₁ mg mb fa o pm cd doc a vs ns G Y ho (fd_plain hd) hcd hmg hobj hints hlen hg) fun r s' hq=>?_)
 obtain ⟨rfl,h2,h3,h4⟩:=hq
 exact ⟨.inl ⟨.bool true,.bool true,[],rfl,fun _=>rfl,.bool true,QG l _,fun _=>⟨List.Pairwise.nil,fun _ hm=>(nomatch hm)⟩⟩,h2,h3,h4⟩
section
variable {prog:Program}{w:World}{A:Around}{E:Value->Shared->Prop}{s:Shared}{K:Frag}
noncomputable def Dq (h:Heap)(L d:Addr):List (Addr × Obj):=(List.range h.objs.size).filterMap fun a=>if a=L \/ a=d then none else (h.get? a).map fun o=>(a,o)
end
end Att
namespace L2
open PySem PySem.Spec PyProof.Rows
theorem ym:∀ {vs:List Value} {ns:List Int},IntsAre vs ns->zq (ns.map V.int) vs
 | _,_,.nil=>.nil
 | _,_,.cons n t h=>.cons ⟨t,rfl⟩ (ym h)
noncomputable def Wm (H:Hp):Prop:=∀ b,H b=none \/ ∃ o xs,H b=some (.frz o (.lst xs))
theorem J5 {P:Program}{w:World}{K:PySem.W.Frag}{mg mb:Str->Option Value}{CX:CXT}{k:Nat}{fa a:Addr}{fd:FuncData}{x:Str}{sp:Sp}{s₁:Shared}{vs:List Value}{ns:List Int}
  (KX:K.In s₁.heap) (hns:s₁.heap.Ns mainGlobals mg) (hb:s₁.heap.Ns builtinsNs mb) (hbb:∀ x:Str,x ≠ "__name__"->mb x=bootBuiltins x) (hlim:s₁.heap.NoLimit) (hg:s₁.gens=#[])
  (ha:s₁.heap.get? a=some { cls:=.type "list",data:=.seq vs.toArray }) (hi:IntsAre vs ns) (hl:ns.length<=sizeLine) (hr:qZ k callerA)
  (F:∀ base:Heap,K.In base->base.Ns mainGlobals mg->jE P w K mg base CX k fa fd [x] sp) (hbind:∀ (s:Shared) (u:Value),BindsTo s fd ⟨[u],[]⟩ [(x,u)])
  (hsp:∀ H:Hp,Wm H->SqL K H a (ns.map V.int)->sp [.ref a] H (fun v _=>v=.bl true) fun _ _ _=>False)
  (hCX:∀ H e s',CX [] H s₁ (fun _ _ _=>False) e s'->False) :
  codeAny (model P w) callerA (.call (.ref fa) ⟨[.ref a],[]⟩) (fun r s'=>r=.ok (.ret (.bool true))/\OldK s₁.heap s'.heap/\s'.os=s₁.os/\AllBare s'.gens) s₁:=by
 have rv:=ym hi
 have lenV:=hi.length
 have core:∀ H:Hp,Wm H->SqL K H a (ns.map V.int)->HOk P w H s₁.heap->(∀ b,H b ≠ none->b=a)->(H a ≠ none->K.lookup a=none) ->
   codeAny (model P w) callerA (.call (.ref fa) ⟨[.ref a],[]⟩) (fun r s'=>r=.ok (.ret (.bool true))/\OldK s₁.heap s'.heap/\s'.os=s₁.os/\AllBare s'.gens) s₁:=by
  intro H hO hS hok hA hK
  have base_of:∀ {b:Addr} {o:Obj},s₁.heap.get? b=some o->H b=none->(yL s₁.heap H).get? b=some o:=fun e n=>Ku e n
  have noA:∀ {b:Addr} {o:Obj} {es:Array DictEntry} {ep:Nat},s₁.heap.get? b=some o->o.data=.dict es ep->H b=none:=fun {b o es ep} e d=>by
   cases q:H b with
   | none=>rfl
   | some u=>
    have e':b=a:=hA b (by rw [q];simp)
    subst e'
    rw [ha] at e;cases e
    have d':Data.seq vs.toArray _=Data.dict es ep:=d
    cases d'
  have nsK:∀ {b:Addr} {m:Str->Option Value},s₁.heap.Ns b m->(yL s₁.heap H).Ns b m:=fun {b m} ⟨o,es,ep,e,d,r⟩=>⟨o,es,ep,base_of e (noA e d),d,r⟩
  have hKb:K.In (yL s₁.heap H):=fun b o e=>base_of (KX b o e) (by
   cases q:H b with
   | none=>rfl
   | some u=>
    have e':b=a:=hA b (by rw [q];simp)
    subst e'
    rw [hK (by rw [q];simp)] at e;cases e)
  have hM:Mod K mg (yL s₁.heap H):=⟨hKb,nsK hns,⟨mb,nsK hb,hbb⟩,let ⟨mc,h1,h2⟩:=hlim;⟨mc,nsK h1,h2⟩⟩
  have e0:YE P w K mg (yL s₁.heap H) callerA [] s₁ H:=⟨rfl,hM,fun b o e=>XU e,Nat.le_of_eq (QC _ _),trivial,fun b hb=>absurd (show b ∈ ([]:List Addr) from hb) (by simp),hok,.of_eq hg⟩
  refine codeAny_mono ((F _ hKb (nsK hns)).run callerA [] s₁ H ⟨[.ref a],[]⟩ [.ref a] [.ref a] _ _ hr e0 (hbind s₁ (.ref a)) (.cons rfl .nil) (hsp H hO hS)) fun r s' h=>?_
  cases r with
  | error e=>exact (hCX H e s' h).elim
  | ok fl=>
   cases fl with
   | next=>exact False.elim h
   | brk=>exact False.elim h
   | cont=>exact False.elim h
   | ret u=>
    obtain ⟨v,H',os,bare,un,hok',r',q⟩:=h
    have q':v=.bl true:=q
    subst q'
    obtain rfl:u=Value.bool true:=r'
    refine ⟨rfl,OldK.of_keep fun b o e=>?_,os,bare⟩
    cases q:H b with
    | none=>exact un.keep b o e q (by intro z;exact absurd (show b ∈ ([]:List Addr) from z) (by simp)) (by simp)
    | some u=>
     rcases hO b with z | ⟨ob,xs,z⟩
     ·rw [q] at z;cases z
     ·have z2:=un.frzs b ob _ z
      obtain ⟨e1,_⟩:=hok b _ z
      obtain ⟨e2,_⟩:=hok' b _ z2
      rw [e] at e1;cases e1
      exact e2
 cases hk:K.lookup a with
 | some o=>
  have e:=KX a o hk
  rw [ha] at e
  cases e
  refine core (fun _=>none) (fun _=>.inl rfl) (.inr ⟨_,vs.toArray,_,hk,rfl,rfl,rfl,by rw [List.size_toArray,lenV];exact hl,by simpa using rv⟩) (fun b u z=>by have z':(none:Option HO)=some u:=z;cases z') (fun b z=>absurd rfl z) fun z=>absurd rfl z
 | none=>
  refine core (fun b=>if b=a then some (.frz { cls:=.type "list",data:=.seq vs.toArray } (.lst (ns.map V.int))) else none) (fun b=>?_) (.inl (.inr ⟨{ cls:=.type "list",data:=.seq vs.toArray },if_pos rfl⟩)) (fun b u z=>?_) (fun b z=>?_) fun _=>hk
  ·by_cases hb:b=a
   ·exact .inr ⟨_,_,if_pos hb⟩
   ·exact .inl (if_neg hb)
  ·by_cases hb:b=a
   ·have z':=(if_pos hb).symm.trans z
    cases z'
    subst hb
    exact ⟨ha,by rw [List.length_map];exact hl,vs,_,rv,ha⟩
   ·have z':=(if_neg hb).symm.trans z
    cases z'
  ·by_cases hb:b=a
   ·exact hb
   ·exact absurd (if_neg hb) z
noncomputable abbrev KOf {K:PySem.W.Frag}{h:Heap}(_:K.In h):PySem.W.Frag:=K
theorem walk_of {l:PySem.W.OpenLaw}{n k:Nat}{q:Program}{loose:List Str}{XP:(Str->Option Value)->Heap->Prop}{YP:World->Heap->Prop}{d:DefRec}{K:Params->PySem.W.Frag}{CX:World->CXT}{sp:World->Sp}{x:Str}
  (hn:l.most=some n) (hn2:n<=sizeLine) (hdf:d.params.defaults=[]) (hr:qZ k callerA)
  (hY:∀ (w:World) (h:Heap),YP w h->(K w.params).In h)
  (F:∀ (w:World) (mg:Str->Option Value) (fa:Addr) (h:Heap),(K w.params).In h->h.Ns mainGlobals mg->mg d.name=some (.ref fa) ->
   ∃ fd:FuncData,(∀ (s:Shared) (u:Value),BindsTo s fd ⟨[u],[]⟩ [(x,u)]) /\
    ∀ base:Heap,(K w.params).In base->base.Ns mainGlobals mg->jE l.prog w (K w.params) mg base (CX w) k fa fd [x] (sp w))
  (hsp:∀ (w:World) (H:Hp) (a:Addr) (ns:List Int),ns.length<=n->Wm H->SqL (K w.params) H a (ns.map V.int)->sp w [.ref a] H (fun v _=>v=.bl true) fun _ _ _=>False)
  (hCX:∀ (w:World) (H:Hp) (s:Shared) (e:Value) (s':Shared),CX w [] H s (fun _ _ _=>False) e s'->False) :
  PySem.W.WalkO q loose XP YP l.row.toRowW d [] (fun f vs=>PySem.call f vs):=by
 refine Att.attach_call hn hdf fun w s₀ s₁ mg mb fa o pm cd doc a vs ns G Y ho hd hcd hmg hobj hints hlen hg=>?_
 have KX:=hY w _ Y
 obtain ⟨fd,hb,hF⟩:=F w mg fa _ KX G.T.g hmg
 exact J5 KX G.T.g G.T.b G.T.builtins G.T.nolimit hg hobj hints (Nat.le_trans hlen hn2) hr hF hb (fun H hO hS=>hsp w H a ns hlen hO hS) fun H e s'=>hCX w H s₁ e s'
end L2
/- THE LAST THEOREM (shape;LID,My.* are yours):
   My.Adr: a structure of the addresses that your layer names (classes,functions);My.Txt K t: a structure (Prop) of the equations over K;
   My.txt_mk:{K} {implicit addresses ..} (e1:nsIn K mainGlobals "law"=some (some (.ref f))) (e2:K.lookup f=some ⟨oc,od,.func (fnOf "law" "law" params body scope dV kV doc pm an cdv ct),sl⟩) (e3:codeIn K cdv "law"=true) ..:∃ t,My.Txt K t
set_option maxRecDepth 100000 in
set_option maxHeartbeats 0 in
theorem PySem.Challenge.cw_LID_holds:PySem.Challenge.rw_LID.Holds:=by
 w_on;o_law;k_head;(case hw=>w_witness2)
 k_fill
 refine L2.walk_of (l:=PySem.Challenge.rw_LID) (n:=63) (k:=40) (x:="script") (CX:=fun w=>..) (sp:=fun _=>My.sp_law) rfl (by decide) rfl ⟨rfl,by decide,by decide⟩ (fun w h Y=>PySem.W.kIn_of Y) ?F ?S ?C
 case F=>
  intro w mg fa h KX G hmg
  have T:∃ t,My.Txt (L2.KOf KX) t:=by
   dsimp only [L2.KOf]                          -- K must stand as «<heap const> w.params» for k_is
   refine' My.txt_mk ?e1 ?e2 ?e3 ..
   (case e1=>PySem.W.k_is)                    -- in the order: a name->its address->its object->its parts
   (case e2=>PySem.W.k_is)
   ..
  obtain ⟨t,T⟩:=T
  have e0:=hmg.symm.trans (PySem.W.mg_of KX G T.law)
  cases e0                                       -- fa is the law's own address
  exact ⟨_,fun s u=>.of_eq rfl,fun base kb nb=>My.law_fn T kb nb⟩     -- if «.of_eq rfl» comes too early: refine' ⟨_,?b,fun base kb nb=>My.law_fn T kb nb⟩;exact fun s u=>.of_eq rfl
 case S=>exact fun w H a ns hl hO hS=>..
 case C=>exact ..
(the tactic k_is has no namespace: write k_is) -/
namespace L2
open PySem PySem.Spec PyProof.Rows
noncomputable def qP (s:Stmt):Arguments:=match s with
 | .FunctionDef _ a _ _ _ _ _ _ _ _=>a
 | _=>{ posonlyargs:=[],args:=[],vararg:=none,kwonlyargs:=[],kw_defaults:=[],kwarg:=none,defaults:=[] }
noncomputable def qj (s:Stmt):List Stmt:=match s with
 | .FunctionDef _ _ b _ _ _ _ _ _ _=>b
 | _=>[]
noncomputable def zn (s:Stmt):Scope:=match s with
 | .FunctionDef _ _ _ _ _ _ sc _ _ _=>sc
 | _=>{ kind:=.function,names:=[],isGenerator:=false,isCoroutine:=false }
noncomputable abbrev CX0:CXT:=fun _ _ _ _ _ _=>False
noncomputable abbrev E0:XK:=fun _ _ _=>False
theorem BU {X:Cx}:Zk CX0 X E0:=fun _ _ _ _ _ _ _ h=>h.elim
structure Fun (K:PySem.W.Frag)(x qual:Str)(st:Stmt)(f:Addr)(fd:FuncData):Prop where
 ex:∃ (oc:Value) (od:Option Addr) (kV doc pm:Value) (an:Option Addr) (cdv ct:Value) (osl:Array (Option Value)),
  fd=PySem.W.fnOf x qual (qP st) (qj st) (zn st) .none kV doc pm an cdv ct/\K.lookup f=some ⟨oc,od,.func fd,osl⟩/\PySem.W.codeIn K cdv qual=true
 kp:PySem.W.keepIn K (.ref f)=true
section
variable {P:Program}{w:World}{K:PySem.W.Frag}{mg:Str->Option Value}{base:Heap}
theorem Fun.ok {x qual:Str}{st:Stmt}{f:Addr}{fd:FuncData}{N ps:List Str}{k:Nat}{sp:Sp}(F:Fun K x qual st f fd)(S:zE N ps (zn st))(len:∀ vs H Q E,sp vs H Q E->vs.length=ps.length)
  (hbody:∀ (cdv:Value) (A:Around) (outer:List Env) (s:Shared) (H:Hp) (vs:List V) (Q:VK) (E:XK),qZ k (A.deeper (envOfC qual (zn st) s.heap.objs.size f cdv))->sp vs H Q E ->
   ∃ t,PSs (vd CX0 P w K mg base N qual (zn st) f cdv A outer s H E).nox (qj st) t/\t { nx:=fun _ H'=>Q .non H',rt:=Q } (qx N vs) H):jE P w K mg base CX0 (k+1) f fd ps sp:=by
 obtain ⟨oc,od,kV,doc,pm,an,cdv,ct,osl,rfl,lk,hcd⟩:=F.ex
 refine Br lk hcd S len fun A outer s H vs Q E hr hsp=>?_
 obtain ⟨t,h,q⟩:=hbody cdv A outer s H vs Q E hr hsp
 exact ⟨t,h.nox,q⟩
theorem Fun.binds {x qual:Str}{st:Stmt}{f:Addr}{fd:FuncData}{ps:List Str}(F:Fun K x qual st f fd)
  (h:∀ (kV doc pm:Value) (an:Option Addr) (cdv ct:Value) (us:List Value),us.length=ps.length->bindArgs (PySem.W.fnOf x qual (qP st) (qj st) (zn st) .none kV doc pm an cdv ct) ⟨us,[]⟩=pure (ps.zip us)):xU K fd ps []:=by
 obtain ⟨oc,od,kV,doc,pm,an,cdv,ct,osl,rfl,lk,hcd⟩:=F.ex
 exact .all (h kV doc pm an cdv ct)
theorem JL {x qual:Str}{st:Stmt}{f:Addr}{oc:Value}{od an:Option Addr}{osl:Array (Option Value)}{kV doc pm cdv ct:Value}(l:K.lookup f=some ⟨oc,od,.func (PySem.W.fnOf x qual (qP st) (qj st) (zn st) .none kV doc pm an cdv ct),osl⟩)
  (c:PySem.W.codeIn K cdv qual=true) (k:PySem.W.keepIn K (.ref f)=true):Fun K x qual st f (PySem.W.fnOf x qual (qP st) (qj st) (zn st) .none kV doc pm an cdv ct):=⟨⟨oc,od,kV,doc,pm,an,cdv,ct,osl,rfl,l,c⟩,k⟩
end
section
variable {X:Cx}
theorem pv (i:Nat){x:Str}{pos:Pos}(hN:X.N[i]?=some x:=by rfl)(hv:Vis X.env.scope x:=by first | exact Or.inl rfl | exact Or.inr (Or.inl rfl) | exact Or.inr (Or.inr rfl))(hd:(x == ("__debug__":Str))=false:=by decide)
  (hcd:(x == ("__classdict__":Str))=false:=by decide):PE X (.Name x pos) (KY i):=Wu hN hv hd hcd
end
theorem YZ {c A B:Prop}[Decidable c](h1:c->A)(h2:¬ c->B):if c then A else B:=by
 by_cases h:c
 ·rw [if_pos h]
  exact h1 h
 ·rw [if_neg h]
  exact h2 h
section
variable {κ:Type}[DecidableEq κ]
noncomputable def xr (kvs:List (κ × V))(k:κ):Option V:=(kvs.find? fun kv=>decide (kv.1=k)).map (·.2)
noncomputable def Y3 (kvs:List (κ × V))(k:κ)(v:V):List (κ × V):=
 if (kvs.any fun kv=>decide (kv.1=k))=true then kvs.map (fun kv=>if kv.1=k then (kv.1,v) else kv) else kvs ++ [(k,v)]
theorem Ka {p:κ × V}{r:List (κ × V)}{k:κ}(e:p.1=k):xr (p :: r) k=some p.2:=by simp [xr,List.find?_cons,e]
theorem JF {p:κ × V}{r:List (κ × V)}{k:κ}(e:¬ p.1=k):xr (p :: r) k=xr r k:=by simp [xr,List.find?_cons,e]
theorem wj.isSome_eq {o:Option V}{u:Option Value}(r:wj o u):o.isSome=u.isSome:=by
 cases o with
 | none=>cases u with
  | none=>rfl
  | some _=>exact (show False from r).elim
 | some _=>cases u with
  | none=>exact (show False from r).elim
  | some _=>rfl
end
section
variable {P:Program}{w:World}{H:Hp}{h:Heap}{a:Addr}
end
section
variable {X:Cx}{pins:List (Addr × Obj)}{σ:St}{H:Hp}{s:Shared}{a:Addr}{y v:V}{u r:Value}{o:Option V}{A:Around}{E:Value->Shared->Prop}
theorem Inv.big (I:Inv X pins σ H s):sysModules<s.heap.objs.size:=by
 have h:mainGlobals<s.heap.objs.size:=(I.mod.glob.keeps I.bk).lt
 exact Nat.lt_trans (by decide) h
theorem Z2 {h':Heap}{t':Nat}{ob:HO}(I:Inv X pins σ H s)(mu:Mut (H a))(hs:Heap.SameBut a s.heap h')(he:∃ q,h'.get? a=some q)(new:zQ X.prog X.w (upd H a ob) h' a ob) :
  Inv X pins σ (upd H a ob) { s with heap:=h',toks:=t' }:=
 I.write (x:=a) (e:=a) mu (.inl rfl) (fun b q hb z=>(hs.2 b hb).trans z) he new
end
section
variable {X:Cx}{pins:List (Addr × Obj)}{σ:St}{H:Hp}{s:Shared}{a:Addr}{kvs:List (Key × V)}{k:Key}{u:Value}{A:Around}{E:Value->Shared->Prop}
end
noncomputable def B4 (i:Expr):Prop:=∀ ov iv,subscripted i false ov iv=operate [ov,iv] (getItem ov iv)
theorem YK {prog:Program}{w:World}{A:Around}{E:Value->Shared->Prop}{s:Shared}{env:Env}{value slice:Expr}{pos:Pos}{T id:String}{Q:Value->Shared->Prop}
  (hl:typeLookup (.type T) "__getitem__"=pure (some (.builtin id))) (hs:B4 slice)
  (h:wpAny (model prog w) A (eval value env) (fun o s₁=>wpAny (model prog w) A (eval slice env) (fun i s₂=>s₂.TypeIs o T/\wpAny (model prog w) A (getItem o i) Q E s₂) E s₁) E s) :
  wpAny (model prog w) A (eval (.Subscript value slice pos) env) Q E s:=by
 refine Subscript_ (wpAny_mono h (fun o s₁ h₁=>wpAny_mono h₁ (fun i s₂ h₂=>?_) fun _ _ x=>x) fun _ _ x=>x)
 obtain ⟨hT,h₂⟩:=h₂
 unfold subscriptTail
 refine wpAny_bind ?_
 rw [getitemInPython_of_ne hT.not_modules]
 refine wpAny_bind (wpAny_specialOf hT hl ?_)
 have fin:wpAny (model prog w) A (subscripted slice false o i) (fun r s₃=>wpAny (model prog w) A (letTemporaryGo value o r >>= fun _=>pure r) Q E s₃) E s₂:=by
  rw [hs o i]
  exact wpAny_operating (wpAny_mono h₂ (fun r s₃ h₃=>wpAny_bind (wpAny_letTemporaryGo (wpAny_pure h₃))) fun _ _ x=>x)
 first
  | exact wpAny_pure (wpAny_bind fin)
  | exact wpAny_bind (wpAny_pure (wpAny_bind fin))
  | exact wpAny_bind fin
section
variable {X:Cx}{o i e value:Expr}{pos pos' tpos:Pos}{td ty tv:TE}
end
section
variable {X:Cx}{pos:Pos}
end
noncomputable def vf:List (TE × TE)->St->Hp->(List (V × V)->Hp->Prop)->Prop
 | [],_,H,Q=>Q [] H
 | (tk,tv) :: r,σ,H,Q=>tk σ H fun x H1=>tv σ H1 fun y H2=>vf r σ H2 fun ps H3=>Q ((x,y) :: ps) H3
noncomputable abbrev VV:List (V × V)->List (Value × Value)->Prop:=Paired fun p q=>zr p.1 q.1/\zr p.2 q.2
noncomputable def PPs (X:Cx)(pos:Pos)(keys:List (Option Expr))(values:List Expr)(trs:List (TE × TE)):Prop:=
 ∀ (pins:List (Addr × Obj)) (s:Shared) (σ:St) (H:Hp) (Q:List (V × V)->Hp->Prop),Inv X pins σ H s->vf trs σ H Q ->
  wpAny (model X.prog X.w) X.A (evalPairs (pairTrees keys values X.env pos)) (fun vs s'=>∃ ps H',Inv X pins σ H' s'/\VV ps vs/\Q ps H') X.xe s
theorem Vm {X:Cx}{pos:Pos}:PPs X pos [] [] []:=fun pins s σ H Q I h=>pairTrees_nil_walk ⟨[],H,I,.nil,h⟩
theorem Ju {X:Cx}{pos:Pos}{k v:Expr}{ks:List (Option Expr)}{vs:List Expr}{tk tv:TE}{trs:List (TE × TE)}(hk:PE X k tk)(hv:PE X v tv)(hr:PPs X pos ks vs trs) :
  PPs X pos (some k :: ks) (v :: vs) ((tk,tv) :: trs):=fun pins s σ H Q I h=>
 pairTrees_cons_walk (thn (hk pins s σ H _ I h) fun u s1 ⟨x,H1,I1,rx,q1⟩=>thn (hv pins s1 σ H1 _ I1 q1) fun w2 s2 ⟨y,H2,I2,ry,q2⟩=>
  thn (hr pins s2 σ H2 _ I2 q2) fun ws s3 ⟨ps,H3,I3,rel,q3⟩=>⟨(x,y) :: ps,H3,I3,.cons ⟨rx,ry⟩ rel,q3⟩)
structure M1 (X:Cx)(o:Expr)(m:Str)(apos:Pos)(e:Expr)(cpos:Pos):Prop where
 base:attributeBase o m X.env (eval o X.env)=eval o X.env
 few:((backTo cpos (starEach [e] X.env)).all (fun x=>!x.1) && (backToKw cpos (keywordEach [] X.env)).all (fun x=>x.1.isSome)
  && decide (([e]:List Expr).length+([]:List Keyword).length+(if ([]:List Keyword).isEmpty then 0 else 1)<30))=true
 line:(apos.endLine == cpos.line)=true
 trees:backTo cpos (starEach [e] X.env)=[(false,eval e X.env)]
structure M2 (X:Cx)(o:Expr)(m:Str)(apos:Pos)(e f:Expr)(cpos:Pos):Prop where
 base:attributeBase o m X.env (eval o X.env)=eval o X.env
 few:((backTo cpos (starEach [e,f] X.env)).all (fun x=>!x.1) && (backToKw cpos (keywordEach [] X.env)).all (fun x=>x.1.isSome)
  && decide (([e,f]:List Expr).length+([]:List Keyword).length+(if ([]:List Keyword).isEmpty then 0 else 1)<30))=true
 line:(apos.endLine == cpos.line)=true
 trees:backTo cpos (starEach [e,f] X.env)=[(false,eval e X.env),(false,eval f X.env)]
section
variable {X:Cx}{pins:List (Addr × Obj)}{σ:St}{H:Hp}{s:Shared}{a:Addr}{y d:V}{u r:Value}{o:Option V}{A:Around}{E:Value->Shared->Prop}
end
section
variable {X:Cx}{o e f:Expr}{apos cpos:Pos}{td ty tx:TE}
end
section
variable {X:Cx}{pins:List (Addr × Obj)}{σ:St}{H:Hp}{s:Shared}{a:Addr}{kvs:List (Key × V)}{A:Around}{E:Value->Shared->Prop}
end
section
variable {X:Cx}{pins:List (Addr × Obj)}{σ:St}{H:Hp}{s:Shared}{a:Addr}{y:V}{u:Value}{A:Around}{E:Value->Shared->Prop}
end
section
variable {κ:Type}[DecidableEq κ]
end
end L2
set_option Elab.async false
set_option linter.all false
set_option maxRecDepth 100000
set_option maxHeartbeats 4000000
namespace L2
open PySem PySem.Spec PyProof.Rows
noncomputable def YA (N:List Str)(ts:List Nat)(sc:Scope)(kind:Str->Option NameKind):Bool:=
 sc.kind == .function && sc.names.all (fun y=>y.2 != .cell && (y.2 != .local || sc.names.lookup y.1 == some .local) && (y.2 != .free || kind y.1 == some .cell || kind y.1 == some .free)) &&
  N.zipIdx.all (fun p=>sc.names.lookup p.1 != some .local || ts.contains p.2)
noncomputable def qh (cells:List (Str × Addr)):List (Str × NameKind)->List (Str × Addr)->List (Str × Addr)
 | [],acc=>acc
 | (n,k) :: r,acc=>qh cells r (if k=.free then (n,(cells.lookup n).getD 0) :: acc else acc)
theorem y9 {env:Env}:∀ (names:List (Str × NameKind)) (acc:List (Str × Addr)),(∀ y ∈ names,y.2=.free->∃ c,env.cells.lookup y.1=some c) ->
  (forIn names acc fun (x:Str × NameKind) (cs:List (Str × Addr))=>(match x with | (name,kind)=>if (kind == NameKind.free)=true then (do let c <- cellOf env name;pure (ForInStep.yield ((name,c) :: cs))) else pure (ForInStep.yield cs):Sem (ForInStep (List (Str × Addr)))))=pure (qh env.cells names acc)
 | [],acc,_=>rfl
 | (n,k) :: r,acc,h=>by
  rw [List.forIn_cons]
  by_cases hk:k=.free
  ·subst hk
   obtain ⟨c,hc⟩:=h (n,.free) List.mem_cons_self rfl
   have e1:cellOf env n=pure c:=by unfold cellOf;rw [hc]
   simp only [beq_self_eq_true,if_true,e1,pure_bind]
   rw [y9 r _ fun y hy=>h y (List.mem_cons_of_mem _ hy)]
   show _=pure (qh env.cells r (if NameKind.free=.free then _ else _))
   rw [if_pos rfl,hc];rfl
  ·have hb:(k == NameKind.free)=false:=by simpa using hk
   simp only [hb,Bool.false_eq_true,if_false,pure_bind]
   rw [y9 r _ fun y hy=>h y (List.mem_cons_of_mem _ hy)]
   show _=pure (qh env.cells r (if k=.free then _ else _))
   rw [if_neg hk]
theorem ky {cells : List (Str × Addr)} : ∀ (names : List (Str × NameKind)) (acc : List (Str × Addr)), (∀ y ∈ names, y.2 = .free -> ∃ c, cells.lookup y.1 = some c) -> (∀ x c, acc.lookup x = some c -> cells.lookup x = some c) ->
    (∀ x c,(qh cells names acc).lookup x=some c->cells.lookup x=some c)/\(∀ x c,acc.lookup x=some c->∃ c',(qh cells names acc).lookup x=some c')/\∀ y ∈ names,y.2=.free->∃ c,(qh cells names acc).lookup y.1=some c
  | [],acc,_,h2=>⟨h2,fun x c e=>⟨c,e⟩,fun y hy=>nomatch hy⟩
  | (n,k) :: r,acc,h1,h2=>by
    by_cases hk:k=.free
    · subst hk
      obtain ⟨c,hc⟩:=h1 (n,.free) List.mem_cons_self rfl
      have hc:cells.lookup n=some c:=hc
      have e:qh cells ((n,.free) :: r) acc=qh cells r ((n,c) :: acc):=by
        show qh cells r (if NameKind.free=.free then _ else _)=_
        rw [if_pos rfl,hc];rfl
      rw [e]
      obtain ⟨q1,q2,q3⟩:=ky (cells:=cells) r ((n,c) :: acc) (fun y hy=>h1 y (List.mem_cons_of_mem _ hy)) (fun x c' e'=>by
        rw [List.lookup_cons] at e'
        cases hx:x == n with
        | true => rw [hx] at e'; have : x = n := by simpa using hx
                  subst this;cases e';exact hc
        | false=>rw [hx] at e';exact h2 x c' e')
      refine ⟨q1,fun x c' e'=>?_,fun y hy hf=>?_⟩
      · cases hx:x == n with
        | true=>exact q2 x c (by rw [List.lookup_cons,hx])
        | false=>exact q2 x c' (by rw [List.lookup_cons,hx];exact e')
      · rcases List.mem_cons.mp hy with rfl | hy
        · exact q2 n c (by rw [List.lookup_cons,beq_self_eq_true])
        · exact q3 y hy hf
    · have e : qh cells ((n, k) :: r) acc = qh cells r acc := by
        show qh cells r (if k=.free then _ else _)=_
        rw [if_neg hk]
      rw [e]
      obtain ⟨q1,q2,q3⟩:=ky (cells:=cells) r acc (fun y hy=>h1 y (List.mem_cons_of_mem _ hy)) h2
      refine ⟨q1,q2,fun y hy hf=>?_⟩
      rcases List.mem_cons.mp hy with rfl | hy
      · exact absurd hf hk
      · exact q3 y hy hf
theorem Zv {scope:Scope}{env:Env}(h:∀ y ∈ scope.names,y.2=.free->∃ c,env.cells.lookup y.1=some c) :
  ∃ cl,closureFor scope env=pure cl/\(∀ x c,cl.lookup x=some c->env.cells.lookup x=some c)/\∀ y ∈ scope.names,y.2=.free->∃ c,cl.lookup y.1=some c:=by
 obtain ⟨q1,_,q3⟩:=ky (cells:=env.cells) scope.names [] h (fun x c e=>nomatch e)
 refine ⟨qh env.cells scope.names [],?_,q1,q3⟩
 unfold closureFor
 have:=y9 (env:=env) scope.names [] h
 first
  | exact this
  | (simp only [bind_pure];exact this)
  | (refine Eq.trans ?_ this;simp)
theorem ko {env:Env}:∀ {names:List (Str × NameKind)} {x:Str},(names.map fun (n,k)=>if (k == NameKind.free && env.scope.kind == .function && env.kindOf n == some .cell) then (n,NameKind.cell) else (n,k)).lookup x =
  (names.lookup x).map fun k=>if (k == NameKind.free && env.scope.kind == .function && env.kindOf x == some .cell) then NameKind.cell else k
 | [],_=>rfl
 | (n,k) :: r,x=>by
  have ih:=@ko env r x
  rw [List.map_cons]
  cases hx:x == n with
  | true=>
   have e:x=n:=by simpa using hx
   subst e
   rw [List.lookup_cons (as:=r),beq_self_eq_true]
   show List.lookup x ((if (k == NameKind.free && env.scope.kind == .function && env.kindOf x == some .cell)=true then (x,NameKind.cell) else (x,k)) :: _)=some _
   by_cases hc:(k == NameKind.free && env.scope.kind == .function && env.kindOf x == some .cell)=true
   ·rw [if_pos hc,List.lookup_cons,beq_self_eq_true];dsimp only;rw [if_pos hc]
   ·rw [if_neg hc,List.lookup_cons,beq_self_eq_true];dsimp only;rw [if_neg hc]
  | false=>
   rw [List.lookup_cons (as:=r),hx]
   show List.lookup x ((if (k == NameKind.free && env.scope.kind == .function && env.kindOf n == some .cell)=true then (n,NameKind.cell) else (n,k)) :: _)=_
   by_cases hc:(k == NameKind.free && env.scope.kind == .function && env.kindOf n == some .cell)=true
   ·rw [if_pos hc,List.lookup_cons,hx];exact ih
   ·rw [if_neg hc,List.lookup_cons,hx];exact ih
noncomputable abbrev cxC (X:Cx)(scope:Scope)(cl:List (Str × Addr))(s:Shared)(H:Hp)(fp:List Addr):Cx:=
 { X with s₀:=s,H₀:=H,env:=compEnvC scope cl s.heap.objs.size X.env,outer:=X.stack,ex:=fp,fn:=fun _=>false,pn:=[],xe:=fun _ _=>False }
noncomputable def clr:List Nat->St->St
 | [],σ=>σ
 | j :: r,σ=>clr r (σ.set j none)
theorem Qp:∀ (ts:List Nat) (σ:St),(clr ts σ).length=σ.length
 | [],_=>rfl
 | j :: r,σ=>by show (clr r (σ.set j none)).length=_;rw [Qp r];simp
theorem wk:∀ (ts:List Nat) (σ:St) (i:Nat) (v:V),(clr ts σ)[i]?=some (some v)->i ∉ ts/\σ[i]?=some (some v)
 | [],_,_,_,h=>⟨by simp,h⟩
 | j :: r,σ,i,v,h=>by
  obtain ⟨h1,h2⟩:=wk r (σ.set j none) i v h
  by_cases e:j=i
  ·subst e
   rw [List.getElem?_set] at h2
   simp at h2
  ·rw [List.getElem?_set_ne e] at h2
   exact ⟨by simp [h1,Ne.symm e],h2⟩
structure ScF (X:Cx)(ts:List Nat)(scope:Scope):Prop where
 kind:scope.kind=.function
 cell:∀ y ∈ scope.names,y.2 ≠ .cell
 loc:∀ y ∈ scope.names,y.2=.local->scope.names.lookup y.1=some .local
 free:∀ y ∈ scope.names,y.2=.free->X.env.kindOf y.1=some .cell \/ X.env.kindOf y.1=some .free
 ts:∀ (i:Nat) x,X.N[i]?=some x->scope.names.lookup x=some .local->i ∈ ts
theorem WF {X:Cx}{ts:List Nat}{scope:Scope}(h:YA X.N ts scope X.env.kindOf=true):ScF X ts scope:=by
  unfold YA at h
  simp only [Bool.and_eq_true,List.all_eq_true,bne_iff_ne,ne_eq,Bool.or_eq_true,beq_iff_eq] at h
  obtain ⟨⟨h1,h2⟩,h3⟩:=h
  refine ⟨h1,fun y hy=>(h2 y hy).1.1,fun y hy e=>?_,fun y hy e=>?_,fun i x e1 e2=>?_⟩
  · rcases (h2 y hy).1.2 with z | z
    · exact absurd e z
    · exact z
  · rcases (h2 y hy).2 with (z | z) | z
    · exact absurd e z
    · exact .inl z
    · exact .inr z
  · have hm : (x, i) ∈ X.N.zipIdx := by
      rw [List.mem_zipIdx_iff_getElem?];exact e1
    rcases h3 _ hm with z | z
    · exact absurd e2 z
    · simpa using z
section
variable {X:Cx}{ts:List Nat}{scope:Scope}{pins:List (Addr × Obj)}{σ:St}{H:Hp}{s:Shared}{fp:List Addr}
theorem Zr (I:Inv X pins σ H s)(S:ScF X ts scope)(hf:∀ b ∈ fp,kY X pins H b)(hfl:∀ b ∈ fp,b<s.heap.objs.size){cl:List (Str × Addr)}(c1:∀ x c,cl.lookup x=some c->X.env.cells.lookup x=some c)
  (c2:∀ y ∈ scope.names,y.2=.free->∃ c,cl.lookup y.1=some c) {h1:Heap} {t1:Nat} (hns:h1.Ns s.heap.objs.size (fun x=>([]:List (Str × Value)).reverse.lookup x))
  (hk:∀ b o,s.heap.get? b=some o->h1.get? b=some o):Inv (cxC X scope cl s H fp) [] (clr ts σ) H { s with heap:=h1,toks:=t1 }:=by
 have hlk:∀ x,(relabel scope X.env).names.lookup x=(scope.names.lookup x).map fun k=>if (k == NameKind.free && X.env.scope.kind == .function && X.env.kindOf x == some .cell) then NameKind.cell else k:=fun x=>ko
 have cfree:∀ x,((relabel scope X.env).names.lookup x=some .cell \/ (relabel scope X.env).names.lookup x=some .free)->(x,NameKind.free) ∈ scope.names:=fun x hx=>by
  rw [hlk] at hx
  cases e:scope.names.lookup x with
  | none=>rw [e] at hx;rcases hx with hx | hx <;> cases hx
  | some k=>
   have hm:=mem_of_lookup_some e
   cases k with
   | free=>exact hm
   | cell=>exact absurd rfl (S.cell _ hm)
   | «local»=>rw [e] at hx;rcases hx with hx | hx <;> cases hx
   | globalExplicit=>rw [e] at hx;rcases hx with hx | hx <;> cases hx
   | globalImplicit=>rw [e] at hx;rcases hx with hx | hx <;> cases hx
 have ccell:∀ x c,cl.lookup x=some c->∃ v,s.heap.IsCell c v:=fun x c e=>I.cell x c (c1 x c e)
 have fpne:∀ b ∈ fp,b ∉ frs X.stack:=fun b hb z=>by
  obtain ⟨_,f1,f2,_⟩:=hf b hb
  rcases List.mem_cons.mp (I.stkSub b z) with e | e
  ·exact f1 e
  ·exact f2 e
 refine ⟨⟨I.ok.mod,S.kind,I.ok.glob,I.ok.blt,Nat.le_refl _,fun x y c e1 e2=>I.ok.inj x y c (c1 x c e1) (c1 y c e2),fun x hx=>c2 (x,.free) (cfree x hx) rfl,(fun x c hx=>nomatch hx),I.ok.hd,I.ok.frames,.inl rfl,fun b hb=>⟨Nat.ne_of_lt (hfl b hb),fun x c e=>(hf b hb).2.2.2.2.1 x c (c1 x c e)⟩,
  I.bs,Nat.le_trans I.ok.bsz I.sz,fun b o e hb=>?_,fpne,I.stack,I.stkFree⟩,rfl,I.bare,Un.kept hk,⟨_,hns,fun i x v e1 e2 e3=>?_⟩,fun x c e=>?_,I.hok.fresh (Nat.le_refl _),fun x c e=>I.freeC x c (c1 x c e),fun p hp=>absurd hp (by simp),I.hok.kept hk,by rw [Qp];exact I.len⟩
 ·rcases (hf b hb).2.2.2.1 with z | z
  ·exact I.ok.noex b o e z
  ·exact absurd (Nat.lt_of_lt_of_le (Heap.lt_size e) (Nat.le_trans I.ok.bsz z)) (Nat.lt_irrefl _)
 ·obtain ⟨nt,e2⟩:=wk ts σ i v e2
  have e3':(relabel scope X.env).names.lookup x=some .local \/ (relabel scope X.env).names.lookup x=some .cell \/ (relabel scope X.env).names.lookup x=some .free:=e3
  rcases e3' with z | z
  ·rw [hlk] at z
   cases e:scope.names.lookup x with
   | none=>rw [e] at z;cases z
   | some k=>
    rw [e] at z
    have z':(if (k == NameKind.free && X.env.scope.kind == .function && X.env.kindOf x == some .cell)=true then NameKind.cell else k)=.local:=Option.some.inj z
    split at z'
    ·cases z'
    ·subst z'
     exact absurd (S.ts i x e1 e) nt
  ·have hm:=cfree x z
   obtain ⟨c,hc⟩:=c2 _ hm rfl
   obtain ⟨m,hn,hl⟩:=I.loc
   have vis:Vis X.env.scope x:=by
    rcases S.free _ hm rfl with q | q
    ·exact .inr (.inl q)
    ·exact .inr (.inr q)
   obtain ⟨u,r,l⟩:=hl i x v e1 e2 vis
   refine ⟨u,r,.inr ⟨z,c,hc,?_⟩⟩
   rcases l with ⟨q,_⟩ | ⟨_,c',hc',hcell⟩
   ·rcases S.free _ hm rfl with q' | q'
    ·rw [q'] at q;cases q
    ·rw [q'] at q;cases q
   ·rw [c1 x c hc] at hc'
    cases hc'
    obtain ⟨o,ho,hd⟩:=hcell
    exact ⟨o,hk _ _ ho,hd⟩
 ·obtain ⟨v,o,ho,hd⟩:=ccell x c e
  exact ⟨v,o,hk _ _ ho,hd⟩
end
section
variable {prog:Program}{w:World}{A:Around}{R:Result->Shared->Prop}{s:Shared}
theorem jR {elt target iter : Expr}{ifs : List Expr}{scope : Scope}{pos : Pos}{it acc : Value}{env : Env}(I : Nat -> Shared -> Prop)
    (turn:∀ n s,I n s->wpAny (model prog w) A (pyNext it) (fun r s₁=>match r with
      | none=>R (.ok .next) s₁
      | some v => wpAny (model prog w) A (letOwnedTupleGo target it v) (fun _ s₀ => wpAny (model prog w) A (assign target env v) (fun _ s₂ =>
          wpAny (model prog w) A (forIn ifs true fun c r=>if r=true then do let ok <- isTrue c env (eval c env);pure (ForInStep.yield ok) else pure (ForInStep.yield r)) (fun ok s₃=>
            if ok=true then wpAny (model prog w) A (eval elt env) (fun x s₄=>
              wpAny (model prog w) A (call (.builtin "list.append") [acc,x]) (fun _ s₅=>∃ m,m<n/\I m s₅) (fun _ _=>False) s₄) (fun _ _=>False) s₃
            else ∃ m,m<n/\I m s₃) (fun _ _=>False) s₂) (fun _ _=>False) s₀) (fun _ _=>False) s₁) (fun _ _=>False) s)
    (n:Nat) (h:I n s) :
    codeAny (model prog w) A (.compLoop (.ListComp elt [⟨target,iter,ifs,0⟩] scope pos) 0 it acc env) R s:=by
  refine codeAny_loop rfl I (fun n s hI=>?_) n h
  show wpAny _ A ((compTurn (.ListComp elt [⟨target,iter,ifs,0⟩] scope pos) 0 it acc env).onRaise (fun x=>do noteFrame x env;theTreesLotGoes x)) _ _ s
  refine wpAny_noted ?_
  rw [compTurn_list]
  refine wpAny_bind (wpAny_standAt (wpAny_bind (wpAny_mono (turn n s hI) (fun r s₁ h₁=>?_) fun _ _ h'=>h'.elim)))
  cases r with
  | none=>exact wpAny_pure h₁
  | some v=>
    refine wpAny_bind (wpAny_mono h₁ (fun _ s₀ h₀=>?_) fun _ _ h'=>h'.elim)
    refine wpAny_bind (wpAny_mono h₀ (fun _ s₂ h₂=>wpAny_bind (wpAny_mono h₂ (fun ok s₃ h₃=>?_) fun _ _ h'=>h'.elim)) fun _ _ h'=>h'.elim)
    cases ok with
    | false=>exact wpAny_pure ⟨rfl,h₃⟩
    | true=>
      exact wpAny_bind (wpAny_bind (wpAny_mono h₃ (fun x s₄ h₄=>wpAny_bind (wpAny_mono h₄ (fun _ s₅ h₅=>wpAny_pure (wpAny_pure ⟨rfl,h₅⟩)) fun _ _ h'=>h'.elim)) fun _ _ h'=>h'.elim))
end
noncomputable def J9:TT:=fun _ H Q=>Q true H
noncomputable def PIf (X:Cx)(ifs:List Expr)(t:TT):Prop:=
 ∀ (pins:List (Addr × Obj)) (s:Shared) (σ:St) (H:Hp) (Q:Bool->Hp->Prop),Inv X pins σ H s->t σ H Q ->
  wpAny (model X.prog X.w) X.A (forIn ifs true fun c r=>if r=true then do let ok <- isTrue c X.env (eval c X.env);pure (ForInStep.yield ok) else pure (ForInStep.yield r)) (TP X pins σ Q) X.xe s
theorem Qe {X:Cx}:PIf X [] J9:=fun _ _ _ H _ I h=>wpAny_tests_nil ⟨H,I,h⟩
theorem Yj {X:Cx}{c:Expr}{t:TT}(h:PT X c t):PIf X [c] t:=fun pins s σ H Q I hq=>wpAny_tests_one (h pins s σ H Q I hq)
noncomputable def Qj (ts:List Nat)(wi:TI)(g:TG)(tt:TT)(te:TE):TE:=fun σ H Q=>wi σ H fun J H1=>∀ D,H1 D=none->∃ W:Nat->Nat->St->Hp->Prop,(∃ m,W 0 m (clr ts σ) (upd H1 D (.lst [])))/\∀ i m τ H2,W i m τ H2 ->
 (J.stop i H2/\Q (.ref D) H2) \/ (J.go i H2/\∃ N:St->Hp->Prop,(∀ τ' H',N τ' H'->∃ m',m'<m/\W (i+1) m' τ' H')/\∀ x H',J.yld i H2 x H'->g x τ H' fun τ2 H3=>tt τ2 H3 fun b H4=>
  if b=true then te τ2 H4 fun v H5=>∃ ys,H5 D=some (.lst ys)/\ys.length<sizeLine/\N τ2 (upd H5 D (.lst (ys ++ [v]))) else N τ2 H4)
section
variable {X:Cx}{ts:List Nat}{scope:Scope}{tg iter elt:Expr}{ifs:List Expr}{wi:TI}{g:TG}{tt:TT}{te:TE}{pos:Pos}
theorem KW (hc:X.calm=true)(hsc:YA X.N ts scope X.env.kindOf=true)(hi:PI X tg iter wi)(hg:∀ cl s H fp,PG (cxC X scope cl s H fp) tg g)(ht:∀ cl s H fp,PIf (cxC X scope cl s H fp) ifs tt)(he:∀ cl s H fp,PE (cxC X scope cl s H fp) elt te)
  {pins:List (Addr × Obj)} {s:Shared} {σ:St} {H:Hp} {Q:VK} (I:Inv X pins σ H s) (h:Qj ts wi g tt te σ H Q) {use:Option (Value->Sem Unit)} {Q':Value->Shared->Prop}
  (fin:∀ (D C:Addr) (H':Hp) (s':Shared),Inv X pins σ H' s'->(∃ m,s'.heap.Ns C m)->H' C=none->C ≠ X.env.locals->(∀ x c,X.env.cells.lookup x=some c->c ≠ C)->X.s₀.heap.objs.size<=C->(∀ p ∈ X.pn ++ pins,p.1 ≠ C)->C ∉ X.fs->Q (.ref D) H' ->
   compPost (model X.prog X.w) X.A X.xe use Q' (.ref D) C (.ok .next) s')
  (hs:∀ x,foldedSetIterable iter X.env x=pure x) :
  wpAny (model X.prog X.w) X.A (comprehension (.ListComp elt [⟨tg,iter,ifs,0⟩] scope pos) scope X.env (firstIterPos [⟨tg,iter,ifs,0⟩] pos) (newList []) false (eval iter X.env) use) Q' X.xe s:=by
 have S:=WF hsc
 obtain ⟨cl,hcl,c1,c2⟩:=Zv (scope:=scope) (env:=X.env) fun y hy e=>I.ok.has y.1 (S.free y hy e)
 refine wpAny_comprehension_free (use:=use) rfl hs hcl S.kind S.loc ?_
 refine wpAny_mono (hi pins s σ H _ I h) (fun v s1 h1=>wpAny_mono h1 (fun itv s2 h2=>?_) fun _ _ e=>e) fun _ _ e=>e
 obtain ⟨it,fp,tn,J,H2,e,I2,T,st2,f2,q2⟩:=h2
 subst e
 have hD:H2 s2.heap.objs.size=none:=I2.hok.fresh (Nat.le_refl _)
 obtain ⟨W,⟨m0,w0⟩,turn⟩:=q2 _ hD
 refine wpAny_newObj_type (wpAny_newFunctionEnv S.cell (by intro y hy;simp at hy) (fun h₁ hns₁ hsb₁=>?_) S.kind)
 dsimp only at hns₁ hsb₁ ⊢
 generalize hh3:s2.heap.push { cls:=.type "list",dict:=none,data:=.seq ([]:List Value).toArray }=g3 at hns₁ hsb₁ ⊢
 have I3:Inv X pins σ (upd H2 s2.heap.objs.size (.lst [])) { s2 with heap:=g3 }:=by
  rw [<- hh3]
  exact I2.laid (t':=s2.toks) (fun b u e=>Heap.get?_push_of_some _ e) (Nat.le_refl _) ⟨Nat.zero_le _,[],_,.nil,Heap.get?_push_size _ rfl⟩
 have st3:tn 0 g3:=T.keep _ _ _ st2 fun b _ o e=>by rw [<- hh3];exact Heap.get?_push_of_some _ e
 have lt2:∀ b ∈ fp,b<s2.heap.objs.size:=fun b hb=>by obtain ⟨o,e,_⟩:=T.obj _ _ st2 b hb;exact Heap.lt_size e
 have hsz3:g3.objs.size=s2.heap.objs.size+1:=by rw [<- hh3,Heap.size_push]
 have f3:∀ b ∈ fp,kY X pins (upd H2 s2.heap.objs.size (.lst [])) b:=fun b hb=>⟨by rw [zf (Nat.ne_of_lt (lt2 b hb))];exact (f2 b hb).1,(f2 b hb).2⟩
 have lt3:∀ b ∈ fp,b<g3.objs.size:=fun b hb=>by rw [hsz3];exact Nat.lt_succ_of_lt (lt2 b hb)
 have old:∀ b o,g3.get? b=some o->h₁.get? b=some o:=fun b o e=>hsb₁.extBut b o (Nat.ne_of_lt (Heap.lt_size e)) (Heap.get?_push_of_some _ e)
 have hns:h₁.Ns g3.objs.size (fun x=>([]:List (Str × Value)).reverse.lookup x):=hns₁
 have I4:∀ t,Inv (cxC X scope cl { s2 with heap:=g3 } (upd H2 s2.heap.objs.size (.lst [])) fp) [] (clr ts σ) (upd H2 s2.heap.objs.size (.lst [])) { s2 with heap:=h₁,toks:=t }:=fun t=>Zr I3 S f3 lt3 c1 c2 hns old
 have fpne:∀ b ∈ fp,b ∉ frs X.stack:=fun b hb z=>by
  obtain ⟨_,f1,f2,_⟩:=f3 b hb
  rcases List.mem_cons.mp (I3.stkSub b z) with e | e
  ·exact f1 e
  ·exact f2 e
 have stat:∀ {H':Hp},(∀ b ∈ fp,H' b=none)->∀ b ∈ fp,kY (cxC X scope cl { s2 with heap:=g3 } (upd H2 s2.heap.objs.size (.lst [])) fp) [] H' b:=fun hn b hb=>
  ⟨hn b hb,Nat.ne_of_lt (lt3 b hb),fpne b hb,.inl hb,fun x c e=>(f2 b hb).2.2.2.2.1 x c (c1 x c e),fun p hp=>absurd hp (by simp)⟩
 have loop:∀ t,codeAny (model X.prog X.w) X.A (.compLoop (.ListComp elt [⟨tg,iter,ifs,0⟩] scope pos) 0 (.ref it) (.ref s2.heap.objs.size) (compEnvC scope cl g3.objs.size X.env))
   (compPost (model X.prog X.w) X.A X.xe use Q' (.ref s2.heap.objs.size) g3.objs.size) { s2 with heap:=h₁,toks:=t }:=by
  intro t
  refine jR (fun n s'=>∃ i τ H',Inv (cxC X scope cl { s2 with heap:=g3 } (upd H2 s2.heap.objs.size (.lst [])) fp) [] τ H' s'/\tn i s'.heap/\(∀ b ∈ fp,H' b=none)/\W i n τ H') ?_ m0
   ⟨0,clr ts σ,_,I4 t,T.keep _ _ _ st3 fun b _ o e=>old b o e,fun b hb=>(f3 b hb).1,w0⟩
  rintro n s5 ⟨i,τ,H5,I5,st5,fr5,w5⟩
  rcases turn i n τ H5 w5 with ⟨stop,qn⟩ | ⟨go,N,hN,step⟩
  ·refine thn (T.done (cxC X scope cl { s2 with heap:=g3 } (upd H2 s2.heap.objs.size (.lst [])) fp) rfl rfl rfl hc i [] s5 τ H5 _ I5 (stat fr5) st5 stop) fun r s6 ⟨hr,I6⟩=>?_
   subst hr
   have base:Un (frs X.stack) fp (upd H2 s2.heap.objs.size (.lst [])) H5 g3 s6.heap:=I6.base
   have J6:Inv X pins σ H5 s6:=I3.call' (ch:=fp) I6.os base I6.hok I6.bare fun b hb=>⟨(f3 b hb).2.2.2.1,(f3 b hb).2.1,(f3 b hb).2.2.2.2.1,(f3 b hb).2.2.2.2.2⟩
   obtain ⟨m6,n6,_⟩:=I6.loc
   have hC:g3.get? g3.objs.size=none:=Heap.get?_none_of_le (Nat.le_refl _)
   refine fin _ g3.objs.size H5 s6 J6 ⟨m6,n6⟩ I6.free (Nat.ne_of_gt I3.lt) (fun x c e z=>?_) I3.sz (fun p hp z=>?_) (I3.nofs (Nat.le_refl _)) qn
   ·obtain ⟨v,q⟩:=I3.cell x c e
    exact absurd q.lt (by rw [z];exact Nat.lt_irrefl _)
   ·exact absurd (Heap.lt_size (I3.pin p hp).1) (by rw [z];exact Nat.lt_irrefl _)
  ·refine thn (T.item (cxC X scope cl { s2 with heap:=g3 } (upd H2 s2.heap.objs.size (.lst [])) fp) rfl rfl rfl hc i [] s5 τ H5 _ I5 (stat fr5) st5 go) fun r s6 ⟨u,hr,h6⟩=>?_
   subst hr
   refine thn h6 fun _ s7 ⟨x,H7,I7,r7,y7,st7,fr7⟩=>?_
   have I7':=I7.pinned (stat fr7) (T.obj _ _ st7)
   refine thn (hg cl { s2 with heap:=g3 } _ fp _ s7 τ H7 x u _ I7' r7 (step x H7 y7)) fun _ s8 ⟨τ8,H8,I8,q8⟩=>?_
   refine thn (ht cl { s2 with heap:=g3 } _ fp _ s8 τ8 H8 _ I8 q8) fun b s9 ⟨H9,I9,q9⟩=>?_
   have again:∀ {τ9:St} {H9:Hp} {s9:Shared},Inv (cxC X scope cl { s2 with heap:=g3 } (upd H2 s2.heap.objs.size (.lst [])) fp) ([] ++ xQ fp s7.heap) τ9 H9 s9->N τ9 H9 ->
     ∃ m,m<n/\∃ i τ H',Inv (cxC X scope cl { s2 with heap:=g3 } (upd H2 s2.heap.objs.size (.lst [])) fp) [] τ H' s9/\tn i s9.heap/\(∀ b ∈ fp,H' b=none)/\W i m τ H':=fun {τ9 H9 s9} I9 n9=>by
    obtain ⟨m',hm,w9⟩:=hN _ _ n9
    refine ⟨m',hm,i+1,τ9,H9,I9.unpinned,T.keep _ _ _ st7 fun b hb o e=>(I9.pin (b,o) (List.mem_append_right _ (List.mem_append_right _ (js hb e)))).1,fun b hb=>?_,w9⟩
    obtain ⟨o,e,d⟩:=T.obj _ _ st7 b hb
    exact (I9.pin (b,o) (List.mem_append_right _ (List.mem_append_right _ (js hb e)))).2.1
   cases b with
   | false=>
    rw [if_neg Bool.false_ne_true] at q9 ⊢
    exact again I9 q9
   | true=>
    rw [if_pos rfl] at q9 ⊢
    refine thn (he cl { s2 with heap:=g3 } _ fp _ s9 τ8 H9 _ I9 q9) fun y s10 ⟨v,H10,I10,r10,ys,hys,hlen,n10⟩=>?_
    exact thn (yx (X:=cxC X scope cl { s2 with heap:=g3 } (upd H2 s2.heap.objs.size (.lst [])) fp) _ s10 τ8 H10 (.ref s2.heap.objs.size) [v] (.ref s2.heap.objs.size) [y] (fun _ H11=>N τ8 H11) I10 rfl (.cons r10 .nil) ⟨_,ys,v,rfl,rfl,hys,hlen,n10⟩) fun _ s11 ⟨_,H11,I11,_,n11⟩=>again I11 n11
 have LW:=loop (s2.toks+([]:List (Str × Value)).length)
 exact codeAny_compStart_list LW (T.self _ 0 _ _ _ (T.keep _ _ _ st3 fun b _ o e=>old b o e) LW)
end
section
variable {X:Cx}{ts:List Nat}{scope:Scope}{tg iter elt:Expr}{ifs:List Expr}{wi:TI}{g:TG}{tt:TT}{te:TE}{pos:Pos}
theorem yS (hc:X.calm=true)(hsc:YA X.N ts scope X.env.kindOf=true)(hi:PI X tg iter wi)(hg:∀ cl s H fp,PG (cxC X scope cl s H fp) tg g)(ht:∀ cl s H fp,PIf (cxC X scope cl s H fp) ifs tt)(he:∀ cl s H fp,PE (cxC X scope cl s H fp) elt te)
  (hs:∀ x,foldedSetIterable iter X.env x=pure x:=by intro _;rfl):PE X (.ListComp elt [⟨tg,iter,ifs,0⟩] scope pos) (Qj ts wi g tt te):=by
 intro pins s σ H Q I h
 rw [eval_ListComp]
 refine KW hc hsc hi hg ht he I h (use:=none) (fun D C H' s' I' ⟨m,hn⟩ hC hL hce hsz hp hfs q=>⟨m,hn,fun h' hs'=>?_⟩) hs
 exact ⟨.ref D,H',I'.turned (t':=s'.toks) (it:=C) (fun b o hb e=>(hs'.2 b hb).trans e) hC hL (.inr hsz) hce hp,rfl,q⟩
end
noncomputable def Ite (K:PySem.W.Frag)(a:Addr):It:=
 ⟨fun i H=>∃ xs x,SqL K H a xs/\xs[i]?=some x,fun i H y H'=>∃ p x,H p=none/\y=.ref p/\(∀ xs,SqL K H a xs->xs[i]?=some x)/\H'=upd H p (.tup [.int i,x]),fun i H=>∃ xs,SqL K H a xs/\xs.length<=i⟩
theorem yo {P:Program}{w:World}{K:PySem.W.Frag}{es:List Expr}{kt:Nat}{tp:Pos}(a e it:Addr)(hei:e ≠ it):w6 P w K (.Tuple es kt tp) (Ite K a) [e,it] e (fun i h=>(∃ old,IsEnum h e it (i:Nat) old)/\h.IsListIter it a i) where
 mem:=by simp
 obj:=fun i h st b hb=>by
  obtain ⟨⟨old,he⟩,⟨o,e1,c,d⟩⟩:=st
  rcases List.mem_cons.mp hb with rfl | hb
  ·exact ⟨_,he,fun v z=>by have z':Data.fields _=Data.cell v:=z;cases z'⟩
  ·have e2:b=it:=by simpa using hb
   subst e2
   exact ⟨o,e1,fun v z=>by rw [d] at z;cases z⟩
 keep:=fun i h h' st k=>by
  obtain ⟨⟨old,he⟩,st⟩:=st
  exact ⟨⟨old,k e (by simp) _ he⟩,st.at fun o e=>k it (by simp) o e⟩
 item:=by
  intro X hP hw hK hc i pins s σ H E I hf st hg
  subst hP hw hK
  obtain ⟨⟨old,he⟩,st⟩:=st
  obtain ⟨xs,x,hq,hx⟩:=hg
  obtain ⟨its,rv,p,hz⟩:=I.list hq
  obtain ⟨u,hu,ru⟩:=rv.get hx
  have fe:=hf e (by simp)
  have fi:=hf it (by simp)
  refine wpAny_pyNext_enum_item he st p.isList (x:=u) (by simpa using hu) hei fun h1 heo hit1 ht1 hz1 hk1=>?_
  refine ⟨.ref s.heap.objs.size,rfl,wpAny_letOwnedTupleGo_enum heo fun h2 he2 hs2=>?_⟩
  replace hs2:Heap.SameBut e h1 h2:=hs2
  have elt:e<s.heap.objs.size:=Heap.lt_size he
  have hfr:H s.heap.objs.size=none:=I.hok.fresh (Nat.le_refl _)
  have ht2:h2.get? s.heap.objs.size=some { cls:=.type "tuple",data:=.seq #[.int i s.toks,u] }:=(hs2.2 _ (Nat.ne_of_gt elt)).trans ht1
  have kk:∀ b o,b ∉ [e,it]->s.heap.get? b=some o->h2.get? b=some o:=fun b o hc q=>by
   have n1:b ≠ e:=fun z=>hc (by simp [z])
   have n2:b ≠ it:=fun z=>hc (by simp [z])
   exact (hs2.2 b n1).trans (hk1 b o n1 n2 q)
  have nb:∀ c v,H c=some v->c ∉ [e,it]:=fun c v z hm=>by
   rcases List.mem_cons.mp hm with z' | z'
   ·rw [z',fe.1] at z;cases z
   ·have e2:c=it:=by simpa using z'
    rw [e2,fi.1] at z;cases z
  have I2:Inv X pins σ (upd H s.heap.objs.size (.tup [.int i,x])) { s with heap:=h2,toks:=s.toks+1 }:=by
   refine I.step (g':=s.gens) (d':=s.drawn) (ch:=[e,it]) (fun b hb=>?_) (fun b o _ _ hc q _=>kk b o hc q) (fun b o _ _ hc q _=>⟨o.slots,kk b o hc q⟩) (fun b o _ q n=>by rw [zf (Nat.ne_of_lt (Heap.lt_size q))];exact n) (fun b o hc q=>⟨o,kk b o hc q⟩)
    (fun b xs q=>by rw [zf (zg q hfr)];exact q) (fun b o u q=>by rw [zf (zg q hfr)];exact q) (fun b ps q=>⟨#[],by rw [zf (zg q hfr),q];simp⟩) (fun m hm=>?_) (fun b v q=>?_) I.bare
   ·rcases List.mem_cons.mp hb with z | hb
    ·rw [z];exact ⟨fe.2.2.2.1,fe.2.1,fe.2.2.2.2.1,fe.2.2.2.2.2⟩
    ·have e2:b=it:=by simpa using hb
     rw [e2];exact ⟨fi.2.2.2.1,fi.2.1,fi.2.2.2.2.1,fi.2.2.2.2.2⟩
   ·obtain ⟨o,es,ep,ho,r⟩:=hm
    exact ⟨o,es,ep,kk _ o (by simp [Ne.symm fe.2.1,Ne.symm fi.2.1]) ho,r⟩
   ·by_cases hb:b=s.heap.objs.size
    ·subst hb
     rw [zh] at q
     cases q
     exact ⟨by show 2<=sizeLine;decide,[.int i s.toks,u],.cons ⟨_,rfl⟩ (.cons ru .nil),_,ht2,rfl,⟨_,rfl⟩,rfl⟩
    ·rw [zf hb] at q
     refine (I.hok b v q).stay (fun c o hc q'=>kk c o ?_ q') (fun c z=>by rw [zf (zg z hfr)];exact z) fun c xs z=>by rw [zf (zg z hfr)];exact z
     rcases hc with z | z
     ·rw [z];exact nb b v q
     ·exact nb c _ z
  refine ⟨.ref s.heap.objs.size,_,I2,rfl,⟨s.heap.objs.size,x,hfr,rfl,fun ys hy=>by rw [I.list_inj hy hq];exact hx,rfl⟩,⟨⟨_,by simpa using he2⟩,hit1.extBut hs2.extBut (Ne.symm hei)⟩,fun b hb=>?_⟩
  have hlt:b<s.heap.objs.size:=by
   rcases List.mem_cons.mp hb with rfl | hb
   ·exact elt
   ·have e2:b=it:=by simpa using hb
    subst e2
    obtain ⟨o,e1,_⟩:=st
    exact Heap.lt_size e1
  rw [zf (Nat.ne_of_lt hlt)]
  exact (hf b hb).1
 done:=by
  intro X hP hw hK hc i pins s σ H E I hf st hg
  subst hP hw hK
  obtain ⟨⟨old,he⟩,st⟩:=st
  obtain ⟨xs,hq,hx⟩:=hg
  obtain ⟨its,rv,p,hz⟩:=I.list hq
  obtain ⟨f0,f1,f2,f3,f4,f5⟩:=hf it (by simp)
  have hl:=rv.length
  exact wpAny_pyNext_enum_end (I.ok.hd hc) he st p.isList (by simp;omega) fun h' eb=>⟨rfl,I.turned (t':=s.toks) (fun b o hb e=>eb b o hb e) f0 f1 f3 f4 f5⟩
 self:=fun _ _ _ _ _ st h=>by
  obtain ⟨⟨old,he⟩,_⟩:=st
  exact wpAny_pyIter_enum he h
section
variable {X:Cx}{pins:List (Addr × Obj)}{σ:St}{H:Hp}{s:Shared}
theorem Inv.yieldTup {ch:List Addr}{h2:Heap}{tk:Nat}{T:Addr}{xs:List V}{us:List Value}(I:Inv X pins σ H s)(hf:∀ b ∈ ch,kY X pins H b)(kk:∀ b o,b ∉ ch->s.heap.get? b=some o->h2.get? b=some o)(hT:s.heap.objs.size<=T)
  (ht2:h2.get? T=some { cls:=.type "tuple",data:=.seq us.toArray }) (rv:zq xs us) (hz:xs.length<=sizeLine):Inv X pins σ (upd H T (.tup xs)) { s with heap:=h2,toks:=tk }:=by
 have hfr:H T=none:=I.hok.fresh hT
 have nb:∀ c v,H c=some v->c ∉ ch:=fun c v z hm=>by rw [(hf c hm).1] at z;cases z
 refine I.step (g':=s.gens) (d':=s.drawn) (ch:=ch) (fun b hb=>⟨(hf b hb).2.2.2.1,(hf b hb).2.1,(hf b hb).2.2.2.2.1,(hf b hb).2.2.2.2.2⟩) (fun b o _ _ hc q _=>kk b o hc q) (fun b o _ _ hc q _=>⟨o.slots,kk b o hc q⟩)
  (fun b o _ q n=>by rw [zf (Nat.ne_of_lt (Nat.lt_of_lt_of_le (Heap.lt_size q) hT))];exact n) (fun b o hc q=>⟨o,kk b o hc q⟩)
  (fun b xs q=>by rw [zf (zg q hfr)];exact q) (fun b o u q=>by rw [zf (zg q hfr)];exact q) (fun b ps q=>⟨#[],by rw [zf (zg q hfr),q];simp⟩) (fun m hm=>?_) (fun b v q=>?_) I.bare
 ·obtain ⟨o,es,ep,ho,r⟩:=hm
  exact ⟨o,es,ep,kk _ o (fun z=>(hf _ z).2.1 rfl) ho,r⟩
 ·by_cases hb:b=T
  ·subst hb
   rw [zh] at q
   cases q
   exact ⟨hz,us,rv,_,ht2,rfl,⟨_,rfl⟩,rfl⟩
  ·rw [zf hb] at q
   refine (I.hok b v q).stay (fun c o hc q'=>kk c o ?_ q') (fun c z=>by rw [zf (zg z hfr)];exact z) fun c xs z=>by rw [zf (zg z hfr)];exact z
   rcases hc with z | z
   ·rw [z];exact nb b v q
   ·exact nb c _ z
theorem Inv.turnedL {ch:List Addr}{h2:Heap}{tk:Nat}(I:Inv X pins σ H s)(hf:∀ b ∈ ch,kY X pins H b)(kk:∀ b o,b ∉ ch->s.heap.get? b=some o->h2.get? b=some o):Inv X pins σ H { s with heap:=h2,toks:=tk }:=by
 have nb:∀ c v,H c=some v->c ∉ ch:=fun c v z hm=>by rw [(hf c hm).1] at z;cases z
 refine I.step (g':=s.gens) (d':=s.drawn) (ch:=ch) (fun b hb=>⟨(hf b hb).2.2.2.1,(hf b hb).2.1,(hf b hb).2.2.2.2.1,(hf b hb).2.2.2.2.2⟩) (fun b o _ _ hc q _=>kk b o hc q) (fun b o _ _ hc q _=>⟨o.slots,kk b o hc q⟩)
  (fun b o _ q n=>n) (fun b o hc q=>⟨o,kk b o hc q⟩) (fun b xs q=>q) (fun b o u q=>q) (fun b ps q=>⟨#[],by rw [q];simp⟩) (fun m hm=>?_) (fun b v q=>?_) I.bare
 ·obtain ⟨o,es,ep,ho,r⟩:=hm
  exact ⟨o,es,ep,kk _ o (fun z=>(hf _ z).2.1 rfl) ho,r⟩
 ·refine (I.hok b v q).stay (fun c o hc q'=>kk c o ?_ q') (fun c z=>z) fun c xs z=>z
  rcases hc with z | z
  ·rw [z];exact nb b v q
  ·exact nb c _ z
end
noncomputable def Itz (K:PySem.W.Frag)(a b:Addr):It:=
 ⟨fun i H=>∃ xs ys x y,SqL K H a xs/\SqL K H b ys/\xs[i]?=some x/\ys[i]?=some y,fun i H z H'=>∃ p x y,H p=none/\z=.ref p/\(∀ xs,SqL K H a xs->xs[i]?=some x)/\(∀ ys,SqL K H b ys->ys[i]?=some y)/\H'=upd H p (.tup [x,y]),
  fun i H=>∃ xs ys,SqL K H a xs/\SqL K H b ys/\(xs.length<=i \/ ys.length<=i)⟩
theorem BP {P:Program}{w:World}{K:PySem.W.Frag}{es:List Expr}{kt:Nat}{tp:Pos}(l1 l2 z TI TO i1 i2:Addr)(D:ZipApart z TI TO i1 i2 l1 l2) :
  w6 P w K (.Tuple es kt tp) (Itz K l1 l2) [z,TI,TO,i1,i2] z (fun i h=>IsZip h z TI TO .none/\IsPair h TI (.ref i1) (.ref i2)/\(∃ a b,IsPair h TO a b)/\h.IsListIter i1 l1 i/\h.IsListIter i2 l2 i) where
 mem:=by simp
 obj:=fun i h st b hb=>by
  obtain ⟨hz,hTI,⟨a,c,hTO⟩,⟨o1,e1,c1,d1⟩,⟨o2,e2,c2,d2⟩⟩:=st
  simp only [List.mem_cons,List.not_mem_nil,or_false] at hb
  rcases hb with rfl | rfl | rfl | rfl | rfl
  ·exact ⟨_,hz,fun v q=>by have q':Data.fields _=Data.cell v:=q;cases q'⟩
  ·exact ⟨_,hTI,fun v q=>by have q':Data.seq _ _=Data.cell v:=q;cases q'⟩
  ·exact ⟨_,hTO,fun v q=>by have q':Data.seq _ _=Data.cell v:=q;cases q'⟩
  ·exact ⟨o1,e1,fun v q=>by rw [d1] at q;cases q⟩
  ·exact ⟨o2,e2,fun v q=>by rw [d2] at q;cases q⟩
 keep:=fun i h h' st k=>by
  obtain ⟨hz,hTI,⟨a,c,hTO⟩,h1,h2⟩:=st
  exact ⟨k _ (by simp) _ hz,k _ (by simp) _ hTI,⟨a,c,k _ (by simp) _ hTO⟩,h1.at fun o e=>k _ (by simp) o e,h2.at fun o e=>k _ (by simp) o e⟩
 item:=by
  intro X hP hw hK hc i pins s σ H E I hf st hg
  subst hP hw hK
  obtain ⟨hz,hTI,⟨a,c,hTO⟩,h1,h2⟩:=st
  obtain ⟨xs,ys,x,y,hq1,hq2,hx,hy⟩:=hg
  obtain ⟨its1,rv1,p1,hz1⟩:=I.list hq1
  obtain ⟨its2,rv2,p2,hz2⟩:=I.list hq2
  obtain ⟨u,hu,ru⟩:=rv1.get hx
  obtain ⟨v,hv,rvv⟩:=rv2.get hy
  refine wpAny_pyNext_zip_item D hz hTI hTO h1 h2 p1.isList p2.isList (x:=u) (y:=v) (by simpa using hu) (by simpa using hv) fun g1 b1 b2 b3 b4 b5 b6 hk=>?_
  refine ⟨.ref s.heap.objs.size,rfl,wpAny_letOwnedTupleGo_zip b1 fun g2 hz2' hs2=>?_⟩
  replace hs2:Heap.SameBut z g1 g2:=hs2
  have zlt:z<s.heap.objs.size:=Heap.lt_size hz
  have I2:Inv X pins σ (upd H s.heap.objs.size (.tup [x,y])) { s with heap:=g2,toks:=s.toks }:=by
   refine I.yieldTup (us:=[u,v]) hf (fun b o hb e=>?_) (Nat.le_refl _) ((hs2.2 _ (Nat.ne_of_gt zlt)).trans b5) (.cons ru (.cons rvv .nil)) (by show 2<=sizeLine;decide)
   simp only [List.mem_cons,List.not_mem_nil,or_false,not_or] at hb
   exact (hs2.2 b hb.1).trans (hk b o hb.1 hb.2.2.1 hb.2.2.2.1 hb.2.2.2.2 e)
  refine ⟨.ref s.heap.objs.size,_,I2,rfl,⟨s.heap.objs.size,x,y,I.hok.fresh (Nat.le_refl _),rfl,fun xs' h'=>by rw [I.list_inj h' hq1];exact hx,fun ys' h'=>by rw [I.list_inj h' hq2];exact hy,rfl⟩,
   ⟨hz2',(hs2.2 _ D.TIz).trans (hk _ _ D.TIz D.TITO D.TIi1 D.TIi2 hTI),⟨_,_,(hs2.2 _ D.TOz).trans b2⟩,b3.extBut hs2.extBut D.i1z,b4.extBut hs2.extBut D.i2z⟩,fun b hb=>?_⟩
  have hlt:b<s.heap.objs.size:=by
   simp only [List.mem_cons,List.not_mem_nil,or_false] at hb
   rcases hb with rfl | rfl | rfl | rfl | rfl
   ·exact zlt
   ·exact Heap.lt_size hTI
   ·exact Heap.lt_size hTO
   ·obtain ⟨o,e,_⟩:=h1;exact Heap.lt_size e
   ·obtain ⟨o,e,_⟩:=h2;exact Heap.lt_size e
  rw [zf (Nat.ne_of_lt hlt)]
  exact (hf b hb).1
 done:=by
  intro X hP hw hK hc i pins s σ H E I hf st hg
  subst hP hw hK
  obtain ⟨hz,hTI,⟨a,c,hTO⟩,h1,h2⟩:=st
  obtain ⟨xs,ys,hq1,hq2,hend⟩:=hg
  obtain ⟨its1,rv1,p1,hz1⟩:=I.list hq1
  obtain ⟨its2,rv2,p2,hz2⟩:=I.list hq2
  have l1:=rv1.length
  have l2:=rv2.length
  refine wpAny_pyNext_zip_end (I.ok.hd hc) D hz hTI hTO h1 h2 p1.isList p2.isList (by simp;omega) fun h' hk=>⟨rfl,I.turnedL (tk:=s.toks) hf fun b o hb e=>?_⟩
  simp only [List.mem_cons,List.not_mem_nil,or_false,not_or] at hb
  exact hk b o hb.1 hb.2.2.1 hb.2.2.2.1 hb.2.2.2.2 e
 self:=fun _ _ _ _ _ st h=>wpAny_pyIter_zip st.1 h
theorem ya:bootBuiltins "enumerate"=some (.type "enumerate"):=by decide +kernel
section
variable {X:Cx}{es:List Expr}{kt:Nat}{tp:Pos}
noncomputable def VN (K:PySem.W.Frag)(ta:TA):TI:=fun σ H R=>ta σ H fun vs H1=>∃ a,vs=[.ref a]/\(∃ xs,SqL K H1 a xs)/\R (Ite K a) H1
theorem X2 {e:Expr}{ta:TA}{p pos:Pos}(hg:Gl X "enumerate")(hm:X.mg "enumerate"=none)(ha:PA X [e] ta)(hs:starEach [e] X.env=[(false,eval e X.env)]:=by rfl) :
  PI X (.Tuple es kt tp) (.Call (.Name "enumerate" p) [e] [] pos) (VN X.K ta):=by
 intro pins s σ H R I h
 refine Call_ (xp I hg hm (ya) (PyProof.Rows.callWith_type1 (thn (ha pos pins s σ H _ I h) fun us s1 ⟨vs,H1,I1,r1,q1⟩=>?_) hs rfl))
 obtain ⟨a,e,⟨xs,hq⟩,q⟩:=q1
 subst e
 obtain ⟨u,rfl,ru⟩:=jH r1
 cases ru
 obtain ⟨its,rv,pl,hz⟩:=I1.list hq
 refine call_enumerate_list pl.isList fun h' he hit hsz hk=>wpAny_pyIter_enum he ?_
 have I2:Inv X pins σ H1 { s1 with heap:=h' }:=I1.kept (t':=s1.toks) hk
 refine ⟨s1.heap.objs.size+1,[s1.heap.objs.size+1,s1.heap.objs.size],_,_,H1,rfl,I2,yo a _ _ (Nat.succ_ne_self _),⟨⟨_,he⟩,hit⟩,fun b hb=>?_,q⟩
 have hb':s1.heap.objs.size<=b:=by
  simp only [List.mem_cons,List.not_mem_nil,or_false] at hb
  rcases hb with rfl | rfl
  ·exact Nat.le_succ _
  ·exact Nat.le_refl _
 exact I1.fpOk hb' (I1.hok.fresh hb')
end
theorem JT {K:PySem.W.Frag}{a:Addr}{xs:List V}{g:TG}{tb:TS}{D:ju}{σ:St}{H:Hp}(Pv:Nat->St->Hp->Prop)(h0:Pv 0 σ H)(hl:∀ i σ H,i<=xs.length->Pv i σ H->SqL K H a xs)
  (hs:∀ i x p σ H,xs[i]?=some x->H p=none->Pv i σ H->g (.ref p) σ (upd H p (.tup [.int i,x])) fun σ2 H2=>tb { D with nx:=Pv (i+1),ct:=Pv (i+1),bk:=D.nx } σ2 H2) (hd:∀ σ H,Pv xs.length σ H->D.nx σ H) :
  ∃ W:Nat->Nat->St->Hp->Prop,(∃ m,W 0 m σ H)/\∀ i m σ H,W i m σ H ->
   ((Ite K a).stop i H/\D.nx σ H) \/ ((Ite K a).go i H/\∃ N:St->Hp->Prop,(∀ σ' H',N σ' H'->∃ m',m'<m/\W (i+1) m' σ' H')/\∀ x H',(Ite K a).yld i H x H'->g x σ H' fun σ2 H2=>tb { D with nx:=N,ct:=N,bk:=D.nx } σ2 H2):=by
 refine ⟨fun i m σ H=>m=xs.length - i/\i<=xs.length/\Pv i σ H,⟨xs.length,by simp,Nat.zero_le _,h0⟩,?_⟩
 rintro i m σ H ⟨rfl,hi,p⟩
 have q:=hl i σ H hi p
 by_cases hlt:i<xs.length
 ·refine .inr ⟨⟨xs,xs[i],q,by simp [hlt]⟩,Pv (i+1),fun σ' H' p'=>⟨xs.length - (i+1),by omega,rfl,hlt,p'⟩,fun x H' y=>?_⟩
  obtain ⟨pp,x',hp,rfl,y,rfl⟩:=y
  exact hs i x' pp σ _ (y xs q) hp p
 ·have e:i=xs.length:=by omega
  subst e
  exact .inl ⟨⟨xs,q,Nat.le_refl _⟩,hd σ H p⟩
noncomputable def wO (p:Addr)(a b c:Int):HO:=.ext fun h=>∃ t u v,h.get? p=some { cls:=.type "range",data:=.fields #[.int a t,.int b u,.int c v] }
theorem Wi {P:Program}{w:World}{H:Hp}{h:Heap}{p:Addr}{a b c:Int}{t u v:Tok}(e:h.get? p=some { cls:=.type "range",data:=.fields #[.int a t,.int b u,.int c v] }):zQ P w H h p (wO p a b c):=
 ⟨⟨t,u,v,e⟩,⟨_,e⟩,fun h1 h2 ⟨t,u,v,q⟩ k=>⟨t,u,v,k _ q⟩⟩
noncomputable def zK (a c:Int)(n:Nat):List Int:=(List.range n).map fun (i:Nat)=>a+(i:Int) * c
theorem zB (a c:Int)(n:Nat):(zK a c n).length=n:=by simp [zK]
theorem Zj {a c:Int}:∀ {n:Nat} {acc:Array Value},ItemsOf (fun (i:Nat) (v:Value)=>∃ t,v=Value.int (a+(i:Int) * c) t) acc n->zq ((zK a c n).map V.int) acc.toList:=by
 intro n acc ⟨hs,hi⟩
 have key:∀ (k:Nat) (l:List Value),l.length=k->(∀ (j:Nat) v,l[j]?=some v->∃ t,v=Value.int (a+(j:Int) * c) t)->zq ((zK a c k).map V.int) l:=by
  intro k
  induction k with
  | zero=>intro l hl _;cases l with
   | nil=>exact .nil
   | cons=>simp at hl
  | succ k ih=>
   intro l hl hv
   obtain ⟨l',x,rfl⟩:∃ l' x,l=l' ++ [x]:=⟨l.dropLast,l.getLast (by intro e;rw [e] at hl;simp at hl),(List.dropLast_concat_getLast _).symm⟩
   have hl':l'.length=k:=by simpa using hl
   have e:(zK a c (k+1)).map V.int=(zK a c k).map V.int ++ [.int (a+(k:Int) * c)]:=by simp [zK,List.range_succ]
   rw [e]
   refine (ih l' hl' fun j v hj=>hv j v ?_).append (.cons ?_ .nil)
   ·rw [List.getElem?_append_left (List.getElem?_eq_some_iff.mp hj).1];exact hj
   ·obtain ⟨t,rfl⟩:=hv k x (by rw [List.getElem?_append_right (by omega),hl'];simp)
    exact ⟨t,rfl⟩
 exact key n acc.toList (by simpa using hs) fun j v hj=>hi j v (by simpa using hj)
section
variable {X:Cx}
theorem vO:jn X (.type "range") (fun xs H Q=>∃ b:Int,xs=[.int b]/\∀ p,H p=none->Q (.ref p) (upd H p (wO p 0 b 1))):=by
 intro pins s σ H xs us Q I r h
 obtain ⟨b,rfl,q⟩:=h
 obtain ⟨u,rfl,t,rfl⟩:=jH r
 refine call_range_1 ⟨.ref s.heap.objs.size,_,I.laid (fun b o e=>Heap.get?_push_of_some _ e) (Nat.le_refl _) ?_,rfl,q _ (I.hok.fresh (Nat.le_refl _))⟩
 exact Wi (Heap.get?_push_size _ rfl)
theorem Y0 {i:Int}(h0:0<=i)(h1:i<2 ^ 62):¬(!Builtin.List.listFitsIndex i)=true:=by
 unfold Builtin.List.listFitsIndex
 simp
 omega
noncomputable def vh:V->List V->Hp->VK->Prop:=fun x vs H Q=>∃ l xs i y,x=.ref l/\vs=[.int i,y]/\H l=some (.lst xs)/\0<=i/\i<=xs.length/\xs.length<sizeLine/\Q .non (upd H l (.lst (xs.take i.toNat ++ y :: xs.drop i.toNat)))
theorem zq.insert {xs:List V}{us:List Value}{y:V}{u:Value}(r:zq xs us)(ry:zr y u)(k:Nat):zq (xs.take k ++ y :: xs.drop k) (us.take k ++ u :: us.drop k):=(r.take k).append (.cons ry (r.drop k))
theorem Jm:MtM X "list.insert" vh:=by
 intro pins s σ H x vs v us Q I rx rv h
 obtain ⟨l,xs,i,y,rfl,rfl,hH,h0,h1,hz,q⟩:=h
 cases rx
 obtain ⟨u,w,rfl,⟨t,rfl⟩,rw'⟩:=rv.two
 obtain ⟨z,its,n,r,hl,e⟩:=I.lstM hH
 have l63:=xv
 have hb:i<2 ^ 62:=by
  have:sizeLine<2 ^ 62:=by rw [sizeLine_eq];decide
  omega
 refine call_meets F.slot_list_insert ⟨_,e,rfl⟩ F.entry_list_insert (F.args_list_insert_3 _ _ _) (PySem.AutoSeq1.list_insert_list_int_val_1 l its.toArray n i t w (Y0 h0 hb) (by rw [List.size_toArray];omega)) ⟨e,?_⟩
 refine ⟨.non,_,I.lset (its':=its.take i.toNat ++ w :: its.drop i.toNat) hH e ?_ (r.insert rw' i.toNat) ?_,rfl,q⟩
 ·dsimp only
  rw [if_neg (by omega)]
  have hm:min i.toNat its.toArray.size=i.toNat:=by rw [List.size_toArray];omega
  rw [hm]
  apply Array.ext'
  simp
  first | done | omega | (rw [List.take_of_length_le (by simp)])
 ·rw [List.length_append,List.length_cons,List.length_take,List.length_drop];omega
end
section
variable {X:Cx}
noncomputable def isT (t c:String):Option Bool:=if (Value.type t == Value.type c)=true then some true else if PySem.W.kitMeta c=true then (fastBuiltinMro t).map (·.contains (Value.type c)) else none
noncomputable def wF (t:String):List String->Option Bool
 | []=>some false
 | c :: r=>match isT t c with
  | some true=>some true
  | some false=>wF t r
  | none=>none
end
noncomputable def At (K:PySem.W.Frag)(mg:Str->Option Value)(x:Str)(st:Stmt):Prop:=∃ f fd,Fun K x x st f fd/\mg x=some (.ref f)
noncomputable def Df (P:Program)(w:World)(K:PySem.W.Frag)(mg:Str->Option Value)(base:Heap)(x:Str)(ps:List Str)(k:Nat)(sp:Sp):Prop:=
 ∃ f fd,jE P w K mg base CX0 k f fd ps sp/\xU K fd ps []/\PySem.W.keepIn K (.ref f)=true/\mg x=some (.ref f)/\∃ oc od osl,K.lookup f=some ⟨oc,od,.func fd,osl⟩
theorem Df.mono {P:Program}{w:World}{K:PySem.W.Frag}{mg:Str->Option Value}{base:Heap}{x:Str}{ps:List Str}{j k:Nat}{sp:Sp}(D:Df P w K mg base x ps j sp)(h:j<=k):Df P w K mg base x ps k sp:=
 let ⟨f,fd,F,r⟩:=D
 ⟨f,fd,F.mono h,r⟩
section
variable {X:Cx}{k:Nat}{x:Str}{ps:List Str}{sp:Sp}{p pos:Pos}{e:Expr}{es:List Expr}{t:TA}
theorem qm (D:Df X.prog X.w X.K X.mg X.base x ps k sp)(hr:qZ k X.A)(hg:Gl X x)(ha:PA X (e :: es) t)(hdb:(x == ("__debug__":Str))=false:=by decide)
  (he:starEach (e :: es) X.env=(false,eval e X.env) :: starEach es X.env:=by rfl) (hpl:(backTo pos (starEach es X.env)).any (·.1)=false:=by rfl):PE X (.Call (.Name x p) (e :: es) [] pos) (ZK sp [] E0 t):=by
 obtain ⟨f,fd,F,b,kp,m,_⟩:=D
 exact YX F hr hg m kp b .nil BU ha hdb he hpl
end
theorem xN {P:Program}{w:World}{K:PySem.W.Frag}{mg:Str->Option Value}{base:Heap}{x:Str}{st:Stmt}{N ps:List Str}{k:Nat}{sp:Sp}(a:At K mg x st)(S:zE N ps (zn st))
  (hb:∀ (kV doc pm:Value) (an:Option Addr) (cdv ct:Value) (us:List Value),us.length=ps.length->bindArgs (PySem.W.fnOf x x (qP st) (qj st) (zn st) .none kV doc pm an cdv ct) ⟨us,[]⟩=pure (ps.zip us))
  (len:∀ vs H Q E,sp vs H Q E->vs.length=ps.length)
  (hbody:∀ (f:Addr) (cdv:Value) (A:Around) (outer:List Env) (s:Shared) (H:Hp) (vs:List V) (Q:VK) (E:XK),qZ k (A.deeper (envOfC x (zn st) s.heap.objs.size f cdv))->sp vs H Q E ->
   ∃ t,PSs (vd CX0 P w K mg base N x (zn st) f cdv A outer s H E).nox (qj st) t/\t { nx:=fun _ H'=>Q .non H',rt:=Q } (qx N vs) H):Df P w K mg base x ps (k+1) sp:=by
 obtain ⟨f,fd,F,m⟩:=a
 obtain ⟨oc,od,kV,doc,pm,an,cdv,ct,osl,_,lk,_⟩:=id F.ex
 exact ⟨f,fd,F.ok S len fun cdv A outer s H vs Q E=>hbody f cdv A outer s H vs Q E,F.binds hb,F.kp,m,oc,od,osl,lk⟩
theorem at_mk {K:PySem.W.Frag}{mg:Str->Option Value}{h:Heap}{x:Str}{st:Stmt}{f:Addr}{oc:Value}{od an:Option Addr}{osl:Array (Option Value)}{kV doc pm cdv ct:Value}(X:K.In h)(G:h.Ns mainGlobals mg)(a:PySem.W.nsIn K mainGlobals x=some (some (.ref f)))
  (l:K.lookup f=some ⟨oc,od,.func (PySem.W.fnOf x x (qP st) (qj st) (zn st) .none kV doc pm an cdv ct),osl⟩) (c:PySem.W.codeIn K cdv x=true) (k:PySem.W.keepIn K (.ref f)=true):At K mg x st:=⟨f,_,JL l c k,PySem.W.mg_of X G a⟩
theorem Df.fn {P:Program}{w:World}{K:PySem.W.Frag}{mg:Str->Option Value}{base:Heap}{x:Str}{ps:List Str}{k:Nat}{sp:Sp}{f:Addr}{fd:FuncData}{oc:Value}{od:Option Addr}{osl:Array (Option Value)}(D:Df P w K mg base x ps k sp)(m:mg x=some (.ref f))(l:K.lookup f=some ⟨oc,od,.func fd,osl⟩):jE P w K mg base CX0 k f fd ps sp:=by
 obtain ⟨f',fd',F,_,_,m',oc',od',osl',l'⟩:=D
 rw [m] at m'
 cases m'
 rw [l] at l'
 cases l'
 exact F
structure Blt (mg:Str->Option Value):Prop where
 len:mg "len"=none
 range:mg "range"=none
 list:mg "list"=none
 tuple:mg "tuple"=none
 int:mg "int"=none
 bool:mg "bool"=none
 str:mg "str"=none
 abs:mg "abs"=none
 divmod:mg "divmod"=none
 enumerate:mg "enumerate"=none
 zip:mg "zip"=none
 sorted:mg "sorted"=none
 max:mg "max"=none
 min:mg "min"=none
 isinstance:mg "isinstance"=none
 all:mg "all"=none
theorem blt_mk {K:PySem.W.Frag}{mg:Str->Option Value}{h:Heap}(X:K.In h)(G:h.Ns mainGlobals mg)(z1:PySem.W.nsIn K mainGlobals "len"=some none)(z2:PySem.W.nsIn K mainGlobals "range"=some none)(z3:PySem.W.nsIn K mainGlobals "list"=some none)(z4:PySem.W.nsIn K mainGlobals "tuple"=some none)(z5:PySem.W.nsIn K mainGlobals "int"=some none)(z6:PySem.W.nsIn K mainGlobals "bool"=some none)(z7:PySem.W.nsIn K mainGlobals "str"=some none)(z8:PySem.W.nsIn K mainGlobals "abs"=some none)
  (z9:PySem.W.nsIn K mainGlobals "divmod"=some none) (z10:PySem.W.nsIn K mainGlobals "enumerate"=some none) (z11:PySem.W.nsIn K mainGlobals "zip"=some none) (z12:PySem.W.nsIn K mainGlobals "sorted"=some none) (z13:PySem.W.nsIn K mainGlobals "max"=some none) (z14:PySem.W.nsIn K mainGlobals "min"=some none) (z15:PySem.W.nsIn K mainGlobals "isinstance"=some none) (z16:PySem.W.nsIn K mainGlobals "all"=some none):Blt mg:=
 ⟨PySem.W.mg_none_of X G z1,PySem.W.mg_none_of X G z2,PySem.W.mg_none_of X G z3,PySem.W.mg_none_of X G z4,PySem.W.mg_none_of X G z5,PySem.W.mg_none_of X G z6,PySem.W.mg_none_of X G z7,PySem.W.mg_none_of X G z8,PySem.W.mg_none_of X G z9,PySem.W.mg_none_of X G z10,PySem.W.mg_none_of X G z11,PySem.W.mg_none_of X G z12,PySem.W.mg_none_of X G z13,PySem.W.mg_none_of X G z14,PySem.W.mg_none_of X G z15,PySem.W.mg_none_of X G z16⟩
theorem KU:bootBuiltins "abs"=some (.builtin "abs"):=by decide +kernel
theorem QL:bootBuiltins "divmod"=some (.builtin "divmod"):=by decide +kernel
theorem V3:bootBuiltins "max"=some (.builtin "max"):=by decide +kernel
theorem qU:bootBuiltins "len"=some (.builtin "len"):=by decide +kernel
theorem yM:bootBuiltins "list"=some (.type "list"):=by decide +kernel
theorem jj:bootBuiltins "tuple"=some (.type "tuple"):=by decide +kernel
theorem AQ:bootBuiltins "int"=some (.type "int"):=by decide +kernel
theorem K9:bootBuiltins "range"=some (.type "range"):=by decide +kernel
noncomputable def Kp (bs:List Addr)(H H':Hp):Prop:=∀ c o,c ∉ bs->H c=some o->H' c=some o
theorem Kp.refl {bs:List Addr}{H:Hp}:Kp bs H H:=fun _ _ _ h=>h
theorem Kp.trans {bs:List Addr}{H H1 H2:Hp}(a:Kp bs H H1)(b:Kp bs H1 H2):Kp bs H H2:=fun c o n h=>b c o n (a c o n h)
theorem Kp.new {bs:List Addr}{H:Hp}{p:Addr}(o:HO)(h:H p=none):Kp bs H (upd H p o):=fun c u _ q=>by rw [zf (zg q h)];exact q
theorem Kp.set {bs:List Addr}{H:Hp}{p:Addr}(o:HO)(h:p ∈ bs):Kp bs H (upd H p o):=fun c u n q=>by have hne:c ≠ p:=(fun e=>n (by rw [e];exact h));rw [zf hne];exact q
theorem Kp.mono {bs bs':List Addr}{H H':Hp}(a:Kp bs H H')(h:∀ b ∈ bs,b ∈ bs'):Kp bs' H H':=fun c o n q=>a c o (fun z=>n (h c z)) q
theorem Kp.free {H H':Hp}(e:Kp [] H H'){l:Addr}(h:H' l=Option.none):H l=Option.none:=by
 cases q:H l with
 | none=>rfl
 | some o=>rw [e l o (by simp) q] at h;cases h
noncomputable def Bx (H:Hp)(b:Addr)(N:Nat):Prop:=∃ x y z:Int,H b=some (.lst [.int x,.int y,.int z])/\0<=x/\0<=y/\y<2147483648/\0<=z/\z<=N
noncomputable abbrev il (ns:List Int):HO:=.lst (ns.map V.int)
theorem cxK {CX:CXT}{P:Program}{w:World}{K:PySem.W.Frag}{mg:Str->Option Value}{base:Heap}{N:List Str}{qual:Str}{scope:Scope}{f:Addr}{cd:Value}{A:Around}{outer:List Env}{s:Shared}{H:Hp}{E:XK} :
  (vd CX P w K mg base N qual scope f cd A outer s H E).K=K:=rfl
noncomputable def YI (J:It)(g:TG)(tb:TS)(D:ju)(σ:St)(H:Hp):Prop:=∃ W:Nat->Nat->St->Hp->Prop,(∃ m,W 0 m σ H)/\∀ i m σ H,W i m σ H ->
 (J.stop i H/\D.nx σ H) \/ (J.go i H/\∃ N:St->Hp->Prop,(∀ σ' H',N σ' H'->∃ m',m'<m/\W (i+1) m' σ' H')/\∀ x H',J.yld i H x H'->g x σ H' fun σ2 H2=>tb { D with nx:=N,ct:=N,bk:=D.nx } σ2 H2)
theorem ZN {wi:TI}{g:TG}{tb:TS}{D:ju}{σ:St}{H:Hp}:Ao wi g tb D σ H=wi σ H (fun J H1=>YI J g tb D σ H1):=rfl
noncomputable def Bm (J:It)(g:TG)(tt:TT)(te:TE)(D:Addr)(Q:VK)(τ:St)(H:Hp):Prop:=∃ W:Nat->Nat->St->Hp->Prop,(∃ m,W 0 m τ H)/\∀ i m τ H2,W i m τ H2 ->
 (J.stop i H2/\Q (.ref D) H2) \/ (J.go i H2/\∃ N:St->Hp->Prop,(∀ τ' H',N τ' H'->∃ m',m'<m/\W (i+1) m' τ' H')/\∀ x H',J.yld i H2 x H'->g x τ H' fun τ2 H3=>tt τ2 H3 fun b H4=>
  if b=true then te τ2 H4 fun v H5=>∃ ys,H5 D=some (.lst ys)/\ys.length<sizeLine/\N τ2 (upd H5 D (.lst (ys ++ [v]))) else N τ2 H4)
theorem Ks {ts:List Nat}{wi:TI}{g:TG}{tt:TT}{te:TE}{σ:St}{H:Hp}{Q:VK} :
  Qj ts wi g tt te σ H Q=wi σ H (fun J H1=>∀ D,H1 D=none->Bm J g tt te D Q (clr ts σ) (upd H1 D (.lst []))):=rfl
theorem v8 {lo:Int}{n:Nat}{g:TG}{tb:TS}{D:ju}{σ:St}{H:Hp}(Pv:Nat->St->Hp->Prop)(h0:Pv 0 σ H)
  (hs:∀ i σ H,i<n->Pv i σ H->g (.int (lo+i)) σ H fun σ2 H2=>tb { D with nx:=Pv (i+1),ct:=Pv (i+1),bk:=D.nx } σ2 H2) (hd:∀ σ H,Pv n σ H->D.nx σ H):YI (Itr lo n) g tb D σ H:=QF Pv h0 hs hd
theorem Y5 {K:PySem.W.Frag}{a:Addr}{xs:List V}{g:TG}{tb:TS}{D:ju}{σ:St}{H:Hp}(Pv:Nat->St->Hp->Prop)(h0:Pv 0 σ H)(hl:∀ i σ H,i<=xs.length->Pv i σ H->SqL K H a xs)
  (hs:∀ i x σ H,xs[i]?=some x->Pv i σ H->g x σ H fun σ2 H2=>tb { D with nx:=Pv (i+1),ct:=Pv (i+1),bk:=D.nx } σ2 H2) (hd:∀ σ H,Pv xs.length σ H->D.nx σ H):YI (Itl K a) g tb D σ H:=XB Pv h0 hl hs hd
theorem Yp {K:PySem.W.Frag}{a:Addr}{xs:List V}{g:TG}{tb:TS}{D:ju}{σ:St}{H:Hp}(Pv:Nat->St->Hp->Prop)(h0:Pv 0 σ H)(hl:∀ i σ H,i<=xs.length->Pv i σ H->SqL K H a xs)
  (hs:∀ i x p σ H,xs[i]?=some x->H p=none->Pv i σ H->g (.ref p) σ (upd H p (.tup [.int i,x])) fun σ2 H2=>tb { D with nx:=Pv (i+1),ct:=Pv (i+1),bk:=D.nx } σ2 H2) (hd:∀ σ H,Pv xs.length σ H->D.nx σ H):YI (Ite K a) g tb D σ H:=JT Pv h0 hl hs hd
theorem Jc {X:Cx}:jn X (.type "int") (fun xs H Q=>∃ k,xs=[.bl k]/\Q (.int (if k then 1 else 0)) H):=by
 intro pins s σ H xs us Q I r h
 exact Qv pins s σ H xs us Q I r (.inr h)
theorem Bx.mono {H:Hp}{b:Addr}{N M:Nat}(h:Bx H b N)(le:N<=M):Bx H b M:=let ⟨x,y,z,h1,h2,h3,h4,h5,h6⟩:=h;⟨x,y,z,h1,h2,h3,h4,h5,by omega⟩
theorem Bx.new {H:Hp}{b p:Addr}{N:Nat}{o:HO}(h:Bx H b N)(hp:H p=none):Bx (upd H p o) b N:=let ⟨x,y,z,h1,r⟩:=h;⟨x,y,z,(zf (zg h1 hp)).trans h1,r⟩
noncomputable def zm (n:Nat)(ns:List Int):Prop:=ns.length=n/\ns.Nodup/\∀ x ∈ ns,0<=x/\x<(n:Int)
theorem zm.nil:zm 0 []:=⟨rfl,List.nodup_nil,fun x h=>nomatch h⟩
theorem wy {α:Type}(xs:List α)(i:Nat)(y:α):(xs.take i ++ y :: xs.drop i).Perm (y :: xs):=by
 refine (List.perm_middle).trans ?_
 rw [List.take_append_drop]
theorem zm.insert {k:Nat}{ns:List Int}(h:zm k ns)(i:Nat):zm (k+1) (ns.take i ++ (k:Int) :: ns.drop i):=by
 obtain ⟨h1,h2,h3⟩:=h
 have pm:=wy ns i (k:Int)
 refine ⟨by rw [pm.length_eq,List.length_cons,h1],?_,fun x hx=>?_⟩
 ·refine pm.nodup_iff.mpr (List.nodup_cons.mpr ⟨fun hm=>?_,h2⟩)
  have:=(h3 _ hm).2
  omega
 ·rcases List.mem_cons.mp (pm.mem_iff.mp hx) with rfl | hx
  ·omega
  ·have:=h3 x hx;omega
theorem xI:∀ (n:Nat) (l:List Int),l.Nodup->(∀ x ∈ l,0<=x/\x<(n:Int))->l.length<=n
 | 0,l,_,h=>by
  cases l with
  | nil=>exact Nat.le_refl _
  | cons x r=>have:=h x List.mem_cons_self;omega
 | n+1,l,hn,h=>by
  have ih:=xI n (l.erase (n:Int)) (hn.erase _) (fun x hx=>by
   have h1:=h x (List.mem_of_mem_erase hx)
   have h2:x ≠ (n:Int):=fun e=>by
    subst e
    exact (hn.not_mem_erase) hx
   omega)
  by_cases hm:(n:Int) ∈ l
  ·rw [List.length_erase_of_mem hm] at ih;omega
  ·rw [List.erase_of_not_mem hm] at ih;omega
theorem zm.surj {n:Nat}{ns:List Int}(h:zm n ns){x:Int}(h0:0<=x)(h1:x<n):x ∈ ns:=by
 obtain ⟨l,d,b⟩:=h
 refine Classical.byContradiction fun hm=>?_
 have:=xI n (x :: ns) (List.nodup_cons.mpr ⟨hm,d⟩) (fun y hy=>by
  rcases List.mem_cons.mp hy with rfl | hy
  ·exact ⟨h0,h1⟩
  ·exact b y hy)
 rw [List.length_cons,l] at this
 omega
theorem zm.getD {n:Nat}{ns:List Int}(h:zm n ns){i:Nat}(hi:i<n):0<=ns.getD i 0/\ns.getD i 0<n:=by
 obtain ⟨l,d,b⟩:=h
 have hi':i<ns.length:=by omega
 have e:ns.getD i 0=ns[i]:=by rw [List.getD_eq_getElem?_getD,List.getElem?_eq_getElem hi'];rfl
 rw [e]
 exact b _ (List.getElem_mem hi')
theorem qT {ns:List Int}{i:Nat}(h:i<ns.length):ns.getD i 0=ns[i]:=by rw [List.getD_eq_getElem?_getD,List.getElem?_eq_getElem h];rfl
theorem zm.inj {n:Nat}{ns:List Int}(h:zm n ns){i j:Nat}(hi:i<n)(hj:j<n)(e:ns.getD i 0=ns.getD j 0):i=j:=by
 obtain ⟨l,d,b⟩:=h
 rw [qT (by omega),qT (by omega)] at e
 exact (List.getElem_inj d).mp e
theorem zm.ex {n:Nat}{ns:List Int}(h:zm n ns){j:Nat}(hj:j<n):∃ i,i<n/\ns.getD i 0=(j:Int):=by
 have hm:=h.surj (x:=(j:Int)) (by omega) (by omega)
 obtain ⟨i,hi,e⟩:=List.mem_iff_getElem.mp hm
 exact ⟨i,by rw [<- h.1];exact hi,by rw [qT hi];exact e⟩
theorem Q2 (n:Nat){i:Nat}(h:i<n):(zK 0 1 n).getD i 0=(i:Int):=by
 rw [qT (by rw [zB];exact h)]
 simp [zK]
theorem Kp.drop1 {bs:List Addr}{H H':Hp}{p:Addr}{o:HO}(hp:H p=none)(k:Kp (p :: bs) (upd H p o) H'):Kp bs H H':=fun c u n h=>by
 have hne:c ≠ p:=zg h hp
 refine k c u ?_ ((zf hne).trans h)
 intro hm
 rcases List.mem_cons.mp hm with e | e
 ·exact hne e
 ·exact n e
theorem Bx.ne {H:Hp}{b p:Addr}{N:Nat}(h:Bx H b N)(hp:H p=none):b ≠ p:=let ⟨_,_,_,h1,_⟩:=h;zg h1 hp
theorem Bx.keep {H H':Hp}{b:Addr}{N:Nat}{bs:List Addr}(h:Bx H b N)(k:Kp bs H H')(hb:b ∉ bs):Bx H' b N:=let ⟨x,y,z,h1,r⟩:=h;⟨x,y,z,k _ _ hb h1,r⟩
theorem vm {ns:List Int}{i j:Nat}{v:Int}(h:i<ns.length):(ns.set i v).getD j 0=if j=i then v else ns.getD j 0:=by
 rw [List.getD_eq_getElem?_getD,List.getElem?_set]
 by_cases e:i=j
 ·subst e;simp [h]
 ·rw [if_neg e,if_neg (Ne.symm e),List.getD_eq_getElem?_getD]
noncomputable def wK:V->V->V->Hp->(Hp->Prop)->Prop:=fun o i v H Q=>∃ k,i=.int k/\∃ p,o=.ref p/\∃ xs,H p=some (.lst xs)/\∃ j,ixN xs.length k=some j/\Q (upd H p (.lst (xs.set j v)))
section
variable {X:Cx}
theorem qq:MtR X "list.append" xj:=yx
theorem Ji:MtR X "list.insert" vh:=Jm
theorem qF {es:List Expr}{k:Nat}{t:TGs}{pos:Pos}{K:PySem.W.Frag}(n:Nat)(h:X.K=K)(hc:X.calm=true)(hs:PGs X es t)(hn:(assignEach es X.env).length=n:=by rfl)(hst:(assignEach es X.env).findIdx? (·.1)=none:=by rfl):PG X (.Tuple es k pos) (J4 K n t):=h ▸ Bc hc hs hn hst
theorem zG:WA X wK:=by
 intro pins s σ H o i v ov iv u Q I ro ri rv h
 obtain ⟨k,e1,p,e2,xs,h1,j,h2,q⟩:=h
 exact Xt pins s σ H o i v ov iv u Q I ro ri rv ⟨p,xs,k,j,e2,e1,h1,h2,q⟩
theorem vN {K:PySem.W.Frag}(h:X.K=K):SlR X (Y2 K):=h ▸ y8
end
noncomputable def jd (os:List Int)(k:Nat):Nat:=((List.range k).filter fun (i:Nat)=>!decide (os.getD i 0=(i:Int))).length
section
variable {X:Cx}
noncomputable def Kw (K:PySem.W.Frag):R2:=fun x y H Q=>∃ p xs i v,x=.ref p/\y=.int i/\(SqL K H p xs \/ SqT K H p xs)/\atI xs i=some v/\Q v H
theorem jT:IxR X (Kw X.K):=by
 intro value slice pins s σ H x y v u Q I rx ry h hs
 obtain ⟨p,xs,i,z,e1,e2,hq | hq,he,q⟩:=h
 ·exact zT value slice pins s σ H x y v u Q I rx ry ⟨p,xs,i,z,e1,e2,hq,he,q⟩ hs
 ·exact WN value slice pins s σ H x y v u Q I rx ry ⟨p,xs,i,z,e1,e2,hq,he,q⟩ hs
theorem WL:bootBuiltins "all"=some (.builtin "all"):=by decide +kernel
theorem xt:∀ {bs:List Bool} {us:List Value},zq (bs.map V.bl) us->us=bs.map Value.bool
 | [],_,h=>by cases h;rfl
 | b :: bs,_,h=>by
  cases h with
  | cons r rs=>cases r;rw [xt rs];rfl
theorem Zh (bs:List Bool):((List.range bs.length).all fun i=>(bs[i]?).getD true)=bs.all id:=by
 rw [Bool.eq_iff_iff,List.all_eq_true,List.all_eq_true]
 constructor
 ·intro h x hx
  obtain ⟨i,hi,rfl⟩:=List.getElem_of_mem hx
  have:=h i (by simpa using hi)
  simpa [List.getElem?_eq_getElem hi] using this
 ·intro h i hi
  have hi':i<bs.length:=by simpa using hi
  simpa [List.getElem?_eq_getElem hi'] using h bs[i] (List.getElem_mem hi')
theorem QK (hc:X.calm=true):jn X (.builtin "all") (fun xs H Q=>∃ p bs,xs=[.ref p]/\SqL X.K H p (List.map V.bl bs)/\Q (.bl (bs.all id)) H):=by
  intro pins s σ H xs us Q I r h
  obtain ⟨p,bs,rfl,hq,q⟩:=h
  obtain ⟨u,rfl,rx⟩:=jH r
  cases rx
  obtain ⟨its,rv,pl,hz⟩:=I.list hq
  have hu:=xt rv
  subst hu
  have hlt:p<s.heap.objs.size:=by obtain ⟨_,e,_⟩:=pl.isList;exact Heap.lt_size e
  refine call_all_walk (wpAny_pyIter_list pl.isList ?_)
  refine ⟨s.heap.objs.size,[s.heap.objs.size,p],[s.heap.objs.size],(bs.map Value.bool).toArray.size,_,_,fun i=>(bs[i]?).getD true,rfl,Walks.list (A:=X.A.in1) (I.ok.hd hc) _ p (Nat.ne_of_lt hlt) (bs.map Value.bool).toArray,
    ⟨⟨_,Heap.get?_push_size _ rfl,rfl,rfl⟩,pl.isList.push _⟩,fun i v s' Q' E' hP hQ=>?_,fun h' tk hk=>?_⟩
  · have hP':(bs.map Value.bool)[i]?=some v:=by simpa using hP
    rw [List.getElem?_map] at hP'
    cases e:bs[i]? with
    | none=>rw [e] at hP';cases hP'
    | some b=>
      rw [e] at hP'
      cases hP'
      simp only [e,Option.getD_some] at hQ
      exact wpAny_truthy_bool hQ
  · have e : ((List.range (bs.map Value.bool).toArray.size).all fun i => (bs[i]?).getD true) = bs.all id := by
      rw [List.size_toArray,List.length_map];exact Zh bs
    rw [e]
    refine ⟨.bl (bs.all id),H,I.turnedL (ch:=[]) (tk:=tk) (fun b hb=>nomatch hb) (fun b o _ eb=>?_),rfl,q⟩
    exact hk b o (fun hm=>by rw [List.mem_singleton.mp hm] at eb;exact Nat.lt_irrefl _ (Heap.lt_size eb)) (Heap.get?_push_of_some _ eb)
end
noncomputable def nxt (os:List Int)(p:Int):Int:=os.getD p.toNat 0
noncomputable def itn (os:List Int):Nat->Int->Int
 | 0,p=>p
 | k+1,p=>nxt os (itn os k p)
theorem zX {n:Nat}{os:List Int}(h:zm n os){p:Int}(p0:0<=p)(p1:p<n):∀ k,0<=itn os k p/\itn os k p<n
 | 0=>⟨p0,p1⟩
 | k+1=>by
  have:=zX h p0 p1 k
  exact h.getD (by omega)
theorem jr (os:List Int)(p:Int)(b:Nat):∀ a,itn os (a+b) p=itn os a (itn os b p)
 | 0=>by rw [Nat.zero_add];rfl
 | a+1=>by
  rw [show a+1+b=(a+b)+1 by omega]
  show nxt os (itn os (a+b) p)=nxt os (itn os a (itn os b p))
  rw [jr os p b a]
theorem YO {n:Nat}{os:List Int}(h:zm n os){x y:Int}(x0:0<=x)(x1:x<n)(y0:0<=y)(y1:y<n)(e:nxt os x=nxt os y):x=y:=by
 have:=h.inj (i:=x.toNat) (j:=y.toNat) (by omega) (by omega) e
 omega
theorem yO {n:Nat}{os:List Int}(h:zm n os){x y:Int}(x0:0<=x)(x1:x<n)(y0:0<=y)(y1:y<n):∀ k,itn os k x=itn os k y->x=y
 | 0,e=>e
 | k+1,e=>by
  have bx:=zX h x0 x1 k
  have by':=zX h y0 y1 k
  exact yO h x0 x1 y0 y1 k (YO h bx.1 bx.2 by'.1 by'.2 e)
theorem Qh {n:Nat}{os:List Int}(h:zm n os){p:Int}(p0:0<=p)(p1:p<n):∃ M,1<=M/\M<=n/\itn os M p=p:=by
 apply Classical.byContradiction
 intro hno
 have hp:((List.range (n+1)).map fun i=>itn os i p).Nodup:=by
  rw [List.Nodup,List.pairwise_map]
  refine List.Pairwise.imp_of_mem (R:=fun a b=>a<b) ?_ List.pairwise_lt_range
  intro a b ha hb hlt e
  have hb':b<n+1:=by simpa using hb
  refine hno ⟨b - a,by omega,by omega,?_⟩
  have bb:=zX h p0 p1 (b - a)
  refine (yO h p0 p1 bb.1 bb.2 a ?_).symm
  rw [<- jr,show a+(b - a)=b by omega]
  exact e
 have:=xI n _ hp (fun x hx=>by
  obtain ⟨i,_,rfl⟩:=List.mem_map.mp hx
  exact zX h p0 p1 i)
 rw [List.length_map,List.length_range] at this
 omega
noncomputable def Wn (os:List Int)(p:Int)(m:Nat)(e:Int):Prop:=1<=m/\e=itn os m p/\e<=p/\∀ j,1<=j->j<m->p<itn os j p
open Classical in
noncomputable def wkM (os:List Int)(p:Int):Nat:=if h:∃ m,∃ e,Wn os p m e then Classical.choose h else 0
open Classical in
noncomputable def wkE (os:List Int)(p:Int):Int:=itn os (wkM os p) p
section
variable {P:Program}{w:World}{A:Around}{E:Value->Shared->Prop}{s:Shared}{j t:Addr}{i:Nat}{its:Array Value}{Q:Value->Shared->Prop}
theorem yV {x:Value}(hj:s.heap.IsTupleIter j t i)(ht:s.heap.IsTuple t its)(hx:its[i]?=some x)(hQ:∀ h',h'.IsTupleIter j t (i+1)->Heap.SameBut j s.heap h'->Q x { s with heap:=h' }):wpAny (model P w) A (Builtin.SmallTypes.nextOf (.ref j)) Q E s:=by
 obtain ⟨o,ho,hc,hd⟩:=id hj
 obtain ⟨ot,hot,_,nt,hdt⟩:=ht
 unfold Builtin.SmallTypes.nextOf
 refine wpAny_bind (wpAny_callSpecial?_slot (name:=Str.ofString "__next__") hj.typeIs F.slot_tuple_iterator_next (wpAny_call_entry F.slot_tuple_iterator_next hj.typeIs F.entry_tuple_iterator_next ?_ (F.args_tuple_iterator_next_1 _)))
 refine wpAny_bind (m:=field (.ref j) 0) (wpAny_field ho hd (x:=.ref t) rfl ?_);show wpAny _ _ (if (Value.ref t == Value.none)=true then _ else _) _ _ s;rw [if_neg (show ¬ ((Value.ref t == Value.none)=true) from Bool.false_ne_true)]
 refine wpAny_bind (m:=field (.ref j) 1) (wpAny_field ho hd (x:=.int i 0) rfl ?_);refine wpAny_bind (m:=seqItems? (.ref t)) (wpAny_seqItems hot hdt ?_);simp only [Int.toNat_natCast,hx]
 refine wpAny_bind (wpAny_setField ho hd (by simp) (wpAny_pure ⟨x,rfl,wpAny_pure (hQ _ ⟨_,Heap.get?_update_self _ ho (Obj.isFreed_of_fields (Obj.data_mapFields hd _)),(Obj.cls_mapFields ..).trans hc,by rw [Obj.data_mapFields hd];simp [rawInt]⟩ (Heap.SameBut.update ..))⟩))
theorem kQ (hh:A.handled=none)(hj:s.heap.IsTupleIter j t i)(ht:s.heap.IsTuple t its)(hx:its[i]?=none)(hE:∀ h' e,Heap.ExtBut j s.heap h'->(∃ o,h'.get? e=some o/\o.cls=.type "StopIteration")->E (.ref e) { s with heap:=h' }):wpAny (model P w) A (Builtin.SmallTypes.nextOf (.ref j)) Q E s:=by
 obtain ⟨o,ho,hc,hd⟩:=id hj
 obtain ⟨ot,hot,_,nt,hdt⟩:=ht
 unfold Builtin.SmallTypes.nextOf
 refine wpAny_bind (wpAny_callSpecial?_slot (name:=Str.ofString "__next__") hj.typeIs F.slot_tuple_iterator_next (wpAny_call_entry F.slot_tuple_iterator_next hj.typeIs F.entry_tuple_iterator_next ?_ (F.args_tuple_iterator_next_1 _)))
 refine wpAny_bind (m:=field (.ref j) 0) (wpAny_field ho hd (x:=.ref t) rfl ?_);show wpAny _ _ (if (Value.ref t == Value.none)=true then _ else _) _ _ s;rw [if_neg (show ¬ ((Value.ref t == Value.none)=true) from Bool.false_ne_true)]
 refine wpAny_bind (m:=field (.ref j) 1) (wpAny_field ho hd (x:=.int i 0) rfl ?_);refine wpAny_bind (m:=seqItems? (.ref t)) (wpAny_seqItems hot hdt ?_);simp only [Int.toNat_natCast,hx]
 refine wpAny_bind (wpAny_rule (wpAny_bind (wpAny_setField ho hd (by simp) ?_)));refine wpAny_bind (m:=newExc (.type "StopIteration") []) ?_;simp only [newExc,newTuple];refine wpAny_bind (wpAny_newObj_type ?_ (by size_fits));refine wpAny_bind (m:=firstArgMember _ _) (wpAny_of_eq (a:=Value.none) (by first | rfl | (simp only [firstArgMember];rfl)) ?_);refine wpAny_newObj_type ?_ (by size_fits);simp only [raiseNew];refine wpAny_bind (wpAny_handled ?_)
 (first | rw [show A.in1.handled=none from hh] | rw [hh]);refine wpAny_bind (wpAny_pure (wpAny_throw ?_));exact hE _ _ (((Heap.SameBut.update ..).extBut.push _).push _) ⟨_,Heap.get?_push_size _ rfl,rfl⟩
end
theorem QW {P:Program}{w:World}{A:Around}(hh:A.handled=none)(j t:Addr)(hne:t ≠ j)(its:Array Value) :
  Draws P w A j [j,t] its.size (fun i v=>its[i]?=some v) (fun i h=>h.IsTupleIter j t i/\h.IsTuple t its) where
 live:=fun _ _ st=>let ⟨o,ho,_⟩:=st.1;⟨o,ho⟩
 frame:=fun _ _ _ st hk=>⟨st.1.at fun o e=>hk j (by simp) o e,let ⟨o,ho,r⟩:=st.2;⟨o,hk t (by simp) o ho,r⟩⟩
 item:=fun i s Q E hi st hQ=>by
  refine yV st.1 st.2 (x:=its[i]) (by simp [hi]) fun h' hit' hs'=>?_
  exact hQ _ h' s.toks (by simp [hi]) ⟨hit',let ⟨o,ho,r⟩:=st.2;⟨o,(hs'.2 t hne).trans ho,r⟩⟩ hs'
 done:=fun s Q E st hE=>kQ hh st.1 st.2 (by simp) hE
open AutoSeq1 (wpAny_loadPart') in
theorem Qy (l:Addr)(its:Array Value)(n:Nat)(dct:Option Addr)(sl:Array (Option Value)) :
  Meets (Builtin.«enumerate.__new__» ⟨[.type "enumerate",.ref l],[]⟩) (fun _ R s=>s.heap.get? l=some { cls:=.type "tuple",dict:=dct,data:=.seq its n,slots:=sl }/\R (.ok (.ret (.ref (s.heap.push { cls:=.type "tuple_iterator",data:=.fields #[.ref l,.int 0 0] }).objs.size))) { s with heap:=(s.heap.push { cls:=.type "tuple_iterator",data:=.fields #[.ref l,.int 0 0] }).push { cls:=.type "enumerate",data:=.fields #[.none,.bool false,.ref s.heap.objs.size,rawInt 0,.none,.none] } }):=
 .of_wp fun prog w A R s h=>by
  obtain ⟨hp,g,d,tk,os⟩:=s
  obtain ⟨hl,h⟩:=h
  have hsub:=sub_enumerate
  have hT:Heap.IsTuple (Shared.heap ⟨hp,g,d,tk,os⟩) l its:=⟨_,hl,rfl,n,rfl⟩
  wp_walk using wpAny_loadPart' hl
  refine wpAny_stack_any fun st=>wpAny_pure ?_
  split
  ·rename_i c _ _ _ _ _
   cases (c == Value.type "enumerate")
   ·wp_walk using wpAny_loadPart' hl,wpAny_pyIter_tuple hT;exact ⟨_,rfl,h⟩
   ·wp_walk using wpAny_loadPart' hl,wpAny_pyIter_tuple hT;exact ⟨_,rfl,h⟩
  ·wp_walk using wpAny_loadPart' hl,wpAny_pyIter_tuple hT;exact ⟨_,rfl,h⟩
theorem wW {P:Program}{w:World}{A:Around}{E:Value->Shared->Prop}{s:Shared}{l:Addr}{its:Array Value}{Q:Value->Shared->Prop}(hT:s.heap.IsTuple l its)
  (h:∀ h',IsEnum h' (s.heap.objs.size+1) s.heap.objs.size 0 .none->h'.IsTupleIter s.heap.objs.size l 0->(∀ b o,s.heap.get? b=some o->h'.get? b=some o)->Q (.ref (s.heap.objs.size+1)) { s with heap:=h' }) :
  wpAny (model P w) A (call (.type "enumerate") [.ref l]) Q E s:=by
 obtain ⟨⟨c,dct,dt,sl⟩,hl,hc,n,hd⟩:=hT
 replace hc:c=.type "tuple":=hc
 replace hd:dt=.seq its n:=hd
 subst hc hd
 refine callType_new F.called_enumerate (by decide) (F.typeCall_enumerate_1 _) (F.newCall_enumerate_1 _) (fun obj=>F.args_object_init_2 obj _) F.entry_enumerate_new (Qy l its n dct sl) ⟨hl,?_⟩
 have hz:(s.heap.push { cls:=.type "tuple_iterator",data:=.fields #[.ref l,.int 0 0] }).objs.size=s.heap.objs.size+1:=Heap.size_push ..
 show _/\_
 rw [hz]
 have he:IsEnum ((s.heap.push { cls:=.type "tuple_iterator",data:=.fields #[.ref l,.int 0 0] }).push { cls:=.type "enumerate",data:=.fields #[.none,.bool false,.ref s.heap.objs.size,rawInt 0,.none,.none] }) (s.heap.objs.size+1) s.heap.objs.size 0 .none:=by
  have hg:=Heap.get?_push_size (s.heap.push { cls:=.type "tuple_iterator",data:=.fields #[.ref l,.int 0 0] }) (o:={ cls:=.type "enumerate",data:=.fields #[.none,.bool false,.ref s.heap.objs.size,rawInt 0,.none,.none] }) rfl
  rw [hz] at hg;exact hg
 exact ⟨⟨_,he,rfl⟩,h _ he ⟨_,Heap.get?_push_of_some _ (Heap.get?_push_size _ rfl),rfl,rfl⟩ fun b o x=>Heap.get?_push_of_some _ (Heap.get?_push_of_some _ x)⟩
theorem Q6 {P:Program}{w:World}{A:Around}{E:Value->Shared->Prop}{s:Shared}{e j t:Addr}{i:Nat}{its:Array Value}{old:Value}{Q:Option Value->Shared->Prop}(hh:A.handled=none)
  (he:IsEnum s.heap e j i old) (hj:s.heap.IsTupleIter j t i) (ht:s.heap.IsTuple t its) (hx:its[i]?=none) (hQ:∀ h',Heap.ExtBut j s.heap h'->Q none { s with heap:=h' }):wpAny (model P w) A (pyNext (.ref e)) Q E s:=by
 have hT:s.TypeIs (.ref e) "enumerate":=⟨_,he,rfl⟩
 unfold pyNext
 refine wpAny_bind (wpAny_attempt (wpAny_callSpecial?_slot (name:=Str.ofString "__next__") hT F.slot_enumerate_next (wpAny_call_entry F.slot_enumerate_next hT F.entry_enumerate_next ?_ (F.args_enumerate_next_1 _))))
 refine wpAny_bind (m:=field (.ref e) 2) (wpAny_field he rfl (x:=.ref j) rfl ?_);refine wpAny_bind (kQ hh hj ht hx fun h' x he' hx'=>?_)
 obtain ⟨o,ho,hc⟩:=hx'
 refine wpAny_bind (wpAny_isInstance (T:="StopIteration") (b:=true) ⟨o,ho,hc⟩ isSubtype_stop ?_);exact wpAny_pure (hQ _ he')
noncomputable def W7 (K:PySem.W.Frag)(a:Addr):It:=
 ⟨fun i H=>∃ xs x,SqT K H a xs/\xs[i]?=some x,fun i H y H'=>∃ p x,H p=none/\y=.ref p/\(∀ xs,SqT K H a xs->xs[i]?=some x)/\H'=upd H p (.tup [.int i,x]),fun i H=>∃ xs,SqT K H a xs/\xs.length<=i⟩
theorem Zq {P:Program}{w:World}{K:PySem.W.Frag}{es:List Expr}{kt:Nat}{tp:Pos}(a e it:Addr)(hei:e ≠ it)(hea:e ≠ a)(hai:a ≠ it):w6 P w K (.Tuple es kt tp) (W7 K a) [e,it] e (fun i h=>(∃ old,IsEnum h e it (i:Nat) old)/\h.IsTupleIter it a i) where
 mem:=by simp
 obj:=fun i h st b hb=>by
  obtain ⟨⟨old,he⟩,⟨o,e1,c,d⟩⟩:=st
  rcases List.mem_cons.mp hb with rfl | hb
  ·exact ⟨_,he,fun v z=>by have z':Data.fields _=Data.cell v:=z;cases z'⟩
  ·have e2:b=it:=by simpa using hb
   subst e2
   exact ⟨o,e1,fun v z=>by rw [d] at z;cases z⟩
 keep:=fun i h h' st k=>by
  obtain ⟨⟨old,he⟩,st⟩:=st
  exact ⟨⟨old,k e (by simp) _ he⟩,st.at fun o e=>k it (by simp) o e⟩
 item:=by
  intro X hP hw hK hc i pins s σ H E I hf st hg
  subst hP hw hK
  obtain ⟨⟨old,he⟩,st⟩:=st
  obtain ⟨xs,x,hq,hx⟩:=hg
  obtain ⟨its,rv,p,hz⟩:=I.tuple hq
  obtain ⟨u,hu,ru⟩:=rv.get hx
  have hlt:i<its.toArray.size:=by
   have:=(List.getElem?_eq_some_iff.mp hu).1
   simpa using this
  refine wpAny_pyNext_enum_itemD (QW (A:=X.A.in1) (I.ok.hd hc) it a hai its.toArray) he ⟨st,p⟩ hlt hei (by simp [hei,hea]) fun x' h1 tk hP heo hit1 ht1 hz1 hk1=>?_
  have hxu:x'=u:=by
   have h1':its[i]?=some x':=by simpa using hP
   rw [hu] at h1';cases h1';rfl
  subst hxu
  refine ⟨.ref s.heap.objs.size,rfl,wpAny_letOwnedTupleGo_enum heo fun h2 he2 hs2=>?_⟩
  replace hs2:Heap.SameBut e h1 h2:=hs2
  have elt:e<s.heap.objs.size:=Heap.lt_size he
  have ht2:=(hs2.2 _ (Nat.ne_of_gt elt)).trans ht1
  have I2:Inv X pins σ (upd H s.heap.objs.size (.tup [.int i,x])) { s with heap:=h2,toks:=tk+1 }:=by
   refine I.yieldTup (us:=[.int i tk,x']) hf (fun b o hb q=>?_) (Nat.le_refl _) ht2 (.cons ⟨_,rfl⟩ (.cons ru .nil)) (by show 2<=sizeLine;decide)
   have n1:b ≠ e:=fun z=>hb (by simp [z])
   have n2:b ≠ it:=fun z=>hb (by simp [z])
   exact (hs2.2 b n1).trans (hk1 b o n1 n2 q)
  refine ⟨.ref s.heap.objs.size,_,I2,rfl,⟨s.heap.objs.size,x,I.hok.fresh (Nat.le_refl _),rfl,fun ys hy=>by rw [I.tuple_inj hy hq];exact hx,rfl⟩,⟨⟨_,by simpa using he2⟩,hit1.1.extBut hs2.extBut (Ne.symm hei)⟩,fun b hb=>?_⟩
  have hlt:b<s.heap.objs.size:=by
   rcases List.mem_cons.mp hb with rfl | hb
   ·exact elt
   ·have e2:b=it:=by simpa using hb
    subst e2
    obtain ⟨o,e1,_⟩:=st
    exact Heap.lt_size e1
  rw [zf (Nat.ne_of_lt hlt)]
  exact (hf b hb).1
 done:=by
  intro X hP hw hK hc i pins s σ H E I hf st hg
  subst hP hw hK
  obtain ⟨⟨old,he⟩,st⟩:=st
  obtain ⟨xs,hq,hx⟩:=hg
  obtain ⟨its,rv,p,hz⟩:=I.tuple hq
  obtain ⟨f0,f1,f2,f3,f4,f5⟩:=hf it (by simp)
  have hl:=rv.length
  exact Q6 (I.ok.hd hc) he st p (by simp;omega) fun h' eb=>⟨rfl,I.turned (t':=s.toks) (fun b o hb e=>eb b o hb e) f0 f1 f3 f4 f5⟩
 self:=fun _ _ _ _ _ st h=>by
  obtain ⟨⟨old,he⟩,_⟩:=st
  exact wpAny_pyIter_enum he h
section
variable {X:Cx}{es:List Expr}{kt:Nat}{tp:Pos}
noncomputable def vg (K:PySem.W.Frag)(ta:TA):TI:=fun σ H R=>ta σ H fun vs H1=>∃ a,vs=[.ref a]/\(((∃ xs,SqL K H1 a xs)/\R (Ite K a) H1) \/ ((∃ xs,SqT K H1 a xs)/\R (W7 K a) H1))
theorem yE {e:Expr}{ta:TA}{p pos:Pos}(hg:Gl X "enumerate")(hm:X.mg "enumerate"=none)(ha:PA X [e] ta)(hs:starEach [e] X.env=[(false,eval e X.env)]:=by rfl) :
  PI X (.Tuple es kt tp) (.Call (.Name "enumerate" p) [e] [] pos) (vg X.K ta):=by
 intro pins s σ H R I h
 refine Call_ (xp I hg hm (ya) (PyProof.Rows.callWith_type1 (thn (ha pos pins s σ H _ I h) fun us s1 ⟨vs,H1,I1,r1,q1⟩=>?_) hs rfl))
 obtain ⟨a,e,q⟩:=q1
 subst e
 obtain ⟨u,rfl,ru⟩:=jH r1
 cases ru
 have hb':∀ b ∈ [s1.heap.objs.size+1,s1.heap.objs.size],s1.heap.objs.size<=b:=by
  intro b hb
  simp only [List.mem_cons,List.not_mem_nil,or_false] at hb
  omega
 rcases q with ⟨⟨xs,hq⟩,q⟩ | ⟨⟨xs,hq⟩,q⟩
 ·obtain ⟨its,rv,pl,hz⟩:=I1.list hq
  refine call_enumerate_list pl.isList fun h' he hit hsz hk=>wpAny_pyIter_enum he ?_
  have I2:Inv X pins σ H1 { s1 with heap:=h' }:=I1.kept (t':=s1.toks) hk
  exact ⟨s1.heap.objs.size+1,[s1.heap.objs.size+1,s1.heap.objs.size],_,_,H1,rfl,I2,yo a _ _ (Nat.succ_ne_self _),⟨⟨_,he⟩,hit⟩,fun b hb=>I1.fpOk (hb' b hb) (I1.hok.fresh (hb' b hb)),q⟩
 ·obtain ⟨its,rv,pl,hz⟩:=I1.tuple hq
  have alt:a<s1.heap.objs.size:=by obtain ⟨o,e,_⟩:=pl;exact Heap.lt_size e
  refine wW pl fun h' he hit hk=>wpAny_pyIter_enum he ?_
  have I2:Inv X pins σ H1 { s1 with heap:=h' }:=I1.kept (t':=s1.toks) hk
  exact ⟨s1.heap.objs.size+1,[s1.heap.objs.size+1,s1.heap.objs.size],_,_,H1,rfl,I2,Zq a (s1.heap.objs.size+1) s1.heap.objs.size (Nat.succ_ne_self _) (Nat.ne_of_gt (Nat.lt_succ_of_lt alt)) (Nat.ne_of_lt alt),⟨⟨_,he⟩,hit⟩,fun b hb=>I1.fpOk (hb' b hb) (I1.hok.fresh (hb' b hb)),q⟩
end
theorem WR {K:PySem.W.Frag}{H H':Hp}{a:Addr}{xs:List V}(h:SqT K H a xs)(e:Kp [] H H'):SqT K H' a xs:=by
 rcases h with (h | ⟨o,h⟩) | h
 ·exact .inl (.inl (e _ _ (by simp) h))
 ·exact .inl (.inr ⟨o,e _ _ (by simp) h⟩)
 ·exact .inr h
theorem Wg {K:PySem.W.Frag}{H H':Hp}{a:Addr}{xs:List V}(h:SqL K H a xs)(e:Kp [] H H'):SqL K H' a xs:=by
 rcases h with (h | ⟨o,h⟩) | h
 ·exact .inl (.inl (e _ _ (by simp) h))
 ·exact .inl (.inr ⟨o,e _ _ (by simp) h⟩)
 ·exact .inr h
noncomputable def ME (t:TE):Prop:=∀ σ H Q Q',(∀ v H1,Q v H1->Q' v H1)->t σ H Q->t σ H Q'
noncomputable def MT (t:TT):Prop:=∀ σ H Q Q',(∀ v H1,Q v H1->Q' v H1)->t σ H Q->t σ H Q'
noncomputable def MR (r:R2):Prop:=∀ x y H Q Q',(∀ z H1,Q z H1->Q' z H1)->r x y H Q->r x y H Q'
theorem JP {i:Nat}:ME (KY i):=fun _ _ _ _ hq ⟨v,e,h⟩=>⟨v,e,hq _ _ h⟩
theorem Bl {r:R2}{ta tb:TE}(hr:MR r)(ha:ME ta)(hb:ME tb):ME (tOp r ta tb):=fun _ _ _ _ hq h=>ha _ _ _ _ (fun _ _ h1=>hb _ _ _ _ (fun _ _ h2=>hr _ _ _ _ _ hq h2) h1) h
theorem YV {t:TE}(h:ME t):MT (Z3 t):=fun _ _ _ _ hq q=>h _ _ _ _ (fun _ _ ⟨k,e,z⟩=>⟨k,e,hq _ _ z⟩) q
theorem wg {p:Nat->Prop}:∀ n,p n->∃ m,p m/\∀ j,j<m->¬ p j:=by
 intro n
 induction n using Nat.strongRecOn with
 | _ n ih=>
  intro h
  by_cases hx:∃ j,j<n/\p j
  ·obtain ⟨j,hj,pj⟩:=hx
   exact ih j hj pj
  ·exact ⟨n,h,fun j hj pj=>hx ⟨j,hj,pj⟩⟩
noncomputable def jt (os:List Int)(p:Int)(m:Nat):Prop:=1<=m/\itn os m p=p/\∀ j,1<=j->j<m->itn os j p ≠ p
theorem jt.uniq {os:List Int}{p:Int}{m m':Nat}(h:jt os p m)(h':jt os p m'):m=m':=by
 obtain ⟨a1,a3,a4⟩:=h
 obtain ⟨b1,b3,b4⟩:=h'
 rcases Nat.lt_trichotomy m m' with z | z | z
 ·exact absurd a3 (b4 m a1 z)
 ·exact z
 ·exact absurd b3 (a4 m' b1 z)
theorem qz {n:Nat}{os:List Int}(h:zm n os){p:Int}(p0:0<=p)(p1:p<n):∃ m,jt os p m/\m<=n:=by
 obtain ⟨M,h1,h2,h3⟩:=Qh h p0 p1
 obtain ⟨m,⟨m1,m2⟩,m3⟩:=wg (p:=fun k=>1<=k/\itn os k p=p) M ⟨h1,h3⟩
 refine ⟨m,⟨m1,m2,fun j j1 jm e=>m3 j jm ⟨j1,e⟩⟩,?_⟩
 rcases Nat.lt_or_ge M m with z | z
 ·exact absurd ⟨h1,h3⟩ (m3 M z)
 ·omega
open Classical in
noncomputable def per (os:List Int)(p:Int):Nat:=if h:∃ m,jt os p m then Classical.choose h else 0
theorem jt.per {os:List Int}{p:Int}{m:Nat}(h:jt os p m):per os p=m:=by
 have hx:∃ m,jt os p m:=⟨m,h⟩
 unfold L2.per
 rw [dif_pos hx]
 exact (Classical.choose_spec hx).uniq h
noncomputable def itl (os:List Int)(p:Int)(k:Nat):List Int:=(List.range k).map fun i=>itn os i p
theorem KB (os:List Int)(p:Int)(k:Nat):itl os p (k+1)=itl os p k ++ [itn os k p]:=by
 unfold itl;rw [List.range_succ,List.map_append];rfl
theorem qa (os:List Int)(p:Int)(k:Nat):(itl os p k).length=k:=by simp [itl]
theorem zL {os:List Int}{p:Int}{k:Nat}{x:Int}:x ∈ itl os p k ↔ ∃ i,i<k/\itn os i p=x:=by
 unfold itl
 rw [List.mem_map]
 constructor
 ·rintro ⟨i,hi,e⟩
  exact ⟨i,by simpa using hi,e⟩
 ·rintro ⟨i,hi,e⟩
  exact ⟨i,by simpa using hi,e⟩
noncomputable def zp (os:List Int)(p:Int):List Int:=itl os p (per os p)
noncomputable def Rch (os:List Int)(q x:Int):Prop:=∃ k,itn os k q=x
theorem Rch.refl {os:List Int}{p:Int}:Rch os p p:=⟨0,rfl⟩
theorem Rch.trans {os:List Int}{p q r:Int}(a:Rch os p q)(b:Rch os q r):Rch os p r:=by
 obtain ⟨i,rfl⟩:=a
 obtain ⟨j,rfl⟩:=b
 exact ⟨j+i,jr os p i j⟩
theorem va {os:List Int}{p:Int}{m:Nat}(h:itn os m p=p):∀ k,itn os (k * m) p=p
 | 0=>by rw [Nat.zero_mul];rfl
 | k+1=>by rw [Nat.succ_mul,Nat.add_comm,jr,va h k,h]
theorem Vl {os:List Int}{p:Int}{m:Nat}(h:itn os m p=p)(k:Nat):itn os k p=itn os (k % m) p:=by
 have e:k=k % m+(k / m) * m:=by rw [Nat.mul_comm];exact (Nat.mod_add_div k m).symm
 conv=>lhs;rw [e]
 rw [jr,va h]
theorem Rch.symm {n:Nat}{os:List Int}(h:zm n os){p q:Int}(p0:0<=p)(p1:p<n)(a:Rch os p q):Rch os q p:=by
 obtain ⟨k,rfl⟩:=a
 obtain ⟨M,h1,_,h3⟩:=Qh h p0 p1
 refine ⟨(k+1) * M - k,?_⟩
 have hle:k<=(k+1) * M:=Nat.le_trans (Nat.le_succ k) (Nat.le_mul_of_pos_right _ h1)
 rw [<- jr,Nat.sub_add_cancel hle,va h3]
theorem Rch.mem_ring {os:List Int}{p x:Int}{m:Nat}(h:jt os p m):Rch os p x ↔ x ∈ itl os p m:=by
 rw [zL]
 constructor
 ·rintro ⟨k,rfl⟩
  exact ⟨k % m,Nat.mod_lt _ h.1,(Vl h.2.1 k).symm⟩
 ·rintro ⟨i,_,e⟩
  exact ⟨i,e⟩
noncomputable def jw (os:List Int)(p:Nat):Prop:=∀ q:Nat,q<p->¬ Rch os (q:Int) (p:Int)
open Classical in
noncomputable def zi (os:List Int):Nat->List (List Int)
 | 0=>[]
 | i+1=>zi os i ++ if jw os i/\1<per os (i:Int) then [zp os (i:Int)] else []
noncomputable def zF (os:List Int)(i:Nat)(x:Int):Prop:=∃ q:Nat,q<i/\Rch os (q:Int) x
theorem zF.succ {os:List Int}{i:Nat}{x:Int}:zF os (i+1) x ↔ zF os i x \/ Rch os (i:Int) x:=by
 constructor
 ·rintro ⟨q,hq,r⟩
  by_cases e:q=i
  ·subst e;exact .inr r
  ·exact .inl ⟨q,by omega,r⟩
 ·rintro (⟨q,hq,r⟩ | r)
  ·exact ⟨q,by omega,r⟩
  ·exact ⟨i,by omega,r⟩
theorem qK {os:List Int}{i:Nat}:jw os i ↔ ¬ zF os i (i:Int):=by
 constructor
 ·rintro h ⟨q,hq,r⟩;exact h q hq r
 ·intro h q hq r;exact h ⟨q,hq,r⟩
theorem zF.step {n:Nat}{os:List Int}(h:zm n os){i:Nat}(hi:i<n)(hs:zF os i (i:Int)){x:Int}:zF os (i+1) x ↔ zF os i x:=by
 rw [zF.succ]
 constructor
 ·rintro (z | z)
  ·exact z
  ·obtain ⟨q,hq,r⟩:=hs
   exact ⟨q,hq,r.trans z⟩
 ·exact .inl
theorem zF.apart {n:Nat}{os:List Int}(h:zm n os){i:Nat}(hi:i<n)(hs:¬ zF os i (i:Int)){x:Int}(r:Rch os (i:Int) x):¬ zF os i x:=by
 rintro ⟨q,hq,rq⟩
 exact hs ⟨q,hq,rq.trans (r.symm h (by omega) (by omega))⟩
theorem xw (os:List Int):∀ i,(zi os i).length<=i
 | 0=>Nat.le_refl _
 | i+1=>by
  unfold zi
  rw [List.length_append]
  have:=xw os i
  split <;> simp <;> omega
theorem qH {n:Nat}{os:List Int}(h:zm n os){r:List Int}:∀ {i:Nat},i<=n->r ∈ zi os i->1<r.length/\r.length<=n
 | 0,_,hr=>by simp [zi] at hr
 | i+1,hi,hr=>by
  unfold zi at hr
  rcases List.mem_append.mp hr with z | z
  ·exact qH h (by omega) z
  ·by_cases c:jw os i/\1<per os (i:Int)
   ·rw [if_pos c] at z
    rw [List.mem_singleton.mp z]
    obtain ⟨m,hm,hle⟩:=qz h (p:=(i:Int)) (by omega) (by omega)
    unfold zp
    rw [qa]
    have:=hm.per
    omega
   ·rw [if_neg c] at z;cases z
noncomputable def Mkd (os:List Int)(mk:Nat):Nat->Int->Prop
 | 0,_=>False
 | i+1,x=>Mkd os mk i x \/ (¬ Mkd os mk i (i:Int)/\wkE os (i:Int)=(i:Int)/\Rch os (i:Int) x/\x<(mk:Int))
open Classical in
noncomputable def cnt (os:List Int)(mk:Nat)(i:Nat):Int:=if Mkd os mk i (i:Int) then 0 else ((wkM os (i:Int):Nat):Int)
noncomputable def iLT (K:PySem.W.Frag)(tl:TE):TI:=fun σ H R=>tl σ H fun x H1=>∃ a,x=.ref a/\(((∃ xs,SqL K H1 a xs)/\R (Itl K a) H1) \/ ((∃ xs,SqT K H1 a xs)/\R (Itt K a) H1))
theorem ZH {X:Cx}{tg:Expr}{l:Expr}{tl:TE}(hl:PE X l tl):PI X tg l (iLT X.K tl):=by
 intro pins s σ H R I h
 refine thn (hl pins s σ H _ I h) fun v s1 ⟨x,H1,I1,r1,q1⟩=>?_
 obtain ⟨a,e,q⟩:=q1
 subst e
 cases r1
 have fo:∀ b ∈ [s1.heap.objs.size],kY X pins H1 b:=fun b hb=>by
  have e:b=s1.heap.objs.size:=by simpa using hb
  subst e
  exact I1.fpOk (Nat.le_refl _) (I1.hok.fresh (Nat.le_refl _))
 rcases q with ⟨⟨xs,hq⟩,q⟩ | ⟨⟨xs,hq⟩,q⟩
 ·obtain ⟨its,rv,p,hz⟩:=I1.list hq
  refine wpAny_pyIter_list p.isList ?_
  exact ⟨s1.heap.objs.size,[s1.heap.objs.size],_,_,H1,rfl,I1.kept (t':=s1.toks) fun b o e=>Heap.get?_push_of_some _ e,yv a _,⟨_,Heap.get?_push_size _ rfl,rfl,rfl⟩,fo,q⟩
 ·obtain ⟨its,rv,p,hz⟩:=I1.tuple hq
  refine wpAny_pyIter_tuple (show s1.heap.IsTuple a its.toArray from p) ?_
  exact ⟨s1.heap.objs.size,[s1.heap.objs.size],_,_,H1,rfl,I1.kept (t':=s1.toks) fun b o e=>Heap.get?_push_of_some _ e,Zx a _,⟨_,Heap.get?_push_size _ rfl,rfl,rfl⟩,fo,q⟩
theorem xA {os:List Int}{q:Nat}(hq:jw os q)(hp:1<per os (q:Int)):∀ {i:Nat},q<i->zp os (q:Int) ∈ zi os i
 | 0,h=>by omega
 | i+1,h=>by
  unfold zi
  by_cases e:q=i
  ·subst e
   rw [if_pos ⟨hq,hp⟩]
   simp
  ·exact List.mem_append_left _ (xA hq hp (by omega))
theorem yY {n:Nat}{os:List Int}(h:zm n os){x:Nat}(hx:x<n):(∃ r ∈ zi os n,(x:Int) ∈ r) \/ jt os (x:Int) 1:=by
 obtain ⟨q,⟨q1,q2⟩,q3⟩:=wg (p:=fun q=>q<n/\Rch os (q:Int) (x:Int)) x ⟨hx,Rch.refl⟩
 have hL:jw os q:=fun q' hq' r=>q3 q' hq' ⟨by omega,r.trans q2⟩
 obtain ⟨m,hm,_⟩:=qz h (p:=(q:Int)) (by omega) (by omega)
 by_cases c:1<m
 ·refine .inl ⟨_,xA hL (by rw [hm.per];exact c) q1,?_⟩
  unfold zp
  rw [hm.per]
  exact (Rch.mem_ring hm).mp q2
 ·have hm1:m=1:=by have:=hm.1;omega
  subst hm1
  obtain ⟨i,hi,e⟩:=zL.mp ((Rch.mem_ring hm).mp q2)
  have:i=0:=by omega
  subst this
  have e':(q:Int)=(x:Int):=e
  rw [<- e']
  exact .inr hm
section
variable {X:Cx}
end
section
variable {X:Cx}
end
theorem Q9 {X:Cx}:MtR X "list.extend" xh:=Q3
section
variable {prog:Program}{w:World}{A:Around}{R:Result->Shared->Prop}{s:Shared}
end
noncomputable def CL (J:It)(g:TG)(tt:TT)(tr:St->Hp->(St->Hp->Prop)->Prop)(N:St->Hp->Prop)(σ:St)(H:Hp):Prop:=∃ W:Nat->Nat->St->Hp->Prop,(∃ m,W 0 m σ H)/\∀ i m τ H2,W i m τ H2 ->
 (J.stop i H2/\N τ H2) \/ (J.go i H2/\∃ N1:St->Hp->Prop,(∀ τ' H',N1 τ' H'->∃ m',m'<m/\W (i+1) m' τ' H')/\∀ x H',J.yld i H2 x H'->g x τ H' fun τ2 H3=>tt τ2 H3 fun b H4=>
  if b=true then tr τ2 H4 N1 else N1 τ2 H4)
noncomputable abbrev TR:=St->Hp->(St->Hp->Prop)->Prop
noncomputable def wZ (te:TE)(D:Addr):TR:=fun σ H N=>te σ H fun v H5=>∃ ys,H5 D=some (.lst ys)/\ys.length<sizeLine/\N σ (upd H5 D (.lst (ys ++ [v])))
noncomputable def WS (wi:TI)(g:TG)(tt:TT)(tr:Addr->TR)(D:Addr):TR:=fun σ H N=>wi σ H fun J H1=>CL J g tt (tr D) N σ H1
section
variable {C:Cx}{elt tg iter:Expr}{ifs:List Expr}{gens:List Comprehension}{scope:Scope}{pos:Pos}{d:Nat}{D:Addr}{g:TG}{tt:TT}{te:TE}{tr:TR}
end
noncomputable def KP (ts:List Nat)(wi:TI)(g:TG)(tt:TT)(tr:Addr->TR):TE:=fun σ H Q=>wi σ H fun J H1=>∀ D,H1 D=none->CL J g tt (tr D) (fun _ H2=>Q (.ref D) H2) (clr ts σ) (upd H1 D (.lst []))
section
variable {X:Cx}{ts:List Nat}{scope:Scope}{tg iter elt:Expr}{ifs:List Expr}{qf:List Comprehension}{wi:TI}{g:TG}{tt:TT}{tr:Addr->TR}{pos:Pos}
end
theorem QE {ts:List Nat}{wi:TI}{g:TG}{tt:TT}{tr:Addr->TR}{σ:St}{H:Hp}{Q:VK} :
  KP ts wi g tt tr σ H Q=wi σ H (fun J H1=>∀ D,H1 D=none->CL J g tt (tr D) (fun _ H2=>Q (.ref D) H2) (clr ts σ) (upd H1 D (.lst []))):=rfl
theorem Q4 {wi:TI}{g:TG}{tt:TT}{tr:Addr->TR}{D:Addr}{σ:St}{H:Hp}{N:St->Hp->Prop}:WS wi g tt tr D σ H N=wi σ H (fun J H1=>CL J g tt (tr D) N σ H1):=rfl
theorem Ja {te:TE}{D:Addr}{σ:St}{H:Hp}{N:St->Hp->Prop}:wZ te D σ H N=te σ H (fun v H5=>∃ ys,H5 D=some (.lst ys)/\ys.length<sizeLine/\N σ (upd H5 D (.lst (ys ++ [v])))):=rfl
section
variable {P:Program}{w:World}{A:Around}{E:Value->Shared->Prop}{it l:Addr}{items:Array Value}
end
section
variable {X:Cx}{pos:Pos}
end
noncomputable def rep (o:Nat)(G:List Int):List Int:=(List.range (o * G.length)).map fun (i:Nat)=>((i / G.length * G.length:Nat):Int)+G.getD (i % G.length) 0
section
variable {P:Program}{w:World}{A:Around}{E:Value->Shared->Prop}{s:Shared}{z TI TO i1 i2 l1 l2:Addr}{k:Nat}{xs ys:Array Value}{x y a b:Value}{Q:Option Value->Shared->Prop}
end
open AutoSeq1 (wpAny_loadPart') in
section
variable {X:Cx}{es:List Expr}{kt:Nat}{tp:Pos}
end
section
variable {X:Cx}{e st:Expr}{te:TE}{lo hi:Option Expr}{tl th ts:TO}{p2 pos:Pos}
end
theorem jK {α:Type}(p q:α->Bool):∀ (l:List α),(∀ x ∈ l,¬ (p x=true/\q x=true))->l.countP (fun x=>p x || q x)=l.countP p+l.countP q
 | [],_=>rfl
 | x :: l,h=>by
  have ih:=jK p q l fun y hy=>h y (by simp [hy])
  have hx:=h x (by simp)
  rw [List.countP_cons,List.countP_cons,List.countP_cons,ih]
  cases hp:p x <;> cases hq:q x
  ·simp
  ·simp;omega
  ·simp;omega
  ·exact absurd ⟨hp,hq⟩ hx
theorem wD (n y:Nat)(h:y<n):(List.range n).countP (fun x=>decide (x=y))=1:=by
 induction n with
 | zero=>omega
 | succ n ih=>
  rw [List.range_succ,List.countP_append]
  by_cases e:y=n
  ·subst e
   have:(List.range y).countP (fun x=>decide (x=y))=0:=by
    rw [List.countP_eq_zero]
    intro x hx
    have:x<y:=by simpa using hx
    simp;omega
   rw [this];simp
  ·rw [ih (by omega)]
   have:¬ n=y:=fun z=>e z.symm
   simp [this]
theorem xD (n:Nat):∀ (R:List Nat),R.Nodup->(∀ x ∈ R,x<n)->(List.range n).countP (fun x=>decide (x ∈ R))=R.length
 | [],_,_=>by simp
 | y :: R,nd,hb=>by
  have hy:=List.nodup_cons.mp nd
  have e:(fun x=>decide (x ∈ y :: R))=fun x=>decide (x=y) || decide (x ∈ R):=by
   funext x
   rw [Bool.eq_iff_iff]
   simp
  rw [e,jK,wD n y (hb y (by simp)),xD n R hy.2 fun x hx=>hb x (by simp [hx]),List.length_cons,Nat.add_comm]
  intro x _ ⟨h1,h2⟩
  have h1':x=y:=by simpa using h1
  subst h1'
  exact hy.1 (by simpa using h2)
theorem y6 {n:Nat}{os:List Int}(h:zm n os){i:Nat}(hi:i<n):1<per os (i:Int) ↔ ¬ os.getD i 0=(i:Int):=by
 obtain ⟨M,hM,hMn⟩:=qz h (p:=(i:Int)) (by omega) (by omega)
 rw [hM.per]
 have e1:itn os 1 (i:Int)=os.getD i 0:=by
  show os.getD ((i:Int)).toNat 0=_
  rw [Int.toNat_natCast]
 constructor
 ·intro z e
  exact hM.2.2 1 (Nat.le_refl _) z (by rw [e1,e])
 ·intro z
  rcases Nat.lt_or_ge 1 M with y | y
  ·exact y
  ·have:M=1:=by have:=hM.1;omega
   rw [this] at hM
   exact absurd (by rw [<- e1,hM.2.1]) z
theorem jc {n:Nat}{os:List Int}(h:zm n os){p:Int}(p0:0<=p)(p1:p<n){M:Nat}(hM:jt os p M):(itl os p M).Nodup:=by
 rw [List.nodup_iff_pairwise_ne,List.pairwise_iff_getElem]
 intro i j hi hj hij e
 rw [qa] at hi hj
 have e':itn os i p=itn os j p:=by
  have e1:(itl os p M)[i]'(by rw [qa];exact hi)=itn os i p:=by simp [itl]
  have e2:(itl os p M)[j]'(by rw [qa];exact hj)=itn os j p:=by simp [itl]
  rw [<- e1,<- e2];exact e
 have b:=zX h p0 p1 (j - i)
 have e2:itn os (j - i) p=p:=by
  refine (yO h p0 p1 b.1 b.2 i ?_).symm
  rw [<- jr,show i+(j - i)=j by omega]
  exact e'
 exact hM.2.2 (j - i) (by omega) (by omega) e2
theorem ZD {n:Nat}{os:List Int}(h:zm n os){i x:Nat}(hi:i<n)(hx:x<n)(hp:1<per os (i:Int))(r:Rch os (i:Int) (x:Int)):¬ os.getD x 0=(x:Int):=by
 intro e
 have r2:=r.symm h (by omega) (by omega)
 obtain ⟨k,hk⟩:=r2
 have hfix:∀ k,itn os k (x:Int)=(x:Int):=by
  intro k
  induction k with
  | zero=>rfl
  | succ k ih=>
   show nxt os (itn os k (x:Int))=_
   rw [ih]
   show os.getD ((x:Int)).toNat 0=_
   rw [Int.toNat_natCast,e]
 rw [hfix k] at hk
 have:x=i:=by omega
 subst this
 exact (y6 h hi).mp hp e
open Classical in
noncomputable def yg (os:List Int)(n i:Nat):Nat:=(List.range n).countP fun (x:Nat)=>decide (zF os i (x:Int)/\¬ os.getD x 0=(x:Int))
noncomputable def kq (rs:List (List Int)):Nat:=(rs.map List.length).sum
theorem Xc (a b:List (List Int)):kq (a ++ b)=kq a+kq b:=by unfold kq;rw [List.map_append,List.sum_append]
open Classical in
theorem xV {n:Nat}{os:List Int}(h:zm n os):∀ i,i<=n->kq (zi os i)=yg os n i
 | 0,_=>by
  unfold yg
  have:(List.range n).countP (fun (x:Nat)=>decide (zF os 0 (x:Int)/\¬ os.getD x 0=(x:Int)))=0:=by
   rw [List.countP_eq_zero]
   intro x _ hx
   have:=(of_decide_eq_true hx).1
   obtain ⟨q,hq,_⟩:=this
   omega
  rw [this];rfl
 | i+1,hi=>by
  have ih:=xV h i (by omega)
  show kq (zi os i ++ _)=_
  rw [Xc,ih]
  obtain ⟨M,hM,hMn⟩:=qz h (p:=(i:Int)) (by omega) (by omega)
  by_cases hL:jw os i
  ·have hns:=qK.mp hL
   by_cases hp:1<per os (i:Int)
   ·rw [if_pos ⟨hL,hp⟩]
    have e:(fun x:Nat=>decide (zF os (i+1) (x:Int)/\¬ os.getD x 0=(x:Int)))=fun x:Nat=>decide (zF os i (x:Int)/\¬ os.getD x 0=(x:Int)) || decide (Rch os (i:Int) (x:Int)/\¬ os.getD x 0=(x:Int)):=by
     funext x
     rw [Bool.eq_iff_iff,Bool.or_eq_true,decide_eq_true_eq,decide_eq_true_eq,decide_eq_true_eq,zF.succ]
     constructor
     ·rintro ⟨a | a,b⟩
      ·exact .inl ⟨a,b⟩
      ·exact .inr ⟨a,b⟩
     ·rintro (⟨a,b⟩ | ⟨a,b⟩)
      ·exact ⟨.inl a,b⟩
      ·exact ⟨.inr a,b⟩
    unfold yg
    rw [e,jK]
    ·congr 1
     have e2:(List.range n).countP (fun x:Nat=>decide (Rch os (i:Int) (x:Int)/\¬ os.getD x 0=(x:Int)))=(List.range n).countP (fun x:Nat=>decide (x ∈ (itl os (i:Int) M).map Int.toNat)):=by
      refine List.countP_congr fun x hx=>?_
      have hx':x<n:=by simpa using hx
      rw [decide_eq_true_eq,decide_eq_true_eq,List.mem_map]
      constructor
      ·rintro ⟨r,_⟩
       exact ⟨(x:Int),(Rch.mem_ring hM).mp r,by simp⟩
      ·rintro ⟨y,hy,e⟩
       obtain ⟨k,hk,ek⟩:=zL.mp hy
       have b:=zX h (p:=(i:Int)) (by omega) (by omega) k
       have hyx:y=(x:Int):=by omega
       rw [hyx] at hy
       have r:=(Rch.mem_ring hM).mpr hy
       exact ⟨r,ZD h (by omega) hx' hp r⟩
     have hnd:=jc h (p:=(i:Int)) (by omega) (by omega) hM
     rw [e2,xD]
     ·rw [List.length_map,qa]
      unfold kq zp
      rw [hM.per]
      simp [qa]
     ·rw [List.nodup_iff_pairwise_ne,List.pairwise_map]
      refine List.Pairwise.imp_of_mem (fun {a b} ha hb hab e=>?_) (List.nodup_iff_pairwise_ne.mp hnd)
      obtain ⟨k1,_,e1⟩:=zL.mp ha
      obtain ⟨k2,_,e2⟩:=zL.mp hb
      have b1:=zX h (p:=(i:Int)) (by omega) (by omega) k1
      have b2:=zX h (p:=(i:Int)) (by omega) (by omega) k2
      exact hab (by omega)
     ·intro x hx
      obtain ⟨y,hy,e⟩:=List.mem_map.mp hx
      obtain ⟨k,hk,ek⟩:=zL.mp hy
      have b:=zX h (p:=(i:Int)) (by omega) (by omega) k
      omega
    ·intro x _ ⟨h1,h2⟩
     exact zF.apart h (by omega) hns (of_decide_eq_true h2).1 (of_decide_eq_true h1).1
   ·rw [if_neg (fun z=>hp z.2)]
    have e:yg os n (i+1)=yg os n i:=by
     unfold yg
     refine List.countP_congr fun x hx=>?_
     have hx':x<n:=by simpa using hx
     rw [decide_eq_true_eq,decide_eq_true_eq,zF.succ]
     have hfix:os.getD i 0=(i:Int):=Classical.byContradiction fun z=>hp ((y6 h (by omega)).mpr z)
     constructor
     ·rintro ⟨a | a,b⟩
      ·exact ⟨a,b⟩
      ·exfalso
       obtain ⟨k,hk⟩:=a
       have hstay:∀ k,itn os k (i:Int)=(i:Int):=by
        intro k
        induction k with
        | zero=>rfl
        | succ k ih=>
         show nxt os (itn os k (i:Int))=_
         rw [ih]
         show os.getD ((i:Int)).toNat 0=_
         rw [Int.toNat_natCast,hfix]
       rw [hstay k] at hk
       have:i=x:=by omega
       subst this
       exact b hfix
     ·rintro ⟨a,b⟩
      exact ⟨.inl a,b⟩
    rw [e]
    rfl
  ·rw [if_neg (fun z=>hL z.1)]
   have hs:zF os i (i:Int):=Classical.byContradiction fun z=>hL (qK.mpr z)
   have e:yg os n (i+1)=yg os n i:=by
    unfold yg
    refine List.countP_congr fun x hx=>?_
    rw [decide_eq_true_eq,decide_eq_true_eq,zF.step h (by omega) hs]
   rw [e]
   rfl
open Classical in
theorem xW {n:Nat}{os:List Int}(h:zm n os):kq (zi os n)=jd os n:=by
 rw [xV h n (Nat.le_refl n)]
 unfold yg jd
 rw [List.countP_eq_length_filter]
 congr 1
 refine List.filter_congr fun x hx=>?_
 have hx':x<n:=by simpa using hx
 rw [Bool.eq_iff_iff]
 constructor
 ·intro z
  have:=(of_decide_eq_true z).2
  simpa using this
 ·intro z
  have z':¬ os.getD x 0=(x:Int):=by simpa using z
  exact decide_eq_true ⟨⟨x,hx',Rch.refl⟩,z'⟩
noncomputable def sw1 (row:List Int)(s:Nat × Nat):List Int:=(row.set s.1 (row.getD s.2 0)).set s.2 (row.getD s.1 0)
noncomputable def swR (row:List Int)(l:List (Nat × Nat)):List Int:=l.foldl sw1 row
theorem Z0 (row:List Int)(s:Nat × Nat):(sw1 row s).length=row.length:=by unfold sw1;rw [List.length_set,List.length_set]
theorem jo:∀ (l:List (Nat × Nat)) (row:List Int),(swR row l).length=row.length
 | [],_=>rfl
 | s :: l,row=>by show (swR (sw1 row s) l).length=_;rw [jo l,Z0]
theorem yR (row:List Int)(a b:List (Nat × Nat)):swR row (a ++ b)=swR (swR row a) b:=by unfold swR;rw [List.foldl_append]
theorem xf {row:List Int}{a b x:Nat}(ha:a<row.length)(hb:b<row.length):(sw1 row (a,b)).getD x 0=if x=b then row.getD a 0 else if x=a then row.getD b 0 else row.getD x 0:=by
 unfold sw1
 rw [vm (by rw [List.length_set];exact hb),vm ha]
noncomputable def zy (c:List Nat):List (Nat × Nat):=(c.drop 1).map fun p=>(c.getD 0 0,p)
theorem kA {row:List Int}{c:List Nat}(nd:c.Nodup)(hb:∀ x ∈ c,x<row.length)(h0:∀ x ∈ c,row.getD x 0=(x:Int))(hc:1<=c.length):∀ k,k<c.length ->
  (swR row ((zy c).take k)).getD (c.getD 0 0) 0=((c.getD k 0:Nat):Int)/\(∀ i,1<=i->i<=k->(swR row ((zy c).take k)).getD (c.getD i 0) 0=((c.getD (i - 1) 0:Nat):Int)) /\
   (∀ i,k<i->i<c.length->(swR row ((zy c).take k)).getD (c.getD i 0) 0=((c.getD i 0:Nat):Int))/\∀ x,x ∉ c->(swR row ((zy c).take k)).getD x 0=row.getD x 0
 | 0,h=>by
  have gm:∀ i,i<c.length->c.getD i 0 ∈ c:=fun i hi=>by
   rw [List.getD_eq_getElem?_getD,List.getElem?_eq_getElem hi];exact List.getElem_mem hi
  refine ⟨h0 _ (gm 0 h),fun i h1 h2=>by omega,fun i h1 h2=>h0 _ (gm i h2),fun x hx=>rfl⟩
 | k+1,h=>by
  obtain ⟨i1,i2,i3,i4⟩:=kA nd hb h0 hc k (by omega)
  have gm:∀ i,i<c.length->c.getD i 0 ∈ c:=fun i hi=>by
   rw [List.getD_eq_getElem?_getD,List.getElem?_eq_getElem hi];exact List.getElem_mem hi
  have inj:∀ i j,i<c.length->j<c.length->c.getD i 0=c.getD j 0->i=j:=fun i j hi hj e=>by
   rw [List.getD_eq_getElem?_getD,List.getElem?_eq_getElem hi,List.getD_eq_getElem?_getD,List.getElem?_eq_getElem hj] at e
   exact (List.getElem_inj nd).mp e
  have hsl:(zy c).length=c.length - 1:=by unfold zy;rw [List.length_map,List.length_drop]
  have est:(zy c)[k]?=some (c.getD 0 0,c.getD (k+1) 0):=by
   unfold zy
   rw [List.getElem?_map,List.getElem?_drop,List.getD_eq_getElem?_getD (i:=k+1),show 1+k=k+1 by omega,List.getElem?_eq_getElem h];rfl
  have htk:(zy c).take (k+1)=(zy c).take k ++ [(c.getD 0 0,c.getD (k+1) 0)]:=by rw [List.take_add_one,est];rfl
  rw [htk,yR]
  show (sw1 (swR row ((zy c).take k)) (c.getD 0 0,c.getD (k+1) 0)).getD _ _=_/\_
  have b0:c.getD 0 0<(swR row ((zy c).take k)).length:=by rw [jo];exact hb _ (gm 0 (by omega))
  have b1:c.getD (k+1) 0<(swR row ((zy c).take k)).length:=by rw [jo];exact hb _ (gm (k+1) h)
  have ne:c.getD 0 0 ≠ c.getD (k+1) 0:=fun e=>by have:=inj 0 (k+1) (by omega) h e;omega
  refine ⟨?_,fun i h1 h2=>?_,fun i h1 h2=>?_,fun x hx=>?_⟩
  ·rw [xf b0 b1,if_neg ne,if_pos rfl]
   exact i3 (k+1) (by omega) h
  ·show (sw1 _ _).getD _ _=_
   rw [xf b0 b1]
   by_cases e:i=k+1
   ·subst e
    rw [if_pos rfl,i1,show k+1 - 1=k by omega]
   ·rw [if_neg (fun z=>e (inj i (k+1) (by omega) h z)),if_neg (fun z=>by have:=inj i 0 (by omega) (by omega) z;omega)]
    exact i2 i h1 (by omega)
  ·show (sw1 _ _).getD _ _=_
   rw [xf b0 b1,if_neg (fun z=>by have:=inj i (k+1) h2 h z;omega),if_neg (fun z=>by have:=inj i 0 h2 (by omega) z;omega)]
   exact i3 i (by omega) h2
  ·show (sw1 _ _).getD _ _=_
   rw [xf b0 b1,if_neg (fun z=>hx (by rw [z];exact gm (k+1) h)),if_neg (fun z=>hx (by rw [z];exact gm 0 (by omega)))]
   exact i4 x hx
noncomputable def zZ (os:List Int)(i:Nat):List (Nat × Nat):=((zi os i).map fun r=>zy (r.map Int.toNat)).flatten
open Classical in
theorem jV {n:Nat}{os:List Int}(h:zm n os):∀ i,i<=n->(swR (zK 0 1 n) (zZ os i)).length=n/\(∀ t:Nat,t<n->zF os i (t:Int)->(swR (zK 0 1 n) (zZ os i)).getD (os.getD t 0).toNat 0=(t:Int))/\∀ t:Nat,t<n->¬ zF os i (t:Int)->(swR (zK 0 1 n) (zZ os i)).getD t 0=(t:Int)
  | 0,_=>by
    refine ⟨zB 0 1 n,fun t _ ⟨q,hq,_⟩=>by omega,fun t ht _=>?_⟩
    show (zK 0 1 n).getD t 0=_
    exact Q2 n ht
  | i+1,hi=>by
    obtain ⟨l,ih1,ih2⟩:=jV h i (by omega)
    obtain ⟨M,hM,hMn⟩:=qz h (p:=(i:Int)) (by omega) (by omega)
    have hst:zZ os (i+1)=zZ os i ++ (((if jw os i/\1<per os (i:Int) then [zp os (i:Int)] else []).map fun r=>zy (r.map Int.toNat)).flatten):=by
      unfold zZ
      show ((zi os i ++ _).map _).flatten=_
      rw [List.map_append,List.flatten_append]
    rw [hst,yR]
    generalize swR (zK 0 1 n) (zZ os i)=row at *
    by_cases hL:jw os i
    · have hns:=qK.mp hL
      by_cases hp:1<per os (i:Int)
      · rw [if_pos ⟨hL,hp⟩]
        have e1:([zp os (i:Int)].map fun r=>zy (r.map Int.toNat)).flatten=zy ((itl os (i:Int) M).map Int.toNat):=by
          unfold zp
          rw [hM.per]
          simp
        rw [e1]
        have hcl:((itl os (i:Int) M).map Int.toNat).length=M:=by rw [List.length_map,qa]
        have cg:∀ k,k<M->((itl os (i:Int) M).map Int.toNat).getD k 0=(itn os k (i:Int)).toNat:=fun k hk=>by
          rw [List.getD_eq_getElem?_getD,List.getElem?_map]
          unfold itl
          rw [List.getElem?_map,List.getElem?_range hk];rfl
        have bd:∀ k,0<=itn os k (i:Int)/\itn os k (i:Int)<n:=fun k=>zX h (by omega) (by omega) k
        have hnd:((itl os (i:Int) M).map Int.toNat).Nodup:=by
          rw [List.nodup_iff_pairwise_ne,List.pairwise_map]
          refine List.Pairwise.imp_of_mem (fun {a b} ha hb hab e=>?_) (List.nodup_iff_pairwise_ne.mp (jc h (p:=(i:Int)) (by omega) (by omega) hM))
          obtain ⟨k1,_,e1⟩:=zL.mp ha
          obtain ⟨k2,_,e2⟩:=zL.mp hb
          have b1:=bd k1
          have b2:=bd k2
          exact hab (by omega)
        have hmem:∀ x:Nat,x ∈ (itl os (i:Int) M).map Int.toNat ↔ Rch os (i:Int) (x:Int):=fun x=>by
          rw [List.mem_map,Rch.mem_ring hM]
          constructor
          · rintro ⟨y,hy,e⟩
            obtain ⟨k,hk,ek⟩:=zL.mp hy
            have:=bd k
            rw [show (x:Int)=y by omega];exact hy
          · intro hx
            exact ⟨_,hx,by simp⟩
        have hfree:∀ x ∈ (itl os (i:Int) M).map Int.toNat,x<n/\row.getD x 0=(x:Int):=fun x hx=>by
          have r:=(hmem x).mp hx
          obtain ⟨k,hk⟩:=r
          have:=bd k
          have hxn:x<n:=by omega
          exact ⟨hxn,ih2 x hxn (zF.apart h (by omega) hns ⟨k,hk⟩)⟩
        have hM1:=hM.1
        obtain ⟨s1,s2,s3,s4⟩:=kA hnd (fun x hx=>by rw [l];exact (hfree x hx).1) (fun x hx=>(hfree x hx).2) (by omega) (M - 1) (by omega)
        have htake:(zy ((itl os (i:Int) M).map Int.toNat)).take (M - 1)=zy ((itl os (i:Int) M).map Int.toNat):=by
          rw [List.take_of_length_le]
          unfold zy
          rw [List.length_map,List.length_drop,hcl]
          exact Nat.le_refl _
        rw [htake] at s1 s2 s3 s4
        refine ⟨by rw [jo];exact l,fun t ht hs=>?_,fun t ht hs=>?_⟩
        · have nx:Rch os (t:Int) (os.getD t 0):=⟨1,by show os.getD ((t:Int)).toNat 0=_;rw [Int.toNat_natCast]⟩
          have gb:=h.getD ht
          rcases zF.succ.mp hs with z | z
          · have hnot : (os.getD t 0).toNat ∉ (itl os (i : Int) M).map Int.toNat := fun hm => by
              have r:=(hmem _).mp hm
              rw [Int.toNat_of_nonneg gb.1] at r
              obtain ⟨q,hq,rq⟩:=z
              exact zF.apart h (by omega) hns r ⟨q,hq,rq.trans nx⟩
            rw [s4 _ hnot]
            exact ih1 t ht z
          · obtain ⟨k,hk,ek⟩:=zL.mp ((Rch.mem_ring hM).mp z)
            have enx:os.getD t 0=itn os (k+1) (i:Int):=by
              show _=nxt os (itn os k (i:Int))
              rw [ek]
              show _=os.getD ((t:Int)).toNat 0
              rw [Int.toNat_natCast]
            rw [enx]
            by_cases hlast:k+1=M
            · rw [hlast,hM.2.1]
              have:((i:Int)).toNat=((itl os (i:Int) M).map Int.toNat).getD 0 0:=by rw [cg 0 (by omega)];rfl
              rw [this,s1,cg (M - 1) (by omega),show M - 1=k by omega,ek]
              simp
            · have:=s2 (k+1) (by omega) (by omega)
              rw [cg (k+1) (by omega),show k+1 - 1=k by omega,cg k hk,ek] at this
              rw [this]
              simp
        · have hnot:t ∉ (itl os (i:Int) M).map Int.toNat:=fun hm=>hs (zF.succ.mpr (.inr ((hmem t).mp hm)))
          rw [s4 t hnot]
          exact ih2 t ht fun z=>hs (zF.succ.mpr (.inl z))
      · rw [if_neg (fun z=>hp z.2)]
        have hfix:os.getD i 0=(i:Int):=Classical.byContradiction fun z=>hp ((y6 h (by omega)).mpr z)
        have hstay:∀ k,itn os k (i:Int)=(i:Int):=by
          intro k
          induction k with
          | zero=>rfl
          | succ k ih=>
            show nxt os (itn os k (i:Int))=_
            rw [ih]
            show os.getD ((i:Int)).toNat 0=_
            rw [Int.toNat_natCast,hfix]
        refine ⟨l,fun t ht hs=>?_,fun t ht hs=>ih2 t ht fun z=>hs (zF.succ.mpr (.inl z))⟩
        rcases zF.succ.mp hs with z | ⟨k,z⟩
        · exact ih1 t ht z
        · rw [hstay k] at z
          have:i=t:=by omega
          subst this
          rw [hfix,Int.toNat_natCast]
          exact ih2 i ht hns
    · rw [if_neg (fun z=>hL z.1)]
      have hs0:zF os i (i:Int):=Classical.byContradiction fun z=>hL (qK.mpr z)
      exact ⟨l,fun t ht hs=>ih1 t ht ((zF.step h (by omega) hs0).mp hs),fun t ht hs=>ih2 t ht fun z=>hs ((zF.step h (by omega) hs0).mpr z)⟩
theorem vM {n:Nat}{os:List Int}(h:zm n os){t:Nat}(ht:t<n):(swR (zK 0 1 n) (zZ os n)).getD (os.getD t 0).toNat 0=(t:Int):=
 (jV h n (Nat.le_refl n)).2.1 t ht ⟨t,ht,Rch.refl⟩
section
variable {X:Cx}
variable {o e:Expr}{es:List Expr}{to:TE}{t:TA}{name:Str}{apos cpos:Pos}{T id:String}{r:V->List V->Hp->VK->Prop}{K:PySem.W.Frag}
end
section
variable {X:Cx}{tg:Expr}
end
inductive Dd where
 | take (p:Nat) | move (p g:Nat) | lay (g:Nat)
noncomputable abbrev RS:=List (Option Int) × Option Int × List Int
noncomputable def inc (mv:List Int)(x:Int):List Int:=mv.set x.toNat (mv.getD x.toNat 0+1)
inductive Do:Dd->RS->RS->Prop
 | take {p:Nat} {row:List (Option Int)} {mv:List Int} {x:Int}:row[p]?=some (some x)->Do (.take p) (row,none,mv) (row.set p none,some x,inc mv x)
 | move {p g:Nat} {row:List (Option Int)} {h:Option Int} {mv:List Int} {x:Int}:row[p]?=some (some x)->row[g]?=some none->Do (.move p g) (row,h,mv) ((row.set p none).set g (some x),h,inc mv x)
 | lay {g:Nat} {row:List (Option Int)} {mv:List Int} {x:Int}:row[g]?=some none->Do (.lay g) (row,some x,mv) (row.set g (some x),none,inc mv x)
inductive Dos:List Dd->RS->RS->Prop
 | nil {s:RS}:Dos [] s s
 | cons {d:Dd} {l:List Dd} {s t u:RS}:Do d s t->Dos l t u->Dos (d :: l) s u
theorem Dos.append {a b:List Dd}{s t u:RS}(h1:Dos a s t)(h2:Dos b t u):Dos (a ++ b) s u:=by
 induction h1 with
 | nil=>exact h2
 | cons d _ ih=>exact .cons d (ih h2)
noncomputable def mvP:Nat->List Nat->List Dd
 | _,[]=>[]
 | g,p :: ps=>.move p g :: mvP p ps
noncomputable def xK (c:List Nat):List Dd:=.take (c.getD 0 0) :: mvP (c.getD 0 0) (c.drop 1).reverse ++ [.lay ((c.drop 1).reverse.getLastD (c.getD 0 0))]
theorem VD:∀ (ps:List Nat) (g:Nat) (row:List (Option Int)) (h:Option Int) (mv:List Int),row[g]?=some none->(g :: ps).Nodup->(∀ p ∈ ps,row[p]?=some (some (p:Int))) ->
  ∃ row',Dos (mvP g ps) (row,h,mv) (row',h,ps.foldl (fun m (p:Nat)=>inc m (p:Int)) mv)/\row'.length=row.length/\row'[ps.getLastD g]?=some none/\(∀ (i p:Nat),ps[i]?=some p->row'[(g :: ps).getD i 0]?=some (some (p:Int)))/\∀ x,x ∉ g :: ps->row'[x]?=row[x]?
 | [],g,row,h,mv,hg,_,_=>⟨row,.nil,rfl,hg,fun i p e=>by simp at e,fun x _=>rfl⟩
 | p :: ps,g,row,h,mv,hg,nd,hp=>by
  have gl:g<row.length:=(List.getElem?_eq_some_iff.mp hg).1
  have hp0:=hp p (by simp)
  have pl:p<row.length:=(List.getElem?_eq_some_iff.mp hp0).1
  rw [List.nodup_cons] at nd
  obtain ⟨n1,n2⟩:=nd
  have ngp:g ≠ p:=fun z=>n1 (by rw [z];simp)
  have at1:∀ x,((row.set p none).set g (some (p:Int)))[x]?=if x=g then some (some (p:Int)) else if x=p then some none else row[x]?:=by
   intro x
   rw [List.getElem?_set,List.getElem?_set,List.length_set]
   by_cases e1:x=g
   ·subst e1;simp [gl]
   ·rw [if_neg (fun z=>e1 z.symm),if_neg e1]
    by_cases e2:x=p
    ·subst e2;simp [pl]
    ·rw [if_neg (fun z=>e2 z.symm),if_neg e2]
  obtain ⟨row',d,l,hl,hs,ho⟩:=VD ps p ((row.set p none).set g (some (p:Int))) h (inc mv (p:Int)) (by rw [at1,if_neg (fun z=>ngp z.symm),if_pos rfl]) n2 (fun q hq=>by
   rw [at1,if_neg (fun z=>n1 (by rw [<- z];simp [hq])),if_neg (fun z=>(List.nodup_cons.mp n2).1 (by rw [<- z];exact hq))]
   exact hp q (by simp [hq]))
  refine ⟨row',.cons (.move hp0 hg) d,by rw [l,List.length_set,List.length_set],?_,fun i q e=>?_,fun x hx=>?_⟩
  ·rw [show (p :: ps).getLastD g=ps.getLastD p by simp [List.getLastD_eq_getLast?,List.getLast?_cons]];exact hl
  ·cases i with
   | zero=>
    have:p=q:=by simpa using e
    subst this
    show row'[g]?=_
    rw [ho g n1,at1,if_pos rfl]
   | succ i=>exact hs i q (by simpa using e)
  ·have hx1:x ≠ g:=fun z=>hx (by simp [z])
   have hx2:x ∉ p :: ps:=fun z=>hx (List.mem_cons_of_mem _ z)
   rw [ho x hx2,at1,if_neg hx1,if_neg (fun z=>hx2 (by simp [z]))]
noncomputable def yw (c:List Nat)(mv:List Int):List Int:=inc ((c.drop 1).reverse.foldl (fun m (p:Nat)=>inc m (p:Int)) (inc mv ((c.getD 0 0:Nat):Int))) ((c.getD 0 0:Nat):Int)
theorem Y4 {R:List Int}{c:List Nat}{mv:List Int}(nd:c.Nodup)(hc:2<=c.length)(hb:∀ x ∈ c,x<R.length)(h0:∀ x ∈ c,R.getD x 0=(x:Int)) :
  Dos (xK c) (R.map some,none,mv) ((swR R (zy c)).map some,none,yw c mv):=by
 obtain ⟨c0,ct,rfl⟩:∃ c0 ct,c=c0 :: ct:=by
  cases c with
  | nil=>simp at hc
  | cons a b=>exact ⟨a,b,rfl⟩
 have hat:∀ x ∈ c0 :: ct,(R.map some)[x]?=some (some (x:Int)):=fun x hx=>by
  rw [List.getElem?_map,List.getElem?_eq_getElem (hb x hx),<- h0 x hx,qT (hb x hx)];rfl
 have l0:c0<R.length:=hb c0 (by simp)
 have nd':=List.nodup_cons.mp nd
 have hrow:((R.map some).set c0 none)[c0]?=some none:=by rw [List.getElem?_set,List.length_map];simp [l0]
 obtain ⟨row',d,l,hl,hs,ho⟩:=VD ct.reverse c0 ((R.map some).set c0 none) (some (c0:Int)) (inc mv (c0:Int)) hrow
  (List.nodup_cons.mpr ⟨by simpa using nd'.1,(by have h:=nd'.2;rw [List.nodup_iff_pairwise_ne] at h ⊢;rw [List.pairwise_reverse];exact h.imp fun z=>z.symm)⟩) (fun p hp=>by
   have hp':p ∈ ct:=by simpa using hp
   rw [List.getElem?_set,if_neg (fun z=>nd'.1 (by rw [z];exact hp'))]
   exact hat p (by simp [hp']))
 have hct:1<=ct.length:=by simpa using hc
 rw [List.length_set,List.length_map] at l
 have last:ct.reverse.getLastD c0=ct.getD 0 0:=by
  cases ct with
  | nil=>simp at hct
  | cons a b=>simp [List.getLastD_eq_getLast?]
 have hl':=hl
 rw [last] at hl
 have e:row'.set (ct.getD 0 0) (some (c0:Int))=(swR R (zy (c0 :: ct))).map some:=by
  obtain ⟨s1,s2,s3,s4⟩:=kA (row:=R) nd hb h0 (by omega) ((c0 :: ct).length - 1) (by simp)
  have htake:(zy (c0 :: ct)).take ((c0 :: ct).length - 1)=zy (c0 :: ct):=by
   rw [List.take_of_length_le]
   unfold zy
   rw [List.length_map,List.length_drop]
   exact Nat.le_refl _
  rw [htake] at s1 s2 s4
  have lsw:=jo (zy (c0 :: ct)) R
  have l1:ct.getD 0 0<row'.length:=by rw [l];exact hb _ (by rw [List.getD_eq_getElem?_getD,List.getElem?_eq_getElem hct];simp)
  refine List.ext_getElem? fun x=>?_
  rw [List.getElem?_set,List.getElem?_map]
  by_cases hx:x<R.length
  ·have ex:(swR R (zy (c0 :: ct)))[x]?=some ((swR R (zy (c0 :: ct))).getD x 0):=by rw [List.getD_eq_getElem?_getD,List.getElem?_eq_getElem (by omega)];rfl
   rw [ex]
   show _=some (some _)
   by_cases hm:x ∈ c0 :: ct
   ·obtain ⟨k,hk,ek⟩:=List.mem_iff_getElem.mp hm
    have gd:∀ i (hi:i<(c0 :: ct).length),(c0 :: ct).getD i 0=(c0 :: ct)[i]:=fun i hi=>by rw [List.getD_eq_getElem?_getD,List.getElem?_eq_getElem hi];rfl
    rcases k with _ | _ | k
    ·have ek:c0=x:=ek
     subst ek
     have ne:ct.getD 0 0 ≠ c0:=fun z=>nd'.1 (by rw [<- z,List.getD_eq_getElem?_getD,List.getElem?_eq_getElem hct];simp)
     rw [if_neg ne]
     have:=hs 0 (ct.getD (ct.length - 1) 0) (by rw [List.getElem?_reverse (by omega),List.getD_eq_getElem?_getD,show ct.length - 1 - 0=ct.length - 1 by omega,List.getElem?_eq_getElem (by omega)];rfl)
     rw [show (c0 :: ct.reverse).getD 0 0=c0 from rfl] at this
     rw [this]
     have s1':(swR R (zy (c0 :: ct))).getD c0 0=_:=s1
     rw [s1',gd _ (by simp)]
     simp only [List.length_cons,Nat.add_sub_cancel]
     rw [List.getD_eq_getElem?_getD,List.getElem?_eq_getElem (by omega)]
     obtain ⟨m,hm'⟩:∃ m,ct.length=m+1:=⟨ct.length - 1,by omega⟩
     simp [hm']
    ·have ek:ct[0]=x:=ek
     have e0:ct.getD 0 0=x:=by rw [List.getD_eq_getElem?_getD,List.getElem?_eq_getElem hct];exact ek
     rw [if_pos e0,if_pos l1]
     have:=s2 1 (Nat.le_refl 1) (by simp;omega)
     rw [gd 1 (by simpa using hk)] at this
     rw [show x=(c0 :: ct)[1] from ek.symm,this]
     rfl
    ·have hk':k+1<ct.length:=by simpa using hk
     have ek:ct[k+1]=x:=ek
     have ne:ct.getD 0 0 ≠ x:=fun z=>by
      rw [List.getD_eq_getElem?_getD,List.getElem?_eq_getElem hct,<- ek] at z
      have:=(List.getElem_inj nd'.2).mp (show ct[0]=ct[k+1] from z)
      omega
     rw [if_neg ne]
     have hi1:ct.length - 1 - (k+1)<ct.reverse.length:=by rw [List.length_reverse];omega
     have:=hs (ct.length - 1 - k) (ct.getD k 0) (by rw [List.getElem?_reverse (by omega),List.getD_eq_getElem?_getD,show ct.length - 1 - (ct.length - 1 - k)=k by omega,List.getElem?_eq_getElem (by omega)];rfl)
     rw [show (c0 :: ct.reverse).getD (ct.length - 1 - k) 0=x by
      rw [show ct.length - 1 - k=(ct.length - 1 - (k+1))+1 by omega,List.getD_eq_getElem?_getD,List.getElem?_cons_succ,List.getElem?_reverse (by omega),show ct.length - 1 - (ct.length - 1 - (k+1))=k+1 by omega,List.getElem?_eq_getElem hk']
      exact ek] at this
     rw [this]
     have s2':=s2 (k+2) (by omega) (by simp;omega)
     rw [gd (k+2) hk,show (c0 :: ct)[k+2]=x from ek] at s2'
     rw [s2',show k+2 - 1=k+1 by omega,gd (k+1) (by simp;omega),List.getD_eq_getElem?_getD,List.getElem?_eq_getElem (by omega)]
     rfl
   ·rw [s4 x hm]
    have hm2:x ∉ c0 :: ct.reverse:=fun z=>hm (by simpa using z)
    have ne:ct.getD 0 0 ≠ x:=fun z=>hm (by rw [<- z,List.getD_eq_getElem?_getD,List.getElem?_eq_getElem hct];simp)
    rw [if_neg ne,ho x hm2,List.getElem?_set,if_neg (fun z=>hm (by simp [z])),List.getElem?_map,qT hx,List.getElem?_eq_getElem hx]
    rfl
  ·have ne:ct.getD 0 0 ≠ x:=fun z=>by omega
   rw [if_neg ne,List.getElem?_eq_none (by omega),List.getElem?_eq_none (by omega)]
   rfl
 refine .cons (.take (hat c0 (by simp))) (Dos.append d (.cons (.lay hl') ?_))
 show Dos [] (row'.set (ct.reverse.getLastD c0) (some (c0:Int)),none,yw (c0 :: ct) mv) _
 rw [last,e]
 exact .nil
noncomputable def jY (os:List Int)(i:Nat)(mv:List Int):List Int:=(zi os i).foldl (fun m r=>yw (r.map Int.toNat) m) mv
noncomputable def jW (os:List Int)(i:Nat):List Dd:=((zi os i).map fun r=>xK (r.map Int.toNat)).flatten
open Classical in
theorem wm {n:Nat}{os:List Int}(h:zm n os)(mv:List Int):∀ i,i<=n->Dos (jW os i) ((zK 0 1 n).map some,none,mv) ((swR (zK 0 1 n) (zZ os i)).map some,none,jY os i mv)
 | 0,_=>.nil
 | i+1,hi=>by
  have d1:=wm h mv i (by omega)
  obtain ⟨l,ih1,ih2⟩:=jV h i (by omega)
  obtain ⟨M,hM,hMn⟩:=qz h (p:=(i:Int)) (by omega) (by omega)
  have hst:zZ os (i+1)=zZ os i ++ (((if jw os i/\1<per os (i:Int) then [zp os (i:Int)] else []).map fun r=>zy (r.map Int.toNat)).flatten):=by
   unfold zZ
   show ((zi os i ++ _).map _).flatten=_
   rw [List.map_append,List.flatten_append]
  have hrp:jW os (i+1)=jW os i ++ (((if jw os i/\1<per os (i:Int) then [zp os (i:Int)] else []).map fun r=>xK (r.map Int.toNat)).flatten):=by
   unfold jW
   show ((zi os i ++ _).map _).flatten=_
   rw [List.map_append,List.flatten_append]
  have hrm:jY os (i+1) mv=(if jw os i/\1<per os (i:Int) then [zp os (i:Int)] else []).foldl (fun m r=>yw (r.map Int.toNat) m) (jY os i mv):=by
   unfold jY
   show (zi os i ++ _).foldl _ _=_
   rw [List.foldl_append]
  rw [hst,hrp,hrm,yR]
  by_cases hL:jw os i/\1<per os (i:Int)
  ·rw [if_pos hL]
   have hns:=qK.mp hL.1
   have hM2:1<M:=by rw [<- hM.per];exact hL.2
   have e1:([zp os (i:Int)].map fun r=>zy (r.map Int.toNat)).flatten=zy ((itl os (i:Int) M).map Int.toNat):=by
    unfold zp
    rw [hM.per]
    simp
   have e2:([zp os (i:Int)].map fun r=>xK (r.map Int.toNat)).flatten=xK ((itl os (i:Int) M).map Int.toNat):=by
    unfold zp
    rw [hM.per]
    simp
   have e3:[zp os (i:Int)].foldl (fun m r=>yw (r.map Int.toNat) m) (jY os i mv)=yw ((itl os (i:Int) M).map Int.toNat) (jY os i mv):=by
    unfold zp
    rw [hM.per]
    rfl
   rw [e1,e2,e3]
   have hcl:((itl os (i:Int) M).map Int.toNat).length=M:=by rw [List.length_map,qa]
   have bd:∀ k,0<=itn os k (i:Int)/\itn os k (i:Int)<n:=fun k=>zX h (by omega) (by omega) k
   have hnd:((itl os (i:Int) M).map Int.toNat).Nodup:=by
    rw [List.nodup_iff_pairwise_ne,List.pairwise_map]
    refine List.Pairwise.imp_of_mem (fun {a b} ha hb hab e=>?_) (List.nodup_iff_pairwise_ne.mp (jc h (p:=(i:Int)) (by omega) (by omega) hM))
    obtain ⟨k1,_,e1⟩:=zL.mp ha
    obtain ⟨k2,_,e2⟩:=zL.mp hb
    have b1:=bd k1
    have b2:=bd k2
    exact hab (by omega)
   have hfree:∀ x ∈ (itl os (i:Int) M).map Int.toNat,x<n/\(swR (zK 0 1 n) (zZ os i)).getD x 0=(x:Int):=fun x hx=>by
    obtain ⟨y,hy,e⟩:=List.mem_map.mp hx
    obtain ⟨k,hk,ek⟩:=zL.mp hy
    have:=bd k
    have hxn:x<n:=by omega
    exact ⟨hxn,ih2 x hxn (zF.apart h (by omega) hns ⟨k,by omega⟩)⟩
   have d2:=Y4 (R:=swR (zK 0 1 n) (zZ os i)) (mv:=jY os i mv) hnd (by omega) (fun x hx=>by rw [l];exact (hfree x hx).1) (fun x hx=>(hfree x hx).2)
   exact d1.append d2
  ·rw [if_neg hL]
   exact d1.append .nil
section
variable {X:Cx}{K:PySem.W.Frag}
end
section
variable {X:Cx}
end
section
variable {X:Cx}
end
section
variable {X:Cx}{e st:Expr}{te:TE}{ts:TO}{p2 pos:Pos}
end
section
variable {X:Cx}
end
noncomputable def AtM (K:PySem.W.Frag)(C:Addr)(m qual:Str)(st:Stmt):Prop:=∃ f fd,Fun K m qual st f fd/\Bt K C m f
noncomputable def Dm (P:Program)(w:World)(K:PySem.W.Frag)(mg:Str->Option Value)(base:Heap)(C:Addr)(m:Str)(ps:List Str)(k:Nat)(sp:Sp):Prop:=
 ∃ f fd,jE P w K mg base CX0 k f fd ps sp/\xU K fd ps []/\Bt K C m f
section
variable {X:Cx}{k:Nat}{C:Addr}{m x:Str}{ps:List Str}{sp:Sp}{p pos apos:Pos}{o e:Expr}{es:List Expr}{t:TA}{to:TE}
end
structure KD (K:PySem.W.Frag)(w:World)(a:Addr)(kvs:List (Key × V)):Prop where
 ex:∃ es ep,K.lookup a=some ⟨.type "dict",none,.dict es ep,#[]⟩/\∀ P:Program,PySem.KeysOf (xa P w) es/\∃ vs,KV kvs vs/\Pairs (xa P w) es.toList vs/\(vs.map (·.1)).Nodup
 ns:(a == sysModules)=false
section
variable {X:Cx}{e:Expr}{ty:TE}{p apos cpos:Pos}{x:Str}{a:Addr}{kvs:List (Key × V)}
end
section
variable {X:Cx}
end
theorem Da {K:PySem.W.Frag}{C f:Addr}{m qual:Str}{st:Stmt}{oc kV dc pm cd ct:Value}{od an:Option Addr}{sl:Array (Option Value)}(a1:PySem.W.findIn K (.ref C) m=some (some (.ref f)))(i1:PySem.W.isFn K (.ref f)=true)
  (l1:K.lookup f=some ⟨oc,od,.func (PySem.W.fnOf m qual (qP st) (qj st) (zn st) .none kV dc pm an cd ct),sl⟩) (c1:PySem.W.codeIn K cd qual=true) (k1:PySem.W.keepIn K (.ref f)=true):AtM K C m qual st:=⟨f,_,JL l1 c1 k1,⟨a1,i1,k1⟩⟩
section
variable {X:Cx}
end
structure ScG (X:Cx)(ts:List Nat)(scope:Scope):Prop where
 kind:scope.kind=.function
 cell:∀ y ∈ scope.names,y.2=.cell->scope.names.lookup y.1=some .cell
 loc:∀ y ∈ scope.names,y.2=.local->scope.names.lookup y.1=some .local
 free:∀ y ∈ scope.names,y.2=.free->X.env.kindOf y.1=some .cell \/ X.env.kindOf y.1=some .free
 ts:∀ (i:Nat) x,X.N[i]?=some x->scope.names.lookup x=some .local \/ scope.names.lookup x=some .cell->i ∈ ts
section
variable {X:Cx}{ts:List Nat}{scope:Scope}{pins:List (Addr × Obj)}{σ:St}{H:Hp}{s:Shared}{fp:List Addr}
end
section
variable {X:Cx}{ts:List Nat}{scope:Scope}{tg iter elt:Expr}{ifs:List Expr}{wi:TI}{g:TG}{tt:TT}{te:TE}{pos:Pos}
end
section
variable {X:Cx}
end
inductive Dat where
 | non | bl (b:Bool) | int (i:Int) | str (x:Str) | ty (n:String) | lst (l:List Dat) | tup (l:List Dat) | rng (lo hi c:Int) | scr (K:PySem.W.Frag) (l:List Int)
inductive AV where
 | d (x:Dat) | ref (a:Addr)
  | tp (l:List (Dat ⊕ Addr))
noncomputable def tiA:Dat ⊕ Addr->AV
 | .inl d=>.d d
 | .inr a=>.ref a
noncomputable def AV.Has (r:Addr):AV->Prop
 | .d _=>False
 | .ref a=>a=r
 | .tp l=>Sum.inr r ∈ l
noncomputable abbrev NK:=List (Option Int) × Option Int
noncomputable def wo:Int:=0xFCA86420
noncomputable def JZ:Option Int->Int
 | none=>wo
 | some i=>hashInt i
noncomputable def By (k:NK):Int:=reduceHash (Builtin.Tuple.tupleHashOf [reduceHash (Builtin.Tuple.tupleHashOf (k.1.map JZ)),JZ k.2])
noncomputable def cN:Option Int->V
 | none=>.non
 | some i=>.int i
noncomputable abbrev PN:List (NK × Addr × V)->List (NK × Addr × Value)->Prop:=Paired fun p q=>p.1=q.1/\p.2.1=q.2.1/\zr p.2.2 q.2.2
noncomputable def DN (a:Addr)(xs:List (NK × Addr × V)):HO:=.ext fun h=>xs.length<=sizeLine/\(a == sysModules)=false/\∃ ys:List (NK × Addr × Value),PN xs ys /\
 ∃ o es ep,h.get? a=some o/\o.ExactDict/\o.data=.dict es ep/\es.toList=ys.map (fun y=>(⟨By y.1,.ref y.2.1,y.2.2⟩:DictEntry))/\(ys.map (·.1)).Nodup
noncomputable def jx (H:Hp)(O:Addr->Prop)(b:Addr)(k:NK):Prop:=¬ O b/\∃ c,¬ O c/\H b=some (.tup [.ref c,cN k.2])/\H c=some (.tup (k.1.map cN))
inductive MO where
 | lst (l:List AV) | dK (kvs:List (Key × AV)) | ins (C:Addr) (fs:List (Str × AV)) | exc (C:Addr) (fs:List (Str × V)) | tb (R:Array Value->Addr->Obj->Prop) | dT (kvs:List (List Key × AV)) | dN (kvs:List (NK × AV))
noncomputable def B8 (a C:Addr)(d:Option Addr):HO:=.ext fun h=>∃ o,h.get? a=some o/\o.cls=.ref C/\o.dict=d/\∃ vs,o.data=.fields vs
noncomputable abbrev MH:=Addr->Option MO
noncomputable abbrev ASt:=List (Option AV)
noncomputable def mup (M:MH)(a:Addr)(o:MO):MH:=fun b=>if b=a then some o else M b
theorem ze {M:MH}{a:Addr}{o:MO}:mup M a o a=some o:=if_pos rfl
theorem zo {M:MH}{a b:Addr}{o:MO}(h:b ≠ a):mup M a o b=M b:=if_neg h
theorem ZT {M:MH}{a:Addr}{o u:MO}:mup (mup M a o) a u=mup M a u:=by
 funext b;unfold mup;split <;> rfl
noncomputable abbrev Own:=Addr->Prop
inductive Rep (H:Hp) (O:Own):V->Dat->Prop
 | non:Rep H O .non .non
 | bl {b:Bool}:Rep H O (.bl b) (.bl b)
 | int {i:Int}:Rep H O (.int i) (.int i)
 | str {x:Str}:Rep H O (.str x) (.str x)
 | ty {n:String}:Rep H O (.ty n) (.ty n)
 | lst {a:Addr} {xs:List V} {l:List Dat}:¬ O a->H a=some (.lst xs)->xs.length=l.length->(∀ (i:Nat) x d,xs[i]?=some x->l[i]?=some d->Rep H O x d)->Rep H O (.ref a) (.lst l)
 | tup {a:Addr} {xs:List V} {l:List Dat}:¬ O a->H a=some (.tup xs)->xs.length=l.length->(∀ (i:Nat) x d,xs[i]?=some x->l[i]?=some d->Rep H O x d)->Rep H O (.ref a) (.tup l)
 | rng {a:Addr} {lo hi c:Int}:¬ O a->H a=some (wO a lo hi c)->Rep H O (.ref a) (.rng lo hi c)
 | scr {a:Addr} {K:PySem.W.Frag} {l:List Int}:¬ O a->Rd H a (.lst (l.map V.int))->Rep H O (.ref a) (.scr K l)
 | scrK {a:Addr} {K:PySem.W.Frag} {l:List Int}:SqL K (fun _=>none) a (l.map V.int)->Rep H O (.ref a) (.scr K l)
noncomputable def Jn (H:Hp)(O:Own)(xs:List V)(l:List Dat):Prop:=xs.length=l.length/\∀ (i:Nat) x d,xs[i]?=some x->l[i]?=some d->Rep H O x d
noncomputable def BS (H:Hp)(O:Own)(M:MH)(v:V):Dat ⊕ Addr->Prop
 | .inl d=>Rep H O v d
 | .inr a=>v=.ref a/\M a ≠ none
noncomputable def XG (H:Hp)(O:Own)(M:MH)(xs:List V)(l:List (Dat ⊕ Addr)):Prop:=xs.length=l.length/\∀ (i:Nat) x d,xs[i]?=some x->l[i]?=some d->BS H O M x d
noncomputable def zj (H:Hp)(O:Own)(M:MH)(v:V):AV->Prop
 | .d x=>Rep H O v x
 | .ref a=>v=.ref a/\M a ≠ none
 | .tp l=>∃ a xs,v=.ref a/\¬ O a/\H a=some (.tup xs)/\XG H O M xs l
theorem zj.has {H:Hp}{O:Own}{M:MH}{v:V}{x:AV}{r:Addr}(h:zj H O M v x)(k:x.Has r):M r ≠ none:=by
 cases x with
 | d x=>exact k.elim
 | ref a=>cases k;exact h.2
 | tp l=>
  obtain ⟨a,xs,_,_,_,h⟩:=h
  obtain ⟨i,hi⟩:=List.getElem?_of_mem k
  obtain ⟨y,hy⟩:∃ y,xs[i]?=some y:=⟨_,List.getElem?_eq_getElem (by rw [h.1];exact (List.getElem?_eq_some_iff.mp hi).1)⟩
  exact (h.2 i y _ hy hi).2
noncomputable def zc (H:Hp)(O:Own)(M:MH)(xs:List V)(l:List AV):Prop:=xs.length=l.length/\∀ (i:Nat) x d,xs[i]?=some x->l[i]?=some d->zj H O M x d
noncomputable def qQ {κ:Type}(H:Hp)(O:Own)(M:MH)(xs:List (κ × V))(l:List (κ × AV)):Prop:=xs.map (·.1)=l.map (·.1)/\zc H O M (xs.map (·.2)) (l.map (·.2))
noncomputable def ql (H:Hp)(O:Own)(M:MH)(a:Addr):MO->Prop
 | .lst l=>∃ xs,H a=some (.lst xs)/\zc H O M xs l
 | .dK kvs=>∃ xs,H a=some (.dK xs)/\qQ H O M xs kvs
 | .dT kvs=>∃ xs,H a=some (.dT xs)/\qQ H O M xs kvs
 | .dN kvs=>∃ xs,H a=some (DN a xs)/\qQ H O M (xs.map fun x=>(x.1,x.2.2)) kvs/\∀ x ∈ xs,jx H O x.2.1 x.1
 | .ins C fs=>∃ dx xs,H a=some (.ins C dx xs)/\qQ H O M xs fs/\O dx/\M dx=none/\H dx=some (.own a)
 | .exc C fs=>∃ d,H a=some (B8 a C d)/\(d=none/\fs=[] \/ ∃ dx,d=some dx/\H dx=some (.xd fs)/\O dx/\M dx=none)
 | .tb R=>∃ ps,H a=some (.tbl ps)/\(ps=#[] \/ ∃ c oc u,R ps c oc/\¬ O c/\H c=some (.frz oc u))
structure Wf (H:Hp)(O:Own)(M:MH):Prop where
 mo:∀ a o,M a=some o->ql H O M a o
 own:∀ a,M a ≠ none->O a
 al:∀ a,O a->∃ o,H a=some o/\∀ xs,o ≠ .tup xs
theorem Wf.ne {H:Hp}{O:Own}{M:MH}(w:Wf H O M)(a:Addr)(h:O a):H a ≠ none:=by obtain ⟨o,e,_⟩:=w.al a h;rw [e];exact fun z=>nomatch z
structure Ext (H:Hp)(O:Own)(M:MH)(H':Hp)(O':Own)(M':MH):Prop where
 fix:∀ a o,¬ O a->H a=some o->H' a=some o/\¬ O' a
 prv:∀ a,O a->M a=none->H' a=H a/\O' a/\M' a=none
 mst:∀ a,M a ≠ none->M' a ≠ none
theorem Ext.refl {H:Hp}{O:Own}{M:MH}:Ext H O M H O M:=⟨fun _ _ h e=>⟨e,h⟩,fun _ h e=>⟨rfl,h,e⟩,fun _ h=>h⟩
theorem Ext.trans {H H1 H2:Hp}{O O1 O2:Own}{M M1 M2:MH}(a:Ext H O M H1 O1 M1)(b:Ext H1 O1 M1 H2 O2 M2):Ext H O M H2 O2 M2:=
 ⟨fun x o h e=>let ⟨e1,h1⟩:=a.fix x o h e;b.fix x o h1 e1,fun x h e=>by
  obtain ⟨e1,h1,n1⟩:=a.prv x h e
  obtain ⟨e2,h2,n2⟩:=b.prv x h1 n1
  exact ⟨e2.trans e1,h2,n2⟩,fun x h=>b.mst x (a.mst x h)⟩
theorem Rep.imp {H H':Hp}{O O':Own}(k:∀ a o,¬ O a->H a=some o->H' a=some o/\¬ O' a){v:V}{d:Dat}(r:Rep H O v d):Rep H' O' v d:=by
 induction r with
 | non=>exact .non
 | bl=>exact .bl
 | int=>exact .int
 | str=>exact .str
 | ty=>exact .ty
 | lst h e l _ ih=>exact .lst (k _ _ h e).2 (k _ _ h e).1 l ih
 | tup h e l _ ih=>exact .tup (k _ _ h e).2 (k _ _ h e).1 l ih
 | rng h e=>exact .rng (k _ _ h e).2 (k _ _ h e).1
 | scr h e=>
  rcases e with e | ⟨o,e⟩
  ·exact .scr (k _ _ h e).2 (.inl (k _ _ h e).1)
  ·exact .scr (k _ _ h e).2 (.inr ⟨o,(k _ _ h e).1⟩)
 | scrK h=>exact .scrK h
theorem Yx {H:Hp}{O:Own}{K:PySem.W.Frag}{v:V}{l:List Int}(r:Rep H O v (.scr K l)):∃ a,v=.ref a/\SqL K H a (l.map V.int):=by
 cases r with
 | @scr a _ _ _ h=>exact ⟨a,rfl,.inl h⟩
 | @scrK a _ _ h=>
  rcases h with (h | ⟨o,h⟩) | h
  ·cases h
  ·cases h
  ·exact ⟨a,rfl,.inr h⟩
theorem X4 {H:Hp}{O:Own}{K:PySem.W.Frag}{a:Addr}{l:List Int}(ho:∀ a,¬ O a)(h:SqL K H a (l.map V.int)):Rep H O (.ref a) (.scr K l):=by
 rcases h with h | h
 ·exact .scr (ho a) h
 ·exact .scrK (.inr h)
theorem jx.imp {H H':Hp}{O O':Addr->Prop}(k:∀ a o,¬ O a->H a=some o->H' a=some o/\¬ O' a){b:Addr}{x:NK}(r:jx H O b x):jx H' O' b x:=by
 obtain ⟨h1,c,h2,e1,e2⟩:=r
 exact ⟨(k _ _ h1 e1).2,c,(k _ _ h2 e2).2,(k _ _ h1 e1).1,(k _ _ h2 e2).1⟩
theorem Rep.ext {H H':Hp}{O O':Own}{M M':MH}(k:Ext H O M H' O' M'){v:V}{d:Dat}(r:Rep H O v d):Rep H' O' v d:=r.imp k.fix
theorem zj.impT {H H':Hp}{O O':Own}{M M':MH}(k:∀ a o,¬ O a->H a=some o->H' a=some o/\¬ O' a){l:List (Dat ⊕ Addr)}(hm:∀ a,M a ≠ none->M' a ≠ none){v:V}(r:zj H O M v (.tp l)):zj H' O' M' v (.tp l):=by
 obtain ⟨a,xs,h1,h2,h3,h4,h5⟩:=r
 refine ⟨a,xs,h1,(k _ _ h2 h3).2,(k _ _ h2 h3).1,h4,fun i x d e1 e2=>?_⟩
 have:=h5 i x d e1 e2
 cases d with
 | inl d=>exact Rep.imp k this
 | inr q=>exact ⟨this.1,hm q this.2⟩
theorem zj.ext {H H':Hp}{O O':Own}{M M':MH}(k:Ext H O M H' O' M'){v:V}{x:AV}(r:zj H O M v x):zj H' O' M' v x:=by
 cases x with
 | d x=>exact Rep.ext k r
 | ref a=>exact ⟨r.1,k.mst a r.2⟩
 | tp l=>exact r.impT k.fix k.mst
theorem zc.ext {H H':Hp}{O O':Own}{M M':MH}(k:Ext H O M H' O' M'){xs:List V}{l:List AV}(r:zc H O M xs l):zc H' O' M' xs l:=⟨r.1,fun i x d e1 e2=>(r.2 i x d e1 e2).ext k⟩
theorem qQ.ext {κ:Type}{H H':Hp}{O O':Own}{M M':MH}(k:Ext H O M H' O' M'){xs:List (κ × V)}{l:List (κ × AV)}(r:qQ H O M xs l):qQ H' O' M' xs l:=⟨r.1,r.2.ext k⟩
theorem zc.nil {H:Hp}{O:Own}{M:MH}:zc H O M [] []:=⟨rfl,fun i x d e=>by simp at e⟩
theorem zc.cons {H:Hp}{O:Own}{M:MH}{x:V}{d:AV}{xs:List V}{l:List AV}(h:zj H O M x d)(r:zc H O M xs l):zc H O M (x :: xs) (d :: l):=
 ⟨by simp [r.1],fun i y e h1 h2=>by
  cases i with
  | zero=>simp at h1 h2;subst h1 h2;exact h
  | succ i=>simp at h1 h2;exact r.2 i y e h1 h2⟩
theorem zc.head {H:Hp}{O:Own}{M:MH}{x:V}{d:AV}{xs:List V}{l:List AV}(r:zc H O M (x :: xs) (d :: l)):zj H O M x d/\zc H O M xs l:=
 ⟨r.2 0 x d rfl rfl,by have:=r.1;simpa using this,fun i y e h1 h2=>r.2 (i+1) y e (by simpa using h1) (by simpa using h2)⟩
theorem zc.nil_inv {H:Hp}{O:Own}{M:MH}{xs:List V}(r:zc H O M xs []):xs=[]:=List.length_eq_zero_iff.mp r.1
theorem zc.cons_inv {H:Hp}{O:Own}{M:MH}{xs:List V}{d:AV}{l:List AV}(r:zc H O M xs (d :: l)):∃ x r',xs=x :: r'/\zj H O M x d/\zc H O M r' l:=by
 cases xs with
 | nil=>have:=r.1;simp at this
 | cons x r'=>exact ⟨x,r',rfl,r.head⟩
theorem zc.append {H:Hp}{O:Own}{M:MH}{xs ys:List V}{l m:List AV}(a:zc H O M xs l)(b:zc H O M ys m):zc H O M (xs ++ ys) (l ++ m):=
 ⟨by rw [List.length_append,List.length_append,a.1,b.1],fun i x d h1 h2=>by
  by_cases c:i<xs.length
  ·rw [List.getElem?_append_left c] at h1
   rw [List.getElem?_append_left (by rw [<- a.1];exact c)] at h2
   exact a.2 i x d h1 h2
  ·rw [List.getElem?_append_right (by omega)] at h1
   rw [List.getElem?_append_right (by rw [<- a.1];omega),<- a.1] at h2
   exact b.2 _ x d h1 h2⟩
theorem zc.snoc {H:Hp}{O:Own}{M:MH}{xs:List V}{l:List AV}{x:V}{d:AV}(a:zc H O M xs l)(b:zj H O M x d):zc H O M (xs ++ [x]) (l ++ [d]):=a.append (.cons b .nil)
theorem zc.set {H:Hp}{O:Own}{M:MH}{xs:List V}{l:List AV}{x:V}{d:AV}(a:zc H O M xs l)(b:zj H O M x d)(j:Nat):zc H O M (xs.set j x) (l.set j d):=
 ⟨by rw [List.length_set,List.length_set,a.1],fun i y e h1 h2=>by
  rw [List.getElem?_set] at h1 h2
  by_cases c:j=i
  ·rw [if_pos c] at h1 h2
   split at h1
   ·split at h2
    ·cases h1;cases h2;exact b
    ·cases h2
   ·cases h1
  ·rw [if_neg c] at h1 h2
   exact a.2 i y e h1 h2⟩
theorem zc.get {H:Hp}{O:Own}{M:MH}{xs:List V}{l:List AV}(a:zc H O M xs l){i:Nat}{d:AV}(h:l[i]?=some d):∃ x,xs[i]?=some x/\zj H O M x d:=by
 have hi:=(List.getElem?_eq_some_iff.mp h).1
 have hx:i<xs.length:=by rw [a.1];exact hi
 exact ⟨xs[i],by simp [hx],a.2 i _ _ (by simp [hx]) h⟩
theorem zc.drop {H:Hp}{O:Own}{M:MH}{xs:List V}{l:List AV}(a:zc H O M xs l)(k:Nat):zc H O M (xs.drop k) (l.drop k):=
 ⟨by rw [List.length_drop,List.length_drop,a.1],fun i x d h1 h2=>by rw [List.getElem?_drop] at h1 h2;exact a.2 _ x d h1 h2⟩
theorem zc.take {H:Hp}{O:Own}{M:MH}{xs:List V}{l:List AV}(a:zc H O M xs l)(k:Nat):zc H O M (xs.take k) (l.take k):=
 ⟨by rw [List.length_take,List.length_take,a.1],fun i x d h1 h2=>by
  rw [List.getElem?_take] at h1 h2
  by_cases c:i<k
  ·rw [if_pos c] at h1 h2
   exact a.2 _ x d h1 h2
  ·rw [if_neg c] at h1
   cases h1⟩
theorem Jn.av {H:Hp}{O:Own}{M:MH}{xs:List V}{l:List Dat}(r:Jn H O xs l):zc H O M xs (l.map .d):=
 ⟨by rw [List.length_map];exact r.1,fun i x d h1 h2=>by
  rw [List.getElem?_map] at h2
  cases e:l[i]? with
  | none=>rw [e] at h2;cases h2
  | some y=>rw [e] at h2;cases h2;exact r.2 i x y h1 e⟩
theorem zc.pure {H:Hp}{O:Own}{M:MH}{xs:List V}{l:List Dat}(r:zc H O M xs (l.map .d)):Jn H O xs l:=
 ⟨by have:=r.1;rwa [List.length_map] at this,fun i x d h1 h2=>r.2 i x (.d d) h1 (by rw [List.getElem?_map,h2];rfl)⟩
theorem Wf.fresh {H:Hp}{O:Own}{M:MH}(w:Wf H O M){p:Addr}(h:H p=none):¬ O p/\M p=none:=by
 have:¬ O p:=fun z=>w.ne p z h
 exact ⟨this,by
  cases e:M p with
  | none=>rfl
  | some o=>exact absurd (w.own p (by rw [e];exact fun z=>nomatch z)) this⟩
theorem ql.ext {H H':Hp}{O O':Own}{M M':MH}(k:Ext H O M H' O' M'){a:Addr}{o:MO}(e:H' a=H a)(r:ql H O M a o):ql H' O' M' a o:=by
 cases o with
 | lst l=>obtain ⟨xs,h,r⟩:=r;exact ⟨xs,e.trans h,r.ext k⟩
 | dK l=>obtain ⟨xs,h,r⟩:=r;exact ⟨xs,e.trans h,r.ext k⟩
 | dT l=>obtain ⟨xs,h,r⟩:=r;exact ⟨xs,e.trans h,r.ext k⟩
 | dN l=>obtain ⟨xs,h,r,p⟩:=r;exact ⟨xs,e.trans h,r.ext k,fun x hx=>(p x hx).imp k.fix⟩
 | ins C fs=>obtain ⟨dx,xs,h,r,q1,q2,q3⟩:=r;obtain ⟨x1,x2,x3⟩:=k.prv dx q1 q2;exact ⟨dx,xs,e.trans h,r.ext k,x2,x3,x1.trans q3⟩
 | exc C fs=>
  obtain ⟨d,h,r⟩:=r
  refine ⟨d,e.trans h,?_⟩
  rcases r with r | ⟨dx,e1,h1,h2,h3⟩
  ·exact .inl r
  ·obtain ⟨x1,x2,x3⟩:=k.prv dx h2 h3;exact .inr ⟨dx,e1,x1.trans h1,x2,x3⟩
 | tb R=>obtain ⟨ps,h,r⟩:=r;exact ⟨ps,e.trans h,r.imp id fun ⟨c,oc,u,h1,h2,h3⟩=>⟨c,oc,u,h1,(k.fix c _ h2 h3).2,(k.fix c _ h2 h3).1⟩⟩
theorem qi {H:Hp}{O:Own}{M:MH}(w:Wf H O M){p:Addr}(h:H p=none)(o:HO):Ext H O M (upd H p o) O M:=
 ⟨fun a u ha e=>⟨by rw [zf (zg e h)];exact e,ha⟩,fun a ha e=>⟨zf (fun z=>w.ne a ha (by rw [z];exact h)),ha,e⟩,fun _ h=>h⟩
theorem kF {H:Hp}{O:Own}{M:MH}(w:Wf H O M){p:Addr}(h:H p=none)(o:HO):Wf (upd H p o) O M:=
 ⟨fun a mo e=>ql.ext (qi w h o) (zf (fun z=>by rw [z,(w.fresh h).2] at e;cases e)) (w.mo a mo e),w.own,fun a ha=>by
  have:a ≠ p:=fun z=>w.ne a ha (by rw [z];exact h)
  rw [zf this];exact w.al a ha⟩
noncomputable def yh (O:Own)(p:Addr):Own:=fun a=>a=p \/ O a
noncomputable def Yh (O:Own)(p:Addr):Own:=fun a=>a ≠ p/\O a
theorem ZQ {H:Hp}{O:Own}{M:MH}(w:Wf H O M){p:Addr}(h:H p=none)(o:HO)(mo:MO):Ext H O M (upd H p o) (yh O p) (mup M p mo):=
 ⟨fun a u ha e=>⟨by rw [zf (zg e h)];exact e,fun z=>z.elim (zg e h) ha⟩,fun a ha e=>by
  have hne:a ≠ p:=fun z=>w.ne a ha (by rw [z];exact h)
  exact ⟨zf hne,.inr ha,by rw [zo hne];exact e⟩,fun a ha=>by
  by_cases e:a=p
  ·rw [e,ze];exact fun z=>nomatch z
  ·rw [zo e];exact ha⟩
theorem W4 {H:Hp}{O:Own}{M:MH}(w:Wf H O M){p:Addr}(h:H p=none){o:HO}{mo:MO}(ho:∀ xs,o ≠ .tup xs)(r:ql (upd H p o) (yh O p) (mup M p mo) p mo):Wf (upd H p o) (yh O p) (mup M p mo):=by
 refine ⟨fun a u e=>?_,fun a ha=>?_,fun a ha=>?_⟩
 ·by_cases c:a=p
  ·subst c;rw [ze] at e;cases e;exact r
  ·rw [zo c] at e
   exact ql.ext (ZQ w h o mo) (zf c) (w.mo a u e)
 ·by_cases c:a=p
  ·exact .inl c
  ·rw [zo c] at ha;exact .inr (w.own a ha)
 ·by_cases c:a=p
  ·rw [c,zh];exact ⟨o,rfl,ho⟩
  ·rw [zf c];exact w.al a (ha.resolve_left c)
theorem qR {H:Hp}{O:Own}{M:MH}(w:Wf H O M){p:Addr}(h:M p ≠ none)(o:HO)(mo:MO):Ext H O M (upd H p o) O (mup M p mo):=
 ⟨fun a u ha e=>⟨by rw [zf (fun z=>ha (by rw [z];exact w.own p h))];exact e,ha⟩,fun a ha e=>by
  have hne:a ≠ p:=fun z=>h (by rw [<- z];exact e)
  exact ⟨zf hne,ha,by rw [zo hne];exact e⟩,fun a ha=>by
  by_cases e:a=p
  ·rw [e,ze];exact fun z=>nomatch z
  ·rw [zo e];exact ha⟩
theorem Zu {H:Hp}{O:Own}{M:MH}(w:Wf H O M){p:Addr}(h:M p ≠ none){o:HO}{mo:MO}(ho:∀ xs,o ≠ .tup xs)(r:ql (upd H p o) O (mup M p mo) p mo):Wf (upd H p o) O (mup M p mo):=by
 refine ⟨fun a u e=>?_,fun a ha=>?_,fun a ha=>?_⟩
 ·by_cases c:a=p
  ·subst c;rw [ze] at e;cases e;exact r
  ·rw [zo c] at e
   exact ql.ext (qR w h o mo) (zf c) (w.mo a u e)
 ·by_cases c:a=p
  ·subst c;exact w.own a h
  ·rw [zo c] at ha;exact w.own a ha
 ·by_cases c:a=p
  ·rw [c,zh];exact ⟨o,rfl,ho⟩
  ·rw [zf c];exact w.al a ha
theorem qv {H:Hp}{O:Own}{M:MH}(w:Wf H O M){p:Addr}(h:H p=none)(o:HO):Ext H O M (upd H p o) (yh O p) M:=
 ⟨fun a u ha e=>⟨by rw [zf (zg e h)];exact e,fun z=>z.elim (zg e h) ha⟩,fun a ha e=>by
  have hne:a ≠ p:=fun z=>w.ne a ha (by rw [z];exact h)
  exact ⟨zf hne,.inr ha,e⟩,fun _ h=>h⟩
theorem xF {H:Hp}{O:Own}{M:MH}(w:Wf H O M){p:Addr}(h:H p=none)(o:HO)(ho:∀ xs,o ≠ .tup xs):Wf (upd H p o) (yh O p) M:=
 ⟨fun a mo e=>ql.ext (qv w h o) (zf (fun z=>by rw [z,(w.fresh h).2] at e;cases e)) (w.mo a mo e),fun a ha=>.inr (w.own a ha),fun a ha=>by
  by_cases c:a=p
  ·rw [c,zh];exact ⟨o,rfl,ho⟩
  ·rw [zf c];exact w.al a (ha.resolve_left c)⟩
theorem xg {H:Hp}{O:Own}{p:Addr}(hO:O p)(o:HO):∀ a u,¬ O a->H a=some u->upd H p o a=some u/\¬ O a:=fun a u ha e=>⟨by rw [zf (fun z=>ha (by rw [z];exact hO))];exact e,ha⟩
theorem zj.imp {H H':Hp}{O O':Own}{M M':MH}(k:∀ a o,¬ O a->H a=some o->H' a=some o/\¬ O' a)(hm:∀ a,M a ≠ none->M' a ≠ none){v:V}{x:AV}(r:zj H O M v x):zj H' O' M' v x:=by
 cases x with
 | d x=>exact Rep.imp k r
 | ref a=>exact ⟨r.1,hm a r.2⟩
 | tp l=>exact r.impT k hm
theorem zc.imp {H H':Hp}{O O':Own}{M M':MH}(k:∀ a o,¬ O a->H a=some o->H' a=some o/\¬ O' a)(hm:∀ a,M a ≠ none->M' a ≠ none){xs:List V}{l:List AV}(r:zc H O M xs l):zc H' O' M' xs l:=⟨r.1,fun i x d e1 e2=>(r.2 i x d e1 e2).imp k hm⟩
theorem ql.imp {H H':Hp}{O O':Own}{M:MH}(k:∀ a o,¬ O a->H a=some o->H' a=some o/\¬ O' a){a:Addr}{o:MO}(e:H' a=H a)(hd:∀ dx x,O dx->M dx=none->H dx=some x->((∃ b,x=.own b) \/ ∃ fs,x=.xd fs)->H' dx=some x/\O' dx)(r:ql H O M a o):ql H' O' M a o:=by
 cases o with
 | lst l=>obtain ⟨xs,h,r⟩:=r;exact ⟨xs,e.trans h,r.imp k fun _ z=>z⟩
 | dK l=>obtain ⟨xs,h,r⟩:=r;exact ⟨xs,e.trans h,r.1,r.2.imp k fun _ z=>z⟩
 | dT l=>obtain ⟨xs,h,r⟩:=r;exact ⟨xs,e.trans h,r.1,r.2.imp k fun _ z=>z⟩
 | dN l=>obtain ⟨xs,h,r,p⟩:=r;exact ⟨xs,e.trans h,⟨r.1,r.2.imp k fun _ z=>z⟩,fun x hx=>(p x hx).imp k⟩
 | ins C fs=>obtain ⟨dx,xs,h,r,q1,q2,q3⟩:=r;exact ⟨dx,xs,e.trans h,⟨r.1,r.2.imp k fun _ z=>z⟩,(hd dx _ q1 q2 q3 (.inl ⟨_,rfl⟩)).2,q2,(hd dx _ q1 q2 q3 (.inl ⟨_,rfl⟩)).1⟩
 | exc C fs=>
  obtain ⟨d,h,r⟩:=r
  refine ⟨d,e.trans h,?_⟩
  rcases r with r | ⟨dx,e1,h1,h2,h3⟩
  ·exact .inl r
  ·obtain ⟨x1,x2⟩:=hd dx _ h2 h3 h1 (.inr ⟨_,rfl⟩);exact .inr ⟨dx,e1,x1,x2,h3⟩
 | tb R=>obtain ⟨ps,h,r⟩:=r;exact ⟨ps,e.trans h,r.imp id fun ⟨c,oc,u,h1,h2,h3⟩=>⟨c,oc,u,h1,(k c _ h2 h3).2,(k c _ h2 h3).1⟩⟩
theorem wJ {H:Hp}{O:Own}{M:MH}(w:Wf H O M){p:Addr}(hO:O p)(hM:M p=none){xs:List V}(hp:H p=some (.lst xs))(o:HO)(ho:∀ xs,o ≠ .tup xs):Wf (upd H p o) O M:=
 ⟨fun a mo e=>ql.imp (xg hO o) (zf (fun z=>by rw [z,hM] at e;cases e)) (fun dx x h1 _ h3 h4=>⟨by rw [zf (Z5 h3 hp (by rcases h4 with ⟨_,rfl⟩ | ⟨_,rfl⟩ <;> exact fun z=>nomatch z))];exact h3,h1⟩) (w.mo a mo e),w.own,fun a ha=>by
  by_cases c:a=p
  ·rw [c,zh];exact ⟨o,rfl,ho⟩
  ·rw [zf c];exact w.al a ha⟩
theorem kz {H:Hp}{O:Own}(p:Addr):∀ a u,¬ O a->H a=some u->H a=some u/\¬ Yh O p a:=fun a u ha e=>⟨e,fun z=>ha z.2⟩
theorem JW {H:Hp}{O:Own}{M:MH}(w:Wf H O M){p:Addr}(hM:M p=none){xs:List V}(hp:H p=some (.lst xs)):Wf H (Yh O p) M:=
 ⟨fun a mo e=>ql.imp (kz p) rfl (fun dx x h1 _ h3 h4=>⟨h3,⟨Z5 h3 hp (by rcases h4 with ⟨_,rfl⟩ | ⟨_,rfl⟩ <;> exact fun z=>nomatch z),h1⟩⟩) (w.mo a mo e),fun a ha=>⟨fun z=>ha (by rw [z];exact hM),w.own a ha⟩,fun a ha=>w.al a ha.2⟩
noncomputable abbrev AK:=AV->MH->Prop
noncomputable abbrev AE:=ASt->MH->AK->Prop
noncomputable abbrev AT:=ASt->MH->(Bool->MH->Prop)->Prop
noncomputable abbrev AA:=ASt->MH->(List AV->MH->Prop)->Prop
structure kO where
 nx:ASt->MH->Prop
 rt:AK
 bk:ASt->MH->Prop:=fun _ _=>False
 ct:ASt->MH->Prop:=fun _ _=>False
noncomputable abbrev AS:=MH->kO->ASt->MH->Prop
noncomputable abbrev AG:=AV->ASt->MH->(ASt->MH->Prop)->Prop
noncomputable abbrev AGs:=List AV->ASt->MH->(ASt->MH->Prop)->Prop
noncomputable abbrev AI:=ASt->MH->(List AV->(MH->Prop)->MH->Prop)->Prop
structure Er (H:Hp)(O:Own)(M:MH)(σ:St)(ρ:ASt):Prop where
 len:σ.length=ρ.length
 get:∀ (i:Nat) x,ρ[i]?=some (some x)->∃ v,σ[i]?=some (some v)/\zj H O M v x
theorem Er.ext {H H':Hp}{O O':Own}{M M':MH}{σ:St}{ρ:ASt}(e:Er H O M σ ρ)(k:Ext H O M H' O' M'):Er H' O' M' σ ρ:=⟨e.len,fun i x h=>let ⟨v,h1,h2⟩:=e.get i x h;⟨v,h1,h2.ext k⟩⟩
theorem Er.set {H:Hp}{O:Own}{M:MH}{σ:St}{ρ:ASt}(e:Er H O M σ ρ){v:V}{x:AV}(r:zj H O M v x)(j:Nat):Er H O M (σ.set j (some v)) (ρ.set j (some x)):=
 ⟨by rw [List.length_set,List.length_set,e.len],fun i y h=>by
  rw [List.getElem?_set] at h ⊢
  by_cases c:j=i
  ·rw [if_pos c] at h ⊢
   by_cases c2:j<ρ.length
   ·rw [if_pos c2] at h;rw [if_pos (by rw [e.len];exact c2)];cases h;exact ⟨v,rfl,r⟩
   ·rw [if_neg c2] at h;cases h
  ·rw [if_neg c] at h ⊢;exact e.get i y h⟩
noncomputable def YT:List Nat->ASt->ASt
 | [],σ=>σ
 | j :: r,σ=>YT r (σ.set j none)
theorem Er.clr {H:Hp}{O:Own}{M:MH}:∀ (ts:List Nat) {σ:St} {ρ:ASt},Er H O M σ ρ->Er H O M (clr ts σ) (YT ts ρ)
  | [],_,_,e=>e
  | j :: r, σ, ρ, e => Er.clr r ⟨by rw [List.length_set, List.length_set, e.len], fun i y h => by
      rw [List.getElem?_set] at h ⊢
      by_cases c:j=i
      · rw [if_pos c] at h
        split at h <;> cases h
      · rw [if_neg c] at h ⊢;exact e.get i y h⟩
structure zA (t:TE)(a:AE):Prop where
 go:∀ {σ:St} {H:Hp} {O:Own} {ρ:ASt} {M:MH} {Q:VK} {Q':AK},Wf H O M->Er H O M σ ρ->a ρ M Q'->(∀ x M' v H' O',Q' x M'->Ext H O M H' O' M'->Wf H' O' M'->zj H' O' M' v x->Q v H')->t σ H Q
structure kL (t:TT)(a:AT):Prop where
 go:∀ {σ:St} {H:Hp} {O:Own} {ρ:ASt} {M:MH} {Q:Bool->Hp->Prop} {Q':Bool->MH->Prop},Wf H O M->Er H O M σ ρ->a ρ M Q'->(∀ b M' H' O',Q' b M'->Ext H O M H' O' M'->Wf H' O' M'->Q b H')->t σ H Q
structure kS (t:TA)(a:AA):Prop where
 go:∀ {σ:St} {H:Hp} {O:Own} {ρ:ASt} {M:MH} {Q:List V->Hp->Prop} {Q':List AV->MH->Prop},Wf H O M->Er H O M σ ρ->a ρ M Q'->(∀ x M' v H' O',Q' x M'->Ext H O M H' O' M'->Wf H' O' M'->zc H' O' M' v x->Q v H')->t σ H Q
structure vZ (t:TE)(a:ASt->MH->(List AV->MH->Prop)->Prop):Prop where
 go:∀ {σ:St} {H:Hp} {O:Own} {ρ:ASt} {M:MH} {Q:VK} {Q':List AV->MH->Prop},Wf H O M->Er H O M σ ρ->a ρ M Q' ->
  (∀ l M' p xs H' O',Q' l M'->Ext H O M H' O' M'->Wf H' O' M'->O' p->M' p=none->H p=none->H' p=some (.lst xs)->zc H' O' M' xs l->Q (.ref p) H')->t σ H Q
noncomputable abbrev AR2:=AV->AV->MH->AK->Prop
structure Zl (r:R2)(a:AR2):Prop where
 go:∀ {x y:V} {dx dy:AV} {H:Hp} {O:Own} {M:MH} {Q:VK} {Q':AK},Wf H O M->zj H O M x dx->zj H O M y dy->a dx dy M Q'->(∀ x M' v H' O',Q' x M'->Ext H O M H' O' M'->Wf H' O' M'->zj H' O' M' v x->Q v H')->r x y H Q
structure Dz (r:V->Hp->VK->Prop)(a:AV->MH->AK->Prop):Prop where
 go:∀ {x:V} {dx:AV} {H:Hp} {O:Own} {M:MH} {Q:VK} {Q':AK},Wf H O M->zj H O M x dx->a dx M Q'->(∀ x M' v H' O',Q' x M'->Ext H O M H' O' M'->Wf H' O' M'->zj H' O' M' v x->Q v H')->r x H Q
structure Zn (r:List V->Hp->VK->Prop)(a:List AV->MH->AK->Prop):Prop where
 go:∀ {vs:List V} {xs:List AV} {H:Hp} {O:Own} {M:MH} {Q:VK} {Q':AK},Wf H O M->zc H O M vs xs->a xs M Q'->(∀ x M' v H' O',Q' x M'->Ext H O M H' O' M'->Wf H' O' M'->zj H' O' M' v x->Q v H')->r vs H Q
noncomputable def BE (i:Nat):AE:=fun ρ M Q=>∃ x,ρ[i]?=some (some x)/\Q x M
noncomputable def aC (d:Dat):AE:=fun _ M Q=>Q (.d d) M
theorem Yd {i:Nat}:zA (KY i) (BE i):=⟨fun w e ⟨x,h,q⟩ k=>let ⟨v,h1,h2⟩:=e.get i x h;⟨v,h1,k _ _ _ _ _ q .refl w h2⟩⟩
theorem WE {i:Int}:zA (tC (.int i)) (aC (.int i)):=⟨fun w _ q k=>k _ _ _ _ _ q .refl w .int⟩
theorem Ay {i:Bool}:zA (tC (.bl i)) (aC (.bl i)):=⟨fun w _ q k=>k _ _ _ _ _ q .refl w .bl⟩
theorem V7:zA (tC .non) (aC .non):=⟨fun w _ q k=>k _ _ _ _ _ q .refl w .non⟩
noncomputable def aOp (r:AR2)(a b:AE):AE:=fun ρ M Q=>a ρ M fun x M1=>b ρ M1 fun y M2=>r x y M2 Q
theorem Ah {r:R2}{ra:AR2}{t u:TE}{a b:AE}(hr:Zl r ra)(h1:zA t a)(h2:zA u b):zA (tOp r t u) (aOp ra a b):=
 ⟨fun w e q k=>h1.go w e q fun x M1 v H1 O1 q1 k1 w1 r1=>h2.go w1 (e.ext k1) q1 fun y M2 u H2 O2 q2 k2 w2 r2=>hr.go w2 (r1.ext k2) r2 q2 fun z M3 v3 H3 O3 q3 k3 w3 r3=>k z M3 v3 H3 O3 q3 ((k1.trans k2).trans k3) w3 r3⟩
noncomputable def Bf:AA:=fun _ M Q=>Q [] M
noncomputable def VC (a:AE)(b:AA):AA:=fun ρ M Q=>a ρ M fun x M1=>b ρ M1 fun xs M2=>Q (x :: xs) M2
theorem Ym:kS W5 Bf:=⟨fun w _ q k=>k _ _ _ _ _ q .refl w .nil⟩
theorem KA {t:TE}{u:TA}{a:AE}{b:AA}(h1:zA t a)(h2:kS u b):kS (K6 t u) (VC a b):=
 ⟨fun w e q k=>h1.go w e q fun x M1 v H1 O1 q1 k1 w1 r1=>h2.go w1 (e.ext k1) q1 fun y M2 u H2 O2 q2 k2 w2 r2=>k _ _ _ _ _ q2 (k1.trans k2) w2 (.cons (r1.ext k2) r2)⟩
theorem KH {H:Hp}{O:Own}{M:MH}(is:List Int):zc H O M (is.map V.int) (is.map fun i=>.d (.int i)):=by
 induction is with
 | nil=>exact .nil
 | cons i r ih=>exact .cons .int ih
noncomputable def aCB (r:List AV->MH->AK->Prop)(b:AA):AE:=fun ρ M Q=>b ρ M fun xs M1=>r xs M1 Q
theorem We {r:List V->Hp->VK->Prop}{ra:List AV->MH->AK->Prop}{u:TA}{b:AA}(hr:Zn r ra)(h2:kS u b):zA (tCB r u) (aCB ra b):=
 ⟨fun w e q k=>h2.go w e q fun x M1 v H1 O1 q1 k1 w1 r1=>hr.go w1 r1 q1 fun z M3 v3 H3 O3 q3 k3 w3 r3=>k z M3 v3 H3 O3 q3 (k1.trans k3) w3 r3⟩
noncomputable abbrev ASp:=List AV->MH->AK->Prop
noncomputable def cSp (a:ASp):Sp:=fun vs H Q _=>∃ xs M O Q',Wf H O M/\zc H O M vs xs/\a xs M Q'/\∀ x M' v H' O',Q' x M'->Ext H O M H' O' M'->Wf H' O' M'->zj H' O' M' v x->Q v H'
noncomputable def VS (sp:ASp)(b:AA):AE:=fun ρ M Q=>b ρ M fun xs M1=>sp xs M1 Q
theorem Kj {sp:ASp}{u:TA}{b:AA}(h:kS u b):zA (ZK (cSp sp) [] E0 u) (VS sp b):=
 ⟨fun w e q k=>h.go w e q fun x M1 v H1 O1 q1 k1 w1 r1=>⟨x,M1,O1,_,w1,by rw [List.append_nil];exact r1,q1,fun z M3 v3 H3 O3 q3 k3 w3 r3=>k z M3 v3 H3 O3 q3 (k1.trans k3) w3 r3⟩⟩
noncomputable def pur:List AV->Option (List Dat)
 | []=>some []
 | .d x :: r=>match pur r with | some l=>some (x :: l) | none=>none
 | .ref _ :: _=>none
 | .tp _ :: _=>none
theorem Vb:pur []=some []:=rfl
theorem Jr {x:Dat}{r:List AV}{l:List Dat}(h:pur r=some l):pur (.d x :: r)=some (x :: l):=by unfold pur;rw [h]
theorem zH (l:List Dat):pur (l.map .d)=some l:=by
 induction l with
 | nil=>rfl
 | cons x r ih=>exact Jr ih
theorem j4:∀ {xs:List AV} {l:List Dat},pur xs=some l->xs=l.map .d
 | [],l,h=>by cases h;rfl
 | .d x :: r,l,h=>by
  unfold pur at h
  cases e:pur r with
  | none=>rw [e] at h;cases h
  | some m=>rw [e] at h;cases h;rw [j4 e];rfl
 | .ref _ :: _,_,h=>by cases h
 | .tp _ :: _,_,h=>by cases h
theorem Ext.shown {H H':Hp}{O O':Own}{M M':MH}{p:Addr}(w:Wf H O M)(k:Ext H O M H' O' M')(h:H p=none):Ext H O M H' (Yh O' p) M':=
 ⟨fun a o ha e=>⟨(k.fix a o ha e).1,fun z=>(k.fix a o ha e).2 z.2⟩,fun a ha e=>⟨(k.prv a ha e).1,⟨fun z=>w.ne a ha (by rw [z];exact h),(k.prv a ha e).2.1⟩,(k.prv a ha e).2.2⟩,k.mst⟩
theorem Ext.owned {H H':Hp}{O O':Own}{M M':MH}{p:Addr}(w:Wf H O M)(k:Ext H O M H' O' M')(h:H p=none)(mo:MO):Ext H O M H' O' (mup M' p mo):=
 ⟨k.fix,fun a ha e=>⟨(k.prv a ha e).1,(k.prv a ha e).2.1,by rw [zo (fun z=>w.ne a ha (by rw [z];exact h))];exact (k.prv a ha e).2.2⟩,fun a ha=>by
  by_cases e:a=p
  ·rw [e,ze];exact fun z=>nomatch z
  ·rw [zo e];exact k.mst a ha⟩
theorem vU {H:Hp}{O:Own}{M:MH}{p:Addr}(w:Wf H O M)(hO:O p)(hM:M p=none){xs:List V}{l:List AV}(hp:H p=some (.lst xs))(r:zc H O M xs l):Wf H O (mup M p (.lst l)):=by
 have km:∀ a,M a ≠ none->mup M p (.lst l) a ≠ none:=fun a ha=>by
  by_cases e:a=p
  ·rw [e,ze];exact fun z=>nomatch z
  ·rw [zo e];exact ha
 refine ⟨fun a u e=>?_,fun a ha=>?_,w.al⟩
 ·by_cases c:a=p
  ·subst c;rw [ze] at e;cases e;exact ⟨xs,hp,r.imp (fun _ _ z h=>⟨h,z⟩) km⟩
  ·rw [zo c] at e
   have:=w.mo a u e
   cases u with
   | lst m=>obtain ⟨ys,h1,h2⟩:=this;exact ⟨ys,h1,h2.imp (fun _ _ z h=>⟨h,z⟩) km⟩
   | dK m=>obtain ⟨ys,h1,h2⟩:=this;exact ⟨ys,h1,h2.1,h2.2.imp (fun _ _ z h=>⟨h,z⟩) km⟩
   | dT m=>obtain ⟨ys,h1,h2⟩:=this;exact ⟨ys,h1,h2.1,h2.2.imp (fun _ _ z h=>⟨h,z⟩) km⟩
   | dN m=>obtain ⟨ys,h1,h2,h3⟩:=this;exact ⟨ys,h1,⟨h2.1,h2.2.imp (fun _ _ z h=>⟨h,z⟩) km⟩,h3⟩
   | ins C fs=>
    obtain ⟨dx,ys,h1,h2,h3,h4,h5⟩:=this
    exact ⟨dx,ys,h1,⟨h2.1,h2.2.imp (fun _ _ z h=>⟨h,z⟩) km⟩,h3,by rw [zo (Z5 h5 hp (fun z=>nomatch z))];exact h4,h5⟩
   | exc C fs=>
    obtain ⟨d,h1,h2⟩:=this
    refine ⟨d,h1,?_⟩
    rcases h2 with h2 | ⟨dx,e1,h2,h3,h4⟩
    ·exact .inl h2
    ·exact .inr ⟨dx,e1,h2,h3,by rw [zo (Z5 h2 hp (fun z=>nomatch z))];exact h4⟩
   | tb R=>exact this
 ·by_cases c:a=p
  ·rw [c];exact hO
  ·rw [zo c] at ha;exact w.own a ha
noncomputable abbrev AF:=ASt->MH->(List AV->MH->Prop)->Prop
noncomputable def aFz (a:AF):AE:=fun ρ M Q=>a ρ M fun l M'=>∃ ds,pur l=some ds/\Q (.d (.lst ds)) M'
noncomputable def aOw (a:AF):AE:=fun ρ M Q=>a ρ M fun l M'=>∀ p,M p=none->M' p=none->Q (.ref p) (mup M' p (.lst l))
noncomputable def Bi (t:TE):TE:=t
theorem kE {X:Cx}{e:Expr}{t:TE}(h:PE X e t):PE X e (Bi t):=h
theorem ZS {t:TE}{a:AF}(h:vZ t a):zA t (aFz a):=
 ⟨fun w e q k=>h.go w e q fun l M' p xs H' O' q1 k1 w1 o1 m1 hp hx r1=>by
  obtain ⟨ds,e1,q2⟩:=q1
  rw [j4 e1] at r1
  have r2:=r1.pure
  exact k _ _ _ _ _ q2 (k1.shown w hp) (JW w1 m1 hx) (Rep.lst (fun z=>z.1 rfl) hx r2.1 fun i x d e1 e2=>(r2.2 i x d e1 e2).imp (kz p))⟩
theorem YD {t:TE}{a:AF}(h:vZ t a):zA (Bi t) (aOw a):=
 ⟨fun w e q k=>h.go w e q fun l M' p xs H' O' q1 k1 w1 o1 m1 hp hx r1=>k _ _ _ _ _ (q1 p (w.fresh hp).2 m1) (k1.owned w hp _) (vU w1 o1 m1 hx r1) ⟨rfl,by rw [ze];exact fun z=>nomatch z⟩⟩
noncomputable def BX (b:AA):AF:=fun ρ M Q=>b ρ M fun xs M1=>xs.length<=sizeLine/\Q xs M1
theorem Xg {u:TA}{b:AA}(h:kS u b):vZ (V9 u) (BX b):=
 ⟨fun w e q k=>h.go w e q fun x M1 v H1 O1 q1 k1 w1 r1=>⟨by rw [r1.1];exact q1.1,fun p hp=>
  k x M1 p v _ _ q1.2 (k1.trans (qv w1 hp _)) (xF w1 hp _ (fun _ z=>nomatch z)) (.inl rfl) (w1.fresh hp).2 (by
   cases e0:(_:Hp) p with
   | none=>exact e0
   | some o=>
    exfalso
    rename_i H0 O0 _ M0 _ _
    by_cases c:O0 p
    ·by_cases c2:M0 p=none
     ·exact w1.ne p (k1.prv p c c2).2.1 hp
     ·exact w1.ne p (w1.own p (k1.mst p c2)) hp
    ·rw [(k1.fix p o c e0).1] at hp;cases hp) zh (r1.ext (qv w1 hp _))⟩⟩
noncomputable def BY (b:AA):AE:=fun ρ M Q=>b ρ M fun xs M1=>xs.length<=sizeLine/\∃ ds,pur xs=some ds/\Q (.d (.tup ds)) M1
theorem Vh {u:TA}{b:AA}(h:kS u b):zA (YY u) (BY b):=
 ⟨fun w e q k=>h.go w e q fun x M1 v H1 O1 q1 k1 w1 r1=>⟨by rw [r1.1];exact q1.1,fun p hp=>by
  obtain ⟨_,ds,e1,q2⟩:=q1
  rw [j4 e1] at r1
  have r2:=r1.pure
  exact k _ _ _ _ _ q2 (k1.trans (qi w1 hp _)) (kF w1 hp _) (Rep.tup (w1.fresh hp).1 zh r2.1 fun i x d e1 e2=>(r2.2 i x d e1 e2).ext (qi w1 hp _))⟩⟩
noncomputable def aB (a:AE):AT:=fun ρ M Q=>a ρ M fun x M1=>∃ b,x=.d (.bl b)/\Q b M1
theorem xy {H:Hp}{O:Own}{v:V}{b:Bool}(r:Rep H O v (.bl b)):v=.bl b:=by cases r;rfl
theorem zI {H:Hp}{O:Own}{v:V}{b:Int}(r:Rep H O v (.int b)):v=.int b:=by cases r;rfl
theorem Qn {H:Hp}{O:Own}{v:V}(r:Rep H O v .non):v=.non:=by cases r;rfl
theorem BL {t:TE}{a:AE}(h:zA t a):kL (tB t) (aB a):=⟨fun w e q k=>h.go w e q fun x M1 v H1 O1 ⟨b,e1,q1⟩ k1 w1 r1=>by
 subst e1;exact ⟨b,xy r1,k _ _ _ _ q1 k1 w1⟩⟩
theorem Kv {t:TE}{a:AE}(h:zA t a):kL (Z3 t) (aB a):=⟨fun w e q k=>h.go w e q fun x M1 v H1 O1 ⟨b,e1,q1⟩ k1 w1 r1=>by
 subst e1;exact ⟨b,xy r1,k _ _ _ _ q1 k1 w1⟩⟩
noncomputable def KR:AT:=fun _ M Q=>Q true M
theorem Jq:kL J9 KR:=⟨fun w _ q k=>k _ _ _ _ q .refl w⟩
noncomputable def Bq (a b:AT):AT:=fun ρ M Q=>a ρ M fun c M1=>if c=true then b ρ M1 Q else Q false M1
noncomputable def Bu (a:AT):AT:=fun ρ M Q=>a ρ M fun c M1=>Q (!c) M1
theorem Vf {t u:TT}{a b:AT}(h1:kL t a)(h2:kL u b):kL (Ae t u) (Bq a b):=⟨fun w e q k=>h1.go w e q fun c M1 H1 O1 q1 k1 w1=>by
 cases c with
 | true=>exact h2.go w1 (e.ext k1) q1 fun c M2 H2 O2 q2 k2 w2=>k _ _ _ _ q2 (k1.trans k2) w2
 | false=>exact k _ _ _ _ q1 k1 w1⟩
theorem YJ {t:TT}{a:AT}(h1:kL t a):kL (Al t) (Bu a):=⟨fun w e q k=>h1.go w e q fun c M1 H1 O1 q1 k1 w1=>k _ _ _ _ q1 k1 w1⟩
noncomputable def VF (a b:AE):AE:=fun ρ M Q=>a ρ M fun x M1=>∃ c,x=.d (.bl c)/\if c=true then b ρ M1 Q else Q (.d (.bl false)) M1
theorem XC {t u:TE}{a b:AE}(h1:zA t a)(h2:zA u b):zA (Xs t u) (VF a b):=⟨fun w e q k=>h1.go w e q fun x M1 v H1 O1 ⟨c,e1,q1⟩ k1 w1 r1=>by
 subst e1
 refine ⟨c,xy r1,?_⟩
 cases c with
 | true=>exact h2.go w1 (e.ext k1) q1 fun c M2 v2 H2 O2 q2 k2 w2 r2=>k _ _ _ _ _ q2 (k1.trans k2) w2 r2
 | false=>exact k _ _ _ _ _ q1 k1 w1 .bl⟩
structure ED (H0:Hp)(O0:Own)(M0:MH)(D:ju)(D':kO):Prop where
 nx:∀ σ H O ρ M,Wf H O M->Er H O M σ ρ->Ext H0 O0 M0 H O M->D'.nx ρ M->D.nx σ H
 rt:∀ v x H O M,Wf H O M->Ext H0 O0 M0 H O M->zj H O M v x->D'.rt x M->D.rt v H
 bk:∀ σ H O ρ M,Wf H O M->Er H O M σ ρ->Ext H0 O0 M0 H O M->D'.bk ρ M->D.bk σ H
 ct:∀ σ H O ρ M,Wf H O M->Er H O M σ ρ->Ext H0 O0 M0 H O M->D'.ct ρ M->D.ct σ H
theorem ED.tr {H0 H1:Hp}{O0 O1:Own}{M0 M1:MH}{D:ju}{D':kO}(E:ED H0 O0 M0 D D')(k:Ext H0 O0 M0 H1 O1 M1):ED H1 O1 M1 D D':=
 ⟨fun σ H O ρ M w e x q=>E.nx σ H O ρ M w e (k.trans x) q,fun v y H O M w x r q=>E.rt v y H O M w (k.trans x) r q,fun σ H O ρ M w e x q=>E.bk σ H O ρ M w e (k.trans x) q,fun σ H O ρ M w e x q=>E.ct σ H O ρ M w e (k.trans x) q⟩
structure jg (t:TS)(a:AS):Prop where
 go:∀ {H0:Hp} {O0:Own} {M0:MH} {D:ju} {D':kO} {σ:St} {H:Hp} {O:Own} {ρ:ASt} {M:MH},Wf H0 O0 M0->Wf H O M->Er H O M σ ρ->Ext H0 O0 M0 H O M->a M0 D' ρ M->ED H0 O0 M0 D D'->t D σ H
noncomputable def Ki:AS:=fun _ D ρ M=>D.nx ρ M
theorem Xz:jg Xf Ki:=⟨fun _ w e x q E=>E.nx _ _ _ _ _ w e x q⟩
noncomputable def ww (a b:AS):AS:=fun B D ρ M=>a B { D with nx:=b B D } ρ M
theorem Vq {t u:TS}{a b:AS}(h1:jg t a)(h2:jg u b):jg (Wt t u) (ww a b):=
 ⟨fun w0 w e x q E=>h1.go w0 w e x q ⟨fun σ H O ρ M w e x q=>h2.go w0 w e x q E,E.rt,E.bk,E.ct⟩⟩
noncomputable def VB (a:AE):AS:=fun _ D ρ M=>a ρ M fun _ M1=>D.nx ρ M1
theorem JX {t:TE}{a:AE}(h:zA t a):jg (Kg t) (VB a):=⟨fun _ w e x q E=>h.go w e q fun y M1 v H1 O1 q1 k1 w1 r1=>E.nx _ _ _ _ _ w1 (e.ext k1) (x.trans k1) q1⟩
noncomputable def BJ (a:AE):AS:=fun _ D ρ M=>a ρ M D.rt
theorem Yn {t:TE}{a:AE}(h:zA t a):jg (A8 t) (BJ a):=⟨fun _ w e x q E=>h.go w e q fun y M1 v H1 O1 q1 k1 w1 r1=>E.rt _ _ _ _ _ w1 (x.trans k1) r1 q1⟩
noncomputable def Bd (c:AT)(a b:AS):AS:=fun B D ρ M=>c ρ M fun k M1=>if k=true then a B D ρ M1 else b B D ρ M1
theorem Vc {c:TT}{t u:TS}{ac:AT}{a b:AS}(hc:kL c ac)(h1:jg t a)(h2:jg u b):jg (A6 c t u) (Bd ac a b):=
 ⟨fun w0 w e x q E=>hc.go w e q fun k M1 H1 O1 q1 k1 w1=>by
  cases k with
  | true=>exact h1.go w0 w1 (e.ext k1) (x.trans k1) q1 E
  | false=>exact h2.go w0 w1 (e.ext k1) (x.trans k1) q1 E⟩
structure vc (g:TG)(a:AG):Prop where
 go:∀ {v:V} {x:AV} {σ:St} {H:Hp} {O:Own} {ρ:ASt} {M:MH} {Q:St->Hp->Prop} {Q':ASt->MH->Prop},Wf H O M->Er H O M σ ρ->zj H O M v x->a x ρ M Q' ->
  (∀ σ' H' O' ρ' M',Q' ρ' M'->Ext H O M H' O' M'->Wf H' O' M'->Er H' O' M' σ' ρ'->Q σ' H')->g v σ H Q
structure vA (g:TGs)(a:AGs):Prop where
 go:∀ {v:List V} {x:List AV} {σ:St} {H:Hp} {O:Own} {ρ:ASt} {M:MH} {Q:St->Hp->Prop} {Q':ASt->MH->Prop},Wf H O M->Er H O M σ ρ->zc H O M v x->a x ρ M Q' ->
  (∀ σ' H' O' ρ' M',Q' ρ' M'->Ext H O M H' O' M'->Wf H' O' M'->Er H' O' M' σ' ρ'->Q σ' H')->g v σ H Q
noncomputable def wY (i:Nat):AG:=fun x ρ M Q=>Q (ρ.set i (some x)) M
theorem QB {i:Nat}:vc (ZU i) (wY i):=⟨fun w e r q k=>k _ _ _ _ _ q .refl w (e.set r i)⟩
noncomputable def Vz:AGs:=fun xs ρ M Q=>xs=[]/\Q ρ M
noncomputable def JO (a:AG)(b:AGs):AGs:=fun xs ρ M Q=>∃ x r,xs=x :: r/\a x ρ M fun ρ' M'=>b r ρ' M' Q
theorem Kk:vA WX Vz:=⟨fun w e r q k=>by obtain ⟨e1,q⟩:=q;subst e1;exact ⟨r.nil_inv,k _ _ _ _ _ q .refl w e⟩⟩
theorem QU {g:TG}{u:TGs}{a:AG}{b:AGs}(h1:vc g a)(h2:vA u b):vA (JA g u) (JO a b):=⟨fun w e r q k=>by
 obtain ⟨x,r',e1,q⟩:=q;subst e1
 obtain ⟨v,vr,e2,rv,rr⟩:=r.cons_inv
 subst e2
 exact ⟨v,vr,rfl,h1.go w e rv q fun σ' H' O' ρ' M' q1 k1 w1 e1=>h2.go w1 e1 (rr.ext k1) q1 fun σ2 H2 O2 ρ2 M2 q2 k2 w2 e2=>k _ _ _ _ _ q2 (k1.trans k2) w2 e2⟩⟩
noncomputable def Vy (n:Nat)(b:AGs):AG:=fun x ρ M Q=>∃ l,x=.d (.tup l)/\l.length=n/\b (l.map .d) ρ M Q
theorem XN {K:PySem.W.Frag}{n:Nat}{u:TGs}{b:AGs}(h:vA u b):vc (J4 K n u) (Vy n b):=⟨fun {v x σ H O ρ M Q Q'} w e r q k=>by
 obtain ⟨l,e1,ln,q⟩:=q;subst e1
 cases (show Rep H O v (.tup l) from r) with
 | @tup a xs _ o1 h1 l1 r1=>exact ⟨a,xs,rfl,SqT.of h1,l1.trans ln,h.go w e (Jn.av ⟨l1,r1⟩) q k⟩⟩
noncomputable def qC (x:AV)(M:MH):Option (List AV):=match x with
 | .d (.lst l)=>some (l.map .d)
 | .ref a=>match M a with
  | some (.lst l)=>some l
  | _=>none
 | _=>none
noncomputable def Af (x:AV):Option (List AV):=match x with
 | .d (.tup l)=>some (l.map .d)
 | .tp l=>some (l.map tiA)
 | _=>none
noncomputable def z0 (x:AV)(M:MH):Option (List AV):=match x with
 | .d (.lst l)=>some (l.map .d)
 | .d (.tup l)=>some (l.map .d)
 | .ref a=>match M a with
  | some (.lst l)=>some l
  | _=>none
 | _=>none
theorem Kn (l:List Dat)(M:MH):qC (.d (.lst l)) M=some (l.map .d):=rfl
theorem Am (l:List Dat):Af (.d (.tup l))=some (l.map .d):=rfl
theorem wU (l:List Dat)(M:MH):z0 (.d (.lst l)) M=some (l.map .d):=rfl
theorem AH (l:List Dat)(M:MH):z0 (.d (.tup l)) M=some (l.map .d):=rfl
theorem qL {a:Addr}{M:MH}{l:List AV}(h:M a=some (.lst l)):qC (.ref a) M=some l:=by unfold qC;dsimp only;rw [h]
theorem qI {a:Addr}{M:MH}{l:List AV}(h:M a=some (.lst l)):z0 (.ref a) M=some l:=by unfold z0;dsimp only;rw [h]
theorem xn {x:AV}{M:MH}{l:List AV}(h:qC x M=some l):(∃ m,x=.d (.lst m)/\l=m.map .d) \/ ∃ a,x=.ref a/\M a=some (.lst l):=by
 cases x with
 | d x=>
  cases x with
  | lst m=>cases h;exact .inl ⟨m,rfl,rfl⟩
  | _=>cases h
 | ref a=>
  unfold qC at h
  dsimp only at h
  cases e:M a with
  | none=>rw [e] at h;cases h
  | some o=>
   rw [e] at h
   cases o with
   | lst m=>cases h;exact .inr ⟨a,rfl,e⟩
   | _=>cases h
 | tp l=>cases h
theorem qM {x:AV}{M:MH}{l:List AV}(h:z0 x M=some l):qC x M=some l \/ ∃ m,x=.d (.tup m)/\l=m.map .d:=by
 cases x with
 | d x=>
  cases x with
  | lst m=>cases h;exact .inl rfl
  | tup m=>cases h;exact .inr ⟨m,rfl,rfl⟩
  | _=>cases h
 | ref a=>exact .inl h
 | tp l=>cases h
theorem qk {H:Hp}{O:Own}{M:MH}{v:V}{x:AV}{l:List AV}(w:Wf H O M)(r:zj H O M v x)(h:qC x M=some l):∃ a xs,v=.ref a/\H a=some (.lst xs)/\zc H O M xs l:=by
 rcases xn h with ⟨m,rfl,rfl⟩ | ⟨a,rfl,e⟩
 ·cases (show Rep H O v (.lst m) from r) with
  | @lst a xs _ o1 h1 l1 r1=>exact ⟨a,xs,rfl,h1,Jn.av ⟨l1,r1⟩⟩
 ·obtain ⟨xs,h1,r1⟩:=w.mo a _ e
  exact ⟨a,xs,r.1,h1,r1⟩
theorem XG.av {H:Hp}{O:Own}{M:MH}{xs:List V}{m:List (Dat ⊕ Addr)}(r:XG H O M xs m):zc H O M xs (m.map tiA):=⟨by rw [List.length_map];exact r.1,fun i x d e1 e2=>by
 rw [List.getElem?_map] at e2
 obtain ⟨t,e3,rfl⟩:=Option.map_eq_some_iff.mp e2
 have:=r.2 i x t e1 e3
 cases t <;> exact this⟩
theorem kJ {H:Hp}{O:Own}{M:MH}{v:V}{x:AV}{l:List AV}(r:zj H O M v x)(h:Af x=some l):∃ a xs,v=.ref a/\H a=some (.tup xs)/\zc H O M xs l:=by
 cases x with
 | ref a=>cases h
 | tp m=>
  cases h
  obtain ⟨a,xs,e,_,h1,r1⟩:=r
  exact ⟨a,xs,e,h1,r1.av⟩
 | d x=>
  cases x with
  | tup m=>
   cases h
   cases (show Rep H O v (.tup m) from r) with
   | @tup a xs _ o1 h1 l1 r1=>exact ⟨a,xs,rfl,h1,Jn.av ⟨l1,r1⟩⟩
  | _=>cases h
theorem yX {H:Hp}{O:Own}{M:MH}{v:V}{x:AV}{l:List AV}(w:Wf H O M)(r:zj H O M v x)(h:z0 x M=some l):∃ a xs,v=.ref a/\(H a=some (.lst xs) \/ H a=some (.tup xs))/\zc H O M xs l:=by
 rcases qM h with e | ⟨m,rfl,rfl⟩
 ·obtain ⟨a,xs,h1,h2,h3⟩:=qk w r e;exact ⟨a,xs,h1,.inl h2,h3⟩
 ·obtain ⟨a,xs,h1,h2,h3⟩:=kJ (l:=m.map .d) r rfl;exact ⟨a,xs,h1,.inr h2,h3⟩
structure Kz (t:Xe)(a:AV->AV->AV->MH->(MH->Prop)->Prop):Prop where
 go:∀ {o i v:V} {ao ai av:AV} {H:Hp} {O:Own} {M:MH} {Q:Hp->Prop} {Q':MH->Prop},Wf H O M->zj H O M o ao->zj H O M i ai->zj H O M v av->a ao ai av M Q'->(∀ M' H' O',Q' M'->Ext H O M H' O' M'->Wf H' O' M'->Q H')->t o i v H Q
noncomputable def Vt (a b:AE)(s:AV->AV->AV->MH->(MH->Prop)->Prop):AG:=fun x ρ M Q=>a ρ M fun o M1=>b ρ M1 fun i M2=>s o i x M2 fun M3=>Q ρ M3
theorem Xr {to ti:TE}{t:Xe}{a b:AE}{s:AV->AV->AV->MH->(MH->Prop)->Prop}(h1:zA to a)(h2:zA ti b)(h3:Kz t s):vc (Ai to ti t) (Vt a b s):=⟨fun w e r q k=>
 h1.go w e q fun x M1 v H1 O1 q1 k1 w1 r1=>h2.go w1 (e.ext k1) q1 fun y M2 u H2 O2 q2 k2 w2 r2=>h3.go w2 (r1.ext k2) r2 (r.ext (k1.trans k2)) q2 fun M3 H3 O3 q3 k3 w3=>k _ _ _ _ _ q3 ((k1.trans k2).trans k3) w3 (e.ext ((k1.trans k2).trans k3))⟩
theorem qG {M:MH}{p:Addr}{o:MO}(h:M p=some o):M p ≠ none:=by rw [h];exact fun z=>nomatch z
noncomputable def asL:AV->AV->AV->MH->(MH->Prop)->Prop:=fun o i v M Q=>∃ p l k j,o=.ref p/\i=.d (.int k)/\M p=some (.lst l)/\ixN l.length k=some j/\Q (mup M p (.lst (l.set j v)))
theorem Xv:Kz wK asL:=⟨fun w ro ri rv q k=>by
 obtain ⟨p,l,n,j,rfl,rfl,hm,hj,q⟩:=q
 obtain ⟨xs,hx,rx⟩:=w.mo p _ hm
 have np:=qG hm
 refine ⟨n,zI ri,p,ro.1,xs,hx,j,by rw [rx.1];exact hj,k _ _ _ q (qR w np _ _) (Zu w np (fun _ z=>nomatch z) ⟨_,zh,(rx.set rv j).ext (qR w np _ _)⟩)⟩⟩
noncomputable def BA (a:AE)(g:AG):AS:=fun _ D ρ M=>a ρ M fun x M1=>g x ρ M1 D.nx
theorem X8 {t:TE}{g:TG}{a:AE}{ag:AG}(h:zA t a)(hg:vc g ag):jg (Ke t g) (BA a ag):=⟨fun _ w e x q E=>h.go w e q fun y M1 v H1 O1 q1 k1 w1 r1=>hg.go w1 (e.ext k1) r1 q1 fun σ2 H2 O2 ρ2 M2 q2 k2 w2 e2=>E.nx _ _ _ _ _ w2 e2 ((x.trans k1).trans k2) q2⟩
structure Dt (t:TIp)(a:AR2):Prop where
 go:∀ {x y:V} {dx dy:AV} {H:Hp} {O:Own} {M:MH} {Q:VK} {Q':AK},Wf H O M->zj H O M x dx->zj H O M y dy->a dx dy M Q'->(∀ x M' v H' O',Q' x M'->Ext H O M H' O' M'->Wf H' O' M'->zj H' O' M' v x->Q v H')->t x y H Q
noncomputable def JD (c:AT)(b:AS):AS:=fun B D ρ M=>∃ W:Nat->ASt->MH->Prop,(∃ m,W m ρ M)/\∀ m ρ M,W m ρ M->c ρ M fun k M1=>if k=true then b B { D with nx:=fun ρ' M'=>∃ m',m'<m/\W m' ρ' M',ct:=fun ρ' M'=>∃ m',m'<m/\W m' ρ' M',bk:=D.nx } ρ M1 else D.nx ρ M1
theorem Qz {c:TT}{t:TS}{ac:AT}{a:AS}(hc:kL c ac)(h:jg t a):jg (Zt c t) (JD ac a):=⟨fun {H0 O0 M0 D D' σ H O ρ M} w0 w e x q E=>by
 obtain ⟨W,⟨m,h0⟩,st⟩:=q
 refine ⟨fun m σ H=>∃ O ρ M,Wf H O M/\Er H O M σ ρ/\Ext H0 O0 M0 H O M/\W m ρ M,⟨m,O,ρ,M,w,e,x,h0⟩,?_⟩
 rintro m σ H ⟨O,ρ,M,w,e,x,hw⟩
 refine hc.go w e (st m ρ M hw) fun k M1 H1 O1 q1 k1 w1=>?_
 cases k with
 | false=>exact E.nx _ _ _ _ _ w1 (e.ext k1) (x.trans k1) q1
 | true=>exact ⟨fun σ' H'=>∃ m',m'<m/\∃ O ρ M,Wf H' O M/\Er H' O M σ' ρ/\Ext H0 O0 M0 H' O M/\W m' ρ M,fun σ' H' z=>z,h.go w0 w1 (e.ext k1) (x.trans k1) q1 ⟨fun σ H O ρ M w e x ⟨m',hm,hw⟩=>⟨m',hm,O,ρ,M,w,e,x,hw⟩,E.rt,E.nx,fun σ H O ρ M w e x ⟨m',hm,hw⟩=>⟨m',hm,O,ρ,M,w,e,x,hw⟩⟩⟩⟩
noncomputable def xM (J:It)(H:Hp)(O:Own)(M:MH)(l:List AV)(G:MH->Prop):Prop:=
 ∀ (H':Hp) (O':Own) (M':MH),(∀ a o,¬ O a->H a=some o->H' a=some o/\¬ O' a)->(∀ a,M a ≠ none->M' a ≠ none)->Wf H' O' M'->G M'->∀ i:Nat,(i=l.length->J.stop i H') /\
  ∀ y,l[i]?=some y->J.go i H'/\∀ x H'',J.yld i H' x H''->Ext H' O' M' H'' O' M'/\Wf H'' O' M'/\zj H'' O' M' x y
structure Jk (wi:TI)(ai:AI):Prop where
 go:∀ {σ:St} {H:Hp} {O:Own} {ρ:ASt} {M:MH} {R:It->Hp->Prop} {R':List AV->(MH->Prop)->MH->Prop},Wf H O M->Er H O M σ ρ->ai ρ M R'->(∀ l G M' J H' O',R' l G M'->Ext H O M H' O' M'->Wf H' O' M'->xM J H' O' M' l G->R J H')->wi σ H R
noncomputable def Bs (ag:AG)(ab:AS)(B:MH)(D:kO)(G:MH->Prop)(l:List AV)(ρ:ASt)(M:MH):Prop:=
 ∃ Pv:Nat->ASt->MH->Prop,Pv 0 ρ M/\(∀ i x ρ M,l[i]?=some x->Pv i ρ M->G M/\ag x ρ M fun ρ' M'=>ab B { D with nx:=Pv (i+1),ct:=Pv (i+1),bk:=D.nx } ρ' M')/\∀ ρ M,Pv l.length ρ M->G M/\D.nx ρ M
noncomputable def BV (ai:AI)(ag:AG)(ab:AS):AS:=fun _ D ρ M=>ai ρ M fun l G M1=>Bs ag ab M1 D G l ρ M1
theorem Yo {wi:TI}{g:TG}{t:TS}{ai:AI}{ag:AG}{ab:AS}(hi:Jk wi ai)(hg:vc g ag)(hb:jg t ab):jg (Ao wi g t) (BV ai ag ab):=⟨fun {H0 O0 M0 D D' σ H O ρ M} w0 w e x q E=>by
 rw [ZN]
 refine hi.go w e q fun l G M1 J H1 O1 q1 k1 w1 hj=>?_
 have E1:=E.tr (x.trans k1)
 obtain ⟨Pv,p0,ps,pd⟩:=q1
 refine ⟨fun i m σ H=>m=l.length - i/\i<=l.length/\∃ O ρ M,Wf H O M/\Er H O M σ ρ/\Ext H1 O1 M1 H O M/\Pv i ρ M,⟨l.length,by simp,Nat.zero_le _,O1,ρ,M1,w1,e.ext k1,.refl,p0⟩,?_⟩
 rintro i m σ H ⟨rfl,hi,O,ρ,M,w,e,x,hf⟩
 by_cases hil:i<l.length
 ·have hy:l[i]?=some l[i]:=List.getElem?_eq_getElem hil
  obtain ⟨hG,q2⟩:=ps i l[i] ρ M hy hf
  obtain ⟨j1,j2⟩:=(hj H O M x.fix x.mst w hG i).2 l[i] hy
  refine .inr ⟨j1,fun σ' H'=>∃ O ρ M,Wf H' O M/\Er H' O M σ' ρ/\Ext H1 O1 M1 H' O M/\Pv (i+1) ρ M,fun σ' H' z=>⟨l.length - (i+1),by omega,rfl,hil,z⟩,fun v H' hv=>?_⟩
  obtain ⟨k2,w2,r2⟩:=j2 v H' hv
  refine hg.go w2 (e.ext k2) r2 q2 fun σ3 H3 O3 ρ3 M3 q3 k3 w3 e3=>?_
  exact hb.go w1 w3 e3 ((x.trans k2).trans k3) q3 ⟨fun σ H O ρ M w e x q=>⟨O,ρ,M,w,e,x,q⟩,E1.rt,E1.nx,fun σ H O ρ M w e x q=>⟨O,ρ,M,w,e,x,q⟩⟩
 ·have e0:i=l.length:=by omega
  subst e0
  obtain ⟨hG,q2⟩:=pd ρ M hf
  exact .inl ⟨(hj H O M x.fix x.mst w hG l.length).1 rfl,E1.nx _ _ _ _ _ w e x q2⟩⟩
theorem ki {H H1:Hp}{O O1:Own}{M M1:MH}(w1:Wf H1 O1 M1)(k1:Ext H O M H1 O1 M1){p:Addr}(hp:H1 p=none):H p=none:=by
 cases e0:H p with
 | none=>rfl
 | some o=>
  exfalso
  by_cases c:O p
  ·by_cases c2:M p=none
   ·exact w1.ne p (k1.prv p c c2).2.1 hp
   ·exact w1.ne p (w1.own p (k1.mst p c2)) hp
  ·rw [(k1.fix p o c e0).1] at hp;cases hp
theorem Jl {K:PySem.W.Frag}{H:Hp}{O:Own}{M:MH}{a:Addr}{x:AV}{l:List AV}(r:zj H O M (.ref a) x)(h:qC x M=some l):xM (Itl K a) H O M l (fun M'=>qC x M'=some l):=by
 intro H' O' M' fix mst w' hG i
 obtain ⟨a',xs,e,h1,r1⟩:=qk w' (r.imp fix mst) hG
 cases e
 refine ⟨fun e=>⟨xs,SqL.of h1,by rw [r1.1];omega⟩,fun y hy=>?_⟩
 obtain ⟨v,hv,rv⟩:=r1.get hy
 refine ⟨⟨xs,v,SqL.of h1,hv⟩,fun z H'' hz=>?_⟩
 obtain ⟨e1,e2⟩:=hz
 subst e1
 have:=e2 xs (SqL.of h1)
 rw [hv] at this;cases this
 exact ⟨.refl,w',rv⟩
theorem Xh {K:PySem.W.Frag}{H:Hp}{O:Own}{M:MH}{a:Addr}{x:AV}{l:List AV}(r:zj H O M (.ref a) x)(h:Af x=some l):xM (Itt K a) H O M l (fun _=>True):=by
 intro H' O' M' fix mst w' hG i
 obtain ⟨a',xs,e,h1,r1⟩:=kJ (r.imp fix mst) h
 cases e
 refine ⟨fun e=>⟨xs,SqT.of h1,by rw [r1.1];omega⟩,fun y hy=>?_⟩
 obtain ⟨v,hv,rv⟩:=r1.get hy
 refine ⟨⟨xs,v,SqT.of h1,hv⟩,fun z H'' hz=>?_⟩
 obtain ⟨e1,e2⟩:=hz
 subst e1
 have:=e2 xs (SqT.of h1)
 rw [hv] at this;cases this
 exact ⟨.refl,w',rv⟩
noncomputable def aiS (a:AE):AI:=fun ρ M R=>a ρ M fun x M1=>∃ l,z0 x M1=some l/\R l (fun M'=>z0 x M'=some l) M1
theorem xM.mono {J:It}{H:Hp}{O:Own}{M:MH}{l:List AV}{G G':MH->Prop}(h:xM J H O M l G)(k:∀ M,G' M->G M):xM J H O M l G':=fun H' O' M' fix mst w' hG=>h H' O' M' fix mst w' (k _ hG)
theorem Ad {K:PySem.W.Frag}{t:TE}{a:AE}(h:zA t a):Jk (iLT K t) (aiS a):=⟨fun w e q k=>h.go w e q fun x M1 v H1 O1 ⟨l,hl,q1⟩ k1 w1 r1=>by
 rcases qM hl with hl' | ⟨m,rfl,rfl⟩
 ·obtain ⟨a,xs,rfl,h1,_⟩:=qk w1 r1 hl'
  refine ⟨a,rfl,.inl ⟨⟨xs,SqL.of h1⟩,k _ _ _ _ _ _ q1 k1 w1 ((Jl r1 hl').mono fun M hM=>?_)⟩⟩
  rcases qM hM with z | ⟨m,rfl,rfl⟩
  ·exact z
  ·cases hl'
 ·obtain ⟨a,xs,rfl,h1,_⟩:=kJ (l:=m.map .d) r1 rfl
  exact ⟨a,rfl,.inr ⟨⟨xs,SqT.of h1⟩,k _ _ _ _ _ _ q1 k1 w1 ((Xh r1 rfl).mono fun _ _=>trivial)⟩⟩⟩
noncomputable def vy (lo c:Int)(n:Nat):List AV:=(List.range n).map fun (k:Nat)=>.d (.int (lo+(k:Int) * c))
theorem j9 (lo c:Int)(n:Nat):(vy lo c n).length=n:=by simp [vy]
theorem jh {lo c:Int}{n i:Nat}{y:AV}(h:(vy lo c n)[i]?=some y):i<n/\y=.d (.int (lo+(i:Int) * c)):=by
 have hi:=(List.getElem?_eq_some_iff.mp h).1
 rw [j9] at hi
 unfold vy at h
 rw [List.getElem?_map,List.getElem?_range hi] at h
 cases h
 exact ⟨hi,rfl⟩
theorem K1 {H:Hp}{O:Own}{M:MH}(lo:Int)(n:Nat):xM (Itr lo n) H O M (vy lo 1 n) (fun _=>True):=by
 intro H' O' M' fix mst w' hG i
 refine ⟨fun e=>by rw [j9] at e;exact Nat.le_of_eq e.symm,fun y hy=>?_⟩
 obtain ⟨hi,rfl⟩:=jh hy
 refine ⟨hi,fun z H'' hz=>?_⟩
 obtain ⟨rfl,rfl⟩:=hz
 rw [Int.mul_one]
 exact ⟨.refl,w',.int⟩
noncomputable def Bo (a:AA):AI:=fun ρ M R=>a ρ M fun xs M1=>∃ j:Int,xs=[.d (.int j)]/\-(2 ^ 62)<=j/\j<2 ^ 62/\R (vy 0 1 j.toNat) (fun _=>True) M1
theorem YB {t:TA}{a:AA}(h:kS t a):Jk (Xw t) (Bo a):=⟨fun w e q k=>h.go w e q fun x M1 v H1 O1 ⟨j,e1,j1,j2,q1⟩ k1 w1 r1=>by
 subst e1
 obtain ⟨v1,r',rfl,a1,r2⟩:=r1.cons_inv
 rw [r2.nil_inv,zI a1]
 exact ⟨j,rfl,j1,j2,k _ _ _ _ _ _ q1 k1 w1 (K1 _ _)⟩⟩
noncomputable def xT (m:List Dat):List AV:=(List.range m.length).map fun (i:Nat)=>.d (.tup [.int (i:Int),m.getD i .non])
theorem jf (m:List Dat):(xT m).length=m.length:=by simp [xT]
theorem jN {m:List Dat}{i:Nat}{y:AV}(h:(xT m)[i]?=some y):∃ d,m[i]?=some d/\y=.d (.tup [.int (i:Int),d]):=by
 have hi:=(List.getElem?_eq_some_iff.mp h).1
 rw [jf] at hi
 unfold xT at h
 rw [List.getElem?_map,List.getElem?_range hi] at h
 cases h
 exact ⟨m[i],List.getElem?_eq_getElem hi,by dsimp only;rw [List.getD_eq_getElem?_getD,List.getElem?_eq_getElem hi];rfl⟩
theorem vJ {H:Hp}{O:Own}{M:MH}(w:Wf H O M){p:Addr}(hp:H p=none){x y:V}{d e:Dat}(r1:Rep H O x d)(r2:Rep H O y e):Ext H O M (upd H p (.tup [x,y])) O M/\Wf (upd H p (.tup [x,y])) O M/\zj (upd H p (.tup [x,y])) O M (.ref p) (.d (.tup [d,e])):=
 ⟨qi w hp _,kF w hp _,Rep.tup (w.fresh hp).1 zh rfl fun i z f h1 h2=>by
  match i,h1,h2 with
  | 0,h1,h2=>cases h1;cases h2;exact r1.ext (qi w hp _)
  | 1,h1,h2=>cases h1;cases h2;exact r2.ext (qi w hp _)
  | (i+2),h1,_=>cases h1⟩
theorem Jo {K:PySem.W.Frag}{H:Hp}{O:Own}{M:MH}{a:Addr}{x:AV}{m:List Dat}(r:zj H O M (.ref a) x)(h:qC x M=some (m.map .d)):xM (Ite K a) H O M (xT m) (fun M'=>qC x M'=some (m.map .d)):=by
 intro H' O' M' fix mst w' hG i
 obtain ⟨a',xs,e,h1,r1⟩:=qk w' (r.imp fix mst) hG
 cases e
 have l1:=r1.1
 rw [List.length_map] at l1
 refine ⟨fun e=>⟨xs,SqL.of h1,by rw [jf] at e;omega⟩,fun y hy=>?_⟩
 obtain ⟨d,hd,rfl⟩:=jN hy
 obtain ⟨v,hv,rv⟩:=r1.get (i:=i) (d:=.d d) (by rw [List.getElem?_map,hd];rfl)
 refine ⟨⟨xs,v,SqL.of h1,hv⟩,fun z H'' hz=>?_⟩
 obtain ⟨p,x',hp,rfl,e2,rfl⟩:=hz
 have:=e2 xs (SqL.of h1)
 rw [hv] at this;cases this
 exact vJ w' hp .int rv
theorem Zm {K:PySem.W.Frag}{H:Hp}{O:Own}{M:MH}{a:Addr}{m:List Dat}(r:zj H O M (.ref a) (.d (.tup m))):xM (W7 K a) H O M (xT m) (fun _=>True):=by
 intro H' O' M' fix mst w' hG i
 obtain ⟨a',xs,e,h1,r1⟩:=kJ (l:=m.map .d) (r.imp fix mst) rfl
 cases e
 have l1:=r1.1
 rw [List.length_map] at l1
 refine ⟨fun e=>⟨xs,SqT.of h1,by rw [jf] at e;omega⟩,fun y hy=>?_⟩
 obtain ⟨d,hd,rfl⟩:=jN hy
 obtain ⟨v,hv,rv⟩:=r1.get (i:=i) (d:=.d d) (by rw [List.getElem?_map,hd];rfl)
 refine ⟨⟨xs,v,SqT.of h1,hv⟩,fun z H'' hz=>?_⟩
 obtain ⟨p,x',hp,rfl,e2,rfl⟩:=hz
 have:=e2 xs (SqT.of h1)
 rw [hv] at this;cases this
 exact vJ w' hp .int rv
noncomputable def aiE (a:AA):AI:=fun ρ M R=>a ρ M fun xs M1=>∃ x l m,xs=[x]/\z0 x M1=some l/\pur l=some m/\R (xT m) (fun M'=>z0 x M'=some l) M1
theorem wH {x:AV}{M M':MH}{l l':List AV}(h:qC x M=some l)(h':z0 x M'=some l'):qC x M'=some l':=by
 rcases qM h' with z | ⟨m,rfl,rfl⟩
 ·exact z
 ·cases h
theorem AL {K:PySem.W.Frag}{t:TA}{a:AA}(h:kS t a):Jk (vg K t) (aiE a):=⟨fun w e q k=>h.go w e q fun xs M1 v H1 O1 ⟨x,l,m,e1,hl,hm,q1⟩ k1 w1 r1=>by
 subst e1
 obtain ⟨v1,r',rfl,a1,r2⟩:=r1.cons_inv
 rw [r2.nil_inv]
 rw [j4 hm] at hl q1
 rcases qM hl with hl' | ⟨m',rfl,e2⟩
 ·obtain ⟨a,xs,rfl,h1,_⟩:=qk w1 a1 hl'
  exact ⟨a,rfl,.inl ⟨⟨xs,SqL.of h1⟩,k _ _ _ _ _ _ q1 k1 w1 ((Jo a1 hl').mono fun M hM=>wH hl' hM)⟩⟩
 ·obtain rfl:m=m':=by have:=congrArg pur e2;rw [zH,zH] at this;cases this;rfl
  obtain ⟨a,xs,rfl,h1,_⟩:=kJ (l:=m.map .d) a1 rfl
  exact ⟨a,rfl,.inr ⟨⟨xs,SqT.of h1⟩,k _ _ _ _ _ _ q1 k1 w1 ((Zm a1).mono fun _ _=>trivial)⟩⟩⟩
structure kU (D:Addr)(H:Hp)(O:Own)(M:MH)(H':Hp)(O':Own)(M':MH):Prop where
 fix:∀ a o,¬ O a->H a=some o->H' a=some o/\¬ O' a
 prv:∀ a,a ≠ D->O a->M a=none->H' a=H a/\O' a/\M' a=none
 mst:∀ a,M a ≠ none->M' a ≠ none
theorem Ext.x {D:Addr}{H H':Hp}{O O':Own}{M M':MH}(k:Ext H O M H' O' M'):kU D H O M H' O' M':=⟨k.fix,fun a _=>k.prv a,k.mst⟩
theorem kU.trans {D:Addr}{H H1 H2:Hp}{O O1 O2:Own}{M M1 M2:MH}(a:kU D H O M H1 O1 M1)(b:kU D H1 O1 M1 H2 O2 M2):kU D H O M H2 O2 M2:=
 ⟨fun x o h e=>let ⟨e1,h1⟩:=a.fix x o h e;b.fix x o h1 e1,fun x hx h e=>by
  obtain ⟨e1,h1,n1⟩:=a.prv x hx h e
  obtain ⟨e2,h2,n2⟩:=b.prv x hx h1 n1
  exact ⟨e2.trans e1,h2,n2⟩,fun x h=>b.mst x (a.mst x h)⟩
theorem kU.set {D:Addr}{H:Hp}{O:Own}{M:MH}(hO:O D)(o:HO):kU D H O M (upd H D o) O M:=⟨xg hO o,fun a ha h e=>⟨zf ha,h,e⟩,fun _ h=>h⟩
theorem Er.imp {H H':Hp}{O O':Own}{M M':MH}{σ:St}{ρ:ASt}(e:Er H O M σ ρ)(k:∀ a o,¬ O a->H a=some o->H' a=some o/\¬ O' a)(hm:∀ a,M a ≠ none->M' a ≠ none):Er H' O' M' σ ρ:=⟨e.len,fun i x h=>let ⟨v,h1,h2⟩:=e.get i x h;⟨v,h1,h2.imp k hm⟩⟩
noncomputable abbrev ATR:=List AV->ASt->MH->(List AV->ASt->MH->Prop)->Prop
structure Z4 (D:Addr)(tr:TR)(a:ATR):Prop where
 go:∀ {σ:St} {H:Hp} {O:Own} {ρ:ASt} {M:MH} {acc:List AV} {ys:List V} {N:St->Hp->Prop} {N':List AV->ASt->MH->Prop},Wf H O M->Er H O M σ ρ->O D->M D=none->H D=some (.lst ys)->zc H O M ys acc->a acc ρ M N' ->
  (∀ acc' ρ' M' σ' H' O' ys',N' acc' ρ' M'->kU D H O M H' O' M'->Wf H' O' M'->Er H' O' M' σ' ρ'->O' D->M' D=none->H' D=some (.lst ys')->zc H' O' M' ys' acc'->N σ' H')->tr σ H N
noncomputable def Qg (a:AE):ATR:=fun acc ρ M N=>a ρ M fun x M1=>acc.length<sizeLine/\N (acc ++ [x]) ρ M1
theorem vE {D:Addr}{t:TE}{a:AE}(h:zA t a):Z4 D (wZ t D) (Qg a):=⟨fun {σ H O ρ M acc ys N N'} w e o m hd r q k=>h.go w e q fun x M1 v H1 O1 ⟨q0,q1⟩ k1 w1 r1=>by
 obtain ⟨e1,o1,m1⟩:=k1.prv D o m
 have r':=r.ext k1
 refine ⟨ys,e1.trans hd,by rw [r.1];exact q0,k _ _ _ _ _ _ (ys ++ [v]) q1 (k1.x.trans (kU.set o1 _)) (wJ w1 o1 m1 (e1.trans hd) _ (fun _ z=>nomatch z)) ((e.ext k1).imp (xg o1 _) (fun _ z=>z)) o1 m1 zh ((r'.snoc r1).imp (xg o1 _) (fun _ z=>z))⟩⟩
noncomputable def Wa (ag:AG)(at_:AT)(tr:ATR)(G:MH->Prop)(N:List AV->ASt->MH->Prop)(l acc:List AV)(ρ:ASt)(M:MH):Prop:=
 ∃ Pv:Nat->List AV->ASt->MH->Prop,Pv 0 acc ρ M/\(∀ i x acc ρ M,l[i]?=some x->Pv i acc ρ M->G M/\ag x ρ M fun ρ2 M2=>at_ ρ2 M2 fun b M3=>if b=true then tr acc ρ2 M3 (Pv (i+1)) else Pv (i+1) acc ρ2 M3)/\∀ acc ρ M,Pv l.length acc ρ M->G M/\N acc ρ M
theorem WV {D:Addr}{g:TG}{tt:TT}{tr:TR}{ag:AG}{at_:AT}{atr:ATR}(hg:vc g ag)(ht:kL tt at_)(hr:Z4 D tr atr){J:It}{H1:Hp}{O1:Own}{M1:MH}{l:List AV}{G:MH->Prop}(hj:xM J H1 O1 M1 l G){N':List AV->ASt->MH->Prop}{N:St->Hp->Prop}
  {σ:St} {ρ:ASt} {acc:List AV} {ys:List V} (w:Wf H1 O1 M1) (e:Er H1 O1 M1 σ ρ) (o:O1 D) (m:M1 D=none) (hd:H1 D=some (.lst ys)) (r:zc H1 O1 M1 ys acc) (q:Wa ag at_ atr G N' l acc ρ M1)
  (k:∀ acc' ρ' M' σ' H' O' ys',N' acc' ρ' M'->kU D H1 O1 M1 H' O' M'->Wf H' O' M'->Er H' O' M' σ' ρ'->O' D->M' D=none->H' D=some (.lst ys')->zc H' O' M' ys' acc'->N σ' H'):CL J g tt tr N σ H1:=by
 obtain ⟨Pv,p0,ps,pd⟩:=q
 refine ⟨fun i n σ H=>n=l.length - i/\i<=l.length/\∃ O ρ M acc ys,Wf H O M/\Er H O M σ ρ/\kU D H1 O1 M1 H O M/\O D/\M D=none/\H D=some (.lst ys)/\zc H O M ys acc/\Pv i acc ρ M,
  ⟨l.length,by simp,Nat.zero_le _,O1,ρ,M1,acc,ys,w,e,Ext.refl.x,o,m,hd,r,p0⟩,?_⟩
 rintro i n σ H ⟨rfl,hi,O,ρ,M,acc,ys,w,e,x,o,m,hd,r,hf⟩
 by_cases hil:i<l.length
 ·have hy:l[i]?=some l[i]:=List.getElem?_eq_getElem hil
  obtain ⟨hG,q2⟩:=ps i l[i] acc ρ M hy hf
  obtain ⟨j1,j2⟩:=(hj H O M x.fix x.mst w hG i).2 l[i] hy
  refine .inr ⟨j1,fun σ' H'=>∃ O ρ M acc ys,Wf H' O M/\Er H' O M σ' ρ/\kU D H1 O1 M1 H' O M/\O D/\M D=none/\H' D=some (.lst ys)/\zc H' O M ys acc/\Pv (i+1) acc ρ M,fun σ' H' z=>⟨l.length - (i+1),by omega,rfl,hil,z⟩,fun v H' hv=>?_⟩
  obtain ⟨k2,w2,r2⟩:=j2 v H' hv
  refine hg.go w2 (e.ext k2) r2 q2 fun σ3 H3 O3 ρ3 M3 q3 k3 w3 e3=>?_
  refine ht.go w3 e3 q3 fun b M4 H4 O4 q4 k4 w4=>?_
  have k24:=(k2.trans k3).trans k4
  obtain ⟨d4,o4,m4⟩:=k24.prv D o m
  have r4:=r.ext k24
  cases b with
  | true=>
   exact hr.go w4 (e3.ext k4) o4 m4 (d4.trans hd) r4 q4 fun acc' ρ' M' σ' H' O' ys' q5 k5 w5 e5 o5 m5 d5 r5=>⟨O',ρ',M',acc',ys',w5,e5,(x.trans k24.x).trans k5,o5,m5,d5,r5,q5⟩
  | false=>
   exact ⟨O4,ρ3,M4,acc,ys,w4,e3.ext k4,x.trans k24.x,o4,m4,d4.trans hd,r4,q4⟩
 ·have e0:i=l.length:=by omega
  subst e0
  obtain ⟨hG,q2⟩:=pd acc ρ M hf
  exact .inl ⟨(hj H O M x.fix x.mst w hG l.length).1 rfl,k _ _ _ _ _ _ _ q2 x w e o m hd r⟩
noncomputable def J1 (ts:List Nat)(ai:AI)(ag:AG)(at_:AT)(atr:ATR):AF:=fun ρ M Q=>ai ρ M fun l G M1=>Wa ag at_ atr G (fun acc _ M'=>Q acc M') l [] (YT ts ρ) M1
theorem wR {ts:List Nat}{wi:TI}{g:TG}{tt:TT}{tr:Addr->TR}{ai:AI}{ag:AG}{at_:AT}{atr:ATR}(hi:Jk wi ai)(hg:vc g ag)(ht:kL tt at_)(hr:∀ D,Z4 D (tr D) atr):vZ (KP ts wi g tt tr) (J1 ts ai ag at_ atr):=⟨fun {σ H O ρ M Q Q'} w e q k=>by
 refine hi.go w e q fun l G M1 J H1 O1 q1 k1 w1 hj D hD=>?_
 have kp:=qv w1 hD (.lst [])
 have hj':xM J (upd H1 D (.lst [])) (yh O1 D) M1 l G:=fun H' O' M' fix mst w' hG=>hj H' O' M' (fun a o ha ho=>fix a o (kp.fix a o ha ho).2 (kp.fix a o ha ho).1) mst w' hG
 refine WV hg ht (hr D) hj' (xF w1 hD _ (fun _ z=>nomatch z)) (((e.ext k1).clr ts).ext kp) (.inl rfl) (w1.fresh hD).2 zh .nil q1 fun acc' ρ' M' σ' H' O' ys' q5 k5 w5 e5 o5 m5 d5 r5=>?_
 have hH:=ki w1 k1 hD
 refine k _ _ _ _ _ _ q5 ⟨fun a o ha ho=>?_,fun a ha hm=>?_,fun a hm=>k5.mst a (k1.mst a hm)⟩ w5 o5 m5 hH d5 r5
 ·obtain ⟨x1,x2⟩:=(k1.trans kp).fix a o ha ho
  exact k5.fix a o x2 x1
 ·obtain ⟨x1,x2,x3⟩:=(k1.trans kp).prv a ha hm
  obtain ⟨y1,y2,y3⟩:=k5.prv a (fun z=>w.ne a ha (by rw [z];exact hH)) x2 x3
  exact ⟨y1.trans x1,y2,y3⟩⟩
theorem Je {ts:List Nat}{wi:TI}{g:TG}{tt:TT}{te:TE}{ai:AI}{ag:AG}{at_:AT}{ae:AE}(hi:Jk wi ai)(hg:vc g ag)(ht:kL tt at_)(he:zA te ae):vZ (Qj ts wi g tt te) (J1 ts ai ag at_ (Qg ae)):=
 ⟨fun w e q k=>(wR (ts:=ts) (tr:=wZ te) hi hg ht fun D=>vE he).go w e q k⟩
noncomputable def aI0 (g:Int->Int->Dat):AR2:=fun x y M Q=>∃ i j,x=.d (.int i)/\y=.d (.int j)/\Q (.d (g i j)) M
theorem Yz {f:Int->Int->Int}:Zl (rI0 fun i j=>.int (f i j)) (aI0 fun i j=>.int (f i j)):=⟨fun w r1 r2 ⟨i,j,e1,e2,q⟩ k=>by
 subst e1 e2;exact ⟨i,j,zI r1,zI r2,k _ _ _ _ _ q .refl w .int⟩⟩
theorem Jy {f:Int->Int->Bool}:Zl (rI0 fun i j=>.bl (f i j)) (aI0 fun i j=>.bl (f i j)):=⟨fun w r1 r2 ⟨i,j,e1,e2,q⟩ k=>by
 subst e1 e2;exact ⟨i,j,zI r1,zI r2,k _ _ _ _ _ q .refl w .bl⟩⟩
noncomputable def eqS:Dat->Dat->Option Bool
 | .non,.non=>some true | .non,.int _=>some false | .int _,.non=>some false | .non,.bl _=>some false | .bl _,.non=>some false | .non,.str _=>some false | .str _,.non=>some false
 | .int i,.int j=>some (decide (i=j)) | .bl a,.bl b=>some (decide (a=b)) | .str a,.str b=>some (decide (a=b))
 | .int _,.str _=>some false | .str _,.int _=>some false | .bl _,.str _=>some false | .str _,.bl _=>some false
 | _,_=>none
noncomputable def qJ:AV->Bool
 | .d .non=>true
 | _=>false
theorem vI {H:Hp}{O:Own}{M:MH}{v:V}{x:AV}(r:zj H O M v x):decide (v=V.non)=qJ x:=by
 cases x with
 | ref a=>rw [r.1];rfl
 | tp l=>obtain ⟨_,_,e,_⟩:=r;rw [e];rfl
 | d x=>cases (show Rep H O v x from r) <;> rfl
noncomputable def A3 (f:Bool->Bool):AR2:=fun x y M Q=>y=.d .non/\Q (.d (.bl (f (qJ x)))) M
theorem Y9:Zl (fun x y H Q=>y=V.non/\Q (V.bl (decide (x=V.non))) H) (A3 id):=⟨fun w r1 r2 ⟨e,q⟩ k=>by
 subst e;exact ⟨Qn r2,by rw [vI r1];exact k _ _ _ _ _ q .refl w .bl⟩⟩
theorem Xx:Zl (fun x y H Q=>y=V.non/\Q (V.bl (!decide (x=V.non))) H) (A3 not):=⟨fun w r1 r2 ⟨e,q⟩ k=>by
 subst e;exact ⟨Qn r2,by rw [vI r1];exact k _ _ _ _ _ q .refl w .bl⟩⟩
theorem Ya {H:Hp}{O:Own}{M:MH}{xs:List V}{l:List AV}(r:zc H O M xs l){i:Int}{x:AV}(h:atI l i=some x):∃ v,atI xs i=some v/\zj H O M v x:=by
 unfold atI at h ⊢
 rw [r.1]
 cases e:ixN l.length i with
 | none=>rw [e] at h;cases h
 | some j=>rw [e] at h;exact r.get h
noncomputable def aIx (s:AV->MH->Option (List AV)):AR2:=fun x y M Q=>∃ l i z,s x M=some l/\y=.d (.int i)/\atI l i=some z/\Q z M
theorem JQ {K:PySem.W.Frag}:Zl (Kw K) (aIx z0):=⟨fun w r1 r2 ⟨l,i,z,h,e,hz,q⟩ k=>by
 subst e
 obtain ⟨a,xs,rfl,h1,r⟩:=yX w r1 h
 obtain ⟨v,hv,rv⟩:=Ya r hz
 exact ⟨a,xs,i,v,rfl,zI r2,h1.elim (fun h=>.inl (SqL.of h)) (fun h=>.inr (SqT.of h)),hv,k _ _ _ _ _ q .refl w rv⟩⟩
structure JN (r:R2)(a:AV->AV->MH->(List AV->Prop)->Prop):Prop where
 go:∀ {x y:V} {dx dy:AV} {H:Hp} {O:Own} {M:MH} {Q:VK} {Q':List AV->Prop},Wf H O M->zj H O M x dx->zj H O M y dy->a dx dy M Q'->(∀ l ys,Q' l->zc H O M ys l->∀ p,H p=none->Q (.ref p) (upd H p (.lst ys)))->r x y H Q
noncomputable def fOp (r:AV->AV->MH->(List AV->Prop)->Prop)(a b:AE):AF:=fun ρ M Q=>a ρ M fun x M1=>b ρ M1 fun y M2=>r x y M2 fun l=>Q l M2
theorem Z7 {r:R2}{ra:AV->AV->MH->(List AV->Prop)->Prop}{t u:TE}{a b:AE}(hr:JN r ra)(h1:zA t a)(h2:zA u b):vZ (tOp r t u) (fOp ra a b):=
 ⟨fun w e q k=>h1.go w e q fun x M1 v H1 O1 q1 k1 w1 r1=>h2.go w1 (e.ext k1) q1 fun y M2 u H2 O2 q2 k2 w2 r2=>hr.go w2 (r1.ext k2) r2 q2 fun l ys q3 r3 p hp=>
  k l M2 p ys _ _ q3 ((k1.trans k2).trans (qv w2 hp _)) (xF w2 hp _ (fun _ z=>nomatch z)) (.inl rfl) (w2.fresh hp).2 (ki w2 (k1.trans k2) hp) zh (r3.ext (qv w2 hp _))⟩
noncomputable def Ag:AV->AV->MH->(List AV->Prop)->Prop:=fun x y M Q=>∃ l m,qC x M=some l/\qC y M=some m/\l.length+m.length<=sizeLine/\Q (l ++ m)
theorem v9:JN Vd Ag:=⟨fun w r1 r2 ⟨l,m,h1,h2,hs,q⟩ k=>by
 obtain ⟨a,xs,rfl,e1,p1⟩:=qk w r1 h1
 obtain ⟨b,ys,rfl,e2,p2⟩:=qk w r2 h2
 exact ⟨a,b,xs,ys,rfl,rfl,e1,e2,by rw [p1.1,p2.1];exact hs,k _ _ q (p1.append p2)⟩⟩
theorem zc.rep {H:Hp}{O:Own}{M:MH}{xs:List V}{l:List AV}(a:zc H O M xs l):∀ k:Nat,zc H O M (List.replicate k xs).flatten (List.replicate k l).flatten
 | 0=>.nil
 | k+1=>by rw [List.replicate_succ,List.replicate_succ,List.flatten_cons,List.flatten_cons];exact a.append (zc.rep a k)
noncomputable def Bh:AV->AV->MH->(List AV->Prop)->Prop:=fun x y M Q=>∃ l k,qC x M=some l/\y=.d (.int k)/\-(2 ^ 63)<=k/\k<2 ^ 63/\l.length * k.toNat<=sizeLine/\Q (List.replicate k.toNat l).flatten
theorem Xl:JN WU Bh:=⟨fun w r1 r2 ⟨l,n,h1,e,b1,b2,hs,q⟩ k=>by
 subst e
 obtain ⟨a,xs,rfl,e1,p1⟩:=qk w r1 h1
 exact ⟨a,n,xs,rfl,zI r2,e1,b1,b2,by rw [p1.1];exact hs,k _ _ q (p1.rep _)⟩⟩
noncomputable abbrev AO:=ASt->MH->(Option Int->MH->Prop)->Prop
structure Yf (t:TO)(a:AO):Prop where
 go:∀ {σ:St} {H:Hp} {O:Own} {ρ:ASt} {M:MH} {Q:Option Int->Hp->Prop} {Q':Option Int->MH->Prop},Wf H O M->Er H O M σ ρ->a ρ M Q'->(∀ x M' H' O',Q' x M'->Ext H O M H' O' M'->Wf H' O' M'->Q x H')->t σ H Q
noncomputable def Bj:AO:=fun _ M Q=>Q none M
noncomputable def VE (a:AE):AO:=fun ρ M Q=>a ρ M fun x M1=>∃ i,x=.d (.int i)/\Q (some i) M1
theorem Ys:Yf yG Bj:=⟨fun w _ q k=>k _ _ _ _ q .refl w⟩
theorem K5 {t:TE}{a:AE}(h:zA t a):Yf (JK t) (VE a):=⟨fun w e q k=>h.go w e q fun x M1 v H1 O1 ⟨i,e1,q1⟩ k1 w1 r1=>by
 subst e1;exact ⟨i,zI r1,k _ _ _ _ q1 k1 w1⟩⟩
noncomputable def kW {α:Type}(xs:List α)(lo hi:Option Int):List α:=(xs.drop (HT.sIx xs.length 0 lo)).take (HT.sIx xs.length xs.length hi - HT.sIx xs.length 0 lo)
theorem zc.cut {H:Hp}{O:Own}{M:MH}{xs:List V}{l:List AV}(a:zc H O M xs l)(lo hi:Option Int):zc H O M (wb xs lo hi) (kW l lo hi):=by
 unfold wb kW
 rw [a.1]
 exact (a.drop _).take _
theorem wt {α β:Type}(f:α->β)(l:List α)(lo hi:Option Int):kW (l.map f) lo hi=(kW l lo hi).map f:=by
 unfold kW
 rw [List.length_map,<- List.map_drop,<- List.map_take]
noncomputable def fSl (a:AE)(lo hi:AO):AF:=fun ρ M Q=>a ρ M fun x M1=>lo ρ M1 fun i M2=>hi ρ M2 fun j M3=>∃ l,qC x M3=some l/\Q (kW l i j) M3
theorem XR {K:PySem.W.Frag}{t:TE}{tl th:TO}{a:AE}{lo hi:AO}(h1:zA t a)(h2:Yf tl lo)(h3:Yf th hi):vZ (tSl (Y2 K) t tl th) (fSl a lo hi):=
 ⟨fun w e q k=>h1.go w e q fun x M1 v H1 O1 q1 k1 w1 r1=>h2.go w1 (e.ext k1) q1 fun i M2 H2 O2 q2 k2 w2=>h3.go w2 (e.ext (k1.trans k2)) q2 fun j M3 H3 O3 ⟨l,hl,q3⟩ k3 w3=>by
  obtain ⟨a,xs,rfl,e1,p1⟩:=qk w3 (r1.ext (k2.trans k3)) hl
  exact ⟨a,xs,rfl,SqL.of e1,fun p hp=>k _ _ p _ _ _ q3 (((k1.trans k2).trans k3).trans (qv w3 hp _)) (xF w3 hp _ (fun _ z=>nomatch z)) (.inl rfl) (w3.fresh hp).2 (ki w3 ((k1.trans k2).trans k3) hp) zh ((p1.cut i j).ext (qv w3 hp _))⟩⟩
theorem XS {H:Hp}{O:Own}{M:MH}(w:Wf H O M){p:Addr}(hp:H p=none){xs:List V}{l:List Dat}(r:zc H O M xs (l.map .d)):zj (upd H p (.tup xs)) O M (.ref p) (.d (.tup l)):=
 have r2:=r.pure
 Rep.tup (w.fresh hp).1 zh r2.1 fun i x d e1 e2=>(r2.2 i x d e1 e2).ext (qi w hp _)
mutual
noncomputable def eqD:Dat->Dat->Bool
 | .non,.non=>true
 | .bl a,.bl b=>a == b
 | .bl a,.int b=>(if a then 1 else 0) == b
 | .int a,.bl b=>a == (if b then 1 else 0)
 | .int a,.int b=>a == b
 | .str a,.str b=>a == b
 | .lst a,.lst b=>kX a b
 | .tup a,.tup b=>kX a b
 | _,_=>false
noncomputable def kX:List Dat->List Dat->Bool
 | [],[]=>true
 | a :: r,b :: r'=>eqD a b && kX r r'
 | _,_=>false
end
mutual
noncomputable def dp:Dat->Nat
 | .lst l=>dps l+1
 | .tup l=>dps l+1
 | .rng _ _ _=>1000
 | .scr _ _=>1000
 | .ty _=>1000
 | _=>0
noncomputable def dps:List Dat->Nat
 | []=>0
 | a :: r=>max (dp a) (dps r)
end
theorem Zw {l:List Dat}{n:Nat}(h:∀ d ∈ l,dp d<=n):dps l<=n:=by
 induction l with
 | nil=>exact Nat.zero_le _
 | cons a r ih=>rw [dps];exact Nat.max_le.mpr ⟨h a (by simp),ih fun d hd=>h d (by simp [hd])⟩
theorem zW {l:List Dat}{d:Dat}(h:d ∈ l):dp d<=dps l:=by
 induction l with
 | nil=>cases h
 | cons a r ih=>
  rw [dps]
  rcases List.mem_cons.mp h with rfl | h
  ·exact Nat.le_max_left _ _
  ·exact Nat.le_trans (ih h) (Nat.le_max_right _ _)
theorem jI:∀ (l m:List Dat),l.length=m.length->kX l m=(List.range l.length).all fun j=>eqD (l.getD j .non) (m.getD j .non)
 | [],[],_=>rfl
 | a :: r,b :: r',h=>by
  rw [kX,jI r r' (by simpa using h),List.length_cons,List.range_succ_eq_map,List.all_cons,List.all_map];rfl
 | [],_ :: _,h=>by simp at h
 | _ :: _,[],h=>by simp at h
theorem jz:∀ (l m:List Dat),l.length ≠ m.length->kX l m=false
 | [],[],h=>absurd rfl h
 | a :: r,b :: r',h=>by rw [kX,jz r r' (fun z=>h (by simp [z])),Bool.and_false]
 | [],_ :: _,h=>by simp [kX]
 | _ :: _,[],h=>by simp [kX]
theorem Xq (l m:List Dat):eqD (.lst l) (.tup m)=false:=by simp [eqD]
theorem K2 (l m:List Dat):eqD (.tup l) (.lst m)=false:=by simp [eqD]
theorem X1 {p:Dat->Prop}(h:∀ a,(∀ b,dp b<dp a->p b)->p a)(a:Dat):p a:=by
 have:∀ n a,dp a<=n->p a:=fun n=>by
  induction n with
  | zero=>intro a ha;exact h a fun b hb=>absurd hb (by omega)
  | succ n ih=>intro a ha;exact h a fun b hb=>ih b (by omega)
 exact this (dp a) a (Nat.le_refl _)
theorem yk {l:List Dat}(h:∀ d ∈ l,eqD d d=true):kX l l=true:=by
 induction l with
 | nil=>rfl
 | cons a r ih=>rw [kX,h a (by simp),ih fun d hd=>h d (by simp [hd])];rfl
theorem wq {a:Dat}:dp a<1000->eqD a a=true:=by
 refine X1 (p:=fun a=>dp a<1000->eqD a a=true) (fun a ih ha=>?_) a
 cases a with
 | non=>rfl
 | bl b=>rw [eqD];simp
 | int i=>rw [eqD];simp
 | str x=>rw [eqD];simp
 | lst l=>
  rw [eqD]
  rw [dp] at ha ih
  exact yk fun d hd=>ih d (by have:=zW hd;omega) (by have:=zW hd;omega)
 | tup l=>
  rw [eqD]
  rw [dp] at ha ih
  exact yk fun d hd=>ih d (by have:=zW hd;omega) (by have:=zW hd;omega)
 | rng a b c=>rw [dp] at ha;omega
 | scr _ l=>rw [dp] at ha;omega
 | ty l=>rw [dp] at ha;omega
theorem Rep.fn {H:Hp}{O O':Own}{v:V}{a b:Dat}(r:Rep H O v a):Rep H O' v b->dp a<1000->dp b<1000->a=b:=by
 induction r generalizing b with
 | non=>intro r' _ _;cases r';rfl
 | bl=>intro r' _ _;cases r';rfl
 | int=>intro r' _ _;cases r';rfl
 | str=>intro r' _ _;cases r';rfl
 | ty=>intro r' h _;rw [dp] at h;omega
 | rng _ _=>intro r' h _;rw [dp] at h;omega
 | scr _ _=>intro r' h _;rw [dp] at h;omega
 | scrK _=>intro r' h _;rw [dp] at h;omega
 | @lst a xs l o1 h1 l1 r1 ih=>
  intro r' ha hb
  cases r' with
  | @lst _ ys m o2 h2 l2 r2=>
   rw [h1] at h2;cases h2
   congr 1
   refine List.ext_getElem (l1.symm.trans l2) fun i i1 i2=>?_
   have i0:i<xs.length:=by omega
   rw [dp] at ha hb
   refine ih i xs[i] l[i] (by simp [i0]) (by simp [i1]) (r2 i xs[i] m[i] (by simp [i0]) (by simp [i2])) ?_ ?_
   ·have:=zW (List.getElem_mem i1);omega
   ·have:=zW (List.getElem_mem i2);omega
  | @tup _ ys m o2 h2=>rw [h1] at h2;cases h2
  | rng o2 h2=>rw [dp] at hb;omega
  | scr o2 h2=>rw [dp] at hb;omega
  | scrK _=>rw [dp] at hb;omega
 | @tup a xs l o1 h1 l1 r1 ih=>
  intro r' ha hb
  cases r' with
  | @tup _ ys m o2 h2 l2 r2=>
   rw [h1] at h2;cases h2
   congr 1
   refine List.ext_getElem (l1.symm.trans l2) fun i i1 i2=>?_
   have i0:i<xs.length:=by omega
   rw [dp] at ha hb
   refine ih i xs[i] l[i] (by simp [i0]) (by simp [i1]) (r2 i xs[i] m[i] (by simp [i0]) (by simp [i2])) ?_ ?_
   ·have:=zW (List.getElem_mem i1);omega
   ·have:=zW (List.getElem_mem i2);omega
  | @lst _ ys m o2 h2=>rw [h1] at h2;cases h2
  | rng o2 h2=>rw [dp] at hb;omega
  | scr o2 h2=>rw [dp] at hb;omega
  | scrK _=>rw [dp] at hb;omega
section
variable {X:Cx}{pins:List (Addr × Obj)}{s:Shared}{σ:St}{H:Hp}
theorem jG {xs:List V}{us:List Value}(r:zq xs us){j:Nat}(h:j<us.toArray.size):∃ x,xs[j]?=some x/\zr x us.toArray[j]:=by
 have h':j<us.length:=by simpa using h
 have hx:j<xs.length:=by rw [r.length];exact h'
 obtain ⟨u,hu,ru⟩:=r.get (i:=j) (List.getElem?_eq_getElem hx)
 have e:us.toArray[j]=u:=by
  have:=(List.getElem?_eq_some_iff.mp hu).2
  simpa using this
 exact ⟨xs[j],List.getElem?_eq_getElem hx,by rw [e];exact ru⟩
theorem Ky (I : Inv X pins σ H s){A : Around}{p q : Addr}{O O' : Own}{a b : Dat}(ih : ∀ (c d : Dat) (v u : V) (v' u' : Value), dp c < dp a -> Rep H O v c -> Rep H O' u d -> dp d < 1000 -> zr v v' -> zr u u' -> SeqAt.EqAt A.in1 s v' u' (eqD c d))
    (ra:Rep H O (.ref p) a) (rb:Rep H O' (.ref q) b) (ha:dp a<1000) (hb:dp b<1000) (hu:A.units<cLine):SeqAt.RcAt A s (.ref p) (.ref q) (eqD a b):=by
  cases ra with
  | @lst _ xs l o1 h1 l1 r1=>
    obtain ⟨us,u1,p1,z1⟩:=I.list (SqL.of h1)
    cases rb with
    | @lst _ ys m o2 h2 l2 r2=>
      obtain ⟨ws,u2,p2,z2⟩:=I.list (SqL.of h2)
      have s1:us.toArray.size=l.length:=by rw [List.size_toArray,<- u1.length,l1]
      have s2:ws.toArray.size=m.length:=by rw [List.size_toArray,<- u2.length,l2]
      by_cases e:l.length=m.length
      · have h := SeqAt.RcAt.lists (A := A) (e := fun j => eqD (l.getD j .non) (m.getD j .non)) p1.isList p2.isList (by rw [s1, s2, e]) hu (fun j j1 j2 => by
          obtain ⟨x,hx,rx⟩:=jG u1 j1
          obtain ⟨y,hy,ry⟩:=jG u2 j2
          have k1:j<l.length:=by rw [<- s1];exact j1
          have k2:j<m.length:=by rw [<- s2];exact j2
          rw [dp] at ha hb ih
          refine ih _ _ x y _ _ ?_ (r1 j x _ hx ?_) (r2 j y _ hy ?_) ?_ rx ry
          · rw [List.getD_eq_getElem?_getD,List.getElem?_eq_getElem k1]
            have:=zW (List.getElem_mem k1);show dp l[j]<_;omega
          · rw [List.getD_eq_getElem?_getD,List.getElem?_eq_getElem k1];rfl
          · rw [List.getD_eq_getElem?_getD,List.getElem?_eq_getElem k2];rfl
          · rw [List.getD_eq_getElem?_getD,List.getElem?_eq_getElem k2]
            have:=zW (List.getElem_mem k2);show dp m[j]<_;omega)
        rw [s1,<- jI l m e] at h
        rw [eqD];exact h
      · rw [eqD,jz l m e]
        exact SeqAt.RcAt.lists_lengths p1.isList p2.isList (by rw [s1,s2];simpa using e) hu
    | @tup _ ys m o2 h2 l2 r2=>
      obtain ⟨ws,u2,p2,z2⟩:=I.tuple (SqT.of h2)
      rw [Xq]
      exact SeqAt.RcAt.list_tuple p1.isList p2 hu
    | rng o2 h2=>rw [dp] at hb;omega
    | scr o2 h2=>rw [dp] at hb;omega
    | scrK _=>rw [dp] at hb;omega
  | @tup _ xs l o1 h1 l1 r1=>
    obtain ⟨us,u1,p1,z1⟩:=I.tuple (SqT.of h1)
    cases rb with
    | @tup _ ys m o2 h2 l2 r2=>
      obtain ⟨ws,u2,p2,z2⟩:=I.tuple (SqT.of h2)
      have s1:us.toArray.size=l.length:=by rw [List.size_toArray,<- u1.length,l1]
      have s2:ws.toArray.size=m.length:=by rw [List.size_toArray,<- u2.length,l2]
      have h := SeqAt.RcAt.tuples (A := A) (e := fun j => eqD (l.getD j .non) (m.getD j .non)) (show s.heap.IsTuple p us.toArray from p1) (show s.heap.IsTuple q ws.toArray from p2) hu (fun j j1 j2 => by
          obtain ⟨x,hx,rx⟩:=jG u1 j1
          obtain ⟨y,hy,ry⟩:=jG u2 j2
          have k1:j<l.length:=by rw [<- s1];exact j1
          have k2:j<m.length:=by rw [<- s2];exact j2
          rw [dp] at ha hb ih
          refine ih _ _ x y _ _ ?_ (r1 j x _ hx ?_) (r2 j y _ hy ?_) ?_ rx ry
          · rw [List.getD_eq_getElem?_getD,List.getElem?_eq_getElem k1]
            have:=zW (List.getElem_mem k1);show dp l[j]<_;omega
          · rw [List.getD_eq_getElem?_getD,List.getElem?_eq_getElem k1];rfl
          · rw [List.getD_eq_getElem?_getD,List.getElem?_eq_getElem k2];rfl
          · rw [List.getD_eq_getElem?_getD,List.getElem?_eq_getElem k2]
            have:=zW (List.getElem_mem k2);show dp m[j]<_;omega)
      rw [s1,s2] at h
      rw [eqD]
      by_cases e:l.length=m.length
      · rw [<- e,Nat.min_self,beq_self_eq_true,Bool.and_true,<- jI l m e] at h
        exact h
      · rw [jz l m e]
        rw [show (l.length == m.length)=false by simpa using e,Bool.and_false] at h
        exact h
    | @lst _ ys m o2 h2 l2 r2=>
      obtain ⟨ws,u2,p2,z2⟩:=I.list (SqL.of h2)
      rw [K2]
      exact SeqAt.RcAt.tuple_list p1 p2.isList hu
    | rng o2 h2=>rw [dp] at hb;omega
    | scr o2 h2=>rw [dp] at hb;omega
    | scrK _=>rw [dp] at hb;omega
  | rng o2 h2=>rw [dp] at ha;omega
  | scr o2 h2=>rw [dp] at ha;omega
  | scrK _=>rw [dp] at ha;omega
theorem Dj (I:Inv X pins σ H s){a:Addr}{xs:List V}(h:H a=some (.lst xs)):∃ us,s.heap.IsList a us:=let ⟨_,_,p,_⟩:=I.list (SqL.of h);⟨_,p.isList⟩
theorem Di (I:Inv X pins σ H s){a:Addr}{xs:List V}(h:H a=some (.tup xs)):∃ us,s.heap.IsTuple a us:=let ⟨_,_,p,_⟩:=I.tuple (SqT.of h);⟨_,p⟩
local macro_rules | `(tactic| walk_at "sc")=>`(tactic| first
 | with_reducible exact .same _ | with_reducible exact .none_none | with_reducible exact .none_bool _ | with_reducible exact .none_int _ _ | with_reducible exact .none_str _ _ | with_reducible exact .bool_none _ | with_reducible exact .bool_bool _ _ | with_reducible exact .bool_int _ _ _ | with_reducible exact .bool_str _ _ _ | with_reducible exact .int_none _ _ | with_reducible exact .int_bool _ _ _ | with_reducible exact .int_int _ _ _ _ | with_reducible exact .int_str _ _ _ _ | with_reducible exact .str_none _ _ | with_reducible exact .str_bool _ _ _ | with_reducible exact .str_int _ _ _ _ | with_reducible exact .str_str _ _ _ _)
theorem ls_ (I:Inv X pins σ H s){a:Addr}{xs:List V}(h:H a=some (.lst xs)):s.heap.IsList a (Classical.choose (Dj I h)):=Classical.choose_spec _
theorem ts_ (I:Inv X pins σ H s){a:Addr}{xs:List V}(h:H a=some (.tup xs)):s.heap.IsTuple a (Classical.choose (Di I h)):=Classical.choose_spec _
local macro_rules | `(tactic| walk_at "sq")=>`(tactic| first
 | with_reducible exact .none_list (ls_ (by assumption) (by assumption)) (by assumption) | with_reducible exact .bool_list _ (ls_ (by assumption) (by assumption)) (by assumption) | with_reducible exact .int_list _ _ (ls_ (by assumption) (by assumption)) (by assumption) | with_reducible exact .str_list _ _ (ls_ (by assumption) (by assumption)) (by assumption) | with_reducible exact .list_none (ls_ (by assumption) (by assumption)) (by assumption) | with_reducible exact .list_bool _ (ls_ (by assumption) (by assumption)) (by assumption) | with_reducible exact .list_int _ _ (ls_ (by assumption) (by assumption)) (by assumption) | with_reducible exact .list_str _ _ (ls_ (by assumption) (by assumption)) (by assumption)
 | with_reducible exact .none_tuple (ts_ (by assumption) (by assumption)) (by assumption) | with_reducible exact .bool_tuple _ (ts_ (by assumption) (by assumption)) (by assumption) | with_reducible exact .int_tuple _ _ (ts_ (by assumption) (by assumption)) (by assumption) | with_reducible exact .str_tuple _ _ (ts_ (by assumption) (by assumption)) (by assumption) | with_reducible exact .tuple_none (ts_ (by assumption) (by assumption)) (by assumption) | with_reducible exact .tuple_bool _ (ts_ (by assumption) (by assumption)) (by assumption) | with_reducible exact .tuple_int _ _ (ts_ (by assumption) (by assumption)) (by assumption) | with_reducible exact .tuple_str _ _ (ts_ (by assumption) (by assumption)) (by assumption))
theorem Qf (I : Inv X pins σ H s){O O' : Own}(A : Around)(hu : A.units < cLine)(a b : Dat)(v u : V)(v' u' : Value)(ha : dp a < 1000)(ra : Rep H O v a)(rb : Rep H O' u b)(hb : dp b < 1000)(rv : zr v v')(ru : zr u u')
    (ih:∀ (c d:Dat) (v u:V) (v' u':Value),dp c<dp a->Rep H O v c->Rep H O' u d->dp d<1000->zr v v'->zr u u'->SeqAt.EqAt A.in1 s v' u' (eqD c d)):SeqAt.EqAt A s v' u' (eqD a b):=by
  by_cases hr:∃ p q,v=.ref p/\u=.ref q
  · obtain ⟨p,q,rfl,rfl⟩:=hr
    cases rv
    cases ru
    by_cases e:p=q
    · subst e
      rw [<- ra.fn rb ha hb,wq ha]
      exact .same _
    · exact .of_refs e (Ky I ih ra rb ha hb hu)
  · cases ra <;> cases rb <;> first
      | with_reducible exact absurd ⟨_,_,rfl,rfl⟩ hr
      | (rw [dp] at ha;omega)
      | (rw [dp] at hb;omega)
      | ((first | (obtain ⟨t0,rfl⟩:=rv) | cases rv);(first | (obtain ⟨t1,rfl⟩:=ru) | cases ru);simp only [eqD,Bool.not_false,Bool.not_true];first | walk_at "sc" | walk_at "sq")
theorem KM (I:Inv X pins σ H s){O O':Own}:∀ (n:Nat) (A:Around),A.units+n<cLine->∀ (a b:Dat) (v u:V) (v' u':Value),dp a<=n->n<1000->Rep H O v a->Rep H O' u b->dp b<1000->zr v v'->zr u u'->SeqAt.EqAt A s v' u' (eqD a b):=by
 intro n
 induction n with
 | zero=>
  intro A hu a b v u v' u' ha _ ra rb hb rv ru
  exact Qf I A (by omega) a b v u v' u' (by omega) ra rb hb rv ru fun _ _ _ _ _ _ h=>absurd h (by omega)
 | succ n ih=>
  intro A hu a b v u v' u' ha hn ra rb hb rv ru
  exact Qf I A (by omega) a b v u v' u' (by omega) ra rb hb rv ru fun c d x y x' y' hc rc rd hd rx ry=>ih A.in1 (by show A.units+1+n<_;omega) c d x y x' y' (by omega) (by omega) rc rd hd rx ry
noncomputable def Ax (f:Bool->Bool):R2:=fun x y H Q=>∃ O O' a b,Rep H O x a/\Rep H O' y b/\dp a<=40/\dp b<=40/\Q (.bl (f (eqD a b))) H
theorem Ba (I:Inv X pins σ H s){O O':Own}(A:Around)(hu:A.units+41<cLine)(a b:Dat)(v u:V)(v' u':Value)(ha:dp a<=40)(ra:Rep H O v a)(rb:Rep H O' u b)(hb:dp b<=40)(rv:zr v v')(ru:zr u u'):SeqAt.RcAt A s v' u' (eqD a b):=by
  have ih:∀ (c d:Dat) (v u:V) (v' u':Value),dp c<dp a->Rep H O v c->Rep H O' u d->dp d<1000->zr v v'->zr u u'->SeqAt.EqAt A.in1 s v' u' (eqD c d):=fun c d v u v' u' hc rc rd hd rv ru=>KM I 40 A.in1 (by show A.units+1+40<_;omega) c d v u v' u' (by omega) (by omega) rc rd hd rv ru
  replace hu:A.units<cLine:=by omega
  by_cases hr:∃ p q,v=.ref p/\u=.ref q
  · obtain ⟨p,q,rfl,rfl⟩:=hr
    cases rv
    cases ru
    exact Ky I ih ra rb (by omega) (by omega) hu
  · cases ra <;> cases rb <;> first
      | with_reducible exact absurd ⟨_,_,rfl,rfl⟩ hr
      | (rw [dp] at ha;omega)
      | (rw [dp] at hb;omega)
      | ((first | (obtain ⟨t0,rfl⟩:=rv) | cases rv);(first | (obtain ⟨t1,rfl⟩:=ru) | cases ru);simp only [eqD,Bool.not_false,Bool.not_true];first | walk_at "sc" | walk_at "sq")
theorem Xb (I : Inv X pins σ H s){A : Around}{p q : Addr}{O O' : Own}{a b : Dat}(ih : ∀ (c d : Dat) (v u : V) (v' u' : Value), dp c < dp a -> Rep H O v c -> Rep H O' u d -> dp d < 1000 -> zr v v' -> zr u u' -> SeqAt.EqAt A.in1 s v' u' (eqD c d))
    (ra:Rep H O (.ref p) a) (rb:Rep H O' (.ref q) b) (ha:dp a<1000) (hb:dp b<1000) (hu:A.units<cLine):SeqAt.RcNeAt A s (.ref p) (.ref q) (!(eqD a b)):=by
  cases ra with
  | @lst _ xs l o1 h1 l1 r1=>
    obtain ⟨us,u1,p1,z1⟩:=I.list (SqL.of h1)
    cases rb with
    | @lst _ ys m o2 h2 l2 r2=>
      obtain ⟨ws,u2,p2,z2⟩:=I.list (SqL.of h2)
      have s1:us.toArray.size=l.length:=by rw [List.size_toArray,<- u1.length,l1]
      have s2:ws.toArray.size=m.length:=by rw [List.size_toArray,<- u2.length,l2]
      by_cases e:l.length=m.length
      · have h := SeqAt.RcNeAt.lists (A := A) (e := fun j => eqD (l.getD j .non) (m.getD j .non)) p1.isList p2.isList (by rw [s1, s2, e]) hu (fun j j1 j2 => by
          obtain ⟨x,hx,rx⟩:=jG u1 j1
          obtain ⟨y,hy,ry⟩:=jG u2 j2
          have k1:j<l.length:=by rw [<- s1];exact j1
          have k2:j<m.length:=by rw [<- s2];exact j2
          rw [dp] at ha hb ih
          refine ih _ _ x y _ _ ?_ (r1 j x _ hx ?_) (r2 j y _ hy ?_) ?_ rx ry
          · rw [List.getD_eq_getElem?_getD,List.getElem?_eq_getElem k1]
            have:=zW (List.getElem_mem k1);show dp l[j]<_;omega
          · rw [List.getD_eq_getElem?_getD,List.getElem?_eq_getElem k1];rfl
          · rw [List.getD_eq_getElem?_getD,List.getElem?_eq_getElem k2];rfl
          · rw [List.getD_eq_getElem?_getD,List.getElem?_eq_getElem k2]
            have:=zW (List.getElem_mem k2);show dp m[j]<_;omega)
        rw [s1,<- jI l m e] at h
        rw [eqD];exact h
      · rw [eqD,jz l m e]
        exact SeqAt.RcNeAt.lists_lengths p1.isList p2.isList (by rw [s1,s2];simpa using e) hu
    | @tup _ ys m o2 h2 l2 r2=>
      obtain ⟨ws,u2,p2,z2⟩:=I.tuple (SqT.of h2)
      rw [Xq]
      exact SeqAt.RcNeAt.list_tuple p1.isList p2 hu
    | rng o2 h2=>rw [dp] at hb;omega
    | scr o2 h2=>rw [dp] at hb;omega
    | scrK _=>rw [dp] at hb;omega
  | @tup _ xs l o1 h1 l1 r1=>
    obtain ⟨us,u1,p1,z1⟩:=I.tuple (SqT.of h1)
    cases rb with
    | @tup _ ys m o2 h2 l2 r2=>
      obtain ⟨ws,u2,p2,z2⟩:=I.tuple (SqT.of h2)
      have s1:us.toArray.size=l.length:=by rw [List.size_toArray,<- u1.length,l1]
      have s2:ws.toArray.size=m.length:=by rw [List.size_toArray,<- u2.length,l2]
      have h := SeqAt.RcNeAt.tuples (A := A) (e := fun j => eqD (l.getD j .non) (m.getD j .non)) (show s.heap.IsTuple p us.toArray from p1) (show s.heap.IsTuple q ws.toArray from p2) hu (fun j j1 j2 => by
          obtain ⟨x,hx,rx⟩:=jG u1 j1
          obtain ⟨y,hy,ry⟩:=jG u2 j2
          have k1:j<l.length:=by rw [<- s1];exact j1
          have k2:j<m.length:=by rw [<- s2];exact j2
          rw [dp] at ha hb ih
          refine ih _ _ x y _ _ ?_ (r1 j x _ hx ?_) (r2 j y _ hy ?_) ?_ rx ry
          · rw [List.getD_eq_getElem?_getD,List.getElem?_eq_getElem k1]
            have:=zW (List.getElem_mem k1);show dp l[j]<_;omega
          · rw [List.getD_eq_getElem?_getD,List.getElem?_eq_getElem k1];rfl
          · rw [List.getD_eq_getElem?_getD,List.getElem?_eq_getElem k2];rfl
          · rw [List.getD_eq_getElem?_getD,List.getElem?_eq_getElem k2]
            have:=zW (List.getElem_mem k2);show dp m[j]<_;omega)
      rw [s1,s2] at h
      rw [eqD]
      by_cases e:l.length=m.length
      · rw [<- e,Nat.min_self,beq_self_eq_true,Bool.and_true,<- jI l m e] at h
        exact h
      · rw [jz l m e]
        rw [show (l.length == m.length)=false by simpa using e,Bool.and_false] at h
        exact h
    | @lst _ ys m o2 h2 l2 r2=>
      obtain ⟨ws,u2,p2,z2⟩:=I.list (SqL.of h2)
      rw [K2]
      exact SeqAt.RcNeAt.tuple_list p1 p2.isList hu
    | rng o2 h2=>rw [dp] at hb;omega
    | scr o2 h2=>rw [dp] at hb;omega
    | scrK _=>rw [dp] at hb;omega
  | rng o2 h2=>rw [dp] at ha;omega
  | scr o2 h2=>rw [dp] at ha;omega
  | scrK _=>rw [dp] at ha;omega
theorem Jv (I:Inv X pins σ H s){O O':Own}(A:Around)(hu:A.units+41<cLine)(a b:Dat)(v u:V)(v' u':Value)(ha:dp a<=40)(ra:Rep H O v a)(rb:Rep H O' u b)(hb:dp b<=40)(rv:zr v v')(ru:zr u u'):SeqAt.RcNeAt A s v' u' (!(eqD a b)):=by
  have ih:∀ (c d:Dat) (v u:V) (v' u':Value),dp c<dp a->Rep H O v c->Rep H O' u d->dp d<1000->zr v v'->zr u u'->SeqAt.EqAt A.in1 s v' u' (eqD c d):=fun c d v u v' u' hc rc rd hd rv ru=>KM I 40 A.in1 (by show A.units+1+40<_;omega) c d v u v' u' (by omega) (by omega) rc rd hd rv ru
  replace hu:A.units<cLine:=by omega
  by_cases hr:∃ p q,v=.ref p/\u=.ref q
  · obtain ⟨p,q,rfl,rfl⟩:=hr
    cases rv
    cases ru
    exact Xb I ih ra rb (by omega) (by omega) hu
  · cases ra <;> cases rb <;> first
      | with_reducible exact absurd ⟨_,_,rfl,rfl⟩ hr
      | (rw [dp] at ha;omega)
      | (rw [dp] at hb;omega)
      | ((first | (obtain ⟨t0,rfl⟩:=rv) | cases rv);(first | (obtain ⟨t1,rfl⟩:=ru) | cases ru);simp only [eqD,Bool.not_false,Bool.not_true];first | walk_at "sc" | walk_at "sq")
theorem Kb (hu:X.A.units+64<cLine):OpR X (compareOp .Eq) (Ax id):=by
 intro pins s σ H x y v u Q I rx ry h
 obtain ⟨O,O',a,b,ra,rb,ha,hb,k⟩:=h
 exact Ba I X.A (by omega) a b x y v u ha ra rb hb rx ry _ _ _ _ ⟨.bl _,H,I,rfl,k⟩
theorem Kr (hu:X.A.units+64<cLine):OpR X (compareOp .NotEq) (Ax not):=by
 intro pins s σ H x y v u Q I rx ry h
 obtain ⟨O,O',a,b,ra,rb,ha,hb,k⟩:=h
 exact Jv I X.A (by omega) a b x y v u ha ra rb hb rx ry _ _ _ _ ⟨.bl _,H,I,rfl,k⟩
end
noncomputable def vQ (x:AV)(M:MH):Option Dat:=match x with
 | .d x=>some x
 | .ref a=>match M a with
  | some (.lst l)=>(pur l).map .lst
  | _=>none
 | .tp _=>none
theorem AM (x:Dat)(M:MH):vQ (.d x) M=some x:=rfl
theorem XE {a:Addr}{M:MH}{l:List AV}{ds:List Dat}(h:M a=some (.lst l))(hp:pur l=some ds):vQ (.ref a) M=some (.lst ds):=by unfold vQ;dsimp only;rw [h];dsimp only;rw [hp];rfl
theorem vt {H:Hp}{O:Own}{M:MH}{v:V}{x:AV}{d:Dat}(w:Wf H O M)(r:zj H O M v x)(h:vQ x M=some d):∃ O',Rep H O' v d:=by
 cases x with
 | tp l=>cases h
 | d x=>cases h;exact ⟨O,r⟩
 | ref a=>
  unfold vQ at h
  dsimp only at h
  cases e:M a with
  | none=>rw [e] at h;cases h
  | some o=>
   rw [e] at h
   cases o with
   | lst l=>
    dsimp only at h
    cases ep:pur l with
    | none=>rw [ep] at h;cases h
    | some ds=>
     rw [ep] at h
     cases h
     obtain ⟨xs,hx,rx⟩:=w.mo a _ e
     rw [j4 ep] at rx
     have rp:=rx.pure
     refine ⟨Yh O a,?_⟩
     rw [r.1]
     exact Rep.lst (fun z=>z.1 rfl) hx rp.1 fun i x d e1 e2=>(rp.2 i x d e1 e2).imp (kz a)
   | _=>cases h
noncomputable def BW (f:Bool->Bool):AR2:=fun x y M Q=>∃ a b,vQ x M=some a/\vQ y M=some b/\dp a<=40/\dp b<=40/\Q (.d (.bl (f (eqD a b)))) M
theorem Yy {f:Bool->Bool}:Zl (Ax f) (BW f):=⟨fun w r1 r2 ⟨a,b,e1,e2,h1,h2,q⟩ k=>by
 obtain ⟨O1,p1⟩:=vt w r1 e1
 obtain ⟨O2,p2⟩:=vt w r2 e2
 exact ⟨O1,O2,a,b,p1,p2,h1,h2,k _ _ _ _ _ q .refl w .bl⟩⟩
theorem xJ (i:Int):dp (.int i)=0:=by simp [dp]
theorem qV {H:Hp}{O:Own}{M:MH}{vs:List V}{x:AV}(r:zc H O M vs [x]):∃ v,vs=[v]/\zj H O M v x:=by
 obtain ⟨v1,r',rfl,a1,r2⟩:=r.cons_inv
 rw [r2.nil_inv];exact ⟨v1,rfl,a1⟩
theorem yJ {H:Hp}{O:Own}{M:MH}{vs:List V}{x y:AV}(r:zc H O M vs [x,y]):∃ v u,vs=[v,u]/\zj H O M v x/\zj H O M u y:=by
 obtain ⟨v1,r',rfl,a1,r2⟩:=r.cons_inv
 obtain ⟨v2,rfl,a2⟩:=qV r2
 exact ⟨v1,v2,rfl,a1,a2⟩
noncomputable def BG:List AV->MH->AK->Prop:=fun xs M Q=>∃ x l,xs=[x]/\z0 x M=some l/\Q (.d (.int (l.length:Nat))) M
theorem Yc {K:PySem.W.Frag}:Zn (fun xs H Q=>∃ p ys,xs=[V.ref p]/\(SqL K H p ys \/ SqT K H p ys)/\Q (V.int ys.length) H) BG:=⟨fun w r ⟨x,l,e,h,q⟩ k=>by
 subst e
 obtain ⟨v,rfl,rv⟩:=qV r
 obtain ⟨a,xs,rfl,h1,r1⟩:=yX w rv h
 exact ⟨a,xs,rfl,h1.elim (fun h=>.inl (SqL.of h)) (fun h=>.inr (SqT.of h)),by rw [r1.1];exact k _ _ _ _ _ q .refl w .int⟩⟩
noncomputable def bI2 (f:Int->Int->Int):List AV->MH->AK->Prop:=fun xs M Q=>∃ i j,xs=[.d (.int i),.d (.int j)]/\Q (.d (.int (f i j))) M
theorem Aq {f:Int->Int->Int}:Zn (fun xs H Q=>∃ i j,xs=[V.int i,V.int j]/\Q (V.int (f i j)) H) (bI2 f):=⟨fun w r ⟨i,j,e,q⟩ k=>by
 subst e
 obtain ⟨v,u,rfl,rv,ru⟩:=yJ r
 exact ⟨i,j,by rw [zI rv,zI ru],k _ _ _ _ _ q .refl w .int⟩⟩
noncomputable def K4:List AV->MH->AK->Prop:=fun xs M Q=>∃ x l ds,xs=[x]/\z0 x M=some l/\pur l=some ds/\Q (.d (.tup ds)) M
theorem QV {K:PySem.W.Frag}:Zn (fun xs H Q=>∃ p ys,xs=[V.ref p]/\((SqL K H p ys/\∀ l,H l=none->Q (V.ref l) (upd H l (HO.tup ys))) \/ SqT K H p ys/\Q (V.ref p) H)) K4:=⟨fun w r ⟨x,l,ds,e,h,hp,q⟩ k=>by
 subst e
 obtain ⟨v,rfl,rv⟩:=qV r
 rw [j4 hp] at h
 rcases qM h with h' | ⟨m,rfl,e2⟩
 ·obtain ⟨a,xs,rfl,h1,r1⟩:=qk w rv h'
  exact ⟨a,xs,rfl,.inl ⟨SqL.of h1,fun p hp=>k _ _ _ _ _ q (qi w hp _) (kF w hp _) (XS w hp r1)⟩⟩
 ·obtain rfl:ds=m:=by have:=congrArg pur e2;rw [zH,zH] at this;cases this;rfl
  obtain ⟨a,xs,rfl,h1,r1⟩:=kJ (l:=ds.map .d) rv rfl
  exact ⟨a,xs,rfl,.inr ⟨SqT.of h1,k _ _ _ _ _ q .refl w rv⟩⟩⟩
structure VR (r:List V->Hp->VK->Prop)(a:List AV->MH->(List AV->Prop)->Prop):Prop where
 go:∀ {vs:List V} {xs:List AV} {H:Hp} {O:Own} {M:MH} {Q:VK} {Q':List AV->Prop},Wf H O M->zc H O M vs xs->a xs M Q'->(∀ l ys,Q' l->zc H O M ys l->∀ p,H p=none->Q (.ref p) (upd H p (.lst ys)))->r vs H Q
noncomputable def fCB (r:List AV->MH->(List AV->Prop)->Prop)(b:AA):AF:=fun ρ M Q=>b ρ M fun xs M1=>r xs M1 fun l=>Q l M1
theorem YL {r:List V->Hp->VK->Prop}{ra:List AV->MH->(List AV->Prop)->Prop}{u:TA}{b:AA}(hr:VR r ra)(h:kS u b):vZ (tCB r u) (fCB ra b):=
 ⟨fun w e q k=>h.go w e q fun x M1 v H1 O1 q1 k1 w1 r1=>hr.go w1 r1 q1 fun l ys q3 r3 p hp=>
  k l M1 p ys _ _ q3 (k1.trans (qv w1 hp _)) (xF w1 hp _ (fun _ z=>nomatch z)) (.inl rfl) (w1.fresh hp).2 (ki w1 k1 hp) zh (r3.ext (qv w1 hp _))⟩
noncomputable def VI:List AV->MH->(List AV->Prop)->Prop:=fun xs M Q=>∃ x l,xs=[x]/\z0 x M=some l/\Q l
theorem Jg {K:PySem.W.Frag}:VR (fun xs H Q=>∃ p ys,xs=[V.ref p]/\(SqL K H p ys \/ SqT K H p ys)/\∀ l,H l=none->Q (V.ref l) (upd H l (HO.lst ys))) VI:=⟨fun w r ⟨x,l,e,h,q⟩ k=>by
 subst e
 obtain ⟨v,rfl,rv⟩:=qV r
 obtain ⟨a,xs,rfl,h1,r1⟩:=yX w rv h
 exact ⟨a,xs,rfl,h1.elim (fun h=>.inl (SqL.of h)) (fun h=>.inr (SqT.of h)),k _ _ q r1⟩⟩
theorem kc {H:Hp}{O:Own}{M:MH}:∀ {ns:List Int} {xs:List V},zc H O M xs (ns.map fun i=>AV.d (.int i))->xs=ns.map V.int
 | [],xs,r=>r.nil_inv
 | i :: ns,xs,r=>by
  obtain ⟨v,r',rfl,a1,r2⟩:=r.cons_inv
  rw [zI a1,kc r2];rfl
noncomputable def tyA (x:AV)(M:MH):Option String:=match x with
 | .d .non=>some "NoneType"
 | .d (.bl _)=>some "bool"
 | .d (.int _)=>some "int"
 | .d (.str _)=>some "str"
 | .d (.lst _)=>some "list"
 | .d (.tup _)=>some "tuple"
 | .tp _=>some "tuple"
 | .ref a=>match M a with
  | some (.lst _)=>some "list"
  | some (.dK _)=>some "dict"
  | some (.dT _)=>some "dict"
  | _=>none
 | _=>none
noncomputable def X3:List Dat->Option (List String)
 | []=>some []
 | .ty n :: r=>(X3 r).map (n :: ·)
 | _=>none
theorem ZG {H:Hp}{O:Own}{M:MH}:∀ {ns:List Bool} {xs:List V},zc H O M xs (ns.map fun i=>AV.d (.bl i))->xs=ns.map V.bl
 | [],xs,r=>r.nil_inv
 | i :: ns,xs,r=>by
  obtain ⟨v,r',rfl,a1,r2⟩:=r.cons_inv
  rw [xy a1,ZG r2];rfl
noncomputable def BO (f:List Bool->Bool):List AV->MH->AK->Prop:=fun xs M Q=>∃ x bs,xs=[x]/\qC x M=some (List.map (fun b=>AV.d (.bl b)) bs)/\Q (.d (.bl (f bs))) M
theorem Y1 {K:PySem.W.Frag}{f:List Bool->Bool}:Zn (fun xs H Q=>∃ p bs,xs=[V.ref p]/\SqL K H p (List.map V.bl bs)/\Q (V.bl (f bs)) H) (BO f):=⟨fun w r ⟨x,bs,e,h,q⟩ k=>by
 subst e
 obtain ⟨v,rfl,rv⟩:=qV r
 obtain ⟨a,xs,rfl,h1,r1⟩:=qk w rv h
 rw [ZG r1] at h1
 exact ⟨a,bs,rfl,SqL.of h1,k _ _ _ _ _ q .refl w .bl⟩⟩
noncomputable def VG:List AV->MH->AK->Prop:=fun xs M Q=>∃ b,xs=[.d (.int b)]/\Q (.d (.rng 0 b 1)) M
theorem JM:Zn (fun xs H Q=>∃ b,xs=[V.int b]/\∀ (p:Addr),H p=none->Q (V.ref p) (upd H p (wO p 0 b 1))) VG:=⟨fun w r ⟨b,e,q⟩ k=>by
 subst e
 obtain ⟨v,rfl,rv⟩:=qV r
 exact ⟨b,by rw [zI rv],fun p hp=>k _ _ _ _ _ q (qi w hp _) (kF w hp _) (Rep.rng (w.fresh hp).1 zh)⟩⟩
structure Wl (r:V->List V->Hp->VK->Prop)(a:AV->List AV->MH->AK->Prop):Prop where
 go:∀ {x:V} {dx:AV} {vs:List V} {xs:List AV} {H:Hp} {O:Own} {M:MH} {Q:VK} {Q':AK},Wf H O M->zj H O M x dx->zc H O M vs xs->a dx xs M Q'->(∀ x M' v H' O',Q' x M'->Ext H O M H' O' M'->Wf H' O' M'->zj H' O' M' v x->Q v H')->r x vs H Q
noncomputable def aBM (r:AV->List AV->MH->AK->Prop)(a:AE)(b:AA):AE:=fun ρ M Q=>a ρ M fun x M1=>(∃ l,qC x M1=some l)/\b ρ M1 fun xs M2=>r x xs M2 Q
theorem Ar {K:PySem.W.Frag}{r:V->List V->Hp->VK->Prop}{ra:AV->List AV->MH->AK->Prop}{t:TE}{u:TA}{a:AE}{b:AA}(hr:Wl r ra)(h1:zA t a)(h2:kS u b):zA (tBM K "list" r t u) (aBM ra a b):=
 ⟨fun w e q k=>h1.go w e q fun x M1 v H1 O1 ⟨⟨l,hl⟩,q1⟩ k1 w1 r1=>⟨by
  obtain ⟨a,xs,rfl,hx,_⟩:=qk w1 r1 hl
  exact .inl ⟨rfl,xs,SqL.of hx⟩,h2.go w1 (e.ext k1) q1 fun y M2 u H2 O2 q2 k2 w2 r2=>hr.go w2 (r1.ext k2) r2 q2 fun z M3 v3 H3 O3 q3 k3 w3 r3=>k z M3 v3 H3 O3 q3 ((k1.trans k2).trans k3) w3 r3⟩⟩
theorem vY {H:Hp}{O:Own}{M:MH}{p:Addr}{l l':List AV}{xs':List V}(w:Wf H O M)(hm:M p=some (.lst l))(r:zc H O M xs' l'):Ext H O M (upd H p (.lst xs')) O (mup M p (.lst l'))/\Wf (upd H p (.lst xs')) O (mup M p (.lst l')):=
 have np:=qG hm
 ⟨qR w np _ _,Zu w np (fun _ z=>nomatch z) ⟨_,zh,r.ext (qR w np _ _)⟩⟩
noncomputable def Qq:AV->List AV->MH->AK->Prop:=fun x xs M Q=>∃ p l y,x=.ref p/\xs=[y]/\M p=some (.lst l)/\l.length<sizeLine/\Q (.d .non) (mup M p (.lst (l ++ [y])))
theorem Zf:Wl xj Qq:=⟨fun w r1 r2 ⟨p,l,y,e1,e2,hm,hs,q⟩ k=>by
 subst e1 e2
 obtain ⟨v,rfl,rv⟩:=qV r2
 obtain ⟨xs,hx,rx⟩:=w.mo p _ hm
 obtain ⟨k1,w1⟩:=vY w hm (rx.snoc rv)
 exact ⟨p,xs,v,r1.1,rfl,hx,by rw [rx.1];exact hs,k _ _ _ _ _ q k1 w1 .non⟩⟩
noncomputable def Qd:AV->List AV->MH->AK->Prop:=fun x xs M Q=>∃ p l y m,x=.ref p/\xs=[y]/\M p=some (.lst l)/\qC y M=some m/\l.length+m.length<=sizeLine/\Q (.d .non) (mup M p (.lst (l ++ m)))
theorem Zs:Wl xh Qd:=⟨fun w r1 r2 ⟨p,l,y,m,e1,e2,hm,hy,hs,q⟩ k=>by
 subst e1 e2
 obtain ⟨v,rfl,rv⟩:=qV r2
 obtain ⟨xs,hx,rx⟩:=w.mo p _ hm
 obtain ⟨b,ys,rfl,hb,rb⟩:=qk w rv hy
 obtain ⟨k1,w1⟩:=vY w hm (rx.append rb)
 exact ⟨p,b,xs,ys,r1.1,rfl,hx,hb,by rw [rx.1,rb.1];exact hs,k _ _ _ _ _ q k1 w1 .non⟩⟩
noncomputable def Qm (r:Addr):MO->Prop
 | .lst l=>∃ x ∈ l,x.Has r
 | .dK kvs=>∃ x ∈ kvs.map (·.2),x.Has r
 | .dT kvs=>∃ x ∈ kvs.map (·.2),x.Has r
 | .dN kvs=>∃ x ∈ kvs.map (·.2),x.Has r
 | .ins _ fs=>∃ x ∈ fs.map (·.2),x.Has r
 | .exc _ _=>False
 | .tb _=>False
inductive Dee (M M2:MH):AV->Dat->Prop
 | d {x:Dat}:Dee M M2 (.d x) x
 | lst {p:Addr} {l:List AV} {ds:List Dat}:M p=some (.lst l)->M2 p=none->l.length=ds.length->(∀ (i:Nat) a b,l[i]?=some a->ds[i]?=some b->Dee M M2 a b)->Dee M M2 (.ref p) (.lst ds)
structure QS (M0 M':MH)(x x':AV)(M'':MH):Prop where
 sub:∀ q,M'' q=M' q \/ (M0 q=none/\M'' q=none)
 cl:∀ q o,M'' q=some o->M0 q=some o \/ ∀ r,Qm r o->M'' r ≠ none
 res:(x'=x/\∀ p,x.Has p->M'' p ≠ none) \/ (∃ p l ds,x=.ref p/\M' p=some (.lst l)/\pur l=some ds/\M'' p=none/\x'=.d (.lst ds)) \/ ∃ d,Dee M' M'' x d/\x'=.d d
theorem Dee.rep {H:Hp}{O:Own}{M M2:MH}(w:Wf H O M){x:AV}{d:Dat}(h:Dee M M2 x d):∀ {v:V},zj H O M v x->Rep H (fun a=>O a/\¬ (M a ≠ none/\M2 a=none)) v d:=by
 induction h with
 | d=>exact fun r=>Rep.imp (fun a u h e=>⟨e,fun z=>h z.1⟩) r
 | @lst p l ds hm hn hl _ ih=>
  intro v r
  obtain ⟨xs,hx,rx⟩:=w.mo p _ hm
  rw [r.1]
  refine Rep.lst (fun z=>z.2 ⟨qG hm,hn⟩) hx (rx.1.trans hl) fun i x d e1 e2=>?_
  have hi:=(List.getElem?_eq_some_iff.mp e2).1
  have ha:l[i]?=some (l[i]'(by omega)):=List.getElem?_eq_getElem (by omega)
  exact ih i _ d ha e2 (rx.2 i x _ e1 ha)
theorem Y7 {H0 H : Hp}{O0 O : Own}{M0 M' M'' : MH}{x x' : AV}{v : V}(w0 : Wf H0 O0 M0)(w : Wf H O M')(k : Ext H0 O0 M0 H O M')(r : zj H O M' v x)(f : QS M0 M' x x' M'') :
    ∃ O'',Wf H O'' M''/\Ext H0 O0 M0 H O'' M''/\zj H O'' M'' v x'/\∀ a,O a->M' a=none->O'' a/\M'' a=none:=by
  have ks:∀ a u,¬ O a->H a=some u->H a=some u/\¬ (O a/\¬ (M' a ≠ none/\M'' a=none)):=fun a u h e=>⟨e,fun z=>h z.1⟩
  have k0:∀ a,M0 a ≠ none->M'' a=M' a:=fun a h=>(f.sub a).elim (fun z=>z) (fun z=>absurd z.1 h)
  have m0:∀ a,M0 a ≠ none->M'' a ≠ none:=fun a h=>by rw [k0 a h];exact k.mst a h
  have tpk:∀ {v:V} {m:List (Dat ⊕ Addr)},zj H O M' v (.tp m)->(∀ r,Sum.inr r ∈ m->M'' r ≠ none)->zj H (fun a=>O a/\¬ (M' a ≠ none/\M'' a=none)) M'' v (.tp m):=fun {v m} ⟨a,xs,h1,h2,h3,h4,h5⟩ hr=>⟨a,xs,h1,fun z=>h2 z.1,h3,h4,fun i y d e1 e2=>by
    have:=h5 i y d e1 e2
    cases d with
    | inl d=>exact Rep.imp ks this
    | inr q=>exact ⟨this.1,hr q (List.mem_of_getElem? e2)⟩⟩
  have avs:∀ {xs:List V} {l:List AV},zc H O M' xs l->(∀ r,(∃ x ∈ l,x.Has r)->M'' r ≠ none)->zc H (fun a=>O a/\¬ (M' a ≠ none/\M'' a=none)) M'' xs l:=fun {xs l} rr hr=>⟨rr.1,fun i y d e1 e2=>by
    have:=rr.2 i y d e1 e2
    cases d with
    | d d=>exact Rep.imp ks this
    | ref a=>exact ⟨this.1,hr a ⟨_,List.mem_of_getElem? e2,rfl⟩⟩
    | tp m=>exact tpk this fun r h=>hr r ⟨_,List.mem_of_getElem? e2,h⟩⟩
  have refs0:∀ q o,M0 q=some o->∀ r,Qm r o->M0 r ≠ none:=fun q o e r hr=>by
    have:=w0.mo q o e
    cases o with
    | lst l=>
      obtain ⟨xs,_,rr⟩:=this
      obtain ⟨x,hx,hh⟩:=hr
      obtain ⟨i,hi⟩:=List.getElem?_of_mem hx
      obtain ⟨y,_,ry⟩:=rr.get hi
      exact ry.has hh
    | dK l=>
      obtain ⟨xs,_,rr⟩:=this
      obtain ⟨x,hx,hh⟩:=hr
      obtain ⟨i,hi⟩:=List.getElem?_of_mem hx
      obtain ⟨y,_,ry⟩:=rr.2.get hi
      exact ry.has hh
    | dN l=>
      obtain ⟨xs,_,rr,_⟩:=this
      obtain ⟨x,hx,hh⟩:=hr
      obtain ⟨i,hi⟩:=List.getElem?_of_mem hx
      obtain ⟨y,_,ry⟩:=rr.2.get hi
      exact ry.has hh
    | dT l=>
      obtain ⟨xs,_,rr⟩:=this
      obtain ⟨x,hx,hh⟩:=hr
      obtain ⟨i,hi⟩:=List.getElem?_of_mem hx
      obtain ⟨y,_,ry⟩:=rr.2.get hi
      exact ry.has hh
    | ins C l=>
      obtain ⟨dx,xs,_,rr,_⟩:=this
      obtain ⟨x,hx,hh⟩:=hr
      obtain ⟨i,hi⟩:=List.getElem?_of_mem hx
      obtain ⟨y,_,ry⟩:=rr.2.get hi
      exact ry.has hh
    | exc C l=>exact hr.elim
    | tb R=>exact hr.elim
  refine ⟨fun a=>O a/\¬ (M' a ≠ none/\M'' a=none),⟨fun q o e=>?_,fun a h=>?_,fun a h=>w.al a h.1⟩,⟨fun a u h e=>?_,fun a h e=>?_,m0⟩,?_,fun a h e=>⟨⟨h,fun z=>z.1 e⟩,(f.sub a).elim (fun z=>z.trans e) (fun z=>z.2)⟩⟩
  · have e' : M' q = some o := by
      rcases f.sub q with z | z
      · rw [<- z];exact e
      · rw [z.2] at e;cases e
    have hr:∀ r,Qm r o->M'' r ≠ none:=by
      rcases f.cl q o e with z | z
      · exact fun r hr=>m0 r (refs0 q o z r hr)
      · exact z
    have:=w.mo q o e'
    cases o with
    | lst l=>obtain ⟨xs,h1,rr⟩:=this;exact ⟨xs,h1,avs rr hr⟩
    | dK l=>obtain ⟨xs,h1,rr⟩:=this;exact ⟨xs,h1,rr.1,avs rr.2 hr⟩
    | dT l=>obtain ⟨xs,h1,rr⟩:=this;exact ⟨xs,h1,rr.1,avs rr.2 hr⟩
    | dN l=>obtain ⟨xs,h1,rr,hp⟩:=this;exact ⟨xs,h1,⟨rr.1,avs rr.2 hr⟩,fun x hx=>(hp x hx).imp ks⟩
    | ins C l=>
      obtain ⟨dx,xs,h1,rr,h2,h3,h4⟩:=this
      refine ⟨dx,xs,h1,⟨rr.1,avs rr.2 hr⟩,⟨h2,fun z=>z.1 h3⟩,?_,h4⟩
      rcases f.sub dx with z | z
      · rw [z];exact h3
      · exact z.2
    | exc C l=>
      obtain ⟨d,h1,h2⟩:=this
      refine ⟨d,h1,?_⟩
      rcases h2 with h2 | ⟨dx,e1,h2,h3,h4⟩
      · exact .inl h2
      · refine .inr ⟨dx,e1,h2,⟨h3,fun z=>z.1 h4⟩,?_⟩
        rcases f.sub dx with z | z
        · rw [z];exact h4
        · exact z.2
    | tb R=>obtain ⟨ps,h1,h2⟩:=this;exact ⟨ps,h1,h2.imp id fun ⟨c,oc,u,a1,a2,a3⟩=>⟨c,oc,u,a1,fun z=>a2 z.1,a3⟩⟩
  · refine ⟨w.own a ?_,fun z=>h z.2⟩
    rcases f.sub a with z | z
    · rw [<- z];exact h
    · exact absurd z.2 h
  · obtain ⟨x1,x2⟩:=k.fix a u h e
    exact ⟨x1,fun z=>x2 z.1⟩
  · obtain ⟨x1,x2,x3⟩:=k.prv a h e
    refine ⟨x1,⟨x2,fun z=>z.1 x3⟩,?_⟩
    rcases f.sub a with z | z
    · rw [z];exact x3
    · exact z.2
  · rcases f.res with ⟨rfl,hp⟩ | ⟨p,l,ds,rfl,hm,hp,hn,rfl⟩ | ⟨d,hd,rfl⟩
    · cases x' with
      | d d=>exact Rep.imp ks r
      | ref a=>exact ⟨r.1,hp a rfl⟩
      | tp m=>exact tpk r hp
    · obtain ⟨xs,hx,rx⟩:=w.mo p _ hm
      rw [j4 hp] at rx
      have rp:=rx.pure
      rw [r.1]
      exact Rep.lst (fun z=>z.2 ⟨qG hm,hn⟩) hx rp.1 fun i x d e1 e2=>(rp.2 i x d e1 e2).imp ks
    · exact hd.rep w r
theorem Xi {H0 H:Hp}{O0 O:Own}{M0 M' M'':MH}{x x':AV}{v:V}(w0:Wf H0 O0 M0)(w:Wf H O M')(k:Ext H0 O0 M0 H O M')(r:zj H O M' v x)(f:QS M0 M' x x' M'') :
  ∃ O'',Wf H O'' M''/\Ext H0 O0 M0 H O'' M''/\zj H O'' M'' v x':=let ⟨O2,a,b,c,_⟩:=Y7 w0 w k r f;⟨O2,a,b,c⟩
noncomputable def Fr (M0 M:MH):Prop:=∀ q,M0 q ≠ none->M q=M0 q
theorem Fr.refl {M:MH}:Fr M M:=fun _ _=>rfl
theorem Fr.mup {M0 M:MH}(f:Fr M0 M){p:Addr}(h:M0 p=none)(o:MO):Fr M0 (mup M p o):=fun q hq=>by rw [zo (fun z=>hq (by rw [z];exact h))];exact f q hq
theorem Fr.trans {M0 M1 M2:MH}(a:Fr M0 M1)(b:Fr M1 M2):Fr M0 M2:=fun q hq=>by rw [b q (by rw [a q hq];exact hq),a q hq]
theorem Fr.sub {M0 M:MH}(f:Fr M0 M)(q:Addr):M0 q=M q \/ (M0 q=none/\M0 q=none):=by
 cases e:M0 q with
 | none=>exact .inr ⟨rfl,rfl⟩
 | some o=>exact .inl (by rw [f q (by rw [e];exact fun z=>nomatch z),e])
theorem BK {M0 M:MH}(f:Fr M0 M)(d:Dat):QS M0 M (.d d) (.d d) M0:=⟨f.sub,fun q o e=>.inl e,.inl ⟨rfl,fun p z=>nomatch z⟩⟩
theorem Vg {M0 M:MH}(f:Fr M0 M){p:Addr}{l:List AV}{ds:List Dat}(h0:M0 p=none)(h:M p=some (.lst l))(hp:pur l=some ds):QS M0 M (.ref p) (.d (.lst ds)) M0:=⟨f.sub,fun q o e=>.inl e,.inr (.inl ⟨p,l,ds,rfl,h,hp,h0,rfl⟩)⟩
noncomputable def ja (N:List Str)(xs:List AV):ASt:=xs.map some ++ List.replicate (N.length - xs.length) none
theorem Xu {H:Hp}{O:Own}{M:MH}{vs:List V}{xs:List AV}(r:zc H O M vs xs)(N:List Str):Er H O M (qx N vs) (ja N xs):=by
 unfold qx ja
 refine ⟨by simp [r.1],fun i x h=>?_⟩
 by_cases c:i<xs.length
 ·rw [List.getElem?_append_left (by simpa using c),List.getElem?_map] at h
  cases e:xs[i]? with
  | none=>rw [e] at h;cases h
  | some y=>
   rw [e] at h
   cases h
   obtain ⟨v,hv,rv⟩:=r.get e
   exact ⟨v,by rw [List.getElem?_append_left (by rw [List.length_map,r.1];exact c),List.getElem?_map,hv];rfl,rv⟩
 ·rw [List.getElem?_append_right (by simp;omega),List.getElem?_replicate] at h
  split at h <;> cases h
noncomputable def rtA (M0:MH)(Q:AK):AK:=fun x M'=>∃ x' M'',QS M0 M' x x' M''/\Q x' M''
theorem dfA {P:Program}{w:World}{K:PySem.W.Frag}{mg:Str->Option Value}{base:Heap}{x:Str}{st:Stmt}{N ps:List Str}{k:Nat}{a:ASp}(at_:At K mg x st)(S:zE N ps (zn st))
  (hb:∀ (kV doc pm:Value) (an:Option Addr) (cdv ct:Value) (us:List Value),us.length=ps.length->bindArgs (PySem.W.fnOf x x (qP st) (qj st) (zn st) .none kV doc pm an cdv ct) ⟨us,[]⟩=pure (ps.zip us))
  (len:∀ xs M Q,a xs M Q->xs.length=ps.length)
  (hbody:∀ (f:Addr) (cdv:Value) (A:Around) (outer:List Env) (s:Shared) (H:Hp) (E:XK),qZ k (A.deeper (envOfC x (zn st) s.heap.objs.size f cdv)) ->
   ∃ t,PSs (vd CX0 P w K mg base N x (zn st) f cdv A outer s H E).nox (qj st) t/\∃ b,jg t b/\∀ xs M Q,a xs M Q->b M { nx:=fun _ M'=>rtA M Q (.d .non) M',rt:=rtA M Q } (ja N xs) M):Df P w K mg base x ps (k+1) (cSp a):=by
 refine xN at_ S hb (fun vs H Q E h=>?_) (fun f cdv A outer s H vs Q E hr h=>?_)
 ·obtain ⟨xs,M,O,Q',w,r,q,_⟩:=h
  rw [r.1];exact len xs M Q' q
 ·obtain ⟨t,ht,b,hb,hq⟩:=hbody f cdv A outer s H E hr
  refine ⟨t,ht,?_⟩
  obtain ⟨xs,M,O,Q',w,r,q,kk⟩:=h
  refine hb.go w w (Xu r N) .refl (hq xs M Q' q) ⟨fun σ H' O' ρ M' w' e' x' q'=>?_,fun v y H' O' M' w' x' r' q'=>?_,fun _ _ _ _ _ _ _ _ z=>z.elim,fun _ _ _ _ _ _ _ _ z=>z.elim⟩
  ·obtain ⟨y',M'',f,q2⟩:=q'
   obtain ⟨O'',w2,k2,r2⟩:=Xi w w' x' (show zj H' O' M' .non (.d .non) from .non) f
   exact kk _ _ _ _ _ q2 k2 w2 r2
  ·obtain ⟨y',M'',f,q2⟩:=q'
   obtain ⟨O'',w2,k2,r2⟩:=Xi w w' x' r' f
   exact kk _ _ _ _ _ q2 k2 w2 r2
structure Dg (tr:Addr->TR)(a:ATR):Prop where
 go:∀ D,Z4 D (tr D) a
theorem XH {t u:TE}{a b:AE}(h1:zA t a)(h2:zA u b):zA (tOp Vd t u) (aFz (fOp Ag a b)):=ZS (Z7 v9 h1 h2)
theorem ex2 {t:TS}{q:AS->Prop}{b:AS}(h:jg t b)(k:q b):∃ b,jg t b/\q b:=⟨b,h,k⟩
section
variable {X:Cx}{K:PySem.W.Frag}
end
theorem vR {α:Type}(F:α->Dat)(l:List α):pur (l.map fun a=>AV.d (F a))=some (l.map F):=by
 have:(l.map fun a=>AV.d (F a))=(l.map F).map .d:=by rw [List.map_map];rfl
 rw [this,zH]
theorem V2:isT "int" "int"=some true:=by decide +kernel
theorem WK:isT "int" "bool"=some false:=by decide +kernel
theorem WT:isT "int" "str"=some false:=by decide +kernel
theorem Bb:isT "int" "list"=some false:=by decide +kernel
theorem A1:isT "int" "tuple"=some false:=by decide +kernel
theorem Wh:isT "bool" "int"=some true:=by decide +kernel
theorem VZ:isT "bool" "bool"=some true:=by decide +kernel
theorem V0:isT "bool" "str"=some false:=by decide +kernel
theorem WD:isT "bool" "list"=some false:=by decide +kernel
theorem Wr:isT "bool" "tuple"=some false:=by decide +kernel
theorem W2:isT "str" "int"=some false:=by decide +kernel
theorem AD:isT "str" "bool"=some false:=by decide +kernel
theorem A0:isT "str" "str"=some true:=by decide +kernel
theorem W3:isT "str" "list"=some false:=by decide +kernel
theorem Au:isT "str" "tuple"=some false:=by decide +kernel
theorem VT:isT "NoneType" "int"=some false:=by decide +kernel
theorem Wz:isT "NoneType" "bool"=some false:=by decide +kernel
theorem Wp:isT "NoneType" "str"=some false:=by decide +kernel
theorem As:isT "NoneType" "list"=some false:=by decide +kernel
theorem VW:isT "NoneType" "tuple"=some false:=by decide +kernel
theorem Wk:isT "list" "int"=some false:=by decide +kernel
theorem AY:isT "list" "bool"=some false:=by decide +kernel
theorem WG:isT "list" "str"=some false:=by decide +kernel
theorem VY:isT "list" "list"=some true:=by decide +kernel
theorem Wy:isT "list" "tuple"=some false:=by decide +kernel
theorem Av:isT "tuple" "int"=some false:=by decide +kernel
theorem Aw:isT "tuple" "bool"=some false:=by decide +kernel
theorem Az:isT "tuple" "str"=some false:=by decide +kernel
theorem V8:isT "tuple" "list"=some false:=by decide +kernel
theorem Ab:isT "tuple" "tuple"=some true:=by decide +kernel
theorem Wv:wF "int" ["list","tuple"]=some false:=by decide +kernel
theorem Wx:wF "bool" ["list","tuple"]=some false:=by decide +kernel
theorem Wd:wF "str" ["list","tuple"]=some false:=by decide +kernel
theorem Wo:wF "NoneType" ["list","tuple"]=some false:=by decide +kernel
theorem WW:wF "list" ["list","tuple"]=some true:=by decide +kernel
theorem A7:wF "tuple" ["list","tuple"]=some true:=by decide +kernel
theorem Km:X3 []=some []:=rfl
theorem Qx {n:String}{r:List Dat}:X3 (.ty n :: r)=(X3 r).map (n :: ·):=rfl
theorem Be (M:MH):tyA (.d .non) M=some "NoneType":=rfl
theorem B3 (b:Bool)(M:MH):tyA (.d (.bl b)) M=some "bool":=rfl
theorem BC (i:Int)(M:MH):tyA (.d (.int i)) M=some "int":=rfl
theorem BM (s:Str)(M:MH):tyA (.d (.str s)) M=some "str":=rfl
theorem B0 (l:List Dat)(M:MH):tyA (.d (.lst l)) M=some "list":=rfl
theorem Bp (l:List Dat)(M:MH):tyA (.d (.tup l)) M=some "tuple":=rfl
theorem Qu (x:Dat)(r:List AV):pur (.d x :: r)=match pur r with | some l=>some (x :: l) | none=>none:=rfl
theorem A5 (i j:Int):eqS (.int i) (.int j)=some (decide (i=j)):=rfl
theorem AJ (i j:Bool):eqS (.bl i) (.bl j)=some (decide (i=j)):=rfl
theorem WP (i j:Str):eqS (.str i) (.str j)=some (decide (i=j)):=rfl
theorem Yg:qJ (.d .non)=true:=rfl
theorem Vo (i:Int):qJ (.d (.int i))=false:=rfl
theorem YU (i:List Dat):qJ (.d (.lst i))=false:=rfl
theorem Vj (i:List Dat):qJ (.d (.tup i))=false:=rfl
theorem X0 (i:Addr):qJ (.ref i)=false:=rfl
theorem YM (i:Str):qJ (.d (.str i))=false:=rfl
theorem XY (i:Bool):qJ (.d (.bl i))=false:=rfl
theorem Ze {H H':Hp}{O:Own}{M:MH}(w:Wf H O M)(k:Kp [] H H'):Ext H O M H' O M/\Wf H' O M:=by
 have e:Ext H O M H' O M:=⟨fun a o h e=>⟨k a o (by simp) e,h⟩,fun a h e=>⟨by
  obtain ⟨o,ho,_⟩:=w.al a h
  rw [ho];exact k a o (by simp) ho,h,e⟩,fun _ h=>h⟩
 refine ⟨e,⟨fun a o h=>ql.ext e ?_ (w.mo a o h),w.own,fun a h=>?_⟩⟩
 ·obtain ⟨u,hu,_⟩:=w.al a (w.own a (by rw [h];exact fun z=>nomatch z))
  rw [hu];exact k a u (by simp) hu
 ·obtain ⟨o,ho,hn⟩:=w.al a h
  exact ⟨o,k a o (by simp) ho,hn⟩
theorem W6 {H H':Hp}{O:Own}{M:MH}(w:Wf H O M){b:Addr}{l:List AV}(hb:M b=some (.lst l))(k:Kp [b] H H'){ns:List Int}(h:H' b=some (.lst (ns.map V.int))) :
  Ext H O M H' O (mup M b (.lst (ns.map fun i=>.d (.int i))))/\Wf H' O (mup M b (.lst (ns.map fun i=>.d (.int i)))):=by
 have hOb:=w.own b (qG hb)
 have kk:∀ a o,a ≠ b->H a=some o->H' a=some o:=fun a o ha e=>k a o (by simpa using ha) e
 have e:Ext H O M H' O (mup M b (.lst (ns.map fun i=>.d (.int i)))):=⟨fun a o h e=>⟨kk a o (fun z=>h (by rw [z];exact hOb)) e,h⟩,fun a ha e=>by
  have hne:a ≠ b:=fun z=>by rw [z,hb] at e;cases e
  obtain ⟨o,ho,_⟩:=w.al a ha
  exact ⟨by rw [ho];exact kk a o hne ho,ha,by rw [zo hne];exact e⟩,fun a ha=>by
  by_cases c:a=b
  ·rw [c,ze];exact fun z=>nomatch z
  ·rw [zo c];exact ha⟩
 refine ⟨e,⟨fun a o ho=>?_,fun a ha=>?_,fun a ha=>?_⟩⟩
 ·by_cases c:a=b
  ·subst c;rw [ze] at ho;cases ho;exact ⟨_,h,KH ns⟩
  ·rw [zo c] at ho
   refine ql.ext e ?_ (w.mo a o ho)
   obtain ⟨u,hu,_⟩:=w.al a (w.own a (qG ho))
   rw [hu];exact kk a u c hu
 ·by_cases c:a=b
  ·rw [c];exact hOb
  ·rw [zo c] at ha;exact w.own a ha
 ·by_cases c:a=b
  ·rw [c];exact ⟨_,h,fun xs z=>nomatch z⟩
  ·obtain ⟨o,ho,hn⟩:=w.al a ha
   exact ⟨o,kk a o c ho,hn⟩
theorem xo {H:Hp}{O:Own}{p:Addr}{ns:List Int}(ho:¬ O p)(h:H p=some (.lst (ns.map V.int))):Rep H O (.ref p) (.lst (ns.map .int)):=
 Rep.lst ho h (by simp) fun i x d e1 e2=>by
  rw [List.getElem?_map] at e1 e2
  cases e:ns[i]? with
  | none=>rw [e] at e1;cases e1
  | some n=>rw [e] at e1 e2;cases e1;cases e2;exact .int
theorem J8 {H:Hp}{O:Own}{M:MH}{v:V}{x:AV}{ns:List Int}(w:Wf H O M)(r:zj H O M v x)(h:z0 x M=some (ns.map fun i=>.d (.int i))):∃ a,v=.ref a/\(H a=some (.lst (ns.map V.int)) \/ H a=some (.tup (ns.map V.int))):=by
 obtain ⟨a,xs,rfl,h1,r1⟩:=yX w r h
 rw [kc r1] at h1
 exact ⟨a,rfl,h1⟩
theorem K8 {H:Hp}{O:Own}{M:MH}{v:V}{x:AV}{ns:List Int}(w:Wf H O M)(r:zj H O M v x)(h:qC x M=some (ns.map fun i=>.d (.int i))):∃ a,v=.ref a/\H a=some (.lst (ns.map V.int)):=by
 obtain ⟨a,xs,rfl,h1,r1⟩:=qk w r h
 rw [kc r1] at h1
 exact ⟨a,rfl,h1⟩
theorem Df.imp' {P:Program}{w:World}{K:PySem.W.Frag}{mg:Str->Option Value}{base:Heap}{x:Str}{ps:List Str}{sp sp':Sp}{k:Nat}(D:Df P w K mg base x ps k sp)(h:∀ vs H Q E,sp' vs H Q E->sp vs H Q E):Df P w K mg base x ps k sp':=
 let ⟨f,fd,F,r⟩:=D
 ⟨f,fd,F.imp h,r⟩
mutual
noncomputable def wdt:Dat->Nat
 | .lst l=>max l.length (V4 l)
 | .tup l=>max l.length (V4 l)
 | _=>0
noncomputable def V4:List Dat->Nat
 | []=>0
 | a :: r=>max (wdt a) (V4 r)
end
theorem B2 (b:Bool):dp (.bl b)=0:=by simp [dp]
theorem XI (b:Str):dp (.str b)=0:=by simp [dp]
theorem A9:dp .non=0:=by simp [dp]
theorem Wj (a b:Bool):eqD (.bl a) (.bl b)=decide (a=b):=by rw [eqD];cases a <;> cases b <;> rfl
theorem wV (a b:Int):eqD (.int a) (.int b)=decide (a=b):=by rw [eqD];by_cases h:a=b <;> simp [h]
theorem KN (a b:Str):eqD (.str a) (.str b)=decide (a=b):=by rw [eqD];by_cases h:a=b <;> simp [h]
theorem WB:eqD .non .non=true:=by simp [eqD]
theorem AN (i:Int):eqD .non (.int i)=false:=by simp [eqD]
theorem V6 (i:Int):eqD (.int i) .non=false:=by simp [eqD]
theorem A4 (i:Int)(s:Str):eqD (.int i) (.str s)=false:=by simp [eqD]
theorem WY (i:Int)(s:Str):eqD (.str s) (.int i)=false:=by simp [eqD]
theorem Aa (s:Str):eqD (.str s) .non=false:=by simp [eqD]
theorem AU (s:Str):eqD .non (.str s)=false:=by simp [eqD]
theorem JB {x:AV}{M:MH}{l:List AV}(h:qC x M=some l){p:Addr}(hp:M p=none)(o:MO):qC x (mup M p o)=some l:=by
 rcases xn h with ⟨m,rfl,rfl⟩ | ⟨a,rfl,e⟩
 ·rfl
 ·exact qL (by rw [zo (fun z=>by rw [z,hp] at e;cases e)];exact e)
theorem zP {x:AV}{M:MH}{l:List AV}(h:z0 x M=some l){p:Addr}(hp:M p=none)(o:MO):z0 x (mup M p o)=some l:=by
 rcases qM h with h' | ⟨m,rfl,rfl⟩
 ·have:=JB h' hp o
  rcases xn h' with ⟨m,rfl,rfl⟩ | ⟨a,rfl,e⟩
  ·rfl
  ·exact this
 ·rfl
theorem yB (ns:List Int):List.map AV.d (List.map Dat.int ns)=List.map (fun i=>AV.d (.int i)) ns:=by rw [List.map_map];rfl
theorem Vw (ns:List Bool):List.map AV.d (List.map Dat.bl ns)=List.map (fun i=>AV.d (.bl i)) ns:=by rw [List.map_map];rfl
theorem jB (ns:List Int):pur (List.map (fun i=>AV.d (.int i)) ns)=some (ns.map Dat.int):=by rw [<- yB,zH]
theorem Yu (ns:List Bool):pur (List.map (fun i=>AV.d (.bl i)) ns)=some (ns.map Dat.bl):=by rw [<- Vw,zH]
theorem Zz {n:Nat}{i:Int}(h0:0<=i)(h1:i<n):ixN n i=some i.toNat:=by unfold ixN;rw [if_pos h0,if_pos h1]
theorem QJ {α:Type}(xs:List α)(k:Nat):kW xs (some (k:Int)) none=xs.drop k:=by
 unfold kW
 rw [HT.sIx_nat,HT.sIx_none,List.take_of_length_le (by rw [List.length_drop];omega)]
 by_cases h:k<=xs.length
 ·rw [Nat.min_eq_left h]
 ·rw [Nat.min_eq_right (by omega),List.drop_length,List.drop_of_length_le (by omega)]
theorem YW {α:Type}(xs:List α)(k:Nat):kW xs none (some (k:Int))=xs.take k:=by
 unfold kW
 rw [HT.sIx_nat,HT.sIx_none,List.drop_zero,Nat.sub_zero]
 by_cases h:k<=xs.length
 ·rw [Nat.min_eq_left h]
 ·rw [Nat.min_eq_right (by omega),List.take_of_length_le (Nat.le_refl _),List.take_of_length_le (by omega)]
theorem zD {a qf:AS}{B:MH}{D:kO}{ρ:ASt}{M:MH}(h:∀ r,r=qf->ww a r B D ρ M):ww a qf B D ρ M:=h qf rfl
theorem Fr.non {M M':MH}(f:Fr M M'){p:Addr}(h:M' p=none):M p=none:=by
 cases e:M p with
 | none=>rfl
 | some o=>rw [f p (by rw [e];exact fun z=>nomatch z),e] at h;cases h
noncomputable abbrev ilD (os:List Int):Dat:=.lst (os.map .int)
theorem XW (ns:List Int)(M:MH):qC (.d (ilD ns)) M=some (ns.map fun i=>.d (.int i)):=by rw [Kn,yB]
noncomputable def BxM (M:MH)(b:Addr)(N:Nat):Prop:=∃ x y z:Int,M b=some (.lst [.d (.int x),.d (.int y),.d (.int z)])/\0<=x/\0<=y/\y<2147483648/\0<=z/\z<=N
theorem BxM.mono {M:MH}{b:Addr}{N N':Nat}(h:BxM M b N)(hn:N<=N'):BxM M b N':=by
 obtain ⟨x,y,z,h1,h2,h3,h4,h5,h6⟩:=h
 exact ⟨x,y,z,h1,h2,h3,h4,h5,by omega⟩
theorem BxM.ne {M:MH}{b:Addr}{N:Nat}(h:BxM M b N):M b ≠ none:=by obtain ⟨x,y,z,h1,_⟩:=h;exact qG h1
theorem BxM.bx {H:Hp}{O:Own}{M:MH}{b:Addr}{N:Nat}(w:Wf H O M)(h:BxM M b N):Bx H b N:=by
 obtain ⟨x,y,z,h1,h2⟩:=h
 obtain ⟨xs,hx,rx⟩:=w.mo b _ h1
 rw [kc (ns:=[x,y,z]) rx] at hx
 exact ⟨x,y,z,hx,h2⟩
noncomputable def BxS (M M':MH)(b:Addr)(N:Nat):Prop:=BxM M' b N/\∃ o,M'=mup M b o
theorem BxS.at {M M':MH}{b:Addr}{N:Nat}(h:BxS M M' b N){q:Addr}(hq:q ≠ b):M' q=M q:=by
 obtain ⟨_,o,rfl⟩:=h
 exact zo hq
theorem WH {H H':Hp}{O:Own}{M:MH}(w:Wf H O M){b:Addr}{N N':Nat}(hb:BxM M b N)(k:Kp [b] H H')(h:Bx H' b N'):∃ M',BxS M M' b N'/\Ext H O M H' O M'/\Wf H' O M':=by
 obtain ⟨x,y,z,h1,_⟩:=hb
 obtain ⟨x',y',z',g1,g2⟩:=h
 obtain ⟨e1,e2⟩:=W6 w h1 k (ns:=[x',y',z']) g1
 exact ⟨_,⟨⟨x',y',z',ze,g2⟩,_,rfl⟩,e1,e2⟩
mutual
noncomputable def pdD:Dat->PyData
 | .bl b=>.bool b
 | .int i=>.int i
 | .str x=>.str x
 | .lst l=>.list (yU l)
 | .tup l=>.tuple (yU l)
 | _=>.none
noncomputable def yU:List Dat->List PyData
 | []=>[]
 | a :: r=>pdD a :: yU r
end
section
variable {X:Cx}{pins:List (Addr × Obj)}{s:Shared}{σ:St}{H:Hp}{O:Own}
mutual
theorem AX:∀ d:Dat,(pdD d).hasDict=false
 | .non=>by simp [pdD,PyData.hasDict]
 | .bl _=>by simp [pdD,PyData.hasDict]
 | .int _=>by simp [pdD,PyData.hasDict]
 | .str _=>by simp [pdD,PyData.hasDict]
 | .ty _=>by simp [pdD,PyData.hasDict]
 | .rng _ _ _=>by simp [pdD,PyData.hasDict]
 | .scr _ _=>by simp [pdD,PyData.hasDict]
 | .lst l=>by rw [pdD,PyData.hasDict];exact vb l
 | .tup l=>by rw [pdD,PyData.hasDict];exact vb l
theorem vb:∀ l:List Dat,PyData.hasDictAll (yU l)=false
 | []=>by simp [yU,PyData.hasDictAll]
 | a :: r=>by rw [yU,PyData.hasDictAll,AX a,vb r];rfl
end
mutual
theorem Kc:∀ d:Dat,(pdD d).depth<=dp d
 | .non=>by simp [pdD,PyData.depth]
 | .bl _=>by simp [pdD,PyData.depth]
 | .int _=>by simp [pdD,PyData.depth]
 | .str _=>by simp [pdD,PyData.depth]
 | .ty _=>by simp [pdD,PyData.depth]
 | .rng _ _ _=>by simp [pdD,PyData.depth]
 | .scr _ _=>by simp [pdD,PyData.depth]
 | .lst l=>by rw [pdD,PyData.depth,dp];exact Nat.succ_le_succ (kB l)
 | .tup l=>by rw [pdD,PyData.depth,dp];exact Nat.succ_le_succ (kB l)
theorem kB:∀ l:List Dat,PyData.depthAll (yU l)<=dps l
 | []=>by simp [yU,PyData.depthAll]
 | a :: r=>by rw [yU,PyData.depthAll,dps];exact Nat.max_le.mpr ⟨Nat.le_trans (Kc a) (Nat.le_max_left _ _),Nat.le_trans (kB r) (Nat.le_max_right _ _)⟩
end
end
section
variable {X:Cx}
end
structure Sh (b:Nat)(d:Dat):Prop where
 s:(pdD d).showable=true
 l:(pdD d).shown.length<=b
structure SB (M0 M:MH)(b:Addr)(N:Nat):Prop where
 bx:BxM M b N
 fr:∀ q,M0 q ≠ none->q ≠ b->M q=M0 q
 b0:M0 b ≠ none
theorem SB.refl {M:MH}{b:Addr}{N:Nat}(h:BxM M b N):SB M M b N:=⟨h,fun _ _ _=>rfl,h.ne⟩
theorem SB.go {M0 M M':MH}{b:Addr}{N N':Nat}(s:SB M0 M b N)(t:BxS M M' b N'):SB M0 M' b N':=⟨t.1,fun q hq hb=>(t.at hb).trans (s.fr q hq hb),s.b0⟩
theorem SB.mono {M0 M:MH}{b:Addr}{N N':Nat}(s:SB M0 M b N)(h:N<=N'):SB M0 M b N':=⟨s.bx.mono h,s.fr,s.b0⟩
theorem Kx {M0 M:MH}{Q:AK}{d:Dat}(f:Fr M0 M)(q:Q (.d d) M0):rtA M0 Q (.d d) M:=⟨_,_,BK f d,q⟩
theorem SB.frm {M M2 M':MH}{b:Addr}{N:Nat}(f:Fr M M2)(hb:M b=none)(s:SB M2 M' b N):Fr M M':=fun q hq=>by
 have h1:q ≠ b:=fun z=>hq (by rw [z];exact hb)
 rw [s.fr q (by rw [f q hq];exact hq) h1,f q hq]
theorem Y6 (ns:List Int)(k:Nat):pur (kW (ns.map fun i=>AV.d (.int i)) none (some (k:Int)))=some ((ns.take k).map .int):=by rw [wt,YW,jB]
theorem Q5 (ns:List Int)(k:Nat):pur (kW (ns.map fun i=>AV.d (.int i)) (some (k:Int)) none)=some ((ns.drop k).map .int):=by rw [wt,QJ,jB]
section
variable {X:Cx}
end
section
open PySem.SeqAt
open PySem.AutoSeq1 (wpAny_loadPart')
open PySem.MeetsSeq PySem.MeetsSeq2 PySem.MeetsSeq3 PySem.SeqRoads2
end
section
variable {X:Cx}
end
section
variable {X:Cx}{pins:List (Addr × Obj)}{σ:St}{H:Hp}{s:Shared}{a b:Addr}{kvs:List (List Key × V)}{k:List Key}{v:V}{r:Value}{A:Around}{E:Value->Shared->Prop}
end
section
variable {prog:Program}{w:World}{A:Around}{E:Value->Shared->Prop}{s:Shared}
end
section
variable {X:Cx}
end
theorem Qk {α τ:Type}(R:τ->ASt)(g f:α->AV)(xs:List α){ag:AG}{ae:AE}{G:MH->Prop}{N:List AV->ASt->MH->Prop}{ρ:ASt}{M:MH}(h0:∃ o,ρ=R o)(hG:G M)(hl:xs.length<=100000)
  (hs:∀ (o:τ) (x:α) (Q:AV->ASt->MH->Prop),x ∈ xs->(∀ o',Q (f x) (R o') M)->ag (g x) (R o) M fun ρ2 M2=>ae ρ2 M2 fun y M3=>Q y ρ2 M3) (hN:∀ o,N (xs.map f) (R o) M):Wa ag KR (Qg ae) G N (xs.map g) [] ρ M:=by
 have hsl:100000<sizeLine:=by rw [sizeLine_eq];decide
 refine ⟨fun i acc ρ' M'=>i<=xs.length/\acc=(xs.take i).map f/\M'=M/\∃ o,ρ'=R o,⟨Nat.zero_le _,rfl,rfl,h0⟩,?_,?_⟩
 ·rintro i x acc ρ' M' hx ⟨hi,rfl,rfl,o,rfl⟩
  rw [List.getElem?_map] at hx
  cases e:xs[i]? with
  | none=>rw [e] at hx;cases hx
  | some y=>
   rw [e] at hx
   cases hx
   have hil:=(List.getElem?_eq_some_iff.mp e).1
   refine ⟨hG,?_⟩
   refine hs o y (fun z ρ2 M3=>((xs.take i).map f).length<sizeLine/\(i+1<=xs.length/\(xs.take i).map f ++ [z]=(xs.take (i+1)).map f/\M3=M'/\∃ o,ρ2=R o)) (List.mem_of_getElem? e) fun o'=>⟨by rw [List.length_map,List.length_take];omega,hil,?_,rfl,o',rfl⟩
   rw [List.take_add_one,e,List.map_append];rfl
 ·rintro acc ρ' M' ⟨_,rfl,rfl,o,rfl⟩
  rw [List.length_map,List.take_length]
  exact ⟨hG,hN o⟩
noncomputable def fl2 (o:Obj):Option Value:=match o.data with
 | .fields vs=>vs[2]?
 | _=>none
noncomputable def SmD (h h':Heap):Prop:=∀ b o,h.get? b=some o->∃ o',h'.get? b=some o'/\o'.dict=o.dict/\fl2 o'=fl2 o
structure Kd {α:Type}(t:Sem α):Prop where
 out:∀ (M:Model) (G:PySem.Ctx) (R:α->Pos->Shared->Prop) (Ee:Value->Pos->Shared->Prop) (p:Pos) (s:Shared),Sem.wp M G t R Ee p s->Sem.wp M G t (fun a p' s'=>R a p' s'/\SmD s.heap s'.heap) Ee p s
section
variable {α β:Type}
end
local macro_rules | `(tactic| walk_at "kd")=>`(tactic| repeat' with_reducible first
  | assumption
  | exact kd_pure _
  | exact kd_uns _
  | exact kd_field _ _
  | exact kd_setField _ _ _ (by decide)
  | exact kd_load _
  | exact kd_stack
  | exact kd_alloc _
  | apply kd_ite
  | apply kd_bind
  | intro _
  | split)
structure B5 (P:Program)(w:World)(outer:List Env)(H:Hp)(s:Shared)(B:Heap)(H':Hp)(s':Shared):Prop where
 os:s'.os=s.os
 bare:AllBare s'.gens
 stay:B.StaysIn s'.heap
 cov:∀ b o,s.heap.get? b=some o->b ∉ frs outer->∃ o',B.get? b=some o'/\(H b=none->o'=o)
 slot:∀ b o,s.heap.get? b=some o->b ∈ frs outer->∃ sl,s'.heap.get? b=some { o with slots:=sl }
 frf:∀ b ∈ frs outer,H b=none
 free:∀ b o,s.heap.get? b=some o->H b=none->H' b=none
 tups:∀ b xs,H b=some (.tup xs)->H' b=some (.tup xs)
 frzs:∀ b o u,H b=some (.frz o u)->H' b=some (.frz o u)
 tbls:∀ b ps,H b=some (.tbl ps)->∃ more,H' b=some (.tbl (ps ++ more))
 hok:HOk P w H' B
section
variable {P:Program}{w:World}{outer:List Env}{H H':Hp}{s s':Shared}{B h':Heap}
end
section
variable {X:Cx}{pins:List (Addr × Obj)}{σ:St}{H H':Hp}{s s':Shared}{B h':Heap}
end
noncomputable def Two (d:Option Addr)(H:Hp):Prop:=∃ dx fs,d=some dx/\H dx=some (.xd fs)/\2<=fs.length
structure Air (P:Program)(w:World)(outer:List Env)(H:Hp)(s:Shared)(x C:Addr)(d:Option Addr)(H':Hp)(s':Shared):Prop where
 ex:∃ B a0,B5 P w outer H s B H' s'/\Heap.FlyingW B outer x (.ref C) a0 s'.heap
 dct:∃ o,s'.heap.get? x=some o/\o.dict=d/\(fl2 o=some .none \/ Two d H')
noncomputable def CX1 (P:Program)(w:World):CXT:=fun outer H s E e s'=>∃ x C d H',e=.ref x/\Air P w outer H s x C d H' s'/\E (.ref C) d H'
structure DX (X:Cx)(E:XK):Prop where
 stk:X.stack=X.env :: X.outer
 ex:X.ex=[]
 fr:X.env.frame=some X.env.locals
 xe:X.xe=fun e s'=>wpAny (model X.prog X.w) X.A (leaving X.env e) (fun _ s''=>CX1 X.prog X.w X.outer X.H₀ X.s₀ E e s'') (fun e' s''=>CX1 X.prog X.w X.outer X.H₀ X.s₀ E e' s'') s'
section
variable {X:Cx}{E:XK}{pins:List (Addr × Obj)}{σ:St}{H H':Hp}{s s':Shared}
end
section
variable {X:Cx}{k:Nat}{x:Str}{ps:List Str}{sp:Sp}{E:St->XK}{p pos:Pos}{e:Expr}{es:List Expr}{t:TA}
end
abbrev B6:List Value:=[.type "ValueError",.type "Exception",.type "BaseException",.type "object"]
section
variable {X:Cx}{E:XK}{C:Addr}{x:Str}{np cpos pos:Pos}{e:Expr}{es:List Expr}{t:TA}
end
section
variable {X:Cx}{pins:List (Addr × Obj)}{σ:St}{H H':Hp}{s s':Shared}
end
section
variable {X:Cx}{pins pins':List (Addr × Obj)}{σ:St}{H:Hp}{s s':Shared}{xe:Value->Shared->Prop}
end
section
variable {X:Cx}{pins:List (Addr × Obj)}{σ:St}{H H':Hp}{s s':Shared}{B:Heap}{x C:Addr}{d:Option Addr}{a0:Value}
variable {body suite:List Stmt}{b₀:Stmt}{n tx:Str}{i:Nat}{T:Addr}{np hpos pos:Pos}{tb:(St->XK)->TS}{th:TS}
end
open PySem.W (Looks InstAt findIn findObj subIn mroIn)
section
variable {prog:Program}{w:World}{A:Around}{E:Value->Shared->Prop}{h:Heap}{g:Array GenState}{d:Drawn}{t:Nat}{os:OsState}{K:PySem.W.Frag}{x C:Addr}{ox:Obj}{od:Option Obj}{name:Str}
structure Dy (K:PySem.W.Frag)(C:Addr):Prop where
 bx:subIn K (.ref C) (.type "BaseException")=some true
 ga:findIn K (.ref C) "__getattribute__"=some (some (.builtin "BaseException.__getattribute__"))
 gt:findIn K (.ref C) "__getattr__"=some none
 cl:findIn K (.ref C) "__class__"=some (some (.builtin "object.__class__"))
 gs:PySem.W.specialIn K (.builtin "object.__class__") "__get__"=some (some (.builtin "getset_descriptor.__get__"))
 tk:PySem.W.takesIn K (.builtin "object.__class__")=some true
 mo:mroIn K C (.type "object")=some true
 is:(PySem.W.clsIn K C).isSome=true
end
inductive Kl (X:Cx):List Expr->List Value->Prop
 | nil:Kl X [] []
 | own {x:Str} {p:Pos} {C:Addr} {es:List Expr} {cs:List Value}:Gl X x->X.mg x=some (.ref C)->(x == ("__debug__":Str))=false->Kl X es cs->Kl X (.Name x p :: es) (.ref C :: cs)
 | blt {x:Str} {p:Pos} {T:String} {es:List Expr} {cs:List Value}:Gl X x->X.mg x=none->bootBuiltins x=some (.type T)->x ≠ "__name__"->(x == ("__debug__":Str))=false->Kl X es cs->Kl X (.Name x p :: es) (.type T :: cs)
section
variable {X:Cx}{e c:Expr}{es:List Expr}{cs:List Value}{t:TE}{p pos tp:Pos}{kk:Nat}
end
noncomputable abbrev AXK:=Addr->List (Str × V)->MH->Prop
noncomputable abbrev BR:=List AV->MH->AK->AXK->Prop
noncomputable def Dp (H:Hp)(O:Own)(M:MH)(d:Option Addr)(fs:List (Str × V)):Prop:=d=none/\fs=[] \/ ∃ dx,d=some dx/\H dx=some (.xd fs)/\O dx/\M dx=none
structure EXs (H0:Hp)(O0:Own)(M0:MH)(E:St->XK)(EA:ASt->AXK):Prop where
 go:∀ σ ρ C fs M' H' O' d,EA ρ C fs M'->Ext H0 O0 M0 H' O' M'->Wf H' O' M'->Er H' O' M' σ ρ->Dp H' O' M' d fs->E σ (.ref C) d H'
structure Dx (HX:Hp)(OX:Own)(MX:MH)(t:TS)(a:AS):Prop where
 go:∀ {H0:Hp} {O0:Own} {M0:MH} {D:ju} {D':kO} {σ:St} {H:Hp} {O:Own} {ρ:ASt} {M:MH},Ext HX OX MX H0 O0 M0->Wf H0 O0 M0->Wf H O M->Er H O M σ ρ->Ext H0 O0 M0 H O M->a M0 D' ρ M->ED H0 O0 M0 D D'->t D σ H
section
variable {HX:Hp}{OX:Own}{MX:MH}{t u:TS}{a b:AS}{E:St->XK}{EA:ASt->AXK}{sp:BR}{ta:TA}{aa:AA}
end
section
variable {K:PySem.W.Frag}{i:Nat}{T:Addr}{tb:(St->XK)->TS}{th:TS}{ab:(ASt->AXK)->AS}{ah:AS}
end
section
variable {X:Cx}{K:PySem.W.Frag}{body suite:List Stmt}{b₀:Stmt}{n tx:Str}{i:Nat}{T:Addr}{np hpos pos tp p:Pos}{tb:(St->XK)->TS}{th:TS}{e c:Expr}{es:List Expr}{cs:List Value}{t:TE}{kk:Nat}
end
section
variable {X:Cx}
end
end L2
namespace PySem
open Sem (wp)
section
variable {prog:Program}{w:World}{A:Around}{E:Value->Shared->Prop}{h:Heap}{g:Array GenState}{d:Drawn}{t:Nat}{os:OsState}
variable {nm q:Str}{C N:Addr}{bs bm bmB:List Value}{hdct:Bool}{sn:List Str}{sub:List Value}{ab:Bool}{col:Option Bool}{dd:Option Addr}{k0 k1 k2 k3 k5:Option Value}{B Bn newId nid initId inN:String}{bmN:List Value}
end
section
variable {M:Model}{A:Around}{E:Value->Shared->Prop}{env:Env}
variable {nm q:Str}{C N:Addr}{bs bm:List Value}{hdct:Bool}{sn:List Str}{sub:List Value}{ab:Bool}{col:Option Bool}{dd:Option Addr}{k0 k1 k2 k3 k5:Option Value}{newId:String}
end
section
variable {prog:Program}{w:World}{A:Around}{E:Value->Shared->Prop}{s:Shared}{env:Env}
variable {nm q:Str}{C N:Addr}{bs bm bmB:List Value}{hdct:Bool}{sn:List Str}{sub:List Value}{ab:Bool}{col:Option Bool}{dd:Option Addr}{k0 k1 k2 k3 k5:Option Value}{B Bn newId nid initId inN:String}{bmN:List Value}
end
end PySem
namespace L2
open PySem PySem.Spec PyProof.Rows
open PySem.W (Looks InstAt findIn findObj subIn mroIn clsIn takerIn hasDictIn)
noncomputable def B9:Value->Bool
 | .ref _=>true
 | _=>false
noncomputable def WQ (l:List Value):Bool:=l.dropWhile B9 == B6
structure Dw (K:PySem.W.Frag)(C:Addr)(name:Str):Prop where
 s:findIn K (.ref C) "__setattr__"=some (some (.builtin "object.__setattr__"))
 t:takerIn K C name=some none
 hd:hasDictIn K C=true
 mo:mroIn K C (.type "object")=some true
 ve:(clsIn K C).any (fun cd=>WQ cd.mro)=true
section
variable {prog:Program}{w:World}{A:Around}{E:Value->Shared->Prop}{s:Shared}{K:PySem.W.Frag}{x C:Addr}{ox:Obj}{od:Option Obj}{name:Str}{v:Value}
end
open PySem.W (Looks InstAt findIn findObj subIn mroIn clsIn takerIn hasDictIn)
section
variable {X:Cx}{pins:List (Addr × Obj)}{σ:St}{H:Hp}{s:Shared}
variable {o value:Expr}{f:Str}{ta tv:TE}{pos pos':Pos}
end
section
variable {X:Cx}{E:XK}{C:Addr}{x:Str}{np cpos pos:Pos}{e:Expr}{es:List Expr}{t:TA}{k n:Nat}{fn:List V->List (Str × V)}
end
open PySem.W (Looks InstAt findIn findObj subIn mroIn clsIn takerIn hasDictIn)
section
variable {X:Cx}{k:Nat}{C:Addr}{m x:Str}{ps:List Str}{sp:Sp}{E:St->XK}{p pos apos:Pos}{o e:Expr}{es:List Expr}{t:TA}{to:TE}
end
section
variable {prog:Program}{w:World}{A:Around}{E:Value->Shared->Prop}{s:Shared}{K:PySem.W.Frag}{x C:Addr}{ox u:Obj}{name:Str}{v:Value}
end
section
variable {X:Cx}{e:Expr}{ta:TE}{f:Str}{pos:Pos}
end
open PySem.W (findIn hasDictIn)
section
variable {HX:Hp}{OX:Own}{MX:MH}{E:St->XK}{EA:ASt->AXK}{sp:BR}{te:TE}{ae:AE}{ta:TA}{aa:AA}{C:Addr}{m:Str}
end
end L2
namespace PySem
open Sem (wp)
section
variable {prog:Program}{w:World}{A:Around}{E:Value->Shared->Prop}{s:Shared}
end
section
variable {prog:Program}{w:World}{A:Around}{E:Value->Shared->Prop}{env:Env}
variable {nm q:Str}{C N:Addr}{bs bm bmB:List Value}{hdct:Bool}{sn:List Str}{sub:List Value}{ab:Bool}{col:Option Bool}{dd:Option Addr}{k0 k1 k2 k3 k5:Option Value}{B Bn newId nid initId inN:String}{bmN:List Value}
end
end PySem
namespace L2
open PySem PySem.Spec PyProof.Rows
section
variable {M:Model}{A:Around}{E:Value->Shared->Prop}{s:Shared}
end
section
variable {X:Cx}{E:XK}{pins:List (Addr × Obj)}{σ:St}{H:Hp}{s:Shared}
end
open PySem.W (Looks InstAt findIn findObj subIn mroIn clsIn takerIn hasDictIn)
structure Dv (k:Nat)(A:Around):Prop where
 gd:A.guards=some []
 dp:A.depth+3 * k+5<recursionLimit
 un:A.units+16 * k+200<cLine
open PySem.W (Looks InstAt findIn findObj subIn mroIn clsIn takerIn hasDictIn)
section
variable {X:Cx}{E:XK}{body:List Stmt}{n tx cx:Str}{i k nn:Nat}{T C2:Addr}{np cp cpos rpos hpos pos:Pos}{tb:(St->XK)->TS}{ta:TA}{e1:Expr}{es:List Expr}{fn:List V->List (Str × V)}
end
open PySem.W (Looks InstAt findIn findObj subIn mroIn clsIn takerIn hasDictIn)
section
variable {X:Cx}{e:Expr}{ta:TE}{f:Str}{pos:Pos}{K:PySem.W.Frag}
end
section
variable {HX:Hp}{OX:Own}{MX:MH}{K:PySem.W.Frag}{i j:Nat}{T C2:Addr}{f:Str}{fn:List V->List (Str × V)}{E:XK}{EA:ASt->AXK}{tb:(St->XK)->TS}{ab:(ASt->AXK)->AS}
end
section
variable {X:Cx}{K:PySem.W.Frag}{E:XK}{body:List Stmt}{n tx cx:Str}{i k nn:Nat}{T C2:Addr}{np cp cpos rpos hpos pos:Pos}{tb:(St->XK)->TS}{ta:TA}{e1:Expr}{es:List Expr}{fn:List V->List (Str × V)}
end
noncomputable def VJ (b:AA)(n:Nat)(ag:AGs):AS:=fun _ D ρ M=>b ρ M fun xs M1=>xs.length=n/\n<=sizeLine/\ag xs ρ M1 fun ρ2 M3=>D.nx ρ2 M3
theorem Kq {K:PySem.W.Frag}{u:TA}{b:AA}{n:Nat}{gs:TGs}{ag:AGs}(h:kS u b)(hg:vA gs ag):jg (Ke (YY u) (J4 K n gs)) (VJ b n ag):=⟨fun _ w e x q E=>h.go w e q fun xs M1 vs H1 O1 q1 k1 w1 r1=>
 ⟨by rw [r1.1,q1.1];exact q1.2.1,fun p hp=>
  have k2:=qi w1 hp (.tup vs)
  ⟨p,vs,rfl,SqT.of zh,r1.1.trans q1.1,hg.go (kF w1 hp _) (e.ext (k1.trans k2)) (r1.ext k2) q1.2.2 fun σ3 H3 O3 ρ3 M3 q3 k3 w3 e3=>E.nx _ _ _ _ _ w3 e3 (((x.trans k1).trans k2).trans k3) q3⟩⟩⟩
section
variable {X:Cx}
end
structure JI where
 nx:ASt->MH->Prop
 rt:List AV->MH->Prop
noncomputable abbrev AST:=MH->JI->ASt->MH->Prop
structure Dr (t:TS)(a:AST):Prop where
 go:∀ {H0:Hp} {O0:Own} {M0:MH} {Q:VK} {D':JI} {σ:St} {H:Hp} {O:Own} {ρ:ASt} {M:MH} {nx:St->Hp->Prop},Wf H0 O0 M0->Wf H O M->Er H O M σ ρ->Ext H0 O0 M0 H O M->a M0 D' ρ M ->
  (∀ ys M' us H' O' p,D'.rt ys M'->Ext H0 O0 M0 H' O' M'->Wf H' O' M'->H' p=some (.tup us)->zc H' O' M' us ys->Q (.ref p) H')->t { nx:=nx,rt:=Q } σ H
end L2
namespace L2
open PySem PyProof.Rows
noncomputable def kn (p:Keyed):Int:=numOf p.1
noncomputable def LEr (rk:Keyed->Int)(p q:Keyed):Prop:=kn p<kn q \/ (kn p=kn q/\rk p<=rk q)
section
variable {rk:Keyed->Int}{p q r:Keyed}
end
noncomputable def IsI (p:Keyed):Prop:=∃ n t,p.1=Value.int n t
section
variable {prog:Program}{w:World}{A:Around}{E:Value->Shared->Prop}{s:Shared}
end
local macro_rules | `(tactic| walk_at "unG")=>do
 let n:=Lean.mkIdent (Lean.mkPrivateNameCore `PySem.Builtin.List.W1All `PySem.Builtin.gallop)
 `(tactic| unfold $n)
noncomputable def byd (left:Bool)(key x:Keyed):Bool:=if left then decide (kn x<kn key) else !decide (kn key<kn x)
structure Cut (left:Bool)(key:Keyed)(f:Nat->Keyed)(n k:Nat):Prop where
 le:k<=n
 lo:∀ i,i<k->byd left key (f i)=true
 hi:∀ i,k<=i->i<n->byd left key (f i)=false
section
variable {prog:Program}{w:World}{A:Around}{E:Value->Shared->Prop}{s:Shared}
end
end L2
namespace L2
open PySem PyProof.Rows
section
variable {rk:Keyed->Int}
structure MLo (rk:Keyed->Int)(X Y:List Keyed)(a b:Nat)(o:List Keyed):Prop where
 la:a<=X.length
 lb:b<=Y.length
 perm:o.Perm (X.take a ++ Y.take b)
 pw:o.Pairwise (LEr rk)
 lx:∀ x ∈ o,∀ y ∈ X.drop a,LEr rk x y
 ly:∀ x ∈ o,∀ y ∈ Y.drop b,LEr rk x y
structure DA (rk:Keyed->Int)(X Y:List Keyed):Prop where
 px:X.Pairwise (LEr rk)
 py:Y.Pairwise (LEr rk)
 bel:∀ x ∈ X,∀ y ∈ Y,rk x<=rk y
 ix:∀ x ∈ X,IsI x
 iy:∀ y ∈ Y,IsI y
variable {X Y o:List Keyed}{a b:Nat}
end
local macro_rules | `(tactic| walk_at "unM")=>do
 let n:=Lean.mkIdent (Lean.mkPrivateNameCore `PySem.Builtin.List.W1All `PySem.Builtin.mergeLo)
 `(tactic| unfold $n)
section
variable {prog:Program}{w:World}{A:Around}{E:Value->Shared->Prop}{s:Shared}{rk:Keyed->Int}
end
end L2
namespace L2
open PySem PyProof.Rows
local macro_rules | `(tactic| walk_at "unM")=>do
 let n:=Lean.mkIdent (Lean.mkPrivateNameCore `PySem.Builtin.List.W1All `PySem.Builtin.mergeLo)
 `(tactic| unfold $n)
section
variable {prog:Program}{w:World}{A:Around}{E:Value->Shared->Prop}{s:Shared}{rk:Keyed->Int}
end
end L2
namespace L2
open PySem PyProof.Rows
section
variable {rk:Keyed->Int}{X Y o:List Keyed}{a b:Nat}
structure MHi (rk:Keyed->Int)(X Y:List Keyed)(a b:Nat)(o:List Keyed):Prop where
 la:a<=X.length
 lb:b<=Y.length
 perm:o.Perm (X.drop a ++ Y.drop b)
 pw:o.Pairwise fun p q=>LEr rk q p
 lx:∀ x ∈ o,∀ y ∈ X.take a,LEr rk y x
 ly:∀ x ∈ o,∀ y ∈ Y.take b,LEr rk y x
end
local macro_rules | `(tactic| walk_at "unM")=>do
 let n:=Lean.mkIdent (Lean.mkPrivateNameCore `PySem.Builtin.List.W1All `PySem.Builtin.mergeHi)
 `(tactic| unfold $n)
section
variable {prog:Program}{w:World}{A:Around}{E:Value->Shared->Prop}{s:Shared}{rk:Keyed->Int}
end
end L2
namespace L2
open PySem PyProof.Rows
noncomputable def gK (xs:Array Keyed)(i:Nat):Keyed:=xs[i]?.getD (.none,.none)
structure Sg (xs ys:Array Keyed)(lo hi:Nat):Prop where
 perm:ys.Perm xs
 out:∀ i,i<lo \/ hi<=i->ys[i]?=xs[i]?
 inn:∀ i,lo<=i->i<hi->∃ j,lo<=j/\j<hi/\ys[i]?=xs[j]?
structure SoB (a₀:Array Keyed)(st:SortSt):Prop where
 perm:(arrOf st).Perm a₀
 kind:kindOf st=oneType'
 failed:failedOf st=none
section
variable {prog:Program}{w:World}{A:Around}{E:Value->Shared->Prop}{s:Shared}{a₀:Array Keyed}{rk:Keyed->Int}
end
end L2
namespace L2
open PySem PyProof.Rows
section
variable {prog:Program}{w:World}{A:Around}{E:Value->Shared->Prop}{s:Shared}{a₀:Array Keyed}{rk:Keyed->Int}
noncomputable def Fal (rk:Keyed->Int)(xs:Array Keyed)(lo hi:Nat):Prop:=∀ i j,lo<=i->i<=j->j<hi->LEr rk (gK xs j) (gK xs i)
structure Dsc (rk:Keyed->Int)(xs:Array Keyed)(lo T hi:Nat):Prop where
 l:lo<=T
 t:T<hi
 a:Fal rk xs lo T
 b:∀ i,lo<=i->i<T->kn (gK xs (hi - 1))<kn (gK xs i)
 c:∀ i j,T<=i->i<=j->j<hi->kn (gK xs i)=kn (gK xs (hi - 1))/\rk (gK xs i)<=rk (gK xs j)
end
end L2
namespace L2
open PySem PyProof.Rows
local macro_rules | `(tactic| walk_at "unMa")=>do
 let n:=Lean.mkIdent (Lean.mkPrivateNameCore `PySem.Builtin.List.W1All `PySem.Builtin.mergeAt)
 `(tactic| unfold $n)
section
variable {prog:Program}{w:World}{A:Around}{E:Value->Shared->Prop}{s:Shared}{rk:Keyed->Int}
end
end L2
namespace L2
open PySem PyProof.Rows
noncomputable def Pnd:Nat->List (Nat × Nat × Nat)->List (List Keyed)->Prop
 | _,[],[]=>True
 | o,p :: ps,r :: rs=>p.1=o/\p.2.1=r.length/\Pnd (o+r.length) ps rs
 | _,_,_=>False
section
variable {prog:Program}{w:World}{A:Around}{E:Value->Shared->Prop}{s:Shared}{a₀:Array Keyed}{rk:Keyed->Int}
structure Rns (rk:Keyed->Int)(a₀:Array Keyed)(rs:List (List Keyed))(qf:List Keyed)(st:SortSt):Prop where
 b:SoB a₀ st
 e:(arrOf st).toList=rs.flatten ++ qf
 ne:∀ r ∈ rs,0<r.length
 so:∀ r ∈ rs,r.Pairwise (LEr rk)
 bel:rs.Pairwise fun X Y=>∀ x ∈ X,∀ y ∈ Y,rk x<=rk y
 be:∀ x ∈ rs.flatten,∀ y ∈ qf,rk x<=rk y
 pn:Pnd 0 (pendingOf st).toList rs
end
end L2
namespace L2
open PySem PyProof.Rows
section
variable {prog:Program}{w:World}{A:Around}{E:Value->Shared->Prop}{s:Shared}{a₀:Array Keyed}{rk:Keyed->Int}
end
end L2
namespace L2
open PySem PyProof.Rows
section
variable {prog:Program}{w:World}{A:Around}{E:Value->Shared->Prop}{s:Shared}{a₀:Array Keyed}{rk:Keyed->Int}
end
end L2
namespace L2
open PySem PyProof.Rows
section
variable {prog:Program}{w:World}{A:Around}{E:Value->Shared->Prop}{s:Shared}
end
section
variable {prog:Program}{w:World}{A:Around}{E:Value->Shared->Prop}{s:Shared}
end
section
variable {X:Cx}
end
section
variable {X:Cx}
variable {o e:Expr}{es:List Expr}{to:TE}{t:TA}{name:Str}{apos cpos:Pos}{T1 id1 T2 id2:String}{r1 r2:V->List V->Hp->VK->Prop}{K:PySem.W.Frag}
end
section
variable {prog:Program}{w:World}{A:Around}{R:Result->Shared->Prop}{s:Shared}
end
section
variable {C:Cx}{kx vx tg iter:Expr}{ifs:List Expr}{gens:List Comprehension}{scope:Scope}{pos:Pos}{d:Nat}{D:Addr}{g:TG}{tt:TT}{te:TE}{tr:TR}
end
section
variable {X:Cx}{ts:List Nat}{scope:Scope}{tg iter kx vx:Expr}{ifs:List Expr}{qf:List Comprehension}{wi:TI}{g:TG}{tt:TT}{tr:Addr->TR}{pos:Pos}
end
section
variable {P:Program}{w:World}{A:Around}{E:Value->Shared->Prop}{s:Shared}{n l1 l2 l3:Nat}{k:Nat}{xs ys zs:Array Value}{x y u a b c:Value}{Q:Option Value->Shared->Prop}
end
section
variable {X:Cx}{es:List Expr}{kt:Nat}{tp:Pos}
end
section
variable {X:Cx}{o i:Expr}{pos:Pos}{td ty:TE}
end
section
variable {X:Cx}{es:List Expr}{kt:Nat}{tp gp:Pos}{body:List Stmt}{pos:Pos}{tb:TS}{g:Str}{a:Addr}{is:List Nat}
end
noncomputable def VO (v:V):Option AV->Prop
 | none=>True
 | some (.d (.int i))=>v=.int i
 | some _=>False
inductive VOs:List V->List (Option AV)->Prop
 | nil:VOs [] []
 | cons {v:V} {x:Option AV} {vs:List V} {xs:List (Option AV)}:VO v x->VOs vs xs->VOs (v :: vs) (x :: xs)
inductive KQ (b:List V->TS):List (List V)->List (List (Option AV) × AS)->Prop
 | nil:KQ b [] []
 | cons {vs:List V} {vss:List (List V)} {xs:List (Option AV)} {ab:AS} {r:List (List (Option AV) × AS)}:VOs vs xs->jg (b vs) ab->KQ b vss r->KQ b (vs :: vss) ((xs,ab) :: r)
noncomputable def jl {κ:Type}[DecidableEq κ](kvs:List (κ × AV))(k:κ):Option AV:=(kvs.find? fun kv=>decide (kv.1=k)).map (·.2)
noncomputable def Jd {κ:Type}[DecidableEq κ](kvs:List (κ × AV))(k:κ)(v:AV):List (κ × AV):=
 if (kvs.any fun kv=>decide (kv.1=k))=true then kvs.map (fun kv=>if kv.1=k then (kv.1,v) else kv) else kvs ++ [(k,v)]
theorem wB {κ:Type}[DecidableEq κ]{H:Hp}{O:Own}{M:MH}(k:κ):∀ {xs:List (κ × V)} {kvs:List (κ × AV)} {v:AV},xs.map (·.1)=kvs.map (·.1)->zc H O M (xs.map (·.2)) (kvs.map (·.2))->jl kvs k=some v->∃ u,xr xs k=some u/\zj H O M u v
 | [],[],v,_,_,h=>by cases h
 | [],_ :: _,v,e,_,h=>by cases e
 | _ :: _,[],v,e,_,h=>by cases e
 | (a,x) :: xs,(b,y) :: kvs,v,e,r,h=>by
  obtain ⟨e1,e2⟩:=List.cons.inj e
  have e1:a=b:=e1
  subst e1
  obtain ⟨r1,r2⟩:=zc.head r
  by_cases c:a=k
  ·have:jl ((a,y) :: kvs) k=some y:=by unfold jl;rw [List.find?_cons,show decide (a=k)=true from decide_eq_true c];rfl
   rw [this] at h;cases h
   exact ⟨x,Ka c,r1⟩
  ·have:jl ((a,y) :: kvs) k=jl kvs k:=by unfold jl;rw [List.find?_cons,show decide (a=k)=false from decide_eq_false c]
   rw [this] at h
   obtain ⟨u,hu,ru⟩:=wB k (xs:=xs) e2 r2 h
   exact ⟨u,by rw [JF c];exact hu,ru⟩
theorem vK {κ α β:Type}[DecidableEq κ](k:κ):∀ {xs:List (κ × α)} {ys:List (κ × β)},xs.map (·.1)=ys.map (·.1)->(xs.any fun kv=>decide (kv.1=k))=(ys.any fun kv=>decide (kv.1=k))
 | [],[],_=>rfl
 | [],_ :: _,e=>by cases e
 | _ :: _,[],e=>by cases e
 | x :: xs,y :: ys,e=>by
  obtain ⟨e1,e2⟩:=List.cons.inj e
  have e1:x.1=y.1:=e1
  rw [List.any_cons,List.any_cons,e1,vK k e2]
theorem Yv {κ:Type}[DecidableEq κ]{H:Hp}{O:Own}{M:MH}{k:κ}{u:V}{v:AV}{xs:List (κ × V)}{kvs:List (κ × AV)}(h:qQ H O M xs kvs)(r:zj H O M u v):qQ H O M (Y3 xs k u) (Jd kvs k v):=by
  unfold Y3 Jd
  rw [vK k h.1]
  split
  · have go : ∀ {xs : List (κ × V)} {kvs : List (κ × AV)}, xs.map (·.1) = kvs.map (·.1) -> zc H O M (xs.map (·.2)) (kvs.map (·.2)) -> qQ H O M (xs.map fun kv => if kv.1 = k then (kv.1, u) else kv) (kvs.map fun kv => if kv.1 = k then (kv.1, v) else kv) := by
      intro xs
      induction xs with
      | nil=>intro kvs e q;cases kvs with | nil=>exact ⟨rfl,.nil⟩ | cons _ _=>cases e
      | cons x xs ih=>
        intro kvs e q
        cases kvs with
        | nil=>cases e
        | cons y kvs=>
          obtain ⟨e1,e2⟩:=List.cons.inj e
          have e1:x.1=y.1:=e1
          obtain ⟨r1,r2⟩:=zc.head q
          obtain ⟨i1,i2⟩:=ih e2 r2
          by_cases c:y.1=k
          · refine ⟨?_,?_⟩
            · rw [List.map_cons,List.map_cons,List.map_cons,List.map_cons,if_pos c,if_pos (e1.trans c)];exact List.cons_eq_cons.mpr ⟨e1,i1⟩
            · rw [List.map_cons,List.map_cons,List.map_cons,List.map_cons,if_pos c,if_pos (e1.trans c)];exact .cons r i2
          · refine ⟨?_,?_⟩
            · rw [List.map_cons,List.map_cons,List.map_cons,List.map_cons,if_neg c,if_neg (fun z=>c (e1.symm.trans z))];exact List.cons_eq_cons.mpr ⟨e1,i1⟩
            · rw [List.map_cons,List.map_cons,List.map_cons,List.map_cons,if_neg c,if_neg (fun z=>c (e1.symm.trans z))];exact .cons r1 i2
    exact go h.1 h.2
  · exact ⟨by rw [List.map_append,List.map_append,h.1];rfl,by rw [List.map_append,List.map_append];exact h.2.append (.cons r .nil)⟩
theorem Ye {κ:Type}{H:Hp}{O:Own}{M:MH}{xs:List (κ × V)}{kvs:List (κ × AV)}(h:qQ H O M xs kvs):xs.length=kvs.length:=by
 have:=congrArg List.length h.1
 simpa using this
noncomputable abbrev ATD:=ASt->MH->(ASt->MH->Prop)->Prop
structure Du (tr:TR)(a:ATD):Prop where
 go:∀ {σ:St} {H:Hp} {O:Own} {ρ:ASt} {M:MH} {N:St->Hp->Prop} {N':ASt->MH->Prop},Wf H O M->Er H O M σ ρ->a ρ M N'->(∀ σ' H' O' ρ' M',N' ρ' M'->Ext H O M H' O' M'->Wf H' O' M'->Er H' O' M' σ' ρ'->N σ' H')->tr σ H N
section
variable {X:Cx}{ts:List Nat}{scope:Scope}{tg iter kx vx:Expr}{ifs:List Expr}{qf:List Comprehension}{wi:TI}{g:TG}{tt:TT}{tr:Addr->TR}{pos:Pos}
end
section
variable {X:Cx}{es:List Expr}{kt:Nat}{tp gp:Pos}{elt:Expr}{scope:Scope}{pos:Pos}{te:TE}{g:Str}{a:Addr}{is ts:List Nat}
end
inductive WC:List (List V)->List (List (Option AV))->Prop
 | nil:WC [] []
 | cons {vs:List V} {xs:List (Option AV)} {vss:List (List V)} {xss:List (List (Option AV))}:VOs vs xs->WC vss xss->WC (vs :: vss) (xs :: xss)
section
variable {X:Cx}{e hi st:Expr}{te:TE}{th ts:TO}{p2 pos:Pos}{K:PySem.W.Frag}
end
theorem JU {κ:Type}[DecidableEq κ]{xs:List (κ × V)}{kvs:List (κ × AV)}(k:κ)(h:xs.map (·.1)=kvs.map (·.1)):(xr xs k).isSome=((kvs.find? fun kv=>decide (kv.1=k)).map (·.2)).isSome:=by
 unfold xr
 rw [Option.isSome_map,Option.isSome_map]
 induction xs generalizing kvs with
 | nil=>cases kvs with
  | nil=>rfl
  | cons y r=>cases h
 | cons x r ih=>
  cases kvs with
  | nil=>cases h
  | cons y r'=>
   rw [List.map_cons,List.map_cons,List.cons.injEq] at h
   rw [List.find?_cons,List.find?_cons,h.1]
   cases decide (y.1=k) with
   | true=>rfl
   | false=>exact ih h.2
local macro_rules | `(tactic| walk_at "unC")=>do
 let n:=Lean.mkIdent (Lean.mkPrivateNameCore `PySem.Builtin.Frozenset.W1All `PySem.Builtin.compare)
 `(tactic| unfold $n)
section
variable {prog:Program}{w:World}{K:Type}[DecidableEq K]{knd:KeyKind prog w K}{A:Around}{E:Value->Shared->Prop}{s:Shared}{a b:Addr}
end
inductive vD:List (TE × TE)->List (AE × AE)->Prop
 | nil:vD [] []
 | cons {tk tv:TE} {ak av:AE} {ts:List (TE × TE)} {as:List (AE × AE)}:zA tk ak->zA tv av->vD ts as->vD ((tk,tv) :: ts) ((ak,av) :: as)
inductive vL (M:MH):AV->Dat->Prop
 | d {x:Dat}:vL M (.d x) x
 | lst {p:Addr} {l:List AV} {ds:List Dat}:M p=some (.lst l)->l.length=ds.length->(∀ (i:Nat) a b,l[i]?=some a->ds[i]?=some b->vL M a b)->vL M (.ref p) (.lst ds)
 | tp {l:List (Dat ⊕ Addr)} {ds:List Dat}:l.length=ds.length->(∀ (i:Nat) a b,l[i]?=some a->ds[i]?=some b->vL M (tiA a) b)->vL M (.tp l) (.tup ds)
open AutoSeq1 (wpAny_loadPart')
section
variable {prog:Program}{w:World}{A:Around}{E:Value->Shared->Prop}{s:Shared}
theorem yc {Q:List Value->Shared->Prop}{r:Addr}{a b c:Int}{t u v:Tok}{n:Nat}(hh:A.handled=none)(hr:IsRange s.heap r a b c t u v)(hsmall:Builtin.Range.small a b c=true)
  (hn:Builtin.Range.rangeSize a b c=n) (hlen:n<=2 ^ 24)
  (hQ:∀ (h':Heap) (tk:Nat) (acc:Array Value),(∀ b o,s.heap.get? b=some o->h'.get? b=some o)->ItemsOf (fun i v=>∃ t,v=.int (a+i * c) t) acc n->Q acc.toList { s with heap:=h',toks:=tk }) :
  wpAny (model prog w) A (collect (.ref r)) Q E s:=by
 unfold collect
 refine wpAny_bind (wpAny_runValue (codeAny_builtin F.entry_proto_collect ?_))
 rw [Around.under_plainId F.plain_proto_collect _]
 show wpAny _ A.in1 (newList [] >>= fun l=>again (.builtin "list.__iadd__" ⟨[l,.ref r],[]⟩)) _ _ s
 refine wpAny_bind (wpAny_newObj_type ?_)
 refine wpAny_pure ⟨plainId_quiet F.plain_list_iadd _,codeAny_builtin F.entry_list_iadd ?_⟩
 rw [Around.under_plainId F.plain_list_iadd _]
 show wpAny _ A.in1 (Builtin.List.listExtendWith (.ref s.heap.objs.size) (.ref r) (.ref s.heap.objs.size)) _ _ _
 have hS:(s.heap.push { cls:=.type "list",data:=.seq ([]:List Value).toArray }).get? s.heap.objs.size=some { cls:=.type "list",data:=.seq #[] 0 }:=Heap.get?_push_size _ rfl
 have fin':∀ (h':Heap) tk (acc:Array Value) (c':Nat),(∀ b o,s.heap.get? b=some o->h'.get? b=some o)->h'.get? s.heap.objs.size=some { cls:=.type "list",dict:=none,data:=.seq acc c',slots:=#[] }->ItemsOf (fun i v=>∃ t,v=.int (a+i * c) t) acc n ->
   wpAny (model prog w) A (match Value.ref s.heap.objs.size with
   | Value.ref a=>do
    match (<- load a).data with
     | Data.seq xs _=>pure xs.toList
     | _=>unsupported "internal:collect"
   | _=>unsupported "internal:collect") Q E { s with heap:=h',toks:=tk }:=fun h' tk acc c' hk hg hi=>by
  show wpAny _ A (load s.heap.objs.size >>= _) _ _ _
  refine wpAny_bind (wpAny_load hg ?_)
  refine wpAny_pure ?_
  exact hQ h' tk acc hk hi
 refine wpAny_mono (wpAny_extend_range (A:=A) (R:=fun r' s'=>r'=.ok (.ret (.ref s.heap.objs.size))/\∃ h' tk acc c',s'={ s with heap:=h',toks:=tk }/\(∀ b o,s.heap.get? b=some o->h'.get? b=some o)/\h'.get? s.heap.objs.size=some { cls:=.type "list",dict:=none,data:=.seq acc c',slots:=#[] }/\ItemsOf (fun i v=>∃ t,v=.int (a+i * c) t) acc n)
  (s:={ s with heap:=s.heap.push { cls:=.type "list",data:=.seq ([]:List Value).toArray } }) hh (Heap.get?_push_of_some _ hr) hsmall hn hlen s.heap.objs.size _ 0 hS
  fun h' tk acc' c' hk hg hi=>⟨rfl,h',tk,acc',c',rfl,fun b o e=>hk b o (Nat.ne_of_lt (Heap.lt_size e)) (Heap.get?_push_of_some _ e),hg,hi⟩) (fun fin s' h=>?_) (fun e s' h=>?_)
 ·cases fin with
  | done f=>
   obtain ⟨e,h',tk,acc,c',rfl,h1,h2,h3⟩:=h
   cases e
   exact fin' h' tk acc c' h1 h2 h3
  | again c'=>exact ⟨h.1,codeAny_mono h.2 fun r s'' hr=>by obtain ⟨rfl,h',tk,acc,c',rfl,h1,h2,h3⟩:=hr;exact fin' h' tk acc c' h1 h2 h3⟩
 ·exact absurd h.1 (by simp)
theorem kI {Q₁:Value->Shared->Prop}{r:Addr}{a b c:Int}{t u v:Tok}{n:Nat}(hh:A.handled=none)(hr:IsRange s.heap r a b c t u v)(hsmall:Builtin.Range.small a b c=true)
  (hn:Builtin.Range.rangeSize a b c=n) (hlen:n<=100000)
  (h:∀ (h':Heap) (tk:Nat) (acc:Array Value),(∀ b o,s.heap.get? b=some o->h'.get? b=some o)->ItemsOf (fun i v=>∃ t,v=.int (a+i * c) t) acc n->Q₁ (.ref h'.objs.size) { s with heap:=h'.push { cls:=.type "tuple",data:=.seq acc },toks:=tk }) :
  codeAny (model prog w) A (.call (.builtin "tuple.__new__") ⟨[.type "tuple",.ref r],[]⟩) (wants Q₁ E) s:=by
 refine codeAny_of_tree ?_
 show wpAny _ A.in1 (do checkBuiltinCall "tuple.__new__" ⟨[.type "tuple",.ref r],[]⟩;again (.builtin "tuple.__new__" ⟨[.type "tuple",.ref r],[]⟩)) _ _ s
 refine wpAny_bind (wpAny_of_eq (F.newCall_tuple_1 _) (wpAny_pure ⟨plainId_quiet F.plain_tuple_new _,codeAny_builtin F.entry_tuple_new ?_⟩))
 rw [Around.under_plainId F.plain_tuple_new _]
 have hsub:=sub_tuple_self
 have hinit:=init_tuple_lookup
 have hmh:=madeHere_tuple
 have hTI:s.TypeIs (.ref r) "range":=⟨_,hr,rfl⟩
 have hlen':n<=2 ^ 24:=Nat.le_trans hlen (by decide)
 wp_walk using wpAny_typeOf hTI,yc (A:=A.in1) (show A.in1.handled=none from hh) hr hsmall hn hlen'
 intro h' tk acc hm hacc
 show wpAny _ _ (Builtin.Tuple.tupleExact acc.toList.toArray >>= fun v=>ret v) _ _ _
 unfold Builtin.Tuple.tupleExact
 refine wpAny_bind (wpAny_newObj_type ?_ (by show acc.toList.toArray.size<=sizeLine;simp only [Array.toArray_toList];rw [hacc.1,sizeLine_eq];exact Nat.le_trans hlen (by decide)))
 refine wpAny_pure ?_
 have e:acc.toList.toArray=acc:=by simp
 rw [e]
 exact h h' tk acc hm hacc
theorem ku {Q:Value->Shared->Prop}{r:Addr}{a b c:Int}{t u v:Tok}{n:Nat}(hh:A.handled=none)(hr:IsRange s.heap r a b c t u v)(hsmall:Builtin.Range.small a b c=true)
  (hn:Builtin.Range.rangeSize a b c=n) (hlen:n<=100000)
  (hQ:∀ (h':Heap) (tk:Nat) (acc:Array Value),(∀ b o,s.heap.get? b=some o->h'.get? b=some o)->ItemsOf (fun i v=>∃ t,v=.int (a+i * c) t) acc n->Q (.ref h'.objs.size) { s with heap:=h'.push { cls:=.type "tuple",data:=.seq acc },toks:=tk }) :
  wpAny (model prog w) A (call (.type "tuple") [.ref r]) Q E s:=by
 refine callType_codes (Q₁:=fun obj s₁=>s₁.TypeIs obj "tuple"/\Q obj s₁) F.called_tuple (F.typeCall_tuple_1 _) F.entry_object_init
  (kI hh hr hsmall hn hlen fun h' tk acc hm hacc=>⟨⟨_,Heap.get?_push_size _ rfl,rfl⟩,hQ h' tk acc hm hacc⟩) fun obj s₁ h₁=>?_
 exact ⟨h₁.1,F.args_object_init_2 obj _,object_init_meets F.called_tuple.init.lookup F.called_tuple.made (by decide) prog w A.in1 _ s₁ ⟨h₁.1,rfl,h₁.2⟩⟩
end
section
variable {X:Cx}
theorem xx (hc:X.calm=true):jn X (.type "tuple") (fun xs H Q=>∃ p a b c n,xs=[.ref p]/\H p=some (wO p a b c)/\Builtin.Range.small a b c=true/\Builtin.Range.rangeSize a b c=((n:Nat):Int)/\n<=100000/\∀ l,H l=none->Q (.ref l) (upd H l (.tup ((zK a c n).map V.int)))):=by
 intro pins s σ H xs us Q I r h
 obtain ⟨p,a,b,c,n,rfl,hp,hs,hn,hz,q⟩:=h
 obtain ⟨u,rfl,rx⟩:=jH r
 cases rx
 obtain ⟨⟨t,u,v,e⟩,_⟩:=(show zQ X.prog X.w H s.heap p (wO p a b c) from I.hok _ _ hp)
 refine ku (I.ok.hd hc) e hs hn hz fun h' tk acc hk hi=>?_
 have I1:Inv X pins σ H { s with heap:=h',toks:=tk }:=I.kept (t':=tk) hk
 refine ⟨.ref h'.objs.size,_,I1.laid (t':=tk) (fun b o e=>Heap.get?_push_of_some _ e) (Nat.le_refl _) (show zQ X.prog X.w _ _ _ (.tup ((zK a c n).map V.int)) from ⟨?_,acc.toList,Zj hi,by simpa using y4.new h' acc⟩),rfl,q _ (I1.hok.fresh (Nat.le_refl _))⟩
 rw [List.length_map,zB]
 exact Nat.le_trans hz (by decide)
end
noncomputable def Vr:List AV->MH->AK->Prop:=fun xs M Q=>∃ a b c n,xs=[.d (.rng a b c)]/\Builtin.Range.small a b c=true/\Builtin.Range.rangeSize a b c=((n:Nat):Int)/\n<=100000/\Q (.d (.tup ((zK a c n).map .int))) M
theorem XM:Zn (fun xs H Q=>∃ p a b c n,xs=[.ref p]/\H p=some (wO p a b c)/\Builtin.Range.small a b c=true/\Builtin.Range.rangeSize a b c=((n:Nat):Int)/\n<=100000/\∀ l,H l=none->Q (.ref l) (upd H l (.tup ((zK a c n).map V.int)))) Vr:=⟨fun {vs xs H O M Q Q'} w r ⟨a,b,c,n,e,h1,h2,h3,q⟩ k=>by
  subst e
  obtain ⟨v,rfl,rv⟩:=qV r
  cases (show Rep H O v (.rng a b c) from rv) with
  | rng o h => exact ⟨_, a, b, c, n, rfl, h, h1, h2, h3, fun l hl => k _ _ _ _ _ q (qi w hl _) (kF w hl _) (Rep.tup (w.fresh hl).1 zh (by simp) fun i x d e1 e2 => by
      rw [List.getElem?_map] at e1 e2
      cases ei:(zK a c n)[i]? with
      | none=>rw [ei] at e1;cases e1
      | some j=>rw [ei] at e1 e2;cases e1;cases e2;exact .int)⟩⟩
section
variable {prog:Program}{w:World}{A:Around}{E:Value->Shared->Prop}{s:Shared}
theorem vP {Q:Int->Shared->Prop}(h:Q wo { s with toks:=s.toks+1 }):wpAny (model prog w) A (pyHash .none) Q E s:=by
 have hT:s.TypeIs .none "NoneType":=rfl
 unfold pyHash
 have hv:[Value.none].any Value.onHeap=false:=rfl
 refine wpAny_bind ?_
 rw [cRoomFor,if_neg (by rw [hv];exact Bool.false_ne_true)];refine wpAny_pure ?_
 refine wpAny_bind (wpAny_specialOf hT F.slot_NoneType_hash.lookup ?_)
 show wpAny _ _ (if (some (Value.builtin "NoneType.__hash__") == some Value.none)=true then _ else _) Q E s
 rw [if_neg (by rw [beq_builtin_none];exact Bool.false_ne_true)]
 refine wpAny_bind (wpAny_specialOf hT F.slot_NoneType_hash.lookup ?_)
 show wpAny _ _ (callSpecialIfBoundUnlessNone? .none "__hash__" _ >>= _) Q E s
 refine wpAny_bind (wpAny_callSpecialIfBoundUnlessNone?_slot hT F.slot_NoneType_hash
  (wpAny_call_entry F.slot_NoneType_hash hT F.entry_NoneType_hash
   (show wpAny _ _ (do ret (<- mkInt 0xFCA86420)) _ _ s from wpAny_ret_mkInt ?_) (F.args_NoneType_hash_1 _)))
 show wpAny _ _ (if (decide (-(2:Int) ^ 63<=0xFCA86420) && decide ((0xFCA86420:Int)<2 ^ 63))=true then _ else _) Q E _
 rw [if_pos (by decide)]
 exact wpAny_pure h
end
noncomputable def kf:Option Int->Value->Bool
 | none,.none=>true
 | some i,v=>Value.isInt i v
 | none,_=>false
theorem zR {v:Value}(h:kf none v=true):v=.none:=by cases v <;> first | rfl | cases h
theorem zN {i:Int}{v:Value}(h:kf (some i) v=true):∃ t,v=.int i t:=Value.isInt_shape h
noncomputable def zt (prog:Program)(w:World):KeyKind prog w (Option Int) where
 is:=kf
 hash:=JZ
 inj:=fun v a b ha hb=>by
  cases a with
  | none=>
   rw [zR ha] at hb
   cases b with
   | none=>rfl
   | some j=>obtain ⟨t,e⟩:=zN hb;cases e
  | some i=>
   obtain ⟨t,rfl⟩:=zN ha
   cases b with
   | none=>cases zR hb
   | some j=>obtain ⟨u,e⟩:=zN hb;cases e;rfl
 byValue:=fun k v h=>by
  cases k with
  | none=>rw [zR h];rfl
  | some i=>obtain ⟨t,rfl⟩:=zN h;rfl
 pyHash:=fun {A E s k v Q} hv h=>by
  cases k with
  | none=>rw [zR hv];exact vP h
  | some i=>obtain ⟨t,rfl⟩:=zN hv;exact wpAny_pyHash_int h
 eqBool:=fun {A E s a b u v Q} hu hv h=>by
  cases a with
  | none=>
   rw [zR hu]
   cases b with
   | none=>rw [zR hv];exact SeqAt.EqAt.same .none _ _ _ _ (by simpa using h)
   | some j=>obtain ⟨t,rfl⟩:=zN hv;exact SeqAt.EqAt.none_int _ _ _ _ _ _ h
  | some i=>
   obtain ⟨t,rfl⟩:=zN hu
   cases b with
   | none=>rw [zR hv];exact SeqAt.EqAt.int_none _ _ _ _ _ _ h
   | some j=>obtain ⟨t2,rfl⟩:=zN hv;exact wpAny_eqBool_int (by rw [show (i == j)=decide (some i=some j) by by_cases e:i=j <;> simp [e]];exact h)
 «strs»:=fun k x t v h=>by
  cases k with
  | none=>cases h
  | some i=>cases h
theorem ZC {p p':Program}{w w':World}{ks:List (Option Int)}{vs:List Value}(h:ItemsAre (zt p w) ks vs):ItemsAre (zt p' w') ks vs:=by
 induction h with
 | nil=>exact .nil
 | cons h _ ih=>exact .cons h ih
theorem ZE {p p':Program}{w w':World}{h:Heap}{ks:List (Option Int)}{a:Addr}(x:IsTupleKey (zt p w) h ks a):IsTupleKey (zt p' w') h ks a:=by
 obtain ⟨o,items,n,h1,h2,h3,h4⟩:=x
 exact ⟨o,items,n,h1,h2,h3,ZC h4⟩
noncomputable def ji (p:Program)(w:World)(h:Heap)(k:NK)(a:Addr):Prop:=∃ o b v n,h.get? a=some o/\o.cls=.type "tuple"/\o.data=.seq #[.ref b,v] n/\IsTupleKey (zt p w) h k.1 b/\kf k.2 v=true
noncomputable def xL (p:Program)(w:World)(k:NK):Int:=reduceHash (Builtin.Tuple.tupleHashOf [tupleKeyHash (zt p w) k.1,(zt p w).hash k.2])
section
variable {prog:Program}{w:World}{A:Around}{E:Value->Shared->Prop}{s:Shared}
theorem wn {h:Heap}{a:Addr}{x y:NK}(hx:ji prog w h x a)(hy:ji prog w h y a):x=y:=by
 obtain ⟨o,b,v,n,h1,h2,h3,h4,h5⟩:=hx
 obtain ⟨o',b',v',n',g1,g2,g3,g4,g5⟩:=hy
 obtain rfl:o=o':=Option.some.inj (h1.symm.trans g1)
 rw [h3] at g3
 injection g3 with g3 _
 have e:[Value.ref b,v]=[Value.ref b',v']:=congrArg Array.toList g3
 injection e with e1 e2
 injection e1 with e1
 injection e2 with e2 _
 subst e1 e2
 exact Prod.ext (h4.inj g4) ((zt prog w).inj _ _ _ h5 g5)
theorem wG {h h':Heap}{k:NK}{a d:Addr}{o:Obj}{es ep}(x:ji prog w h k a)(ho:h.get? d=some o)(hd:o.data=.dict es ep)(hs:Heap.SameBut d h h'):ji prog w h' k a:=by
 obtain ⟨o',b,v,n,h1,h2,h3,h4,h5⟩:=x
 have hne:a ≠ d:=by
  rintro rfl
  obtain rfl:o'=o:=Option.some.inj (h1.symm.trans ho)
  rw [hd] at h3;exact nomatch h3
 exact ⟨o',b,v,n,(hs.2 a hne).trans h1,h2,h3,h4.keeps ho hd hs,h5⟩
theorem ji.typeIs {k:NK}{a:Addr}(x:ji prog w s.heap k a):s.TypeIs (.ref a) "tuple":=let ⟨o,_,_,_,ho,hc,_⟩:=x;⟨o,ho,hc⟩
theorem QD {k:NK}{a:Addr}{Q:Int->Shared->Prop}(hu:A.units+8<cLine)(hk:ji prog w s.heap k a)(h:Q (xL prog w k) { s with toks:=s.toks+(k.1.length+3) }) :
  wpAny (model prog w) A (pyHash (.ref a)) Q E s:=by
 have hT:=hk.typeIs
 obtain ⟨o,b,v,n,ho,_,hd,hb,hv⟩:=hk
 unfold pyHash
 first | unfold pyHashByItsType | skip
 first | refine wpAny_bind (wpAny_cRoomFor_or (.inr (Nat.lt_of_le_of_lt (Nat.le_add_right _ 8) hu)) ?_) | skip
 refine wpAny_bind (wpAny_specialOf hT F.slot_tuple_hash.lookup ?_)
 show wpAny _ _ (if (some (Value.builtin "tuple.__hash__") == some Value.none)=true then _ else _) Q E s
 rw [if_neg (by rw [beq_builtin_none];exact Bool.false_ne_true)]
 refine wpAny_bind (wpAny_specialOf hT F.slot_tuple_hash.lookup ?_)
 show wpAny _ _ (callSpecialIfBoundUnlessNone? (.ref a) "__hash__" _ >>= _) Q E s
 refine wpAny_bind (wpAny_callSpecialIfBoundUnlessNone?_slot hT F.slot_tuple_hash (wpAny_call_entry F.slot_tuple_hash hT F.entry_tuple_hash ?_ (F.args_tuple_hash_1 _)))
 show wpAny _ _ (Builtin.Tuple.tupleItemsOf (.ref a) >>= _) _ _ s
 refine wpAny_bind (wpAny_tupleItemsOf ho hd ?_)
 refine wpAny_bind ?_
 rw [<- Array.forIn_toList]
 refine wpAny_forIn_list _
  (fun qf (acc:Array Int) s'=>(qf=[.ref b,v]/\acc=#[]/\s'=s) \/ (qf=[v]/\acc=#[tupleKeyHash (zt prog w) k.1]/\s'={ s with toks:=s.toks+(k.1.length+1) }) \/ (qf=[]/\acc=#[tupleKeyHash (zt prog w) k.1,(zt prog w).hash k.2]/\s'={ s with toks:=s.toks+(k.1.length+2) }))
  _ ?_ ?_ _ _ (.inl ⟨rfl,rfl,rfl⟩)
 ·rintro x qf acc s' (⟨e,rfl,rfl⟩ | ⟨e,rfl,rfl⟩ | ⟨e,_,_⟩)
  ·injection e with e1 e2
   subst e1 e2
   refine wpAny_bind (wpAny_pyHash_tuple (by show A.units+_<cLine;omega) hb ?_)
   first
    | exact wpAny_pure (.inr (.inl ⟨rfl,rfl,rfl⟩))
    | exact wpAny_bind (wpAny_pure (wpAny_pure (.inr (.inl ⟨rfl,rfl,rfl⟩))))
  ·injection e with e1 e2
   subst e1 e2
   refine wpAny_bind ((zt prog w).pyHash hv ?_)
   first
    | exact wpAny_pure (.inr (.inr ⟨rfl,rfl,rfl⟩))
    | exact wpAny_bind (wpAny_pure (wpAny_pure (.inr (.inr ⟨rfl,rfl,rfl⟩))))
  ·cases e
 ·rintro acc s' (⟨e,_,_⟩ | ⟨e,_,_⟩ | ⟨_,rfl,rfl⟩)
  ·cases e
  ·cases e
  ·show wpAny _ _ (retInt (Builtin.Tuple.tupleHashOf [tupleKeyHash (zt prog w) k.1,(zt prog w).hash k.2])) _ _ _
   refine wpAny_ret_mkInt ?_
   show wpAny _ _ (if (decide (-(2:Int) ^ 63<=Builtin.Tuple.tupleHashOf [tupleKeyHash (zt prog w) k.1,(zt prog w).hash k.2]) && decide (Builtin.Tuple.tupleHashOf [tupleKeyHash (zt prog w) k.1,(zt prog w).hash k.2]<2 ^ 63))=true then _ else _) Q E _
   unfold xL reduceHash at h
   by_cases hr:(decide (-(2:Int) ^ 63<=Builtin.Tuple.tupleHashOf [tupleKeyHash (zt prog w) k.1,(zt prog w).hash k.2]) && decide (Builtin.Tuple.tupleHashOf [tupleKeyHash (zt prog w) k.1,(zt prog w).hash k.2]<2 ^ 63))=true
   ·rw [if_pos hr]
    rw [if_pos hr] at h
    exact wpAny_pure h
   ·rw [if_neg hr]
    rw [if_neg hr] at h
    exact wpAny_bind (wpAny_rule (wpAny_pure h))
theorem B1 {A:Around}{s:Shared}{x y:List (Option Int)}{a b:Addr}(hu:A.units<cLine)(hx:IsTupleKey (zt prog w) s.heap x a)(hy:IsTupleKey (zt prog w) s.heap y b):SeqAt.EqAt A s (.ref a) (.ref b) (decide (x=y)):=
 fun p' w' E Q hq=>wpAny_eqBool_tuple hu (ZE (p':=p') (w':=w') hx) (ZE hy) hq
theorem AW {A:Around}{s:Shared}{x y:Option Int}{u v:Value}(hx:kf x u=true)(hy:kf y v=true):SeqAt.EqAt A s u v (decide (x=y)):=
 fun p' w' E Q hq=>(zt p' w').eqBool (a:=x) (b:=y) hx hy hq
theorem Yw {x y:NK}{a b:Addr}{Q:Bool->Shared->Prop}(hu:A.units+8<cLine)(hx:ji prog w s.heap x a)(hy:ji prog w s.heap y b)(h:Q (decide (x=y)) s) :
  wpAny (model prog w) A (eqBool (.ref a) (.ref b)) Q E s:=by
 by_cases e:a=b
 ·subst e
  obtain rfl:=wn hx hy
  exact SeqAt.EqAt.same _ _ _ _ _ (by simpa using h)
 ·obtain ⟨o,c,u,n,h1,h2,h3,h4,h5⟩:=hx
  obtain ⟨o',d,v,n',g1,g2,g3,g4,g5⟩:=hy
  have t1:s.heap.IsTuple a #[.ref c,u]:=⟨o,h1,h2,n,h3⟩
  have t2:s.heap.IsTuple b #[.ref d,v]:=⟨o',g1,g2,n',g3⟩
  have r:=SeqAt.RcAt.tuples (A:=A) (e:=fun j=>if j=0 then decide (x.1=y.1) else decide (x.2=y.2)) t1 t2 (by omega) fun j j1 j2=>by
   have j1:j<2:=j1
   match j,j1,j2 with
   | 0,_,_=>exact B1 (by show A.units+1<cLine;omega) h4 g4
   | 1,_,_=>exact AW h5 g5
  have e2:((List.range (min (#[Value.ref c,u]:Array Value).size (#[Value.ref d,v]:Array Value).size)).all (fun j=>if j=0 then decide (x.1=y.1) else decide (x.2=y.2)) && (#[Value.ref c,u]:Array Value).size == (#[Value.ref d,v]:Array Value).size)=decide (x=y):=by
   show ((List.range 2).all (fun j=>if j=0 then decide (x.1=y.1) else decide (x.2=y.2)) && true)=_
   rw [show List.range 2=[0,1] from rfl,Bool.and_true]
   simp only [List.all_cons,List.all_nil,Bool.and_true,if_true]
   rw [show (if (1:Nat)=0 then decide (x.1=y.1) else decide (x.2=y.2))=decide (x.2=y.2) from rfl]
   by_cases c1:x.1=y.1 <;> by_cases c2:x.2=y.2 <;> simp [c1,c2,Prod.ext_iff]
  rw [e2] at r
  exact SeqAt.EqAt.of_refs e r _ _ _ _ h
theorem Xm {k:Nat}{ks:List (Option Int)}{a:Addr}{Q:Bool->Shared->Prop}(hk:IsTupleKey (zt prog w) s.heap ks a)(h:Q true s):wpAny (model prog w) A (eqIsQuiet (k+1) (.ref a)) Q E s:=by
 have hT:=hk.typeIs
 obtain ⟨o,items,n,ho,_,hd,hi⟩:=hk
 unfold eqIsQuiet
 refine wpAny_bind (wpAny_specialOf hT F.slot_tuple_eq.lookup ?_)
 show wpAny _ _ (isInstance (.ref a) (.type "tuple") >>= _) _ _ s
 refine wpAny_bind (wpAny_isInstance hT isSubtype_tuple_tuple ?_)
 simp only [Bool.not_true,Bool.false_eq_true,if_false]
 refine wpAny_bind (wpAny_seqItems ho hd ?_)
 refine wpAny_bind ?_
 show wpAny _ _ (forIn items _ _) _ _ s
 rw [<- Array.forIn_toList]
 refine wpAny_forIn_list _ (fun qf r s'=>r.1=none/\s'=s/\∀ v ∈ qf,carriedByValue v=true) _ ?_ ?_ _ _ ⟨rfl,rfl,hi.byValue⟩
 ·rintro v qf r s' ⟨hr,rfl,hall⟩
  rw [eqIsQuiet_byValue _ (hall v List.mem_cons_self)]
  refine wpAny_bind (wpAny_pure ?_)
  simp only [Bool.not_true,Bool.false_eq_true,if_false]
  exact wpAny_pure ⟨rfl,rfl,fun u hu'=>hall u (List.mem_cons_of_mem _ hu')⟩
 ·rintro ⟨r1,r2⟩ s' ⟨hr,rfl,_⟩
  simp only at hr
  subst hr
  exact wpAny_pure h
theorem Yr {x:Option Int}{v:Value}(h:kf x v=true):carriedByValue v=true:=by
 cases x with
 | none=>rw [zR h];rfl
 | some i=>obtain ⟨t,rfl⟩:=zN h;rfl
theorem wX {k:NK}{a:Addr}{Q:Bool->Shared->Prop}(hk:ji prog w s.heap k a)(h:Q true s):wpAny (model prog w) A (eqIsQuiet 8 (.ref a)) Q E s:=by
 have hT:=hk.typeIs
 obtain ⟨o,b,v,n,ho,_,hd,hb,hv⟩:=hk
 have hv':=Yr hv
 unfold eqIsQuiet
 refine wpAny_bind (wpAny_specialOf hT F.slot_tuple_eq.lookup ?_)
 show wpAny _ _ (isInstance (.ref a) (.type "tuple") >>= _) _ _ s
 refine wpAny_bind (wpAny_isInstance hT isSubtype_tuple_tuple ?_)
 simp only [Bool.not_true,Bool.false_eq_true,if_false]
 refine wpAny_bind (wpAny_seqItems ho hd ?_)
 refine wpAny_bind ?_
 show wpAny _ _ (forIn #[Value.ref b,v] _ _) _ _ s
 rw [<- Array.forIn_toList]
 refine wpAny_forIn_list _ (fun qf r s'=>r.1=none/\s'=s/\(qf=[.ref b,v] \/ qf=[v] \/ qf=[])) _ ?_ ?_ _ _ ⟨rfl,rfl,.inl rfl⟩
 ·rintro x qf r s' ⟨hr,rfl,e | e | e⟩
  ·injection e with e1 e2
   subst e1 e2
   refine wpAny_bind (Xm hb ?_)
   simp only [Bool.not_true,Bool.false_eq_true,if_false]
   exact wpAny_pure ⟨rfl,rfl,by first | exact .inr (.inl rfl) | simp⟩
  ·injection e with e1 e2
   subst e1 e2
   rw [eqIsQuiet_byValue _ hv']
   refine wpAny_bind (wpAny_pure ?_)
   simp only [Bool.not_true,Bool.false_eq_true,if_false]
   exact wpAny_pure ⟨rfl,rfl,by first | exact .inr (.inr rfl) | simp⟩
  ·cases e
 ·rintro ⟨r1,r2⟩ s' ⟨hr,rfl,_⟩
  simp only at hr
  subst hr
  exact wpAny_pure h
end
noncomputable def je (prog:Program)(w:World):HeapKind prog w NK where
 is:=ji prog w
 hash:=xL prog w
 draws:=fun k=>k.1.length+3
 room:=fun A=>A.units+8<cLine
 inj:=fun hx hy=>wn hx hy
 keeps:=fun x ho hd hs=>wG x ho hd hs
 pyHash:=fun hu hk h=>QD hu hk h
 eqBool:=fun hu hx hy h=>Yw hu hx hy h
 quiet:=fun hk h=>wX hk h
theorem VQ {x:Option Int}{v:Value}(r:zr (cN x) v):kf x v=true:=by
 cases x with
 | none=>cases (show v=Value.none from r);rfl
 | some i=>obtain ⟨t,rfl⟩:=(show ∃ t,v=Value.int i t from r);simp [kf,Value.isInt]
noncomputable def zO (H:Hp)(b:Addr)(k:NK):Prop:=∃ c,H b=some (.tup [.ref c,cN k.2])/\H c=some (.tup (k.1.map cN))
theorem wr {P:Program}{w:World}:∀ {ks:List (Option Int)} {us:List Value},zq (ks.map cN) us->ItemsAre (zt P w) ks us
 | [],_,r=>by rw [List.map_nil] at r;cases r;exact .nil
 | k :: ks,_,r=>by
  rw [List.map_cons] at r
  cases r with
  | cons h t=>exact .cons (VQ h) (wr t)
theorem kl {P:Program}{w:World}{H:Hp}{h:Heap}{b:Addr}{k:NK}(ok:HOk P w H h)(e:zO H b k):ji P w h k b:=by
 obtain ⟨c,e1,e2⟩:=e
 obtain ⟨_,its,r,o,h1,h2,⟨n,h3⟩,_⟩:=(show zQ P w H h b (.tup [.ref c,cN k.2]) from ok b _ e1)
 obtain ⟨_,its2,r2,o2,g1,g2,⟨n2,g3⟩,_⟩:=(show zQ P w H h c (.tup (k.1.map cN)) from ok c _ e2)
 cases r with
 | @cons _ u _ us ru r=>
  cases r with
  | @cons _ v _ us rv r=>
   cases r
   cases (show u=Value.ref c from ru)
   exact ⟨o,c,v,n,h1,h2,h3,⟨o2,its2.toArray,n2,g1,g2,g3,by simpa using wr r2⟩,VQ rv⟩
noncomputable def qy (xs:List (NK × Addr × V))(k:NK):Option V:=(xs.find? fun x=>decide (x.1=k)).map (·.2.2)
noncomputable def qo (xs:List (NK × Addr × V))(k:NK)(b:Addr)(v:V):List (NK × Addr × V):=if (qy xs k).isSome then xs.map (fun x=>if x.1=k then (x.1,x.2.1,v) else x) else xs ++ [(k,b,v)]
theorem Qw {p:NK × Addr × V}{r:List (NK × Addr × V)}{k:NK}(e:p.1=k):qy (p :: r) k=some p.2.2:=by simp [qy,List.find?_cons,e]
theorem Jj {p:NK × Addr × V}{r:List (NK × Addr × V)}{k:NK}(e:¬ p.1=k):qy (p :: r) k=qy r k:=by simp [qy,List.find?_cons,e]
theorem PN.val {xs:List (NK × Addr × V)}{ys:List (NK × Addr × Value)}(r:PN xs ys)(k:NK):wj (qy xs k) ((atKey ys k).map (·.2)):=by
 induction r with
 | nil=>exact True.intro
 | @cons p q ps qs h t ih=>
  obtain ⟨h1,_,h2⟩:=h
  by_cases e:p.1=k
  ·have e':q.1=k:=h1.symm.trans e
   have b:atKey (q :: qs) k=some q.2:=by simp [atKey,List.find?_cons,e']
   rw [Qw e,b];exact h2
  ·have e':¬ q.1=k:=fun z=>e (h1.trans z)
   have b:atKey (q :: qs) k=atKey qs k:=by simp [atKey,List.find?_cons,e']
   rw [Jj e,b];exact ih
theorem PN.repl {xs:List (NK × Addr × V)}{ys:List (NK × Addr × Value)}(r:PN xs ys)(k:NK){y:V}{u:Value}(ry:zr y u):PN (xs.map fun x=>if x.1=k then (x.1,x.2.1,y) else x) (ys.map (putAt k u)):=by
 induction r with
 | nil=>exact .nil
 | @cons p q ps qs h t ih=>
  rw [List.map_cons,List.map_cons]
  refine .cons ?_ ih
  obtain ⟨h1,h2,h3⟩:=h
  unfold putAt
  by_cases e:p.1=k
  ·rw [if_pos e,if_pos (h1.symm.trans e)];exact ⟨h1,h2,ry⟩
  ·rw [if_neg e,if_neg (fun z=>e (h1.trans z))];exact ⟨h1,h2,h3⟩
theorem PN.put {xs:List (NK × Addr × V)}{ys:List (NK × Addr × Value)}(r:PN xs ys)(k:NK)(b:Addr){y:V}{u:Value}(ry:zr y u):PN (qo xs k b y) (storedH ys k b u):=by
 have e:(qy xs k).isSome=(atKey ys k).isSome:=by rw [(r.val k).isSome_eq,Option.isSome_map]
 unfold qo storedH
 rw [e]
 by_cases q:(atKey ys k).isSome=true
 ·rw [if_pos q,if_pos q];exact r.repl k ry
 ·rw [if_neg q,if_neg q];exact Paired.snoc r ⟨rfl,rfl,ry⟩
theorem xC (xs:List (NK × Addr × V))(k:NK)(b:Addr)(v:V):(qo xs k b v).length<=xs.length+1:=by
 unfold qo
 split
 ·rw [List.length_map];omega
 ·rw [List.length_append];exact Nat.le_refl _
theorem Xp {P:Program}{w:World}{H:Hp}{h:Heap}{a:Addr}{xs:List (NK × Addr × V)}{ys:List (NK × Addr × Value)}(hl:xs.length<=sizeLine)(ha:(a == sysModules)=false)(r:PN xs ys)(d:h.DictOfH (je P w) a ys):zQ P w H h a (DN a xs):=by
 obtain ⟨o,es,ep,h1,h2,h3,h4,_,h5⟩:=d
 exact ⟨⟨hl,ha,ys,r,o,es,ep,h1,h2,h3,h4,h5⟩,⟨o,h1⟩,fun a b ⟨q1,q2,ys,q3,o,es,ep,q4,q5⟩ k=>⟨q1,q2,ys,q3,o,es,ep,k _ q4,q5⟩⟩
theorem vj {P:Program}{w:World}{H:Hp}{h:Heap}{a:Addr}{xs:List (NK × Addr × V)}(ok:HOk P w H h)(e:H a=some (DN a xs))(hk:∀ x ∈ xs,zO H x.2.1 x.1):xs.length<=sizeLine/\(a == sysModules)=false/\∃ ys,PN xs ys/\h.DictOfH (je P w) a ys:=by
 obtain ⟨⟨hl,ha,ys,r,o,es,ep,h1,h2,h3,h4,h5⟩,_⟩:=(show zQ P w H h a (DN a xs) from ok a _ e)
 refine ⟨hl,ha,ys,r,o,es,ep,h1,h2,h3,h4,fun y hy=>?_,h5⟩
 have all:∀ {l:List (NK × Addr × V)} {m:List (NK × Addr × Value)},PN l m->(∀ x ∈ l,zO H x.2.1 x.1)->∀ y ∈ m,ji P w h y.1 y.2.1:=by
  intro l m q
  induction q with
  | nil=>intro _ y hy;exact nomatch hy
  | @cons p q ps qs hq t ih=>
   intro hk y hy
   rcases List.mem_cons.mp hy with e | hy
   ·subst e
    rw [<- hq.1,<- hq.2.1]
    exact kl ok (hk p (by simp))
   ·exact ih (fun x hx=>hk x (by simp [hx])) y hy
 exact all r hk y hy
section
variable {X:Cx}{pins:List (Addr × Obj)}{σ:St}{H:Hp}{s:Shared}{a b:Addr}{xs:List (NK × Addr × V)}{k:NK}{A:Around}{E:Value->Shared->Prop}
theorem Jb {v:V}{Q:Value->Shared->Prop}(hu:A.units+9<cLine)(I:Inv X pins σ H s)(e:H a=some (DN a xs))(hk:∀ x ∈ xs,zO H x.2.1 x.1)(eb:zO H b k)(l:qy xs k=some v)(h:∀ w' s',Inv X pins σ H s'->zr v w'->Q w' s') :
  wpAny (model X.prog X.w) A (getItem (.ref a) (.ref b)) Q E s:=by
 obtain ⟨_,hd,ys,rel,dd⟩:=vj I.hok e hk
 obtain ⟨w',hw,rw'⟩:=wj.some_of (v:=v) (o:=(atKey ys k).map (·.2)) (by rw [<- l];exact rel.val k)
 obtain ⟨p,hp,hp2⟩:=Option.map_eq_some_iff.mp hw
 refine wpAny_getItem_heap (knd:=je X.prog X.w) (show A.units+1+8<cLine by omega) (kl I.hok eb) dd hp ?_
 rw [hp2]
 exact h w' _ (I.tok _) rw'
theorem YH {Q:Value->Shared->Prop}(hu:A.units+9<cLine)(I:Inv X pins σ H s)(e:H a=some (DN a xs))(hk:∀ x ∈ xs,zO H x.2.1 x.1)(eb:zO H b k)(h:∀ s',Inv X pins σ H s'->Q (.bool (!(qy xs k).isSome)) s') :
  wpAny (model X.prog X.w) A (compareOp .NotIn (.ref b) (.ref a)) Q E s:=by
 obtain ⟨_,hd,ys,rel,dd⟩:=vj I.hok e hk
 refine wpAny_notIn_heap (knd:=je X.prog X.w) (show A.units+1+8<cLine by omega) (kl I.hok eb) hd dd ?_
 have q:=(rel.val k).isSome_eq
 rw [Option.isSome_map] at q
 rw [<- q]
 exact h _ (I.tok _)
theorem QR {v:V}{r:Value}{Q:Unit->Shared->Prop}(hu:A.units+9<cLine)(I:Inv X pins σ H s)(e:H a=some (DN a xs))(hk:∀ x ∈ xs,zO H x.2.1 x.1)(eb:zO H b k)(hl:xs.length<sizeLine)(rv:zr v r)
  (h:∀ s',Inv X pins σ (upd H a (DN a (qo xs k b v))) s'->Q () s'):wpAny (model X.prog X.w) A (setItem (.ref a) (.ref b) r) Q E s:=by
 obtain ⟨z,hd,ys,rel,dd⟩:=vj I.hok e hk
 have hz:ys.length<=sizeLine:=by rw [<- Paired.length rel];exact z
 refine wpAny_setItem_heap (knd:=je X.prog X.w) (hsz:=hz) (show A.units+1+8<cLine by omega) (kl I.hok eb) dd fun h' dd' hs=>h _ ?_
 have he:∃ q,h'.get? a=some q:=let ⟨q,_,_,hq,_⟩:=dd';⟨q,hq⟩
 exact Z2 I (by rw [e];exact True.intro) hs he (Xp (by have:=xC xs k b v;omega) hd (rel.put k b rv) dd')
end
theorem hun {A:Around}{k:Nat}(hr:qZ k A):A.units+9<cLine:=Nat.lt_of_le_of_lt (Nat.add_le_add_left (by decide:9<=64) _) hr.units
noncomputable abbrev prN (xs:List (NK × Addr × V)):List (NK × V):=xs.map fun x=>(x.1,x.2.2)
theorem yy (xs:List (NK × Addr × V))(k:NK):qy xs k=xr (prN xs) k:=by
 unfold qy xr
 induction xs with
 | nil=>rfl
 | cons x xs ih=>
  rw [prN,List.map_cons,List.find?_cons,List.find?_cons]
  dsimp only
  cases decide (x.1=k) with
  | true=>rfl
  | false=>exact ih
theorem XO (xs:List (NK × Addr × V))(k:NK):(qy xs k).isSome=((prN xs).any fun kv=>decide (kv.1=k)):=by
 unfold qy
 rw [Option.isSome_map]
 induction xs with
 | nil=>rfl
 | cons x xs ih=>
  rw [prN,List.map_cons,List.find?_cons,List.any_cons]
  dsimp only
  cases decide (x.1=k) with
  | true=>rfl
  | false=>rw [Bool.false_or];exact ih
theorem Zc (xs:List (NK × Addr × V))(k:NK)(b:Addr)(v:V):prN (qo xs k b v)=Y3 (prN xs) k v:=by
 unfold qo Y3
 rw [XO]
 split
 ·unfold prN
  rw [List.map_map,List.map_map]
  refine List.map_congr_left fun x _=>?_
  show (fun x:NK × Addr × V=>(x.1,x.2.2)) (if x.1=k then (x.1,x.2.1,v) else x)=(if x.1=k then (x.1,v) else (x.1,x.2.2))
  split <;> rfl
 ·unfold prN;rw [List.map_append];rfl
section
variable {X:Cx}{pins:List (Addr × Obj)}{σ:St}{H:Hp}{s:Shared}{a b:Addr}{xs:List (NK × Addr × V)}{k:NK}{A:Around}{E:Value->Shared->Prop}
theorem QY {v:V}{r:Value}{Q:Unit->Shared->Prop}(hu:A.units+9<cLine)(I:Inv X pins σ H s)(e:H a=some (DN a xs))(hk:∀ x ∈ xs,zO H x.2.1 x.1)(eb:zO H b k)(hl:xs.length<sizeLine)(rv:zr v r)
  (h:∀ s',Inv X pins σ (upd H a (DN a (qo xs k b v))) s'->Q () s'):wpAny (model X.prog X.w) A (dictSet a (.ref b) r) Q E s:=by
 obtain ⟨z,hd,ys,rel,dd⟩:=vj I.hok e hk
 have hz:ys.length<=sizeLine:=by rw [<- Paired.length rel];exact z
 refine wpAny_dictSet_heap (knd:=je X.prog X.w) (hsz:=hz) (show A.units+8<cLine by omega) (kl I.hok eb) dd fun h' dd' hs=>h _ ?_
 have he:∃ q,h'.get? a=some q:=let ⟨q,_,_,hq,_⟩:=dd';⟨q,hq⟩
 exact Z2 I (by rw [e];exact True.intro) hs he (Xp (by have:=xC xs k b v;omega) hd (rel.put k b rv) dd')
end
theorem JE {P:Program}{w:World}{H:Hp}(h:Heap)(hb:sysModules<h.objs.size):zQ P w H (h.push { cls:=.type "dict",data:=.dict #[] }) h.objs.size (DN h.objs.size []):=
 Xp (ys:=[]) (Nat.zero_le _) (beq_eq_false_iff_ne.mpr (Ne.symm (Nat.ne_of_lt hb))) .nil ⟨_,#[],0,Heap.get?_push_size _ rfl,⟨rfl,rfl,rfl⟩,rfl,rfl,(fun y hy=>nomatch hy),List.nodup_nil⟩
noncomputable def Ql (tk tv:TE):TE:=fun σ H Q=>∀ p,H p=none->vf [(tk,tv)] σ (upd H p (DN p [])) fun ps H2=>H2 p=some (DN p [])/\∃ (b:Addr) (y:V) (k:NK),ps=[(.ref b,y)]/\zO H2 b k/\Q (.ref p) (upd H2 p (DN p (qo [] k b y)))
noncomputable def XJ (td ty:TE):TE:=fun σ H Q=>td σ H fun x H1=>ty σ H1 fun y H2=>∃ (a b:Addr) (xs:List (NK × Addr × V)) (k:NK) (v:V),x=.ref a/\y=.ref b/\H2 a=some (DN a xs)/\(∀ x ∈ xs,zO H2 x.2.1 x.1)/\zO H2 b k/\qy xs k=some v/\Q v H2
noncomputable def Kf (ty td:TE):TE:=fun σ H Q=>ty σ H fun y H1=>td σ H1 fun x H2=>∃ (a b:Addr) (xs:List (NK × Addr × V)) (k:NK),x=.ref a/\y=.ref b/\H2 a=some (DN a xs)/\(∀ x ∈ xs,zO H2 x.2.1 x.1)/\zO H2 b k/\Q (.bl (!(qy xs k).isSome)) H2
noncomputable def Xn (td ty tv:TE):TS:=fun D σ H=>tv σ H fun v H1=>td σ H1 fun x H2=>ty σ H2 fun y H3=>∃ (a b:Addr) (xs:List (NK × Addr × V)) (k:NK),x=.ref a/\y=.ref b/\H3 a=some (DN a xs)/\(∀ x ∈ xs,zO H3 x.2.1 x.1)/\zO H3 b k/\xs.length<sizeLine/\D.nx σ (upd H3 a (DN a (qo xs k b v)))
section
variable {X:Cx}{o i e f value:Expr}{pos pos' tpos:Pos}{td ty tv tk:TE}
theorem Q7 (hu:X.A.units+9<cLine)(h:PPs X pos [some e] [f] [(tk,tv)]):PE X (.Dict [some e] [f] pos) (Ql tk tv):=by
 intro pins s σ H Q I q
 have hn:=I.hok.fresh (Nat.le_refl s.heap.objs.size)
 have I1:=I.laid (a:=s.heap.objs.size) (o:=DN s.heap.objs.size []) (h':=s.heap.push { cls:=.type "dict",data:=.dict #[] }) (t':=s.toks) (fun _ _ q=>Heap.get?_push_of_some _ q) (Nat.le_refl _) (JE s.heap I.big)
 refine wpAny_Dict_any rfl rfl (fun z=>nomatch z) (Nat.le_of_ble_eq_true rfl) (thn (h pins _ σ _ _ I1 (q _ hn)) fun ws s2 ⟨ps,H2,I2,rel,e,b,y,k,ep,g,q2⟩=>?_)
 subst ep
 cases rel with
 | @cons _ w1 _ _ r1 rel=>
  cases rel
  obtain ⟨u1,v1⟩:=w1
  obtain ⟨ra,rb⟩:=r1
  cases (show u1=Value.ref b from ra)
  have hs:(0:Nat)+1<sizeLine:=by rw [sizeLine_eq];decide
  unfold storeAll
  rw [List.forIn_cons]
  refine wpAny_bind (wpAny_bind (QY hu I2 e (fun x hx=>nomatch hx) g (by simp only [List.length_nil];omega) rb fun s3 I3=>wpAny_pure ?_))
  dsimp only
  rw [List.forIn_nil]
  exact wpAny_pure ⟨.ref s.heap.objs.size,_,I3,rfl,q2⟩
theorem xE (hu:X.A.units+9<cLine)(ho:PE X o td)(hi:PE X i ty)(hs:B4 i):PE X (.Subscript o i pos) (XJ td ty):=by
 intro pins s σ H Q I h
 refine YK PySem.F.slot_dict_getitem.lookup hs (thn (ho pins s σ H _ I h) fun u s1 ⟨x,H1,I1,rx,q1⟩=>thn (hi pins s1 σ H1 _ I1 q1) fun iv s2 ⟨y,H2,I2,ry,a,b,xs,k,v,ex,ey,e,hk,hb,hv,q2⟩=>?_)
 subst ex ey
 obtain rfl:u=Value.ref a:=rx
 obtain rfl:iv=Value.ref b:=ry
 obtain ⟨_,_,_,_,dd⟩:=vj I2.hok e hk
 exact ⟨dd.typeIs,Jb hu I2 e hk hb hv fun w' s3 I3 rw'=>⟨v,H2,I3,rw',q2⟩⟩
theorem Jx (hu:X.A.units+9<cLine)(hi:PE X i ty)(ho:PE X o td):PC X .NotIn i o (Kf ty td):=by
 intro pins s σ H Q I h
 refine thn (hi pins s σ H _ I h) fun iv s1 ⟨y,H1,I1,ry,q1⟩=>thn (ho pins s1 σ H1 _ I1 q1) fun u s2 ⟨x,H2,I2,rx,a,b,xs,k,ex,ey,e,hk,hb,q2⟩=>?_
 subst ex ey
 obtain rfl:u=Value.ref a:=rx
 obtain rfl:iv=Value.ref b:=ry
 exact YH hu I2 e hk hb fun s3 I3=>⟨.bl (!(qy xs k).isSome),H2,I3,rfl,q2⟩
theorem JY (hu:X.A.units+9<cLine)(ho:PE X o td)(hi:PE X i ty)(hv:PE X value tv)(hs:swapsWith value (some (.Subscript o i pos')) pos.line X.env=pure false) :
  PS X (.Assign [.Subscript o i pos'] value pos) (Xn td ty tv):=by
 intro pins s σ H D I h
 refine wpAny_Assign_Subscript (thn (hv pins s σ H _ I h) fun r s1 ⟨v,H1,I1,rv,q1⟩=>thn (ho pins s1 σ H1 _ I1 q1) fun u s2 ⟨x,H2,I2,rx,q2⟩=>thn (hi pins s2 σ H2 _ I2 q2) fun iv s3 ⟨y,H3,I3,ry,a,b,xs,k,ex,ey,e,hk,hb,hl,q3⟩=>?_) hs
 subst ex ey
 obtain rfl:u=Value.ref a:=rx
 obtain rfl:iv=Value.ref b:=ry
 exact QR hu I3 e hk hb hl rv fun s4 I4=>⟨σ,_,I4,q3⟩
end
noncomputable def dO:Option Int->Dat
 | none=>.non
 | some i=>.int i
noncomputable abbrev kD (k:NK):Dat:=.tup [.tup (k.1.map dO),dO k.2]
theorem K3 {H:Hp}{O:Own}{v:V}{x:Option Int}(r:Rep H O v (dO x)):v=cN x:=by
 cases x with
 | none=>cases (show Rep H O v .non from r);rfl
 | some i=>exact zI r
theorem ZI {H:Hp}{O:Own}:∀ {ks:List (Option Int)} {xs:List V},xs.length=(ks.map dO).length->(∀ (i:Nat) x d,xs[i]?=some x->(ks.map dO)[i]?=some d->Rep H O x d)->xs=ks.map cN
 | [],xs,h,_=>List.length_eq_zero_iff.mp h
 | k :: ks,[],h,_=>by simp at h
 | k :: ks,x :: xs,h,r=>by
  rw [K3 (r 0 x (dO k) rfl rfl),ZI (ks:=ks) (xs:=xs) (by simpa using h) fun i y d e1 e2=>r (i+1) y d e1 e2];rfl
theorem xb {H:Hp}{O:Own}{v:V}{k:NK}(r:Rep H O v (kD k)):∃ b,v=.ref b/\jx H O b k:=by
 cases r with
 | @tup b xs _ o1 e1 l1 rr=>
  match xs,l1 with
  | [x,y],_=>
   have r1:=rr 0 x _ rfl rfl
   have r2:=K3 (rr 1 y (dO k.2) rfl rfl)
   cases r1 with
   | @tup c ys _ o2 e2 l2 r3=>exact ⟨b,rfl,o1,c,o2,by rw [e1,r2],by rw [e2,ZI l2 r3]⟩
theorem jx.at {H:Hp}{O:Own}{b:Addr}{k:NK}(h:jx H O b k):zO H b k:=let ⟨_,c,_,e1,e2⟩:=h;⟨c,e1,e2⟩
theorem yp {H:Hp}{O:Own}{M:MH}{p:Addr}{l l':List (NK × AV)}{xs':List (NK × Addr × V)}(w:Wf H O M)(hm:M p=some (.dN l))(r:qQ H O M (prN xs') l')(hk:∀ x ∈ xs',jx H O x.2.1 x.1):Ext H O M (upd H p (DN p xs')) O (mup M p (.dN l'))/\Wf (upd H p (DN p xs')) O (mup M p (.dN l')):=
 have np:=qG hm
 ⟨qR w np _ _,Zu w np (fun _ z=>nomatch z) ⟨_,zh,r.ext (qR w np _ _),fun x hx=>(hk x hx).imp (qR w np (DN p xs') (.dN l')).fix⟩⟩
theorem kR {H:Hp}{O:Own}{xs:List (NK × Addr × V)}{k:NK}{b:Addr}{v:V}(h:∀ x ∈ xs,jx H O x.2.1 x.1)(hb:jx H O b k):∀ x ∈ qo xs k b v,jx H O x.2.1 x.1:=by
 intro x hx
 unfold qo at hx
 split at hx
 ·obtain ⟨y,hy,e⟩:=List.mem_map.mp hx
  split at e
  ·subst e;exact h y hy
  ·subst e;exact h y hy
 ·rcases List.mem_append.mp hx with z | z
  ·exact h x z
  ·rw [List.mem_singleton.mp z];exact hb
theorem ZW {H:Hp}{O:Own}{M:MH}{k:NK}{b:Addr}{u:V}{v:AV}{xs:List (NK × Addr × V)}{kvs:List (NK × AV)}(h:qQ H O M (prN xs) kvs)(r:zj H O M u v):qQ H O M (prN (qo xs k b u)) (Jd kvs k v):=by
 rw [Zc];exact Yv h r
noncomputable def ZM (ak av:AE):AE:=fun ρ M Q=>∀ D,M D=none->ak ρ (mup M D (.dN [])) fun y M1=>av ρ M1 fun v M2=>∃ k:NK,y=.d (kD k)/\M2 D=some (.dN [])/\Q (.ref D) (mup M2 D (.dN [(k,v)]))
theorem w8 {tk tv:TE}{ak av:AE}(h1:zA tk ak)(h2:zA tv av):zA (Ql tk tv) (ZM ak av):=⟨fun {σ H O ρ M Q Q'} w e q k p hp=>by
 have kx:=ZQ w hp (DN p []) (.dN [])
 have wx:Wf (upd H p (DN p [])) (yh O p) (mup M p (.dN [])):=W4 w hp (fun _ z=>nomatch z) ⟨[],zh,⟨rfl,.nil⟩,fun x hx=>nomatch hx⟩
 refine h1.go wx (e.ext kx) (q p (w.fresh hp).2) fun y M1 v1 H1 O1 q1 k1 w1 r1=>h2.go w1 ((e.ext kx).ext k1) q1 fun v M2 u H2 O2 q2 k2 w2 r2=>?_
 obtain ⟨ks,rfl,hm,q3⟩:=q2
 obtain ⟨b,rfl,hb⟩:=xb (Rep.ext k2 r1)
 obtain ⟨xs,hx,kr,ho⟩:=w2.mo p _ hm
 have h0:xs=[]:=by
  have:=congrArg List.length kr.1
  exact List.eq_nil_of_length_eq_zero (by simpa using this)
 subst h0
 obtain ⟨k4,w4⟩:=yp w2 hm (ZW (k:=ks) (b:=b) kr r2) (kR ho hb)
 refine ⟨hx,b,u,ks,rfl,hb.at,k _ _ _ _ _ q3 (((kx.trans k1).trans k2).trans k4) w4 ⟨rfl,?_⟩⟩
 rw [ze];exact fun z=>nomatch z⟩
noncomputable def JV (ai ad:AE):AE:=fun ρ M Q=>ai ρ M fun y M1=>ad ρ M1 fun x M2=>∃ (p:Addr) (kvs:List (NK × AV)) (k:NK),x=.ref p/\M2 p=some (.dN kvs)/\y=.d (kD k)/\Q (.d (.bl (!(jl kvs k).isSome))) M2
theorem QQ {ty td:TE}{ai ad:AE}(h1:zA ty ai)(h2:zA td ad):zA (Kf ty td) (JV ai ad):=
 ⟨fun w e q k=>h1.go w e q fun y M1 v H1 O1 q1 k1 w1 r1=>h2.go w1 (e.ext k1) q1 fun x M2 u H2 O2 q2 k2 w2 r2=>by
  obtain ⟨p,kvs,ks,rfl,hm,rfl,q⟩:=q2
  cases r2.1
  obtain ⟨b,rfl,hb⟩:=xb (Rep.ext k2 r1)
  obtain ⟨xs,hx,kr,ho⟩:=w2.mo p _ hm
  refine ⟨p,b,xs,ks,rfl,rfl,hx,fun x hx=>(ho x hx).at,hb.at,k _ _ _ _ _ q (k1.trans k2) w2 ?_⟩
  rw [yy,show (jl kvs ks).isSome=(xr (prN xs) ks).isSome from (JU ks kr.1).symm]
  exact Rep.bl⟩
noncomputable def Xd (ad ai:AE):AE:=fun ρ M Q=>ad ρ M fun x M1=>ai ρ M1 fun y M2=>∃ (p:Addr) (kvs:List (NK × AV)) (k:NK) (v:AV),x=.ref p/\M2 p=some (.dN kvs)/\y=.d (kD k)/\jl kvs k=some v/\Q v M2
theorem Jh {td ty:TE}{ad ai:AE}(h1:zA td ad)(h2:zA ty ai):zA (XJ td ty) (Xd ad ai):=
 ⟨fun w e q k=>h1.go w e q fun x M1 v H1 O1 q1 k1 w1 r1=>h2.go w1 (e.ext k1) q1 fun y M2 u H2 O2 q2 k2 w2 r2=>by
  obtain ⟨p,kvs,ks,v,rfl,hm,rfl,hv,q⟩:=q2
  cases r1.1
  obtain ⟨b,rfl,hb⟩:=xb r2
  obtain ⟨xs,hx,kr,ho⟩:=w2.mo p _ hm
  obtain ⟨u,hu,ru⟩:=wB ks kr.1 kr.2 hv
  exact ⟨p,b,xs,ks,u,rfl,rfl,hx,(fun x hx=>(ho x hx).at),hb.at,by rw [yy];exact hu,k _ _ _ _ _ q (k1.trans k2) w2 ru⟩⟩
noncomputable def K7 (ad ai av:AE):AS:=fun _ D ρ M=>av ρ M fun v M1=>ad ρ M1 fun x M2=>ai ρ M2 fun y M3=>∃ (p:Addr) (kvs:List (NK × AV)) (k:NK),x=.ref p/\M3 p=some (.dN kvs)/\y=.d (kD k)/\kvs.length<1000000/\D.nx ρ (mup M3 p (.dN (Jd kvs k v)))
theorem QH {td ty tv:TE}{ad ai av:AE}(h1:zA td ad)(h2:zA ty ai)(h3:zA tv av):jg (Xn td ty tv) (K7 ad ai av):=
 ⟨fun w0 w e x q E=>h3.go w e q fun z M1 v H1 O1 q1 k1 w1 r1=>h1.go w1 (e.ext k1) q1 fun y M2 u H2 O2 q2 k2 w2 r2=>h2.go w2 ((e.ext k1).ext k2) q2 fun t M3 g H3 O3 q3 k3 w3 r3=>by
  obtain ⟨p,kvs,ks,rfl,hm,rfl,hl,q⟩:=q3
  cases r2.1
  obtain ⟨b,rfl,hb⟩:=xb r3
  obtain ⟨xs,hx,kr,ho⟩:=w3.mo p _ hm
  obtain ⟨k4,w4⟩:=yp w3 hm (ZW (k:=ks) (b:=b) kr ((r1.ext k2).ext k3)) (kR ho hb)
  have hl':xs.length=kvs.length:=by rw [<- Ye kr,List.length_map]
  exact ⟨p,b,xs,ks,rfl,rfl,hx,(fun x hx=>(ho x hx).at),hb.at,by rw [hl'];exact Nat.lt_of_lt_of_le hl (by decide),E.nx _ _ _ _ _ w4 ((((e.ext k1).ext k2).ext k3).ext k4) (x.trans (((k1.trans k2).trans k3).trans k4)) q⟩⟩
end L2
namespace Ot
open PySem PySem.Spec PyProof.Rows L2
noncomputable def top (i:Nat):Stmt:=PySem.Challenge.pw_ownturn_k17_no_plan_has_fewer.main.body.getD i (.Pass ⟨0,0,0,0⟩)
section
variable {P:Program}{w:World}{K:PySem.W.Frag}{mg:Str->Option Value}{base:Heap}{k:Nat}
local macro_rules | `(tactic| walk_at "rd")=>`(tactic| try simp only [J9,Wt,A6,Z3,tOp,KY,tC,tB,BB,BZ,Kw,rI0,rI,Ke,ZU,A8,Kg,Xf,J4,JA,WX,Ai,tCB,K6,W5,ZK,Vu,wK,Vd,WU,rNe,V9,YY,tBM,xj,vh,xh,QE,vf,Q4,Ja,Ae,Al,Xs,ZN,Ks,cxK,Xw,Vv,iLT,VN,vg,tSl,JK,yG,Y2,List.append_nil,
 List.getElem?_cons_zero,List.getElem?_cons_succ,Option.some.injEq,exists_eq_left',exists_eq_left,V.int.injEq,V.ref.injEq,V.bl.injEq,List.cons.injEq,and_true,true_and,and_assoc,decide_eq_true_eq,Bool.not_eq_true',decide_eq_false_iff_not,Bool.false_eq_true,if_false,if_true,reduceIte,exists_and_left,exists_and_right,List.set_cons_zero,List.set_cons_succ,List.nil_append,List.cons_append])
theorem jD {H:Hp}{a b:Addr}{o:HO}(h':H b=none)(h:H a=some o):a ≠ b:=zg h h'
theorem wu {H H':Hp}{l:Addr}(h:H' l=none)(e:Kp [] H H'):H l=none:=e.free h
theorem Zg {K:PySem.W.Frag}{H H':Hp}{a:Addr}{xs:List V}(h:SqL K H a xs)(e:Kp [] H H'):SqL K H' a xs:=by
 rcases h with (h | ⟨o,h⟩) | h
 ·exact .inl (.inl (e _ _ (by simp) h))
 ·exact .inl (.inr ⟨o,e _ _ (by simp) h⟩)
 ·exact .inr h
theorem hsl:100000<sizeLine:=by rw [sizeLine_eq];decide
theorem V5 {α:Type}(k:Nat)(v:α):(List.replicate k [v]).flatten=List.replicate k v:=by simp
theorem jp (i:Int){j:Int}(h:0<j):0<=i % j/\i % j<j:=⟨Int.emod_nonneg _ (by omega),Int.emod_lt_of_pos _ h⟩
theorem WO {i j:Int}(h1:0<=i)(h2:i<18446744073709551616):JJ i j:=.inl ⟨by omega,by omega⟩
theorem KS {i j:Int}(h1:0<=j)(h2:j<18446744073709551616):JJ i j:=.inr ⟨by omega,by omega⟩
theorem b01 (c:Prop)[Decidable c]:0<=(if c then (1:Int) else 0):=by split <;> decide
theorem YF {i j:Int}(h1:0<j)(h2:j<1073741824):Wc i j:=⟨h1,h2⟩
local macro_rules | `(tactic| walk_at "ne")=>`(tactic| first | (with_reducible assumption) | exact Ne.symm (by with_reducible assumption) | exact jD (by with_reducible assumption) (by walk_at "hp") | exact Ne.symm (jD (by with_reducible assumption) (by walk_at "hp")))
local macro_rules | `(tactic| walk_at "hp")=>`(tactic| first | (with_reducible assumption) | (with_reducible exact zh) | ((with_reducible refine Eq.trans (zf ?ne) ?_);(case ne=>walk_at "ne");walk_at "hp"))
local macro_rules | `(tactic| walk_at "kp")=>`(tactic| first | (with_reducible assumption) | (with_reducible exact Kp.refl) | ((with_reducible refine Kp.trans ?_ (Kp.new _ ?h));(case h=>with_reducible assumption);walk_at "kp") | ((with_reducible refine Kp.trans ?_ (Kp.set _ ?h));(case h=>(simp;done));walk_at "kp"))
local macro_rules | `(tactic| walk_at "fr")=>`(tactic| first | (with_reducible assumption) | exact wu (by with_reducible assumption) (by walk_at "kp"))
local macro_rules | `(tactic| walk_at "sz")=>`(tactic| (simp only [List.length_cons,List.length_nil,List.length_map,List.length_append,List.length_replicate,List.length_take,List.length_drop,zB,V5,Nat.zero_add,Nat.one_mul];omega))
local macro_rules | `(tactic| walk_at "fact")=>`(tactic| first | (with_reducible assumption) | exact rfl | exact SqL.of (by walk_at "hp") | exact SqT.of (by walk_at "hp") | exact Or.inl (SqL.of (by walk_at "hp")) | exact Or.inr (SqT.of (by walk_at "hp")) | exact Or.inl (by with_reducible assumption) | exact Zg (by with_reducible assumption) (by walk_at "kp") | exact Or.inl (Zg (by with_reducible assumption) (by walk_at "kp")) | exact Exists.intro _ (SqL.of (by walk_at "hp")) | exact Exists.intro _ (Zg (by with_reducible assumption) (by walk_at "kp")) | (walk_at "hp") | decide | omega | exact WO (by omega) (by omega) | exact KS (by omega) (by omega) | exact YF (by omega) (by omega) | exact ⟨by omega,by omega⟩ | (walk_at "sz") | exact ⟨by decide,by decide,by decide⟩ | exact KS (b01 _) (b01' _) | (walk_at "fr"))
local macro_rules | `(tactic| walk_at "x1")=>`(tactic| first
 | ((with_reducible refine Exists.intro ?w (And.intro ?h ?_));(case h=>walk_at "fact"))
 | ((with_reducible refine And.intro ?h ?_);(case h=>walk_at "fact"))
 | ((with_reducible refine Exists.intro ?w (Exists.intro ?w2 (And.intro ?h ?_)));(case h=>walk_at "fact")))
local macro_rules | `(tactic| walk_at "xs")=>`(tactic| repeat walk_at "x1")
local macro_rules | `(tactic| walk_at "sim1") => `(tactic| first
 | ((with_reducible apply simX_tryR exs_def);intro HX_ OX_ MX_ E_ EA_ hE_)
 | ((with_reducible apply sim_try);intro HX_ OX_ MX_ E_ EA_ hE_)
 | ((with_reducible apply sim_try0);intro HX_ OX_ MX_ E_ EA_ hE_)
 | (with_reducible first | assumption | apply KA | exact Yd | exact WE | exact V7 | exact Ay | exact Ym | exact Jq | exact QB | exact Kk | exact Ys | exact Xz | exact Yy | exact Yz | exact Jy | exact JQ | exact Y9 | exact Xx | exact Xv | exact Yc | exact Aq | exact QV | exact XM | exact Y1 | exact JM | exact Zf | exact Zs | exact v9 | exact Xl | exact Jg | apply QQ | apply w8 | apply Jh | apply QH | apply vD.cons | exact vD.nil | apply Kq | apply Vq | apply Vc | apply X8 | apply Yn | apply JX | apply Yo | apply Qz | apply XN | apply QU | apply Xr | apply Kv | apply BL | apply Vf | apply YJ | apply Ad | apply YB | apply AL | apply Kj | apply Vh | apply XC | apply K5 | apply Ar | apply vE | apply Xg | apply Z7 | apply XR | apply YL | apply Je | apply YD | apply XH | apply Ah | apply We | apply ZS))
local macro_rules | `(tactic| walk_at "sim")=>`(tactic| repeat' walk_at "sim1")
local macro_rules | `(tactic| walk_at "ra")=>`(tactic| try simp only [ZM,JV,Xd,K7,Vr,VJ,BE,aC,aOp,Bf,VC,aCB,VS,aFz,aOw,BX,BY,aB,KR,Bq,Bu,VF,Ki,ww,VB,BJ,Bd,wY,Vz,JO,Vy,Vt,asL,BA,BV,aiS,Bo,aiE,Qg,J1,aI0,A3,aIx,fOp,Ag,Bh,Bj,VE,fSl,BW,BG,bI2,K4,fCB,VI,BO,VG,aBM,Qq,Qd,YT,AM,Kn,Am,wU,AH,Be,B3,BC,BM,B0,Bp,Km,Qx,Option.map_some,Wv,Wx,Wd,Wo,WW,A7,V2,WK,WT,Bb,A1,Wh,VZ,V0,WD,Wr,W2,AD,A0,W3,Au,VT,Wz,Wp,As,VW,Wk,AY,WG,VY,Wy,Av,Aw,Az,V8,Ab,Vb,Qu,zH,jB,Yu,yB,Vw,A5,AJ,WP,Yg,Vo,YU,Vj,X0,YM,XY,xJ,B2,XI,A9,Wj,wV,KN,WB,AN,V6,A4,WY,Aa,AU,id,decide_true,decide_false,Bool.decide_eq_true,not_true_eq_false,not_false_eq_true,ZT,
 List.getElem?_cons_zero,List.getElem?_cons_succ,Option.some.injEq,exists_eq_left',exists_eq_left,AV.d.injEq,AV.ref.injEq,Dat.int.injEq,Dat.bl.injEq,Dat.str.injEq,Dat.lst.injEq,Dat.tup.injEq,Dat.ty.injEq,List.cons.injEq,and_true,true_and,and_assoc,decide_eq_true_eq,Bool.not_eq_true',decide_eq_false_iff_not,Bool.false_eq_true,if_false,if_true,reduceIte,exists_and_left,exists_and_right,List.set_cons_zero,List.set_cons_succ,List.nil_append,List.cons_append,List.length_map,List.map_cons,List.map_nil,Nat.zero_le,Bool.not_true,Bool.not_false,Bool.true_eq_false,eq_self,List.length_cons,List.length_nil])
local macro_rules | `(tactic| walk_at "sk")=>`(tactic| (refine zD fun r9 hr9=>?_;walk_at "ra";refine ⟨_,rfl,_,rfl,by rw [XI];omega,?_⟩;rw [KN,if_neg (by decide +kernel)];subst hr9))
theorem vS (ns:List Int)(lo hi:Option Int):wb (ns.map V.int) lo hi=List.map V.int ((ns.drop (HT.sIx ns.length 0 lo)).take (HT.sIx ns.length ns.length hi - HT.sIx ns.length 0 lo)):=by
 unfold wb
 rw [List.length_map,<- List.map_drop,<- List.map_take]
theorem Qo (cs:List Int)(j:Nat)(v:Int):(cs.map V.int).set j (.int v)=(cs.set j v).map V.int:=by rw [List.map_set]
theorem jC {cs:List Int}{k:Int}(h0:0<=k)(h1:k<cs.length):ixN (cs.map V.int).length k=some k.toNat/\atI (cs.map V.int) k=some (.int (cs.getD k.toNat 0)):=by
 have hk:k.toNat<cs.length:=by omega
 have e1:ixN (cs.map V.int).length k=some k.toNat:=by unfold ixN;rw [List.length_map,if_pos h0,if_pos h1]
 refine ⟨e1,?_⟩
 unfold atI
 rw [e1]
 show (cs.map V.int)[k.toNat]?=_
 rw [List.getElem?_map,List.getD_eq_getElem?_getD,List.getElem?_eq_getElem hk];rfl
theorem ke {ns:List Int}{i:Nat}{x:V}(h:(ns.map V.int)[i]?=some x):x=.int (ns.getD i 0)/\i<ns.length:=by
 rw [List.getElem?_map] at h
 cases e:ns[i]? with
 | none=>rw [e] at h;cases h
 | some v=>
  rw [e] at h
  cases h
  exact ⟨by rw [List.getD_eq_getElem?_getD,e];rfl,(List.getElem?_eq_some_iff.mp e).1⟩
theorem Kp.un {bs:List Addr}{p:Addr}{H H':Hp}(h:Kp (p :: bs) H H')(hp:H p=none):Kp bs H H':=fun c o n e=>h c o (by
 intro z
 rcases List.mem_cons.mp z with z | z
 ·subst z;rw [hp] at e;cases e
 ·exact n z) e
theorem vo {K:PySem.W.Frag}{H H':Hp}{a:Addr}{xs:List V}(h:SqL K H a xs \/ SqT K H a xs)(e:Kp [] H H'):SqL K H' a xs \/ SqT K H' a xs:=h.imp (fun z=>Wg z e) (fun z=>WR z e)
noncomputable def rfs (rs:List (Addr × List Int)):List V:=rs.map fun r=>V.ref r.1
noncomputable abbrev wL:Stmt:=top 10
theorem Qb:zE ["_law_box_here","_law_many","_law_once","_law_found"] ["_law_box_here","_law_many"] (zn wL):=⟨rfl,rfl,rfl,by decide +kernel,rfl,by decide +kernel,by decide +kernel⟩
noncomputable def Xa:Sp:=fun vs H Q _=>∃ (b:Addr) (many:Int) (N:Nat),vs=[.ref b,.int many]/\Bx H b N/\N<1000000000/\0<many/\many<1073741824/\∀ r H',Kp [b] H H'->Bx H' b (N+1)->0<=r->r<many->Q (.int r) H'
theorem YG (a:At K mg "_law_take" wL)(B:Blt mg):Df P w K mg base "_law_take" ["_law_box_here","_law_many"] 1 Xa:=by
 refine xN (k:=0) a Qb (fun _ _ _ _ _ _=>Pn2_ fun _ _=>rfl) (fun vs H Q E h=>?_) (fun f cdv A outer s H vs Q E hr h=>?_)
 ·obtain ⟨b,m,N,rfl,_⟩:=h;rfl
 obtain ⟨b,m,N,rfl,⟨x,y,z,hb,hx,hy,hy',hz,hz'⟩,hN,hm,hm',q⟩:=h
 have sc:=Qb
 refine ⟨_,(zd (jU (qb VH (zU zT (pv 0) zk (fun _ _=>rfl)) zk (qc _)) (zd (qp (zC vV rfl B.divmod QL (za (zU zT (pv 0) zk (fun _ _=>rfl)) (za (pv 1) zb))) (qF (K:=K) 2 rfl rfl (zw (qA (pv 0) zk zG) (zw (zu (i:=3) sc.nd rfl (by first | exact Or.inl rfl | exact Or.inr rfl)) qE))))
  (zl (zV (pv 3)))) qw)
  (zd (qp (zv qe (zU zT (pv 0) zk (fun _ _=>rfl)) zk) (qA (pv 0) zk zG))
  (zd (zz (i:=2) sc.nd rfl (by first | exact Or.inl rfl | exact Or.inr rfl) (zv qW (zv jy (zv qe (zU zT (pv 0) zk (fun _ _=>rfl)) (zv jy zk (zU zT (pv 0) zk (fun _ _=>rfl)))) (zv qe zk (zU zT (pv 0) zk (fun _ _=>rfl)))) zk))
  (zd (qp (zv qW (zv qe (zv jy (pv 2) (zv qe (zv qW (pv 2) zk) zk)) (zU zT (pv 0) zk (fun _ _=>rfl))) zk) (qA (pv 0) zk zG))
  (zl (zV (zv qW (zv XZ (zv qW (zv jy (zU zT (pv 0) zk (fun _ _=>rfl)) (zv qe (zv qW (zU zT (pv 0) zk (fun _ _=>rfl)) zk) zk)) zk) zk) (pv 1)))))))),?_⟩
 rw [show qx ["_law_box_here","_law_many","_law_once","_law_found"] [V.ref b,V.int m]=[some (.ref b),some (.int m),none,none] from rfl]
 walk_at "rd"
 walk_at "xs"
 refine YZ (fun c=>?_) (fun c=>?_)
 ·walk_at "xs"
  refine fun p hp=>?_
  walk_at "xs"
  refine q _ _ ((Kp.new _ hp).trans (Kp.set _ (by simp))) ⟨_,_,_,zh,Int.ediv_nonneg hx (by omega),hy,hy',hz,by omega⟩ (jp x hm).1 (jp x hm).2
 ·walk_at "xs"
  refine q _ _ ((Kp.set _ (by simp)).trans (Kp.set _ (by simp))) ⟨_,_,_,zh,hx,?_,?_,?_,?_⟩ (jp _ hm).1 (jp _ hm).2
  ·exact (jp _ (by decide)).1
  ·exact Int.lt_trans (jp _ (by decide)).2 (by decide)
  ·omega
  ·omega
noncomputable abbrev XF:Stmt:=top 9
theorem KF:zE ["_law_script","_law_k","_law_cell"] ["_law_script","_law_k"] (zn XF):=⟨rfl,rfl,rfl,by decide +kernel,rfl,by decide +kernel,by decide +kernel⟩
noncomputable def Vx:Sp:=fun vs H Q _=>∃ (a:Addr) (k:Int) (cs:List Int),vs=[.ref a,.int k]/\H a=some (il cs)/\0<=k/\k<=1000/\cs.length<=1000/\∀ p H',Kp [] H H'->H p=none->Bx H' p 0->Q (.ref p) H'
theorem Y8 {cs:List Int}{k:Int}(h0:0<=k):∃ c:Int,atI (cs.map V.int ++ List.replicate (k+1).toNat (V.int 0)) k=some (.int c):=by
 have e:cs.map V.int ++ List.replicate (k+1).toNat (V.int 0)=(cs ++ List.replicate (k+1).toNat 0).map V.int:=by simp
 have ek:k=((k.toNat:Nat):Int):=by omega
 have hk:k.toNat<(cs ++ List.replicate (k+1).toNat (0:Int)).length:=by rw [List.length_append,List.length_replicate];omega
 refine ⟨(cs ++ List.replicate (k+1).toNat 0)[k.toNat],?_⟩
 rw [e]
 have q:atI ((cs ++ List.replicate (k+1).toNat (0:Int)).map V.int) ((k.toNat:Nat):Int)=some (.int (cs ++ List.replicate (k+1).toNat 0)[k.toNat]):=XX (by rw [List.getElem?_map,List.getElem?_eq_getElem hk] <;> rfl)
 rw [<- ek] at q
 exact q
theorem Ww (a:At K mg "_law_box" XF)(B:Blt mg):Df P w K mg base "_law_box" ["_law_script","_law_k"] 1 Vx:=by
 refine xN (k:=0) a KF (fun _ _ _ _ _ _=>Pn2_ fun _ _=>rfl) (fun vs H Q E h=>?_) (fun f cdv A outer s H vs Q E hr h=>?_)
 ·obtain ⟨a,k,cs,rfl,_⟩:=h;rfl
 obtain ⟨a,k,cs,rfl,ha,hk,hk',hcs,q⟩:=h
 have sc:=KF
 have hsl:=hsl
 refine ⟨_,(zd (zz (i:=2) sc.nd rfl (by first | exact Or.inl rfl | exact Or.inr rfl) (zU zT (zv Zo (pv 0) (zv wN (qd (za zk zb)) (zv qe (pv 1) zk))) (pv 1) (fun _ _=>rfl)))
  (zl (zV (qd (za (zv jy (zC wv rfl B.abs KU (za (pv 2) zb)) (zM Jc rfl B.int AQ (za (yZ Bz (zC wv rfl B.abs KU (za (pv 2) zb)) (zv WJ zk zk) (qc _)) zb))) (za (zv qW (zv jy (zv qe (zv qe (zv qW (pv 2) zk) (zv jy zk (pv 1))) zk) zk) zk) (za zk zb))))))),?_⟩
 rw [show qx ["_law_script","_law_k","_law_cell"] [V.ref a,V.int k]=[some (.ref a),some (.int k),none] from rfl]
 walk_at "rd"
 walk_at "xs"
 intro p1 hp1
 walk_at "xs"
 intro p2 hp2
 walk_at "xs"
 intro p3 hp3
 simp only [V5] at hp3 ⊢
 obtain ⟨c,hc⟩:=Y8 (cs:=cs) hk
 walk_at "xs"
 intro p4 hp4
 refine q _ _ (by walk_at "kp") (by walk_at "fr") ⟨_,_,_,zh,?_,?_,?_,?_,?_⟩
 ·exact Int.mul_nonneg (by split <;> omega) (b01 _)
 ·exact (jp _ (by decide)).1
 ·exact Int.lt_trans (jp _ (by decide)).2 (by decide)
 ·decide
 ·decide
noncomputable abbrev xq:Stmt:=top 11
theorem yr:zE ["_law_script","_law_many","_law_cells","_law_k","_law_cell"] ["_law_script","_law_many"] (zn xq):=⟨rfl,rfl,rfl,by decide +kernel,rfl,by decide +kernel,by decide +kernel⟩
noncomputable def vz (K:PySem.W.Frag):Sp:=fun vs H Q _=>∃ (a:Addr) (m:Int) (ns:List Int),vs=[.ref a,.int m]/\SqL K H a (ns.map V.int)/\0<m/\m<=60/\ns.length<=63/\∀ p H' cs,Kp [] H H'->H p=none->H' p=some (il cs)->cs.length<=1000->Q (.ref p) H'
theorem Q0 (a:At K mg "_law_folded" xq)(B:Blt mg):Df P w K mg base "_law_folded" ["_law_script","_law_many"] 1 (vz K):=by
 refine xN (k:=0) a yr (fun _ _ _ _ _ _=>Pn2_ fun _ _=>rfl) (fun vs H Q E h=>?_) (fun f cdv A outer s H vs Q E hr h=>?_)
 ·obtain ⟨a,k,cs,rfl,_⟩:=h;rfl
 obtain ⟨a,m,ns,rfl,ha,hm,hm',hns,q⟩:=h
 obtain ⟨M,rfl⟩:∃ M:Nat,m=M:=⟨m.toNat,by omega⟩
 have sc:=yr
 have hsl:=hsl
 refine ⟨_,(zd (zz (i:=2) sc.nd rfl (by first | exact Or.inl rfl | exact Or.inr rfl) (zM jq rfl B.list yM (za (ka y8 (pv 0) yI (kj (pv 1))) zb)))
  (zd (qu PassesOwn.never rfl (X2 rfl B.enumerate (za (ka y8 (pv 0) (kj (pv 1)) (kj zk)) zb)) (qF (K:=K) 2 rfl rfl (zw (zu (i:=3) sc.nd rfl (by first | exact Or.inl rfl | exact Or.inr rfl)) (zw (zu (i:=4) sc.nd rfl (by first | exact Or.inl rfl | exact Or.inr rfl)) qE))) (zl (qp (zv qe (zU zT (pv 2) (zv qW (pv 3) (pv 1)) (fun _ _=>rfl)) (zv jy (pv 4) (zv qe (pv 3) zk))) (qA (pv 2) (zv qW (pv 3) (pv 1)) zG))))
  (zl (zV (pv 2))))),?_⟩
 rw [show qx ["_law_script","_law_many","_law_cells","_law_k","_law_cell"] [V.ref a,V.int M]=[some (.ref a),some (.int M),none,none,none] from rfl]
 walk_at "rd"
 walk_at "xs"
 intro p1 hp1
 rw [vS]
 walk_at "xs"
 intro p2 hp2
 walk_at "xs"
 intro p3 hp3
 rw [vS]
 have e63:(63:Int)=((63:Nat):Int):=rfl
 simp only [HT.sIx_none,HT.sIx_nat,e63,List.drop_zero,Nat.sub_zero] at hp2 hp3 ⊢
 walk_at "xs"
 generalize hc0:ns.take (min M ns.length)=c0 at hp2 hp3 ⊢
 generalize hd0:(ns.drop (min M ns.length)).take (min 63 ns.length - min M ns.length)=d0 at hp2 hp3 ⊢
 have lc:c0.length=min M ns.length:=by rw [<- hc0,List.length_take];omega
 have ld:d0.length<=ns.length - M:=by rw [<- hd0,List.length_take,List.length_drop];omega
 have n23:p2 ≠ p3:=by walk_at "ne"
 refine Yp (xs:=d0.map V.int) (fun i τ H'=>∃ u v cs,τ=[some (.ref a),some (.int M),some (.ref p2),u,v]/\Kp [p2] (upd (upd (upd H p1 (HO.lst (List.map V.int c0))) p2 (HO.lst (List.map V.int c0))) p3 (HO.lst (List.map V.int d0))) H'/\H' p2=some (il cs)/\cs.length=c0.length) ?_ ?_ ?_ ?_
 ·exact ⟨none,none,c0,rfl,Kp.refl,by walk_at "hp",rfl⟩
 ·rintro i τ H' _ ⟨u,v,cs,rfl,kp,_⟩
  exact SqL.of (kp _ _ (by simp [Ne.symm n23]) (by walk_at "hp"))
 ·rintro i x pp τ H' hx hpp ⟨u,v,cs,rfl,kp,hcs,hl⟩
  obtain ⟨rfl,hi⟩:=ke hx
  have b1:=jp (i:Int) hm
  obtain ⟨g1,g2⟩:=jC (cs:=cs) (k:=(i:Int) % (M:Int)) b1.1 (by omega)
  have hcs':upd H' pp (HO.tup [V.int i,V.int (d0.getD i 0)]) p2=some (il cs):=by walk_at "hp"
  walk_at "rd"
  walk_at "xs"
  refine ⟨(kp.trans (Kp.new _ hpp)).trans (Kp.set _ (by simp)),_,zh.trans (congrArg some (congrArg HO.lst (Qo _ _ _))),by rw [List.length_set];exact hl⟩
 ·rintro τ H' ⟨u,v,cs,rfl,kp,hcs,hl⟩
  walk_at "rd"
  refine q _ _ cs (fun c o hc hh=>kp c o ?_ ((((Kp.new _ hp1).trans (Kp.new _ hp2)).trans (Kp.new _ hp3)) c o hc hh)) (by walk_at "fr") hcs (by omega)
  have:c ≠ p2:=jD (wu hp2 (Kp.new _ hp1)) hh
  simpa using this
noncomputable abbrev jZ:Stmt:=top 12
theorem kN:zE ["_law_box_here","_law_n","_law_row","_law_k"] ["_law_box_here","_law_n"] (zn jZ):=⟨rfl,rfl,rfl,by decide +kernel,rfl,by decide +kernel,by decide +kernel⟩
noncomputable def xk:Sp:=fun vs H Q _=>∃ (b:Addr) (n N:Nat),vs=[.ref b,.int n]/\Bx H b N/\N<10000000/\n<=1000/\∀ p H' ns,Kp [b] H H'->H p=none->Bx H' b (N+1000)->H' p=some (il ns)->zm n ns->Q (.ref p) H'
theorem X9 (ns:List Int)(i:Nat)(v:Int):(ns.map V.int).take i ++ V.int v :: (ns.map V.int).drop i=(ns.take i ++ v :: ns.drop i).map V.int:=by simp [List.map_take,List.map_drop]
theorem wz (a:At K mg "_law_shuffled" jZ)(B:Blt mg)(D_law_take:Df P w K mg base "_law_take" ["_law_box_here","_law_many"] 1 Xa):Df P w K mg base "_law_shuffled" ["_law_box_here","_law_n"] 2 xk:=by
 refine xN (k:=1) a kN (fun _ _ _ _ _ _=>Pn2_ fun _ _=>rfl) (fun vs H Q E h=>?_) (fun f cdv A outer s H vs Q E hr h=>?_)
 ·obtain ⟨a,k,cs,rfl,_⟩:=h;rfl
 obtain ⟨b,n,N,rfl,hb,hN,hn,q⟩:=h
 have sc:=kN
 have hsl:=hsl
 refine ⟨_,(zd (zz (i:=2) sc.nd rfl (by first | exact Or.inl rfl | exact Or.inr rfl) (qd zb))
  (zd (qu PassesOwn.never rfl (qg rfl B.range (za (pv 1) zb)) (zu (i:=3) sc.nd rfl (by first | exact Or.inl rfl | exact Or.inr rfl)) (zl (qD (kh PySem.F.plainAttrs_list PySem.F.slot_list_insert PySem.F.type_list_insert Ji (pv 2) (za (qm D_law_take hr rfl (za (pv 0) (za (zv qe (pv 3) zk) zb))) (za (pv 3) zb))))))
  (zl (zV (pv 2))))),?_⟩
 rw [show qx ["_law_box_here","_law_n","_law_row","_law_k"] [V.ref b,V.int n]=[some (.ref b),some (.int n),none,none] from rfl]
 walk_at "rd"
 walk_at "xs"
 intro p hp
 walk_at "xs"
 have hne:b ≠ p:=hb.ne hp
 rw [Int.toNat_natCast]
 refine v8 (fun i τ H'=>∃ u ns,τ=[some (.ref b),some (.int n),some (.ref p),u]/\Kp [p,b] (upd H p (.lst [])) H'/\Bx H' b (N+i)/\H' p=some (il ns)/\zm i ns) ?_ ?_ ?_
 ·exact ⟨none,[],rfl,Kp.refl,hb.new hp,zh,zm.nil⟩
 ·rintro i τ H' hi ⟨u,ns,rfl,kp,b1,hns,ho⟩
  walk_at "rd"
  refine ⟨.inl ⟨rfl,_,SqL.of hns⟩,b,_,N+i,rfl,b1,by omega,by omega,by omega,fun r H2 k2 b2 l2 u2=>?_⟩
  have h2:=k2 p _ (by simpa using Ne.symm hne) hns
  have ol:=ho.1
  refine ⟨_,_,rfl,h2,l2,by rw [List.length_map,ol];omega,by rw [List.length_map,ol];omega,(kp.trans (k2.mono (by simp))).trans (Kp.set _ (by simp)),?_,_,zh.trans (by rw [show (0:Int)+(i:Int)=i by omega,X9]),ho.insert _⟩
  exact b2.keep (Kp.set (bs:=[p]) _ (by simp)) (by simpa using hne)
 ·rintro τ H' ⟨u,ns,rfl,kp,b1,hns,ho⟩
  walk_at "rd"
  exact q p H' ns (Kp.drop1 hp kp) hp (b1.mono (by omega)) hns ho
inductive De where
 | swap (a b:Nat) | take (p:Nat) | move (p g:Nat) | lay (g:Nat)
noncomputable abbrev ES:=List (Option Int) × Option Int
inductive DoE:De->ES->ES->Prop
 | swap {a b:Nat} {row:List (Option Int)} {h:Option Int} {x y:Int}:a ≠ b->row[a]?=some (some x)->row[b]?=some (some y)->DoE (.swap a b) (row,h) ((row.set a (some y)).set b (some x),h)
 | take {p:Nat} {row:List (Option Int)} {x:Int}:row[p]?=some (some x)->DoE (.take p) (row,none) (row.set p none,some x)
 | move {p g:Nat} {row:List (Option Int)} {h:Option Int} {x:Int}:row[p]?=some (some x)->row[g]?=some none->DoE (.move p g) (row,h) ((row.set p none).set g (some x),h)
 | lay {g:Nat} {row:List (Option Int)} {x:Int}:row[g]?=some none->DoE (.lay g) (row,some x) (row.set g (some x),none)
inductive jb:List De->ES->ES->Prop
 | nil {s:ES}:jb [] s s
 | cons {d:De} {l:List De} {s t u:ES}:DoE d s t->jb l t u->jb (d :: l) s u
theorem jb.append {a b:List De}{s t u:ES}(h1:jb a s t)(h2:jb b t u):jb (a ++ b) s u:=by
 induction h1 with
 | nil=>exact h2
 | cons d _ ih=>exact .cons d (ih h2)
theorem jb.one {d:De}{s t:ES}(h:DoE d s t):jb [d] s t:=.cons h .nil
theorem DoE.len {d:De}{s t:ES}(h:DoE d s t):t.1.length=s.1.length:=by
 cases h <;> simp
noncomputable def Bw:Dd->De
 | .take p=>.take p
 | .move p g=>.move p g
 | .lay g=>.lay g
theorem Bv:MR rNe:=fun _ _ _ _ _ hq ⟨e,h⟩=>⟨e,hq _ _ h⟩
theorem xX {ss:List Bool}{i:Nat}(h:i<ss.length):ixN (ss.map V.bl).length (i:Int)=some i/\atI (ss.map V.bl) (i:Int)=some (.bl (ss.getD i false)):=by
 have e1:ixN (ss.map V.bl).length (i:Int)=some i:=by unfold ixN;rw [List.length_map,if_pos (by omega),if_pos (by omega),Int.toNat_natCast]
 refine ⟨e1,?_⟩
 unfold atI
 rw [e1]
 show (ss.map V.bl)[i]?=_
 rw [List.getElem?_map,List.getD_eq_getElem?_getD,List.getElem?_eq_getElem h];rfl
theorem QO {ss:List Bool}{i j:Nat}{v:Bool}(h:i<ss.length):(ss.set i v).getD j false=if j=i then v else ss.getD j false:=by
 rw [List.getD_eq_getElem?_getD,List.getD_eq_getElem?_getD,List.getElem?_set]
 by_cases e:i=j
 ·subst e;rw [if_pos rfl,if_pos h,if_pos rfl];rfl
 ·rw [if_neg e,if_neg (fun z=>e z.symm)]
noncomputable abbrev jA:Stmt:=top 3
theorem j7:zE ["order","first","ring","place"] ["order","first"] (zn jA):=⟨rfl,rfl,rfl,by decide +kernel,rfl,by decide +kernel,by decide +kernel⟩
noncomputable def xu (K:PySem.W.Frag):Sp:=fun vs H Q _=>∃ (a:Addr) (n:Nat) (os:List Int) (p:Int),vs=[.ref a,.int p]/\(SqL K H a (os.map V.int) \/ SqT K H a (os.map V.int))/\zm n os/\n<=1000/\0<=p/\p<n/\∀ t H',Kp [] H H'->H t=none->H' t=some (il (zp os p))->Q (.ref t) H'
theorem yW (a:At K mg "ring_from" jA)(B:Blt mg):Df P w K mg base "ring_from" ["order","first"] 1 (xu K):=by
  refine xN (k:=0) a j7 (fun _ _ _ _ _ _=>Pn2_ fun _ _=>rfl) (fun vs H Q E h=>?_) (fun f cdv A outer s H vs Q E hr h=>?_)
  · obtain ⟨a,_,_,_,rfl,_⟩:=h;rfl
  obtain ⟨a,n,os,p,rfl,ha,ho,hn,p0,p1,q⟩:=h
  have sc:=j7
  have hsl:=hsl
  have ol:=ho.1
  obtain ⟨M,hM,hMn⟩:=qz ho p0 p1
  refine ⟨_,(zd (zz (i:=2) sc.nd rfl (by first | exact Or.inl rfl | exact Or.inr rfl) (qd (za (pv 1) zb)))
    (zd (zz (i:=3) sc.nd rfl (by first | exact Or.inl rfl | exact Or.inr rfl) (zU jT (pv 0) (pv 1) (fun _ _=>rfl)))
    (zd (wc PassesOwn.never (qb BI (pv 3) (pv 1) (qc _)) (zd (qD (kh PySem.F.plainAttrs_list PySem.F.slot_list_append PySem.F.type_list_append qq (pv 2) (za (pv 3) zb)))
    (zl (zz (i:=3) sc.nd rfl (by first | exact Or.inl rfl | exact Or.inr rfl) (zU jT (pv 0) (pv 3) (fun _ _=>rfl))))))
    (zl (zV (pv 2)))))),?_⟩
  rw [show qx ["order","first","ring","place"] [V.ref a,V.int p]=[some (.ref a),some (.int p),none,none] from rfl]
  walk_at "rd"
  obtain ⟨e1,e2⟩:=jC (cs:=os) (k:=p) p0 (by omega)
  refine ⟨by show 1<=sizeLine;decide,fun t ht=>⟨_,vo ha (Kp.new _ ht),_,e2,?_⟩⟩
  refine KJ (fun τ H'=>∃ (j:Nat),τ=[some (.ref a),some (.int p),some (.ref t),some (.int (itn os j p))]/\Kp [t] (upd H t (.lst [.int p])) H'/\H' t=some (il (itl os p j))/\1<=j/\j<=M/\∀ i,1<=i->i<j->itn os i p ≠ p)
    (fun _ H'=>match H' t with | some (.lst xs)=>M+1 - xs.length | _=>0) ?_ ?_ (YV (Bl Bv JP JP))
  · exact ⟨1,rfl,Kp.refl,zh,Nat.le_refl _,hM.1,fun i h1 h2=>by omega⟩
  · rintro τ H' ⟨j,rfl,kp,hH,j1,jM,hj⟩
    have bd:=zX ho p0 p1 j
    have k0:=Kp.drop1 ht kp
    walk_at "rd"
    refine ⟨rfl,YZ (fun c=>?_) (fun c=>?_)⟩
    · have jM' : j < M := by
        rcases Nat.lt_or_ge j M with z | z
        · exact z
        · have e:j=M:=by omega
          subst e
          exact absurd hM.2.1 c
      obtain ⟨g1,g2⟩:=jC (cs:=os) (k:=itn os j p) bd.1 (by omega)
      have k1:Kp [] H (upd H' t (HO.lst (List.map V.int (itl os p j) ++ [V.int (itn os j p)]))):=Kp.drop1 ht (kp.trans (Kp.set _ (by simp)))
      refine ⟨.inl ⟨rfl,_,SqL.of hH⟩,_,hH,by rw [List.length_map,qa];omega,_,vo ha k1,_,g2,⟨j+1,rfl,kp.trans (Kp.set _ (by simp)),?_,by omega,by omega,fun i h1 h2=>?_⟩,?_⟩
      · rw [KB]
        exact zh.trans (congrArg some (congrArg HO.lst (by rw [List.map_append];rfl)))
      · by_cases e:i=j
        · subst e;exact c
        · exact hj i h1 (by omega)
      · rw [zh,hH]
        show M+1 - (List.map V.int (itl os p j) ++ [V.int (itn os j p)]).length<M+1 - (List.map V.int (itl os p j)).length
        rw [List.length_append,List.length_map,qa]
        show M+1 - (j+1)<M+1 - j
        omega
    · have hw:jt os p j:=⟨j1,by by_cases z:itn os j p=p;exact z;exact absurd z c,hj⟩
      refine q _ _ k0 ht ?_
      unfold zp
      rw [hw.per]
      exact hH
noncomputable abbrev yK:Stmt:=top 4
theorem vC:zE ["order","seen","found","first","ring","place"] ["order"] (zn yK):=⟨rfl,rfl,rfl,by decide +kernel,rfl,by decide +kernel,by decide +kernel⟩
noncomputable def Z8 (K:PySem.W.Frag):Sp:=fun vs H Q _=>∃ (a:Addr) (n:Nat) (os:List Int),vs=[.ref a]/\(SqL K H a (os.map V.int) \/ SqT K H a (os.map V.int))/\zm n os/\n<=1000 /\
 ∀ p H' rs,Kp [] H H'->H p=none->H' p=some (.lst (rfs rs))->(∀ r ∈ rs,H r.1=none/\r.1 ≠ p/\H' r.1=some (il r.2))->rs.map (·.2)=zi os n->Q (.ref p) H'
theorem K0 (a:At K mg "rings" yK)(B:Blt mg)(D_ring_from:Df P w K mg base "ring_from" ["order","first"] 1 (xu K)):Df P w K mg base "rings" ["order"] 2 (Z8 K):=by
 refine xN (k:=1) a vC (fun _ _ _ _ _ _=>Pn1_ fun _=>rfl) (fun vs H Q E h=>?_) (fun f cdv A outer s H vs Q E hr h=>?_)
 ·obtain ⟨a,_,_,rfl,_⟩:=h;rfl
 obtain ⟨a,n,os,rfl,ha,ho,hn,q⟩:=h
 have sc:=vC
 have hsl:=hsl
 have ol:=ho.1
 refine ⟨_,(zd (zz (i:=1) sc.nd rfl (by first | exact Or.inl rfl | exact Or.inr rfl) (zv wN (qd (za kg zb)) (zC zx rfl B.len qU (za (pv 0) zb))))
  (zd (zz (i:=2) sc.nd rfl (by first | exact Or.inl rfl | exact Or.inr rfl) (qd zb))
  (zd (qu PassesOwn.never rfl (qg rfl B.range (za (zC zx rfl B.len qU (za (pv 0) zb)) zb)) (zu (i:=3) sc.nd rfl (by first | exact Or.inl rfl | exact Or.inr rfl)) (zl (jU (kK (j3 (zU zT (pv 1) (pv 3) (fun _ _=>rfl)) (fun _=>rfl))) (zd (zz (i:=4) sc.nd rfl (by first | exact Or.inl rfl | exact Or.inr rfl) (qm D_ring_from hr rfl (za (pv 0) (za (pv 3) zb))))
  (zd (qu PassesOwn.never rfl (YS (pv 4)) (zu (i:=5) sc.nd rfl (by first | exact Or.inl rfl | exact Or.inr rfl)) (zl (qp kg (qA (pv 1) (pv 5) zG))))
  (zl (jU (qb VH (zC zx rfl B.len qU (za (pv 4) zb)) zk (qc _)) (zl (qD (kh PySem.F.plainAttrs_list PySem.F.slot_list_append PySem.F.type_list_append qq (pv 2) (za (pv 4) zb)))) qw)))) qw)))
  (zl (zV (pv 2)))))),?_⟩
 rw [show qx ["order","seen","found","first","ring","place"] [V.ref a]=[some (.ref a),none,none,none,none,none] from rfl]
 walk_at "rd"
 refine ⟨by show 1<=sizeLine;decide,fun pz hpz=>⟨_,vo ha (Kp.new _ hpz),_,zh,?_⟩⟩
 rw [List.length_map,ol,Int.toNat_natCast,V5]
 refine ⟨by omega,by omega,by show 1 * n<=sizeLine;omega,fun ps hps=>?_⟩
 refine ⟨Nat.zero_le _,fun pf hpf=>?_⟩
 have kH:=((Kp.new (bs:=[]) (HO.lst [V.bl false]) hpz).trans (Kp.new (HO.lst (List.replicate n (V.bl false))) hps)).trans (Kp.new (HO.lst []) hpf)
 have nps:H ps=none:=(Kp.new (bs:=[]) _ hpz).free hps
 have npf:H pf=none:=((Kp.new (bs:=[]) _ hpz).trans (Kp.new _ hps)).free hpf
 have hps0:=(Kp.new (bs:=[]) (HO.lst []) hpf) ps _ (by simp) (zh (H:=upd H pz (HO.lst [V.bl false])) (o:=HO.lst (List.replicate n (V.bl false))))
 have hpf0:=zh (H:=upd (upd H pz (HO.lst [V.bl false])) ps (HO.lst (List.replicate n (V.bl false)))) (a:=pf) (o:=HO.lst [])
 have nsf:ps ≠ pf:=zg zh hpf
 generalize upd (upd (upd H pz (HO.lst [V.bl false])) ps (HO.lst (List.replicate n (V.bl false)))) pf (HO.lst [])=H0 at *
 refine ⟨_,vo ha kH,?_⟩
 rw [List.length_map,ol]
 refine ⟨by omega,by omega,?_⟩
 rw [Int.toNat_natCast]
 refine v8 (fun i τ G=>∃ (x3 x4 x5:Option V) (ss:List Bool) (rs:List (Addr × List Int)),τ=[some (.ref a),some (.ref ps),some (.ref pf),x3,x4,x5]/\Kp [ps,pf] H0 G/\G ps=some (.lst (ss.map V.bl))/\ss.length=n/\(∀ x:Nat,x<n->(ss.getD x false=true ↔ zF os i (x:Int)))/\G pf=some (.lst (rfs rs))/\(∀ r ∈ rs,H r.1=none/\r.1 ≠ pf/\r.1 ≠ ps/\G r.1=some (il r.2))/\rs.map (·.2)=zi os i) ?_ ?_ ?_
 ·refine ⟨none,none,none,List.replicate n false,[],rfl,Kp.refl,by rw [List.map_replicate];exact hps0,by simp,fun x hx=>?_,hpf0,fun r hr=>(nomatch hr),rfl⟩
  constructor
  ·intro z
   rw [List.getD_eq_getElem?_getD,List.getElem?_replicate,if_pos hx] at z
   cases z
  ·rintro ⟨q,hq,_⟩;omega
 ·rintro i τ G hi ⟨x3,x4,x5,ss,rs,rfl,kG,gs,ls,hs,gf,hr,er⟩
  have kHG:Kp [] H G:=Kp.un (Kp.un ((kH.mono (by simp)).trans kG) nps) npf
  obtain ⟨s1,s2⟩:=xX (ss:=ss) (i:=i) (by omega)
  have lrs:rs.length<=i:=by
   have:=xw os i
   rw [<- er,List.length_map] at this
   exact this
  rw [Int.zero_add]
  walk_at "rd"
  refine ⟨_,SqL.of gs,_,s2,_,rfl,YZ (fun c=>?_) (fun c=>?_)⟩
  ·have hns:¬ zF os i (i:Int):=by rw [<- hs i hi,c];simp
   refine ⟨a,n,os,i,rfl,vo ha kHG,ho,hn,by omega,by omega,fun t G1 k1 ht h1=>?_⟩
   have gs1:=k1 _ _ (by simp) gs
   have gf1:=k1 _ _ (by simp) gf
   obtain ⟨M,hM,hMn⟩:=qz ho (p:=(i:Int)) (by omega) (by omega)
   have hrl:(zp os (i:Int)).length=M:=by unfold zp;rw [qa,hM.per]
   have nts:t ≠ ps:=Ne.symm (zg gs ht)
   have ntf:t ≠ pf:=Ne.symm (zg gf ht)
   refine ⟨t,rfl,⟨_,SqL.of h1⟩,?_⟩
   refine Y5 (xs:=(zp os (i:Int)).map V.int) (fun j τ G'=>∃ (x5:Option V) (ss':List Bool),τ=[some (.ref a),some (.ref ps),some (.ref pf),some (.int (i:Int)),some (.ref t),x5]/\Kp [ps] G1 G'/\G' ps=some (.lst (ss'.map V.bl))/\ss'.length=n/\∀ x:Nat,x<n->(ss'.getD x false=true ↔ zF os i (x:Int) \/ (x:Int) ∈ (zp os (i:Int)).take j)) ?_ ?_ ?_ ?_
   ·exact ⟨x5,ss,rfl,Kp.refl,gs1,ls,fun x hx=>by rw [hs x hx];simp⟩
   ·rintro j τ G' _ ⟨_,ss',rfl,kp,_⟩
    exact SqL.of (kp _ _ (by simpa using nts) h1)
   ·rintro j x τ G' hx ⟨y5,ss',rfl,kp,gs',ls',hs'⟩
    obtain ⟨rfl,hj⟩:=ke hx
    have hm:(zp os (i:Int)).getD j 0 ∈ zp os (i:Int):=by rw [qT hj];exact List.getElem_mem hj
    have hb:0<=(zp os (i:Int)).getD j 0/\(zp os (i:Int)).getD j 0<(n:Int):=by
     obtain ⟨k,_,e⟩:=zL.mp hm
     rw [<- e]
     exact zX ho (by omega) (by omega) k
    have htk:(zp os (i:Int)).take (j+1)=(zp os (i:Int)).take j ++ [(zp os (i:Int)).getD j 0]:=by
     rw [qT hj];exact (List.take_append_getElem hj).symm
    generalize (zp os (i:Int)).getD j 0=v at *
    obtain ⟨vn,rfl⟩:∃ vn:Nat,v=vn:=⟨v.toNat,by omega⟩
    obtain ⟨g1,g2⟩:=xX (ss:=ss') (i:=vn) (by omega)
    walk_at "rd"
    refine ⟨_,gs',vn,g1,kp.trans (Kp.set _ (by simp)),ss'.set vn true,zh.trans (congrArg some (congrArg HO.lst (by rw [List.map_set]))),by rw [List.length_set];exact ls',fun x hx=>?_⟩
    rw [QO (by omega),htk,List.mem_append,List.mem_singleton]
    by_cases e:x=vn
    ·subst e;rw [if_pos rfl];simp
    ·have e':¬ ((x:Int)=(vn:Int)):=by omega
     rw [if_neg e,hs' x hx]
     simp [e']
   ·rintro τ G' ⟨y5,ss',rfl,kp,gs',ls',hs'⟩
    rw [List.length_map,List.take_length] at hs'
    have h1':=kp _ _ (by simpa using nts) h1
    have gf':=kp _ _ (by simpa using Ne.symm nsf) gf1
    have hs'':∀ x:Nat,x<n->(ss'.getD x false=true ↔ zF os (i+1) (x:Int)):=fun x hx=>by
     rw [hs' x hx,zF.succ,Rch.mem_ring hM]
     unfold zp
     rw [hM.per]
    have kp2:Kp [ps,pf] H0 G':=(kG.trans (k1.mono (by simp))).trans (kp.mono (by simp))
    have hr':∀ r ∈ rs,H r.1=none/\r.1 ≠ pf/\r.1 ≠ ps/\G' r.1=some (il r.2):=fun r hr0=>by
     obtain ⟨z1,z2,z3,z4⟩:=hr r hr0
     exact ⟨z1,z2,z3,kp _ _ (by simpa using z3) (k1 _ _ (by simp) z4)⟩
    have hL:jw os i:=qK.mpr hns
    walk_at "rd"
    refine ⟨_,.inl (SqL.of h1'),YZ (fun c1=>?_) (fun c1=>?_)⟩
    ·have hpe:1<per os (i:Int):=by rw [hM.per];rw [List.length_map,hrl] at c1;omega
     refine ⟨.inl ⟨rfl,_,SqL.of gf'⟩,_,gf',by unfold rfs;rw [List.length_map];omega,⟨_,rfl⟩,kp2.trans (Kp.set _ (by simp)),ss',(zf nsf).trans gs',ls',hs'',rs ++ [(t,zp os (i:Int))],?_,fun r hr0=>?_,?_⟩
     ·refine zh.trans (congrArg some (congrArg HO.lst ?_))
      unfold rfs;rw [List.map_append];rfl
     ·rcases List.mem_append.mp hr0 with z | z
      ·obtain ⟨z1,z2,z3,z4⟩:=hr' r z
       exact ⟨z1,z2,z3,(zf z2).trans z4⟩
      ·rw [List.mem_singleton.mp z]
       exact ⟨kHG.free ht,ntf,nts,(zf ntf).trans h1'⟩
     ·show _=zi os i ++ _
      rw [if_pos ⟨hL,hpe⟩,List.map_append,er]
      rfl
    ·have hpe:¬ 1<per os (i:Int):=by rw [hM.per];rw [List.length_map,hrl] at c1;omega
     refine ⟨⟨_,rfl⟩,kp2,ss',gs',ls',hs'',rs,gf',hr',?_⟩
     show _=zi os i ++ _
     rw [if_neg (fun z=>hpe z.2),List.append_nil,er]
  ·have hsi:zF os i (i:Int):=(hs i hi).mp (by cases z:ss.getD i false with | true=>rfl | false=>exact absurd z c)
   refine ⟨kG,ss,gs,ls,fun x hx=>by rw [hs x hx,zF.step ho hi hsi],rs,gf,hr,?_⟩
   show _=zi os i ++ _
   rw [if_neg (fun z=>qK.mp z.1 hsi),List.append_nil,er]
 ·rintro τ G ⟨x3,x4,x5,ss,rs,rfl,kG,gs,ls,hs,gf,hr,er⟩
  have kHG:Kp [] H G:=Kp.un (Kp.un ((kH.mono (by simp)).trans kG) nps) npf
  walk_at "rd"
  exact q _ _ rs kHG npf gf (fun r hr0=>⟨(hr r hr0).1,(hr r hr0).2.1,(hr r hr0).2.2.2⟩) er
noncomputable def BD:ASp:=fun xs M Q=>∃ (x:AV) (k:Int) (cs:List Int),xs=[x,.d (.int k)]/\qC x M=some (cs.map fun i=>.d (.int i))/\0<=k/\k<=1000/\cs.length<=1000/\∀ p o,M p=none->BxM (mup M p o) p 0->Q (.ref p) (mup M p o)
theorem Ap (vs:List V)(H:Hp)(Q:VK)(E:XK)(h:cSp BD vs H Q E):Vx vs H Q E:=by
 obtain ⟨xs,M,O,Q',w,r,⟨x,n,cs,rfl,hx,h1,h2,h3,q⟩,k⟩:=h
 obtain ⟨v,u,rfl,rv,ru⟩:=yJ r
 rw [zI ru]
 obtain ⟨a,rfl,ha⟩:=K8 w rv hx
 refine ⟨a,n,cs,rfl,ha,h1,h2,h3,fun p H' kp hp hb'=>?_⟩
 obtain ⟨x',y',z',g1,g2⟩:=hb'
 obtain ⟨e1,w1⟩:=Ze w kp
 have fr:=w.fresh hp
 have e2:=Ext.owned (O':=yh O p) (p:=p) w ⟨fun a o h e=>⟨(e1.fix a o h e).1,fun z=>z.elim (zg e hp) h⟩,fun a h e=>⟨(e1.prv a h e).1,.inr h,e⟩,fun _ h=>h⟩ hp (.lst ([x',y',z'].map fun i=>.d (.int i)))
 refine k _ _ _ _ _ (q p _ fr.2 ⟨x',y',z',ze,g2⟩) e2 (vU (O:=yh O p) (xs:=[V.int x',V.int y',V.int z']) ⟨fun a o h=>?_,fun a h=>.inr (w1.own a h),fun a h=>?_⟩ (.inl rfl) fr.2 g1 (KH [x',y',z'])) ⟨rfl,by rw [ze];exact fun z=>nomatch z⟩
 ·have e3:Ext H O M H' (yh O p) M:=⟨fun a o h e=>⟨(e1.fix a o h e).1,fun z=>z.elim (zg e hp) h⟩,fun a h e=>⟨(e1.prv a h e).1,.inr h,e⟩,fun _ h=>h⟩
  refine ql.ext e3 ?_ (w.mo a o h)
  obtain ⟨u,hu,_⟩:=w.al a (w.own a (qG h))
  rw [hu];exact kp a u (by simp) hu
 ·rcases h with rfl | h
  ·exact ⟨_,g1,fun xs z=>nomatch z⟩
  ·exact w1.al a h
noncomputable def Z1 (K:PySem.W.Frag):ASp:=fun xs M Q=>∃ (m:Int) (ns:List Int),xs=[.d (.scr K ns),.d (.int m)]/\0<m/\m<=60/\ns.length<=63/\∀ cs:List Int,cs.length<=1000->Q (.d (.lst (cs.map .int))) M
theorem Jf (vs:List V)(H:Hp)(Q:VK)(E:XK)(h:cSp (Z1 K) vs H Q E):vz K vs H Q E:=by
 obtain ⟨xs,M,O,Q',w,r,⟨m,ns,rfl,h1,h2,h3,q⟩,k⟩:=h
 obtain ⟨v,u,rfl,rv,ru⟩:=yJ r
 rw [zI ru]
 obtain ⟨a,rfl,ha⟩:=Yx rv
 refine ⟨a,m,ns,rfl,ha,h1,h2,h3,fun p H' cs kp hp hc lc=>?_⟩
 obtain ⟨e1,w1⟩:=Ze w kp
 exact k _ _ _ _ _ (q cs lc) e1 w1 (xo (w.fresh hp).1 hc)
noncomputable def VM:ASp:=fun xs M Q=>∃ (b:Addr) (n N:Nat),xs=[.ref b,.d (.int n)]/\BxM M b N/\N<10000000/\n<=1000/\∀ os M',BxS M M' b (N+1000)->zm n os->Q (.d (.lst (os.map .int))) M'
theorem Vi (vs:List V)(H:Hp)(Q:VK)(E:XK)(h:cSp VM vs H Q E):xk vs H Q E:=by
 obtain ⟨xs,M,O,Q',w,r,⟨b,n,N,rfl,hb,h1,h2,q⟩,k⟩:=h
 obtain ⟨v,u,rfl,rv,ru⟩:=yJ r
 rw [zI ru,rv.1]
 refine ⟨b,n,N,rfl,hb.bx w,h1,h2,fun p H' ns kp hp hb' hq ho=>?_⟩
 obtain ⟨M',s,e,w'⟩:=WH w hb kp hb'
 exact k _ _ _ _ _ (q ns M' s ho) e w' (xo (w.fresh hp).1 hq)
noncomputable def qO (sw:Bool)(s:NK)(a b:Nat):List NK:=
 if sw=true then (if a<b then [((s.1.set a (s.1.getD b none)).set b (s.1.getD a none),none)] else [])
 else if s.1.getD a none ≠ none/\s.1.getD b none=none then [((s.1.set a none).set b (s.1.getD a none),s.2)] else []
noncomputable def jS (sw:Bool)(s:NK)(a:Nat):List NK:=
 if sw=true then [] else if s.2=none then (if s.1.getD a none ≠ none then [(s.1.set a none,s.1.getD a none)] else []) else (if s.1.getD a none=none then [(s.1.set a s.2,none)] else [])
noncomputable def ahL (sw:Bool)(s:NK):List NK:=(List.range s.1.length).flatMap fun a=>(List.range s.1.length).flatMap (qO sw s a) ++ jS sw s a
inductive Rh (sw:Bool) (s0:NK):Nat->NK->Prop
 | zero:Rh sw s0 0 s0
 | step {m:Nat} {r t:NK}:Rh sw s0 m r->t ∈ ahL sw r->Rh sw s0 (m+1) t
noncomputable def Lst (sw:Bool)(s0:NK)(k:NK)(m:Nat):Prop:=Rh sw s0 m k/\∀ j,j<m->¬ Rh sw s0 j k
theorem Rh.lst {sw:Bool}{s0:NK}:∀ {m:Nat} {k:NK},Rh sw s0 m k->∃ j,j<=m/\Lst sw s0 k j:=by
 intro m
 induction m using Nat.strongRecOn with
 | ind m ih=>
  intro k h
  by_cases c:∃ j,j<m/\Rh sw s0 j k
  ·obtain ⟨j,hj,hr⟩:=c
   obtain ⟨i,hi,l⟩:=ih j hj hr
   exact ⟨i,by omega,l⟩
  ·exact ⟨m,Nat.le_refl _,h,fun j hj hr=>c ⟨j,hj,hr⟩⟩
theorem Lst.uniq {sw:Bool}{s0 k:NK}{a b:Nat}(h1:Lst sw s0 k a)(h2:Lst sw s0 k b):a=b:=by
 rcases Nat.lt_trichotomy a b with h | h | h
 ·exact absurd h1.1 (h2.2 a h)
 ·exact h
 ·exact absurd h2.1 (h1.2 b h)
theorem Lst.pred {sw:Bool}{s0 k:NK}{m:Nat}(h:Lst sw s0 k (m+1)):∃ r,Lst sw s0 r m/\k ∈ ahL sw r:=by
 obtain ⟨h1,h2⟩:=h
 cases h1 with
 | @step _ r _ hr ht=>exact ⟨r,⟨hr,fun j hj q=>h2 (j+1) (by omega) (.step q ht)⟩,ht⟩
theorem Lst.down {sw:Bool}{s0:NK}{m:Nat}:∀ {d:Nat} {k:NK},Lst sw s0 k (m+d)->∃ r,Lst sw s0 r m
 | 0,k,h=>⟨k,h⟩
 | d+1,_,h=>let ⟨_,h1,_⟩:=Lst.pred (m:=m+d) h;Lst.down h1
theorem BN {sw:Bool}{s0 k:NK}(h:Rh sw s0 0 k):k=s0:=by cases h;rfl
noncomputable def okO (n:Nat)(x:Option Int):Prop:=x=none \/ ∃ i:Nat,i<n/\x=some (i:Int)
noncomputable def WfN (n:Nat)(s:NK):Prop:=s.1.length=n/\(∀ x ∈ s.1,okO n x)/\okO n s.2
theorem j6 {n:Nat}{row:List (Option Int)}(h:∀ x ∈ row,okO n x)(a:Nat):okO n (row.getD a none):=by
 rw [List.getD_eq_getElem?_getD]
 cases e:row[a]? with
 | none=>exact .inl rfl
 | some x=>exact h x (List.mem_of_getElem? e)
theorem jP {n:Nat}{row:List (Option Int)}(h:∀ x ∈ row,okO n x){y:Option Int}(hy:okO n y)(a:Nat):∀ x ∈ row.set a y,okO n x:=fun x hx=>(List.mem_or_eq_of_mem_set hx).elim (h x) fun e=>by rw [e];exact hy
theorem WfN.ahead {n:Nat}{sw:Bool}{s t:NK}(h:WfN n s)(ht:t ∈ ahL sw s):WfN n t:=by
 obtain ⟨hl,hr,hh⟩:=h
 unfold ahL at ht
 obtain ⟨a,_,ht⟩:=List.mem_flatMap.mp ht
 rcases List.mem_append.mp ht with ht | ht
 ·obtain ⟨b,_,ht⟩:=List.mem_flatMap.mp ht
  unfold qO at ht
  split at ht
  ·split at ht
   ·rw [List.mem_singleton.mp ht];exact ⟨by simp [hl],jP (jP hr (j6 hr _) _) (j6 hr _) _,.inl rfl⟩
   ·cases ht
  ·split at ht
   ·rw [List.mem_singleton.mp ht];exact ⟨by simp [hl],jP (jP hr (.inl rfl) _) (j6 hr _) _,hh⟩
   ·cases ht
 ·unfold jS at ht
  split at ht
  ·cases ht
  ·split at ht
   ·split at ht
    ·rw [List.mem_singleton.mp ht];exact ⟨by simp [hl],jP hr (.inl rfl) _,j6 hr _⟩
    ·cases ht
   ·split at ht
    ·rw [List.mem_singleton.mp ht];exact ⟨by simp [hl],jP hr hh _,.inl rfl⟩
    ·cases ht
theorem Rh.wf {n:Nat}{sw:Bool}{s0:NK}(h0:WfN n s0){m:Nat}{k:NK}(h:Rh sw s0 m k):WfN n k:=by
 induction h with
 | zero=>exact h0
 | step _ ht ih=>exact ih.ahead ht
noncomputable def J2 (n:Nat):List (Option Int):=none :: (List.range n).map fun (i:Nat)=>some (i:Int)
noncomputable def JR (n:Nat):Nat->List (List (Option Int))
 | 0=>[[]]
 | m+1=>(JR n m).flatMap fun r=>(J2 n).map (· :: r)
noncomputable def Va (n:Nat):List NK:=(JR n n).flatMap fun r=>(J2 n).map fun x=>(r,x)
theorem ZR {n:Nat}{x:Option Int}(h:okO n x):x ∈ J2 n:=by
 rcases h with rfl | ⟨i,hi,rfl⟩
 ·exact List.mem_cons_self
 ·exact List.mem_cons_of_mem _ (List.mem_map.mpr ⟨i,List.mem_range.mpr hi,rfl⟩)
theorem vG {n:Nat}:∀ {row:List (Option Int)},(∀ x ∈ row,okO n x)->row ∈ JR n row.length
 | [],_=>List.mem_singleton.mpr rfl
 | x :: r,h=>List.mem_flatMap.mpr ⟨r,vG fun y hy=>h y (List.mem_cons_of_mem _ hy),List.mem_map.mpr ⟨x,ZR (h x List.mem_cons_self),rfl⟩⟩
theorem vq {n:Nat}{s:NK}(h:WfN n s):s ∈ Va n:=by
 obtain ⟨h1,h2,h3⟩:=h
 exact List.mem_flatMap.mpr ⟨s.1,by have:=vG h2;rwa [h1] at this,List.mem_map.mpr ⟨s.2,ZR h3,rfl⟩⟩
theorem xH {α β:Type}{f:α->List β}{c:Nat}:∀ (l:List α),(∀ x,(f x).length=c)->(l.flatMap f).length=l.length * c
 | [],_=>by simp
 | x :: l,h=>by rw [List.flatMap_cons,List.length_append,xH l h,h,List.length_cons,Nat.succ_mul,Nat.add_comm]
theorem vT (n:Nat):(J2 n).length=n+1:=by unfold J2;simp
theorem wA (n:Nat):∀ m,(JR n m).length=(n+1) ^ m
 | 0=>rfl
 | m+1=>by rw [JR,xH (c:=n+1) _ (fun r=>by rw [List.length_map,vT]),wA n m,Nat.pow_succ]
theorem Kt {n:Nat}(h:n<=5):(Va n).length<=46656:=by
 rw [Va,xH (c:=n+1) _ (fun r=>by rw [List.length_map,vT]),wA,<- Nat.pow_succ]
 match n,h with
 | 0,_=>decide
 | 1,_=>decide
 | 2,_=>decide
 | 3,_=>decide
 | 4,_=>decide
 | 5,_=>decide
 | n+6,h=>omega
structure Sr (sw:Bool)(s0:NK)(m:Nat)(l:List (NK × Nat))(W:List NK):Prop where
 nd:(l.map (·.1)).Nodup
 all:∀ k j,(k,j) ∈ l ↔ Lst sw s0 k j/\j<=m
 w:∀ r,r ∈ W ↔ Lst sw s0 r m
noncomputable abbrev atm (m:Nat)(L:List NK):List (NK × Nat):=L.map fun k=>(k,m)
structure Si (sw:Bool)(s0:NK)(m:Nat)(l:List (NK × Nat))(L:List NK)(S:NK->Prop):Prop where
 nd:((l ++ atm (m+1) L).map (·.1)).Nodup
 ok:∀ r ∈ L,Lst sw s0 r (m+1)
 met:∀ t,S t->t ∈ (l ++ atm (m+1) L).map (·.1)
theorem J0 (sw:Bool)(s0:NK):Sr sw s0 0 [(s0,0)] [s0]:=
 ⟨by simp,fun k j=>by
  rw [List.mem_singleton]
  constructor
  ·intro e;cases e;exact ⟨⟨.zero,fun j hj=>absurd hj (Nat.not_lt_zero _)⟩,Nat.le_refl _⟩
  ·rintro ⟨h,hj⟩
   obtain rfl:j=0:=by omega
   rw [BN h.1],fun r=>by
  rw [List.mem_singleton]
  exact ⟨fun e=>by subst e;exact ⟨.zero,fun j hj=>absurd hj (Nat.not_lt_zero _)⟩,fun h=>BN h.1⟩⟩
theorem Sr.si {sw:Bool}{s0:NK}{m:Nat}{l:List (NK × Nat)}{W:List NK}(h:Sr sw s0 m l W){S:NK->Prop}(hS:∀ t,¬ S t):Si sw s0 m l [] S:=
 ⟨by rw [atm,List.map_nil,List.append_nil];exact h.nd,(fun r z=>nomatch z),fun t z=>absurd z (hS t)⟩
theorem Si.imp {sw:Bool}{s0:NK}{m:Nat}{l:List (NK × Nat)}{L:List NK}{S S':NK->Prop}(h:Si sw s0 m l L S)(k:∀ t,S' t->S t):Si sw s0 m l L S':=⟨h.nd,h.ok,fun t z=>h.met t (k t z)⟩
theorem Si.old {sw:Bool}{s0:NK}{m:Nat}{l:List (NK × Nat)}{L:List NK}{S S':NK->Prop}{t:NK}(h:Si sw s0 m l L S)(ht:t ∈ (l ++ atm (m+1) L).map (·.1))(k:∀ u,S' u->S u \/ u=t):Si sw s0 m l L S':=⟨h.nd,h.ok,fun u z=>(k u z).elim (h.met u) fun e=>by rw [e];exact ht⟩
theorem Si.add {sw:Bool}{s0:NK}{m:Nat}{l:List (NK × Nat)}{W L:List NK}{S S':NK->Prop}{r t:NK}(hR:Sr sw s0 m l W)(h:Si sw s0 m l L S)(hr:Lst sw s0 r m)(hm:t ∈ ahL sw r)(ht:t ∉ (l ++ atm (m+1) L).map (·.1))(k:∀ u,S' u->S u \/ u=t):Si sw s0 m l (L ++ [t]) S':=by
 have e:(l ++ atm (m+1) (L ++ [t])).map (·.1)=(l ++ atm (m+1) L).map (·.1) ++ [t]:=by rw [show atm (m+1) (L ++ [t])=atm (m+1) L ++ [(t,m+1)] from List.map_append,<- List.append_assoc,List.map_append];rfl
 refine ⟨?_,fun u hu=>?_,fun u z=>?_⟩
 ·rw [e]
  exact List.nodup_append.mpr ⟨h.nd,by simp,fun a ha b hb=>by rw [List.mem_singleton.mp hb];exact fun z=>ht (z ▸ ha)⟩
 ·rcases List.mem_append.mp hu with z | z
  ·exact h.ok u z
  ·rw [List.mem_singleton.mp z]
   refine ⟨.step hr.1 hm,fun j hj q=>ht ?_⟩
   obtain ⟨i,hi,ll⟩:=q.lst
   rw [List.map_append]
   exact List.mem_append_left _ (List.mem_map.mpr ⟨(t,i),(hR.all t i).mpr ⟨ll,by omega⟩,rfl⟩)
 ·rw [e]
  rcases k u z with z | z
  ·exact List.mem_append_left _ (h.met u z)
  ·exact List.mem_append_right _ (List.mem_singleton.mpr z)
theorem Si.round {sw:Bool}{s0:NK}{m:Nat}{l:List (NK × Nat)}{W L:List NK}{S:NK->Prop}(hR:Sr sw s0 m l W)(h:Si sw s0 m l L S)(hS:∀ r ∈ W,∀ t ∈ ahL sw r,S t):Sr sw s0 (m+1) (l ++ atm (m+1) L) L:=by
 have new:∀ k,Lst sw s0 k (m+1)->k ∈ L:=fun k hk=>by
  obtain ⟨r,hr,ht⟩:=hk.pred
  have:=h.met k (hS r ((hR.w r).mpr hr) k ht)
  rw [List.map_append] at this
  rcases List.mem_append.mp this with z | z
  ·obtain ⟨⟨k',j⟩,hx,e⟩:=List.mem_map.mp z
   obtain rfl:k'=k:=e
   obtain ⟨h1,h2⟩:=(hR.all k' j).mp hx
   have:=h1.uniq hk
   omega
  ·obtain ⟨y,hy,e⟩:=List.mem_map.mp z
   obtain ⟨z,hz,rfl⟩:=List.mem_map.mp hy
   cases e;exact hz
 refine ⟨h.nd,fun k j=>⟨fun hx=>?_,fun ⟨h1,h2⟩=>?_⟩,fun r=>⟨h.ok r,new r⟩⟩
 ·rcases List.mem_append.mp hx with z | z
  ·obtain ⟨h1,h2⟩:=(hR.all k j).mp z
   exact ⟨h1,by omega⟩
  ·obtain ⟨y,hy,e⟩:=List.mem_map.mp z
   cases e
   exact ⟨h.ok k hy,Nat.le_refl _⟩
 ·by_cases c:j<=m
  ·exact List.mem_append_left _ ((hR.all k j).mpr ⟨h1,c⟩)
  ·obtain rfl:j=m+1:=by omega
   exact List.mem_append_right _ (List.mem_map.mpr ⟨k,new k h1,rfl⟩)
theorem Sr.done {sw:Bool}{s0:NK}{m:Nat}{l:List (NK × Nat)}(h:Sr sw s0 m l []){k:NK}{j:Nat}(hk:Lst sw s0 k j):(k,j) ∈ l:=by
 by_cases c:j<=m
 ·exact (h.all k j).mpr ⟨hk,c⟩
 ·have:j=m+(j - m):=by omega
  rw [this] at hk
  obtain ⟨r,hr⟩:=hk.down
  exact absurd ((h.w r).mpr hr) (by simp)
theorem ZY {α:Type}[DecidableEq α]:∀ {l r:List α},l.Nodup->(∀ x ∈ l,x ∈ r)->l.length<=r.length
 | [],_,_,_=>Nat.zero_le _
 | a :: l,r,nd,hs=>by
  obtain ⟨h1,h2⟩:=List.nodup_cons.mp nd
  have ha:=hs a (by simp)
  have:=ZY (l:=l) (r:=r.erase a) h2 fun x hx=>(List.mem_erase_of_ne (show x ≠ a from fun e=>h1 (by rw [<- e];exact hx))).mpr (hs x (by simp [hx]))
  rw [List.length_erase_of_mem ha] at this
  have:0<r.length:=List.length_pos_of_mem ha
  rw [List.length_cons];omega
theorem Si.len {n:Nat}{sw:Bool}{s0:NK}{m:Nat}{l:List (NK × Nat)}{W L:List NK}{S:NK->Prop}(hn:n<=5)(h0:WfN n s0)(hR:Sr sw s0 m l W)(h:Si sw s0 m l L S):(l ++ atm (m+1) L).length<=46656:=by
 have:=ZY h.nd (r:=Va n) fun x hx=>by
  rw [List.map_append] at hx
  rcases List.mem_append.mp hx with z | z
  ·obtain ⟨⟨k,j⟩,hy,rfl⟩:=List.mem_map.mp z
   exact vq (((hR.all k j).mp hy).1.1.wf h0)
  ·obtain ⟨y,hy,rfl⟩:=List.mem_map.mp z
   obtain ⟨k,hk,rfl⟩:=List.mem_map.mp hy
   exact vq ((h.ok k hk).1.wf h0)
 rw [List.length_map] at this
 exact Nat.le_trans this (Kt hn)
noncomputable abbrev kvJ (l:List (NK × Nat)):List (NK × AV):=l.map fun x=>(x.1,.d (.int (x.2:Int)))
theorem KC (l:List (NK × Nat))(k:NK):(jl (kvJ l) k).isSome=decide (k ∈ l.map (·.1)):=by
 unfold jl
 rw [Option.isSome_map]
 induction l with
 | nil=>rfl
 | cons x l ih=>
  rw [kvJ,List.map_cons,List.find?_cons]
  by_cases c:x.1=k
  ·rw [decide_eq_true c]
   have:k ∈ (x :: l).map (·.1):=by rw [List.map_cons,c];exact List.mem_cons_self
   rw [decide_eq_true this];rfl
  ·rw [decide_eq_false c]
   dsimp only
   rw [ih]
   exact decide_eq_decide.mpr ⟨fun h=>by rw [List.map_cons];exact List.mem_cons_of_mem _ h,fun h=>by rw [List.map_cons] at h;exact (List.mem_cons.mp h).resolve_left (fun z=>c z.symm)⟩
theorem j8:∀ {l:List (NK × Nat)} {k:NK} {j:Nat},(l.map (·.1)).Nodup->(k,j) ∈ l->jl (kvJ l) k=some (.d (.int (j:Int)))
 | [],_,_,_,h=>nomatch h
 | x :: l,k,j,nd,h=>by
  rw [List.map_cons] at nd
  obtain ⟨n1,n2⟩:=List.nodup_cons.mp nd
  unfold jl
  rw [kvJ,List.map_cons,List.find?_cons]
  rcases List.mem_cons.mp h with e | h
  ·subst e
   rw [show decide (((k,j):NK × Nat).1=k)=true from decide_eq_true rfl];rfl
  ·have c:x.1 ≠ k:=fun z=>n1 (by rw [z];exact List.mem_map.mpr ⟨(k,j),h,rfl⟩)
   rw [decide_eq_false c]
   exact j8 n2 h
theorem XT {l:List (NK × Nat)}{k:NK}{j:Nat}(h:k ∉ l.map (·.1)):Jd (kvJ l) k (.d (.int (j:Int)))=kvJ (l ++ [(k,j)]):=by
 unfold Jd
 rw [if_neg]
 ·rw [kvJ,kvJ,List.map_append];rfl
 ·intro z
  obtain ⟨kv,h1,h2⟩:=List.any_eq_true.mp z
  obtain ⟨x,hx,rfl⟩:=List.mem_map.mp h1
  exact h (List.mem_map.mpr ⟨x,hx,of_decide_eq_true h2⟩)
theorem An {l:List (NK × Nat)}{r:Addr}(h:Qm r (.dN (kvJ l))):False:=by
 obtain ⟨x,hx,hh⟩:=h
 obtain ⟨y,hy,rfl⟩:=List.mem_map.mp hx
 obtain ⟨z,_,rfl⟩:=List.mem_map.mp hy
 exact hh
theorem AC {M0 M:MH}(f:Fr M0 M){p:Addr}{l:List (NK × Nat)}(h0:M0 p=none)(h:M p=some (.dN (kvJ l))):QS M0 M (.ref p) (.ref p) (mup M0 p (.dN (kvJ l))):=by
 refine ⟨fun q=>?_,fun q o e=>?_,.inl ⟨rfl,fun q z=>by cases z;rw [ze];exact fun z=>nomatch z⟩⟩
 ·by_cases c:q=p
  ·rw [c,ze,h];exact .inl rfl
  ·rw [zo c];exact f.sub q
 ·by_cases c:q=p
  ·rw [c,ze] at e
   cases e
   exact .inr fun r hr=>(An hr).elim
  ·rw [zo c] at e;exact .inl e
noncomputable def yH (n:Nat)(s:ES):Prop:=s.1.length=n/\∀ x:Int,s.1.count (some x)+(if s.2=some x then 1 else 0)=if 0<=x/\x<(n:Int) then 1 else 0
theorem jO {l:List (Option Int)}{i:Nat}{c:Option Int}(h:l[i]?=some c)(a b:Option Int):(l.set i a).count b+(if c=b then 1 else 0)=l.count b+(if a=b then 1 else 0):=by
 induction l generalizing i with
 | nil=>cases h
 | cons e l ih=>
  cases i with
  | zero=>
   cases h
   rw [List.set_cons_zero,List.count_cons,List.count_cons]
   simp only [beq_iff_eq]
   omega
  | succ i=>
   have h:l[i]?=some c:=h
   rw [List.set_cons_succ,List.count_cons,List.count_cons]
   have:=ih h
   omega
theorem Yk {d:De}{s t:ES}{n:Nat}(h:DoE d s t)(c:yH n s):yH n t:=by
 refine ⟨by rw [h.len];exact c.1,fun x=>?_⟩
 have cx:=c.2 x
 cases h with
 | @swap a b row hd u v ne h1 h2=>
  have e1:=jO h1 (some v) (some x)
  have e2:=jO (l:=row.set a (some v)) (i:=b) (c:=some v) (by rw [List.getElem?_set_ne ne];exact h2) (some u) (some x)
  dsimp only at cx ⊢
  omega
 | @take p row u h1=>
  have e1:=jO h1 none (some x)
  rw [if_neg (show ¬ (none:Option Int)=some x from fun z=>nomatch z)] at e1
  dsimp only at cx ⊢
  rw [if_neg (show ¬ (none:Option Int)=some x from fun z=>nomatch z)] at cx
  omega
 | @move p g row hd u h1 h2=>
  have ne:p ≠ g:=fun z=>by rw [z,h2] at h1;cases h1
  have e1:=jO h1 none (some x)
  have e2:=jO (l:=row.set p none) (i:=g) (c:=none) (by rw [List.getElem?_set_ne ne];exact h2) (some u) (some x)
  rw [if_neg (show ¬ (none:Option Int)=some x from fun z=>nomatch z)] at e1 e2
  dsimp only at cx ⊢
  omega
 | @lay g row u h1=>
  have e1:=jO h1 (some u) (some x)
  rw [if_neg (show ¬ (none:Option Int)=some x from fun z=>nomatch z)] at e1
  dsimp only at cx ⊢
  rw [if_neg (show ¬ (none:Option Int)=some x from fun z=>nomatch z)]
  omega
theorem JH {α:Type}[BEq α][LawfulBEq α][DecidableEq α]{l:List α}(h:l.Nodup)(a:α):l.count a=if a ∈ l then 1 else 0:=by
 induction l with
 | nil=>rfl
 | cons b l ih=>
  have:=List.nodup_cons.mp h
  rw [List.count_cons,ih this.2]
  by_cases c:b=a
  ·subst c;simp [this.1]
  ·have:(b == a)=false:=by simpa using c
   simp [this,Ne.symm c,c]
theorem Ws (n:Nat):((zK 0 1 n).map some).Nodup:=by
 unfold zK
 rw [List.map_map]
 unfold List.Nodup
 rw [List.pairwise_map]
 refine List.nodup_range.imp fun {a b} h z=>h ?_
 have z:some ((0:Int)+(a:Int) * 1)=some (0+(b:Int) * 1):=z
 injection z with z
 omega
theorem ZP {n:Nat}{x:Int}:some x ∈ (zK 0 1 n).map some ↔ 0<=x/\x<(n:Int):=by
 unfold zK
 simp only [List.mem_map,List.mem_range,Option.some.injEq]
 constructor
 ·rintro ⟨a,⟨k,hk,rfl⟩,rfl⟩;omega
 ·rintro ⟨h1,h2⟩;exact ⟨x,⟨x.toNat,by omega,by omega⟩,rfl⟩
theorem Zp (n:Nat):yH n ((zK 0 1 n).map some,none):=by
 refine ⟨by show ((zK 0 1 n).map some).length=n;rw [List.length_map,zB],fun x=>?_⟩
 show ((zK 0 1 n).map some).count (some x)+0=_
 rw [JH (Ws n)]
 by_cases c:0<=x/\x<(n:Int)
 ·rw [if_pos c,if_pos (ZP.mpr c)]
 ·rw [if_neg c,if_neg (fun z=>c (ZP.mp z))]
theorem kM {os:List Int}{r:List Int}:∀ {i:Nat},r ∈ zi os i->∃ p:Nat,p<i/\r=zp os (p:Int)
 | 0,h=>by simp [zi] at h
 | i+1,h=>by
  unfold zi at h
  rcases List.mem_append.mp h with z | z
  ·obtain ⟨p,hp,e⟩:=kM z
   exact ⟨p,by omega,e⟩
  ·by_cases c:jw os i/\1<per os (i:Int)
   ·rw [if_pos c] at z
    exact ⟨i,by omega,List.mem_singleton.mp z⟩
   ·rw [if_neg c] at z;cases z
theorem Yl {n:Nat}{os:List Int}(h:zm n os){r:List Int}(hr:r ∈ zi os n):∀ x ∈ r,0<=x/\x<(n:Int):=by
 obtain ⟨p,hp,e⟩:=kM hr
 subst e
 intro x hx
 obtain ⟨k,_,ek⟩:=zL.mp hx
 rw [<- ek]
 exact zX h (by omega) (by omega) k
theorem QI {n:Nat}{os:List Int}(h:zm n os){r:List Int}(hr:r ∈ zi os n){k:Nat}(hk:k<r.length):os.getD (r.getD k 0).toNat 0=if k+1=r.length then r.getD 0 0 else r.getD (k+1) 0:=by
 obtain ⟨p,hp,e⟩:=kM hr
 obtain ⟨M,hM,_⟩:=qz h (p:=(p:Int)) (by omega) (by omega)
 have hM1:=hM.1
 unfold zp at e
 rw [hM.per] at e
 have lr:r.length=M:=by rw [e,qa]
 have cg:∀ k,k<M->r.getD k 0=itn os k (p:Int):=fun k hk=>by
  rw [e,List.getD_eq_getElem?_getD]
  unfold itl
  rw [List.getElem?_map,List.getElem?_range hk];rfl
 rw [lr] at hk ⊢
 rw [cg k hk]
 show itn os (k+1) (p:Int)=_
 split
 ·rename_i z
  rw [z,hM.2.1,cg 0 (by omega)];rfl
 ·rw [cg (k+1) (by omega)]
theorem xR {n:Nat}{os:List Int}(h:zm n os){p:Nat}(hp:p<n){x:Int}:x ∈ zp os (p:Int) ↔ Rch os (p:Int) x:=by
 obtain ⟨m,hm,_⟩:=qz h (p:=(p:Int)) (by omega) (by omega)
 unfold zp
 rw [hm.per]
 exact (Rch.mem_ring hm).symm
theorem QA {n:Nat}{os:List Int}(h:zm n os){p:Nat}(hp:p<n):(zp os (p:Int)).Nodup:=by
 obtain ⟨m,hm,_⟩:=qz h (p:=(p:Int)) (by omega) (by omega)
 unfold zp
 rw [hm.per]
 exact jc h (by omega) (by omega) hm
theorem xO {n:Nat}{os:List Int}(h:zm n os):∀ i,i<=n->(zi os i).flatten.Nodup/\∀ x ∈ (zi os i).flatten,zF os i x
 | 0,_=>by simp [zi]
 | i+1,hi=>by
  obtain ⟨n1,s1⟩:=xO h i (by omega)
  unfold zi
  by_cases c:jw os i/\1<per os (i:Int)
  ·rw [if_pos c,List.flatten_append,List.flatten_singleton]
   refine ⟨List.nodup_append.mpr ⟨n1,QA h (by omega),fun a ha b hb e=>?_⟩,fun x hx=>?_⟩
   ·subst e
    obtain ⟨q,hq,r⟩:=s1 a ha
    have r2:=(xR h (by omega)).mp hb
    have a0:=r2
    exact c.1 q hq (r.trans (r2.symm h (by omega) (by omega)))
   ·rcases List.mem_append.mp hx with z | z
    ·exact zF.succ.mpr (.inl (s1 x z))
    ·exact zF.succ.mpr (.inr ((xR h (by omega)).mp z))
  ·rw [if_neg c,List.append_nil]
   exact ⟨n1,fun x hx=>zF.succ.mpr (.inl (s1 x hx))⟩
structure yt (n:Nat)(os:List Int)(rs:List (List Int)):Prop where
 len:∀ r ∈ rs,2<=r.length/\r.length<=n
 bd:∀ r ∈ rs,∀ x ∈ r,0<=x/\x<(n:Int)
 nx:∀ r ∈ rs,∀ k,k<r.length->os.getD (r.getD k 0).toNat 0=r.getD ((k+1) % r.length) 0
 nd:rs.flatten.Nodup
 st:∀ x:Nat,x<n->(x:Int) ∉ rs.flatten->os.getD x 0=(x:Int)
theorem xG {n:Nat}{os:List Int}(h:zm n os):yt n os (zi os n):=by
 refine ⟨fun r hr=>?_,fun r hr=>Yl h hr,fun r hr k hk=>?_,(xO h n (Nat.le_refl n)).1,fun x hx hn=>?_⟩
 ·have:=qH h (Nat.le_refl n) hr;omega
 ·rw [QI h hr hk]
  by_cases c:k+1=r.length
  ·rw [if_pos c,c,Nat.mod_self]
  ·rw [if_neg c,Nat.mod_eq_of_lt (by omega)]
 ·rcases yY h hx with ⟨r,hr,hm⟩ | hp
  ·exact absurd (List.mem_flatten.mpr ⟨r,hr,hm⟩) hn
  ·have:os.getD ((x:Int)).toNat 0=(x:Int):=hp.2.1
   rw [Int.toNat_natCast] at this;exact this
noncomputable def jv (c:Int->Nat)(l:List Int):Nat:=(l.map c).sum
noncomputable def yz (c:Int->Nat)(x:Int):Int->Nat:=fun y=>if y=x then c y+1 else c y
theorem jJ (c:Int->Nat)(x:Int):yz c x x=c x+1:=if_pos rfl
theorem jk (c:Int->Nat){x y:Int}(h:y ≠ x):yz c x y=c y:=if_neg h
theorem YQ {c:Int->Nat}{x:Int}{l:List Int}(h:x ∉ l):jv (yz c x) l=jv c l:=by
 have e:l.map (yz c x)=l.map c:=List.map_congr_left fun y hy=>jk c fun z=>h (by rw [<- z];exact hy)
 unfold jv
 rw [e]
theorem J7 {c:Int->Nat}{x:Int}:∀ {l:List Int},l.Nodup->jv (yz c x) l<=jv c l+1
 | [],_=>Nat.zero_le _
 | y :: l,nd=>by
  obtain ⟨h1,h2⟩:=List.nodup_cons.mp nd
  have ih:=J7 (c:=c) (x:=x) h2
  by_cases e:y=x
  ·subst e
   have:=YQ (c:=c) h1
   unfold jv at *
   rw [List.map_cons,List.sum_cons,List.map_cons,List.sum_cons,jJ,this];omega
  ·unfold jv at *
   rw [List.map_cons,List.sum_cons,List.map_cons,List.sum_cons,jk c e];omega
theorem J3 {c:Int->Nat}:∀ {l:List Int},(∀ x ∈ l,1<=c x)->l.length<=jv c l
 | [],_=>Nat.le_refl _
 | y :: l,h=>by
  have:=J3 (l:=l) fun x hx=>h x (List.mem_cons_of_mem _ hx)
  have h1:=h y (by simp)
  unfold jv at *
  rw [List.map_cons,List.sum_cons,List.length_cons];omega
theorem KL {c:Int->Nat}:∀ {l:List Int},(∀ x ∈ l,1<=c x)->(∃ x ∈ l,2<=c x)->l.length+1<=jv c l
 | [],_,⟨_,h,_⟩=>by cases h
 | y :: l,h,⟨x,hx,h2⟩=>by
  have h1:=h y (by simp)
  have hl:∀ x ∈ l,1<=c x:=fun x hx=>h x (List.mem_cons_of_mem _ hx)
  rcases List.mem_cons.mp hx with e | e
  ·subst e
   have:=J3 hl
   unfold jv at *
   rw [List.map_cons,List.sum_cons,List.length_cons];omega
  ·have:=KL hl ⟨x,e,h2⟩
   unfold jv at *
   rw [List.map_cons,List.sum_cons,List.length_cons];omega
theorem vi {c:Int->Nat}:∀ {rs:List (List Int)},(∀ r ∈ rs,r.length+1<=jv c r)->kq rs+rs.length<=jv c rs.flatten
 | [],_=>Nat.le_refl _
 | r :: rs,h=>by
  have:=vi (rs:=rs) fun x hx=>h x (List.mem_cons_of_mem _ hx)
  have h1:=h r (by simp)
  unfold kq jv at *
  simp only [List.map_cons,List.sum_cons,List.length_cons,List.flatten_cons,List.map_append,List.sum_append] at *
  omega
theorem ZF {α:Type}[BEq α][LawfulBEq α]{a:α}:∀ {l:List α} {i j:Nat},l[i]?=some a->l[j]?=some a->i ≠ j->2<=l.count a
 | [],_,_,h,_,_=>by simp at h
 | b :: l,0,0,_,_,h=>absurd rfl h
 | b :: l,0,j+1,h1,h2,_=>by
  have e:b=a:=by simpa using h1
  have:=List.count_pos_iff.mpr (List.mem_of_getElem? (l:=l) (i:=j) (by simpa using h2))
  rw [e,List.count_cons_self];omega
 | b :: l,i+1,0,h1,h2,_=>by
  have e:b=a:=by simpa using h2
  have:=List.count_pos_iff.mpr (List.mem_of_getElem? (l:=l) (i:=i) (by simpa using h1))
  rw [e,List.count_cons_self];omega
 | b :: l,i+1,j+1,h1,h2,h=>by
  have:=ZF (l:=l) (i:=i) (j:=j) (by simpa using h1) (by simpa using h2) (by omega)
  exact Nat.le_trans this (by rw [List.count_cons];omega)
theorem yH.one {n:Nat}{s:ES}(c:yH n s){i j:Nat}{x:Int}(h1:s.1[i]?=some (some x))(h2:s.1[j]?=some (some x)):i=j:=Classical.byContradiction fun h=>by
 have:=ZF h1 h2 h
 have:=c.2 x
 split at this <;> split at this <;> omega
theorem yH.hand {n:Nat}{s:ES}(c:yH n s){x:Int}(h:s.2=some x)(i:Nat):s.1[i]? ≠ some (some x):=fun z=>by
 have:=List.count_pos_iff.mpr (List.mem_of_getElem? z)
 have e:=c.2 x
 rw [if_pos h] at e
 split at e <;> omega
structure yd (n:Nat)(os:List Int)(rs:List (List Int))(s:ES)(c:Int->Nat)(k:Nat):Prop where
 own:∀ x:Nat,x<n->c x=0->s.1[x]?=some (some (x:Int))
 rg:∀ r ∈ rs,(∀ x ∈ r,c x=0) \/ ∃ x ∈ r,1<=c x/\(c x=1->s.1[(os.getD x.toNat 0).toNat]? ≠ some (some x))
 tot:jv c rs.flatten<=k
theorem yd.go {n:Nat}{os:List Int}{rs:List (List Int)}(G:yt n os rs){s t:ES}{c:Int->Nat}{k:Nat}(h:yd n os rs s c k){x:Int}
  (h1:∀ (i:Nat) y,y ≠ x->(t.1[i]?=some (some y) ↔ s.1[i]?=some (some y))) (h2:∀ i:Nat,t.1[i]?=some (some x)->s.1[i]?=some none):yd n os rs t (yz c x) (k+1):=by
 refine ⟨fun y hy e=>?_,fun r hr=>?_,?_⟩
 ·have ne:(y:Int) ≠ x:=fun z=>by rw [z,jJ] at e;omega
  rw [jk c ne] at e
  exact (h1 y y ne).mpr (h.own y hy e)
 ·rcases h.rg r hr with z | ⟨y,hy,c1,c2⟩
  ·by_cases m:x ∈ r
   ·refine .inr ⟨x,m,by rw [jJ];omega,fun _ e=>?_⟩
    obtain ⟨j,hj⟩:=List.getElem?_of_mem m
    have lj:=(List.getElem?_eq_some_iff.mp hj).1
    have ex:r.getD j 0=x:=by rw [List.getD_eq_getElem?_getD,hj];rfl
    have nx:=G.nx r hr j lj
    rw [ex] at nx
    have lm:(j+1) % r.length<r.length:=Nat.mod_lt _ (by omega)
    have mg:os.getD x.toNat 0 ∈ r:=by
     rw [nx,List.getD_eq_getElem?_getD,List.getElem?_eq_getElem lm];exact List.getElem_mem lm
    obtain ⟨b0,b1⟩:=G.bd r hr _ mg
    have:=h.own (os.getD x.toNat 0).toNat (by omega) (by rw [Int.toNat_of_nonneg b0];exact z _ mg)
    rw [h2 _ e] at this
    cases this
   ·exact .inl fun y hy=>by rw [jk c (show y ≠ x from fun e=>m (by rw [<- e];exact hy))];exact z y hy
  ·by_cases e:y=x
   ·subst e
    exact .inr ⟨y,hy,by rw [jJ];omega,fun e=>by rw [jJ] at e;omega⟩
   ·refine .inr ⟨y,hy,by rw [jk c e];exact c1,fun e1 e2=>?_⟩
    rw [jk c e] at e1
    exact c2 e1 ((h1 _ y e).mp e2)
 ·exact Nat.le_trans (J7 G.nd) (Nat.succ_le_succ h.tot)
theorem qB {row:List (Option Int)}{p i:Nat}{v w:Option Int}(h:row[p]?=some v):(row.set p w)[i]?=if i=p then some w else row[i]?:=by
 rw [List.getElem?_set]
 by_cases e:p=i
 ·subst e;rw [if_pos rfl,if_pos rfl,if_pos (List.getElem?_eq_some_iff.mp h).1]
 ·rw [if_neg e,if_neg (Ne.symm e)]
theorem yd.step {n:Nat}{os:List Int}{rs:List (List Int)}(G:yt n os rs){s t:ES}{c:Int->Nat}{k:Nat}(h:yd n os rs s c k)(cs:yH n s){d:De}(hd:DoE d s t)(ns:∀ a b,d ≠ .swap a b):∃ c',yd n os rs t c' (k+1):=by
 cases hd with
 | swap=>exact absurd rfl (ns _ _)
 | @take p row x e=>
  refine ⟨_,h.go G (x:=x) (fun i y ne=>?_) fun i z=>?_⟩
  ·dsimp only
   rw [qB e]
   split
   ·rename_i q;subst q;rw [e];exact ⟨(fun z=>by cases z),(fun z=>by cases z;exact absurd rfl ne)⟩
   ·exact Iff.rfl
  ·dsimp only at z
   rw [qB e] at z
   split at z
   ·cases z
   ·rename_i q;exact absurd (cs.one z e) q
 | @move p g row hh x e1 e2=>
  have pg:p ≠ g:=fun z=>by rw [z,e2] at e1;cases e1
  have e3:(row.set p none)[g]?=some none:=by rw [qB e1,if_neg (Ne.symm pg)];exact e2
  refine ⟨_,h.go G (x:=x) (fun i y ne=>?_) fun i z=>?_⟩
  ·dsimp only
   rw [qB e3,qB e1]
   split
   ·rename_i q;subst q;rw [e2];exact ⟨(fun z=>by cases z;exact absurd rfl ne),(fun z=>by cases z)⟩
   ·split
    ·rename_i q;subst q;rw [e1];exact ⟨(fun z=>by cases z),(fun z=>by cases z;exact absurd rfl ne)⟩
    ·exact Iff.rfl
  ·dsimp only at z
   rw [qB e3,qB e1] at z
   split at z
   ·rename_i q;subst q;exact e2
   ·split at z
    ·cases z
    ·rename_i q;exact absurd (cs.one z e1) q
 | @lay g row x e=>
  refine ⟨_,h.go G (x:=x) (fun i y ne=>?_) fun i z=>?_⟩
  ·dsimp only
   rw [qB e]
   split
   ·rename_i q;subst q;rw [e];exact ⟨(fun z=>by cases z;exact absurd rfl ne),(fun z=>by cases z)⟩
   ·exact Iff.rfl
  ·dsimp only at z
   rw [qB e] at z
   split at z
   ·rename_i q;subst q;exact e
   ·exact absurd z (cs.hand rfl i)
theorem yd.dos {n:Nat}{os:List Int}{rs:List (List Int)}(G:yt n os rs){ds:List De}{s t:ES}(hd:jb ds s t):∀ {c:Int->Nat} {k:Nat},yd n os rs s c k->yH n s->(∀ d ∈ ds,∀ a b,d ≠ .swap a b)->∃ c',yd n os rs t c' (k+ds.length):=by
 induction hd with
 | nil=>exact fun h _ _=>⟨_,h⟩
 | @cons e l _ _ _ d _ ih=>
  intro c k h cs ns
  obtain ⟨c',h'⟩:=h.step G cs d (ns e List.mem_cons_self)
  obtain ⟨c2,h2⟩:=ih h' (Yk d cs) fun g hg=>ns g (List.mem_cons_of_mem _ hg)
  exact ⟨c2,by rw [List.length_cons,show k+(l.length+1)=k+1+l.length by omega];exact h2⟩
theorem vF {n i:Nat}(h:i<n):((zK 0 1 n).map some)[i]?=some (some (i:Int)):=by
 rw [List.getElem?_map];unfold zK
 rw [List.getElem?_map,List.getElem?_range h]
 show some (some ((0:Int)+(i:Int) * 1))=_
 rw [Int.zero_add,Int.mul_one]
theorem xZ {T:List Int}{i:Nat}(h:i<T.length):(T.map some)[i]?=some (some (T.getD i 0)):=by
 rw [List.getElem?_map,List.getElem?_eq_getElem h,List.getD_eq_getElem?_getD,List.getElem?_eq_getElem h];rfl
theorem yt.off {n:Nat}{os:List Int}{rs:List (List Int)}(G:yt n os rs){r:List Int}(hr:r ∈ rs){x:Int}(hx:x ∈ r):os.getD x.toNat 0 ≠ x:=fun z=>by
 have nd:r.Nodup:=(List.pairwise_flatten.mp G.nd).1 r hr
 have l2:=(G.len r hr).1
 obtain ⟨k,hk⟩:=List.getElem?_of_mem hx
 have lk:=(List.getElem?_eq_some_iff.mp hk).1
 have ex:r.getD k 0=x:=by rw [List.getD_eq_getElem?_getD,hk];rfl
 have nx:=G.nx r hr k lk
 have lm:(k+1) % r.length<r.length:=Nat.mod_lt _ (by omega)
 rw [ex,z,<- ex,List.getD_eq_getElem?_getD,List.getD_eq_getElem?_getD,List.getElem?_eq_getElem lk,List.getElem?_eq_getElem lm] at nx
 have:=(List.getElem_inj nd).mp nx
 by_cases c:k+1=r.length
 ·rw [c,Nat.mod_self] at this;omega
 ·rw [Nat.mod_eq_of_lt (by omega)] at this;omega
theorem QT {n:Nat}{os T:List Int}{ds:List De}(ho:zm n os)(lT:T.length=n)(hd:jb ds ((zK 0 1 n).map some,none) (T.map some,none))(hg:∀ t:Nat,t<n->T.getD (os.getD t 0).toNat 0=(t:Int))(ns:∀ d ∈ ds,∀ a b,d ≠ .swap a b):jd os n+(zi os n).length<=ds.length:=by
 have G:=xG ho
 obtain ⟨c,h⟩:=yd.dos G hd (c:=fun _=>0) (k:=0) ⟨fun x hx _=>vF hx,fun r _=>.inl fun _ _=>rfl,by
  have:∀ l:List Int,jv (fun _=>0) l=0:=fun l=>by
   induction l with
   | nil=>rfl
   | cons a l ih=>unfold jv at *;rw [List.map_cons,List.sum_cons,ih]
  rw [this];exact Nat.le_refl 0⟩ (Zp n) ns
 rw [Nat.zero_add] at h
 rw [<- xW ho]
 refine Nat.le_trans (vi fun r hr=>?_) h.tot
 have one:∀ x ∈ r,1<=c x:=fun x hx=>by
  obtain ⟨b0,b1⟩:=G.bd r hr x hx
  cases e:c x with
  | succ m=>omega
  | zero=>
   exfalso
   have hw:=h.own x.toNat (by omega) (by rw [Int.toNat_of_nonneg b0];exact e)
   have hw:(T.map some)[x.toNat]?=some (some ((x.toNat:Nat):Int)):=hw
   rw [xZ (by omega)] at hw
   have hw:T.getD x.toNat 0=((x.toNat:Nat):Int):=by injection hw with hw;injection hw
   obtain ⟨t,ht,et⟩:=ho.ex (j:=x.toNat) (by omega)
   have gt:=hg t ht
   rw [et,Int.toNat_natCast,hw] at gt
   refine G.off hr hx ?_
   have:x.toNat=t:=by omega
   rw [this,et];omega
 refine KL one ?_
 have lr:=(G.len r hr).1
 rcases h.rg r hr with z | ⟨y,hy,c1,c2⟩
 ·have hm:r[0]'(by omega) ∈ r:=List.getElem_mem _
  have:=one _ hm
  rw [z _ hm] at this;omega
 ·refine ⟨y,hy,?_⟩
  obtain ⟨b0,b1⟩:=G.bd r hr y hy
  have gy:=hg y.toNat (by omega)
  obtain ⟨g0,g1⟩:=ho.getD (i:=y.toNat) (by omega)
  by_cases e:c y=1
  ·refine absurd ?_ (c2 e)
   show (T.map some)[_]?=_
   rw [xZ (by omega),gy,Int.toNat_of_nonneg b0]
  ·omega
structure wQ (n:Nat)(s:ES)(lab:Int->Nat)(L:List Nat)(k:Nat):Prop where
 lb:∀ (i:Nat) x,s.1[i]?=some (some x)->lab i=lab x
 nd:L.Nodup
 at_:∀ l ∈ L,∃ p:Nat,p<n/\lab p=l
 cnt:n<=L.length+k
theorem wQ.step {n:Nat}{s t:ES}{lab:Int->Nat}{L:List Nat}{k:Nat}(h:wQ n s lab L k){a b:Nat}(hd:DoE (.swap a b) s t):∃ lab' L',wQ n t lab' L' (k+1):=by
 cases hd with
 | @swap _ _ row hh x y ne e1 e2=>
  have l1:lab a=lab x:=h.lb a x e1
  have l2:lab b=lab y:=h.lb b y e2
  have e3:(row.set a (some y))[b]?=some (some y):=by rw [qB e1,if_neg (Ne.symm ne)];exact e2
  refine ⟨fun z=>if lab z=lab a then lab b else lab z,if lab a=lab b then L else L.erase (lab a),fun i z hz=>?_,?_,fun l hl=>?_,?_⟩
  ·dsimp only at hz ⊢
   rw [qB e3,qB e1] at hz
   split at hz
   ·rename_i q;cases hz;subst q
    rw [<- l1,if_pos rfl];split <;> rfl
   ·split at hz
    ·rename_i q;cases hz;subst q
     rw [if_pos rfl,<- l2];split <;> rfl
    ·rw [h.lb i z hz]
  ·split
   ·exact h.nd
   ·exact h.nd.erase _
  ·split at hl
   ·rename_i q
    obtain ⟨p,hp,e⟩:=h.at_ l hl
    refine ⟨p,hp,?_⟩
    show (if lab (p:Int)=_ then _ else lab (p:Int))=l
    rw [e]
    split
    ·rename_i z;rw [z,q]
    ·rfl
   ·have hl':=List.mem_of_mem_erase hl
    have nl:l ≠ lab a:=fun z=>by rw [z] at hl;exact absurd hl (fun m=>(List.Nodup.mem_erase_iff h.nd).mp m |>.1 rfl)
    obtain ⟨p,hp,e⟩:=h.at_ l hl'
    refine ⟨p,hp,?_⟩
    show (if lab (p:Int)=_ then _ else lab (p:Int))=l
    rw [e,if_neg nl]
  ·have:=h.cnt
   split
   ·omega
   ·have:=List.length_erase_le (a:=lab a) (l:=L)
    rw [List.length_erase]
    split <;> omega
theorem wQ.dos {n:Nat}{ds:List De}{s t:ES}(hd:jb ds s t):∀ {lab:Int->Nat} {L:List Nat} {k:Nat},wQ n s lab L k->(∀ d ∈ ds,∃ a b,d=.swap a b)->∃ lab' L',wQ n t lab' L' (k+ds.length):=by
 induction hd with
 | nil=>exact fun h _=>⟨_,_,h⟩
 | @cons e l _ _ _ d _ ih=>
  intro lab L k h sw
  obtain ⟨a,b,eab⟩:=sw e List.mem_cons_self
  subst eab
  obtain ⟨lab',L',h'⟩:=h.step d
  obtain ⟨lab2,L2,h2⟩:=ih h' fun g hg=>sw g (List.mem_cons_of_mem _ hg)
  exact ⟨lab2,L2,by rw [List.length_cons,show k+(l.length+1)=k+1+l.length by omega];exact h2⟩
theorem XA {α:Type}[BEq α][LawfulBEq α]:∀ {l r:List α},l.Nodup->(∀ x ∈ l,x ∈ r)->l.length<=r.length
 | [],_,_,_=>Nat.zero_le _
 | a :: l,r,nd,hs=>by
  obtain ⟨h1,h2⟩:=List.nodup_cons.mp nd
  have ha:=hs a (by simp)
  have:=XA (l:=l) (r:=r.erase a) h2 fun x hx=>(List.mem_erase_of_ne (show x ≠ a from fun e=>h1 (by rw [<- e];exact hx))).mpr (hs x (by simp [hx]))
  rw [List.length_erase_of_mem ha] at this
  have:0<r.length:=List.length_pos_of_mem ha
  rw [List.length_cons];omega
theorem xS {α:Type}:∀ (l:List α) (p:α->Bool),(l.filter p).length+(l.filter fun x=>!p x).length=l.length
 | [],_=>rfl
 | a :: l,p=>by
  have:=xS l p
  rw [List.filter_cons,List.filter_cons]
  cases p a <;> simp only [Bool.not_true,Bool.not_false,Bool.false_eq_true,if_true,if_false,List.length_cons] <;> omega
theorem QP {n:Nat}{os T:List Int}{ds:List De}(ho:zm n os)(lT:T.length=n)(hd:jb ds ((zK 0 1 n).map some,none) (T.map some,none))(hg:∀ t:Nat,t<n->T.getD (os.getD t 0).toNat 0=(t:Int))(sw:∀ d ∈ ds,∃ a b,d=.swap a b):jd os n<=ds.length+(zi os n).length:=by
 have G:=xG ho
 obtain ⟨lab,L,h⟩:=wQ.dos hd (n:=n) (lab:=fun x=>x.toNat) (L:=List.range n) (k:=0) ⟨fun i x e=>by
  have e:((zK 0 1 n).map some)[i]?=some (some x):=e
  have hi:=(List.getElem?_eq_some_iff.mp e).1
  rw [List.length_map,zB] at hi
  rw [vF hi] at e
  cases e;rfl,List.nodup_range,fun l hl=>⟨l,List.mem_range.mp hl,Int.toNat_natCast l⟩,by rw [List.length_range];omega⟩ sw
 rw [Nat.zero_add] at h
 have lo:∀ t:Nat,t<n->lab (os.getD t 0)=lab t:=fun t ht=>by
  obtain ⟨g0,g1⟩:=ho.getD (i:=t) ht
  have:=h.lb (os.getD t 0).toNat (t:Int) (by show (T.map some)[_]?=_;rw [xZ (by omega),hg t ht])
  rw [Int.toNat_of_nonneg g0] at this
  exact this
 have lr:∀ r ∈ zi os n,∀ k,k<r.length->lab (r.getD k 0)=lab (r.getD 0 0):=fun r hr k=>by
  induction k with
  | zero=>exact fun _=>rfl
  | succ k ih=>
   intro hk
   have nx:=G.nx r hr k (by omega)
   rw [Nat.mod_eq_of_lt hk] at nx
   have hm:r.getD k 0 ∈ r:=by rw [List.getD_eq_getElem?_getD,List.getElem?_eq_getElem (by omega:k<r.length)];exact List.getElem_mem _
   obtain ⟨b0,b1⟩:=G.bd r hr _ hm
   have:=lo (r.getD k 0).toNat (by omega)
   rw [nx,Int.toNat_of_nonneg b0] at this
   rw [this];exact ih (by omega)
 have sub:∀ l ∈ L,l ∈ (((List.range n).filter fun (i:Nat)=>decide (os.getD i 0=(i:Int))).map fun (i:Nat)=>lab i) ++ (zi os n).map fun r=>lab (r.getD 0 0):=fun l hl=>by
  obtain ⟨p,hp,e⟩:=h.at_ l hl
  by_cases c:os.getD p 0=(p:Int)
  ·exact List.mem_append_left _ (List.mem_map.mpr ⟨p,List.mem_filter.mpr ⟨List.mem_range.mpr hp,decide_eq_true c⟩,e⟩)
  ·have hm:(p:Int) ∈ (zi os n).flatten:=Classical.byContradiction fun z=>c (G.st p hp z)
   obtain ⟨r,hr,hx⟩:=List.mem_flatten.mp hm
   obtain ⟨k,hk⟩:=List.getElem?_of_mem hx
   have:=lr r hr k (List.getElem?_eq_some_iff.mp hk).1
   rw [show r.getD k 0=(p:Int) by rw [List.getD_eq_getElem?_getD,hk];rfl,e] at this
   exact List.mem_append_right _ (List.mem_map.mpr ⟨r,hr,this.symm⟩)
 have:=XA h.nd sub
 rw [List.length_append,List.length_map,List.length_map] at this
 have cf:=xS (List.range n) fun (i:Nat)=>decide (os.getD i 0=(i:Int))
 rw [List.length_range] at cf
 have:=h.cnt
 unfold jd
 omega
theorem we {n:Nat}{os:List Int}(h:zm n os){r:List Int}:∀ {i:Nat},i<=n->r ∈ zi os i->∀ x ∈ r,0<=x/\x<(n:Int)
 | 0,_,hr=>by simp [zi] at hr
 | i+1,hi,hr=>by
  unfold zi at hr
  rcases List.mem_append.mp hr with z | z
  ·exact we h (by omega) z
  ·by_cases c:jw os i/\1<per os (i:Int)
   ·rw [if_pos c] at z
    rw [List.mem_singleton.mp z]
    intro x hx
    obtain ⟨k,_,e⟩:=zL.mp hx
    rw [<- e]
    exact zX h (by omega) (by omega) k
   ·rw [if_neg c] at z;cases z
theorem jF {α β:Type}{f:α->List β}{g:α->Nat}:∀ (rs:List α),(∀ r ∈ rs,(f r).length=g r)->((rs.map f).flatten).length=(rs.map g).sum
 | [],_=>rfl
 | r :: rs,h=>by
  rw [List.map_cons,List.flatten_cons,List.length_append,jF rs fun x hx=>h x (by simp [hx]),h r (by simp)];rfl
theorem Qc:∀ (ps:List Nat) (g:Nat),(mvP g ps).length=ps.length
 | [],_=>rfl
 | p :: ps,g=>by show (mvP p ps).length+1=_;rw [Qc ps p];rfl
theorem QM {c:List Nat}(h:1<=c.length):(xK c).length=c.length+1:=by
 unfold xK
 rw [List.length_append,List.length_cons,Qc,List.length_reverse,List.length_drop]
 show _+1+1=_
 omega
theorem wa:∀ (rs:List (List Int)),(rs.map fun r=>r.length+1).sum=kq rs+rs.length
 | []=>rfl
 | r :: rs=>by
  have:=wa rs
  unfold kq at *
  simp only [List.map_cons,List.sum_cons,List.length_cons] at *
  omega
theorem v0:∀ (rs:List (List Int)),(∀ r ∈ rs,1<=r.length)->(rs.map fun r=>r.length - 1).sum+rs.length=kq rs
 | [],_=>rfl
 | r :: rs,h=>by
  have:=v0 rs fun x hx=>h x (by simp [hx])
  have h1:=h r (by simp)
  unfold kq at *
  simp only [List.map_cons,List.sum_cons,List.length_cons] at *
  omega
theorem ZA {n:Nat}{os:List Int}(h:zm n os):(jW os n).length=jd os n+(zi os n).length:=by
 unfold jW
 rw [jF (g:=fun r=>r.length+1),wa,xW h]
 intro r hr
 have:=qH h (Nat.le_refl n) hr
 rw [QM (by rw [List.length_map];omega),List.length_map]
theorem yi {n:Nat}{os:List Int}(h:zm n os):(zZ os n).length+(zi os n).length=jd os n:=by
 unfold zZ
 rw [jF (g:=fun r=>r.length - 1),v0,xW h]
 ·intro r hr
  have:=qH h (Nat.le_refl n) hr;omega
 ·intro r _
  unfold zy
  rw [List.length_map,List.length_drop,List.length_map]
theorem vk {n:Nat}{os:List Int}(h:zm n os){r:List Int}:∀ {i:Nat},i<=n->r ∈ zi os i->∃ k:Nat,k<i/\r=zp os (k:Int)/\1<per os (k:Int)/\jw os k
 | 0,_,hr=>by simp [zi] at hr
 | i+1,hi,hr=>by
  unfold zi at hr
  rcases List.mem_append.mp hr with z | z
  ·obtain ⟨k,h1,h2⟩:=vk h (by omega) z
   exact ⟨k,by omega,h2⟩
  ·by_cases c:jw os i/\1<per os (i:Int)
   ·rw [if_pos c] at z
    exact ⟨i,by omega,List.mem_singleton.mp z,c.2,c.1⟩
   ·rw [if_neg c] at z;cases z
theorem Xy {n:Nat}{os:List Int}(h:zm n os){r:List Int}(hr:r ∈ zi os n):r.Nodup:=by
 obtain ⟨k,h1,rfl,h3,h4⟩:=vk h (Nat.le_refl n) hr
 obtain ⟨m,hm,_⟩:=qz h (p:=(k:Int)) (by omega) (by omega)
 unfold zp
 rw [hm.per]
 exact jc h (by omega) (by omega) hm
theorem YC {n:Nat}{os:List Int}(h:zm n os){s:Nat × Nat}(hs:s ∈ zZ os n):s.1<n/\s.2<n/\s.1 ≠ s.2:=by
 unfold zZ at hs
 obtain ⟨l,hl,hs⟩:=List.mem_flatten.mp hs
 obtain ⟨r,hr,rfl⟩:=List.mem_map.mp hl
 have hb:=we h (Nat.le_refl n) hr
 have nd:=Xy h hr
 have hlen:=qH h (Nat.le_refl n) hr
 unfold zy at hs
 obtain ⟨p,hp,rfl⟩:=List.mem_map.mp hs
 cases r with
 | nil=>simp at hlen
 | cons a l=>
  have hp:p ∈ l.map Int.toNat:=by simpa using hp
  obtain ⟨x,hx,rfl⟩:=List.mem_map.mp hp
  have ha:=hb a (by simp)
  have hx':=hb x (by simp [hx])
  refine ⟨?_,by omega,?_⟩
  ·show ((a :: l).map Int.toNat).getD 0 0<n
   show a.toNat<n
   omega
  ·show ((a :: l).map Int.toNat).getD 0 0 ≠ x.toNat
   show a.toNat ≠ x.toNat
   have:a ≠ x:=fun z=>(List.nodup_cons.mp nd).1 (by rw [z];exact hx)
   omega
theorem YN {l:List Dd}{s t:L2.RS}(h:Dos l s t):jb (l.map Bw) (s.1,s.2.1) (t.1,t.2.1):=by
 induction h with
 | nil=>exact .nil
 | cons d _ ih=>
  refine .cons ?_ ih
  cases d with
  | take h1=>exact .take h1
  | move h1 h2=>exact .move h1 h2
  | lay h1=>exact .lay h1
noncomputable def swD (s:Nat × Nat):De:=.swap s.1 s.2
theorem BF {R:List Int}{s:Nat × Nat}(h1:s.1<R.length)(h2:s.2<R.length)(ne:s.1 ≠ s.2):DoE (swD s) (R.map some,none) ((sw1 R s).map some,none):=by
 have:=DoE.swap (h:=none) ne (xZ h1) (xZ h2)
 unfold sw1
 rw [List.map_set,List.map_set]
 exact this
theorem JS:∀ (l:List (Nat × Nat)) (R:List Int),(∀ s ∈ l,s.1<R.length/\s.2<R.length/\s.1 ≠ s.2)->jb (l.map swD) (R.map some,none) ((swR R l).map some,none)
 | [],_,_=>.nil
 | s :: l,R,h=>by
  obtain ⟨h1,h2,h3⟩:=h s (by simp)
  exact .cons (BF h1 h2 h3) (JS l (sw1 R s) fun t ht=>by rw [Z0];exact h t (by simp [ht]))
noncomputable def xB (n:Nat)(ds:List De)(os:List Int):Prop:=∃ T:List Int,T.length=n/\jb ds ((zK 0 1 n).map some,none) (T.map some,none)/\∀ t:Nat,t<n->T.getD (os.getD t 0).toNat 0=(t:Int)
theorem xB.rings {n:Nat}{os:List Int}(h:zm n os):xB n ((jW os n).map Bw) os:=
 ⟨_,by rw [jo,zB],YN (wm h (List.replicate n 0) n (Nat.le_refl n)),fun t ht=>vM h ht⟩
theorem xB.swaps {n:Nat}{os:List Int}(h:zm n os):xB n ((zZ os n).map swD) os:=
 ⟨_,by rw [jo,zB],JS (zZ os n) (zK 0 1 n) (fun s hs=>by rw [zB];exact YC h hs),fun t ht=>vM h ht⟩
noncomputable def Za:ASp:=fun xs M Q=>∃ (x:AV) (n:Nat) (os:List Int),xs=[x]/\z0 x M=some (os.map fun i=>.d (.int i))/\zm n os/\n<=1000/\Q (.d (.lst ((zi os n).map ilD))) M
theorem Jw (vs:List V)(H:Hp)(Q:VK)(E:XK)(h:cSp Za vs H Q E):Z8 K vs H Q E:=by
 obtain ⟨xs,M,O,Q',w,r,⟨x,n,os,rfl,hx,ho,hn,q⟩,k⟩:=h
 obtain ⟨v,rfl,rv⟩:=qV r
 obtain ⟨a,rfl,ha⟩:=J8 w rv hx
 refine ⟨a,n,os,rfl,ha.elim (fun h=>.inl (SqL.of h)) (fun h=>.inr (SqT.of h)),ho,hn,fun p H' rs kp hp h1 h2 er=>?_⟩
 obtain ⟨e1,w1⟩:=Ze w kp
 refine k _ _ _ _ _ q e1 w1 (Rep.lst (w.fresh hp).1 h1 (by rw [<- er];unfold rfs;simp) fun i x d i1 i2=>?_)
 rw [<- er] at i2
 unfold rfs at i1
 rw [List.getElem?_map] at i1 i2
 rw [List.getElem?_map] at i2
 cases e:rs[i]? with
 | none=>rw [e] at i1;cases i1
 | some y=>
  rw [e] at i1 i2
  cases i1;cases i2
  have:=h2 y (List.mem_of_getElem? e)
  exact xo (w.fresh this.1).1 this.2.2
noncomputable def A2:ASp:=fun xs M Q=>∃ (x:AV) (n:Nat) (os:List Int),xs=[x]/\z0 x M=some (os.map fun i=>.d (.int i))/\os.length=n/\n<=1000/\Q (.d (.int (jd os n:Nat))) M
noncomputable abbrev Xj:Stmt:=top 1
theorem Jt:zE ["order","place","goal"] ["order"] (zn Xj):=⟨rfl,rfl,rfl,by decide +kernel,rfl,by decide +kernel,by decide +kernel⟩
theorem WZ (a:At K mg "off" Xj)(B:Blt mg):Df P w K mg base "off" ["order"] 1 (cSp A2):=by
 refine dfA (k:=0) a Jt (fun _ _ _ _ _ _=>Pn1_ fun _=>rfl) (fun xs M Q h=>?_) (fun f cdv A outer s H E hr=>?_)
 ·obtain ⟨_,_,_,rfl,_⟩:=h;rfl
 have sc:=Jt
 have hsl:=hsl
 refine ⟨_,(zl (zV (zC zx rfl B.len qU (za (yS (ts:=[1,2]) rfl rfl (yE rfl B.enumerate (za (pv 0) zb)) (fun _ _ _ _=>(qF (K:=K) 2 rfl rfl (zw (zu (i:=1) sc.nd rfl (by first | exact Or.inl rfl | exact Or.inr rfl)) (zw (zu (i:=2) sc.nd rfl (by first | exact Or.inl rfl | exact Or.inr rfl)) qE)))) (fun _ _ _ _=>Yj (qb (Kr hr.units) (pv 1) (pv 2) (qc _))) (fun _ _ _ _=>(pv 1))) zb)))),?_⟩
 refine ex2 (by walk_at "sim") ?_
 rintro xs M Q ⟨x,n,os,rfl,hx,ho,hn,q⟩
 rw [show ja ["order","place","goal"] [x]=[some x,none,none] from rfl]
 walk_at "ra"
 refine ⟨_,hx,_,jB _,?_⟩
 refine ⟨fun i acc ρ M'=>M=M'/\(∃ ks:List Int,acc=ks.map (fun k=>AV.d (.int k))/\ks.length=jd os i)/\∃ u v,ρ=[some x,u,v],⟨rfl,⟨[],rfl,rfl⟩,_,_,rfl⟩,?_,?_⟩
 ·rintro i y acc ρ M' hy ⟨rfl,⟨ks,rfl,lk⟩,u,v,rfl⟩
  refine ⟨hx,?_⟩
  obtain ⟨d,hd,rfl⟩:=jN hy
  rw [List.getElem?_map] at hd
  cases e:os[i]? with
  | none=>rw [e] at hd;cases hd
  | some k=>
   rw [e] at hd
   cases hd
   have hk:os.getD i 0=k:=by rw [List.getD_eq_getElem?_getD,e];rfl
   have st:jd os (i+1)=jd os i+if k=(i:Int) then 0 else 1:=by
    unfold jd
    rw [List.range_succ,List.filter_append,List.length_append]
    congr 1
    simp only [List.filter_cons,List.filter_nil,hk]
    by_cases c:k=(i:Int)
    ·simp [c]
    ·simp [c]
   have hi:=(List.getElem?_eq_some_iff.mp e).1
   have le:jd os i<=i:=by have:=List.length_filter_le (fun (i:Nat)=>!decide (os.getD i 0=(i:Int))) (List.range i);rw [List.length_range] at this;exact this
   walk_at "ra"
   by_cases c:k=(i:Int)
   ·rw [if_pos c] at st
    rw [if_neg (not_not_intro c.symm)]
    exact ⟨⟨ks,rfl,by omega⟩,_,rfl⟩
   ·rw [if_neg c] at st
    rw [if_pos (fun z=>c z.symm)]
    exact ⟨Nat.lt_of_lt_of_le (show ks.length<1001 by omega) (by decide),⟨ks ++ [(i:Int)],by rw [List.map_append];rfl,by rw [List.length_append];show _+1=_;omega⟩,_,rfl⟩
 ·rintro acc ρ M' ⟨rfl,⟨ks,rfl,lk⟩,u,v,rfl⟩
  refine ⟨hx,_,jB _,?_⟩
  rw [List.length_map,lk,jf,List.length_map,ho]
  exact Kx Fr.refl q
noncomputable def VA:ASp:=fun xs M Q=>∃ (x:AV) (n:Nat) (os:List Int),xs=[x]/\z0 x M=some (os.map fun i=>.d (.int i))/\zm n os/\n<=1000/\Q (.d (.int (jd os n+(zi os n).length))) M
noncomputable abbrev Zd:Stmt:=top 6
theorem ZX:zE ["order"] ["order"] (zn Zd):=⟨rfl,rfl,rfl,by decide +kernel,rfl,by decide +kernel,by decide +kernel⟩
theorem YR (a:At K mg "fewest_moves" Zd)(B:Blt mg)(D_off:Df P w K mg base "off" ["order"] 3 (cSp A2))(D_rings:Df P w K mg base "rings" ["order"] 3 (cSp Za)):Df P w K mg base "fewest_moves" ["order"] 4 (cSp VA):=by
 refine dfA (k:=3) a ZX (fun _ _ _ _ _ _=>Pn1_ fun _=>rfl) (fun xs M Q h=>?_) (fun f cdv A outer s H E hr=>?_)
 ·obtain ⟨_,_,_,rfl,_⟩:=h;rfl
 have sc:=ZX
 have hsl:=hsl
 refine ⟨_,(zl (zV (zv qe (qm D_off hr rfl (za (pv 0) zb)) (zC zx rfl B.len qU (za (qm D_rings hr rfl (za (pv 0) zb)) zb))))),?_⟩
 refine ex2 (by walk_at "sim") ?_
 rintro xs M Q ⟨x,n,os,rfl,hx,ho,hn,q⟩
 rw [show ja ["order"] [x]=[some x] from rfl]
 walk_at "ra"
 refine ⟨x,n,os,rfl,hx,ho.1,hn,x,n,os,rfl,hx,ho,hn,_,rfl,_,rfl,?_⟩
 rw [List.length_map,List.length_map]
 exact Kx Fr.refl q
noncomputable def Vs:ASp:=fun xs M Q=>∃ (x:AV) (n:Nat) (os:List Int),xs=[x]/\z0 x M=some (os.map fun i=>.d (.int i))/\zm n os/\n<=1000/\Q (.d (.int ((jd os n:Nat) - ((zi os n).length:Nat)))) M
noncomputable abbrev Zi:Stmt:=top 7
theorem Z6:zE ["order"] ["order"] (zn Zi):=⟨rfl,rfl,rfl,by decide +kernel,rfl,by decide +kernel,by decide +kernel⟩
theorem X5 (a:At K mg "fewest_swaps" Zi)(B:Blt mg)(D_off:Df P w K mg base "off" ["order"] 3 (cSp A2))(D_rings:Df P w K mg base "rings" ["order"] 3 (cSp Za)):Df P w K mg base "fewest_swaps" ["order"] 4 (cSp Vs):=by
 refine dfA (k:=3) a Z6 (fun _ _ _ _ _ _=>Pn1_ fun _=>rfl) (fun xs M Q h=>?_) (fun f cdv A outer s H E hr=>?_)
 ·obtain ⟨_,_,_,rfl,_⟩:=h;rfl
 have sc:=Z6
 have hsl:=hsl
 refine ⟨_,(zl (zV (zv Wb (qm D_off hr rfl (za (pv 0) zb)) (zC zx rfl B.len qU (za (qm D_rings hr rfl (za (pv 0) zb)) zb))))),?_⟩
 refine ex2 (by walk_at "sim") ?_
 rintro xs M Q ⟨x,n,os,rfl,hx,ho,hn,q⟩
 rw [show ja ["order"] [x]=[some x] from rfl]
 walk_at "ra"
 refine ⟨x,n,os,rfl,hx,ho.1,hn,x,n,os,rfl,hx,ho,hn,_,rfl,_,rfl,?_⟩
 rw [List.length_map,List.length_map]
 exact Kx Fr.refl q
noncomputable def kind (sw:Bool)(d:De):Prop:=if sw=true then ∃ a b,d=.swap a b else ∀ a b,d ≠ .swap a b
noncomputable def ye (s:NK):Prop:=s.2=none/\∀ x ∈ s.1,x ≠ none
theorem getD_some {row:List (Option Int)}{a:Nat}{x:Option Int}(h:row[a]?=some x):row.getD a none=x:=by rw [List.getD_eq_getElem?_getD,h];rfl
theorem qS {row:List (Option Int)}{a:Nat}(h:a<row.length):row[a]?=some (row.getD a none):=by rw [List.getD_eq_getElem?_getD,List.getElem?_eq_getElem h];rfl
theorem yQ {row:List (Option Int)}{a b:Nat}(h:a ≠ b)(x y:Option Int):(row.set a x).set b y=(row.set b y).set a x:=List.set_comm x y h
theorem Jz {sw:Bool}{s t:NK}(hf:sw=true->ye s)(h:t ∈ ahL sw s):∃ d,kind sw d/\DoE d s t:=by
 obtain ⟨row,hand⟩:=s
 unfold ahL at h
 obtain ⟨a,ha',h⟩:=List.mem_flatMap.mp h
 have ha:a<row.length:=List.mem_range.mp ha'
 rcases List.mem_append.mp h with h | h
 ·obtain ⟨b,hb',h⟩:=List.mem_flatMap.mp h
  have hb:b<row.length:=List.mem_range.mp hb'
  unfold qO at h
  by_cases c:sw=true
  ·rw [if_pos c] at h
   obtain ⟨f1,f2⟩:=hf c
   obtain rfl:hand=none:=f1
   split at h
   ·rename_i lt
    obtain ⟨x,hx⟩:=Option.ne_none_iff_exists'.mp (f2 _ (List.mem_of_getElem? (qS ha)))
    obtain ⟨y,hy⟩:=Option.ne_none_iff_exists'.mp (f2 _ (List.mem_of_getElem? (qS hb)))
    rw [List.mem_singleton.mp h]
    dsimp only
    refine ⟨.swap a b,by unfold kind;rw [if_pos c];exact ⟨a,b,rfl⟩,?_⟩
    rw [hx,hy]
    exact .swap (by omega) (by rw [qS ha,hx]) (by rw [qS hb,hy])
   ·cases h
  ·rw [if_neg c] at h
   split at h
   ·rename_i z
    obtain ⟨x,hx⟩:=Option.ne_none_iff_exists'.mp z.1
    rw [List.mem_singleton.mp h]
    dsimp only at hx z ⊢
    refine ⟨.move a b,(by unfold kind;rw [if_neg c];exact fun _ _ z=>nomatch z),?_⟩
    rw [hx]
    exact .move (by rw [qS ha,hx]) (by rw [qS hb,z.2])
   ·cases h
 ·unfold jS at h
  by_cases c:sw=true
  ·rw [if_pos c] at h;cases h
  ·rw [if_neg c] at h
   have kd:∀ d,(∀ a b,d ≠ De.swap a b)->kind sw d:=fun d hd=>by unfold kind;rw [if_neg c];exact hd
   cases hand with
   | none=>
    rw [if_pos rfl] at h
    split at h
    ·rename_i z
     obtain ⟨x,hx⟩:=Option.ne_none_iff_exists'.mp z
     rw [List.mem_singleton.mp h]
     dsimp only at hx ⊢
     refine ⟨.take a,kd _ (fun _ _ z=>nomatch z),?_⟩
     rw [hx]
     exact .take (by rw [qS ha,hx])
    ·cases h
   | some v=>
    rw [if_neg (fun z=>nomatch z)] at h
    split at h
    ·rename_i z
     rw [List.mem_singleton.mp h]
     exact ⟨.lay a,kd _ (fun _ _ z=>nomatch z),.lay (by rw [qS ha];exact congrArg some z)⟩
    ·cases h
theorem Ko {sw:Bool}{s t:NK}{d:De}(hf:sw=true->ye s)(hk:kind sw d)(h:DoE d s t):t ∈ ahL sw s:=by
 have put:∀ {row:List (Option Int)} {hand:Option Int} {a b:Nat} {t:NK},a<row.length->b<row.length->t ∈ qO sw (row,hand) a b->t ∈ ahL sw (row,hand):=fun {row hand a b t} ha hb h=>List.mem_flatMap.mpr ⟨a,List.mem_range.mpr ha,List.mem_append_left _ (List.mem_flatMap.mpr ⟨b,List.mem_range.mpr hb,h⟩)⟩
 have put2:∀ {row:List (Option Int)} {hand:Option Int} {a:Nat} {t:NK},a<row.length->t ∈ jS sw (row,hand) a->t ∈ ahL sw (row,hand):=fun {row hand a t} ha h=>List.mem_flatMap.mpr ⟨a,List.mem_range.mpr ha,List.mem_append_right _ h⟩
 have ns:(∀ a b,d ≠ De.swap a b)->¬ sw=true:=fun q c=>by
  unfold kind at hk;rw [if_pos c] at hk
  obtain ⟨a,b,e⟩:=hk;exact q a b e
 cases h with
 | @swap a b row hh x y ne h1 h2=>
  have c:sw=true:=Classical.byContradiction fun c=>by unfold kind at hk;rw [if_neg c] at hk;exact hk _ _ rfl
  obtain rfl:hh=none:=(hf c).1
  have la:=(List.getElem?_eq_some_iff.mp h1).1
  have lb:=(List.getElem?_eq_some_iff.mp h2).1
  rcases Nat.lt_or_gt_of_ne ne with q | q
  ·refine put la lb ?_
   unfold qO
   rw [if_pos c,if_pos q,List.mem_singleton]
   dsimp only
   rw [getD_some h1,getD_some h2]
  ·refine put lb la ?_
   unfold qO
   rw [if_pos c,if_pos q,List.mem_singleton]
   dsimp only
   rw [getD_some h1,getD_some h2,yQ ne]
 | @take p row x h1=>
  refine put2 (List.getElem?_eq_some_iff.mp h1).1 ?_
  unfold jS
  rw [if_neg (ns fun _ _ z=>nomatch z),if_pos rfl]
  dsimp only
  rw [getD_some h1,if_pos (fun z=>nomatch z)]
  exact List.mem_singleton.mpr rfl
 | @move p g row hh x h1 h2=>
  refine put (List.getElem?_eq_some_iff.mp h1).1 (List.getElem?_eq_some_iff.mp h2).1 ?_
  unfold qO
  rw [if_neg (ns fun _ _ z=>nomatch z)]
  dsimp only
  rw [getD_some h1,getD_some h2,if_pos ⟨(fun z=>nomatch z),rfl⟩]
  exact List.mem_singleton.mpr rfl
 | @lay g row x h1=>
  refine put2 (List.getElem?_eq_some_iff.mp h1).1 ?_
  unfold jS
  rw [if_neg (ns fun _ _ z=>nomatch z),if_neg (fun z=>nomatch z)]
  dsimp only
  rw [getD_some h1,if_pos rfl]
  exact List.mem_singleton.mpr rfl
theorem Vp {s t:NK}{a b:Nat}(h:DoE (.swap a b) s t)(f:ye s):ye t:=by
 cases h with
 | @swap _ _ row hh x y ne h1 h2=>
  refine ⟨f.1,fun z hz=>?_⟩
  rcases List.mem_or_eq_of_mem_set hz with hz | e
  ·rcases List.mem_or_eq_of_mem_set hz with hz | e
   ·exact f.2 z hz
   ·rw [e];exact fun z=>nomatch z
  ·rw [e];exact fun z=>nomatch z
theorem yA {sw:Bool}{d:De}{s t:NK}(hk:kind sw d)(h:DoE d s t)(f:sw=true->ye s):sw=true->ye t:=fun c=>by
 unfold kind at hk
 rw [if_pos c] at hk
 obtain ⟨a,b,rfl⟩:=hk
 exact Vp h (f c)
theorem KZ {l:List De}{d:De}{s t u:ES}(h:jb l s t)(h2:DoE d t u):jb (l ++ [d]) s u:=h.append (.one h2)
theorem Rh.plan {sw:Bool}{s0:NK}(f0:sw=true->ye s0){m:Nat}{k:NK}(h:Rh sw s0 m k):(sw=true->ye k)/\∃ ds:List De,ds.length=m/\(∀ d ∈ ds,kind sw d)/\jb ds s0 k:=by
 induction h with
 | zero=>exact ⟨f0,[],rfl,(fun d z=>nomatch z),.nil⟩
 | step _ ht ih=>
  obtain ⟨f,ds,e,hk,hd⟩:=ih
  obtain ⟨d,kd,dd⟩:=Jz f ht
  refine ⟨yA kd dd f,ds ++ [d],by rw [List.length_append,e];rfl,fun x hx=>?_,KZ hd dd⟩
  rcases List.mem_append.mp hx with z | z
  ·exact hk x z
  ·rw [List.mem_singleton.mp z];exact kd
theorem Z9 {sw:Bool}{s0:NK}{ds:List De}{s t:ES}(h:jb ds s t):∀ {m:Nat},Rh sw s0 m s->(sw=true->ye s)->(∀ d ∈ ds,kind sw d)->Rh sw s0 (m+ds.length) t:=by
 induction h with
 | nil=>exact fun h _ _=>h
 | @cons d l s t u hd _ ih=>
  intro m hr f hk
  have k1:=hk d List.mem_cons_self
  have:=ih (m:=m+1) (.step hr (Ko f k1 hd)) (yA k1 hd f) fun x hx=>hk x (List.mem_cons_of_mem _ hx)
  rw [List.length_cons,show m+(l.length+1)=m+1+l.length by omega];exact this
noncomputable abbrev s0N (n:Nat):NK:=((zK 0 1 n).map some,none)
theorem ZJ (n:Nat):ye (s0N n):=⟨rfl,fun x hx=>by obtain ⟨y,_,rfl⟩:=List.mem_map.mp hx;exact fun z=>nomatch z⟩
theorem KO (n:Nat):WfN n (s0N n):=⟨by rw [List.length_map,zB],fun x hx=>by
 obtain ⟨y,hy,rfl⟩:=List.mem_map.mp hx
 unfold zK at hy
 obtain ⟨i,hi,rfl⟩:=List.mem_map.mp hy
 exact .inr ⟨i,List.mem_range.mp hi,by rw [Int.zero_add,Int.mul_one]⟩,.inl rfl⟩
noncomputable def yj (n:Nat)(os T:List Int):Prop:=T.length=n/\∀ t:Nat,t<n->T.getD (os.getD t 0).toNat 0=(t:Int)
theorem yj.uniq {n:Nat}{os T U:List Int}(ho:zm n os)(h1:yj n os T)(h2:yj n os U):T=U:=by
 refine List.ext_getElem (h1.1.trans h2.1.symm) fun i a b=>?_
 obtain ⟨t,ht,et⟩:=ho.ex (j:=i) (by rw [<- h1.1];exact a)
 have q1:=h1.2 t ht
 have q2:=h2.2 t ht
 rw [et,Int.toNat_natCast] at q1 q2
 rw [List.getD_eq_getElem?_getD,List.getElem?_eq_getElem a] at q1
 rw [List.getD_eq_getElem?_getD,List.getElem?_eq_getElem b] at q2
 exact q1.trans q2.symm
theorem vX {n:Nat}{os T:List Int}(ho:zm n os)(hT:yj n os T):Lst false (s0N n) (T.map some,none) (jd os n+(zi os n).length):=by
 refine ⟨?_,fun j hj hr=>?_⟩
 ·obtain ⟨U,h1,h2,h3⟩:=xB.rings ho
  obtain rfl:=hT.uniq ho ⟨h1,h3⟩
  have:=Z9 (sw:=false) h2 .zero (fun z=>nomatch z) fun d hd=>by
   obtain ⟨e,_,rfl⟩:=List.mem_map.mp hd
   unfold kind
   rw [if_neg (fun z=>nomatch z)]
   cases e <;> exact fun _ _ z=>nomatch z
  rw [Nat.zero_add,List.length_map,ZA ho] at this
  exact this
 ·obtain ⟨_,ds,e,hk,hd⟩:=hr.plan (fun z=>by cases z)
  have:=QT ho hT.1 hd hT.2 fun d hd=>by have:=hk d hd;unfold kind at this;rw [if_neg (fun z=>nomatch z)] at this;exact this
  omega
theorem vv {n:Nat}{os T:List Int}(ho:zm n os)(hT:yj n os T):Lst true (s0N n) (T.map some,none) (jd os n - (zi os n).length):=by
 refine ⟨?_,fun j hj hr=>?_⟩
 ·obtain ⟨U,h1,h2,h3⟩:=xB.swaps ho
  obtain rfl:=hT.uniq ho ⟨h1,h3⟩
  have:=Z9 (sw:=true) h2 .zero (fun _=>ZJ n) fun d hd=>by
   obtain ⟨e,_,rfl⟩:=List.mem_map.mp hd
   unfold kind
   rw [if_pos rfl]
   exact ⟨_,_,rfl⟩
  rw [Nat.zero_add,List.length_map,show (zZ os n).length=jd os n - (zi os n).length by have:=yi ho;omega] at this
  exact this
 ·obtain ⟨_,ds,e,hk,hd⟩:=hr.plan (fun _=>ZJ n)
  have:=QP ho hT.1 hd hT.2 fun d hd=>by have:=hk d hd;unfold kind at this;rw [if_pos rfl] at this;exact this
  omega
noncomputable abbrev kDs (L:List NK):List AV:=L.map fun k=>.d (kD k)
noncomputable abbrev yf (sw:Bool)(s:NK)(a:Nat):List NK:=(List.range s.1.length).flatMap (qO sw s a) ++ jS sw s a
theorem vW {t:AS}{ag:AG}{x:AV}{B:MH}{D:kO}{ρ:ASt}{M:MH}(h:∀ D',D'=D->ag x ρ M fun ρ' M'=>t B D' ρ' M'):ag x ρ M fun ρ' M'=>t B D ρ' M':=h D rfl
theorem kZ {α β:Type}{f:α->List β}{c:Nat}:∀ (l:List α),(∀ x,(f x).length<=c)->(l.flatMap f).length<=l.length * c
 | [],_=>by simp
 | x :: l,h=>by
  have:=kZ l h
  have:=h x
  rw [List.flatMap_cons,List.length_append,List.length_cons,Nat.succ_mul];omega
theorem Qa (sw:Bool)(s:NK)(a b:Nat):(qO sw s a b).length<=1:=by
 unfold qO
 repeat' split
 all_goals first | exact Nat.zero_le _ | exact Nat.le_refl _
theorem Yq (sw:Bool)(s:NK)(a:Nat):(jS sw s a).length<=1:=by
 unfold jS
 repeat' split
 all_goals first | exact Nat.zero_le _ | exact Nat.le_refl _
theorem Kh {sw:Bool}{s:NK}{a b:Nat}(hn:s.1.length<=5)(ha:a<=5)(hb:b<=5):((List.range a).flatMap (yf sw s) ++ (List.range b).flatMap (qO sw s a)).length<=100:=by
 have h1:=kZ (f:=yf sw s) (c:=6) (List.range a) fun x=>by
  have:=kZ (List.range s.1.length) (fun y=>Qa sw s x y)
  have:=Yq sw s x
  rw [List.length_range] at *
  rw [List.length_append];omega
 have h2:=kZ (List.range b) (fun y=>Qa sw s a y)
 rw [List.length_range] at *
 rw [List.length_append];omega
theorem qr {β:Type}(f:Nat->List β)(b:Nat):(List.range (b+1)).flatMap f=(List.range b).flatMap f ++ f b:=by rw [List.range_succ,List.flatMap_append];simp
noncomputable abbrev jQ (row:List (Option Int)):List AV:=List.map AV.d (List.map dO row)
theorem kP {row:List (Option Int)}{a:Nat}(h:a<row.length):atI (jQ row) (a:Int)=some (.d (dO (row.getD a none))):=by
 unfold atI
 rw [Zz (by omega) (by rw [List.length_map,List.length_map];omega),Int.toNat_natCast]
 show (jQ row)[a]?=_
 rw [jQ,List.getElem?_map,List.getElem?_map,List.getD_eq_getElem?_getD,List.getElem?_eq_getElem h];rfl
theorem j5 (x:Option Int):qJ (.d (dO x))=x.isNone:=by cases x <;> rfl
theorem qN (row:List (Option Int))(a:Nat)(x:Option Int):(jQ row).set a (.d (dO x))=jQ (row.set a x):=by unfold jQ;rw [List.map_set,List.map_set]
theorem xl (row:List (Option Int))(a:Nat):(jQ row).set a (.d .non)=jQ (row.set a none):=qN row a none
theorem yl {row:List (Option Int)}{a:Nat}(h:a<row.length):ixN (jQ row).length (a:Int)=some a:=by rw [List.length_map,List.length_map,Zz (by omega) (by omega),Int.toNat_natCast]
theorem xc (L:List NK)(t:NK):kDs L ++ [.d (kD t)]=kDs (L ++ [t]):=by rw [kDs,kDs,List.map_append];rfl
theorem ZZ (L:List NK):pur (kDs L)=some (L.map kD):=by rw [show kDs L=(L.map kD).map AV.d by rw [List.map_map];rfl];exact zH _
theorem qX:2<=sizeLine:=by rw [sizeLine_eq];decide
theorem jL {α:Type}{l:List α}(h:l.length<=100):l.length<sizeLine:=Nat.lt_of_le_of_lt h (by rw [sizeLine_eq];decide)
noncomputable def KG:ASp:=fun xs M Q=>∃ (s:NK) (sw:Bool),xs=[.d (kD s),.d (.bl sw)]/\s.1.length<=5/\Q (.d (.lst ((ahL sw s).map kD))) M
noncomputable abbrev yN:Stmt:=top 13
theorem vB:zE ["_law_state","_law_swapping","_law_found","_law_a","_law_row","_law_hand","_law_b","_law_some"] ["_law_state","_law_swapping"] (zn yN):=⟨rfl,rfl,rfl,by decide +kernel,rfl,by decide +kernel,by decide +kernel⟩
theorem Js (a:At K mg "_law_ahead" yN)(B:Blt mg):Df P w K mg base "_law_ahead" ["_law_state","_law_swapping"] 1 (cSp KG):=by
 refine dfA (k:=0) a vB (fun _ _ _ _ _ _=>Pn2_ fun _ _=>rfl) (fun xs M Q h=>?_) (fun f cdv A outer s H E hr=>?_)
 ·obtain ⟨_,_,rfl,_⟩:=h;rfl
 have sc:=vB
 have hsl:=hsl
 refine ⟨_,(zd (qp (pv 0) (qF (K:=K) 2 rfl rfl (zw (zu (i:=4) sc.nd rfl (by first | exact Or.inl rfl | exact Or.inr rfl)) (zw (zu (i:=5) sc.nd rfl (by first | exact Or.inl rfl | exact Or.inr rfl)) qE))))
  (zd (zz (i:=2) sc.nd rfl (by first | exact Or.inl rfl | exact Or.inr rfl) (kE (qd zb)))
  (zd (qu PassesOwn.never rfl (qg rfl B.range (za (zC zx rfl B.len qU (za (pv 4) zb)) zb)) (zu (i:=3) sc.nd rfl (by first | exact Or.inl rfl | exact Or.inr rfl)) (zd (qu PassesOwn.never rfl (qg rfl B.range (za (zC zx rfl B.len qU (za (pv 4) zb)) zb)) (zu (i:=6) sc.nd rfl (by first | exact Or.inl rfl | exact Or.inr rfl)) (zd (zz (i:=7) sc.nd rfl (by first | exact Or.inl rfl | exact Or.inr rfl) (kE (zM jq rfl B.list yM (za (pv 4) zb))))
  (zd (jU (PW.pt (jX (j3 (pv 1) (fun _=>rfl)) (xi (qb Bk (pv 3) (pv 6) (qc _))))) (zd (qp (qY (za (zU jT (pv 4) (pv 6) (fun _ _=>rfl)) (za (zU jT (pv 4) (pv 3) (fun _ _=>rfl)) zb))) (qF (K:=K) 2 rfl rfl (zw (qA (pv 7) (pv 3) zG) (zw (qA (pv 7) (pv 6) zG) qE))))
  (zl (qD (kh PySem.F.plainAttrs_list PySem.F.slot_list_append PySem.F.type_list_append qq (pv 2) (za (qY (za (zM zY rfl B.tuple jj (za (pv 7) zb)) (za qt zb))) zb))))) qw)
  (zl (jU (PW.pt (jX (kK (j3 (pv 1) (fun _=>rfl))) (jX (qb yT (zU jT (pv 4) (pv 3) (fun _ _=>rfl)) qt (qc _)) (xi (qb wM (zU jT (pv 4) (pv 6) (fun _ _=>rfl)) qt (qc _)))))) (zd (qp (qY (za qt (za (zU jT (pv 4) (pv 3) (fun _ _=>rfl)) zb))) (qF (K:=K) 2 rfl rfl (zw (qA (pv 7) (pv 3) zG) (zw (qA (pv 7) (pv 6) zG) qE))))
  (zl (qD (kh PySem.F.plainAttrs_list PySem.F.slot_list_append PySem.F.type_list_append qq (pv 2) (za (qY (za (zM zY rfl B.tuple jj (za (pv 7) zb)) (za (pv 5) zb))) zb))))) qw)))))
  (zd (zz (i:=7) sc.nd rfl (by first | exact Or.inl rfl | exact Or.inr rfl) (kE (zM jq rfl B.list yM (za (pv 4) zb))))
  (zd (jU (PW.pt (jX (kK (j3 (pv 1) (fun _=>rfl))) (jX (qb wM (pv 5) qt (qc _)) (xi (qb yT (zU jT (pv 4) (pv 3) (fun _ _=>rfl)) qt (qc _)))))) (zd (qp qt (qA (pv 7) (pv 3) zG))
  (zl (qD (kh PySem.F.plainAttrs_list PySem.F.slot_list_append PySem.F.type_list_append qq (pv 2) (za (qY (za (zM zY rfl B.tuple jj (za (pv 7) zb)) (za (zU jT (pv 4) (pv 3) (fun _ _=>rfl)) zb))) zb))))) qw)
  (zl (jU (PW.pt (jX (kK (j3 (pv 1) (fun _=>rfl))) (jX (qb yT (pv 5) qt (qc _)) (xi (qb wM (zU jT (pv 4) (pv 3) (fun _ _=>rfl)) qt (qc _)))))) (zd (qp (pv 5) (qA (pv 7) (pv 3) zG))
  (zl (qD (kh PySem.F.plainAttrs_list PySem.F.slot_list_append PySem.F.type_list_append qq (pv 2) (za (qY (za (zM zY rfl B.tuple jj (za (pv 7) zb)) (za qt zb))) zb))))) qw))))))
  (zl (zV (pv 2)))))),?_⟩
 refine ex2 (by walk_at "sim") ?_
 rintro xs M Q ⟨⟨row,hand⟩,sw,rfl,hn,q⟩
 have hn:row.length<=5:=hn
 rw [show ja ["_law_state","_law_swapping","_law_found","_law_a","_law_row","_law_hand","_law_b","_law_some"] [.d (kD (row,hand)),.d (.bl sw)]=[some (.d (kD (row,hand))),some (.d (.bl sw)),none,none,none,none,none,none] from rfl]
 walk_at "ra"
 intro p hp _
 refine ⟨by omega,by omega,?_⟩
 rw [Int.toNat_natCast]
 refine ⟨fun a ρ M'=>∃ v3 v6 v7,ρ=[some (.d (kD (row,hand))),some (.d (.bl sw)),some (.ref p),v3,some (.d (.tup (row.map dO))),some (.d (dO hand)),v6,v7]/\M' p=some (.lst (kDs ((List.range a).flatMap (yf sw (row,hand)))))/\Fr M M',⟨none,none,none,rfl,ze,Fr.refl.mup hp _⟩,?_,?_⟩
 ·rintro a x ρ M2 hx ⟨v3,v6,v7,rfl,hL,hF⟩
  obtain ⟨ha,rfl⟩:=jh hx
  rw [show (0:Int)+(a:Int) * 1=(a:Int) by omega]
  refine ⟨trivial,?_⟩
  refine vW fun D1 hD1=>?_
  walk_at "ra"
  refine ⟨by omega,by omega,?_⟩
  rw [Int.toNat_natCast]
  refine ⟨fun b ρ M'=>∃ v6 v7,ρ=[some (.d (kD (row,hand))),some (.d (.bl sw)),some (.ref p),some (.d (.int a)),some (.d (.tup (row.map dO))),some (.d (dO hand)),v6,v7]/\M' p=some (.lst (kDs ((List.range a).flatMap (yf sw (row,hand)) ++ (List.range b).flatMap (qO sw (row,hand) a))))/\Fr M M',⟨v6,v7,rfl,?_,hF⟩,?_,?_⟩
  ·rw [hL];simp
  ·rintro b x ρ M3 hx ⟨v6,v7,rfl,hL,hF⟩
   obtain ⟨hb,rfl⟩:=jh hx
   rw [show (0:Int)+(b:Int) * 1=(b:Int) by omega]
   refine ⟨trivial,?_⟩
   have bd:=Kh (sw:=sw) (s:=(row,hand)) (a:=a) (b:=b) hn (by omega) (by omega)
   cases sw
   ·walk_at "ra"
    intro q hq _
    have nq:p ≠ q:=fun z=>by rw [<- z,hL] at hq;cases hq
    refine ⟨_,kP (by omega),?_⟩
    rw [j5]
    have nope:¬ (row.getD a none ≠ none/\row.getD b none=none)->mup M3 q (MO.lst (jQ row)) p=some (MO.lst (kDs ((List.range a).flatMap (yf false (row,hand)) ++ (List.range (b+1)).flatMap (qO false (row,hand) a))))/\Fr M (mup M3 q (MO.lst (jQ row))):=fun c=>by
     rw [zo nq,hL,qr,show qO false (row,hand) a b=[] by unfold qO;rw [if_neg (fun z=>by cases z),if_neg c],List.append_nil]
     exact ⟨rfl,hF.mup (hF.non hq) _⟩
    by_cases c:row.getD a none=none
    ·rw [if_neg (by rw [c];decide)]
     exact nope fun z=>z.1 c
    ·rw [if_pos (by cases e:row.getD a none with | none=>exact absurd e c | some x=>rfl)]
     refine ⟨_,kP (by omega),?_⟩
     rw [j5]
     by_cases c2:row.getD b none=none
     ·rw [if_pos (by rw [c2];rfl)]
      refine ⟨_,kP (by omega),qX,_,ze,a,yl (by omega),_,ze,b,?_,?_⟩
      ·rw [xl];exact yl (by rw [List.length_set];omega)
      ·rw [xl,qN]
       refine ⟨⟨_,qL ((zo nq).trans hL)⟩,_,qI ze,_,zH _,qX,_,(zo nq).trans hL,by rw [List.length_map];exact jL bd,?_,(hF.mup (hF.non hq) _).mup (Fr.refl.non hp) _⟩
       rw [ze,qr,show qO false (row,hand) a b=[((row.set a none).set b (row.getD a none),hand)] by unfold qO;rw [if_neg (fun z=>by cases z),if_pos ⟨c,c2⟩],<- List.append_assoc,<- xc]
     ·rw [if_neg (by cases e:row.getD b none with | none=>exact absurd e c2 | some x=>exact fun z=>by cases z)]
      exact nope fun z=>c2 z.2
   ·walk_at "ra"
    intro q hq _
    have nq:p ≠ q:=fun z=>by rw [<- z,hL] at hq;cases hq
    by_cases c:a<b
    ·rw [if_pos (by omega)]
     refine ⟨_,kP (by omega),_,kP (by omega),qX,_,ze,a,yl (by omega),_,ze,b,?_,?_⟩
     ·rw [qN];exact yl (by rw [List.length_set];omega)
     ·rw [qN,qN]
      refine ⟨⟨_,qL ((zo nq).trans hL)⟩,_,qI ze,_,zH _,qX,_,(zo nq).trans hL,by rw [List.length_map];exact jL bd,?_,(hF.mup (hF.non hq) _).mup (Fr.refl.non hp) _⟩
      rw [ze,qr,show qO true (row,hand) a b=[((row.set a (row.getD b none)).set b (row.getD a none),none)] by unfold qO;rw [if_pos rfl,if_pos c],<- List.append_assoc,<- xc];rfl
    ·rw [if_neg (by omega)]
     rw [zo nq,hL,qr,show qO true (row,hand) a b=[] by unfold qO;rw [if_pos rfl,if_neg c],List.append_nil]
     exact ⟨rfl,hF.mup (hF.non hq) _⟩
  ·rintro ρ M3 ⟨v6,v7,rfl,hL,hF⟩
   refine ⟨trivial,?_⟩
   rw [j9] at hL
   have bd:=Kh (sw:=sw) (s:=(row,hand)) (a:=a) (b:=row.length) hn (by omega) hn
   subst hD1
   have nope:∀ {q:Addr},M3 q=none->jS sw (row,hand) a=[]->mup M3 q (MO.lst (jQ row)) p=some (MO.lst (kDs ((List.range (a+1)).flatMap (yf sw (row,hand)))))/\Fr M (mup M3 q (MO.lst (jQ row))):=fun {q} hq c=>by
    have nq:p ≠ q:=fun z=>by rw [<- z,hL] at hq;cases hq
    rw [zo nq,hL,qr,yf,c,List.append_nil]
    exact ⟨rfl,hF.mup (hF.non hq) _⟩
   have yes:∀ {t:NK},jS sw (row,hand) a=[t]->kDs ((List.range a).flatMap (yf sw (row,hand)) ++ (List.range row.length).flatMap (qO sw (row,hand) a)) ++ [.d (kD t)]=kDs ((List.range (a+1)).flatMap (yf sw (row,hand))):=fun {t} c=>by
    rw [xc,qr,yf,c,List.append_assoc]
   cases sw
   ·cases hand with
    | none=>
     walk_at "ra"
     intro q hq _
     have nq:p ≠ q:=fun z=>by rw [<- z,hL] at hq;cases hq
     rw [if_pos (show qJ (AV.d (dO none))=true from rfl)]
     refine ⟨_,kP (by omega),?_⟩
     rw [j5]
     by_cases c:row.getD a none=none
     ·rw [if_neg (by rw [c];decide),if_neg (show ¬ qJ (AV.d (dO none))=false from fun z=>by cases z)]
      exact nope hq (by unfold jS;rw [if_neg (fun z=>by cases z),if_pos rfl,if_neg (fun z=>z c)])
     ·rw [if_pos (by cases e:row.getD a none with | none=>exact absurd e c | some x=>rfl)]
      refine ⟨_,ze,a,yl (by omega),?_⟩
      rw [xl]
      refine ⟨⟨_,qL ((zo nq).trans hL)⟩,_,qI ze,_,zH _,_,kP (by omega),qX,_,rfl,_,(zo nq).trans hL,by rw [List.length_map];exact jL bd,?_⟩
      rw [if_neg (show ¬ qJ (AV.d (dO none))=false from fun z=>by cases z),ze,<- yes (t:=(row.set a none,row.getD a none)) (by unfold jS;rw [if_neg (fun z=>by cases z),if_pos rfl,if_pos c])]
      exact ⟨rfl,(hF.mup (hF.non hq) _).mup (Fr.refl.non hp) _⟩
    | some v=>
     walk_at "ra"
     intro q hq _
     have nq:p ≠ q:=fun z=>by rw [<- z,hL] at hq;cases hq
     rw [if_neg (show ¬ qJ (AV.d (dO (some v)))=true from fun z=>by cases z),if_pos (show qJ (AV.d (dO (some v)))=false from rfl)]
     refine ⟨_,kP (by omega),?_⟩
     rw [j5]
     by_cases c:row.getD a none=none
     ·rw [if_pos (by rw [c];rfl)]
      refine ⟨_,ze,a,yl (by omega),?_⟩
      rw [qN]
      refine ⟨⟨_,qL ((zo nq).trans hL)⟩,_,qI ze,_,zH _,qX,_,(zo nq).trans hL,by rw [List.length_map];exact jL bd,?_,(hF.mup (hF.non hq) _).mup (Fr.refl.non hp) _⟩
      rw [ze,<- yes (t:=(row.set a (some v),none)) (by unfold jS;rw [if_neg (fun z=>by cases z),if_neg (fun z=>by cases z),if_pos c])]
      rfl
     ·rw [if_neg (by cases e:row.getD a none with | none=>exact absurd e c | some x=>exact fun z=>by cases z)]
      exact nope hq (by unfold jS;rw [if_neg (fun z=>by cases z),if_neg (fun z=>by cases z),if_neg c])
   ·walk_at "ra"
    intro q hq _
    exact nope hq (by unfold jS;rw [if_pos rfl])
 ·rintro ρ M2 ⟨v3,v6,v7,rfl,hL,hF⟩
  refine ⟨trivial,?_⟩
  rw [j9] at hL
  walk_at "ra"
  exact ⟨_,_,Vg hF hp hL (ZZ _),q⟩
structure SrD (M M':MH)(n:Nat)(sw:Bool)(D:Addr)(m:Nat)(l:List (NK × Nat))(W:List NK)(y:AV):Prop where
 d:M' D=some (.dN (kvJ l))
 r:Sr sw (s0N n) m l W
 dt:vQ y M'=some (.lst (W.map kD))
 w:z0 y M'=some (kDs W)
 ne:y ≠ .ref D
 fr:Fr M M'
 d0:M D=none
structure SiD (M M':MH)(n:Nat)(sw:Bool)(D p:Addr)(m:Nat)(l:List (NK × Nat))(W L:List NK)(y:AV)(S:NK->Prop):Prop where
 d:M' D=some (.dN (kvJ (l ++ atm (m+1) L)))
 lp:M' p=some (.lst (kDs L))
 i:Si sw (s0N n) m l L S
 w:z0 y M'=some (kDs W)
 ne:y ≠ .ref D
 nep:y ≠ .ref p
 npd:p ≠ D
 fr:Fr M M'
 d0:M D=none
 p0:M p=none
theorem BH (k:NK):dp (kD k)<=2:=by
 rw [dp]
 refine Nat.succ_le_succ (Zw (n:=1) fun d hd=>?_)
 simp only [List.mem_cons,List.not_mem_nil,or_false] at hd
 have h0:∀ x:Option Int,dp (dO x)=0:=fun x=>by cases x <;> simp [dO,dp]
 rcases hd with rfl | rfl
 ·rw [dp];exact Nat.succ_le_succ (Zw fun d hd=>by obtain ⟨c,_,rfl⟩:=List.mem_map.mp hd;exact Nat.le_of_eq (h0 c))
 ·rw [h0];exact Nat.zero_le _
theorem W8 (W:List NK):dp (.lst (W.map kD))<=40:=by
 rw [dp]
 exact Nat.le_trans (Nat.succ_le_succ (Zw (n:=2) fun d hd=>by obtain ⟨c,_,rfl⟩:=List.mem_map.mp hd;exact BH c)) (by decide)
noncomputable def S1 (sw:Bool)(W:List NK)(i:Nat)(t:NK):Prop:=∃ j r,j<i/\W[j]?=some r/\t ∈ ahL sw r
noncomputable def S2 (sw:Bool)(S:NK->Prop)(r:NK)(i:Nat)(t:NK):Prop:=S t \/ t ∈ (ahL sw r).take i
theorem SrD.si {M M':MH}{n:Nat}{sw:Bool}{D p:Addr}{m:Nat}{l:List (NK × Nat)}{W:List NK}{y:AV}(h:SrD M M' n sw D m l W y)(hp:M' p=none):SiD M (mup M' p (.lst [])) n sw D p m l W [] y (S1 sw W 0):=by
 have npd:p ≠ D:=fun z=>by rw [z,h.d] at hp;cases hp
 refine ⟨?_,ze,h.r.si fun t ⟨_,_,z,_⟩=>absurd z (Nat.not_lt_zero _),zP h.w hp _,h.ne,fun z=>?_,npd,h.fr.mup (h.fr.non hp) _,h.d0,h.fr.non hp⟩
 ·rw [zo (Ne.symm npd),atm,List.map_nil,List.append_nil];exact h.d
 ·have:=h.w
  rw [z] at this
  unfold z0 at this
  dsimp only at this
  rw [hp] at this;cases this
theorem SiD.imp {M M':MH}{n:Nat}{sw:Bool}{D p:Addr}{m:Nat}{l:List (NK × Nat)}{W L:List NK}{y:AV}{S S':NK->Prop}(h:SiD M M' n sw D p m l W L y S)(k:∀ t,S' t->S t):SiD M M' n sw D p m l W L y S':={ h with i:=h.i.imp k }
theorem SiD.round {M M' M2:MH}{n:Nat}{sw:Bool}{D p:Addr}{m:Nat}{l:List (NK × Nat)}{W L:List NK}{y:AV}(hS:SrD M M' n sw D m l W y)(h:SiD M M2 n sw D p m l W L y (S1 sw W W.length)):SrD M M2 n sw D (m+1) (l ++ atm (m+1) L) L (.ref p):=
 ⟨h.d,h.i.round hS.r fun r hr t ht=>by obtain ⟨j,hj⟩:=List.getElem?_of_mem hr;exact ⟨j,r,(List.getElem?_eq_some_iff.mp hj).1,hj,ht⟩,XE h.lp (ZZ L),qI h.lp,fun z=>h.npd (AV.ref.inj z),h.fr,h.d0⟩
theorem ZV {x:AV}{M:MH}{l:List AV}(h:z0 x M=some l){p:Addr}(hp:x ≠ .ref p)(o:MO):z0 x (mup M p o)=some l:=by
 cases x with
 | d x=>cases x <;> first | exact h | cases h
 | ref a=>
  unfold z0 at *
  dsimp only at *
  rw [zo (fun z=>hp (by rw [z]))];exact h
 | tp l=>exact h
theorem SiD.add {M M4:MH}{n:Nat}{sw:Bool}{D p:Addr}{m:Nat}{l:List (NK × Nat)}{W L:List NK}{y:AV}{S S':NK->Prop}{r t:NK}(hR:Sr sw (s0N n) m l W)(h:SiD M M4 n sw D p m l W L y S)(hr:Lst sw (s0N n) r m)(hm:t ∈ ahL sw r)(ht:t ∉ (l ++ atm (m+1) L).map (·.1))(hS:∀ u,S' u->S u \/ u=t) :
  SiD M (mup (mup M4 D (.dN (kvJ (l ++ atm (m+1) L ++ [(t,m+1)])))) p (.lst (kDs (L ++ [t])))) n sw D p m l W (L ++ [t]) y S':=by
 have e3:l ++ atm (m+1) (L ++ [t])=l ++ atm (m+1) L ++ [(t,m+1)]:=by rw [show atm (m+1) (L ++ [t])=atm (m+1) L ++ [(t,m+1)] from List.map_append,List.append_assoc]
 refine ⟨?_,ze,h.i.add hR hr hm ht hS,ZV (ZV h.w h.ne _) h.nep _,h.ne,h.nep,h.npd,(h.fr.mup h.d0 _).mup h.p0 _,h.d0,h.p0⟩
 rw [zo (Ne.symm h.npd),ze,e3]
noncomputable def Qr:ASp:=fun xs M Q=>∃ (n:Nat) (sw:Bool),xs=[.d (.int (n:Int)),.d (.bl sw)]/\n<=5/\∀ D l,M D=none->(l.map (·.1)).Nodup->(∀ k j,Lst sw (s0N n) k j->(k,j) ∈ l)->Q (.ref D) (mup M D (.dN (kvJ l)))
noncomputable abbrev xm:Stmt:=top 14
theorem yD:zE ["_law_n","_law_swapping","_law_first","_law_found","_law_waiting","_law_later","_law_state","_law_other"] ["_law_n","_law_swapping"] (zn xm):=⟨rfl,rfl,rfl,by decide +kernel,rfl,by decide +kernel,by decide +kernel⟩
theorem QN (a:At K mg "_law_depths" xm)(B:Blt mg)(D_law_ahead:Df P w K mg base "_law_ahead" ["_law_state","_law_swapping"] 1 (cSp KG)):Df P w K mg base "_law_depths" ["_law_n","_law_swapping"] 2 (cSp Qr):=by
 refine dfA (k:=1) a yD (fun _ _ _ _ _ _=>Pn2_ fun _ _=>rfl) (fun xs M Q h=>?_) (fun f cdv A outer s H E hr=>?_)
 ·obtain ⟨_,_,rfl,_⟩:=h;rfl
 have sc:=yD
 have hsl:=hsl
 refine ⟨_,(zd (zz (i:=2) sc.nd rfl (by first | exact Or.inl rfl | exact Or.inr rfl) (qY (za (zM (xx rfl) rfl B.tuple jj (za (zM vO rfl B.range K9 (za (pv 0) zb)) zb)) (za qt zb))))
  (zd (zz (i:=3) sc.nd rfl (by first | exact Or.inl rfl | exact Or.inr rfl) (Q7 (hun hr) (Ju (pv 2) zk Vm)))
  (zd (zz (i:=4) sc.nd rfl (by first | exact Or.inl rfl | exact Or.inr rfl) (qd (za (pv 2) zb)))
  (zd (wc PassesOwn.never (qb (Kr hr.units) (pv 4) (qd zb) (qc _)) (zd (zz (i:=5) sc.nd rfl (by first | exact Or.inl rfl | exact Or.inr rfl) (kE (qd zb)))
  (zd (qu PassesOwn.never rfl (ZH (pv 4)) (zu (i:=6) sc.nd rfl (by first | exact Or.inl rfl | exact Or.inr rfl)) (zl (qu PassesOwn.never rfl (ZH (qm D_law_ahead hr rfl (za (pv 6) (za (pv 1) zb)))) (zu (i:=7) sc.nd rfl (by first | exact Or.inl rfl | exact Or.inr rfl)) (zl (jU (WI (Jx (hun hr) (pv 7) (pv 3))) (zd (JY (hun hr) (pv 3) (pv 7) (zv qe (xE (hun hr) (pv 3) (pv 6) (fun _ _=>rfl)) zk) rfl)
  (zl (qD (kh PySem.F.plainAttrs_list PySem.F.slot_list_append PySem.F.type_list_append qq (pv 5) (za (pv 7) zb))))) qw)))))
  (zl (zz (i:=4) sc.nd rfl (by first | exact Or.inl rfl | exact Or.inr rfl) (pv 5))))))
  (zl (zV (pv 3))))))),?_⟩
 refine ex2 (by walk_at "sim") ?_
 rintro xs M Q ⟨n,sw,rfl,hn,q⟩
 rw [show ja ["_law_n","_law_swapping","_law_first","_law_found","_law_waiting","_law_later","_law_state","_law_other"] [.d (.int (n:Int)),.d (.bl sw)]=[some (.d (.int (n:Int))),some (.d (.bl sw)),none,none,none,none,none,none] from rfl]
 refine zD fun r hr0=>?_
 walk_at "ra"
 refine ⟨0,n,1,rfl,small_one (by omega) (by omega) (by omega) (by omega),n,by rw [rangeSize_one];split <;> omega,by omega,qX,?_⟩
 have e0:(Dat.tup [Dat.tup (List.map Dat.int (zK 0 1 n)),Dat.non])=kD (s0N n):=by
  show _=Dat.tup [Dat.tup (List.map dO (List.map some (zK 0 1 n))),Dat.non]
  rw [List.map_map];rfl
 rw [e0]
 subst hr0
 refine zD fun r hr0=>?_
 walk_at "ra"
 intro D hD
 refine ⟨s0N n,rfl,rfl,ze,?_⟩
 subst hr0
 refine zD fun r hr0=>?_
 walk_at "ra"
 refine ⟨by rw [sizeLine_eq];decide,?_⟩
 subst hr0
 refine zD fun r hr0=>?_
 show ww (JD _ _) _ _ _ _ _
 unfold ww
 refine ⟨fun k ρ M'=>∃ (m:Nat) (l:List (NK × Nat)) (W:List NK) (y:AV) (u5 u6 u7:Option AV),k=50000 - l.length+W.length/\ρ=[some (.d (.int (n:Int))),some (.d (.bl sw)),some (.d (kD (s0N n))),some (.ref D),some y,u5,u6,u7]/\SrD M M' n sw D m l W y,⟨_,0,[(s0N n,0)],[s0N n],_,none,none,none,rfl,rfl,⟨ze,J0 sw _,rfl,rfl,(fun z=>nomatch z),Fr.refl.mup hD _,hD⟩⟩,?_⟩
 rintro k ρ M' ⟨m,l,W,y,u5,u6,u7,hk,rfl,hS⟩
 walk_at "ra"
 refine ⟨_,hS.dt,W8 W,by simp [dp,dps],?_⟩
 cases W with
 | nil=>
  rw [if_neg (by rw [List.map_nil,wq (by rw [dp];decide)];decide)]
  subst hr0
  walk_at "ra"
  exact ⟨_,_,AC hS.fr hD hS.d,q D l hD hS.r.nd fun k j h=>hS.r.done h⟩
 | cons W0 W1=>
  rw [if_pos (by rw [List.map_cons,eqD];simp [kX])]
  generalize hWW:W0 :: W1=W at *
  have hW1:1<=W.length:=by rw [<- hWW];simp
  clear hWW
  intro p hp _
  refine ⟨_,zP hS.w hp _,?_⟩
  have wf:∀ r ∈ W,WfN n r:=fun r hr=>((hS.r.w r).mp hr).1.wf (KO n)
  refine ⟨fun i ρ M2=>∃ L v6 v7,ρ=[some (.d (.int (n:Int))),some (.d (.bl sw)),some (.d (kD (s0N n))),some (.ref D),some y,some (.ref p),v6,v7]/\SiD M M2 n sw D p m l W L y (S1 sw W i),⟨[],u6,u7,rfl,hS.si hp⟩,?_,?_⟩
  ·rintro i x ρ M2 hx ⟨L,v6,v7,rfl,hI⟩
   rw [List.getElem?_map] at hx
   obtain ⟨st,hst,rfl⟩:=Option.map_eq_some_iff.mp hx
   have hm:=List.mem_of_getElem? hst
   have hlst:=(hS.r.w st).mp hm
   refine ⟨hI.w,?_⟩
   refine vW fun D1 hD1=>?_
   walk_at "ra"
   refine ⟨st,sw,rfl,by rw [(wf st hm).1];exact hn,?_⟩
   refine ⟨_,rfl,?_⟩
   refine ⟨fun j ρ M2=>∃ L v7,ρ=[some (.d (.int (n:Int))),some (.d (.bl sw)),some (.d (kD (s0N n))),some (.ref D),some y,some (.ref p),some (.d (kD st)),v7]/\SiD M M2 n sw D p m l W L y (S2 sw (S1 sw W i) st j),⟨L,v7,rfl,hI.imp fun t z=>z.elim id fun z=>by rw [List.take_zero] at z;cases z⟩,?_,?_⟩
   ·rintro j x ρ M3 hx ⟨L2,w7,rfl,hI2⟩
    rw [List.getElem?_map,List.getElem?_map] at hx
    obtain ⟨d0,hd0,rfl⟩:=Option.map_eq_some_iff.mp hx
    obtain ⟨t,ht,rfl⟩:=Option.map_eq_some_iff.mp hd0
    refine ⟨rfl,?_⟩
    walk_at "ra"
    have hS2:∀ u,S2 sw (S1 sw W i) st (j+1) u->S2 sw (S1 sw W i) st j u \/ u=t:=fun u hu=>by
     rcases hu with z | z
     ·exact .inl (.inl z)
     ·rw [List.take_succ,ht] at z
      rcases List.mem_append.mp z with z | z
      ·exact .inl (.inr z)
      ·exact .inr (List.mem_singleton.mp z)
    refine ⟨_,hI2.d,t,rfl,rfl,?_⟩
    rw [KC]
    by_cases ct:t ∈ (l ++ atm (m+1) L2).map (·.1)
    ·rw [if_neg (by rw [decide_eq_true ct];decide)]
     exact ⟨L2,{ hI2 with i:=hI2.i.old ct hS2 }⟩
    ·rw [if_pos (by rw [decide_eq_false ct])]
     have hb:=hI2.i.len hn (KO n) hS.r
     have hb2:=hb
     rw [List.length_append,List.length_map] at hb2
     refine ⟨_,hI2.d,st,rfl,rfl,_,j8 hI2.i.nd (List.mem_append_left _ ((hS.r.all st m).mpr ⟨hlst,Nat.le_refl _⟩)),(m:Int),rfl,_,hI2.d,t,rfl,rfl,by rw [List.length_map];omega,⟨_,qL ((zo hI2.npd).trans hI2.lp)⟩,_,(zo hI2.npd).trans hI2.lp,by rw [List.length_map];exact Nat.lt_of_lt_of_le (show L2.length<46657 by omega) (by rw [sizeLine_eq];decide),?_⟩
     rw [show (m:Int)+1=((m+1:Nat):Int) by omega,XT ct,xc]
     exact ⟨L2 ++ [t],hI2.add hS.r hlst (List.mem_of_getElem? ht) ct hS2⟩
   ·rintro ρ M3 ⟨L2,w7,rfl,hI2⟩
    refine ⟨rfl,?_⟩
    subst hD1
    refine ⟨L2,_,w7,rfl,hI2.imp fun t ⟨j,r,h1,h2,h3⟩=>?_⟩
    by_cases z:j<i
    ·exact .inl ⟨j,r,z,h2,h3⟩
    ·obtain rfl:j=i:=by omega
     rw [hst] at h2
     cases h2
     refine .inr ?_
     rw [List.length_map,List.length_map,List.take_length]
     exact h3
  ·rintro ρ M2 ⟨L,v6,v7,rfl,hI⟩
   rw [List.length_map] at hI
   refine ⟨hI.w,?_⟩
   walk_at "ra"
   have hb:=hI.i.len hn (KO n) hS.r
   rw [List.length_append,List.length_map] at hb
   exact ⟨50000 - (l.length+L.length)+L.length,by omega,m+1,l ++ atm (m+1) L,L,by rw [List.length_append,List.length_map],⟨_,rfl⟩,hI.round hS⟩
noncomputable def wC:ASp:=fun xs M Q=>∃ (y:AV) (Dm Ds:Addr) (n:Nat) (os:List Int) (lm ls:List (NK × Nat)),xs=[y,.ref Dm,.ref Ds]/\z0 y M=some (os.map fun i=>.d (.int i))/\zm n os/\n<=5/\M Dm=some (.dN (kvJ lm))/\M Ds=some (.dN (kvJ ls))/\(lm.map (·.1)).Nodup/\(ls.map (·.1)).Nodup/\(∀ k j,Lst false (s0N n) k j->(k,j) ∈ lm)/\(∀ k j,Lst true (s0N n) k j->(k,j) ∈ ls)/\Q (.d (.bl true)) M
noncomputable abbrev kC:Stmt:=top 15
theorem xP:zE ["_law_order","_law_moves","_law_swaps","_law_row","_law_state","_law_place","_law_end"] ["_law_order","_law_moves","_law_swaps"] (zn kC):=⟨rfl,rfl,rfl,by decide +kernel,rfl,by decide +kernel,by decide +kernel⟩
theorem Zb (a:At K mg "_law_right" kC)(B:Blt mg)(D_fewest_moves:Df P w K mg base "fewest_moves" ["order"] 4 (cSp VA))(D_fewest_swaps:Df P w K mg base "fewest_swaps" ["order"] 4 (cSp Vs)):Df P w K mg base "_law_right" ["_law_order","_law_moves","_law_swaps"] 5 (cSp wC):=by
 refine dfA (k:=4) a xP (fun _ _ _ _ _ _=>Pn3_ fun _ _ _=>rfl) (fun xs M Q h=>?_) (fun f cdv A outer s H E hr=>?_)
 ·obtain ⟨_,_,_,_,_,_,_,rfl,_⟩:=h;rfl
 have sc:=xP
 have hsl:=hsl
 refine ⟨_,(zd (zz (i:=3) sc.nd rfl (by first | exact Or.inl rfl | exact Or.inr rfl) (kE (zv wN (qd (za qt zb)) (zC zx rfl B.len qU (za (pv 0) zb)))))
  (zd (qu PassesOwn.never rfl (yE rfl B.enumerate (za (pv 0) zb)) (qF (K:=K) 2 rfl rfl (zw (zu (i:=5) sc.nd rfl (by first | exact Or.inl rfl | exact Or.inr rfl)) (zw (zu (i:=6) sc.nd rfl (by first | exact Or.inl rfl | exact Or.inr rfl)) qE))) (zl (qp (pv 5) (qA (pv 3) (pv 6) zG))))
  (zd (zz (i:=4) sc.nd rfl (by first | exact Or.inl rfl | exact Or.inr rfl) (qY (za (zM zY rfl B.tuple jj (za (pv 3) zb)) (za qt zb))))
  (zl (zV (VU (yZ (Kb hr.units) (qm D_fewest_moves hr rfl (za (pv 0) zb)) (xE (hun hr) (pv 1) (pv 4) (fun _ _=>rfl)) (qc _)) (V1 (yZ (Kb hr.units) (qm D_fewest_swaps hr rfl (za (pv 0) zb)) (xE (hun hr) (pv 2) (pv 4) (fun _ _=>rfl)) (qc _))))))))),?_⟩
 refine ex2 (by walk_at "sim") ?_
 rintro xs M Q ⟨y,Dm,Ds,n,os,lm,ls,rfl,hy,ho,hn,hm,hs,nm,ns,am,as,q⟩
 rw [show ja ["_law_order","_law_moves","_law_swaps","_law_row","_law_state","_law_place","_law_end"] [y,.ref Dm,.ref Ds]=[some y,some (.ref Dm),some (.ref Ds),none,none,none,none] from rfl]
 have ol:=ho.1
 walk_at "ra"
 have er:(List.replicate n [AV.d Dat.non]).flatten=jQ (List.replicate n none):=by
  rw [jQ,List.map_replicate,List.map_replicate];exact List.flatten_replicate_singleton
 refine ⟨by rw [sizeLine_eq];decide,_,hy,by rw [List.length_map];omega,by rw [List.length_map];omega,by rw [List.length_map,ol,sizeLine_eq];omega,fun p hp _=>?_⟩
 rw [List.length_map,ol,Int.toNat_natCast,er]
 refine ⟨_,zP hy hp _,os.map .int,by rw [<- yB];exact zH _,?_⟩
 refine ⟨fun i ρ M'=>∃ v4 v5 v6 R,ρ=[some y,some (.ref Dm),some (.ref Ds),some (.ref p),v4,v5,v6]/\M'=mup M p (.lst (jQ R))/\R.length=n/\∀ j,j<i->R.getD (os.getD j 0).toNat none=some (j:Int),⟨none,none,none,_,rfl,rfl,List.length_replicate,fun j hj=>absurd hj (Nat.not_lt_zero _)⟩,?_,?_⟩
 ·rintro i x ρ M2 hx ⟨v4,v5,v6,R,rfl,rfl,lR,hR⟩
  obtain ⟨d,hd,rfl⟩:=jN hx
  rw [List.getElem?_map] at hd
  obtain ⟨k,hk,rfl⟩:=Option.map_eq_some_iff.mp hd
  refine ⟨zP hy hp _,?_⟩
  have hi:i<n:=by rw [<- ol];exact (List.getElem?_eq_some_iff.mp hk).1
  have ek:os.getD i 0=k:=by rw [List.getD_eq_getElem?_getD,hk];rfl
  obtain ⟨k0,k1⟩:=ho.getD hi
  rw [ek] at k0 k1
  walk_at "ra"
  refine ⟨_,ze,k.toNat,by rw [List.length_map,List.length_map,Zz k0 (by omega)],R.set k.toNat (some (i:Int)),?_,by rw [List.length_set];exact lR,fun j hj=>?_⟩
  ·exact congrArg (fun z=>mup M p (MO.lst z)) (qN R k.toNat (some (i:Int)))
  ·rw [List.getD_eq_getElem?_getD,List.getElem?_set]
   by_cases c:j=i
   ·subst c
    rw [ek,if_pos rfl,if_pos (by omega)];rfl
   ·have hj':j<i:=by omega
    obtain ⟨j0,j1⟩:=ho.getD (i:=j) (by omega)
    rw [if_neg fun z=>c (ho.inj (by omega) hi (by rw [ek];omega)),<- List.getD_eq_getElem?_getD]
    exact hR j hj'
 ·rintro ρ M2 ⟨v4,v5,v6,R,rfl,rfl,lR,hR⟩
  rw [jf,List.length_map,ol] at hR
  refine ⟨zP hy hp _,?_⟩
  obtain ⟨T,lT,_,gT⟩:=xB.rings ho
  have eR:R=T.map some:=by
   refine List.ext_getElem (by rw [List.length_map,lR,lT]) fun i a b=>?_
   obtain ⟨t,ht,et⟩:=ho.ex (j:=i) (by rw [<- lR];exact a)
   have q1:=hR t ht
   have q2:=gT t ht
   rw [et,Int.toNat_natCast] at q1 q2
   rw [List.getD_eq_getElem?_getD,List.getElem?_eq_getElem a] at q1
   rw [List.getElem_map]
   rw [List.getD_eq_getElem?_getD,List.getElem?_eq_getElem (by rw [lT,<- lR];exact a)] at q2
   exact q1.trans (congrArg some q2.symm)
  subst eR
  have hT:yj n os T:=⟨lT,gT⟩
  have e1:=j8 nm (am _ _ (vX ho hT))
  have e2:=j8 ns (as _ _ (vv ho hT))
  have rl:=yi ho
  have e3:((jd os n - (zi os n).length:Nat):Int)=(jd os n:Int) - ((zi os n).length:Int):=by omega
  rw [e3] at e2
  walk_at "ra"
  have nD:∀ {D:Addr} {o:MO},M D=some o->D ≠ p:=fun e z=>by rw [z,hp] at e;cases e
  refine ⟨_,qI ze,_,zH _,qX,y,n,os,rfl,zP hy hp _,ho,by omega,_,(zo (nD hm)).trans hm,(T.map some,none),rfl,rfl,_,e1,_,rfl,_,rfl,by rw [xJ];decide,by rw [xJ];decide,?_⟩
  rw [if_pos (by rw [wV];exact decide_eq_true rfl)]
  refine ⟨y,n,os,rfl,zP hy hp _,ho,by omega,_,(zo (nD hs)).trans hs,(T.map some,none),rfl,rfl,_,e2,_,rfl,_,rfl,by rw [xJ];decide,by rw [xJ];decide,?_⟩
  rw [wV,decide_eq_true rfl]
  exact Kx (Fr.refl.mup hp _) q
noncomputable abbrev Xo:Stmt:=top 16
theorem Xk:zE ["_law_script","_law_orders","_law_n","_law_k","_law_longer","_law_order","_law_moves","_law_swaps","_law_box_here","_law_turn"] ["_law_script"] (zn Xo):=⟨rfl,rfl,rfl,by decide +kernel,rfl,by decide +kernel,by decide +kernel⟩
noncomputable def ZL (K:PySem.W.Frag):Sp:=fun vs H Q _=>∃ (a:Addr) (ns:List Int),vs=[.ref a]/\SqL K H a (ns.map V.int)/\ns.length<=63/\∀ H',Q (.bl true) H'
noncomputable def BQ (K:PySem.W.Frag):ASp:=fun xs M Q=>∃ ns:List Int,xs=[.d (.scr K ns)]/\ns.length<=63/\Q (.d (.bl true)) M
theorem sp_law (vs:List V)(H:Hp)(Q:VK)(E:XK)(h:ZL K vs H Q E):cSp (BQ K) vs H Q E:=by
 obtain ⟨a,ns,rfl,ha,hn,q⟩:=h
 refine ⟨[.d (.scr K ns)],fun _=>none,fun _=>False,fun x _=>x=.d (.bl true),⟨(fun a o e=>nomatch e),(fun a h=>h rfl),fun a h=>h.elim⟩,.cons (X4 (fun _ z=>z) ha) .nil,⟨ns,rfl,hn,rfl⟩,fun x M' v H' O' hx _ _ r=>?_⟩
 subst hx
 rw [xy r]
 exact q H'
noncomputable abbrev oV (L:List (List Int)):List AV:=L.map fun os=>.d (.lst (os.map .int))
structure Qs (n:Nat)(oss:List (List Int))(y:AV)(M:MH):Prop where
 at_:z0 y M=some (oV oss)
 ord:∀ os ∈ oss,zm n os
 len:oss.length<=5 ^ n
theorem Qs.zero (M:MH):Qs 0 [[]] (.d (.lst [.lst []])) M:=⟨rfl,fun os h=>by rw [List.mem_singleton.mp h];exact zm.nil,Nat.le_refl _⟩
theorem Vk (n:Nat):vy 0 1 n=(List.range n).map fun (i:Nat)=>AV.d (.int (i:Int)):=by
 unfold vy
 exact List.map_congr_left fun i _=>by rw [Int.zero_add,Int.mul_one]
theorem JG {M0 M:MH}{Dm Ds:Addr}{o1 o2:MO}{y:AV}{l:List AV}(f:Fr M0 M)(h1:M Dm=none)(h2:mup M Dm o1 Ds=none)(hy:z0 y M=some l) :
  mup (mup M Dm o1) Ds o2 Dm=some o1/\mup (mup M Dm o1) Ds o2 Ds=some o2/\z0 y (mup (mup M Dm o1) Ds o2)=some l/\Fr M0 (mup (mup M Dm o1) Ds o2):=by
 have n1:Dm ≠ Ds:=fun z=>by rw [<- z,ze] at h2;cases h2
 have f2:=f.mup (f.non h1) o1
 exact ⟨by rw [zo n1,ze],ze,zP (zP hy h1 _) h2 _,f2.mup (f2.non h2) o2⟩
theorem AZ (a:At K mg "law" Xo)(B:Blt mg)(Ball:mg "all"=none)(D_law_box:Df P w K mg base "_law_box" ["_law_script","_law_k"] 19 (cSp BD))(D_law_folded:Df P w K mg base "_law_folded" ["_law_script","_law_many"] 19 (cSp (Z1 K)))(D_law_shuffled:Df P w K mg base "_law_shuffled" ["_law_box_here","_law_n"] 19 (cSp VM))(D_law_depths:Df P w K mg base "_law_depths" ["_law_n","_law_swapping"] 19 (cSp Qr))(D_law_right:Df P w K mg base "_law_right" ["_law_order","_law_moves","_law_swaps"] 19 (cSp wC)):Df P w K mg base "law" ["_law_script"] 20 (cSp (BQ K)):=by
 refine dfA (k:=19) a Xk (fun _ _ _ _ _ _=>Pn1_ fun _=>rfl) (fun xs M Q h=>?_) (fun f cdv A outer s H E hr=>?_)
 ·obtain ⟨_,rfl,_⟩:=h;rfl
 have sc:=Xk
 have hsl:=hsl
 refine ⟨_,(zd (zz (i:=1) sc.nd rfl (by first | exact Or.inl rfl | exact Or.inr rfl) (qd (za (qd zb) zb)))
  (zd (qu PassesOwn.never rfl (qg rfl B.range (za zk zb)) (zu (i:=2) sc.nd rfl (by first | exact Or.inl rfl | exact Or.inr rfl)) (zd (qp (qY (za (qm D_law_depths hr rfl (za (pv 2) (za kg zb))) (za (qm D_law_depths hr rfl (za (pv 2) (za kg zb))) zb))) (qF (K:=K) 2 rfl rfl (zw (zu (i:=6) sc.nd rfl (by first | exact Or.inl rfl | exact Or.inr rfl)) (zw (zu (i:=7) sc.nd rfl (by first | exact Or.inl rfl | exact Or.inr rfl)) qE))))
  (zd (jU (kK (j3 (zC (QK rfl) rfl Ball WL (za (yS (ts:=[5]) rfl rfl (ZH (pv 1)) (fun _ _ _ _=>(zu (i:=5) sc.nd rfl (by first | exact Or.inl rfl | exact Or.inr rfl))) (fun _ _ _ _=>Qe) (fun _ _ _ _=>(qm D_law_right hr rfl (za (pv 5) (za (pv 6) (za (pv 7) zb)))))) zb)) (fun _=>rfl))) (zl (zV kg)) qw)
  (zd (zz (i:=4) sc.nd rfl (by first | exact Or.inl rfl | exact Or.inr rfl) (kE (qd zb)))
  (zd (qu PassesOwn.never rfl (ZH (pv 1)) (zu (i:=5) sc.nd rfl (by first | exact Or.inl rfl | exact Or.inr rfl)) (zl (qD (kh PySem.F.plainAttrs_list PySem.F.slot_list_extend PySem.F.type_list_extend Q9 (pv 4) (za (yS (ts:=[3]) rfl rfl (qg rfl B.range (za (zv qe (pv 2) zk) zb)) (fun _ _ _ _=>(zu (i:=3) sc.nd rfl (by first | exact Or.inl rfl | exact Or.inr rfl))) (fun _ _ _ _=>Qe) (fun _ _ _ _=>(zv Zo (zv Zo (ka (vN (K:=K) rfl) (pv 5) yI (kj (pv 3))) (qd (za (pv 2) zb))) (ka (vN (K:=K) rfl) (pv 5) (kj (pv 3)) yI)))) zb)))))
  (zl (zz (i:=1) sc.nd rfl (by first | exact Or.inl rfl | exact Or.inr rfl) (pv 4))))))))
  (zd (qp (qY (za (qm D_law_depths hr rfl (za zk (za kg zb))) (za (qm D_law_depths hr rfl (za zk (za kg zb))) zb))) (qF (K:=K) 2 rfl rfl (zw (zu (i:=6) sc.nd rfl (by first | exact Or.inl rfl | exact Or.inr rfl)) (zw (zu (i:=7) sc.nd rfl (by first | exact Or.inl rfl | exact Or.inr rfl)) qE))))
  (zd (zz (i:=0) sc.nd rfl (by first | exact Or.inl rfl | exact Or.inr rfl) (qm D_law_folded hr rfl (za (pv 0) (za zk zb))))
  (zd (qu PassesOwn.never rfl (qg rfl B.range (za (zC (QX rfl) rfl B.max V3 (za zk (za (zC zx rfl B.len qU (za (pv 0) zb)) zb))) zb)) (zu (i:=3) sc.nd rfl (by first | exact Or.inl rfl | exact Or.inr rfl)) (zd (zz (i:=8) sc.nd rfl (by first | exact Or.inl rfl | exact Or.inr rfl) (qm D_law_box hr rfl (za (pv 0) (za (pv 3) zb))))
  (zl (qu PassesOwn.never rfl (qg rfl B.range (za zk zb)) (zu (i:=9) sc.nd rfl (by first | exact Or.inl rfl | exact Or.inr rfl)) (zl (jU (kK (j3 (qm D_law_right hr rfl (za (qm D_law_shuffled hr rfl (za (pv 8) (za zk zb))) (za (pv 6) (za (pv 7) zb)))) (fun _=>rfl))) (zl (zV kg)) qw))))))
  (zl (zV kg))))))),?_⟩
 refine ex2 (by walk_at "sim") ?_
 rintro xs M Q ⟨ns,rfl,hn,q⟩
 rw [show ja ["_law_script","_law_orders","_law_n","_law_k","_law_longer","_law_order","_law_moves","_law_swaps","_law_box_here","_law_turn"] [.d (.scr K ns)]=[some (.d (.scr K ns)),none,none,none,none,none,none,none,none,none] from rfl]
 refine zD fun r hr0=>?_
 walk_at "ra"
 refine ⟨by rw [sizeLine_eq];decide,?_⟩
 subst hr0
 refine zD fun r hr0=>?_
 walk_at "ra"
 refine ⟨by omega,by omega,?_⟩
 refine ⟨fun i ρ M'=>∃ y oss x2 x3 x4 x5 x6 x7,ρ=[some (.d (.scr K ns)),some y,x2,x3,x4,x5,x6,x7,none,none]/\Qs i oss y M'/\Fr M M',⟨_,[[]],none,none,none,none,none,none,rfl,Qs.zero _,Fr.refl⟩,?_,?_⟩
 ·rintro i x ρ M1 hy ⟨y,oss,x2,x3,x4,x5,x6,x7,rfl,ho,f1⟩
  obtain ⟨hi,rfl⟩:=jh hy
  refine ⟨trivial,?_⟩
  rw [Int.zero_add,Int.mul_one]
  have hi:i<5:=hi
  show ww _ _ _ _ _ _
  refine zD fun r2 hr2=>?_
  walk_at "ra"
  refine ⟨i,false,rfl,by omega,fun Dm lm hm nm am=>⟨i,true,rfl,by omega,fun Ds ls hs ns' as=>⟨qX,?_⟩⟩⟩
  obtain ⟨g1,g2,hy3,f3⟩:=JG f1 hm hs ho.at_
  generalize mup (mup M1 Dm (.dN (kvJ lm))) Ds (.dN (kvJ ls))=M3 at *
  have l5:oss.length<=625:=Nat.le_trans ho.len (Nat.pow_le_pow_right (by decide) (show i<=4 by omega))
  subst hr2
  refine zD fun r2 hr2=>?_
  walk_at "ra"
  refine ⟨_,hy3,?_⟩
  refine Qk (fun o=>[some (.d (.scr K ns)),some y,some (.d (.int i)),x3,x4,o,some (.ref Dm),some (.ref Ds),none,none]) _ (fun _=>.d (.bl true)) oss ⟨_,rfl⟩ hy3 (by omega) (fun o os Q hos q=>?_) fun o=>?_
  ·have q:=q (some (.d (.lst (os.map .int))))
   show wY 5 (AV.d (.lst (os.map .int))) _ _ _
   walk_at "ra"
   exact ⟨_,_,_,i,os,_,_,rfl,by rw [wU,yB],ho.ord os hos,by omega,g1,g2,nm,ns',am,as,q⟩
  refine ⟨oss.map fun _=>.bl true,vR _ _,oss.map fun _=>true,by rw [List.map_map,List.map_map];rfl,?_⟩
  rw [if_neg (by rw [List.all_map];simp)]
  subst hr2
  refine zD fun r2 hr2=>?_
  walk_at "ra"
  intro p hp _
  subst hr2
  refine zD fun r2 hr2=>?_
  walk_at "ra"
  refine ⟨_,zP hy3 hp _,?_⟩
  refine ⟨fun j ρ M'=>∃ x3 x5 L,ρ=[some (.d (.scr K ns)),some y,some (.d (.int i)),x3,some (.ref p),x5,some (.ref Dm),some (.ref Ds),none,none]/\M'=mup M3 p (.lst (oV L))/\(∀ os ∈ L,zm (i+1) os)/\L.length<=j * (i+1),⟨x3,x5,[],rfl,rfl,(fun os h=>nomatch h),Nat.zero_le _⟩,?_,?_⟩
  ·rintro j x ρ M4 hx ⟨x3,x5,L,rfl,rfl,hL,lL⟩
   rw [List.getElem?_map] at hx
   obtain ⟨os,hos,rfl⟩:=Option.map_eq_some_iff.mp hx
   have hj:=(List.getElem?_eq_some_iff.mp hos).1
   have hio:=ho.ord os (List.mem_of_getElem? hos)
   refine ⟨zP hy3 hp _,?_⟩
   walk_at "ra"
   refine ⟨⟨_,qL ze⟩,by omega,by omega,?_⟩
   rw [show ((i:Int)+1).toNat=i+1 by omega,Vk]
   refine Qk (fun o=>[some (.d (.scr K ns)),some y,some (.d (.int i)),o,some (.ref p),some (.d (.lst (os.map .int))),some (.ref Dm),some (.ref Ds),none,none]) _ (fun k:Nat=>.d (.lst ((os.take k ++ (i:Int) :: os.drop k).map .int))) (List.range (i+1)) ⟨_,rfl⟩ trivial (by rw [List.length_range];omega) (fun o k Q hk q=>?_) fun o=>?_
   ·have hk:=List.mem_range.mp hk
    have lo:=hio.1
    walk_at "ra"
    refine ⟨_,Y6 os k,by rw [sizeLine_eq];decide,by rw [List.length_map,List.length_take];omega,((os.take k).map .int ++ [.int (i:Int)]),?_,_,Q5 os k,by simp only [List.length_append,List.length_map,List.length_take,List.length_drop,List.length_singleton];omega,((os.take k ++ (i:Int) :: os.drop k).map .int),?_,q _⟩
    ·refine Eq.trans ?_ (zH ((os.take k).map .int ++ [.int (i:Int)]))
     simp only [List.map_append,List.map_cons,List.map_nil]
    ·refine Eq.trans ?_ (zH ((os.take k ++ (i:Int) :: os.drop k).map .int))
     simp only [List.map_append,List.map_cons,List.map_nil,List.append_assoc,List.cons_append,List.nil_append]
   refine ⟨(List.range (i+1)).map fun k:Nat=>.lst ((os.take k ++ (i:Int) :: os.drop k).map .int),vR _ _,_,ze,by simp only [List.length_map,List.length_range];exact Nat.le_trans (show _<=100000 from by have:=Nat.mul_le_mul (show j<=625 by omega) (show i+1<=5 by omega);omega) (Nat.le_of_lt hsl),L ++ (List.range (i+1)).map fun k:Nat=>os.take k ++ (i:Int) :: os.drop k,?_,fun o ho'=>?_,?_⟩
   ·rw [ZT]
    refine congrArg (fun z=>mup M3 p (MO.lst z)) ?_
    show _=List.map _ (L ++ _)
    rw [List.map_append,List.map_map,List.map_map];rfl
   ·rcases List.mem_append.mp ho' with z | z
    ·exact hL o z
    ·obtain ⟨k,_,rfl⟩:=List.mem_map.mp z
     exact hio.insert k
   ·rw [List.length_append,List.length_map,List.length_range,Nat.succ_mul];omega
  ·rintro ρ M4 ⟨x3,x5,L,rfl,rfl,hL,lL⟩
   refine ⟨zP hy3 hp _,?_⟩
   subst hr2
   walk_at "ra"
   refine ⟨⟨_,rfl⟩,⟨L,qI ze,hL,?_⟩,f3.mup (f3.non hp) _⟩
   rw [List.length_map] at lL
   exact Nat.le_trans lL (Nat.mul_le_mul ho.len (show i+1<=5 by omega))
 ·rintro ρ M1 ⟨y,oss,x2,x3,x4,x5,x6,x7,rfl,ho,f1⟩
  refine ⟨trivial,?_⟩
  subst hr0
  dsimp only
  refine zD fun r hr0=>?_
  walk_at "ra"
  refine ⟨5,false,rfl,by omega,fun Dm lm hm nm am=>⟨5,true,rfl,by omega,fun Ds ls hs ns' as=>⟨qX,?_⟩⟩⟩
  obtain ⟨g1,g2,hy3,f3⟩:=JG f1 hm hs ho.at_
  generalize mup (mup M1 Dm (.dN (kvJ lm))) Ds (.dN (kvJ ls))=M3 at *
  subst hr0
  refine zD fun r hr0=>?_
  walk_at "ra"
  refine ⟨3,ns,rfl,by omega,by omega,hn,fun cs lc=>?_⟩
  subst hr0
  refine zD fun r hr0=>?_
  walk_at "ra"
  have e2:(if (cs.length:Int) > 2 then (cs.length:Int) else 2)=((max 2 cs.length:Nat):Int):=by split <;> omega
  rw [e2,Int.toNat_natCast]
  refine ⟨by omega,by omega,?_⟩
  refine ⟨fun i ρ M'=>(∃ x3 x8 x9,ρ=[some (.d (.lst (cs.map .int))),some y,x2,x3,x4,x5,some (.ref Dm),some (.ref Ds),x8,x9])/\Fr M3 M',⟨⟨_,_,_,rfl⟩,Fr.refl⟩,?_,?_⟩
  ·rintro i x ρ M4 hy ⟨⟨x3,x8,x9,rfl⟩,f4⟩
   obtain ⟨hi,rfl⟩:=jh hy
   refine ⟨trivial,?_⟩
   rw [Int.zero_add,Int.mul_one]
   show ww _ _ _ _ _ _
   refine zD fun r2 hr2=>?_
   walk_at "ra"
   refine ⟨_,i,cs,rfl,XW _ _,by omega,by omega,by omega,fun b o hb bx=>?_⟩
   have sb:=SB.refl bx
   have b0:=f4.non hb
   have g3:M3 b=none:=b0
   have nm1:Dm ≠ b:=fun z=>by rw [z,b0] at g1;cases g1
   have ns1:Ds ≠ b:=fun z=>by rw [z,b0] at g2;cases g2
   have h1:mup M4 b o Dm=some (.dN (kvJ lm)):=(zo nm1).trans ((f4 Dm (by rw [g1];exact fun z=>nomatch z)).trans g1)
   have h2:mup M4 b o Ds=some (.dN (kvJ ls)):=(zo ns1).trans ((f4 Ds (by rw [g2];exact fun z=>nomatch z)).trans g2)
   have f5:=f4.mup b0 o
   generalize mup M4 b o=M5 at *
   subst hr2
   walk_at "ra"
   refine ⟨by omega,by omega,?_⟩
   refine ⟨fun j ρ M'=>∃ x9,ρ=[some (.d (.lst (cs.map .int))),some y,x2,some (.d (.int i)),x4,x5,some (.ref Dm),some (.ref Ds),some (.ref b),x9]/\SB M5 M' b (1000 * j),⟨x9,rfl,sb⟩,?_,?_⟩
   ·rintro j x ρ M6 hy ⟨x9,rfl,s6⟩
    obtain ⟨hj,rfl⟩:=jh hy
    refine ⟨trivial,?_⟩
    have hj:j<8:=hj
    walk_at "ra"
    refine ⟨b,5,_,rfl,s6.bx,by omega,by omega,fun os M7 s7 ho5=>?_⟩
    have s7:=s6.go s7
    refine ⟨_,_,_,5,os,_,_,rfl,by rw [wU,yB],ho5,by omega,(s7.fr Dm (by rw [h1];exact fun z=>nomatch z) nm1).trans h1,(s7.fr Ds (by rw [h2];exact fun z=>nomatch z) ns1).trans h2,nm,ns',am,as,?_⟩
    refine ⟨true,rfl,?_⟩
    rw [if_neg (by decide)]
    exact s7.mono (by omega)
   ·rintro ρ M6 ⟨x9,rfl,s6⟩
    exact ⟨trivial,⟨_,_,_,rfl⟩,SB.frm f5 g3 s6⟩
  ·rintro ρ M4 ⟨⟨x3,x8,x9,rfl⟩,f4⟩
   refine ⟨trivial,?_⟩
   subst hr0
   walk_at "ra"
   exact Kx (f3.trans f4) q
end
theorem all_mk {l:PySem.W.OpenLaw}{w:World}{K:PySem.W.Frag}{h:Heap}{mg:Str->Option Value}{fa:Addr}(X:K.In h)(G:h.Ns mainGlobals mg)(hfa:mg "law"=some (.ref fa))(a:At K mg "law" Xo)(B:Blt mg)(Ball:mg "all"=none)
  (a__law_take:At K mg "_law_take" wL) (a__law_box:At K mg "_law_box" XF) (a__law_folded:At K mg "_law_folded" xq) (a__law_shuffled:At K mg "_law_shuffled" jZ) (a__law_ahead:At K mg "_law_ahead" yN) (a__law_depths:At K mg "_law_depths" xm) (a__law_right:At K mg "_law_right" kC) (a_off:At K mg "off" Xj) (a_ring_from:At K mg "ring_from" jA) (a_rings:At K mg "rings" yK) (a_fewest_moves:At K mg "fewest_moves" Zd) (a_fewest_swaps:At K mg "fewest_swaps" Zi)
 :∃ fd:FuncData,(∀ (s:Shared) (v:Value),BindsTo s fd ⟨[v],[]⟩ [("_law_script",v)])/\∀ base:Heap,K.In base->base.Ns mainGlobals mg->jE l.prog w K mg base CX0 20 fa fd ["_law_script"] (ZL K):=by
 obtain ⟨f,fd,F,m⟩:=id a
 obtain rfl:fa=f:=by rw [hfa] at m;cases m;rfl
 obtain ⟨oc,od,kV,doc,pm,an,cdv,ct,osl,e,lk,hcd⟩:=F.ex
 refine ⟨fd,fun s v=>?_,fun base _ _=>?_⟩
 ·subst e;exact .of_eq rfl
 ·have T:=YG (P:=l.prog) (w:=w) (base:=base) a__law_take B
  have sh:=(wz (P:=l.prog) (w:=w) (base:=base) a__law_shuffled B T).imp' Vi
  have rg:=(K0 (P:=l.prog) (w:=w) (base:=base) a_rings B (yW a_ring_from B)).imp' Jw
  have of:=WZ (P:=l.prog) (w:=w) (base:=base) a_off B
  have fm:=YR (P:=l.prog) (w:=w) (base:=base) a_fewest_moves B (of.mono (by decide)) (rg.mono (by decide))
  have fs:=X5 (P:=l.prog) (w:=w) (base:=base) a_fewest_swaps B (of.mono (by decide)) (rg.mono (by decide))
  have dp:=QN (P:=l.prog) (w:=w) (base:=base) a__law_depths B (Js a__law_ahead B)
  have ri:=Zb (P:=l.prog) (w:=w) (base:=base) a__law_right B fm fs
  have L:=AZ (P:=l.prog) (w:=w) (base:=base) a B Ball (((Ww a__law_box B).imp' Ap).mono (by decide)) (((Q0 a__law_folded B).imp' Jf).mono (by decide)) (sh.mono (by decide)) (dp.mono (by decide)) (ri.mono (by decide))
  exact (L.imp' (sp_law (K:=K))).fn m lk
theorem walk {l:PySem.W.OpenLaw}{q:Program}{loose:List Str}{XP:(Str->Option Value)->Heap->Prop}{YP:World->Heap->Prop}{d:DefRec}{K:Params->PySem.W.Frag}(hn:l.most=some 63)(hdf:d.params.defaults=[])
  (hY:∀ (w:World) (h:Heap),YP w h->(K w.params).In h)
  (F:∀ (w:World) (mg:Str->Option Value) (fa:Addr) (h:Heap),(K w.params).In h->h.Ns mainGlobals mg->mg d.name=some (.ref fa) ->
   ∃ fd:FuncData,(∀ (s:Shared) (u:Value),BindsTo s fd ⟨[u],[]⟩ [("_law_script",u)])/\∀ base:Heap,(K w.params).In base->base.Ns mainGlobals mg->jE l.prog w (K w.params) mg base CX0 20 fa fd ["_law_script"] (ZL (K w.params))) :
  PySem.W.WalkO q loose XP YP l.row.toRowW d [] (fun f vs=>PySem.call f vs):=
 L2.walk_of (n:=63) (k:=20) (x:="_law_script") (CX:=fun _=>CX0) (sp:=fun w=>ZL (K w.params)) hn (by decide) hdf ⟨rfl,rfl,by decide,by decide⟩ hY F (fun _ _ a ns hl _ hS=>⟨a,ns,rfl,hS,hl,fun _=>rfl⟩) fun _ _ _ _ _ z=>z
end Ot
theorem PySem.W.Fast.te11161566491650312928:True:=trivial
theorem PySem.W.Fast.te7541107194758405115:True:=trivial
theorem PySem.W.Fast.te9191969814932690353:True:=trivial
namespace PySem.W.Fast
def tw18284585117728144134:=()
def tw15968745816401424647:=()
def tw10936295586242457925:=()
def tw2480967692466819268:=()
def tw7460385582799840799:=()
def tw2955699443015838306:=()
def tw2613096264942924998:=()
def tw2960287100562417908:=()
def tw7912219061100879143:=()
def tw15617042840733346165:=()
def tw2572877989715393018:=()
def tw6865260083452730104:=()
def tw4181218526306232488:=()
def tw12922588869449548129:=()
def tw12360173305652586744:=()
def tw9821877137547273008:=()
def tw4093763539851008317:=()
def tw6390791017011702020:=()
def tw17895501795998288114:=()
def tw2129627602573409294:=()
def tw17582829672754718839:=()
def tw15182154363941635427:=()
def tw283559607961131958:=()
def tw5346056026456410505:=()
def tw8709123420407110741:=()
def tw10226856659024970475:=()
def tw7362504137191590281:=()
def tw470740698172059829:=()
def tw955872238030578191:=()
def tw14191040068165168016:=()
def tw6889013326451056166:=()
def tw7158054773403655399:=()
def tw5019875492657634585:=()
def tw17551671039837740619:=()
def tw13673348444889434080:=()
def tw16252686036122844223:=()
def tw11721755774749218171:=()
def tw10646366716897132027:=()
def tw16230748840860410424:=()
def tw10700990749507050259:=()
def tw7952926869071490926:=()
def tw10264532035363764653:=()
def tw17190648147548818048:=()
def tw9346567636450809414:=()
def tw6440243025336707902:=()
def tw14414959135118272649:=()
def tw644657513975620781:=()
def tw16667372517504716638:=()
def tw17100079084047752686:=()
def tw9854344751323190532:=()
def tw9837659564748561305:=()
def tw4726788080034835704:=()
def tw6805708784130139503:=()
def tw6175650622104912056:=()
def tw395361235736024725:=()
def tw8600798778418459770:=()
def tw17239061550146353641:=()
def tw14057224131568445035:=()
def tw13958761812360950614:=()
def tw2674722629509618104:=()
def tw4963442187821754355:=()
def tw10038765767932477198:=()
def tw4483259788260572152:=()
def tw17040085879394747208:=()
def tw6955956484937340394:=()
def tw3797479368623953811:=()
def tw4676521157436860423:=()
def tw3497857947619551367:=()
def tw13827487114934156701:=()
def tw1243191730755030136:=()
def tw16771742031032177365:=()
def tw12983654983154978875:=()
def tw5893906287659587582:=()
def tw2050328854053487732:=()
def tw14972579823769924910:=()
def tw6538761615146945811:=()
def tw426030453255688387:=()
def tw14045538568670285631:=()
def tw444586124440806790:=()
def tw9577452562417141566:=()
def tw3573608670370887909:=()
def tw1327368455658566792:=()
def tw2472693744720863460:=()
def tw6462851783248641407:=()
def tw13572255438590973903:=()
def tw1373772185018655506:=()
def tw7543523718552510414:=()
def tw17688417418094728945:=()
def tw15211532891771872433:=()
def tw4104780531613946775:=()
end PySem.W.Fast
open PySem PySem.W PyProof.Rows
set_option maxRecDepth 100000 in
set_option maxHeartbeats 0 in
theorem PySem.Challenge.cw_ownturn_k17_no_plan_has_fewer_holds : PySem.Challenge.rw_ownturn_k17_no_plan_has_fewer.Holds := by
 w_on; o_law; k_head; (case hw => w_witness2)
 k_fill
 refine Ot.walk (l := PySem.Challenge.rw_ownturn_k17_no_plan_has_fewer) rfl rfl (fun w h Y => PySem.W.kIn_of Y) ?F
 case F =>
  intro w mg fa h KX G hmg
  refine' Ot.all_mk KX G hmg (L2.at_mk KX G ?a0 ?l0 ?c0 ?k0) (L2.blt_mk KX G ?z1 ?z2 ?z3 ?z4 ?z5 ?z6 ?z7 ?z8 ?z9 ?z10 ?z11 ?z12 ?z13 ?z14 ?z15 ?z16) (PySem.W.mg_none_of KX G ?zall) (L2.at_mk KX G ?a1 ?l1 ?c1 ?k1) (L2.at_mk KX G ?a2 ?l2 ?c2 ?k2) (L2.at_mk KX G ?a3 ?l3 ?c3 ?k3) (L2.at_mk KX G ?a4 ?l4 ?c4 ?k4) (L2.at_mk KX G ?a5 ?l5 ?c5 ?k5) (L2.at_mk KX G ?a6 ?l6 ?c6 ?k6) (L2.at_mk KX G ?a7 ?l7 ?c7 ?k7) (L2.at_mk KX G ?a8 ?l8 ?c8 ?k8) (L2.at_mk KX G ?a9 ?l9 ?c9 ?k9) (L2.at_mk KX G ?a10 ?l10 ?c10 ?k10) (L2.at_mk KX G ?a11 ?l11 ?c11 ?k11) (L2.at_mk KX G ?a12 ?l12 ?c12 ?k12)
  (case a0 | l0 | c0 | k0 | a1 | l1 | c1 | k1 | a2 | l2 | c2 | k2 | a3 | l3 | c3 | k3 | a4 | l4 | c4 | k4 | a5 | l5 | c5 | k5 | a6 | l6 | c6 | k6 | a7 | l7 | c7 | k7 | a8 | l8 | c8 | k8 | a9 | l9 | c9 | k9 | a10 | l10 | c10 | k10 | a11 | l11 | c11 | k11 | a12 | l12 | c12 | k12 | zall | z1 | z2 | z3 | z4 | z5 | z6 | z7 | z8 | z9 | z10 | z11 | z12 | z13 | z14 | z15 | z16 => k_is)
