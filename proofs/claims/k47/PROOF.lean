import PyProof.Rows.All
import Wide.All
import OpenK.AllK
import Wide.FinOn
import Lean
import PyProof.EqAt
import PyProof.EqKinds
import PyProof.TupleCall
import Lean
import KE.KLam
import KE.KSortKey
import PyProof.ExcInit
import PyProof.ExcClass3
import PyProof.InstStoreFacts
import KE.KIsAll
import KE.KTryMore
import PyProof.ExcBaseAll.ValueError
import PyProof.ExcArgsOwn
import KE.RegKIsAll
import KE.RegKTryMore
import PyProof.RulesAs
import PySem.Challenge.RW_ownturn_k47_plans_of_kinds
local macro_rules | `(tactic| walk_at "o") => `(tactic| first | lia | omega)
set_option compiler.extract_closed false
set_option Elab.async false
set_option linter.all false
set_option maxRecDepth 100000
namespace L2
open PySem PySem.Spec PyProof.Rows
noncomputable abbrev Key:=Sum Int Str
noncomputable def Di:Key->Value->Bool
 | .inl k,v=>Value.isInt k v
 | .inr x,v=>Value.isStrOf x v
noncomputable def GY (w:World):Key->Int
 | .inl k=>hashInt k
 | .inr x=>hashStr w x
theorem qh:∀ {k:Key} {v:Value},Di k v=true->(∃ i t,k=Sum.inl i/\v=Value.int i t) \/ (∃ x t,k=Sum.inr x/\v=Value.str x t)
 | .inl i,v,h=>by
  obtain ⟨t,e⟩:=Value.isInt_shape (k:=i) (v:=v) h
  exact .inl ⟨i,t,rfl,e⟩
 | .inr x,v,h=>by
  obtain ⟨t,e⟩:=Value.isStrOf_shape (x:=x) (v:=v) h
  exact .inr ⟨x,t,rfl,e⟩
theorem D1 (a b:Int):decide ((Sum.inl a:Key)=Sum.inl b)=(a == b):=by
 by_cases e:a=b
 ·subst e;simp
 ·have h:¬ (Sum.inl a:Key)=Sum.inl b:=fun q=>e (Sum.inl.inj q)
  rw [decide_eq_false h]
  exact (beq_eq_false_iff_ne.mpr e).symm
theorem DU (a b:Str):decide ((Sum.inr a:Key)=Sum.inr b)=decide (a=b):=by
 by_cases e:a=b
 ·subst e;simp
 ·have h:¬ (Sum.inr a:Key)=Sum.inr b:=fun q=>e (Sum.inr.inj q)
  rw [decide_eq_false h,decide_eq_false e]
theorem E5 (a:Int)(b:Str):decide ((Sum.inl a:Key)=Sum.inr b)=false:=decide_eq_false (fun q=>nomatch q)
theorem Ey (a:Str)(b:Int):decide ((Sum.inr a:Key)=Sum.inl b)=false:=decide_eq_false (fun q=>nomatch q)
noncomputable def vp (prog:Program)(w:World):PySem.KeyKind prog w Key where
 is:=Di
 hash:=GY w
 inj:=fun v a b ha hb=>by
  rcases qh ha with ⟨i,t,rfl,rfl⟩ | ⟨x,t,rfl,rfl⟩
  ·rcases qh hb with ⟨j,u,rfl,e⟩ | ⟨y,u,rfl,e⟩
   ·injection e with e1 _;rw [e1]
   ·exact nomatch e
  ·rcases qh hb with ⟨j,u,rfl,e⟩ | ⟨y,u,rfl,e⟩
   ·exact nomatch e
   ·injection e with e1 _;rw [e1]
 byValue:=fun k v h=>by
  rcases qh h with ⟨i,t,rfl,rfl⟩ | ⟨x,t,rfl,rfl⟩ <;> rfl
 pyHash:=fun hv h=>by
  rcases qh hv with ⟨i,t,rfl,rfl⟩ | ⟨x,t,rfl,rfl⟩
  ·exact wpAny_pyHash_int h
  ·exact wpAny_pyHash_str h
 eqBool:=fun hu hv h=>by
  rcases qh hu with ⟨i,t,rfl,rfl⟩ | ⟨x,t,rfl,rfl⟩
  ·rcases qh hv with ⟨j,u,rfl,rfl⟩ | ⟨y,u,rfl,rfl⟩
   ·rw [D1] at h;exact wpAny_eqBool_int h
   ·rw [E5] at h;exact SeqAt.EqAt.int_str i t y u _ _ _ _ h
  ·rcases qh hv with ⟨j,u,rfl,rfl⟩ | ⟨y,u,rfl,rfl⟩
   ·rw [Ey] at h;exact SeqAt.EqAt.str_int x t j u _ _ _ _ h
   ·rw [DU] at h;exact wpAny_eqBool_str h
 «strs»:=fun k x t v h=>by
  rcases qh h with ⟨i,u,rfl,e⟩ | ⟨y,u,rfl,e⟩
  ·exact nomatch e
  ·injection e with e1 _
   subst e1
   cases v <;> rfl
inductive V where
 | non | bl (b:Bool) | int (i:Int) | str (x:Str) | byt (b:Array UInt8) | flt (b:UInt64) | ref (a:Addr) | ty (n:String)
 deriving DecidableEq
noncomputable def zF:V->Value->Prop
 | .non,u=>u=Value.none
 | .bl b,u=>u=Value.bool b
 | .int i,u=>∃ t,u=Value.int i t
 | .str x,u=>∃ t,u=Value.str x t
 | .byt b,u=>∃ t,u=Value.bytes b t
 | .flt b,u=>∃ t,u=Value.float b t
 | .ref a,u=>u=Value.ref a
 | .ty n,u=>u=Value.type n
noncomputable abbrev zu:List V->List Value->Prop:=Paired zF
theorem zu.length {xs:List V}{us:List Value}(r:zu xs us):xs.length=us.length:=Paired.length r
theorem zu.get:∀ {xs:List V} {us:List Value} {i:Nat} {x:V},zu xs us->xs[i]?=some x->∃ u,us[i]?=some u/\zF x u
 | _,_,_,_,.nil,e=>by simp at e
 | _,_,0,_,.cons r _,e=>by simp at e;subst e;exact ⟨_,rfl,r⟩
 | _,_,i+1,x,.cons _ t,e=>by
  obtain ⟨u,h1,h2⟩:=zu.get (i:=i) (x:=x) t (by simpa using e)
  exact ⟨u,by simpa using h1,h2⟩
theorem zu.set {x:V}{u:Value}(r:zF x u):∀ {xs:List V} {us:List Value} (i:Nat),zu xs us->zu (xs.set i x) (us.set i u)
 | _,_,_,.nil=>.nil
 | _,_,0,.cons _ t=>.cons r t
 | _,_,i+1,.cons q t=>.cons q (zu.set r i t)
theorem zu.append:∀ {xs ys:List V} {us ws:List Value},zu xs us->zu ys ws->zu (xs ++ ys) (us ++ ws)
 | _,_,_,_,.nil,s=>s
 | _,_,_,_,.cons r t,s=>.cons r (zu.append t s)
theorem zu.take:∀ {xs:List V} {us:List Value} (n:Nat),zu xs us->zu (xs.take n) (us.take n)
 | _,_,0,_=>.nil
 | _,_,_+1,.nil=>.nil
 | _,_,n+1,.cons r t=>.cons r (zu.take n t)
theorem zu.drop:∀ {xs:List V} {us:List Value} (n:Nat),zu xs us->zu (xs.drop n) (us.drop n)
 | _,_,0,r=>r
 | _,_,_+1,.nil=>.nil
 | _,_,n+1,.cons _ t=>zu.drop n t
noncomputable def Fn:Option V->Option Value->Prop
 | some v,some u=>zF v u
 | none,none=>True
 | _,_=>False
noncomputable def KV {κ:Type}:List (κ × V)->List (κ × Value)->Prop:=Paired fun (p:κ × V) (q:κ × Value)=>p.1=q.1/\zF p.2 q.2
noncomputable def kV:Key->V
 | .inl i=>.int i
 | .inr x=>.str x
inductive HO where
  | lst (xs:List V)
  | tup (xs:List V)
  | dK (kvs:List (Key × V)) | dT (kvs:List (List Key × V))
  | set (S:Int->Bool) (n:Nat)
  | ins (C dx:Addr) (fs:List (Str × V))
  | own (x:Addr)
  | xd (fs:List (Str × V))
  | met (f x:Addr)
  | rng (lo hi:Int)
  | frz (o:Obj) (u:HO)
  | tbl (ps:Array Value)
  | ext (φ:Heap->Prop)
noncomputable abbrev Hp:=Addr->Option HO
noncomputable def upd (H:Hp)(a:Addr)(o:HO):Hp:=fun b=>if b=a then some o else H b
theorem zl {H:Hp}{a:Addr}{o:HO}:upd H a o a=some o:=by unfold upd;rw [if_pos rfl]
theorem zk {H:Hp}{a b:Addr}{o:HO}(h:b ≠ a):upd H a o b=H b:=by unfold upd;rw [if_neg h]
theorem Xc {H:Hp}{a b:Addr}{o u:HO}(h:H a=some o)(h':H b=some u)(d:o ≠ u):a ≠ b:=by
 intro e;subst e;rw [h] at h';exact d (Option.some.inj h')
theorem zi {H:Hp}{a b:Addr}{o:HO}(h:H a=some o)(h':H b=none):a ≠ b:=by
 intro e;subst e;rw [h] at h';cases h'
noncomputable def wq (h:Heap)(a:Addr)(items:Array Value):Prop:=∃ o,h.get? a=some o/\o.cls=.type "tuple"/\(∃ n,o.data=.seq items n)/\o.dict=none
theorem wq.is {h:Heap}{a:Addr}{items:Array Value}(x:wq h a items):IsTup h a items:=let ⟨o,e,c,n,_⟩:=x;⟨o,e,c,n⟩
theorem wq.lt {h:Heap}{a:Addr}{items:Array Value}(x:wq h a items):a<h.objs.size:=x.is.lt
theorem wq.new (h:Heap)(items:Array Value):wq (h.push { cls:=.type "tuple",data:=.seq items }) h.objs.size items:=⟨_,Heap.get?_push_size _ rfl,rfl,⟨_,rfl⟩,rfl⟩
section
variable (P:Program)(w:World)
noncomputable def qa (H:Hp)(h:Heap)(a:Addr):HO->Prop
  | .lst xs=>xs.length<=sizeLine/\∃ (its:List Value) (n:Nat),zu xs its/\h.get? a=some { cls:=.type "list",data:=.seq its.toArray n }
  | .tup xs=>xs.length<=sizeLine/\∃ its:List Value,zu xs its/\wq h a its.toArray
  | .dK kvs=>kvs.length<=sizeLine/\(a == sysModules)=false/\∃ vs,KV kvs vs/\h.DictOf (vp P w) a vs
  | .dT kvs => kvs.length <= sizeLine /\ (a == sysModules) = false /\ ∃ xs : List (List Key × Addr × Value),
      Paired (fun (p:List Key × V) (q:List Key × Addr × Value)=>p.1=q.1/\H q.2.1=some (.tup (p.1.map kV))/\zF p.2 q.2.2) kvs xs /\
      ∃ o es ep,h.get? a=some o/\o.ExactDict/\o.data=.dict es ep/\es.toList=xs.map (entryOfKey (tupleKind (vp P w)))/\(xs.map (·.1)).Nodup
  | .set S n=>h.SetOf (intKind P w) a S n
  | .ins C dx fs => H dx = some (.own a) /\ fs.length <= 1000 /\ dx ≠ a /\ h.get? a = some (PySem.W.instObj C dx) /\
      ∃ mA,h.Ns1 dx mA/\(∀ f,Fn (fs.lookup f) (mA f))/\PySem.Within mA (fs.map (·.1))
  | .own _=>∃ o,h.get? a=some o
  | .xd fs=>∃ mA,h.Ns1 a mA/\∀ f,Fn (fs.lookup f) (mA f)
  | .rng lo hi=>∃ t u v,h.get? a=some { cls:=.type "range",data:=.fields #[.int lo t,.int hi u,.int 1 v] }
  | .frz o u=>h.get? a=some o/\qa H h a u
  | .tbl ps=>h.get? a=some { cls:=.none,data:=.fields ps }
  | .met f x=>h.get? a=some (PySem.W.methodObj (.ref f) (.ref x))
  | .ext φ=>φ h/\(∃ o,h.get? a=some o)/\∀ h1 h2:Heap,φ h1->(∀ o,h1.get? a=some o->h2.get? a=some o)->φ h2
noncomputable def HOk (H:Hp)(h:Heap):Prop:=∀ a o,H a=some o->qa P w H h a o
end
section
variable {P:Program}{w:World}{H H':Hp}{h h':Heap}{a:Addr}{o:HO}
theorem qa.lt (x:qa P w H h a o):a<h.objs.size:=by
 cases o with
 | lst xs=>obtain ⟨_,_,_,_,e⟩:=x;exact Heap.lt_size e
 | tup xs=>obtain ⟨_,_,_,p⟩:=x;exact p.lt
 | dK kvs=>obtain ⟨_,_,_,_,o,_,_,e,_⟩:=x;exact Heap.lt_size e
 | dT kvs=>obtain ⟨_,_,_,_,o,_,_,e,_⟩:=x;exact Heap.lt_size e
 | set S n=>obtain ⟨o,_,_,_,e,_⟩:=x;exact Heap.lt_size e
 | ins C dx fs=>obtain ⟨_,_,_,e,_⟩:=x;exact Heap.lt_size e
 | own y=>obtain ⟨_,e⟩:=x;exact Heap.lt_size e
 | xd fs=>obtain ⟨_,⟨_,_,_,e,_⟩,_⟩:=x;exact Heap.lt_size e
 | rng lo hi=>obtain ⟨_,_,_,e⟩:=x;exact Heap.lt_size e
 | frz ob u=>obtain ⟨e,_⟩:=x;exact Heap.lt_size e
 | tbl ps=>exact Heap.lt_size (show h.get? a=some _ from x)
 | met f y=>exact Heap.lt_size (show h.get? a=some _ from x)
 | ext φ=>obtain ⟨_,⟨_,e⟩,_⟩:=x;exact Heap.lt_size e
theorem Paired.mapP {α β:Type}{F G:α->β->Prop}:∀ {l₁:List α} {l₂:List β},Paired F l₁ l₂->(∀ a b,F a b->G a b)->Paired G l₁ l₂
 | _,_,.nil,_=>.nil
 | _,_,.cons r t,f=>.cons (f _ _ r) (Paired.mapP t f)
theorem qa.stay (x:qa P w H h a o)(k:∀ b u,(b=a \/ H b=some (.own a))->h.get? b=some u->h'.get? b=some u)
  (ho:∀ b,H b=some (.own a)->H' b=some (.own a)) (ht:∀ b xs,H b=some (.tup xs)->H' b=some (.tup xs)):qa P w H' h' a o:=by
 induction o with
 | lst xs=>obtain ⟨z,its,n,r,e⟩:=x;exact ⟨z,its,n,r,k _ _ (.inl rfl) e⟩
 | tup xs=>obtain ⟨z,its,r,ob,e,c⟩:=x;exact ⟨z,its,r,ob,k _ _ (.inl rfl) e,c⟩
 | dK kvs=>obtain ⟨z,y,vs,r,ob,es,ep,e,c⟩:=x;exact ⟨z,y,vs,r,ob,es,ep,k _ _ (.inl rfl) e,c⟩
 | dT kvs=>
  obtain ⟨z,y,xs,r,ob,es,ep,e,c⟩:=x
  exact ⟨z,y,xs,Paired.mapP r fun p q z=>⟨z.1,ht _ _ z.2.1,z.2.2⟩,ob,es,ep,k _ _ (.inl rfl) e,c⟩
 | set S n=>obtain ⟨ob,es,ep,t,e,c⟩:=x;exact ⟨ob,es,ep,t,k _ _ (.inl rfl) e,c⟩
 | ins C dx fs=>
  obtain ⟨d,z,ne,e,mA,⟨od,es,ep,e2,c⟩,r⟩:=x
  exact ⟨ho _ d,z,ne,k _ _ (.inl rfl) e,mA,⟨od,es,ep,k _ _ (.inr d) e2,c⟩,r⟩
 | own y=>obtain ⟨ob,e⟩:=x;exact ⟨ob,k _ _ (.inl rfl) e⟩
 | xd fs=>obtain ⟨mA,⟨od,es,ep,e,c⟩,r⟩:=x;exact ⟨mA,⟨od,es,ep,k _ _ (.inl rfl) e,c⟩,r⟩
 | rng lo hi=>obtain ⟨t,u,v,e⟩:=x;exact ⟨t,u,v,k _ _ (.inl rfl) e⟩
 | frz ob u ih=>obtain ⟨e,q⟩:=x;exact ⟨k _ _ (.inl rfl) e,ih q⟩
 | tbl ps=>
  have e:h.get? a=some { cls:=.none,data:=.fields ps }:=x
  show h'.get? a=some { cls:=.none,data:=.fields ps }
  exact k a _ (.inl rfl) e
 | met f y=>
  have e:h.get? a=some (PySem.W.methodObj (.ref f) (.ref y)):=x
  show h'.get? a=some (PySem.W.methodObj (.ref f) (.ref y))
  exact k a _ (.inl rfl) e
 | ext φ=>obtain ⟨p,⟨o,e⟩,st⟩:=x;exact ⟨st _ _ p fun o q=>k _ _ (.inl rfl) q,⟨o,k _ _ (.inl rfl) e⟩,st⟩
theorem HOk.lt (x:HOk P w H h)(e:H a=some o):a<h.objs.size:=(x a o e).lt
theorem HOk.fresh (x:HOk P w H h)(e:h.objs.size<=a):H a=none:=by
 cases q:H a with
 | none=>rfl
 | some u=>exact absurd (Nat.lt_of_lt_of_le (x.lt q) e) (Nat.lt_irrefl _)
theorem HOk.kept (x:HOk P w H h)(k:∀ b u,h.get? b=some u->h'.get? b=some u):HOk P w H h':=fun a o e=>
 (x a o e).stay (fun b u _ q=>k b u q) (fun _ q=>q) fun _ _ q=>q
theorem HOk.laid (x:HOk P w H h)(k:∀ b u,h.get? b=some u->h'.get? b=some u)(hp:h.objs.size<=a)(new:qa P w (upd H a o) h' a o):HOk P w (upd H a o) h':=fun b u e=>by
 have hn:=x.fresh hp
 by_cases hb:b=a
 ·subst hb;rw [zl] at e;cases e;exact new
 ·rw [zk hb] at e
  exact (x b u e).stay (fun c v _ q=>k c v q) (fun c q=>by rw [zk (zi q hn)];exact q) fun c xs q=>by rw [zk (zi q hn)];exact q
end
noncomputable def Rd (H:Hp)(a:Addr)(u:HO):Prop:=H a=some u \/ ∃ o,H a=some (.frz o u)
theorem Rd.ok {P:Program}{w:World}{H:Hp}{h:Heap}{a:Addr}{u:HO}(r:Rd H a u)(x:HOk P w H h):qa P w H h a u:=by
 rcases r with r | ⟨o,r⟩
 ·exact x a u r
 ·obtain ⟨_,q⟩:=x a _ r
  exact q
noncomputable def Mut:Option HO->Prop
 | some (.lst _)=>True
 | some (.dK _)=>True
 | some (.dT _)=>True
 | some (.set _ _)=>True
 | some (.ins _ _ _)=>True
 | some (.ext _)=>True
 | _=>False
section
variable {P:Program}{w:World}{H:Hp}{h h':Heap}{x e:Addr}{o':HO}
theorem HOk.write (ok : HOk P w H h)(mu : Mut (H x))(he : e = x \/ H e = some (.own x))(k : ∀ b u, b ≠ e -> h.get? b = some u -> h'.get? b = some u)(heo : ∃ u, h'.get? e = some u)
    (new:qa P w (upd H x o') h' x o'):HOk P w (upd H x o') h':=fun b u q=>by
  have nown:∀ c y,H c=some (.own y)->c ≠ x:=fun c y r z=>by subst z;rw [r] at mu;exact mu
  have ntup:∀ c xs,H c=some (.tup xs)->c ≠ x:=fun c xs r z=>by subst z;rw [r] at mu;exact mu
  by_cases hb:b=x
  · subst hb;rw [zl] at q;cases q;exact new
  · rw [zk hb] at q
    by_cases hbe:b=e
    · have q' : H b = some (.own x) := by
        rcases he with z | z
        · exact absurd (hbe.trans z) hb
        · rw [hbe];exact z
      rw [q] at q';cases q'
      obtain ⟨v,hv⟩:=heo
      exact ⟨v,by rw [hbe];exact hv⟩
    · refine (ok b u q).stay (fun c v hc r=>k c v ?_ r) (fun c r=>by rw [zk (nown c b r)];exact r) fun c xs r=>by rw [zk (ntup c xs r)];exact r
      rcases hc with rfl | hc
      · exact hbe
      · rintro rfl
        rcases he with z | z
        · exact nown c b hc z
        · rw [hc] at z;cases z;exact hb rfl
end
structure Un (fs ex:List Addr)(H H':Hp)(h h':Heap):Prop where
 keep:∀ b o,h.get? b=some o->H b=none->b ∉ fs->b ∉ ex->h'.get? b=some o
 slot:∀ b o,h.get? b=some o->H b=none->b ∈ fs->b ∉ ex->∃ sl,h'.get? b=some { o with slots:=sl }
 free:∀ b o,h.get? b=some o->H b=none->b ∉ ex->H' b=none
 there:∀ b o,h.get? b=some o->b ∉ ex->∃ o',h'.get? b=some o'
 tups:∀ b xs,H b=some (.tup xs)->H' b=some (.tup xs)
 frzs:∀ b o u,H b=some (.frz o u)->H' b=some (.frz o u)
 tbls:∀ b ps,H b=some (.tbl ps)->∃ more,H' b=some (.tbl (ps ++ more))
section
variable {fs fs' ex ex':List Addr}{H H1 H2:Hp}{h h1 h2 h':Heap}{a x e:Addr}{o:HO}
theorem Un.any (u:Un fs ex H H1 h h1){b:Addr}{ob:Obj}(q:h.get? b=some ob)(n:H b=none)(hx:b ∉ ex):∃ sl,h1.get? b=some { ob with slots:=sl }:=by
 by_cases hb:b ∈ fs
 ·exact u.slot b ob q n hb hx
 ·exact ⟨ob.slots,u.keep b ob q n hb hx⟩
theorem Un.kept (k:∀ b u,h.get? b=some u->h'.get? b=some u):Un fs ex H H h h':=
 ⟨fun b ob q _ _ _=>k b ob q,fun b ob q _ _ _=>⟨ob.slots,k b ob q⟩,fun _ _ _ n _=>n,fun b ob q _=>⟨ob,k b ob q⟩,fun _ _ q=>q,fun _ _ _ q=>q,fun _ ps q=>⟨#[],by rw [q];simp⟩⟩
theorem Un.refl:Un fs ex H H h h:=Un.kept fun _ _ q=>q
theorem Un.laid (k:∀ b u,h.get? b=some u->h'.get? b=some u)(hp:h.objs.size<=a)(hn:H a=none):Un fs ex H (upd H a o) h h' where
 keep:=fun b u q _ _ _=>k b u q
 slot:=fun b u q _ _ _=>⟨u.slots,k b u q⟩
 free:=fun b u q n _=>by rw [zk (Nat.ne_of_lt (Nat.lt_of_lt_of_le (Heap.lt_size q) hp))];exact n
 there:=fun b u q _=>⟨u,k b u q⟩
 tups:=fun b xs q=>by rw [zk (zi q hn)];exact q
 frzs:=fun b u xs q=>by rw [zk (zi q hn)];exact q
 tbls:=fun b ps q=>⟨#[],by rw [zk (zi q hn),q];simp⟩
theorem Un.write (mu:Mut (H x))(he:e=x \/ H e=some (.own x))(k:∀ b u,b ≠ e->h.get? b=some u->h'.get? b=some u)(heo:∃ u,h'.get? e=some u):Un fs ex H (upd H x o) h h':=by
 have hx:∀ b,H b=none->b ≠ x:=fun b n z=>by subst z;rw [n] at mu;exact mu
 have hb:∀ b,H b=none->b ≠ e:=fun b n z=>by
  subst z
  rcases he with r | r
  ·exact hx b n r
  ·rw [n] at r;cases r
 have hm:∀ b u,H b=some u->¬ Mut (some u)->b ≠ x:=fun b u q nm z=>by subst z;rw [q] at mu;exact nm mu
 refine ⟨fun b u q n _ _=>k b u (hb b n) q,fun b u q n _ _=>⟨u.slots,k b u (hb b n) q⟩,fun b u q n _=>by rw [zk (hx b n)];exact n,fun b u q _=>?_,
  fun b xs q=>by rw [zk (hm b _ q fun z=>z)];exact q,fun b u xs q=>by rw [zk (hm b _ q fun z=>z)];exact q,fun b ps q=>⟨#[],by rw [zk (hm b _ q fun z=>z),q];simp⟩⟩
 by_cases hbe:b=e
 ·subst hbe;exact heo
 ·exact ⟨u,k b u hbe q⟩
end
noncomputable def trk (h:Heap)(H:Hp):List Addr:=(List.range h.objs.size).filter fun a=>(H a).isSome
noncomputable def xW (h:Heap)(H:Hp):Heap:=PySem.W.hideAll h (trk h H)
theorem wH (h:Heap)(H:Hp):(xW h H).objs.size=h.objs.size:=PySem.W.hideAll_size _ _
theorem QX {h:Heap}{H:Hp}{b:Addr}{o:Obj}(e:h.get? b=some o)(n:H b=none):(xW h H).get? b=some o:=
 PySem.W.hideAll_get _ e fun hm=>by
  have q:(H b).isSome=true:=(List.mem_filter.mp hm).2
  rw [n] at q;simp at q
theorem K2 {h:Heap}{H:Hp}{b:Addr}{o:Obj}(e:(xW h H).get? b=some o):h.get? b=some o/\H b=none:=by
 have e':h.get? b=some o:=PySem.W.of_hideAll (trk h H) e
 refine ⟨e',?_⟩
 cases q:H b with
 | none=>rfl
 | some x=>
  have hm:b ∈ trk h H:=List.mem_filter.mpr ⟨List.mem_range.mpr (Heap.lt_size e'),by simp [q]⟩
  have z:(xW h H).get? b=none:=PySem.W.hideAll_none (trk h H) hm
  rw [z] at e;cases e
noncomputable def BR (g h:Heap)(L:Addr):List (Addr × Obj):=(List.range h.objs.size).filterMap fun a=>if a=L \/ (g.get? a).isSome=true then none else (h.get? a).map fun o=>(a,o)
noncomputable def zx (g h:Heap)(L d:Addr):List (Addr × Obj):=(BR g h L).filter fun p=>decide (p.1 ≠ d)
structure Mod (K:PySem.W.Frag)(mg:Str->Option Value)(base:Heap):Prop where
 kin:K.In base
 glob:base.Ns mainGlobals mg
 blt:∃ mb,base.Ns builtinsNs mb/\∀ x:Str,x ≠ "__name__"->mb x=bootBuiltins x
 nolimit:base.NoLimit
structure Cx where
 prog:Program
 w:World
 K:PySem.W.Frag
 mg:Str->Option Value
 base:Heap
 A:Around
 N:List Str
 s₀:Shared
 H₀:Hp
 env:Env
 outer:List Env
 stack:List Env
 ex:List Addr
 fn:Str->Bool
 calm:Bool
 pn:List (Addr × Obj)
 xe:Value->Shared->Prop
noncomputable def frs (l:List Env):List Addr:=l.filterMap (·.frame)
noncomputable abbrev Cx.fs (X:Cx):List Addr:=frs X.outer
noncomputable def Vis (sc:Scope)(x:Str):Prop:=sc.names.lookup x=some .local \/ sc.names.lookup x=some .cell \/ sc.names.lookup x=some .free
noncomputable def Loc (sc:Scope)(x:Str):Prop:=sc.names.lookup x=some .local \/ sc.names.lookup x=some .cell
noncomputable def GQ (env:Env)(h:Heap)(m:Str->Option Value)(x:Str)(u:Value):Prop:=
 (env.kindOf x=some .local/\m x=some u) \/ ((env.kindOf x=some .cell \/ env.kindOf x=some .free)/\∃ c,env.cells.lookup x=some c/\h.IsCell c (some u))
structure Cx.Ok (X:Cx):Prop where
 mod:Mod X.K X.mg X.base
 kind:X.env.scope.kind=.function
 glob:X.env.globals=mainGlobals
 blt:X.env.builtins=builtinsNs
 above:X.s₀.heap.objs.size<=X.env.locals
 inj:∀ x y c,X.env.cells.lookup x=some c->X.env.cells.lookup y=some c->x=y
 has:∀ x,(X.env.kindOf x=some .cell \/ X.env.kindOf x=some .free)->∃ c,X.env.cells.lookup x=some c
 cab:∀ x c,X.fn x=true->X.env.cells.lookup x=some c->X.s₀.heap.objs.size<=c
 hd:X.calm=true->X.A.handled=none
 frames:X.A.frames=some X.stack
 stk:X.stack=X.outer \/ (X.stack=X.env :: X.outer/\X.env.frame=some X.env.locals)
 exf:∀ b ∈ X.ex,b ≠ X.env.locals/\∀ x c,X.env.cells.lookup x=some c->c ≠ b
 bs:∀ b o,X.base.get? b=some o->X.s₀.heap.get? b=some o/\X.H₀ b=none
 bsz:X.base.objs.size<=X.s₀.heap.objs.size
 noex:∀ b o,X.base.get? b=some o->b ∉ X.ex
 exfs:∀ b ∈ X.ex,b ∉ X.fs
 funs:X.s₀.heap.FunFrames X.base X.outer
 frf:∀ b ∈ X.fs,X.H₀ b=none
structure Inv (X:Cx)(pins:List (Addr × Obj))(σ:List (Option V))(H:Hp)(s:Shared):Prop where
 ok:X.Ok
 os:s.os=X.s₀.os
 bare:AllBare s.gens
 base:Un X.fs X.ex X.H₀ H X.s₀.heap s.heap
 loc:∃ m,s.heap.Ns X.env.locals m/\∀ (i:Nat) (x:Str) (v:V),X.N[i]?=some x->σ[i]?=some (some v)->Vis X.env.scope x->∃ u,zF v u/\GQ X.env s.heap m x u
 cell:∀ x c,X.env.cells.lookup x=some c->∃ v,s.heap.IsCell c v
 free:H X.env.locals=none
 freeC:∀ x c,X.env.cells.lookup x=some c->H c=none
 pin:∀ p ∈ X.pn ++ pins,s.heap.get? p.1=some p.2/\H p.1=none/\p.1 ≠ X.env.locals/\p.1 ∉ X.fs/\∀ v,p.2.data ≠ .cell v
 hok:HOk X.prog X.w H s.heap
 len:σ.length=X.N.length
section
variable {X:Cx}{pins:List (Addr × Obj)}{σ:List (Option V)}{H H':Hp}{s:Shared}{h':Heap}
theorem Cx.Ok.nofr (ok:X.Ok){b:Addr}{o:Obj}(e:X.base.get? b=some o):b ∉ X.fs:=fun hb=>by
 have:=(ok.funs.mem hb).1
 rw [e] at this;cases this
theorem Inv.bs (I:Inv X pins σ H s):∀ b o,X.base.get? b=some o->s.heap.get? b=some o/\H b=none:=fun b o e=>
 ⟨I.base.keep b o (I.ok.bs b o e).1 (I.ok.bs b o e).2 (I.ok.nofr e) (I.ok.noex b o e),I.base.free b o (I.ok.bs b o e).1 (I.ok.bs b o e).2 (I.ok.noex b o e)⟩
theorem Inv.bk (I:Inv X pins σ H s):∀ b o,X.base.get? b=some o->s.heap.get? b=some o:=fun b o e=>(I.bs b o e).1
theorem Inv.mod (I:Inv X pins σ H s):Mod X.K X.mg X.base:=I.ok.mod
theorem Inv.kIn (I:Inv X pins σ H s):X.K.In s.heap:=I.ok.mod.kin.keeps I.bk
theorem Inv.nolimit (I:Inv X pins σ H s):s.heap.NoLimit:=I.ok.mod.nolimit.keeps I.bk
theorem Inv.lt (I:Inv X pins σ H s):X.env.locals<s.heap.objs.size:=let ⟨_,hn,_⟩:=I.loc;hn.lt
theorem Inv.sz (I:Inv X pins σ H s):X.s₀.heap.objs.size<=s.heap.objs.size:=Nat.le_trans I.ok.above (Nat.le_of_lt I.lt)
theorem Inv.nofs (I:Inv X pins σ H s){a:Addr}(h:s.heap.objs.size<=a):a ∉ X.fs:=fun hb=>by
 obtain ⟨_,o,ho,_⟩:=I.ok.funs.mem hb
 exact absurd (Nat.lt_of_lt_of_le (Heap.lt_size ho) (Nat.le_trans I.sz h)) (Nat.lt_irrefl _)
theorem Inv.cne (I:Inv X pins σ H s):∀ x c,X.env.cells.lookup x=some c->c ≠ X.env.locals:=fun x c e z=>by
 obtain ⟨v,o,ho,hd⟩:=I.cell x c e
 obtain ⟨m,⟨o',es,ep,ho',hd',_⟩,_⟩:=I.loc
 rw [z,ho'] at ho;cases ho;rw [hd'] at hd;cases hd
theorem Inv.funs (I:Inv X pins σ H s):s.heap.FunFrames X.base X.outer:=by
 have all:∀ (l:List Env),(∀ b ∈ frs l,b ∈ X.fs)->X.s₀.heap.FunFrames X.base l->s.heap.FunFrames X.base l:=by
  intro l
  induction l with
  | nil=>intro _ _;trivial
  | cons env r ih=>
   intro hs hl
   obtain ⟨hk,⟨L,o,hf,hn,ho,hd⟩,hr⟩:=hl
   have hL:L ∈ X.fs:=hs L (by unfold frs;rw [List.filterMap_cons,hf];exact List.mem_cons_self)
   obtain ⟨sl,e⟩:=I.base.slot L o ho (I.ok.frf L hL) hL fun z=>I.ok.exfs L z hL
   exact ⟨hk,⟨L,_,hf,hn,e,hd⟩,ih (fun b hb=>hs b (by unfold frs;rw [List.filterMap_cons,hf];exact List.mem_cons_of_mem _ hb)) hr⟩
 exact all X.outer (fun _ hb=>hb) I.ok.funs
theorem Inv.stack (I:Inv X pins σ H s):s.heap.FunFrames X.base X.stack:=by
 rcases I.ok.stk with e | ⟨e,hf⟩
 ·rw [e];exact I.funs
 ·rw [e]
  obtain ⟨m,hn,_⟩:=I.loc
  refine .cons (by rw [I.ok.kind];decide) hf hn ?_ I.funs
  exact Heap.get?_none_of_le (Nat.le_trans I.ok.bsz I.ok.above)
theorem Inv.stkSub (I:Inv X pins σ H s):∀ b ∈ frs X.stack,b ∈ X.env.locals :: X.fs:=fun b hb=>by
 rcases I.ok.stk with e | ⟨e,hf⟩
 ·rw [e] at hb;exact List.mem_cons_of_mem _ hb
 ·rw [e] at hb
  unfold frs at hb
  rw [List.filterMap_cons,hf] at hb
  exact hb
theorem Inv.stkFree (I:Inv X pins σ H s):∀ b ∈ frs X.stack,H b=none:=fun b hb=>by
 rcases List.mem_cons.mp (I.stkSub b hb) with e | hb
 ·rw [e];exact I.free
 ·obtain ⟨_,o,ho,_⟩:=I.ok.funs.mem hb
  exact I.base.free b o ho (I.ok.frf b hb) fun z=>I.ok.exfs b z hb
theorem Inv.step {g':Array GenState}{t':Nat}{d':Drawn}{ch:List Addr}(I:Inv X pins σ H s)
  (hch:∀ b ∈ ch,(b ∈ X.ex \/ X.s₀.heap.objs.size<=b)/\b ≠ X.env.locals/\(∀ x c,X.env.cells.lookup x=some c->c ≠ b)/\∀ p ∈ X.pn ++ pins,p.1 ≠ b)
  (keep:∀ b o,b ≠ X.env.locals->b ∉ X.fs->b ∉ ch->s.heap.get? b=some o->H b=none->h'.get? b=some o)
  (slot:∀ b o,b ≠ X.env.locals->b ∈ X.fs->b ∉ ch->s.heap.get? b=some o->H b=none->∃ sl,h'.get? b=some { o with slots:=sl }) (free:∀ b o,b ∉ ch->s.heap.get? b=some o->H b=none->H' b=none)
  (there:∀ b o,b ∉ ch->s.heap.get? b=some o->∃ o',h'.get? b=some o')
  (tups:∀ b xs,H b=some (.tup xs)->H' b=some (.tup xs)) (frzs:∀ b o u,H b=some (.frz o u)->H' b=some (.frz o u)) (tbls:∀ b ps,H b=some (.tbl ps)->∃ more,H' b=some (.tbl (ps ++ more)))
  (ns:∀ m,s.heap.Ns X.env.locals m->h'.Ns X.env.locals m) (hok:HOk X.prog X.w H' h') (hg:AllBare g') :
  Inv X pins σ H' { s with heap:=h',gens:=g',drawn:=d',toks:=t' }:=by
 have neL:∀ b o,X.s₀.heap.get? b=some o->b ≠ X.env.locals:=fun b o e=>Nat.ne_of_lt (Nat.lt_of_lt_of_le (Heap.lt_size e) I.ok.above)
 have neC:∀ b o,X.s₀.heap.get? b=some o->b ∉ X.ex->b ∉ ch:=fun b o e hx hb=>by
  rcases (hch b hb).1 with z | z
  ·exact hx z
  ·exact absurd (Nat.lt_of_lt_of_le (Heap.lt_size e) z) (Nat.lt_irrefl _)
 have cellK:∀ x c,X.env.cells.lookup x=some c->∀ v,s.heap.IsCell c v->h'.IsCell c v:=fun x c e v ⟨o,ho,hd⟩=>by
  have nch:c ∉ ch:=fun z=>(hch c z).2.2.1 x c e rfl
  by_cases hc:c ∈ X.fs
  ·obtain ⟨sl,q⟩:=slot c o (I.cne x c e) hc nch ho (I.freeC x c e)
   exact ⟨_,q,hd⟩
  ·exact ⟨o,keep c o (I.cne x c e) hc nch ho (I.freeC x c e),hd⟩
 refine ⟨I.ok,I.os,hg,⟨fun b o e n hb hx=>?_,fun b o e n hb hx=>?_,fun b o e n hx=>?_,fun b o e hx=>?_,fun b xs e=>tups b xs (I.base.tups b xs e),fun b o xs e=>frzs b o xs (I.base.frzs b o xs e),fun b ps e=>?_⟩,?_,fun x c e=>?_,?_,fun x c e=>?_,fun p hp=>?_,hok,I.len⟩
 ·exact keep b o (neL b o e) hb (neC b o e hx) (I.base.keep b o e n hb hx) (I.base.free b o e n hx)
 ·obtain ⟨sl,e1⟩:=I.base.slot b o e n hb hx
  obtain ⟨sl',e2⟩:=slot b _ (neL b o e) hb (neC b o e hx) e1 (I.base.free b o e n hx)
  exact ⟨sl',e2⟩
 ·obtain ⟨o',e1⟩:=I.base.there b o e hx
  exact free b o' (neC b o e hx) e1 (I.base.free b o e n hx)
 ·obtain ⟨o',e1⟩:=I.base.there b o e hx
  exact there b o' (neC b o e hx) e1
 ·obtain ⟨m1,e1⟩:=I.base.tbls b ps e
  obtain ⟨m2,e2⟩:=tbls b _ e1
  exact ⟨m1 ++ m2,by rw [e2,Array.append_assoc]⟩
 ·obtain ⟨m,hn,hl⟩:=I.loc
  refine ⟨m,ns m hn,fun i x v e1 e2 e3=>?_⟩
  obtain ⟨u,r,l⟩:=hl i x v e1 e2 e3
  refine ⟨u,r,?_⟩
  rcases l with l | ⟨k,c,e,z⟩
  ·exact .inl l
  ·exact .inr ⟨k,c,e,cellK x c e _ z⟩
 ·obtain ⟨v,z⟩:=I.cell x c e
  exact ⟨v,cellK x c e v z⟩
 ·obtain ⟨m,⟨o,_,_,ho,_⟩,_⟩:=I.loc
  exact free _ o (fun z=>(hch _ z).2.1 rfl) ho I.free
 ·obtain ⟨v,o,ho,hd⟩:=I.cell x c e
  exact free c o (fun z=>(hch c z).2.2.1 x c e rfl) ho (I.freeC x c e)
 ·obtain ⟨e,n,ne,nf,d⟩:=I.pin p hp
  have nch:p.1 ∉ ch:=fun z=>(hch p.1 z).2.2.2 p hp rfl
  exact ⟨keep p.1 p.2 ne nf nch e n,free p.1 p.2 nch e n,ne,nf,d⟩
theorem Inv.un {t':Nat}(I:Inv X pins σ H s)(u:Un X.fs [] H H' s.heap h')(hok:HOk X.prog X.w H' h'):Inv X pins σ H' { s with heap:=h',toks:=t' }:=by
 obtain ⟨m,⟨o,es,ep,ho,r⟩,_⟩:=id I.loc
 obtain ⟨sl,hL⟩:=u.any ho I.free (by simp)
 exact I.step (g':=s.gens) (d':=s.drawn) (ch:=[]) (fun _ z=>nomatch z) (fun b o _ hb _ e n=>u.keep b o e n hb (by simp)) (fun b o _ hb _ e n=>u.slot b o e n hb (by simp)) (fun b o _ e n=>u.free b o e n (by simp)) (fun b o _ e=>u.there b o e (by simp)) u.tups u.frzs u.tbls (fun m' hm=>by
  obtain ⟨o',es',ep',ho',r'⟩:=hm
  rw [ho] at ho';cases ho'
  exact ⟨_,es',ep',hL,r'⟩) hok I.bare
theorem Inv.call {g':Array GenState}{t':Nat}{d':Drawn}{ch:List Addr}(I:Inv X pins σ H s)(u:Un (frs X.stack) ch H H' s.heap h')(hok:HOk X.prog X.w H' h')(hg:AllBare g')
  (hch:∀ b ∈ ch,(b ∈ X.ex \/ X.s₀.heap.objs.size<=b)/\b ≠ X.env.locals/\(∀ x c,X.env.cells.lookup x=some c->c ≠ b)/\∀ p ∈ X.pn ++ pins,p.1 ≠ b) :
  Inv X pins σ H' { s with heap:=h',gens:=g',drawn:=d',toks:=t' }:=by
 obtain ⟨m,⟨o,es,ep,ho,r⟩,_⟩:=id I.loc
 obtain ⟨sl,hL⟩:=u.any ho I.free fun z=>(hch _ z).2.1 rfl
 exact I.step (ch:=ch) hch (fun b o hL hb hc e n=>u.keep b o e n (fun z=>(List.mem_cons.mp (I.stkSub b z)).elim hL hb) hc) (fun b o _ _ hc e n=>u.any e n hc) (fun b o hc e n=>u.free b o e n hc) (fun b o hc e=>u.there b o e hc) u.tups u.frzs u.tbls (fun m' hm=>by
  obtain ⟨o',es',ep',ho',r'⟩:=hm
  rw [ho] at ho';cases ho'
  exact ⟨_,es',ep',hL,r'⟩) hok hg
theorem Inv.turned {t':Nat}{it:Addr}(I:Inv X pins σ H s)(k:∀ b o,b ≠ it->s.heap.get? b=some o->h'.get? b=some o)(hn:H it=none)(hL:it ≠ X.env.locals)
  (h1:it ∈ X.ex \/ X.s₀.heap.objs.size<=it) (h2:∀ x c,X.env.cells.lookup x=some c->c ≠ it) (h3:∀ p ∈ X.pn ++ pins,p.1 ≠ it):Inv X pins σ H { s with heap:=h',toks:=t' }:=by
 have nit:∀ b u,H b=some u->b ≠ it:=fun b u e z=>by rw [z,hn] at e;cases e
 refine I.step (g':=s.gens) (d':=s.drawn) (ch:=[it]) (fun b hb=>?_) (fun b o _ _ hc e _=>k b o (fun z=>hc (by simp [z])) e) (fun b o _ _ hc e _=>⟨o.slots,k b o (fun z=>hc (by simp [z])) e⟩) (fun _ _ _ _ n=>n)
  (fun b o hc e=>⟨o,k b o (fun z=>hc (by simp [z])) e⟩) (fun _ _ e=>e) (fun _ _ _ e=>e) (fun b ps e=>⟨#[],by rw [e];simp⟩) (fun m hm=>?_) (fun b u e=>?_) I.bare
 ·have e:b=it:=by simpa using hb
  subst e
  exact ⟨h1,hL,h2,h3⟩
 ·obtain ⟨o,es,ep,ho,r⟩:=hm
  exact ⟨o,es,ep,k _ o (Ne.symm hL) ho,r⟩
 ·refine (I.hok b u e).stay (fun c v hc q=>k c v ?_ q) (fun _ q=>q) fun _ _ q=>q
  rcases hc with z | z
  ·rw [z];exact nit b u e
  ·exact nit c _ z
theorem Inv.tok (I:Inv X pins σ H s)(t:Nat):Inv X pins σ H { s with toks:=t }:=I.un (h':=s.heap) (t':=t) Un.refl I.hok
theorem Inv.kept {t':Nat}(I:Inv X pins σ H s)(k:∀ b u,s.heap.get? b=some u->h'.get? b=some u):Inv X pins σ H { s with heap:=h',toks:=t' }:=I.un (Un.kept k) (I.hok.kept k)
theorem Inv.laid {a:Addr}{o:HO}{t':Nat}(I:Inv X pins σ H s)(k:∀ b u,s.heap.get? b=some u->h'.get? b=some u)(hp:s.heap.objs.size<=a)(new:qa X.prog X.w (upd H a o) h' a o) :
  Inv X pins σ (upd H a o) { s with heap:=h',toks:=t' }:=I.un (Un.laid k hp (I.hok.fresh hp)) (I.hok.laid k hp new)
theorem Inv.write {x e:Addr}{o:HO}{t':Nat}(I:Inv X pins σ H s)(mu:Mut (H x))(he:e=x \/ H e=some (.own x))(k:∀ b u,b ≠ e->s.heap.get? b=some u->h'.get? b=some u)(heo:∃ u,h'.get? e=some u)
  (new:qa X.prog X.w (upd H x o) h' x o):Inv X pins σ (upd H x o) { s with heap:=h',toks:=t' }:=I.un (Un.write mu he k heo) (I.hok.write mu he k heo new)
theorem Inv.pins_of {pins':List (Addr × Obj)}(I:Inv X pins σ H s)(h:∀ p ∈ pins',s.heap.get? p.1=some p.2/\H p.1=none/\p.1 ≠ X.env.locals/\p.1 ∉ X.fs/\∀ v,p.2.data ≠ .cell v):Inv X pins' σ H s:=
 ⟨I.ok,I.os,I.bare,I.base,I.loc,I.cell,I.free,I.freeC,fun p hp=>(List.mem_append.mp hp).elim (fun z=>I.pin p (List.mem_append_left _ z)) (h p),I.hok,I.len⟩
theorem Z8 {N:List Str}(hN:N.Nodup){i j:Nat}{x:Str}(a:N[i]?=some x)(b:N[j]?=some x):i=j:=by
 obtain ⟨h1,e1⟩:=List.getElem?_eq_some_iff.mp a
 obtain ⟨h2,e2⟩:=List.getElem?_eq_some_iff.mp b
 exact (List.getElem_inj hN).mp (e1.trans e2.symm)
theorem Zc {M : Model}{A : Around}{E : Value -> Shared -> Prop}{i : Nat}{x : Str}{v : V}{u : Value}{Q : Unit -> Shared -> Prop}(I : Inv X pins σ H s)(hN : X.N.Nodup)(hi : X.N[i]? = some x)(hx : Loc X.env.scope x)(r : zF v u)
    (h:∀ s',Inv X pins (σ.set i (some v)) H s'->(∃ a,Heap.SameBut a s.heap s'.heap/\(a=X.env.locals \/ X.env.cells.lookup x=some a))->Q () s') (hf:X.fn x=true \/ X.env.scope.names.lookup x=some .local:=by first | exact .inl rfl | exact .inr rfl | assumption):wpAny M A (storeName X.env x u) Q E s:=by
  obtain ⟨m,hn,hl⟩:=id I.loc
  have hcls:(X.env.scope.kind == .class || (X.env.scope.kind == .module && X.env.locals != X.env.globals))=false:=by rw [I.ok.kind];rfl
  have hiσ:i<σ.length:=by rw [I.len];exact (List.getElem?_eq_some_iff.mp hi).1
  have cne:=I.cne
  have tracked:∀ {a:Addr} {h':Heap},(∃ o,s.heap.get? a=some o/\H a=none)->Heap.SameBut a s.heap h'->HOk X.prog X.w H h':=fun {a h'} ha hs b ob e=>by
    obtain ⟨_,_,hfree⟩:=ha
    refine (I.hok b ob e).stay (fun c w' hc q=>(hs.2 c ?_).trans q) (fun _ q=>q) fun _ _ q=>q
    rintro rfl
    rcases hc with rfl | hc
    · rw [hfree] at e;cases e
    · rw [hfree] at hc;cases hc
  rcases hx with hk | hk
  · refine wpAny_storeName_local hk hn (fun h' hn' hs=>?_) hcls
    obtain ⟨oL,_,_,hoL,_⟩:=id hn
    refine h _ ⟨I.ok,I.os,I.bare,⟨fun b o e n hb hx=>?_,fun b o e n hb hx=>?_,I.base.free,fun b o e hx=>?_,I.base.tups,I.base.frzs,I.base.tbls⟩,⟨_,hn',fun j y v' e1 e2 e3=>?_⟩,fun y c e=>?_,I.free,I.freeC,fun p hp=>?_,tracked ⟨oL,hoL,I.free⟩ hs,by simpa using I.len⟩ ⟨_,hs,.inl rfl⟩
    · exact (hs.2 b (Nat.ne_of_lt (Nat.lt_of_lt_of_le (Heap.lt_size e) I.ok.above))).trans (I.base.keep b o e n hb hx)
    · obtain ⟨sl,e1⟩:=I.base.slot b o e n hb hx
      exact ⟨sl,(hs.2 b (Nat.ne_of_lt (Nat.lt_of_lt_of_le (Heap.lt_size e) I.ok.above))).trans e1⟩
    · obtain ⟨o',e1⟩:=I.base.there b o e hx
      exact ⟨o',(hs.2 b (Nat.ne_of_lt (Nat.lt_of_lt_of_le (Heap.lt_size e) I.ok.above))).trans e1⟩
    · by_cases hj:j=i
      · subst hj
        rw [hi] at e1;cases e1
        rw [List.getElem?_set_self hiσ] at e2
        cases e2
        exact ⟨u,r,.inl ⟨hk,by simp⟩⟩
      · rw [List.getElem?_set_ne (Ne.symm hj)] at e2
        obtain ⟨u',r',q⟩:=hl j y v' e1 e2 e3
        refine ⟨u',r',?_⟩
        rcases q with ⟨k,e⟩ | ⟨k,c,e,z⟩
        · refine .inl ⟨k,?_⟩
          have:y ≠ x:=fun e=>hj (Z8 hN e1 (e ▸ hi))
          simp [this,e]
        · exact .inr ⟨k,c,e,z.sameBut hs (cne y c e)⟩
    · obtain ⟨w',z⟩:=I.cell y c e
      exact ⟨w',z.sameBut hs (cne y c e)⟩
    · obtain ⟨e,n,ne,nf,d⟩:=I.pin p hp
      exact ⟨(hs.2 p.1 ne).trans e,n,ne,nf,d⟩
  · have hfn : X.fn x = true := by
      rcases hf with z | z
      · exact z
      · rw [z] at hk;cases hk
    obtain ⟨c,hc⟩:=I.ok.has x (.inl hk)
    obtain ⟨w',z⟩:=I.cell x c hc
    refine wpAny_storeName_cell I.ok.kind hk hc z (fun h' hc' hs=>?_)
    obtain ⟨oc,hoc,hocd⟩:=id z
    refine h { s with heap:=h' } ⟨I.ok,I.os,I.bare,⟨fun b o e n hb hx=>?_,fun b o e n hb hx=>?_,I.base.free,fun b o e hx=>?_,I.base.tups,I.base.frzs,I.base.tbls⟩,⟨m,hn.sameBut hs (Ne.symm (cne x c hc)),fun j y v' e1 e2 e3=>?_⟩,fun y c' e=>?_,I.free,I.freeC,fun p hp=>?_,tracked ⟨oc,hoc,I.freeC x c hc⟩ hs,by simpa using I.len⟩ ⟨c,hs,.inr hc⟩
    · exact (hs.2 b (Nat.ne_of_lt (Nat.lt_of_lt_of_le (Heap.lt_size e) (I.ok.cab x c hfn hc)))).trans (I.base.keep b o e n hb hx)
    · obtain ⟨sl,e1⟩:=I.base.slot b o e n hb hx
      exact ⟨sl,(hs.2 b (Nat.ne_of_lt (Nat.lt_of_lt_of_le (Heap.lt_size e) (I.ok.cab x c hfn hc)))).trans e1⟩
    · obtain ⟨o',e1⟩:=I.base.there b o e hx
      exact ⟨o',(hs.2 b (Nat.ne_of_lt (Nat.lt_of_lt_of_le (Heap.lt_size e) (I.ok.cab x c hfn hc)))).trans e1⟩
    · by_cases hj:j=i
      · subst hj
        rw [hi] at e1;cases e1
        rw [List.getElem?_set_self hiσ] at e2
        cases e2
        exact ⟨u,r,.inr ⟨.inl hk,c,hc,hc'⟩⟩
      · rw [List.getElem?_set_ne (Ne.symm hj)] at e2
        obtain ⟨u',r',q⟩:=hl j y v' e1 e2 e3
        refine ⟨u',r',?_⟩
        rcases q with q | ⟨k,c',e,z'⟩
        · exact .inl q
        · refine .inr ⟨k,c',e,z'.sameBut hs ?_⟩
          rintro rfl
          exact hj (Z8 hN e1 (I.ok.inj _ _ _ e hc ▸ hi))
    · by_cases hcc:c'=c
      · subst hcc;exact ⟨_,hc'⟩
      · obtain ⟨w2,z2⟩:=I.cell y c' e
        exact ⟨w2,z2.sameBut hs hcc⟩
    · obtain ⟨e,n,ne,nf,d⟩:=I.pin p hp
      refine ⟨(hs.2 p.1 ?_).trans e,n,ne,nf,d⟩
      intro q
      rw [q,hoc] at e
      have q':oc=p.2:=Option.some.inj e
      exact d w' (by rw [<- q'];exact hocd)
theorem yk {M:Model}{A:Around}{E:Value->Shared->Prop}{i:Nat}{x:Str}{v:V}{u:Value}{Q:Unit->Shared->Prop}(I:Inv X pins σ H s)(hN:X.N.Nodup)(hi:X.N[i]?=some x)(hx:Loc X.env.scope x)(r:zF v u)
  (h:∀ s',Inv X pins (σ.set i (some v)) H s'->Q () s') (hf:X.fn x=true \/ X.env.scope.names.lookup x=some .local:=by first | exact .inl rfl | exact .inr rfl | assumption):wpAny M A (storeName X.env x u) Q E s:=
 Zc I hN hi hx r (fun s' I' _=>h s' I') hf
theorem Inv.call' {s':Shared}{ch:List Addr}(I:Inv X pins σ H s)(ho:s'.os=s.os)(u:Un (frs X.stack) ch H H' s.heap s'.heap)(hok:HOk X.prog X.w H' s'.heap)(hg:AllBare s'.gens)
  (hch:∀ b ∈ ch,(b ∈ X.ex \/ X.s₀.heap.objs.size<=b)/\b ≠ X.env.locals/\(∀ x c,X.env.cells.lookup x=some c->c ≠ b)/\∀ p ∈ X.pn ++ pins,p.1 ≠ b):Inv X pins σ H' s':=by
 obtain ⟨h',g',d',t',o'⟩:=s'
 have e:o'=s.os:=ho
 subst e
 exact I.call (g':=g') (t':=t') (d':=d') u hok hg hch
end
noncomputable abbrev XK:=Value->Option Addr->Hp->Prop
noncomputable abbrev St:=List (Option V)
noncomputable abbrev VK:=V->Hp->Prop
noncomputable abbrev TE:=St->Hp->VK->Prop
noncomputable abbrev TT:=St->Hp->(Bool->Hp->Prop)->Prop
noncomputable abbrev TA:=St->Hp->(List V->Hp->Prop)->Prop
structure kF where
 nx:St->Hp->Prop
 rt:VK
 bk:St->Hp->Prop:=fun _ _=>False
 ct:St->Hp->Prop:=fun _ _=>False
noncomputable abbrev TS:=kF->St->Hp->Prop
noncomputable def EP (X:Cx)(pins:List (Addr × Obj))(σ:St)(Q:VK)(u:Value)(s':Shared):Prop:=∃ v H',Inv X pins σ H' s'/\zF v u/\Q v H'
noncomputable def TP (X:Cx)(pins:List (Addr × Obj))(σ:St)(Q:Bool->Hp->Prop)(b:Bool)(s':Shared):Prop:=∃ H',Inv X pins σ H' s'/\Q b H'
noncomputable def AP (X:Cx)(pins:List (Addr × Obj))(σ:St)(Q:List V->Hp->Prop)(us:List Value)(s':Shared):Prop:=∃ vs H',Inv X pins σ H' s'/\zu vs us/\Q vs H'
noncomputable def SP (X:Cx)(pins:List (Addr × Obj))(D:kF)(f:Flow)(s':Shared):Prop:=
 match f with
 | .next=>∃ σ' H',Inv X pins σ' H' s'/\D.nx σ' H'
 | .brk=>∃ σ' H',Inv X pins σ' H' s'/\D.bk σ' H'
 | .cont=>∃ σ' H',Inv X pins σ' H' s'/\D.ct σ' H'
 | .ret u=>∃ v σ' H',Inv X pins σ' H' s'/\zF v u/\D.rt v H'
noncomputable def PE (X:Cx)(e:Expr)(t:TE):Prop:=
 ∀ (pins:List (Addr × Obj)) (s:Shared) (σ:St) (H:Hp) (Q:VK),Inv X pins σ H s->t σ H Q->wpAny (model X.prog X.w) X.A (eval e X.env) (EP X pins σ Q) X.xe s
noncomputable def PT (X:Cx)(e:Expr)(t:TT):Prop:=
 ∀ (pins:List (Addr × Obj)) (s:Shared) (σ:St) (H:Hp) (Q:Bool->Hp->Prop),Inv X pins σ H s->t σ H Q->wpAny (model X.prog X.w) X.A (isTrue e X.env (eval e X.env)) (TP X pins σ Q) X.xe s
noncomputable def PW (X:Cx)(e:Expr)(t:TT):Prop:=
 ∀ (whole:Sem Value) (pins:List (Addr × Obj)) (s:Shared) (σ:St) (H:Hp) (Q:Bool->Hp->Prop),Inv X pins σ H s->t σ H Q->wpAny (model X.prog X.w) X.A (isTrue e X.env whole) (TP X pins σ Q) X.xe s
theorem PW.pt {X:Cx}{e:Expr}{t:TT}(h:PW X e t):PT X e t:=h _
noncomputable def PA (X:Cx)(es:List Expr)(t:TA):Prop:=
 ∀ (pos:Pos) (pins:List (Addr × Obj)) (s:Shared) (σ:St) (H:Hp) (Q:List V->Hp->Prop),Inv X pins σ H s->t σ H Q->wpAny (model X.prog X.w) X.A (spliced (backTo pos (starEach es X.env))) (AP X pins σ Q) X.xe s
noncomputable def PS (X:Cx)(st:Stmt)(t:TS):Prop:=
 ∀ (pins:List (Addr × Obj)) (s:Shared) (σ:St) (H:Hp) (D:kF),Inv X pins σ H s->t D σ H->wpAny (model X.prog X.w) X.A (exec st X.env) (SP X pins D) X.xe s
noncomputable def PSs (X:Cx)(st:List Stmt)(t:TS):Prop:=
 ∀ (pins:List (Addr × Obj)) (s:Shared) (σ:St) (H:Hp) (D:kF),Inv X pins σ H s->t D σ H->wpAny (model X.prog X.w) X.A (execs st X.env) (SP X pins D) X.xe s
theorem thn {α:Type}{t:Sem α}{Q Q':α->Shared->Prop}{M:Model}{A:Around}{E:Value->Shared->Prop}{s:Shared}(h:wpAny M A t Q E s)(hQ:∀ a s,Q a s->Q' a s):wpAny M A t Q' E s:=wpAny_mono h hQ fun _ _ x=>x
section
variable {X:Cx}
theorem bin {a b:Expr}{ta tb:TE}(ha:PE X a ta)(hb:PE X b tb){pins:List (Addr × Obj)}{s:Shared}{σ:St}{H:Hp}{R:V->V->Hp->Prop}(I:Inv X pins σ H s)(h:ta σ H fun x H1=>tb σ H1 fun y H2=>R x y H2)
  {α:Type} {Q:α->Shared->Prop} {f:Value->Value->Sem α}
  (hf:∀ v u s2 x y H2,Inv X pins σ H2 s2->zF x v->zF y u->R x y H2->wpAny (model X.prog X.w) X.A (f v u) Q X.xe s2) :
  wpAny (model X.prog X.w) X.A (eval a X.env) (fun v s₁=>wpAny (model X.prog X.w) X.A (eval b X.env) (fun u s₂=>wpAny (model X.prog X.w) X.A (f v u) Q X.xe s₂) X.xe s₁) X.xe s:=by
 refine thn (ha pins s σ H _ I h) fun v s1 ⟨x,H1,I1,r1,q1⟩=>?_
 refine thn (hb pins s1 σ H1 _ I1 q1) fun u s2 ⟨y,H2,I2,r2,q2⟩=>?_
 exact hf v u s2 x y H2 I2 r1 r2 q2
noncomputable def Y3 (i:Nat):TE:=fun σ H Q=>∃ v,σ[i]?=some (some v)/\Q v H
noncomputable def tC (v:V):TE:=fun _ H Q=>Q v H
theorem En {i:Nat}{x:Str}{pos:Pos}(hN:X.N[i]?=some x)(hv:Vis X.env.scope x)(hd:(x == ("__debug__":Str))=false:=by decide)(hcd:(x == ("__classdict__":Str))=false:=by decide):PE X (.Name x pos) (Y3 i):=by
 intro pins s σ H Q I h
 obtain ⟨v,e,h⟩:=h
 obtain ⟨m,hn,hl⟩:=I.loc
 obtain ⟨u,r,l⟩:=hl i x v hN e hv
 have fin:EP X pins σ Q u s:=⟨v,H,I,r,h⟩
 rcases l with ⟨hk,hm⟩ | ⟨hk,c,hc,hcell⟩
 ·exact wpAny_Name (wpAny_loadName_local I.ok.kind hk hn hm fin) hd
 ·rcases hk with hk | hk
  ·exact wpAny_Name (wpAny_loadName_cell I.ok.kind hk hc hcell fin) hd
  ·exact wpAny_Name (wpAny_loadName_free I.ok.kind hk hc hcell fin hcd) hd
theorem zd {i j pos}:PE X (.Constant (.int i) j pos) (tC (.int i)):=fun _ _ _ H _ I h=>wpAny_Constant_int ⟨.int i,H,I.tok _,⟨_,rfl⟩,h⟩
theorem yh {b j pos}:PE X (.Constant (.bool b) j pos) (tC (.bl b)):=fun _ _ _ H _ I h=>Constant_bool ⟨.bl b,H,I,rfl,h⟩
theorem vv {j pos}:PE X (.Constant .none j pos) (tC .non):=fun _ _ _ H _ I h=>Constant_none ⟨.non,H,I,rfl,h⟩
theorem jZ {x j pos}:PE X (.Constant (.str x) j pos) (tC (.str x)):=fun _ _ _ H _ I h=>Calls.Constant_str ⟨.str x,H,I.tok _,⟨_,rfl⟩,h⟩
noncomputable def Gl (X:Cx)(x:Str):Prop:=X.env.kindOf x=some .globalImplicit
theorem B4 {E:Value->Shared->Prop}{pins:List (Addr × Obj)}{s:Shared}{σ:St}{H:Hp}{x:Str}{u:Value}{pos:Pos}{Q:Value->Shared->Prop}(I:Inv X pins σ H s)(hg:Gl X x)(hm:X.mg x=some u)(h:Q u s)
  (hd:(x == ("__debug__":Str))=false:=by decide):wpAny (model X.prog X.w) X.A (eval (.Name x pos) X.env) Q E s:=
 Calls.Name_function_global I.ok.kind hg (Calls.loadGlobal_global (by rw [I.ok.glob];exact I.mod.glob.keeps I.bk) hm h) hd
theorem kJ {E:Value->Shared->Prop}{pins:List (Addr × Obj)}{s:Shared}{σ:St}{H:Hp}{x:Str}{u:Value}{pos:Pos}{Q:Value->Shared->Prop}(I:Inv X pins σ H s)(hg:Gl X x)(hm:X.mg x=none)(hv:bootBuiltins x=some u)(h:Q u s)
  (hn:x ≠ "__name__":=by decide) (hd:(x == ("__debug__":Str))=false:=by decide):wpAny (model X.prog X.w) X.A (eval (.Name x pos) X.env) Q E s:=by
 obtain ⟨mb,h1,h2⟩:=I.mod.blt
 exact Calls.Name_function_global I.ok.kind hg (Calls.loadGlobal_builtin (by rw [I.ok.glob];exact I.mod.glob.keeps I.bk) hm (by rw [I.ok.blt];exact h1.keeps I.bk) ((h2 x hn).trans hv) h) hd
theorem qA {x:Str}{v:V}{u:Value}{pos:Pos}(hg:Gl X x)(hm:X.mg x=none)(hv:bootBuiltins x=some u)(r:zF v u)(hn:x ≠ "__name__":=by decide)(hd:(x == ("__debug__":Str))=false:=by decide):PE X (.Name x pos) (tC v):=
 fun _ _ _ H _ I h=>kJ I hg hm hv ⟨v,H,I,r,h⟩ hn hd
variable {a b:Expr}{ta tb:TE}{pos:Pos}
noncomputable def PC (X:Cx)(op:CmpOp)(a b:Expr)(t:TE):Prop:=
 ∀ (pins:List (Addr × Obj)) (s:Shared) (σ:St) (H:Hp) (Q:VK),Inv X pins σ H s->t σ H Q ->
  wpAny (model X.prog X.w) X.A (eval a X.env) (fun v s₁=>wpAny (model X.prog X.w) X.A (eval b X.env) (fun u s₂=>wpAny (model X.prog X.w) X.A (compareOp op v u) (EP X pins σ Q) X.xe s₂) X.xe s₁) X.xe s
theorem WR (b:Expr){op:CmpOp}(h:op ≠ .In)(h2:op ≠ .NotIn):behindInMarks op b=false:=by
 have e1:(op == CmpOp.In)=false:=by cases op <;> first | rfl | exact absurd rfl h
 have e2:(op == CmpOp.NotIn)=false:=by cases op <;> first | rfl | exact absurd rfl h2
 cases b <;> simp [behindInMarks,e1,e2]
noncomputable def tB (t:TE):TT:=fun σ H Q=>t σ H fun x H1=>∃ c,x=.bl c/\Q c H1
theorem GJ {op:CmpOp}{t:TE}(h:PC X op a b t)(h1:behindInMarks op b=false:=by first | exact WR _ (by decide) (by decide) | rfl):PT X (.Compare a [op] [b] pos) (tB t):=by
 intro pins s σ H Q I hw
 refine wpAny_isTrue_Compare1 (thn (h pins s σ H _ I hw) fun v s1 h1=>thn h1 fun u s2 h2=>thn h2 fun c s3 ⟨x,H1,I1,r1,q1⟩=>?_) h1
 obtain ⟨d,rfl,q⟩:=q1
 cases r1
 exact wpAny_truthy_bool ⟨H1,I1,q⟩
theorem kc {e:Expr}{t:TE}(h:PE X e t)(he:∀ whole,isTrue e X.env whole=(do let v <- whole;standAt e.pos;holding [v] (truthy v)):=by intro _;rfl):PT X e (tB t):=by
 intro pins s σ H Q I hw
 refine isTrue_plain (thn (h pins s σ H _ I hw) fun v s1 ⟨x,H1,I1,r1,q1⟩=>?_) (he _)
 obtain ⟨d,rfl,q⟩:=q1
 cases r1
 exact wpAny_truthy_bool ⟨H1,I1,q⟩
variable {tA tB':TT}{zx:List Expr}
noncomputable def tOr (t u:TT):TT:=fun σ H Q=>t σ H fun c H1=>if c=true then Q true H1 else u σ H1 Q
noncomputable def Fm (t:TT):TT:=fun σ H Q=>t σ H fun c H1=>Q (!c) H1
theorem vD (ha:PT X a tA):PW X (.BoolOp .Or [a] pos) tA:=by
 intro wh pins s σ H Q I h
 refine isTrue_or (thn (ha pins s σ H Q I h) fun c s1 e=>?_)
 cases c with
 | false=>exact isTrue_or_nil e
 | true=>exact e
theorem Qq (ha:PT X a tA)(hb:PW X (.BoolOp .Or (b :: zx) pos) tB'):PW X (.BoolOp .Or (a :: b :: zx) pos) (tOr tA tB'):=by
 intro wh pins s σ H Q I h
 refine isTrue_or (thn (ha pins s σ H _ I h) fun c s1 ⟨H1,I1,q1⟩=>?_)
 cases c with
 | true=>exact ⟨H1,I1,q1⟩
 | false=>exact hb wh pins s1 σ H1 Q I1 q1
theorem wc (ha:PT X a tA):PT X (.UnaryOp .Not a pos) (Fm tA):=by
 intro pins s σ H Q I h
 exact isTrue_not (ha pins s σ H (fun c H1=>Q (!c) H1) I h)
noncomputable def We (ta tb:TE):TE:=fun σ H Q=>ta σ H fun x H1=>∃ c,x=.bl c/\if c=true then tb σ H1 Q else Q (.bl false) H1
theorem JJ {op}{t:TE}(h:PE X a t):PE X (.BoolOp op [a] pos) t:=fun pins s σ H Q I hw=>BoolOp_one (h pins s σ H Q I hw)
theorem Zt (ha:PE X a ta)(hb:PE X (.BoolOp .And (b :: zx) pos) tb):PE X (.BoolOp .And (a :: b :: zx) pos) (We ta tb):=by
 intro pins s σ H Q I h
 refine BoolOp_and (thn (ha pins s σ H _ I h) fun v s1 ⟨x,H1,I1,r1,q1⟩=>?_)
 obtain ⟨c,rfl,q1⟩:=q1
 cases r1
 refine wpAny_truthy_bool ?_
 cases c with
 | true=>exact hb pins s1 σ H1 Q I1 q1
 | false=>exact ⟨.bl false,H1,I1,rfl,q1⟩
end
noncomputable def SqL (K:PySem.W.Frag)(H:Hp)(a:Addr)(xs:List V):Prop:=
 Rd H a (.lst xs) \/
  ∃ (o:Obj) (its:Array Value) (n:Nat),K.lookup a=some o/\o.cls=.type "list"/\o.dict=none/\o.data=.seq its n/\its.size<=sizeLine/\zu xs its.toList
noncomputable def SqT (K:PySem.W.Frag)(H:Hp)(a:Addr)(xs:List V):Prop:=
 Rd H a (.tup xs) \/
  ∃ (o:Obj) (its:Array Value) (n:Nat),K.lookup a=some o/\o.cls=.type "tuple"/\o.data=.seq its n/\its.size<=sizeLine/\zu xs its.toList
noncomputable def GK:Value->Option V
 | .none=>some .non
 | .bool b=>some (.bl b)
 | .int i _=>some (.int i)
 | .str x _=>some (.str x)
 | .bytes b _=>some (.byt b)
 | .float b _=>some (.flt b)
 | .ref a=>some (.ref a)
 | .type n=>some (.ty n)
 | _=>none
theorem zF.abs {x:V}{u:Value}(r:zF x u):GK u=some x:=by
 cases x with
 | non=>cases r;rfl
 | bl _=>cases r;rfl
 | int _=>obtain ⟨t,rfl⟩:=r;rfl
 | str _=>obtain ⟨t,rfl⟩:=r;rfl
 | byt _=>obtain ⟨t,rfl⟩:=r;rfl
 | flt _=>obtain ⟨t,rfl⟩:=r;rfl
 | ref _=>cases r;rfl
 | ty _=>cases r;rfl
theorem zF.inj {x y:V}{u:Value}(r:zF x u)(q:zF y u):x=y:=Option.some.inj (r.abs.symm.trans q.abs)
theorem zu.inj:∀ {xs ys:List V} {us:List Value},zu xs us->zu ys us->xs=ys
 | _,_,_,.nil,.nil=>rfl
 | _,_,_,.cons r t,.cons r' t'=>by rw [r.inj r',zu.inj t t']
section
variable {X:Cx}{pins:List (Addr × Obj)}{σ:St}{H:Hp}{s:Shared}{a:Addr}{xs ys:List V}
theorem SqL.of {K:PySem.W.Frag}(h:H a=some (.lst xs)):SqL K H a xs:=.inl (.inl h)
theorem SqT.of {K:PySem.W.Frag}(h:H a=some (.tup xs)):SqT K H a xs:=.inl (.inl h)
theorem Inv.list (I:Inv X pins σ H s)(h:SqL X.K H a xs):∃ its:List Value,zu xs its/\PlainL s.heap a its.toArray/\xs.length<=sizeLine:=by
 rcases h with h | ⟨o,its,n,hk,hc,hd,hs,hz,r⟩
 ·obtain ⟨z,its,n,r,e⟩:=h.ok I.hok
  exact ⟨its,r,⟨_,n,e,rfl,rfl,rfl⟩,z⟩
 ·refine ⟨its.toList,r,⟨o,n,I.kIn a o hk,hc,hd,by simpa using hs⟩,?_⟩
  have e:=r.length
  simp only [Array.length_toList] at e
  walk_at "o"
theorem Inv.tuple (I:Inv X pins σ H s)(h:SqT X.K H a xs):∃ its:List Value,zu xs its/\IsTup s.heap a its.toArray/\xs.length<=sizeLine:=by
 rcases h with h | ⟨o,its,n,hk,hc,hs,hz,r⟩
 ·obtain ⟨z,its,r,p⟩:=h.ok I.hok
  exact ⟨its,r,p.is,z⟩
 ·refine ⟨its.toList,r,⟨o,I.kIn a o hk,hc,n,by simpa using hs⟩,?_⟩
  have e:=r.length
  simp only [Array.length_toList] at e
  walk_at "o"
theorem Inv.list_inj (I:Inv X pins σ H s)(h:SqL X.K H a xs)(h':SqL X.K H a ys):xs=ys:=by
 obtain ⟨its,r,⟨o,n,e,_,_,d⟩,_⟩:=I.list h
 obtain ⟨its',r',⟨o',n',e',_,_,d'⟩,_⟩:=I.list h'
 rw [e] at e';cases e'
 rw [d] at d'
 injection d' with d1 _
 have:its=its':=by simpa using congrArg Array.toList d1
 subst this
 exact r.inj r'
theorem Inv.tuple_inj (I:Inv X pins σ H s)(h:SqT X.K H a xs)(h':SqT X.K H a ys):xs=ys:=by
 obtain ⟨its,r,⟨o,e,_,n,d⟩,_⟩:=I.tuple h
 obtain ⟨its',r',⟨o',e',_,n',d'⟩,_⟩:=I.tuple h'
 rw [e] at e';cases e'
 rw [d] at d'
 injection d' with d1 _
 have:its=its':=by simpa using congrArg Array.toList d1
 subst this
 exact r.inj r'
end
noncomputable abbrev Cx.wish (X:Cx)(E:Value->Shared->Prop):Cx:={ X with xe:=E }
noncomputable abbrev Cx.nox (X:Cx):Cx:=X.wish fun _ _=>False
theorem Cx.Ok.wish {X:Cx}(ok:X.Ok)(E:Value->Shared->Prop):(X.wish E).Ok:=
 ⟨ok.mod,ok.kind,ok.glob,ok.blt,ok.above,ok.inj,ok.has,ok.cab,ok.hd,ok.frames,ok.stk,ok.exf,ok.bs,ok.bsz,ok.noex,ok.exfs,ok.funs,ok.frf⟩
theorem Cx.Ok.unwish {X:Cx}{E:Value->Shared->Prop}(ok:(X.wish E).Ok):X.Ok:=
 ⟨ok.mod,ok.kind,ok.glob,ok.blt,ok.above,ok.inj,ok.has,ok.cab,ok.hd,ok.frames,ok.stk,ok.exf,ok.bs,ok.bsz,ok.noex,ok.exfs,ok.funs,ok.frf⟩
section
variable {X:Cx}{pins:List (Addr × Obj)}{σ:St}{H:Hp}{s:Shared}{E:Value->Shared->Prop}
theorem Inv.wish (I:Inv X pins σ H s)(E:Value->Shared->Prop):Inv (X.wish E) pins σ H s:=⟨I.ok.wish E,I.os,I.bare,I.base,I.loc,I.cell,I.free,I.freeC,I.pin,I.hok,I.len⟩
theorem Inv.unwish (I:Inv (X.wish E) pins σ H s):Inv X pins σ H s:=⟨I.ok.unwish,I.os,I.bare,I.base,I.loc,I.cell,I.free,I.freeC,I.pin,I.hok,I.len⟩
theorem SP.unwish {D:kF}{f:Flow}{s':Shared}(h:SP (X.wish E) pins D f s'):SP X pins D f s':=by
 cases f with
 | next=>obtain ⟨σ',H',I,q⟩:=h;exact ⟨σ',H',I.unwish,q⟩
 | brk=>obtain ⟨σ',H',I,q⟩:=h;exact ⟨σ',H',I.unwish,q⟩
 | cont=>obtain ⟨σ',H',I,q⟩:=h;exact ⟨σ',H',I.unwish,q⟩
 | ret u=>obtain ⟨v,σ',H',I,r,q⟩:=h;exact ⟨v,σ',H',I.unwish,r,q⟩
theorem PSs.nox {st:List Stmt}{t:TS}(h:PSs X.nox st t):PSs X st t:=fun pins s σ H D I hw=>
 wpAny_mono (h pins s σ H D (I.wish _) hw) (fun _ _ q=>q.unwish) fun _ _ z=>False.elim z
end
section
variable {X:Cx}{st:Stmt}{zx:List Stmt}{t u:TS}{e:Expr}{te:TE}{pos:Pos}
noncomputable def Wn:TS:=fun D σ H=>D.nx σ H
noncomputable def Fs (t u:TS):TS:=fun D σ H=>t { D with nx:=u D } σ H
theorem zK:PSs X [] Wn:=fun _ _ σ H _ I h=>wpAny_execs_nil ⟨σ,H,I,h⟩
theorem zc (h1:PS X st t)(h2:PSs X zx u):PSs X (st :: zx) (Fs t u):=by
 intro pins s σ H D I h
 refine wpAny_execs_cons (thn (h1 pins s σ H { D with nx:=u D } I h) fun f s1 q=>?_)
 cases f with
 | next=>
  obtain ⟨σ',H',I',q⟩:=q
  exact h2 pins s1 σ' H' D I' q
 | ret v=>exact q
 | brk=>exact q
 | cont=>exact q
theorem zh (h1:PS X st t):PSs X [st] t:=by
 intro pins s σ H D I h
 refine wpAny_execs_cons (thn (h1 pins s σ H D I h) fun f s1 q=>?_)
 cases f with
 | next=>exact wpAny_execs_nil q
 | ret v=>exact q
 | brk=>exact q
 | cont=>exact q
theorem Inv.quiet {pins:List (Addr × Obj)}{σ:St}{H:Hp}{s:Shared}(I:Inv X pins σ H s):interactive X.env=false:=by simp [interactive,I.ok.kind]
noncomputable def WV (te:TE):TS:=fun D σ H=>te σ H fun _ H1=>D.nx σ H1
theorem qK (he:PE X e te)(hs:swapsWith e none pos.line X.env=pure false:=by rfl):PS X (.Expr e pos) (WV te):=by
 intro pins s σ H D I h
 exact wpAny_Expr_any (thn (he pins s σ H _ I h) fun v s1 ⟨x,H1,I1,r1,q1⟩=>⟨σ,H1,I1,q1⟩) I.quiet hs
noncomputable def Eh (te:TE):TS:=fun D σ H=>te σ H D.rt
theorem zA (he:PE X e te):PS X (.Return (some e) pos) (Eh te):=by
 intro pins s σ H D I h
 exact wpAny_Return_some (thn (he pins s σ H _ I h) fun v s1 ⟨x,H1,I1,r1,q1⟩=>⟨x,σ,H1,I1,r1,q1⟩)
noncomputable def D9 (c:TT)(t u:TS):TS:=fun D σ H=>c σ H fun b H1=>if b=true then t D σ H1 else u D σ H1
theorem qu {c:Expr}{a b:List Stmt}{tc:TT}(hc:PT X c tc)(ha:PSs X a t)(hb:PSs X b u):PS X (.If c a b pos) (D9 tc t u):=by
 intro pins s σ H D I h
 refine wpAny_If (thn (hc pins s σ H _ I h) fun d s1 ⟨H1,I1,q1⟩=>?_)
 cases d with
 | true=>exact ha pins s1 σ H1 D I1 q1
 | false=>exact hb pins s1 σ H1 D I1 q1
noncomputable def JO:TS:=fun _ _ _=>False
theorem YX:PS X st JO:=fun _ _ _ _ _ _ h=>h.elim
end
noncomputable abbrev TG:=V->St->Hp->(St->Hp->Prop)->Prop
noncomputable abbrev TGs:=List V->St->Hp->(St->Hp->Prop)->Prop
noncomputable def PG (X:Cx)(target:Expr)(t:TG):Prop:=
 ∀ (pins:List (Addr × Obj)) (s:Shared) (σ:St) (H:Hp) (v:V) (u:Value) (Q:St->Hp->Prop),Inv X pins σ H s->zF v u->t v σ H Q ->
  wpAny (model X.prog X.w) X.A (assign target X.env u) (fun _ s'=>∃ σ' H',Inv X pins σ' H' s'/\Q σ' H') X.xe s
noncomputable def PGs (X:Cx)(ts:List Expr)(t:TGs):Prop:=
 ∀ (pins:List (Addr × Obj)) (s:Shared) (σ:St) (H:Hp) (vs:List V) (us:List Value) (Q:St->Hp->Prop),Inv X pins σ H s->zu vs us->t vs σ H Q ->
  wpAny (model X.prog X.w) X.A (assignInOrder ((assignEach ts X.env).map (·.2)) us) (fun _ s'=>∃ σ' H',Inv X pins σ' H' s'/\Q σ' H') X.xe s
noncomputable abbrev YG:=V->V->V->Hp->(Hp->Prop)->Prop
noncomputable def Eo (X:Cx)(t:YG):Prop:=
 ∀ (pins:List (Addr × Obj)) (s:Shared) (σ:St) (H:Hp) (o i v:V) (ov iv u:Value) (Q:Hp->Prop),Inv X pins σ H s->zF o ov->zF i iv->zF v u->t o i v H Q ->
  wpAny (model X.prog X.w) X.A (setItem ov iv u) (fun _ s'=>∃ H',Inv X pins σ H' s'/\Q H') X.xe s
noncomputable abbrev TIp:=V->V->Hp->VK->Prop
section
variable {X:Cx}{pos:Pos}
noncomputable def QU (i:Nat):TG:=fun v σ H Q=>Q (σ.set i (some v)) H
theorem zp {i:Nat}{x:Str}(hN:X.N.Nodup)(hi:X.N[i]?=some x)(hx:Loc X.env.scope x)(hf:X.fn x=true \/ X.env.scope.names.lookup x=some .local:=by first | exact .inl rfl | exact .inr rfl | assumption):PG X (.Name x pos) (QU i):=by
 intro pins s σ H v u Q I r h
 exact wpAny_assign_Name (yk I hN hi hx r (fun s' I'=>⟨_,H,I',h⟩) hf)
noncomputable def Fp:TGs:=fun vs σ H Q=>vs=[]/\Q σ H
noncomputable def Ah (t:TG)(u:TGs):TGs:=fun vs σ H Q=>∃ v r,vs=v :: r/\t v σ H fun σ' H'=>u r σ' H' Q
theorem jj:PGs X [] Fp:=by
 intro pins s σ H vs us Q I r h
 obtain ⟨e,h⟩:=h
 subst e
 cases r
 exact assignInOrder_nil ⟨σ,H,I,h⟩
theorem zM {e:Expr}{es:List Expr}{t:TG}{u:TGs}(h1:PG X e t)(h2:PGs X es u)
  (hs:(assignEach (e :: es) X.env).map (·.2)=assign e X.env :: (assignEach es X.env).map (·.2):=by rfl):PGs X (e :: es) (Ah t u):=by
 intro pins s σ H vs us Q I r h
 obtain ⟨v,vr,e1,h⟩:=h
 subst e1
 cases r with
 | cons r rr=>
  rw [hs]
  refine assignInOrder_cons (thn (h1 pins s σ H _ _ _ I r h) fun _ s1 ⟨σ1,H1,I1,q1⟩=>?_)
  exact h2 pins s1 σ1 H1 _ _ Q I1 rr q1
noncomputable def VC (K:PySem.W.Frag)(n:Nat)(t:TGs):TG:=fun v σ H Q=>∃ a xs,v=.ref a/\SqT K H a xs/\xs.length=n/\t xs σ H Q
theorem DJ {es:List Expr}{k:Nat}{t:TGs}{n:Nat}(hc:X.calm=true)(h:PGs X es t)
  (hn:(assignEach es X.env).length=n:=by rfl) (hst:(assignEach es X.env).findIdx? (·.1)=none:=by rfl):PG X (.Tuple es k pos) (VC X.K n t):=by
 intro pins s σ H v u Q I r hw
 obtain ⟨a,xs,e1,hq,hl,hw⟩:=hw
 subst e1
 cases r
 obtain ⟨its,rv,ht,hz⟩:=I.tuple hq
 refine assign_Tuple_tuple (I.ok.hd hc) ht (by simp [hn,<- hl,rv.length]) hst fun h' hx=>?_
 have I1:Inv X pins σ H { s with heap:=h' }:=I.kept (t':=s.toks) fun b o e=>hx b o (Nat.ne_of_lt (Heap.lt_size e)) e
 exact h pins _ σ H xs _ Q I1 (by simpa using rv) hw
noncomputable def EE (to ti:TE)(t:YG):TG:=fun v σ H Q=>to σ H fun o H1=>ti σ H1 fun i H2=>t o i v H2 fun H3=>Q σ H3
theorem jr {o i:Expr}{to ti:TE}{t:YG}(ho:PE X o to)(hi:PE X i ti)(hs:Eo X t)
  (ha:∀ v,assign (.Subscript o i pos) X.env v=(do
   let ov <- holding [v] (eval o X.env)
   let iv <- holding [v,ov] (eval i X.env)
   standAt pos
   holding [v,ov,iv] (setItem ov iv v)
   release [v,ov,iv] []):=by intro _;rfl):PG X (.Subscript o i pos) (EE to ti t):=by
 intro pins s σ H v u Q I r h
 rw [ha]
 refine wpAny_bind (wpAny_holding (thn (ho pins s σ H _ I h) fun ov s1 ⟨x,H1,I1,r1,q1⟩=>?_))
 refine wpAny_bind (wpAny_holding (thn (hi pins s1 σ H1 _ I1 q1) fun iv s2 ⟨y,H2,I2,r2,q2⟩=>?_))
 refine wpAny_bind (wpAny_standAt (wpAny_bind (wpAny_holding (thn (hs pins s2 σ H2 x y v ov iv u _ I2 r1 r2 r q2) fun _ s3 ⟨H3,I3,q3⟩=>?_))))
 exact wpAny_release ⟨σ,H3,I3,q3⟩
noncomputable def Yc (te:TE)(g:TG):TS:=fun D σ H=>te σ H fun x H1=>g x σ H1 D.nx
theorem jO {tg e:Expr}{te:TE}{g:TG}(he:PE X e te)(hg:PG X tg g)(hs:swapsWithSole [tg] e pos.line X.env=pure false:=by rfl)(hw:swappedStores [tg] e X.env=pure none:=by rfl)
  (h1:(assignEach [tg] X.env).map (·.2)=[assign tg X.env]:=by rfl):PS X (.Assign [tg] e pos) (Yc te g):=by
 intro pins s σ H D I h
 refine wpAny_Assign_stores (thn (he pins s σ H _ I h) fun v s1 ⟨x,H1,I1,r1,q1⟩=>?_) hs hw
 rw [h1]
 exact thn (hg pins s1 σ H1 x v _ I1 r1 q1) fun _ s2 q=>q
theorem zt {i:Nat}{x:Str}{e:Expr}{te:TE}{pos':Pos}(hN:X.N.Nodup)(hi:X.N[i]?=some x)(hx:Loc X.env.scope x)(he:PE X e te)(hs:swapsWith e (some (.Name x pos')) pos.line X.env=pure false:=by rfl)(hf:X.fn x=true \/ X.env.scope.names.lookup x=some .local:=by first | exact .inl rfl | exact .inr rfl | assumption) :
  PS X (.Assign [.Name x pos'] e pos) (Yc te (QU i)):=by
 intro pins s σ H D I h
 refine wpAny_Assign_Name (thn (he pins s σ H _ I h) fun v s1 ⟨y,H1,I1,r1,q1⟩=>?_) hs
 exact yk I1 hN hi hx r1 (fun s2 I2=>⟨_,H1,I2,q1⟩) hf
noncomputable def E4 (i j:Nat)(ta:TA):TS:=fun D σ H=>ta σ H fun vs H1=>∃ v w,vs=[v,w]/\D.nx ((σ.set i (some v)).set j (some w)) H1
theorem vY {i j:Nat}{x y:Str}{a b:Expr}{ta:TA}{px py pt:Pos}{kt k2 pt2}(hc:X.calm=true)(hN:X.N.Nodup)(hi:X.N[i]?=some x)(hj:X.N[j]?=some y)(hij:i ≠ j)
  (hx:X.env.scope.names.lookup x=some .local) (hy:X.env.scope.names.lookup y=some .local) (ha:PA X [a,b] ta)
  (hw:swappedStores [.Tuple [.Name x px,.Name y py] kt pt] (.Tuple [a,b] k2 pt2) X.env=pure (some [x,y]))
  (hs:swapsWithSole [.Tuple [.Name x px,.Name y py] kt pt] (.Tuple [a,b] k2 pt2) pos.line X.env=pure false:=by rfl) :
  PS X (.Assign [.Tuple [.Name x px,.Name y py] kt pt] (.Tuple [a,b] k2 pt2) pos) (E4 i j ta):=by
 intro pins s σ H D I h
 rw [exec_Assign_arm]
 refine wpAny_bind (wpAny_standAt ?_)
 rw [hs]
 refine wpAny_bind (wpAny_pure ?_)
 rw [if_neg (by decide)]
 refine wpAny_bind (Tuple_ (thn (ha _ pins s σ H _ I h) fun us s1 ⟨vs,H1,I1,r1,q1⟩=>?_))
 obtain ⟨v,w,e1,q1⟩:=q1
 subst e1
 obtain ⟨u1,u2,rfl,rv,rw'⟩:∃ u1 u2,us=[u1,u2]/\zF v u1/\zF w u2:=by
  cases r1 with
  | cons p q=>
   cases q with
   | cons p' q'=>
    cases q'
    exact ⟨_,_,rfl,p,p'⟩
 refine wpAny_newObj_type ?_ (by show 2<=sizeLine;decide)
 have I2:Inv X pins σ H1 { s1 with heap:=s1.heap.push { cls:=.type "tuple",data:=.seq [u1,u2].toArray } }:=I1.kept (t':=s1.toks) fun b o e=>Heap.get?_push_of_some _ e
 rw [hw]
 refine wpAny_bind (wpAny_pure ?_)
 show wpAny (model X.prog X.w) X.A (do rule "assign.swapped-stores";let items <- unpackItems (.ref s1.heap.objs.size) 2 none;assignInOrder [fun v=>bindName X.env y v,fun v=>bindName X.env x v] items.reverse;pure Flow.next) _ _ _
 refine wpAny_bind (wpAny_rule (wpAny_bind (unpackItems_tuple (items:=#[u1,u2]) (I.ok.hd hc) (IsTup.new s1.heap _) fun h' hx'=>?_)))
 have I3:=I2.kept (h':=h') (t':=s1.toks) fun b o e=>hx' b o (Nat.ne_of_lt (Heap.lt_size e)) e
 show wpAny _ _ (assignInOrder [fun v=>bindName X.env y v,fun v=>bindName X.env x v] [u2,u1] >>= fun _=>pure Flow.next) _ _ _
 refine wpAny_bind (assignInOrder_cons (wpAny_bindName (yk I3 hN hj (.inl hy) rw' (fun s2 I4=>?_) (.inr hy))))
 refine assignInOrder_cons (wpAny_bindName (yk I4 hN hi (.inl hx) rv (fun s3 I5=>assignInOrder_nil (wpAny_pure ?_)) (.inr hx)))
 rw [List.set_comm _ _ (Ne.symm hij)] at I5
 exact ⟨_,H1,I5,q1⟩
end
section
variable {X:Cx}{pos:Pos}
noncomputable def Kj (c:TT)(tb:TS):TS:=fun D σ H=>∃ W:Nat->St->Hp->Prop,(∃ m,W m σ H)/\∀ m σ H,W m σ H ->
 c σ H fun b H1=>if b=true then ∃ N:St->Hp->Prop,(∀ σ' H',N σ' H'->∃ m',m'<m/\W m' σ' H')/\tb { D with nx:=N,ct:=N,bk:=D.nx } σ H1 else D.nx σ H1
theorem Qy {c:Expr}{body:List Stmt}{tc:TT}{tb:TS}(hp:PassesOwn (model X.prog X.w) X.A X.env X.xe)(hc:PT X c tc)(hb:PSs X body tb):PS X (.While c body [] pos) (Kj tc tb):=by
 intro pins s σ H D I h
 obtain ⟨W,⟨m0,w0⟩,turn⟩:=h
 refine wpAny_While (codeAny_whileLoop (fun n s'=>∃ σ' H',Inv X pins σ' H' s'/\W n σ' H') ?_ m0 ⟨σ,H,I,w0⟩)
 rintro n s1 ⟨σ1,H1,I1,w1⟩
 refine wpAny_passesOwn hp (thn (hc pins s1 σ1 H1 _ I1 (turn n σ1 H1 w1)) fun b s2 ⟨H2,I2,q2⟩=>?_)
 cases b with
 | true=>
  obtain ⟨N,hN,q2⟩:=q2
  rw [if_pos rfl]
  refine wpAny_passesOwn hp (thn (hb pins s2 σ1 H2 _ I2 q2) fun f s3 q3=>?_)
  cases f with
  | next=>
   obtain ⟨σ3,H3,I3,n3⟩:=q3
   obtain ⟨m',hm,w3⟩:=hN σ3 H3 n3
   exact ⟨m',hm,σ3,H3,I3,w3⟩
  | cont=>
   obtain ⟨σ3,H3,I3,n3⟩:=q3
   obtain ⟨m',hm,w3⟩:=hN σ3 H3 n3
   exact ⟨m',hm,σ3,H3,I3,w3⟩
  | brk=>exact q3
  | ret v=>exact q3
 | false=>
  rw [if_neg Bool.false_ne_true]
  exact wpAny_execs_nil ⟨σ1,H2,I2,q2⟩
end
structure It where
 go:Nat->Hp->Prop
 yld:Nat->Hp->V->Hp->Prop
 stop:Nat->Hp->Prop
noncomputable def yZ (X:Cx)(pins:List (Addr × Obj))(H:Hp)(b:Addr):Prop:=
 H b=none/\b ≠ X.env.locals/\b ∉ X.fs/\(b ∈ X.ex \/ X.s₀.heap.objs.size<=b)/\(∀ x c,X.env.cells.lookup x=some c->c ≠ b)/\∀ p ∈ X.pn ++ pins,p.1 ≠ b
theorem Inv.fpOk {X:Cx}{pins:List (Addr × Obj)}{σ:St}{H H':Hp}{s:Shared}{b:Addr}(I:Inv X pins σ H s)(hb:s.heap.objs.size<=b)(hn:H' b=none):yZ X pins H' b:=by
 refine ⟨hn,Nat.ne_of_gt (Nat.lt_of_lt_of_le I.lt hb),I.nofs hb,.inr (Nat.le_trans I.sz hb),fun x c e z=>?_,fun p hp z=>?_⟩
 ·obtain ⟨v,q⟩:=I.cell x c e
  exact absurd (Nat.lt_of_lt_of_le q.lt (by rw [z];exact hb)) (Nat.lt_irrefl _)
 ·exact absurd (Nat.lt_of_lt_of_le (Heap.lt_size (I.pin p hp).1) (by rw [z];exact hb)) (Nat.lt_irrefl _)
structure Ql (P:Program)(w:World)(K:PySem.W.Frag)(tg:Expr)(J:It)(fp:List Addr)(it:Addr)(tn:Nat->Heap->Prop):Prop where
 mem:it ∈ fp
 obj:∀ i h,tn i h->∀ b ∈ fp,∃ o,h.get? b=some o/\∀ v,o.data ≠ .cell v
 keep:∀ i h h',tn i h->(∀ b ∈ fp,∀ o,h.get? b=some o->h'.get? b=some o)->tn i h'
 item:∀ (X:Cx),X.prog=P->X.w=w->X.K=K->X.calm=true->∀ (i:Nat) (pins:List (Addr × Obj)) (s:Shared) (σ:St) (H:Hp) (E:Value->Shared->Prop),Inv X pins σ H s->(∀ b ∈ fp,yZ X pins H b)->tn i s.heap->J.go i H ->
  wpAny (model P w) X.A (pyNext (.ref it)) (fun r s1=>∃ u,r=some u /\
   wpAny (model P w) X.A (letOwnedTupleGo tg (.ref it) u) (fun _ s2=>∃ x H',Inv X pins σ H' s2/\zF x u/\J.yld i H x H'/\tn (i+1) s2.heap/\∀ b ∈ fp,H' b=none) E s1) E s
 done:∀ (X:Cx),X.prog=P->X.w=w->X.K=K->X.calm=true->∀ (i:Nat) (pins:List (Addr × Obj)) (s:Shared) (σ:St) (H:Hp) (E:Value->Shared->Prop),Inv X pins σ H s->(∀ b ∈ fp,yZ X pins H b)->tn i s.heap->J.stop i H ->
  wpAny (model P w) X.A (pyNext (.ref it)) (fun r s1=>r=none/\Inv X pins σ H s1) E s
 self:∀ (A:Around) (i:Nat) (s:Shared) (Q:Value->Shared->Prop) (E:Value->Shared->Prop),tn i s.heap->Q (.ref it) s->wpAny (model P w) A (pyIter (.ref it)) Q E s
noncomputable abbrev TI:=St->Hp->(It->Hp->Prop)->Prop
noncomputable def PIE (X:Cx)(pins:List (Addr × Obj))(σ:St)(tg:Expr)(R:It->Hp->Prop)(itv:Value)(s2:Shared):Prop:=
 ∃ (it:Addr) (fp:List Addr) (tn:Nat->Heap->Prop) (J:It) (H':Hp),itv=.ref it/\Inv X pins σ H' s2/\Ql X.prog X.w X.K tg J fp it tn/\tn 0 s2.heap/\(∀ b ∈ fp,yZ X pins H' b)/\R J H'
noncomputable def PI (X:Cx)(tg iter:Expr)(wi:TI):Prop:=
 ∀ (pins:List (Addr × Obj)) (s:Shared) (σ:St) (H:Hp) (R:It->Hp->Prop),Inv X pins σ H s->wi σ H R ->
  wpAny (model X.prog X.w) X.A (eval iter X.env) (fun v s1=>wpAny (model X.prog X.w) X.A (pyIter v) (PIE X pins σ tg R) X.xe s1) X.xe s
theorem WJ {M : Model}{A : Around}{E : Value -> Shared -> Prop}{s : Shared}{tg : Expr}{it : Addr}{u : Value}{o : Obj}{n : String}{vs : Array Value}{Q : Unit -> Shared -> Prop}(ho : s.heap.get? it = some o)(hc : o.cls = .type n)(hd : o.data = .fields vs)
    (hn:["enumerate","zip","dict_itemiterator","dict_reverseitemiterator","odict_iterator","itertools.zip_longest","itertools.pairwise"].contains n=false) (hQ:Q () s):wpAny M A (letOwnedTupleGo tg (.ref it) u) Q E s:=by
  unfold letOwnedTupleGo
  cases tg <;> first
    | exact wpAny_pure hQ
    | (cases u <;> first
        | exact wpAny_pure hQ
        | (refine wpAny_bind (wpAny_load ho ?_)
           rw [hc,hd]
           show wpAny M A (if (["enumerate","zip","dict_itemiterator","dict_reverseitemiterator","odict_iterator","itertools.zip_longest","itertools.pairwise"].contains n && vs[0]? == some (rawInt _))=true then _ else _) Q E s
           rw [if_neg (by intro h;rw [hn,Bool.false_and] at h;cases h)]
           exact wpAny_pure hQ))
noncomputable def Itl (K:PySem.W.Frag)(a:Addr):It:=
 ⟨fun i H=>∃ xs x,SqL K H a xs/\xs[i]?=some x,fun i H x H'=>H'=H/\∀ xs,SqL K H a xs->xs[i]?=some x,fun i H=>∃ xs,SqL K H a xs/\xs.length<=i⟩
noncomputable def Itt (K:PySem.W.Frag)(a:Addr):It:=
 ⟨fun i H=>∃ xs x,SqT K H a xs/\xs[i]?=some x,fun i H x H'=>H'=H/\∀ xs,SqT K H a xs->xs[i]?=some x,fun i H=>∃ xs,SqT K H a xs/\xs.length<=i⟩
noncomputable def Itr (lo:Int)(n:Nat):It:=⟨fun i _=>i<n,fun i H x H'=>H'=H/\x=.int (lo+i),fun i _=>n<=i⟩
theorem wu {P:Program}{w:World}{K:PySem.W.Frag}{tg:Expr}(a it:Addr):Ql P w K tg (Itl K a) [it] it (fun i h=>h.IsListIter it a i) where
 mem:=by simp
 obj:=fun i h st b hb=>by
  have e:b=it:=by simpa using hb
  subst e
  obtain ⟨o,e,c,d⟩:=st
  exact ⟨o,e,fun v z=>by rw [d] at z;cases z⟩
 keep:=fun i h h' st k=>st.at fun o e=>k it (by simp) o e
 item:=by
  intro X hP hw hK hc i pins s σ H E I hf st hg
  subst hP hw hK
  obtain ⟨xs,x,hq,hx⟩:=hg
  obtain ⟨its,rv,p,hz⟩:=I.list hq
  obtain ⟨u,hu,ru⟩:=rv.get hx
  obtain ⟨f0,f1,f2,f3,f4,f5⟩:=hf it (by simp)
  refine wpAny_pyNext_list_item st p.isList (x:=u) (by simpa using hu) fun h' st' sb=>?_
  have I1:Inv X pins σ H { s with heap:=h' }:=I.turned (t':=s.toks) (fun b o hb e=>(sb.2 b hb).trans e) f0 f1 f3 f4 f5
  obtain ⟨o,e,c,d⟩:=id st'
  exact ⟨u,rfl,WJ (s:={ s with heap:=h' }) e c d (by decide) ⟨x,H,I1,ru,⟨rfl,fun ys hy=>by rw [I.list_inj hy hq];exact hx⟩,st',fun b hb=>(hf b hb).1⟩⟩
 done:=by
  intro X hP hw hK hc i pins s σ H E I hf st hg
  subst hP hw hK
  obtain ⟨xs,hq,hx⟩:=hg
  obtain ⟨its,rv,p,hz⟩:=I.list hq
  obtain ⟨f0,f1,f2,f3,f4,f5⟩:=hf it (by simp)
  have hl:=rv.length
  exact wpAny_pyNext_list_end (I.ok.hd hc) st p.isList (by simp;walk_at "o") fun h' eb=>⟨rfl,I.turned (t':=s.toks) (fun b o hb e=>eb b o hb e) f0 f1 f3 f4 f5⟩
 self:=fun _ _ _ _ _ st h=>wpAny_pyIter_listiter st h
theorem Kh {P:Program}{w:World}{K:PySem.W.Frag}{tg:Expr}(a it:Addr):Ql P w K tg (Itt K a) [it] it (fun i h=>h.IsTupleIter it a i) where
 mem:=by simp
 obj:=fun i h st b hb=>by
  have e:b=it:=by simpa using hb
  subst e
  obtain ⟨o,e,c,d⟩:=st
  exact ⟨o,e,fun v z=>by rw [d] at z;cases z⟩
 keep:=fun i h h' st k=>st.at fun o e=>k it (by simp) o e
 item:=by
  intro X hP hw hK hc i pins s σ H E I hf st hg
  subst hP hw hK
  obtain ⟨xs,x,hq,hx⟩:=hg
  obtain ⟨its,rv,p,hz⟩:=I.tuple hq
  obtain ⟨u,hu,ru⟩:=rv.get hx
  obtain ⟨f0,f1,f2,f3,f4,f5⟩:=hf it (by simp)
  refine wpAny_pyNext_tuple_item st (show s.heap.IsTuple a its.toArray from p) (x:=u) (by simpa using hu) fun h' st' sb=>?_
  have I1:Inv X pins σ H { s with heap:=h' }:=I.turned (t':=s.toks) (fun b o hb e=>(sb.2 b hb).trans e) f0 f1 f3 f4 f5
  obtain ⟨o,e,c,d⟩:=id st'
  exact ⟨u,rfl,WJ (s:={ s with heap:=h' }) e c d (by decide) ⟨x,H,I1,ru,⟨rfl,fun ys hy=>by rw [I.tuple_inj hy hq];exact hx⟩,st',fun b hb=>(hf b hb).1⟩⟩
 done:=by
  intro X hP hw hK hc i pins s σ H E I hf st hg
  subst hP hw hK
  obtain ⟨xs,hq,hx⟩:=hg
  obtain ⟨its,rv,p,hz⟩:=I.tuple hq
  obtain ⟨f0,f1,f2,f3,f4,f5⟩:=hf it (by simp)
  have hl:=rv.length
  exact wpAny_pyNext_tuple_end (I.ok.hd hc) st (show s.heap.IsTuple a its.toArray from p) (by simp;walk_at "o") fun h' eb=>⟨rfl,I.turned (t':=s.toks) (fun b o hb e=>eb b o hb e) f0 f1 f3 f4 f5⟩
 self:=fun _ _ _ _ _ st h=>wpAny_pyIter_tupleiter st h
theorem Ju {P:Program}{w:World}{K:PySem.W.Frag}{tg:Expr}(it:Addr)(lo:Int)(n:Nat):Ql P w K tg (Itr lo n) [it] it (fun i h=>IsRangeIter h it (lo+(i:Nat) * 1) ((n:Int) - (i:Nat)) 1) where
 mem:=by simp
 obj:=fun i h st b hb=>by
  have e:b=it:=by simpa using hb
  subst e
  exact ⟨_,st,fun v z=>by
   have z':Data.fields _=Data.cell v:=z
   cases z'⟩
 keep:=fun i h h' st k=>k it (by simp) _ st
 item:=by
  intro X hP hw hK hc i pins s σ H E I hf st hg
  subst hP hw hK
  obtain ⟨f0,f1,f2,f3,f4,f5⟩:=hf it (by simp)
  have W:=Walks.range (prog:=X.prog) (w:=X.w) (I.ok.hd hc) it lo 1 n
  refine W.item i s _ _ hg st fun v h' tk hv st' kk=>?_
  obtain ⟨t,rfl⟩:=hv
  have I1:Inv X pins σ H { s with heap:=h',toks:=tk }:=I.turned (fun b o hb e=>kk b o (by simpa using hb) e) f0 f1 f3 f4 f5
  refine ⟨_,rfl,WJ (s:={ s with heap:=h',toks:=tk }) (n:="range_iterator") st' rfl rfl (by decide) ⟨.int (lo+i),H,I1,⟨t,?_⟩,⟨rfl,rfl⟩,st',fun b hb=>(hf b hb).1⟩⟩
  rw [Int.mul_one]
 done:=by
  intro X hP hw hK hc i pins s σ H E I hf st hg
  subst hP hw hK
  obtain ⟨f0,f1,f2,f3,f4,f5⟩:=hf it (by simp)
  exact wpAny_pyNext_range_end (I.ok.hd hc) st (by have:n<=i:=hg;walk_at "o") fun h' eb=>⟨rfl,I.turned (t':=s.toks) (fun b o hb e=>eb b o hb e) f0 f1 f3 f4 f5⟩
 self:=fun _ _ _ _ _ st h=>wpAny_pyIter_rangeiter st h
section
variable {X:Cx}{tg:Expr}
noncomputable def Dk (K:PySem.W.Frag)(tl:TE):TI:=fun σ H R=>tl σ H fun x H1=>∃ a,x=.ref a/\(∃ xs,SqL K H1 a xs)/\R (Itl K a) H1
theorem BM {l:Expr}{tl:TE}(hl:PE X l tl):PI X tg l (Dk X.K tl):=by
 intro pins s σ H R I h
 refine thn (hl pins s σ H _ I h) fun v s1 ⟨x,H1,I1,r1,q1⟩=>?_
 obtain ⟨a,e,⟨xs,hq⟩,q⟩:=q1
 subst e
 cases r1
 obtain ⟨its,rv,p,hz⟩:=I1.list hq
 refine wpAny_pyIter_list p.isList ?_
 refine ⟨s1.heap.objs.size,[s1.heap.objs.size],_,_,H1,rfl,I1.kept (t':=s1.toks) fun b o e=>Heap.get?_push_of_some _ e,wu a _,⟨_,Heap.get?_push_size _ rfl,rfl,rfl⟩,fun b hb=>?_,q⟩
 have e:b=s1.heap.objs.size:=by simpa using hb
 subst e
 exact I1.fpOk (Nat.le_refl _) (I1.hok.fresh (Nat.le_refl _))
theorem V6 {pins:List (Addr × Obj)}{σ:St}{H:Hp}{s:Shared}{R:It->Hp->Prop}{E:Value->Shared->Prop}{lo hi:Int}{t u v:Tok}{tk:Nat}(I:Inv X pins σ H s)(h1:-(2 ^ 62)<=lo)(h2:lo<2 ^ 62)(h3:-(2 ^ 62)<=hi)(h4:hi<2 ^ 62)
  (q:R (Itr lo (hi - lo).toNat) H):wpAny (model X.prog X.w) X.A (pyIter (.ref s.heap.objs.size)) (PIE X pins σ tg R) E { s with heap:=s.heap.push { cls:=.type "range",data:=.fields #[.int lo t,.int hi u,.int 1 v] },toks:=tk }:=by
 refine wpAny_pyIter_range (IsRange.new ..) (small_one h1 h2 h3 h4) ?_
 have I1:Inv X pins σ H { s with heap:=s.heap.push { cls:=.type "range",data:=.fields #[.int lo t,.int hi u,.int 1 v] },toks:=tk }:=I.kept fun b o e=>Heap.get?_push_of_some _ e
 refine ⟨(s.heap.push { cls:=.type "range",data:=.fields #[.int lo t,.int hi u,.int 1 v] }).objs.size,[(s.heap.push { cls:=.type "range",data:=.fields #[.int lo t,.int hi u,.int 1 v] }).objs.size],_,_,H,rfl,
  I1.kept (t':=tk) fun b o e=>Heap.get?_push_of_some _ e,Ju _ lo (hi - lo).toNat,?_,fun b hb=>?_,q⟩
 ·have e1:lo+((0:Nat):Int) * 1=lo:=by simp
  have e2:(((hi - lo).toNat:Nat):Int) - ((0:Nat):Int)=Builtin.Range.rangeSize lo hi 1:=by rw [rangeSize_one];split <;> walk_at "o"
  show IsRangeIter _ _ (lo+((0:Nat):Int) * 1) ((((hi - lo).toNat:Nat):Int) - ((0:Nat):Int)) 1
  rw [e1,e2]
  exact Heap.get?_push_size _ rfl
 ·have e:b=(s.heap.push { cls:=.type "range",data:=.fields #[.int lo t,.int hi u,.int 1 v] }).objs.size:=by simpa using hb
  subst e
  exact I1.fpOk (Nat.le_refl _) (I1.hok.fresh (Nat.le_refl _))
noncomputable def Wx (ta:TA):TI:=fun σ H R=>ta σ H fun vs H1=>∃ j:Int,vs=[.int j]/\-(2 ^ 62)<=j/\j<2 ^ 62/\R (Itr 0 j.toNat) H1
theorem qS {a:Expr}{ta:TA}{p pos:Pos}(hg:Gl X "range")(hm:X.mg "range"=none)(ha:PA X [a] ta)(hs:starEach [a] X.env=[(false,eval a X.env)]:=by rfl):PI X tg (.Call (.Name "range" p) [a] [] pos) (Wx ta):=by
 intro pins s σ H R I h
 refine Call_ (kJ I hg hm boot_range (PyProof.Rows.callWith_type1 (thn (ha pos pins s σ H _ I h) fun us s1 ⟨vs,H1,I1,r1,q1⟩=>?_) hs rfl))
 obtain ⟨j,e,q1,q2,q⟩:=q1
 subst e
 cases r1 with
 | cons r rr=>
  cases rr
  obtain ⟨t,rfl⟩:=r
  exact call_range_1 (V6 I1 (by walk_at "o") (by walk_at "o") q1 q2 (by simpa using q))
noncomputable def FG (wi:TI)(g:TG)(tb:TS):TS:=fun D σ H=>wi σ H fun J H1=>∃ W:Nat->Nat->St->Hp->Prop,(∃ m,W 0 m σ H1)/\∀ i m σ H,W i m σ H ->
 (J.stop i H/\D.nx σ H) \/ (J.go i H/\∃ N:St->Hp->Prop,(∀ σ' H',N σ' H'->∃ m',m'<m/\W (i+1) m' σ' H')/\∀ x H',J.yld i H x H'->g x σ H' fun σ2 H2=>tb { D with nx:=N,ct:=N,bk:=D.nx } σ2 H2)
noncomputable def v9 (fp:List Addr)(h:Heap):List (Addr × Obj):=fp.filterMap fun b=>(h.get? b).map fun o=>(b,o)
theorem ku {fp:List Addr}{h:Heap}{b:Addr}{o:Obj}(hb:b ∈ fp)(e:h.get? b=some o):(b,o) ∈ v9 fp h:=List.mem_filterMap.mpr ⟨b,hb,by rw [e];rfl⟩
theorem Yn {fp:List Addr}{h:Heap}{p:Addr × Obj}(hp:p ∈ v9 fp h):p.1 ∈ fp/\h.get? p.1=some p.2:=by
 obtain ⟨b,hb,e⟩:=List.mem_filterMap.mp hp
 cases q:h.get? b with
 | none=>rw [q] at e;cases e
 | some o=>
  rw [q] at e
  have e':(b,o)=p:=Option.some.inj e
  subst e'
  exact ⟨hb,q⟩
theorem Inv.pinned {pins:List (Addr × Obj)}{σ:St}{H:Hp}{s:Shared}{fp:List Addr}(I:Inv X pins σ H s)(hf:∀ b ∈ fp,yZ X pins H b)(ho:∀ b ∈ fp,∃ o,s.heap.get? b=some o/\∀ v,o.data ≠ .cell v):Inv X (pins ++ v9 fp s.heap) σ H s:=
 I.pins_of fun p hp=>(List.mem_append.mp hp).elim (fun z=>I.pin p (List.mem_append_right _ z)) fun z=>by
  obtain ⟨hb,e⟩:=Yn z
  obtain ⟨f0,f1,f2,_⟩:=hf p.1 hb
  obtain ⟨o,e',d⟩:=ho p.1 hb
  rw [e] at e';cases e'
  exact ⟨e,f0,f1,f2,d⟩
theorem Inv.unpinned {pins pl:List (Addr × Obj)}{σ:St}{H:Hp}{s:Shared}(I:Inv X (pins ++ pl) σ H s):Inv X pins σ H s:=I.pins_of fun p hp=>I.pin p (List.mem_append_right _ (List.mem_append_left _ hp))
theorem jf {iter:Expr}{body:List Stmt}{wi:TI}{g:TG}{tb:TS}{pos:Pos}(hp:PassesOwn (model X.prog X.w) X.A X.env X.xe)(hc:X.calm=true)(hi:PI X tg iter wi)(hg:PG X tg g)(hb:PSs X body tb)
  (hs:∀ x,foldedSetIterable iter X.env x=pure x:=by intro _;rfl):PS X (.For tg iter body [] pos) (FG wi g tb):=by
 intro pins s σ H D I h
 refine wpAny_For (thn (hi pins s σ H _ I h) fun v s1 h1=>thn h1 fun itv s2 h2=>?_) hs
 obtain ⟨it,fp,tn,J,H2,e,I2,T,st2,f2,W,⟨m0,w0⟩,turn⟩:=h2
 subst e
 have stat:∀ {H':Hp},(∀ b ∈ fp,H' b=none)->∀ b ∈ fp,yZ X pins H' b:=fun hn b hb=>⟨hn b hb,(f2 b hb).2⟩
 refine codeAny_forLoop_any (fun n s'=>∃ i σ' H',Inv X pins σ' H' s'/\tn i s'.heap/\(∀ b ∈ fp,H' b=none)/\W i n σ' H') ?_ m0 ⟨0,σ,H2,I2,st2,fun b hb=>(f2 b hb).1,w0⟩
 rintro n s3 ⟨i,σ3,H3,I3,st3,fr3,w3⟩
 rcases turn i n σ3 H3 w3 with ⟨stop,qn⟩ | ⟨go,N,hN,step⟩
 ·refine wpAny_passesOwn hp (thn (T.done X rfl rfl rfl hc i pins s3 σ3 H3 X.xe I3 (stat fr3) st3 stop) fun r s4 ⟨hr,I4⟩=>?_)
  subst hr
  exact wpAny_execs_nil ⟨σ3,H3,I4,qn⟩
 ·refine wpAny_passesOwn hp (thn (T.item X rfl rfl rfl hc i pins s3 σ3 H3 X.xe I3 (stat fr3) st3 go) fun r s4 ⟨u,hr,h4⟩=>?_)
  subst hr
  refine wpAny_passesOwn hp (thn h4 fun _ s5 ⟨x,H5,I5,r5,y5,st5,fr5⟩=>?_)
  have I5':=I5.pinned (stat fr5) (T.obj _ _ st5)
  refine wpAny_passesOwn hp (thn (hg _ s5 σ3 H5 x u _ I5' r5 (step x H5 y5)) fun _ s6 ⟨σ6,H6,I6,q6⟩=>?_)
  refine wpAny_passesOwn hp (thn (hb _ s6 σ6 H6 _ I6 q6) fun f s7 q7=>?_)
  have again:∀ {σ7:St} {H7:Hp},Inv X (pins ++ v9 fp s5.heap) σ7 H7 s7->N σ7 H7->∃ m,m<n/\∃ i σ' H',Inv X pins σ' H' s7/\tn i s7.heap/\(∀ b ∈ fp,H' b=none)/\W i m σ' H':=fun {σ7 H7} I7 n7=>by
   obtain ⟨m',hm,w7⟩:=hN σ7 H7 n7
   refine ⟨m',hm,i+1,σ7,H7,I7.unpinned,T.keep _ _ _ st5 fun b hb o e=>(I7.pin (b,o) (List.mem_append_right _ (List.mem_append_right _ (ku hb e)))).1,fun b hb=>?_,w7⟩
   obtain ⟨o,e,d⟩:=T.obj _ _ st5 b hb
   exact (I7.pin (b,o) (List.mem_append_right _ (List.mem_append_right _ (ku hb e)))).2.1
  cases f with
  | next=>obtain ⟨σ7,H7,I7,n7⟩:=q7;exact again I7 n7
  | cont=>obtain ⟨σ7,H7,I7,n7⟩:=q7;exact again I7 n7
  | brk=>obtain ⟨σ7,H7,I7,q7⟩:=q7;exact ⟨σ7,H7,I7.unpinned,q7⟩
  | ret v=>obtain ⟨x7,σ7,H7,I7,r7,q7⟩:=q7;exact ⟨x7,σ7,H7,I7.unpinned,r7,q7⟩
end
theorem V9 {K:PySem.W.Frag}{a:Addr}{xs:List V}{g:TG}{tb:TS}{D:kF}{σ:St}{H:Hp}(Pv:Nat->St->Hp->Prop)(h0:Pv 0 σ H)(hl:∀ i σ H,i<=xs.length->Pv i σ H->SqL K H a xs)
  (hs:∀ i x σ H,xs[i]?=some x->Pv i σ H->g x σ H fun σ2 H2=>tb { D with nx:=Pv (i+1),ct:=Pv (i+1),bk:=D.nx } σ2 H2) (hd:∀ σ H,Pv xs.length σ H->D.nx σ H) :
  ∃ W:Nat->Nat->St->Hp->Prop,(∃ m,W 0 m σ H)/\∀ i m σ H,W i m σ H ->
   ((Itl K a).stop i H/\D.nx σ H) \/ ((Itl K a).go i H/\∃ N:St->Hp->Prop,(∀ σ' H',N σ' H'->∃ m',m'<m/\W (i+1) m' σ' H')/\∀ x H',(Itl K a).yld i H x H'->g x σ H' fun σ2 H2=>tb { D with nx:=N,ct:=N,bk:=D.nx } σ2 H2):=by
 refine ⟨fun i m σ H=>m=xs.length - i/\i<=xs.length/\Pv i σ H,⟨xs.length,by simp,Nat.zero_le _,h0⟩,?_⟩
 rintro i m σ H ⟨rfl,hi,p⟩
 have q:=hl i σ H hi p
 by_cases hlt:i<xs.length
 ·refine .inr ⟨⟨xs,xs[i],q,by simp [hlt]⟩,Pv (i+1),fun σ' H' p'=>⟨xs.length - (i+1),by walk_at "o",rfl,hlt,p'⟩,fun x H' y=>?_⟩
  obtain ⟨e,y⟩:=y
  subst e
  exact hs i x σ _ (y xs q) p
 ·have e:i=xs.length:=by walk_at "o"
  subst e
  exact .inl ⟨⟨xs,q,Nat.le_refl _⟩,hd σ H p⟩
theorem X8 {lo:Int}{n:Nat}{g:TG}{tb:TS}{D:kF}{σ:St}{H:Hp}(Pv:Nat->St->Hp->Prop)(h0:Pv 0 σ H)
  (hs:∀ i σ H,i<n->Pv i σ H->g (.int (lo+i)) σ H fun σ2 H2=>tb { D with nx:=Pv (i+1),ct:=Pv (i+1),bk:=D.nx } σ2 H2) (hd:∀ σ H,Pv n σ H->D.nx σ H) :
  ∃ W:Nat->Nat->St->Hp->Prop,(∃ m,W 0 m σ H)/\∀ i m σ H,W i m σ H ->
   ((Itr lo n).stop i H/\D.nx σ H) \/ ((Itr lo n).go i H/\∃ N:St->Hp->Prop,(∀ σ' H',N σ' H'->∃ m',m'<m/\W (i+1) m' σ' H')/\∀ x H',(Itr lo n).yld i H x H'->g x σ H' fun σ2 H2=>tb { D with nx:=N,ct:=N,bk:=D.nx } σ2 H2):=by
 refine ⟨fun i m σ H=>m=n - i/\i<=n/\Pv i σ H,⟨n,by simp,Nat.zero_le _,h0⟩,?_⟩
 rintro i m σ H ⟨rfl,hi,p⟩
 by_cases hlt:i<n
 ·refine .inr ⟨hlt,Pv (i+1),fun σ' H' p'=>⟨n - (i+1),by walk_at "o",rfl,hlt,p'⟩,fun x H' y=>?_⟩
  obtain ⟨e,y⟩:=y
  subst e y
  exact hs i σ _ hlt p
 ·have e:i=n:=by walk_at "o"
  subst e
  exact .inl ⟨Nat.le_refl _,hd σ H p⟩
theorem YF {c:TT}{tb:TS}{D:kF}{σ:St}{H:Hp}(Pv:St->Hp->Prop)(μ:St->Hp->Nat)(h0:Pv σ H)
  (hs:∀ σ H,Pv σ H->c σ H fun b H1=>if b=true then tb { D with nx:=fun σ' H'=>Pv σ' H'/\μ σ' H'<μ σ H,ct:=fun σ' H'=>Pv σ' H'/\μ σ' H'<μ σ H,bk:=D.nx } σ H1 else D.nx σ H1)
  (mono:∀ σ H Q Q',(∀ b H1,Q b H1->Q' b H1)->c σ H Q->c σ H Q'):Kj c tb D σ H:=by
 refine ⟨fun m σ H=>m=μ σ H/\Pv σ H,⟨_,rfl,h0⟩,?_⟩
 rintro m σ H ⟨rfl,p⟩
 refine mono σ H _ _ (fun b H1 q=>?_) (hs σ H p)
 cases b with
 | true=>exact ⟨_,fun σ' H' ⟨p',l⟩=>⟨_,l,rfl,p'⟩,q⟩
 | false=>exact q
noncomputable abbrev R2:=V->V->Hp->VK->Prop
noncomputable def OpR (X:Cx)(f:Value->Value->Sem Value)(r:R2):Prop:=
 ∀ (pins:List (Addr × Obj)) (s:Shared) (σ:St) (H:Hp) (x y:V) (v u:Value) (Q:VK),Inv X pins σ H s->zF x v->zF y u->r x y H Q ->
  wpAny (model X.prog X.w) X.A (f v u) (EP X pins σ Q) X.xe s
noncomputable def UnR (X:Cx)(f:Value->Sem Value)(r:V->Hp->VK->Prop):Prop:=
 ∀ (pins:List (Addr × Obj)) (s:Shared) (σ:St) (H:Hp) (x:V) (v:Value) (Q:VK),Inv X pins σ H s->zF x v->r x H Q ->
  wpAny (model X.prog X.w) X.A (f v) (EP X pins σ Q) X.xe s
noncomputable def qI (X:Cx)(f:Value)(r:List V->Hp->VK->Prop):Prop:=
 ∀ (pins:List (Addr × Obj)) (s:Shared) (σ:St) (H:Hp) (xs:List V) (us:List Value) (Q:VK),Inv X pins σ H s->zu xs us->r xs H Q ->
  wpAny (model X.prog X.w) X.A (call f us) (EP X pins σ Q) X.xe s
noncomputable def tOp (r:R2)(ta tb:TE):TE:=fun σ H Q=>ta σ H fun x H1=>tb σ H1 fun y H2=>r x y H2 Q
noncomputable def tUn (r:V->Hp->VK->Prop)(ta:TE):TE:=fun σ H Q=>ta σ H fun x H1=>r x H1 Q
noncomputable def rI (C:Int->Int->Prop)(g:Int->Int->V):R2:=fun x y H Q=>∃ i j,x=.int i/\y=.int j/\C i j/\Q (g i j) H
noncomputable def rI0 (g:Int->Int->V):R2:=fun x y H Q=>∃ i j,x=.int i/\y=.int j/\Q (g i j) H
noncomputable def rU (g:Int->V):V->Hp->VK->Prop:=fun x H Q=>∃ i,x=.int i/\Q (g i) H
section
variable {X:Cx}{a b c:Expr}{ta tb tc:TE}{pos:Pos}
theorem E9 (ha:PE X a ta)(hb:PE X b tb){pins:List (Addr × Obj)}{s:Shared}{σ:St}{H:Hp}{R:V->V->Hp->Prop}(I:Inv X pins σ H s)
  (h:ta σ H fun x H1=>tb σ H1 fun y H2=>R x y H2) {Q:Value->Shared->Prop} {f:Value->Value->Sem Value}
  (hf:∀ v u s2 x y H2,Inv X pins σ H2 s2->zF x v->zF y u->R x y H2->wpAny (model X.prog X.w) X.A (f v u) Q X.xe s2) :
  wpAny (model X.prog X.w) X.A (eval a X.env) (fun v s₁=>wpAny (model X.prog X.w) X.A (eval b X.env) (fun u s₂=>wpAny (model X.prog X.w) X.A (f v u) Q X.xe s₂) X.xe s₁) X.xe s:=by
 refine thn (ha pins s σ H _ I h) fun v s1 ⟨x,H1,I1,r1,q1⟩=>?_
 refine thn (hb pins s1 σ H1 _ I1 q1) fun u s2 ⟨y,H2,I2,r2,q2⟩=>?_
 exact hf v u s2 x y H2 I2 r1 r2 q2
theorem zm {op:Operator}{r:R2}(ho:OpR X (binaryOp op) r)(ha:PE X a ta)(hb:PE X b tb):PE X (.BinOp a op b pos) (tOp r ta tb):=by
 intro pins s σ H Q I h
 exact wpAny_BinOp (E9 ha hb I h fun v u s2 x y H2 I2 rx ry q=>ho pins s2 σ H2 x y v u Q I2 rx ry q)
theorem YM {op:UnaryOp}{r:V->Hp->VK->Prop}(ho:UnR X (unaryOp op) r)(ha:PE X a ta):PE X (.UnaryOp op a pos) (tUn r ta):=by
 intro pins s σ H Q I h
 exact UnaryOp_ (thn (ha pins s σ H _ I h) fun v s1 ⟨x,H1,I1,r1,q1⟩=>ho pins s1 σ H1 x v Q I1 r1 q1)
theorem opI {f:Value->Value->Sem Value}{C:Int->Int->Prop}{g:Int->Int->Int}
  (rule:∀ (i j:Int) (t u:Tok) (s:Shared) (Q:Value->Shared->Prop) (E:Value->Shared->Prop),C i j->Q (.int (g i j) s.toks) { s with toks:=s.toks+1 }->wpAny (model X.prog X.w) X.A (f (.int i t) (.int j u)) Q E s) :
  OpR X f (rI C fun i j=>.int (g i j)):=by
 intro pins s σ H x y v u Q I rx ry h
 obtain ⟨i,j,rfl,rfl,hc,q⟩:=h
 obtain ⟨t,rfl⟩:=rx
 obtain ⟨t',rfl⟩:=ry
 exact rule i j t t' s _ _ hc ⟨.int (g i j),H,I.tok _,⟨_,rfl⟩,q⟩
theorem F6 {f:Value->Value->Sem Value}{g:Int->Int->Int}
  (rule:∀ (i j:Int) (t u:Tok) (s:Shared) (Q:Value->Shared->Prop) (E:Value->Shared->Prop),Q (.int (g i j) s.toks) { s with toks:=s.toks+1 }->wpAny (model X.prog X.w) X.A (f (.int i t) (.int j u)) Q E s) :
  OpR X f (rI0 fun i j=>.int (g i j)):=by
 intro pins s σ H x y v u Q I rx ry h
 obtain ⟨i,j,rfl,rfl,q⟩:=h
 obtain ⟨t,rfl⟩:=rx
 obtain ⟨t',rfl⟩:=ry
 exact rule i j t t' s _ _ ⟨.int (g i j),H,I.tok _,⟨_,rfl⟩,q⟩
theorem E6 {f:Value->Value->Sem Value}{g:Int->Int->Bool}
  (rule:∀ (i j:Int) (t u:Tok) (s:Shared) (Q:Value->Shared->Prop) (E:Value->Shared->Prop),Q (.bool (g i j)) s->wpAny (model X.prog X.w) X.A (f (.int i t) (.int j u)) Q E s) :
  OpR X f (rI0 fun i j=>.bl (g i j)):=by
 intro pins s σ H x y v u Q I rx ry h
 obtain ⟨i,j,rfl,rfl,q⟩:=h
 obtain ⟨t,rfl⟩:=rx
 obtain ⟨t',rfl⟩:=ry
 exact rule i j t t' s _ _ ⟨.bl (g i j),H,I,rfl,q⟩
noncomputable def Ba (i j:Int):Prop:=0<j/\j<1073741824
noncomputable def GT (i j:Int):Prop:=0<=j/\j<=1000000/\i.natAbs<2 ^ 64
noncomputable def Ww (i j:Int):Prop:=(-(2 ^ 64)<i/\i<2 ^ 64) \/ (-(2 ^ 64)<j/\j<2 ^ 64)
theorem Ww.ok {i j:Int}(h:Ww i j):IntMulOk i j:=by
 rcases h with ⟨h1,h2⟩ | ⟨h1,h2⟩
 ·exact .of_left (intBits_le_64 h1 h2)
 ·exact .of_right (intBits_le_64 h1 h2)
theorem qc:OpR X (binaryOp .Add) (rI0 fun i j=>.int (i+j)):=F6 fun _ _ _ _ _ _ _ q=>add_int q
theorem kh:OpR X (binaryOp .Sub) (rI0 fun i j=>.int (i - j)):=F6 fun _ _ _ _ _ _ _ q=>sub_int q
theorem j8:OpR X (binaryOp .Mult) (rI Ww fun i j=>.int (i * j)):=opI fun _ _ _ _ _ _ _ hc q=>mul_int q hc.ok
theorem jS:OpR X (binaryOp .FloorDiv) (rI Ba fun i j=>.int (i / j)):=opI fun i j _ _ _ _ _ hc q=>by
 have h1:(0:Int)<j:=hc.1
 have h2:j<1073741824:=hc.2
 exact floordiv_int (by walk_at "o") (by rw [Int.fdiv_eq_ediv_of_nonneg i (by walk_at "o")];exact q) (.inl (PyProof.noPylong_small (by walk_at "o")))
theorem qC:OpR X (binaryOp .Mod) (rI (fun _ j=>0<j) fun i j=>.int (i % j)):=opI fun i j _ _ _ _ _ hc q=>by
 have h1:(0:Int)<j:=hc
 exact mod_int' (by walk_at "o") (by rw [Int.fmod_eq_emod_of_nonneg i (by walk_at "o")];exact q)
theorem EN:OpR X (binaryOp .Pow) (rI GT fun i j=>.int (i ^ j.toNat)):=opI fun _ _ _ _ _ _ _ hc q=>pow_int_small hc.1 hc.2.1 hc.2.2 q
theorem unI {f:Value->Sem Value}{g:Int->Int}
  (rule:∀ (i:Int) (t:Tok) (s:Shared) (Q:Value->Shared->Prop) (E:Value->Shared->Prop),Q (.int (g i) s.toks) { s with toks:=s.toks+1 }->wpAny (model X.prog X.w) X.A (f (.int i t)) Q E s) :
  UnR X f (rU fun i=>.int (g i)):=by
 intro pins s σ H x v Q I rx h
 obtain ⟨i,rfl,q⟩:=h
 obtain ⟨t,rfl⟩:=rx
 exact rule i t s _ _ ⟨.int (g i),H,I.tok _,⟨_,rfl⟩,q⟩
theorem Jq:UnR X (unaryOp .USub) (rU fun i=>.int (-i)):=unI fun _ _ _ _ _ q=>neg_int q
end
noncomputable def Gc:V->V->Bool
 | .non,.non=>true | .non,.int _=>true | .int _,.non=>true | .non,.bl _=>true | .bl _,.non=>true | .non,.str _=>true | .str _,.non=>true
 | .int _,.int _=>true | .bl _,.bl _=>true | .str _,.str _=>true | .byt _,.byt _=>true
 | .int _,.str _=>true | .str _,.int _=>true | .bl _,.str _=>true | .str _,.bl _=>true
 | _,_=>false
noncomputable def rEq:R2:=fun x y H Q=>Gc x y=true/\Q (.bl (decide (x=y))) H
noncomputable def rNe:R2:=fun x y H Q=>Gc x y=true/\Q (.bl (!decide (x=y))) H
theorem Kt {i j:Int}:decide (V.int i=V.int j)=(i == j):=by
 rw [Bool.eq_iff_iff]
 simp
theorem Vx {i j:Bool}:decide (V.bl i=V.bl j)=(i == j):=by
 rw [Bool.eq_iff_iff]
 simp
theorem KC {i j:Str}:decide (V.str i=V.str j)=(i == j):=by
 rw [Bool.eq_iff_iff]
 simp
theorem KI {i j:Array UInt8}:decide (V.byt i=V.byt j)=(i.toList == j.toList):=by
 rw [Bool.eq_iff_iff]
 cases i
 cases j
 simp
section
variable {X:Cx}{a b c:Expr}{ta tb tc:TE}{pos:Pos}
theorem zL {pins:List (Addr × Obj)}{σ:St}{H:Hp}{s:Shared}{Q:VK}{k k':Bool}(I:Inv X pins σ H s)(q:Q (.bl k) H)(e:k=k'):EP X pins σ Q (.bool k') s:=by
 subst e
 exact ⟨.bl k,H,I,rfl,q⟩
theorem Dl:OpR X (compareOp .Eq) rEq:=by
 intro pins s σ H x y v u Q I rx ry h
 obtain ⟨hs,q⟩:=h
 cases x with
 | non=>
  cases rx
  cases y with
  | non=>cases ry;exact PySem.EqNone.eq_none_none (zL I q (by simp))
  | bl j=>cases ry;exact PySem.EqNone.eq_none_bool (zL I q (by simp))
  | int j=>obtain ⟨t',rfl⟩:=ry;exact PySem.EqNone.eq_none_int (zL I q (by simp))
  | str j=>obtain ⟨t',rfl⟩:=ry;exact PySem.EqNone.eq_none_str (zL I q (by simp))
  | _=>exact absurd (show false=true from hs) Bool.false_ne_true
 | bl i=>
  cases rx
  cases y with
  | non=>cases ry;exact PySem.EqNone.eq_bool_none (zL I q (by simp))
  | bl j=>cases ry;exact eq_bool (zL I q Vx)
  | str j=>obtain ⟨t',rfl⟩:=ry;exact PySem.EqMixed.eq_bool_str (zL I q (by simp))
  | _=>exact absurd (show false=true from hs) Bool.false_ne_true
 | int i=>
  obtain ⟨t,rfl⟩:=rx
  cases y with
  | non=>cases ry;exact PySem.EqNone.eq_int_none (zL I q (by simp))
  | int j=>obtain ⟨t',rfl⟩:=ry;exact eq_int (zL I q Kt)
  | str j=>obtain ⟨t',rfl⟩:=ry;exact PySem.EqMixed.eq_int_str (zL I q (by simp))
  | _=>exact absurd (show false=true from hs) Bool.false_ne_true
 | str i=>
  obtain ⟨t,rfl⟩:=rx
  cases y with
  | non=>cases ry;exact PySem.EqNone.eq_str_none (zL I q (by simp))
  | bl j=>cases ry;exact PySem.EqMixed.eq_str_bool (zL I q (by simp))
  | int j=>obtain ⟨t',rfl⟩:=ry;exact PySem.EqMixed.eq_str_int (zL I q (by simp))
  | str j=>obtain ⟨t',rfl⟩:=ry;exact eq_str (zL I q KC)
  | _=>exact absurd (show false=true from hs) Bool.false_ne_true
 | byt i=>
  obtain ⟨t,rfl⟩:=rx
  cases y with
  | byt j=>obtain ⟨t',rfl⟩:=ry;exact PySem.W.eq_bytes (zL I q KI)
  | _=>exact absurd (show false=true from hs) Bool.false_ne_true
 | _=>cases y <;> exact absurd (show false=true from hs) Bool.false_ne_true
theorem Gq:OpR X (compareOp .NotEq) rNe:=by
 intro pins s σ H x y v u Q I rx ry h
 obtain ⟨hs,q⟩:=h
 cases x with
 | non=>
  cases rx
  cases y with
  | non=>cases ry;exact PySem.EqNone.ne_none_none (zL I q (by simp))
  | bl j=>cases ry;exact PySem.EqNone.ne_none_bool (zL I q (by simp))
  | int j=>obtain ⟨t',rfl⟩:=ry;exact PySem.EqNone.ne_none_int (zL I q (by simp))
  | str j=>obtain ⟨t',rfl⟩:=ry;exact PySem.EqNone.ne_none_str (zL I q (by simp))
  | _=>exact absurd (show false=true from hs) Bool.false_ne_true
 | bl i=>
  cases rx
  cases y with
  | non=>cases ry;exact PySem.EqNone.ne_bool_none (zL I q (by simp))
  | bl j=>cases ry;exact ne_bool (zL I q (congrArg not Vx))
  | str j=>obtain ⟨t',rfl⟩:=ry;exact PySem.EqMixed.ne_bool_str (zL I q (by simp))
  | _=>exact absurd (show false=true from hs) Bool.false_ne_true
 | int i=>
  obtain ⟨t,rfl⟩:=rx
  cases y with
  | non=>cases ry;exact PySem.EqNone.ne_int_none (zL I q (by simp))
  | int j=>obtain ⟨t',rfl⟩:=ry;exact ne_int (zL I q (congrArg not Kt))
  | str j=>obtain ⟨t',rfl⟩:=ry;exact PySem.EqMixed.ne_int_str (zL I q (by simp))
  | _=>exact absurd (show false=true from hs) Bool.false_ne_true
 | str i=>
  obtain ⟨t,rfl⟩:=rx
  cases y with
  | non=>cases ry;exact PySem.EqNone.ne_str_none (zL I q (by simp))
  | bl j=>cases ry;exact PySem.EqMixed.ne_str_bool (zL I q (by simp))
  | int j=>obtain ⟨t',rfl⟩:=ry;exact PySem.EqMixed.ne_str_int (zL I q (by simp))
  | str j=>obtain ⟨t',rfl⟩:=ry;exact ne_str (zL I q (congrArg not KC))
  | _=>exact absurd (show false=true from hs) Bool.false_ne_true
 | byt i=>
  obtain ⟨t,rfl⟩:=rx
  cases y with
  | byt j=>obtain ⟨t',rfl⟩:=ry;exact PySem.W.ne_bytes (zL I q (congrArg not KI))
  | _=>exact absurd (show false=true from hs) Bool.false_ne_true
 | _=>cases y <;> exact absurd (show false=true from hs) Bool.false_ne_true
theorem QF:OpR X (compareOp .Lt) (rI0 fun i j=>.bl (decide (i<j))):=E6 fun _ _ _ _ _ _ _ q=>lt_int q
theorem KU:OpR X (compareOp .Gt) (rI0 fun i j=>.bl (decide (j<i))):=E6 fun _ _ _ _ _ _ _ q=>gt_int q
theorem Ge:OpR X (compareOp .GtE) (rI0 fun i j=>.bl (decide (j<=i))):=E6 fun _ _ _ _ _ _ _ q=>ge_int q
theorem WK:OpR X (compareOp .Is) (fun x y H Q=>y=.non/\Q (.bl (decide (x=.non))) H):=by
 intro pins s σ H x y v u Q I rx ry h
 obtain ⟨rfl,q⟩:=h
 cases ry
 refine is_none_gen (zL I q ?_)
 cases x <;> first
  | (cases rx;rfl)
  | (obtain ⟨t,rfl⟩:=rx;rfl)
theorem zz (b:Expr){op:CmpOp}(h:op ≠ .In:=by decide)(h2:op ≠ .NotIn:=by decide):behindInMarks op b=false:=by
 have e1:(op == CmpOp.In)=false:=by cases op <;> first | rfl | exact absurd rfl h
 have e2:(op == CmpOp.NotIn)=false:=by cases op <;> first | rfl | exact absurd rfl h2
 cases b <;> simp [behindInMarks,e1,e2]
theorem ji {op:CmpOp}{r:R2}(ho:OpR X (compareOp op) r)(ha:PE X a ta)(hb:PE X b tb)(hm:behindInMarks op b=false):PE X (.Compare a [op] [b] pos) (tOp r ta tb):=by
 intro pins s σ H Q I h
 exact wpAny_Compare1 (E9 ha hb I h fun v u s2 x y H2 I2 rx ry q=>ho pins s2 σ H2 x y v u Q I2 rx ry q) hm
noncomputable def Ky (t:TE):TT:=fun σ H Q=>t σ H fun x H'=>∃ k,x=.bl k/\Q k H'
theorem zE {op:CmpOp}{r:R2}(ho:OpR X (compareOp op) r)(ha:PE X a ta)(hb:PE X b tb)(hm:behindInMarks op b=false):PT X (.Compare a [op] [b] pos) (Ky (tOp r ta tb)):=by
 intro pins s σ H Q I h
 refine wpAny_isTrue_Compare1 (thn (ha pins s σ H _ I h) fun v s1 ⟨x,H1,I1,r1,q1⟩=>thn (hb pins s1 σ H1 _ I1 q1) fun u s2 ⟨y,H2,I2,r2,q2⟩=>
  thn (ho pins s2 σ H2 x y v u _ I2 r1 r2 q2) fun c s3 ⟨z,H3,I3,r3,k,e,q3⟩=>?_) hm
 subst e
 cases r3
 exact wpAny_truthy_bool ⟨H3,I3,q3⟩
noncomputable def V0 (r r':R2)(ta tb tc:TE):TE:=fun σ H Q=>ta σ H fun x H1=>tb σ H1 fun y H2=>r x y H2 fun z H3=>∃ k,z=.bl k /\
 (if k=true then tc σ H3 fun w' H4=>r' y w' H4 Q else Q (.bl false) H3)
theorem VN {op op':CmpOp}{r r':R2}(ho:OpR X (compareOp op) r)(ho':OpR X (compareOp op') r')(ha:PE X a ta)(hb:PE X b tb)(hc:PE X c tc)
  (hm:lastMarks [op,op'] [b,c]=false:=by with_unfolding_all rfl):PE X (.Compare a [op,op'] [b,c] pos) (V0 r r' ta tb tc):=by
 intro pins s σ H Q I h
 refine Compare_chain (thn (ha pins s σ H _ I h) fun v s1 ⟨x,H1,I1,r1,q1⟩=>chain_link (thn (hb pins s1 σ H1 _ I1 q1) fun u s2 ⟨y,H2,I2,r2,q2⟩=>
  thn (ho pins s2 σ H2 x y v u _ I2 r1 r2 q2) fun d s3 ⟨z,H3,I3,r3,k,e,q3⟩=>?_)) hm
 subst e
 cases r3
 refine wpAny_truthy_bool ?_
 cases k with
 | false=>exact ite_ff ⟨.bl false,H3,I3,rfl,q3⟩
 | true=>exact ite_tt (chain_last (thn (hc pins s3 σ H3 _ I3 q3) fun w' s4 ⟨z',H4,I4,r4,q4⟩=>ho' pins s4 σ H4 y z' u w' Q I4 r2 r4 q4))
theorem vP:(sizeLine:Nat)<2 ^ 63:=by rw [sizeLine_eq];decide
theorem jK {x:V}{us:List Value}(r:zu [x] us):∃ u,us=[u]/\zF x u:=by
 cases r with
 | cons r1 r2=>cases r2;exact ⟨_,rfl,r1⟩
theorem Qz {x y:V}{us:List Value}(r:zu [x,y] us):∃ u w',us=[u,w']/\zF x u/\zF y w':=by
 cases r with
 | cons r1 r2=>
  cases r2 with
  | cons r3 r4=>cases r4;exact ⟨_,_,rfl,r1,r3⟩
theorem Qd:qI X (.builtin "abs") (fun xs H Q=>∃ i,xs=[.int i]/\Q (.int (if i<0 then -i else i)) H):=by
 intro pins s σ H xs us Q I r h
 obtain ⟨i,rfl,q⟩:=h
 obtain ⟨u,rfl,t,rfl⟩:=jK r
 exact call_abs_int fun u tk=>⟨.int (if i<0 then -i else i),H,I.tok _,⟨_,rfl⟩,q⟩
theorem wz (hc:X.calm=true):qI X (.builtin "max") (fun xs H Q=>∃ i j,xs=[.int i,.int j]/\Q (.int (if j > i then j else i)) H):=by
 intro pins s σ H xs us Q I r h
 obtain ⟨i,j,rfl,q⟩:=h
 obtain ⟨u,w',rfl,⟨t,rfl⟩,⟨t',rfl⟩⟩:=Qz r
 refine max_two_ints (I.ok.hd hc) fun h' tk k=>⟨_,H,I.kept k,?_,q⟩
 by_cases hj:j > i
 ·rw [if_pos hj,if_pos hj];exact ⟨_,rfl⟩
 ·rw [if_neg hj,if_neg hj];exact ⟨_,rfl⟩
theorem XQ:qI X (.type "int") (fun xs H Q=>(∃ i,xs=[.int i]/\Q (.int i) H) \/ ∃ k,xs=[.bl k]/\Q (.int (if k then 1 else 0)) H):=by
 intro pins s σ H xs us Q I r h
 rcases h with ⟨i,rfl,q⟩ | ⟨k,rfl,q⟩
 ·obtain ⟨u,rfl,t,rfl⟩:=jK r
  exact call_int_int ⟨.int i,H,I,⟨_,rfl⟩,q⟩
 ·obtain ⟨u,rfl,r1⟩:=jK r
  cases r1
  exact call_int_bool ⟨.int (if k then 1 else 0),H,I.tok _,⟨_,rfl⟩,q⟩
theorem Qi:qI X (.builtin "divmod") (fun xs H Q=>∃ i j,xs=[.int i,.int j]/\Ba i j/\∀ p,H p=none->Q (.ref p) (upd H p (.tup [.int (i / j),.int (i % j)]))):=by
 intro pins s σ H xs us Q I r h
 obtain ⟨i,j,rfl,⟨h1,h2⟩,q⟩:=h
 obtain ⟨u,w',rfl,⟨t,rfl⟩,⟨t',rfl⟩⟩:=Qz r
 refine divmod_int (by walk_at "o") ?_ (.inl (PyProof.noPylong_small (by walk_at "o")))
 rw [Int.fdiv_eq_ediv_of_nonneg i (by walk_at "o"),Int.fmod_eq_emod_of_nonneg i (by walk_at "o")]
 have hn:H s.heap.objs.size=none:=I.hok.fresh (Nat.le_refl _)
 refine ⟨.ref s.heap.objs.size,_,?_,rfl,q _ hn⟩
 refine I.laid (fun b o e=>Heap.get?_push_of_some _ e) (Nat.le_refl _) ⟨by simp only [List.length_cons,List.length_nil];rw [sizeLine_eq];decide,[.int (i / j) s.toks,.int (i % j) (s.toks+1)],.cons ⟨_,rfl⟩ (.cons ⟨_,rfl⟩ .nil),?_⟩
 exact ⟨_,Heap.get?_push_size s.heap rfl,rfl,⟨0,rfl⟩,rfl⟩
end
structure Yy (h:Heap)(x dx C:Addr)(mA:Str->Option Value):Prop where
 obj:h.get? x=some (PySem.W.instObj C dx)
 ns:h.Ns1 dx mA
 ne:dx ≠ x
theorem XF {h:Heap}{dx:Addr}{mA:Str->Option Value}(n:h.Ns1 dx mA):∃ od,h.get? dx=some od/\∀ name,PySem.W.lookIn name od=some (mA name):=by
 obtain ⟨o,es,ep,ho,hd,hk,_,hm⟩:=n
 refine ⟨o,ho,fun name=>?_⟩
 have e:=hm name
 unfold nsFind findBy at e
 rw [<- Array.find?_toList] at e
 unfold PySem.W.lookIn
 rw [hd]
 dsimp only
 split
 ·rename_i y q
  rw [q] at e
  exact congrArg some e
 ·rename_i q
  rw [q] at e
  have a:es.toList.any (·.refKey)=false:=by
   rw [List.any_eq_false]
   intro y hy
   obtain ⟨z,t,hkey⟩:=hk y (Array.mem_toList_iff.mp hy)
   simp [DictEntry.refKey,hkey]
  have a':¬ es.toList.any (·.refKey)=true:=by rw [a];exact Bool.false_ne_true
  rw [if_neg a']
  exact congrArg some e
theorem Yy.look {h:Heap}{x dx C:Addr}{mA:Str->Option Value}(I:Yy h x dx C mA):∃ od,PySem.W.InstAt h x (PySem.W.instObj C dx) C (some od)/\∀ name,PySem.W.lookIn name od=some (mA name):=
 let ⟨od,ho,hl⟩:=XF I.ns
 ⟨od,⟨I.obj,rfl,rfl,ho⟩,hl⟩
section
variable {prog:Program}{w:World}{A:Around}{E:Value->Shared->Prop}{s:Shared}{K:PySem.W.Frag}{x dx C f:Addr}{mA:Str->Option Value}{name:Str}{v:Value}
theorem K4 {ns:List Str}{Q:Unit->Shared->Prop}(X:K.In s.heap)(I:Yy s.heap x dx C mA)
  (hs:PySem.W.findIn K (.ref C) "__setattr__"=some (some (.builtin "object.__setattr__"))) (hp:PySem.W.plainOver K C=true) (ht:PySem.W.takerIn K C name=some none) (hh:PySem.W.hasDictIn K C=true)
  (hw:PySem.Within mA ns) (hsz:ns.length<=sizeLine)
  (h:∀ h',Yy h' x dx C (fun y=>if y=name then some v else mA y)->Heap.SameBut dx s.heap h'->Q () { s with heap:=h',toks:=s.toks+2 }) :
  wpAny (model prog w) A (setAttr (.ref x) name v) Q E s:=by
 obtain ⟨od,J,hl⟩:=I.look
 refine PySem.W.set_plain X J hs (PySem.W.osa_open (s:={ s with toks:=s.toks+1 }) (r:=none) X J hp ht fun b=>?_)
 obtain ⟨cd,hc,hd'⟩:=PySem.W.any_some hh
 have hx:s.heap.get? x=some ⟨.ref C,some dx,.plain,#[]⟩:=I.obj
 refine wpAny_bind (wpAny_pure (wpAny_bind (wpAny_bind (wpAny_loadPart hx (wpAny_bind (PySem.W.Looks.here (s:={ s with toks:=s.toks+1 }) (PySem.W.looks_clsIn X hc) ?_))))))
 rw [hd']
 refine wpAny_pure (a:=some dx) (wpAny_bind (wpAny_pure (wpAny_bind ?_)))
 refine wpAny_nsSet1 (s:={ s with toks:=s.toks+1 }) I.ns fun h' hn2 hs2=>?_
 obtain ⟨oD,esD,epD,hoD,hdD,hcD⟩:=hn2.count (PySem.Within.cons name v hw)
 refine wpAny_bind (wpAny_lookBehind hoD (by rw [hdD];exact pastItsLine_dict (Nat.le_trans hcD (by rw [List.length_cons];walk_at "o"))) ?_)
 exact wpAny_pure (h _ ⟨(hs2.2 _ (Ne.symm I.ne)).trans I.obj,hn2,I.ne⟩ hs2)
end
section
variable {P:Program}{w:World}{H H':Hp}{h h':Heap}{a C dx:Addr}{fs fs':List (Str × V)}
theorem Az (hok:HOk P w H h)(e:H a=some (.ins C dx fs)):∃ mA,Yy h a dx C mA/\(∀ f,Fn (fs.lookup f) (mA f))/\PySem.Within mA (fs.map (·.1))/\fs.length<=1000/\H dx=some (.own a):=by
 obtain ⟨d,z,ne,ob,mA,n,r,q⟩:=(show qa P w H h a (.ins C dx fs) from hok a _ e)
 exact ⟨mA,⟨ob,n,ne⟩,r,q,z,d⟩
end
structure Cls (K:PySem.W.Frag)(C:Addr):Prop where
 pg:PySem.W.plainGet K C Str.empty=true
 hd:PySem.W.hasDictIn K C=true
 po:PySem.W.plainOver K C=true
 sa:PySem.W.findIn K (.ref C) "__setattr__"=some (some (.builtin "object.__setattr__"))
theorem Cls.get {K:PySem.W.Frag}{C:Addr}(c:Cls K C)(f:Str):PySem.W.plainGet K C f=true:=c.pg
structure Con (K:PySem.W.Frag)(C:Addr)(f:Str)(v:V)(u:Value):Prop where
 at_:PySem.W.findIn K (.ref C) f=some (some u)
 rel:zF v u
 get:PySem.W.specialIn K u "__get__"=some none
 cp:PySem.W.copiedNames.contains f=false
structure GV (K:PySem.W.Frag)(C:Addr)(m:Str)(f:Addr):Prop where
 at_:PySem.W.findIn K (.ref C) m=some (some (.ref f))
 fn:PySem.W.isFn K (.ref f)=true
 kp:PySem.W.keepIn K (.ref f)=true
section
variable {X:Cx}{pins:List (Addr × Obj)}{σ:St}{H:Hp}{s:Shared}{a C dx:Addr}{fs:List (Str × V)}{f:Str}{v:V}{A:Around}{E:Value->Shared->Prop}
end
section
variable {X:Cx}{o e value:Expr}{f:Str}{pos pos' tpos:Pos}{ta tv:TE}
end
section
variable {X:Cx}{pins:List (Addr × Obj)}{σ:St}{H:Hp}{s:Shared}{A:Around}{E:Value->Shared->Prop}{Q:Value->Shared->Prop}{c:Value}{b:Bool}
inductive kI (K:PySem.W.Frag) (H:Hp):V->Value->Prop where
  | non:kI K H .non (.type "NoneType")
  | bl (x:Bool):kI K H (.bl x) (.type "bool")
  | int (i:Int):kI K H (.int i) (.type "int")
  | str (x:Str):kI K H (.str x) (.type "str")
  | flt (x:UInt64):kI K H (.flt x) (.type "float")
  | lst {a:Addr} {xs:List V} (e:H a=some (.lst xs)):kI K H (.ref a) (.type "list")
  | frz {a:Addr} {o:Obj} {xs:List V} (e:H a=some (.frz o (.lst xs))):kI K H (.ref a) (.type "list")
  | tup {a:Addr} {xs:List V} (e:H a=some (.tup xs)):kI K H (.ref a) (.type "tuple")
  | dK {a:Addr} {kvs:List (Key × V)} (e:H a=some (.dK kvs)):kI K H (.ref a) (.type "dict")
  | dT {a:Addr} {kvs:List (List Key × V)} (e:H a=some (.dT kvs)):kI K H (.ref a) (.type "dict")
  | ins {a C dx : Addr} {fs : List (Str × V)} (e : H a = some (.ins C dx fs)) (cl : Cls K C) (ha : PySem.W.findIn K (.ref C) "__class__" = some (some (.builtin "object.__class__")))
      (hn:PySem.W.specialIn K (.builtin "object.__class__") "__get__"=some (some (.builtin "getset_descriptor.__get__"))) (htk:PySem.W.takesIn K (.builtin "object.__class__")=some true)
      (hm:PySem.W.mroIn K C (.type "object")=some true):kI K H (.ref a) (.ref C)
theorem XR {x:V}{u t:Value}(I:Inv X pins σ H s)(rx:zF x u)(ty:kI X.K H x t)(e:PySem.W.kitOne X.K t c=some b)(h:∀ tk,Q (.bool b) { s with toks:=tk }) :
  wpAny (model X.prog X.w) A (call (.builtin "isinstance") [u,c]) Q E s:=by
 cases ty with
 | non=>cases (show u=Value.none from rx);exact PySem.W.kia_one PySem.W.kitx_none I.kIn True.intro e (fun z=>nomatch z) h
 | bl y=>cases (show u=Value.bool y from rx);exact PySem.W.kia_one PySem.W.kitx_bool I.kIn True.intro e (fun z=>nomatch z) h
 | int i=>obtain ⟨t,q⟩:=(show ∃ t,u=Value.int i t from rx);cases q;exact PySem.W.kia_one PySem.W.kitx_int I.kIn True.intro e (fun z=>nomatch z) h
 | str y=>obtain ⟨t,q⟩:=(show ∃ t,u=Value.str y t from rx);cases q;exact PySem.W.kia_one PySem.W.kitx_str I.kIn True.intro e (fun z=>nomatch z) h
 | flt y=>obtain ⟨t,q⟩:=(show ∃ t,u=Value.float y t from rx);cases q;exact PySem.W.kia_one PySem.W.kitx_float I.kIn True.intro e (fun z=>nomatch z) h
 | @lst a xs ea=>
  cases (show u=Value.ref a from rx)
  obtain ⟨_,_,n,_,h1⟩:=(show qa X.prog X.w H s.heap a (.lst xs) from I.hok a _ ea)
  exact PySem.W.kia_one PySem.W.kitx_list I.kIn ⟨_,h1,rfl⟩ e (fun z=>nomatch z) h
 | @frz a ob xs ea=>
  cases (show u=Value.ref a from rx)
  obtain ⟨_,_,_,n,_,h1⟩:=(show qa X.prog X.w H s.heap a (.frz ob (.lst xs)) from I.hok a _ ea)
  exact PySem.W.kia_one PySem.W.kitx_list I.kIn ⟨_,h1,rfl⟩ e (fun z=>nomatch z) h
 | @tup a xs ea=>
  cases (show u=Value.ref a from rx)
  obtain ⟨_,_,_,p⟩:=(show qa X.prog X.w H s.heap a (.tup xs) from I.hok a _ ea)
  obtain ⟨o,h1,h2,_⟩:=p
  exact PySem.W.kia_one PySem.W.kitx_tuple I.kIn ⟨o,h1,h2⟩ e (fun z=>nomatch z) h
 | @dK a kvs ea=>
  cases (show u=Value.ref a from rx)
  obtain ⟨_,_,vs,_,p⟩:=(show qa X.prog X.w H s.heap a (.dK kvs) from I.hok a _ ea)
  obtain ⟨o,es,ep,h1,h2,_⟩:=p
  exact PySem.W.kia_one PySem.W.kitx_dict I.kIn ⟨o,h1,h2.1⟩ e (fun z=>nomatch z) h
 | @dT a kvs ea=>
  cases (show u=Value.ref a from rx)
  obtain ⟨_,_,xs,_,o,es,ep,h1,h2,_⟩:=(show qa X.prog X.w H s.heap a (.dT kvs) from I.hok a _ ea)
  exact PySem.W.kia_one PySem.W.kitx_dict I.kIn ⟨o,h1,h2.1⟩ e (fun z=>nomatch z) h
 | @ins a C dx fs ea cl ha hn htk hm=>
  cases (show u=Value.ref a from rx)
  obtain ⟨mA,O,_⟩:=Az I.hok ea
  obtain ⟨od,J,_⟩:=O.look
  exact PySem.W.kia_one (PySem.W.kitx_own (cl.get _) cl.hd ha hn htk hm) I.kIn J e (fun z=>nomatch z) h
end
structure qZ (k:Nat)(A:Around):Prop where
 hd:A.handled=none
 gd:A.guards=some []
 dp:A.depth+3 * k+5<recursionLimit
 un:A.units+16 * k+200<cLine
theorem qZ.mono {j k:Nat}{A:Around}(r:qZ k A)(h:j<=k):qZ j A:=⟨r.hd,r.gd,by have:=r.dp;walk_at "o",by have:=r.un;walk_at "o"⟩
theorem qZ.deeper {k:Nat}{A:Around}(r:qZ (k+1) A)(env:Env):qZ k (A.deeper env):=
 ⟨r.hd,r.gd,by have:=r.dp;show A.depth+1+3 * k+5<_;walk_at "o",by have:=r.un;show A.units+3+16 * k+200<_;walk_at "o"⟩
theorem qZ.in1 {k:Nat}{A:Around}(r:qZ (k+1) A):qZ k A.in1:=
 ⟨r.hd,r.gd,by have:=r.dp;show A.depth+3 * k+5<_;walk_at "o",by have:=r.un;show A.units+1+16 * k+200<_;walk_at "o"⟩
theorem qZ.depth {k:Nat}{A:Around}(r:qZ k A):A.depth<recursionLimit:=by have:=r.dp;walk_at "o"
theorem qZ.units {k:Nat}{A:Around}(r:qZ k A):A.units+64<cLine:=by have:=r.un;walk_at "o"
noncomputable def DI:TA:=fun _ H Q=>Q [] H
noncomputable def YR (ta:TE)(tr:TA):TA:=fun σ H Q=>ta σ H fun x H1=>tr σ H1 fun xs H2=>Q (x :: xs) H2
section
variable {X:Cx}{e:Expr}{es:List Expr}{te:TE}{t:TA}{pos:Pos}
theorem zb:PA X [] DI:=fun _ _ _ _ H Q I h=>Calls.spliced_nil ⟨[],H,I,.nil,h⟩
theorem za (ha:PE X e te)(hr:PA X es t)(hs:starEach (e :: es) X.env=(false,eval e X.env) :: starEach es X.env:=by rfl):PA X (e :: es) (YR te t):=by
 intro pos pins s σ H Q I h
 rw [hs]
 show wpAny _ _ (spliced ((false,eval e X.env) :: backTo pos (starEach es X.env))) _ _ s
 refine Calls.spliced_cons (thn (ha pins s σ H _ I h) fun u s1 ⟨x,H1,I1,r1,q1⟩=>?_)
 exact thn (hr pos pins s1 σ H1 _ I1 q1) fun us s2 ⟨xs,H2,I2,r2,q2⟩=>⟨x :: xs,H2,I2,.cons r1 r2,q2⟩
noncomputable def Bl (t:TA):TE:=fun σ H Q=>t σ H fun xs H1=>xs.length<=sizeLine/\∀ p,H1 p=none->Q (.ref p) (upd H1 p (.tup xs))
noncomputable def EQ (t:TA):TE:=fun σ H Q=>t σ H fun xs H1=>xs.length<=sizeLine/\∀ p,H1 p=none->Q (.ref p) (upd H1 p (.lst xs))
theorem qU {x1}(h:PA X es t):PE X (.Tuple es x1 pos) (Bl t):=by
 intro pins s σ H Q I hq
 refine wpAny_Tuple_spliced (thn (h pos pins s σ H _ I hq) fun us s1 ⟨xs,H1,I1,r,z,q⟩=>⟨by rw [<- r.length];exact z,?_⟩)
 have hf:H1 s1.heap.objs.size=none:=I1.hok.fresh (Nat.le_refl _)
 refine ⟨.ref s1.heap.objs.size,upd H1 s1.heap.objs.size (.tup xs),I1.laid (t':=s1.toks) (fun b u e=>Heap.get?_push_of_some _ e) (Nat.le_refl _) ?_,rfl,q _ hf⟩
 exact ⟨z,us,r,⟨_,Heap.get?_push_size _ rfl,rfl,⟨_,rfl⟩,rfl⟩⟩
theorem zR (h:PA X es t):PE X (.List es pos) (EQ t):=by
 intro pins s σ H Q I hq
 refine wpAny_List_spliced (thn (h pos pins s σ H _ I hq) fun us s1 ⟨xs,H1,I1,r,z,q⟩=>⟨by rw [<- r.length];exact z,?_⟩)
 have hf:H1 s1.heap.objs.size=none:=I1.hok.fresh (Nat.le_refl _)
 refine ⟨.ref s1.heap.objs.size,upd H1 s1.heap.objs.size (.lst xs),I1.laid (t':=s1.toks) (fun b u e=>Heap.get?_push_of_some _ e) (Nat.le_refl _) ?_,rfl,q _ hf⟩
 exact ⟨z,us,0,r,Heap.get?_push_size _ rfl⟩
end
noncomputable abbrev Sp:=List V->Hp->VK->XK->Prop
noncomputable abbrev CXT:=List Env->Hp->Shared->XK->Value->Shared->Prop
structure Ad (P:Program)(w:World)(K:PySem.W.Frag)(mg:Str->Option Value)(base:Heap)(A:Around)(outer:List Env)(s:Shared)(H:Hp):Prop where
 frames:A.frames=some outer
 mod:Mod K mg base
 bs:∀ b o,base.get? b=some o->s.heap.get? b=some o/\H b=none
 bsz:base.objs.size<=s.heap.objs.size
 funs:s.heap.FunFrames base outer
 frf:∀ b ∈ frs outer,H b=none
 hok:HOk P w H s.heap
 bare:AllBare s.gens
noncomputable def CE (outer:List Env)(P:Program)(w:World)(H:Hp)(s:Shared)(Q:VK)(u:Value)(s':Shared):Prop:=
 ∃ v H',s'.os=s.os/\AllBare s'.gens/\Un (frs outer) [] H H' s.heap s'.heap/\HOk P w H' s'.heap/\zF v u/\Q v H'
noncomputable def CR (CX:CXT)(outer:List Env)(P:Program)(w:World)(H:Hp)(s:Shared)(Q:VK)(E:XK)(r:Result)(s':Shared):Prop:=
 match r with
 | .ok (.ret u)=>CE outer P w H s Q u s'
 | .ok _=>False
 | .error e=>CX outer H s E e s'
structure kC (P:Program)(w:World)(K:PySem.W.Frag)(mg:Str->Option Value)(base:Heap)(CX:CXT)(k:Nat)(f:Addr)(fd:FuncData)(ps:List Str)(sp:Sp):Prop where
 len:∀ vs H Q E,sp vs H Q E->vs.length=ps.length
 run:∀ (A:Around) (outer:List Env) (s:Shared) (H:Hp) (args:Args) (us:List Value) (vs:List V) (Q:VK) (E:XK),qZ k A->Ad P w K mg base A outer s H->BindsTo s fd args (ps.zip us)->zu vs us->sp vs H Q E ->
  codeAny (model P w) A (.call (.ref f) args) (CR CX outer P w H s Q E) s
theorem kC.mono {P:Program}{w:World}{K:PySem.W.Frag}{mg:Str->Option Value}{base:Heap}{CX:CXT}{j k:Nat}{f:Addr}{fd:FuncData}{ps:List Str}{sp:Sp}(F:kC P w K mg base CX j f fd ps sp)(h:j<=k) :
  kC P w K mg base CX k f fd ps sp:=⟨F.len,fun A outer s H args us vs Q E hr=>F.run A outer s H args us vs Q E (hr.mono h)⟩
theorem kC.imp {P:Program}{w:World}{K:PySem.W.Frag}{mg:Str->Option Value}{base:Heap}{CX:CXT}{k:Nat}{f:Addr}{fd:FuncData}{ps:List Str}{sp sp':Sp}(F:kC P w K mg base CX k f fd ps sp)
  (h:∀ vs H Q E,sp' vs H Q E->sp vs H Q E):kC P w K mg base CX k f fd ps sp':=
 ⟨fun vs H Q E q=>F.len vs H Q E (h _ _ _ _ q),fun A outer s H args us vs Q E hr he hb hv hs=>F.run A outer s H args us vs Q E hr he hb hv (h _ _ _ _ hs)⟩
section
variable {X:Cx}{pins:List (Addr × Obj)}{σ:St}{H:Hp}{s s':Shared}
theorem Inv.env0 (I:Inv X pins σ H s):Ad X.prog X.w X.K X.mg X.base X.A X.stack s H:=
 ⟨I.ok.frames,I.ok.mod,I.bs,Nat.le_trans I.ok.bsz I.sz,I.stack,I.stkFree,I.hok,I.bare⟩
theorem Inv.after {Q:VK}{u:Value}(I:Inv X pins σ H s)(h:CE X.stack X.prog X.w H s Q u s'):EP X pins σ Q u s':=by
 obtain ⟨v,H',os,bare,un,hok,r,q⟩:=h
 obtain ⟨hh,g,d,t,os'⟩:=s'
 obtain rfl:os'=s.os:=os
 exact ⟨v,H',I.call (h':=hh) (g':=g) (d':=d) (t':=t) (ch:=[]) un hok bare (fun b z=>absurd z (by simp)),r,q⟩
end
noncomputable def Kz (sp:Sp)(dvs:List V)(E:XK)(t:TA):TE:=fun σ H Q=>t σ H fun vs H1=>sp (vs ++ dvs) H1 Q E
noncomputable def wB (K:PySem.W.Frag)(fd:FuncData)(ps:List Str)(ds:List Value):Prop:=
 ∀ (s:Shared) (us:List Value),K.In s.heap->(us ++ ds).length=ps.length->BindsTo s fd ⟨us,[]⟩ (ps.zip (us ++ ds))
theorem wB.all {K:PySem.W.Frag}{fd:FuncData}{ps:List Str}(h:∀ us:List Value,us.length=ps.length->bindArgs fd ⟨us,[]⟩=pure (ps.zip us)):wB K fd ps []:=fun s us _ hl=>by
 rw [List.append_nil] at hl ⊢
 exact .of_eq (h us hl)
noncomputable def JH (CX:CXT)(X:Cx)(E:XK):Prop:=∀ (pins:List (Addr × Obj)) (σ:St) (H:Hp) (s:Shared) (e:Value) (s':Shared),Inv X pins σ H s->CX X.stack H s E e s'->X.xe e s'
section
variable {X:Cx}{CX:CXT}{k:Nat}{f C:Addr}{fd:FuncData}{ps:List Str}{sp:Sp}{dvs:List V}{ds:List Value}{E:XK}{x m:Str}{p pos apos:Pos}{e o:Expr}{es:List Expr}{ta:TE}{t:TA}
theorem Ea {pins:List (Addr × Obj)}{σ:St}{H:Hp}{s:Shared}{Q:VK}{us:List Value}{vs:List V}(F:kC X.prog X.w X.K X.mg X.base CX k f fd ps sp)(hr:qZ k X.A)(hb:wB X.K fd ps ds)(hd:zu dvs ds)(hx:JH CX X E)
  (I:Inv X pins σ H s) (r:zu vs us) (h:sp (vs ++ dvs) H Q E):wpAny (model X.prog X.w) X.A (call (.ref f) us) (EP X pins σ Q) X.xe s:=by
 have r2:zu (vs ++ dvs) (us ++ ds):=r.append hd
 have hl:(us ++ ds).length=ps.length:=by rw [<- r2.length];exact F.len _ _ _ _ h
 refine wpAny_call (codeAny_mono (F.run X.A X.stack s H ⟨us,[]⟩ (us ++ ds) (vs ++ dvs) Q E hr I.env0 (hb s us I.kIn hl) r2 h) fun r s' hq=>?_)
 cases r with
 | error e=>exact hx pins σ H s e s' I hq
 | ok fl=>
  cases fl with
  | ret u=>exact I.after hq
  | next=>exact False.elim hq
  | brk=>exact False.elim hq
  | cont=>exact False.elim hq
theorem AU (F:kC X.prog X.w X.K X.mg X.base CX k f fd ps sp)(hr:qZ k X.A)(hg:Gl X x)(hm:X.mg x=some (.ref f))(hk:PySem.W.keepIn X.K (.ref f)=true)(hb:wB X.K fd ps ds)(hd:zu dvs ds)(hx:JH CX X E)
  (ha:PA X (e :: es) t) (hdb:(x == ("__debug__":Str))=false:=by decide) (he:starEach (e :: es) X.env=(false,eval e X.env) :: starEach es X.env:=by rfl) (hpl:(backTo pos (starEach es X.env)).any (·.1)=false:=by rfl) :
  PE X (.Call (.Name x p) (e :: es) [] pos) (Kz sp dvs E t):=by
 intro pins s σ H Q I h
 refine wpAny_Call_Name_kw (B4 I hg hm ?_ hdb)
 refine PySem.W.callWith_K (h₀:=X.base) I.ok.mod.kin hk (thn (ha pos pins s σ H _ I h) fun us s1 ⟨vs,H1,I1,r,q⟩=>⟨I1.kIn,?_⟩) he hpl
 exact Ea F hr hb hd hx I1 r q
structure Mk (K:PySem.W.Frag)(C f:Addr):Prop where
 makes:PySem.W.makesIn K C=true
 init:PySem.W.findIn K (.ref C) "__init__"=some (some (.ref f))
 fn:PySem.W.isFn K (.ref f)=true
 kp:PySem.W.keepIn K (.ref C)=true
end
section
variable {X:Cx}{CX:CXT}{k:Nat}{f C:Addr}{fd:FuncData}{ps ks:List Str}{sp:Sp}{E:XK}{x m:Str}{p pos apos kpos:Pos}{e o:Expr}{es:List Expr}{kws:List Keyword}{te ta:TE}{t tk:TA}{nm:Option Str}
structure GW (K:PySem.W.Frag)(fd:FuncData)(ps ks:List Str)(g:List Value->List Value->List Value)(gV:List V->List V->List V):Prop where
 to:∀ (s:Shared) (us ws:List Value),K.In s.heap->(g us ws).length=ps.length->BindsTo s fd ⟨us,ks.zip ws⟩ (ps.zip (g us ws))
 rel:∀ {vs:List V} {us:List Value} {zs:List V} {ws:List Value},zu vs us->zu zs ws->zu (gV vs zs) (g us ws)
variable {g:List Value->List Value->List Value}{gV:List V->List V->List V}
end
structure zy (N P:List Str)(sc:Scope):Prop where
 kind:sc.kind=.function
 co:sc.isCoroutine=false
 gen:sc.isGenerator=false
 nd:N.Nodup
 pre:N.take P.length=P
 par:∀ x ∈ P,sc.names.lookup x=some .local \/ sc.names.lookup x=some .cell
 nofree:∀ y ∈ sc.names,y.2 ≠ .free
theorem wy {kindOf:Str->Option NameKind}{x:Str}:∀ {binds:List (Str × Value)} {m:Str->Option Value},(∀ v,(x,v) ∉ binds)->bindL kindOf binds m x=m x
 | [],_,_=>rfl
 | (n,v) :: r,m,h=>by
  unfold bindL
  rw [wy fun w hw=>h w (List.mem_cons_of_mem _ hw)]
  split
  ·have:x ≠ n:=by rintro rfl;exact h v List.mem_cons_self
   simp [this]
  ·rfl
theorem wR {kindOf:Str->Option NameKind}{x:Str}:∀ {binds:List (Str × Value)} {m:Str->Option Value},(∀ v,(x,v) ∉ binds)->bindC kindOf binds m x=m x
 | [],_,_=>rfl
 | (n,v) :: r,m,h=>by
  unfold bindC
  rw [wR fun w hw=>h w (List.mem_cons_of_mem _ hw)]
  split
  ·rfl
  ·have:x ≠ n:=by rintro rfl;exact h v List.mem_cons_self
   simp [this]
theorem wG {kindOf:Str->Option NameKind}{x:Str}{v:Value}:∀ {P:List Str} {vs:List Value} {i:Nat} {m:Str->Option Value},P.Nodup->P[i]?=some x->vs[i]?=some v->kindOf x=some .local ->
  bindL kindOf (P.zip vs) m x=some v
 | [],_,_,_,_,h,_,_=>by simp at h
 | _ :: _,[],_,_,_,_,h,_=>by simp at h
 | p :: P,w :: vs,0,m,nd,h1,h2,hk=>by
  simp at h1 h2;subst h1;subst h2
  show bindL kindOf ((p,w) :: P.zip vs) m p=_
  unfold bindL
  rw [wy fun v hv=>(List.nodup_cons.mp nd).1 (List.of_mem_zip hv).1,if_pos hk]
  simp
 | p :: P,w :: vs,i+1,m,nd,h1,h2,hk=>by
  show bindL kindOf ((p,w) :: P.zip vs) m x=_
  unfold bindL
  exact wG (i:=i) (List.nodup_cons.mp nd).2 (by simpa using h1) (by simpa using h2) hk
theorem wN {kindOf:Str->Option NameKind}{x:Str}{v:Value}:∀ {P:List Str} {vs:List Value} {i:Nat} {m:Str->Option Value},P.Nodup->P[i]?=some x->vs[i]?=some v->kindOf x ≠ some .local ->
  bindC kindOf (P.zip vs) m x=some v
 | [],_,_,_,_,h,_,_=>by simp at h
 | _ :: _,[],_,_,_,_,h,_=>by simp at h
 | p :: P,w :: vs,0,m,nd,h1,h2,hk=>by
  simp at h1 h2;subst h1;subst h2
  show bindC kindOf ((p,w) :: P.zip vs) m p=_
  unfold bindC
  rw [wR fun v hv=>(List.nodup_cons.mp nd).1 (List.of_mem_zip hv).1,if_neg hk]
  simp
 | p :: P,w :: vs,i+1,m,nd,h1,h2,hk=>by
  show bindC kindOf ((p,w) :: P.zip vs) m x=_
  unfold bindC
  exact wN (i:=i) (List.nodup_cons.mp nd).2 (by simpa using h1) (by simpa using h2) hk
noncomputable def jb (N:List Str)(vs:List V):St:=vs.map some ++ List.replicate (N.length - vs.length) none
noncomputable def vQ (CX:CXT)(P:Program)(w:World)(K:PySem.W.Frag)(mg:Str->Option Value)(base:Heap)(N:List Str)(qual:Str)(scope:Scope)(f:Addr)(cd:Value)(A:Around)(outer:List Env)(s:Shared)(H:Hp)(E:XK):Cx where
 prog:=P
 w:=w
 K:=K
 mg:=mg
 base:=base
 A:=A.deeper (envOfC qual scope s.heap.objs.size f cd)
 N:=N
 s₀:=s
 H₀:=H
 env:=envOfC qual scope s.heap.objs.size f cd
 outer:=outer
 stack:=envOfC qual scope s.heap.objs.size f cd :: outer
 ex:=[]
 calm:=true
 fn:=fun _=>true
 pn:=[]
 xe:=fun e s'=>wpAny (model P w) (A.deeper (envOfC qual scope s.heap.objs.size f cd)) (leaving (envOfC qual scope s.heap.objs.size f cd) e) (fun _ s''=>CX outer H s E e s'') (fun e' s''=>CX outer H s E e' s'') s'
theorem Qc {sc:Scope}{n:Nat}{x:Str}(h:sc.names.lookup x=some .cell):∃ c,(cellsFrom n sc.names []).lookup x=some c:=by
 have q:=PySem.W.cellsFrom_some sc.names n [] (.inl h)
 exact Option.isSome_iff_exists.mp q
theorem Ya {CX : CXT}{P : Program}{w : World}{K : PySem.W.Frag}{mg : Str -> Option Value}{base : Heap}{N ps : List Str}{qual : Str}{scope : Scope}{f : Addr}{cd : Value}{A : Around}{outer : List Env}{s s1 : Shared}{H : Hp}{E : XK}{us : List Value}{vs : List V}
    (S:zy N ps scope) (hd:A.handled=none) (e0:Ad P w K mg base A outer s H) (hl:vs.length=ps.length) (r:zu vs us)
    (x:InCallC s s.heap.objs.size (bindL (envOfC qual scope s.heap.objs.size f cd).kindOf (ps.zip us) fun _=>none) (cellsFrom (s.heap.objs.size+1) scope.names []) (bindC (envOfC qual scope s.heap.objs.size f cd).kindOf (ps.zip us) fun _=>none) s1) :
    Inv (vQ CX P w K mg base N qual scope f cd A outer s H E) [] (jb N vs) H s1:=by
  have hpl:ps.length<=N.length:=by have:=congrArg List.length S.pre;rw [List.length_take] at this;walk_at "o"
  obtain ⟨h1,tk,rfl,hk⟩:=x.done
  have noA:∀ b:Addr,b ∉ (vQ CX P w K mg base N qual scope f cd A outer s H E).ex:=fun b z=>absurd (show b ∈ ([]:List Addr) from z) (by simp)
  refine ⟨⟨e0.mod,S.kind,rfl,rfl,Nat.le_refl _,fun y z c h1 h2=>?_,fun y hy=>?_,fun y c _ h=>?_,fun _=>hd,Around.frames_deeper e0.frames,.inr ⟨rfl,rfl⟩,fun b z=>absurd z (noA b),e0.bs,e0.bsz,fun b _ _=>noA b,fun b z=>absurd z (noA b),e0.funs,e0.frf⟩,
    rfl,e0.bare,Un.kept hk,⟨_,x.toInCall.ns,fun i y v h1 h2 h3=>?_⟩,fun y c h=>⟨_,x.cell y c h⟩,e0.hok.fresh (Nat.le_refl _),fun y c h=>?_,fun p hp=>absurd (show p ∈ ([]:List (Addr × Obj)) from hp) (by simp),e0.hok.kept hk,?_⟩
  · exact name_of_addr x.apart (PySem.mem_of_lookup h1) (PySem.mem_of_lookup h2)
  · have hy:scope.names.lookup y=some .cell \/ scope.names.lookup y=some .free:=hy
    rcases hy with hy | hy
    · exact Qc hy
    · exact absurd rfl (S.nofree _ (PySem.mem_of_lookup hy))
  · exact Nat.le_of_lt (x.above y c (PySem.mem_of_lookup h))
  · have hi : i < vs.length := by
      unfold jb at h2
      by_cases hi:i<vs.length
      · exact hi
      · rw [List.getElem?_append_right (by simpa using hi)] at h2
        rw [List.getElem?_replicate] at h2
        split at h2 <;> cases h2
    have ha:vs[i]?=some v:=by
      unfold jb at h2
      rw [List.getElem?_append_left (by simpa using hi),List.getElem?_map] at h2
      cases e:vs[i]? with
      | none=>rw [e] at h2;cases h2
      | some a=>rw [e] at h2;cases h2;rfl
    obtain ⟨u,hu,rv⟩:=r.get ha
    have hp:ps[i]?=some y:=by
      rw [<- S.pre,List.getElem?_take_of_lt (by walk_at "o")];exact h1
    have ndP:ps.Nodup:=by rw [<- S.pre];exact S.nd.sublist (List.take_sublist _ _)
    refine ⟨u,rv,?_⟩
    rcases S.par y (List.mem_of_getElem? hp) with k | k
    · exact .inl ⟨k,wG ndP hp hu k⟩
    · obtain ⟨c,e⟩:=Qc (n:=s.heap.objs.size+1) k
      refine .inr ⟨.inl k,c,e,?_⟩
      have q:=x.cell y c e
      rw [wN ndP hp hu (by show scope.names.lookup y ≠ _;rw [k];decide)] at q
      exact q
  · exact e0.hok.fresh (Nat.le_of_lt (x.above y c (PySem.mem_of_lookup h)))
  · unfold jb
    show _=N.length
    rw [List.length_append,List.length_map,List.length_replicate]
    walk_at "o"
theorem DA {CX:CXT}{P:Program}{w:World}{K:PySem.W.Frag}{mg:Str->Option Value}{base:Heap}{k:Nat}{f:Addr}{name qual:Str}{params:Arguments}{body:List Stmt}{scope:Scope}{dV kV doc pm cdv ct oc:Value}{an od:Option Addr}
  {osl:Array (Option Value)} {N ps:List Str} {sp:Sp} (lk:K.lookup f=some ⟨oc,od,.func (PySem.W.fnOf name qual params body scope dV kV doc pm an cdv ct),osl⟩) (hcd:PySem.W.codeIn K cdv qual=true) (S:zy N ps scope)
  (len:∀ vs H Q E,sp vs H Q E->vs.length=ps.length)
  (hbody:∀ (A:Around) (outer:List Env) (s:Shared) (H:Hp) (vs:List V) (Q:VK) (E:XK),qZ k (A.deeper (envOfC qual scope s.heap.objs.size f cdv))->sp vs H Q E ->
   ∃ t,PSs (vQ CX P w K mg base N qual scope f cdv A outer s H E) body t/\t { nx:=fun _ H'=>Q .non H',rt:=Q } (jb N vs) H) :
  kC P w K mg base CX (k+1) f (PySem.W.fnOf name qual params body scope dV kV doc pm an cdv ct) ps sp:=by
 refine ⟨len,fun A outer s H args us vs Q E hr e0 hb r hsp=>?_⟩
 have hl:=len _ _ _ _ hsp
 have KX:K.In s.heap:=e0.mod.kin.keeps fun b o e=>(e0.bs b o e).1
 have lim:s.heap.NoLimit:=e0.mod.nolimit.keeps fun b o e=>(e0.bs b o e).1
 have hkind:∀ y ∈ ps.zip us,scope.names.lookup y.1=some .local \/ (scope.names.lookup y.1=some .cell/\((cellsFrom (s.heap.objs.size+1) scope.names []).lookup y.1).isSome=true):=fun ⟨n,v⟩ hy=>by
  rcases S.par n (List.of_mem_zip hy).1 with q | q
  ·exact .inl q
  ·exact .inr ⟨q,PySem.W.cellsFrom_some _ _ _ (.inl q)⟩
 refine codeAny_call_function hr.depth (KX _ _ lk) rfl S.co S.gen rfl (PySem.W.codeRec_of KX hcd) (hb _ _ _ _ ?_)
 refine wpAny_newFunctionEnv_cells S.kind hkind fun env he s1 x=>?_
 subst he
 refine ⟨lim.keeps x.toInCall.keep,codeAny_func ?_⟩
 obtain ⟨t,ht,hq⟩:=hbody A outer s H vs Q E (hr.deeper _) hsp
 have I:Inv (vQ CX P w K mg base N qual scope f cdv A outer s H E) [] (jb N vs) H s1:=Ya S hr.hd e0 hl r x
 refine wpAny_mono (ht [] s1 (jb N vs) H _ I hq) (fun fl s' hs=>?_) fun e s' hs=>hs
 have fin:∀ {σ':St} {H':Hp} {v:V} {u:Value},Inv (vQ CX P w K mg base N qual scope f cdv A outer s H E) [] σ' H' s'->zF v u->Q v H'->CE outer P w H s Q u s':=
  fun {σ' H' v u} J rv q=>⟨v,H',J.os,J.bare,J.base,J.hok,rv,q⟩
 cases fl with
 | ret u=>
  obtain ⟨v,σ',H',J,rv,q⟩:=hs
  exact fin J rv q
 | next=>
  obtain ⟨σ',H',J,q⟩:=hs
  exact fin (v:=V.non) (u:=Value.none) J rfl q
 | brk=>
  obtain ⟨_,_,_,q⟩:=hs
  exact False.elim q
 | cont=>
  obtain ⟨_,_,_,q⟩:=hs
  exact False.elim q
section
variable {X:Cx}{x:Str}{p pos:Pos}{e:Expr}{es:List Expr}{t:TA}{id T:String}{r:List V->Hp->VK->Prop}
noncomputable def tCB (r:List V->Hp->VK->Prop)(t:TA):TE:=fun σ H Q=>t σ H fun vs H1=>r vs H1 Q
theorem zn (hc:qI X (.builtin id) r)(hg:Gl X x)(hm:X.mg x=none)(hv:bootBuiltins x=some (.builtin id))(ha:PA X (e :: es) t)(hn:x ≠ "__name__":=by decide)(hdb:(x == ("__debug__":Str))=false:=by decide)
  (he:starEach (e :: es) X.env=(false,eval e X.env) :: starEach es X.env:=by rfl) (hpl:(backTo pos (starEach es X.env)).any (·.1)=false:=by rfl):PE X (.Call (.Name x p) (e :: es) [] pos) (tCB r t):=by
 intro pins s σ H Q I h
 refine wpAny_Call_Name_kw (kJ I hg hm hv ?_ hn hdb)
 exact PyProof.Rows.callWith_builtin1 (thn (ha pos pins s σ H _ I h) fun us s1 ⟨vs,H1,I1,r1,q1⟩=>hc pins s1 σ H1 vs us Q I1 r1 q1) he hpl
theorem zS (hc:qI X (.type T) r)(hg:Gl X x)(hm:X.mg x=none)(hv:bootBuiltins x=some (.type T))(ha:PA X (e :: es) t)(hn:x ≠ "__name__":=by decide)(hdb:(x == ("__debug__":Str))=false:=by decide)
  (he:starEach (e :: es) X.env=(false,eval e X.env) :: starEach es X.env:=by rfl) (hpl:(backTo pos (starEach es X.env)).any (·.1)=false:=by rfl):PE X (.Call (.Name x p) (e :: es) [] pos) (tCB r t):=by
 intro pins s σ H Q I h
 refine wpAny_Call_Name_kw (kJ I hg hm hv ?_ hn hdb)
 exact PyProof.Rows.callWith_type1 (thn (ha pos pins s σ H _ I h) fun us s1 ⟨vs,H1,I1,r1,q1⟩=>hc pins s1 σ H1 vs us Q I1 r1 q1) he hpl
end
end L2
namespace HT
open PySem PyProof.Rows
section
open PySem.SeqAt
open PySem.AutoSeq1 (wpAny_loadPart')
open PySem.MeetsSeq PySem.MeetsSeq2 PySem.MeetsSeq3
end
section
variable {prog:Program}{w:World}{A:Around}{E:Value->Shared->Prop}{s:Shared}
noncomputable def sIx (n d:Nat):Option Int->Nat
 | none=>d
 | some v=>if v<0 then (v+(n:Int)).toNat else min v.toNat n
theorem sIx_none (n d:Nat):sIx n d none=d:=rfl
theorem sIx_nat (n d k:Nat):sIx n d (some (k:Int))=min k n:=by
 show (if (k:Int)<0 then ((k:Int)+(n:Int)).toNat else min (k:Int).toNat n)=min k n
 rw [if_neg (by walk_at "o"),Int.toNat_natCast]
theorem EW (n d:Nat)(hd:d<=n)(o:Option Int):sIx n d o<=n:=by
 cases o with
 | none=>exact hd
 | some v=>
  show (if v<0 then (v+(n:Int)).toNat else min v.toNat n)<=n
  by_cases hv:v<0
  ·rw [if_pos hv];walk_at "o"
  ·rw [if_neg hv];exact Nat.min_le_right _ _
theorem KP (v:Int)(n d:Nat):(if v<0 then max (v+(n:Int)) 0 else min v (n:Int))=((sIx n d (some v):Nat):Int):=by
 show (if v<0 then max (v+(n:Int)) 0 else min v (n:Int))=(((if v<0 then (v+(n:Int)).toNat else min v.toNat n):Nat):Int)
 by_cases hv:v<0
 ·simp only [if_pos hv];walk_at "o"
 ·simp only [if_neg hv];walk_at "o"
theorem JP (lo hi:Option Int)(n:Nat):Builtin.Slice.sliceAdjust lo hi 1 (n:Int)=(((sIx n 0 lo:Nat):Int),((sIx n n hi:Nat):Int)):=by
 have h1:¬ ((1:Int)<0):=by walk_at "o"
 unfold Builtin.Slice.sliceAdjust
 simp only [h1,if_false]
 refine Prod.ext ?_ ?_
 ·cases lo with
  | none=>rfl
  | some v=>exact KP v n 0
 ·cases hi with
  | none=>rfl
  | some v=>exact KP v n n
theorem Jz (i j:Nat):Builtin.Slice.slicePlaces (i:Int) (j:Int) 1=j - i:=by
 unfold Builtin.Slice.slicePlaces
 have h1:(1:Int) > 0:=by walk_at "o"
 simp only [h1,if_true,Int.ediv_one]
 split <;> walk_at "o"
theorem slicePart_ {v:Value}{o:Option Int}{Q:Option Int->Shared->Prop}(p:IsPart v o)(h:Q o s):wpAny (model prog w) A (Builtin.Slice.slicePartIndex v) Q E s:=by
 cases p with
 | none=>exact slicePart_none h
 | int i t=>exact slicePart_int h
theorem yH {sl:Addr}{vl vu:Value}{lo hi:Option Int}{n:Nat}{Q:Int × Int × Nat->Shared->Prop}(hs:s.heap.IsSliceOf sl vl vu .none)(pl:IsPart vl lo)(pu:IsPart vu hi)
  (h:Q (((sIx n 0 lo:Nat):Int),1,sIx n n hi - sIx n 0 lo) s):wpAny (model prog w) A (Builtin.Slice.sliceApplied (.ref sl) (pure (n:Int))) Q E s:=by
 obtain ⟨os,hos,hcs,hds⟩:=id hs
 unfold Builtin.Slice.sliceApplied Builtin.Slice.sliceFields
 refine wpAny_bind (wpAny_bind (wpAny_field hos hds (x:=vl) rfl (wpAny_bind (wpAny_field hos hds (x:=vu) rfl (wpAny_bind (wpAny_field hos hds (x:=.none) rfl (wpAny_pure ?_)))))))
 refine wpAny_bind (slicePart_none ?_)
 show wpAny _ _ (if ((1:Int) == 0)=true then _ else _) _ _ s
 rw [if_neg (by decide)]
 refine wpAny_bind (slicePart_ pl (wpAny_bind (slicePart_ pu (wpAny_bind (wpAny_pure ?_)))))
 show wpAny _ _ (match Builtin.Slice.sliceAdjust lo hi 1 (n:Int) with | (lo,hi)=>pure (lo,(1:Int),Builtin.Slice.slicePlaces lo hi 1)) _ _ s
 rw [JP lo hi n]
 show wpAny _ _ (pure (((sIx n 0 lo:Nat):Int),(1:Int),Builtin.Slice.slicePlaces ((sIx n 0 lo:Nat):Int) ((sIx n n hi:Nat):Int) 1)) _ _ s
 rw [Jz]
 exact wpAny_pure h
theorem Ai (xs:Array Value)(i k:Nat):((List.range k).filterMap fun (m:Nat)=>xs[((i:Int)+(m:Int) * 1).toNat]?).toArray=((xs.toList.drop i).take k).toArray:=by
 have e:(fun (m:Nat)=>xs[((i:Int)+(m:Int) * 1).toNat]?)=fun m=>xs[i+m]?:=by
  funext m
  have:((i:Int)+(m:Int) * 1).toNat=i+m:=by walk_at "o"
  rw [this]
 rw [e]
 have:=pick_run xs i k
 rw [List.filterMap_map] at this
 have e2:((fun x=>xs[x]?) ∘ fun x=>i+x)=fun m=>xs[i+m]?:=rfl
 rw [e2] at this
 rw [this]
theorem getItem_tuple_cut {t sl:Addr}{items:Array Value}{vl vu:Value}{lo hi:Option Int}{Q:Value->Shared->Prop}(ht:IsTup s.heap t items)(hs:s.heap.IsSliceOf sl vl vu .none)(pl:IsPart vl lo)(pu:IsPart vu hi)
  (hw:¬ (sIx items.size 0 lo=0/\sIx items.size items.size hi=items.size))
  (h:Q (.ref s.heap.objs.size) { s with heap:=s.heap.push { cls:=.type "tuple",data:=.seq ((items.toList.drop (sIx items.size 0 lo)).take (sIx items.size items.size hi - sIx items.size 0 lo)).toArray } })
  (hsz:items.size<=sizeLine):wpAny (model prog w) A (getItem (.ref t) (.ref sl)) Q E s:=by
 have htake:sizeOk (.seq ((items.toList.drop (sIx items.size 0 lo)).take (sIx items.size items.size hi - sIx items.size 0 lo)).toArray):=by
  show ((items.toList.drop (sIx items.size 0 lo)).take (sIx items.size items.size hi - sIx items.size 0 lo)).toArray.size<=sizeLine
  rw [List.size_toArray,List.length_take,List.length_drop,Array.length_toList]
  walk_at "o"
 have hj:sIx items.size items.size hi<=items.size:=EW _ _ (Nat.le_refl _) hi
 obtain ⟨os,hos,hcs,hds⟩:=id hs
 have hTs:s.TypeIs (.ref sl) "slice":=⟨os,hos,hcs⟩
 unfold getItem
 try with_reducible refine wpAny_holding ?_
 first | refine wpAny_bind (wpAny_pure ?_) | skip
 refine wpAny_bind (wpAny_sequenceKey ht.typeIs (by decide) ?_)
 refine wpAny_bind (wpAny_callSpecial?_slot (name:=Str.ofString "__getitem__") ht.typeIs PyProof.Rows.slot_tuple_getitem
  (wpAny_call_entry PyProof.Rows.slot_tuple_getitem ht.typeIs entry_tuple_getitem ?_ (args_tuple_getitem _ _)))
 show wpAny _ _ (Builtin.Tuple.tupleItemsOf (.ref t) >>= _) _ _ s
 refine wpAny_bind (tupleItemsOf_ ht ?_)
 refine wpAny_bind (wpAny_typeOf hTs ?_)
 rw [if_pos (by decide)]
 refine wpAny_bind (yH hs pl pu ?_)
 have hno:¬ ((((sIx items.size 0 lo:Nat):Int) == 0 && (1:Int) == 1 && (sIx items.size items.size hi - sIx items.size 0 lo) == items.size)=true):=by
  intro q
  rw [Bool.and_eq_true,Bool.and_eq_true] at q
  have q1:((sIx items.size 0 lo:Nat):Int)=0:=eq_of_beq q.1.1
  have q2:sIx items.size items.size hi - sIx items.size 0 lo=items.size:=eq_of_beq q.2
  exact hw ⟨by walk_at "o",by walk_at "o"⟩
 show wpAny _ _ (if (((sIx items.size 0 lo:Nat):Int) == 0 && (1:Int) == 1 && (sIx items.size items.size hi - sIx items.size 0 lo) == items.size)=true then _ else _) _ _ s
 rw [if_neg hno,Ai]
 first
  | exact wpAny_bind (m:=Builtin.Tuple.tupleExact _) (wpAny_newObj_type (wpAny_pure ⟨_,rfl,wpAny_pure h⟩) htake)
  | exact wpAny_bind (m:=Builtin.Tuple.tupleExact _) (wpAny_newObj_type (wpAny_bind (wpAny_pure (wpAny_pure ⟨_,rfl,wpAny_pure h⟩))) htake)
  | exact wpAny_bind (wpAny_bind (m:=Builtin.Tuple.tupleExact _) (wpAny_newObj_type (wpAny_pure (wpAny_pure ⟨_,rfl,wpAny_pure h⟩)) htake))
  | exact wpAny_bind (wpAny_bind (m:=Builtin.Tuple.tupleExact _) (wpAny_newObj_type (wpAny_pure ⟨_,rfl,wpAny_pure h⟩) htake))
end
end HT
namespace L2
open PySem PySem.Spec PyProof.Rows
noncomputable abbrev TO:=St->Hp->(Option Int->Hp->Prop)->Prop
noncomputable def PO (X:Cx)(e:Option Expr)(t:TO):Prop:=
 ∀ (pins:List (Addr × Obj)) (s:Shared) (σ:St) (H:Hp) (Q:Option Int->Hp->Prop),Inv X pins σ H s->t σ H Q ->
  wpAny (model X.prog X.w) X.A (evalPart e X.env) (fun u s'=>∃ o H',Inv X pins σ H' s'/\IsPart u o/\Q o H') X.xe s
noncomputable def Zl:TO:=fun _ H Q=>Q none H
noncomputable def VV (t:TE):TO:=fun σ H Q=>t σ H fun x H1=>∃ i,x=.int i/\Q (some i) H1
theorem xV {ns:List Int}:∀ {us:List Value},zu (ns.map V.int) us->IntsAre us ns:=by
 induction ns with
 | nil=>intro us r;rw [List.map_nil] at r;cases r;exact .nil
 | cons n ns ih=>
  intro us r
  rw [List.map_cons] at r
  cases r with
  | cons r1 r2=>
   obtain ⟨t,e⟩:=r1
   subst e
   exact .cons n t (ih r2)
section
variable {X:Cx}{e:Expr}{te:TE}{lo hi:Option Expr}{tl th:TO}{pos p2:Pos}
theorem ki:PO X none Zl:=by
 intro pins s σ H Q I h
 rw [evalPart_none]
 exact wpAny_pure ⟨none,H,I,.none,h⟩
theorem qf (h:PE X e te):PO X (some e) (VV te):=by
 intro pins s σ H Q I hw
 rw [evalPart_some]
 refine thn (h pins s σ H _ I hw) fun u s1 ⟨x,H1,I1,r1,q1⟩=>?_
 obtain ⟨i,rfl,q⟩:=q1
 obtain ⟨t,rfl⟩:=r1
 exact ⟨some i,H1,I1,.int i t,q⟩
noncomputable def SlR (X:Cx)(r:V->Option Int->Option Int->Hp->VK->Prop):Prop:=
 ∀ (pins:List (Addr × Obj)) (s:Shared) (σ:St) (H:Hp) (x:V) (v vl vu:Value) (lo hi:Option Int) (sl:Addr) (Q:VK),Inv X pins σ H s->zF x v->s.heap.IsSliceOf sl vl vu .none->IsPart vl lo->IsPart vu hi->r x lo hi H Q ->
  ∃ T id,typeLookup (.type T) "__getitem__"=pure (some (.builtin id))/\s.TypeIs v T/\wpAny (model X.prog X.w) X.A (getItem v (.ref sl)) (EP X pins σ Q) X.xe s
theorem SlR.or {r r':V->Option Int->Option Int->Hp->VK->Prop}(h:SlR X r)(h':SlR X r'):SlR X (fun x lo hi H Q=>r x lo hi H Q \/ r' x lo hi H Q):=by
 intro pins s σ H x v vl vu lo hi sl Q I rx hs pl pu q
 rcases q with q | q
 ·exact h pins s σ H x v vl vu lo hi sl Q I rx hs pl pu q
 ·exact h' pins s σ H x v vl vu lo hi sl Q I rx hs pl pu q
noncomputable def tSl (r:V->Option Int->Option Int->Hp->VK->Prop)(te:TE)(tl th:TO):TE:=fun σ H Q=>te σ H fun x H1=>tl σ H1 fun l H2=>th σ H2 fun u H3=>r x l u H3 Q
theorem jp {r:V->Option Int->Option Int->Hp->VK->Prop}(hr:SlR X r)(he:PE X e te)(hl:PO X lo tl)(hu:PO X hi th):PE X (.Subscript e (.Slice lo hi none p2) pos) (tSl r te tl th):=by
 intro pins s σ H Q I h
 refine Subscript_ (thn (he pins s σ H _ I h) fun v s1 ⟨x,H1,I1,r1,q1⟩=>?_)
 refine wpAny_Slice (thn (hl pins s1 σ H1 _ I1 q1) fun vl s2 ⟨l,H2,I2,pl,q2⟩=>thn (hu pins s2 σ H2 _ I2 q2) fun vu s3 ⟨u,H3,I3,pu,q3⟩=>?_)
 rw [evalPart_none]
 refine wpAny_pure ?_
 have I4:Inv X pins σ H3 { s3 with heap:=s3.heap.push { cls:=.type "slice",data:=.fields #[vl,vu,.none] } }:=I3.kept (t':=s3.toks) fun b ob q=>Heap.get?_push_of_some _ q
 obtain ⟨T,id,hT,ht,hg⟩:=hr pins { s3 with heap:=s3.heap.push { cls:=.type "slice",data:=.fields #[vl,vu,.none] } } σ H3 x v vl vu l u s3.heap.objs.size Q I4 r1 (Heap.IsSliceOf.new ..) pl pu q3
 show wpAny (model X.prog X.w) X.A (subscriptTail e (.Slice lo hi none p2) v (.ref s3.heap.objs.size)) (EP X pins σ Q) X.xe { s3 with heap:=s3.heap.push { cls:=.type "slice",data:=.fields #[vl,vu,.none] } }
 exact tail_any (ops:=[.ref s3.heap.objs.size,v]) ht hT hg (by with_unfolding_all rfl)
noncomputable def wk (xs:List V)(lo hi:Option Int):List V:=(xs.drop (HT.sIx xs.length 0 lo)).take (HT.sIx xs.length xs.length hi - HT.sIx xs.length 0 lo)
theorem yT (xs:List V)(lo hi:Option Int):(wk xs lo hi).length<=xs.length:=by
 unfold wk
 rw [List.length_take,List.length_drop]
 walk_at "o"
noncomputable def Gk (K:PySem.W.Frag):V->Option Int->Option Int->Hp->VK->Prop:=fun x lo hi H Q=>∃ a xs,x=.ref a/\SqT K H a xs /\
 ¬ (HT.sIx xs.length 0 lo=0/\HT.sIx xs.length xs.length hi=xs.length)/\∀ p,H p=none->Q (.ref p) (upd H p (.tup (wk xs lo hi)))
theorem W7:SlR X (Gk X.K):=by
 intro pins s σ H x v vl vu lo hi sl Q I rx hs pl pu h
 obtain ⟨a,xs,rfl,hx,hw,q⟩:=h
 cases rx
 obtain ⟨its,r,ht,hz⟩:=I.tuple hx
 have hlen:its.toArray.size=xs.length:=by rw [List.size_toArray];exact r.length.symm
 refine ⟨"tuple",_,PyProof.Rows.slot_tuple_getitem.lookup,ht.typeIs,?_⟩
 refine HT.getItem_tuple_cut ht hs pl pu (by rw [hlen];exact hw) ?_ (by rw [hlen];exact hz)
 rw [hlen]
 refine ⟨.ref s.heap.objs.size,_,I.laid (t':=s.toks) (o:=.tup (wk xs lo hi)) (fun b ob q=>Heap.get?_push_of_some _ q) (Nat.le_refl _) ?_,rfl,q _ (I.hok.fresh (Nat.le_refl _))⟩
 exact ⟨Nat.le_trans (yT xs lo hi) hz,_,(r.drop (HT.sIx xs.length 0 lo)).take (HT.sIx xs.length xs.length hi - HT.sIx xs.length 0 lo),wq.new _ _⟩
end
noncomputable def ixN (n:Nat)(i:Int):Option Nat:=if 0<=i then (if i<n then some i.toNat else none) else if -(n:Int)<=i then some (i+n).toNat else none
noncomputable def atI {α:Type}(xs:List α)(i:Int):Option α:=(ixN xs.length i).bind fun j=>xs[j]?
theorem Xa {n:Nat}{i:Int}{j:Nat}(h:ixN n i=some j):seqIndex? i n=some j/\j<n/\-(n:Int)<=i/\i<n:=by
 unfold ixN at h
 by_cases h0:0<=i
 ·rw [if_pos h0] at h
  by_cases h1:i<n
  ·rw [if_pos h1] at h
   have e:i.toNat=j:=Option.some.inj h
   exact ⟨by rw [seqIndex_of h0 h1,e],by walk_at "o",by walk_at "o",h1⟩
  ·rw [if_neg h1] at h;cases h
 ·rw [if_neg h0] at h
  by_cases h1:-(n:Int)<=i
  ·rw [if_pos h1] at h
   have e:(i+n).toNat=j:=Option.some.inj h
   exact ⟨by rw [seqIndex_neg (by walk_at "o") h1,e],by walk_at "o",h1,by walk_at "o"⟩
  ·rw [if_neg h1] at h;cases h
theorem Kq {α:Type}{xs:List α}{i:Int}{v:α}(h:atI xs i=some v):∃ j,seqIndex? i xs.length=some j/\xs[j]?=some v/\j<xs.length/\-(xs.length:Int)<=i/\i<xs.length:=by
 unfold atI at h
 cases e:ixN xs.length i with
 | none=>rw [e] at h;cases h
 | some j=>
  rw [e] at h
  obtain ⟨h1,h2,h3,h4⟩:=Xa e
  exact ⟨j,h1,h,h2,h3,h4⟩
theorem Bm {α:Type}{xs:List α}{j:Nat}{v:α}(h:xs[j]?=some v):atI xs (j:Int)=some v:=by
 have hj:j<xs.length:=(List.getElem?_eq_some_iff.mp h).1
 have e:ixN xs.length (j:Int)=some j:=by
  unfold ixN
  rw [if_pos (by walk_at "o"),if_pos (by walk_at "o")];simp
 unfold atI;rw [e];exact h
noncomputable def BN (b:Expr):Prop:=∀ o i,subscripted b false o i=operate [o,i] (getItem o i)
noncomputable def IxR (X:Cx)(r:R2):Prop:=
 ∀ (value slice:Expr) (pins:List (Addr × Obj)) (s:Shared) (σ:St) (H:Hp) (x y:V) (v u:Value) (Q:VK),Inv X pins σ H s->zF x v->zF y u->r x y H Q ->
  subscripted slice false v u=operate [v,u] (getItem v u)->wpAny (model X.prog X.w) X.A (subscriptTail value slice v u) (EP X pins σ Q) X.xe s
noncomputable def MtR (X:Cx)(id:String)(r:V->List V->Hp->VK->Prop):Prop:=
 ∀ (pins:List (Addr × Obj)) (s:Shared) (σ:St) (H:Hp) (x:V) (xs:List V) (v:Value) (us:List Value) (Q:VK),Inv X pins σ H s->zF x v->zu xs us->r x xs H Q ->
  wpAny (model X.prog X.w) X.A (call (.builtin id) (v :: us)) (EP X pins σ Q) X.xe s
section
variable {X:Cx}{a b:Expr}{ta tb:TE}{pos:Pos}
theorem zG {r:R2}(hr:IxR X r)(ha:PE X a ta)(hb:PE X b tb)(hs:BN b):PE X (.Subscript a b pos) (tOp r ta tb):=by
 intro pins s σ H Q I h
 exact Subscript_ (E9 ha hb I h fun v u s2 x y H2 I2 rx ry q=>hr a b pins s2 σ H2 x y v u Q I2 rx ry q (hs _ _))
noncomputable def FY (K:PySem.W.Frag):R2:=fun x y H Q=>∃ p xs i v,x=.ref p/\y=.int i/\SqL K H p xs/\atI xs i=some v/\Q v H
noncomputable def FV (K:PySem.W.Frag):R2:=fun x y H Q=>∃ p xs i v,x=.ref p/\y=.int i/\SqT K H p xs/\atI xs i=some v/\Q v H
theorem qt:IxR X (FY X.K):=by
  intro value slice pins s σ H x y v u Q I rx ry h hs
  obtain ⟨p,xs,i,z,rfl,rfl,hq,he,q⟩:=h
  cases rx
  obtain ⟨t,rfl⟩:=ry
  obtain ⟨its,r,pl,hz⟩:=I.list hq
  obtain ⟨j,h1,h2,h3,h4,h5⟩:=Kq he
  obtain ⟨w,ew,rw'⟩:=r.get h2
  have hl:=r.length
  have hn:=vP
  have fin:EP X pins σ Q w s:=⟨z,H,I,rw',q⟩
  by_cases h0:0<=i
  · have hj : i.toNat = j := by
      rw [seqIndex_of h0 h5] at h1
      exact Option.some.inj h1
    exact item_listR pl.isList h0 (by walk_at "o") (by rw [hj];simpa using ew) fin hs
  · have hj : (i + (its.toArray.size : Int)).toNat = j := by
      rw [seqIndex_neg (by walk_at "o") h4] at h1
      rw [List.size_toArray,<- hl]
      exact Option.some.inj h1
    exact subscriptTail_builtinR (x:=w) pl.isList.typeIs slot_list_getitem.lookup
      (wpAny_getItem_list_neg (Q:=fun r s'=>r=w/\EP X pins σ Q r s') pl.isList (by walk_at "o") (by rw [List.size_toArray] <;> walk_at "o") (by walk_at "o") (by rw [hj];simpa using ew) ⟨rfl,fin⟩) hs
theorem Ff:IxR X (FV X.K):=by
 intro value slice pins s σ H x y v u Q I rx ry h hs
 obtain ⟨p,xs,i,z,rfl,rfl,hq,he,q⟩:=h
 cases rx
 obtain ⟨t,rfl⟩:=ry
 obtain ⟨its,r,pl,hz⟩:=I.tuple hq
 obtain ⟨j,h1,h2,h3,h4,h5⟩:=Kq he
 obtain ⟨w,ew,rw'⟩:=r.get h2
 have hl:=r.length
 have hn:=vP
 have fin:EP X pins σ Q w s:=⟨z,H,I,rw',q⟩
 exact subscriptTail_builtinR (x:=w) pl.typeIs slot_tuple_getitem.lookup
  (getItem_tuple (j:=j) (Q:=fun r s'=>r=w/\EP X pins σ Q r s') pl (by walk_at "o") (by walk_at "o") (by rw [List.size_toArray,<- hl];exact h1) (by simpa using ew) ⟨rfl,fin⟩) hs
theorem Jl (its:List Value)(n j:Nat)(u:Value):Obj.mapSeq (·.setIfInBounds j u) { cls:=.type "list",data:=.seq its.toArray n }={ cls:=.type "list",data:=.seq (its.set j u).toArray n }:=by
 simp [Obj.mapSeq]
theorem Inv.lst {pins:List (Addr × Obj)}{σ:St}{H:Hp}{s:Shared}{p:Addr}{xs:List V}(I:Inv X pins σ H s)(h:H p=some (.lst xs)) :
  ∃ (its:List Value) (n:Nat),zu xs its/\s.heap.get? p=some { cls:=.type "list",data:=.seq its.toArray n }/\xs.length<=sizeLine:=by
 obtain ⟨z,its,n,r,e⟩:=I.hok p _ h
 exact ⟨its,n,r,e,z⟩
theorem Inv.lstUpd {pins:List (Addr × Obj)}{σ:St}{H:Hp}{s:Shared}{p:Addr}{xs ys:List V}{its its':List Value}{n n':Nat}{f:Obj->Obj}(I:Inv X pins σ H s)(h:H p=some (.lst xs))
  (ho:s.heap.get? p=some { cls:=.type "list",data:=.seq its.toArray n }) (hf:f { cls:=.type "list",data:=.seq its.toArray n }={ cls:=.type "list",data:=.seq its'.toArray n' }) (r:zu ys its') (hz:ys.length<=sizeLine) (t:Nat) :
  Inv X pins σ (upd H p (.lst ys)) { s with heap:=s.heap.update p f,toks:=t }:=by
 have e:(s.heap.update p f).get? p=some { cls:=.type "list",data:=.seq its'.toArray n' }:=by
  rw [Heap.get?_update_self f ho (by rw [hf] <;> rfl),hf]
 refine I.write (x:=p) (e:=p) (by rw [h];trivial) (.inl rfl) (fun b u hb q=>(Heap.get?_update_other _ _ (Ne.symm hb)).trans q) ⟨_,e⟩ ?_
 exact ⟨hz,its',n',r,e⟩
noncomputable def DB:V->V->V->Hp->(Hp->Prop)->Prop:=fun o i v H Q=>∃ p xs k j,o=.ref p/\i=.int k/\H p=some (.lst xs)/\ixN xs.length k=some j/\Q (upd H p (.lst (xs.set j v)))
theorem VI:Eo X DB:=by
  intro pins s σ H o i v ov iv u Q I ro ri rv h
  obtain ⟨p,xs,k,j,rfl,rfl,hp,hj,q⟩:=h
  cases ro
  obtain ⟨t,rfl⟩:=ri
  obtain ⟨its,n,r,ho,hz⟩:=I.lst hp
  obtain ⟨h1,h2,h3,h4⟩:=Xa hj
  have hl:=r.length
  have hn:=vP
  have I':Inv X pins σ (upd H p (.lst (xs.set j v))) { s with heap:=s.heap.update p (Obj.mapSeq (·.setIfInBounds j u)) }:=
    I.lstUpd hp ho (Jl its n j u) (r.set rv j) (by rw [List.length_set];exact hz) s.toks
  by_cases h0:0<=k
  · have hk : k.toNat = j := by
      rw [seqIndex_of h0 h4] at h1
      exact Option.some.inj h1
    exact PySem.W.ki_setAt ho h0 (by walk_at "o") (by rw [List.size_toArray,<- hl];exact h4) (by rw [hk];exact ⟨_,I',q⟩)
  · have hk : (k + (its.toArray.size : Int)).toNat = j := by
      rw [seqIndex_neg (by walk_at "o") h3] at h1
      rw [List.size_toArray,<- hl]
      exact Option.some.inj h1
    exact PySem.W.ki_setBack ho (by walk_at "o") (by rw [List.size_toArray,<- hl];exact h3) (by walk_at "o") (by rw [hk];exact ⟨_,I',q⟩)
theorem ZP (lo hi:Option Int)(n:Nat):(sliceBounds lo hi none n).1=((HT.sIx n 0 lo:Nat):Int)/\(sliceBounds lo hi none n).2.1=((HT.sIx n n hi:Nat):Int)/\(sliceBounds lo hi none n).2.2=1:=by
 refine ⟨?_,?_,rfl⟩
 ·cases lo with
  | none=>simp [sliceBounds,HT.sIx]
  | some i=>
   simp only [sliceBounds,HT.sIx,Option.getD_none,show (1:Int) > 0 by decide,if_true]
   by_cases h:i<0
   ·simp only [h,if_true] <;> walk_at "o"
   ·simp only [h,if_false] <;> walk_at "o"
 ·cases hi with
  | none=>simp [sliceBounds,HT.sIx]
  | some i=>
   simp only [sliceBounds,HT.sIx,Option.getD_none,show (1:Int) > 0 by decide,if_true]
   by_cases h:i<0
   ·simp only [h,if_true] <;> walk_at "o"
   ·simp only [h,if_false] <;> walk_at "o"
theorem wn (its:List Value)(lo hi:Option Int):slicePick its.toArray lo hi none=((its.drop (HT.sIx its.length 0 lo)).take (HT.sIx its.length its.length hi - HT.sIx its.length 0 lo)).toArray:=by
 obtain ⟨h1,h2,h3⟩:=ZP lo hi its.toArray.size
 unfold slicePick
 rw [h1,h2,h3]
 simp only [sliceRange_one,pick_run,List.size_toArray] <;> rfl
noncomputable def BF (K:PySem.W.Frag):V->Option Int->Option Int->Hp->VK->Prop:=fun x lo hi H Q=>∃ a xs,x=.ref a/\SqL K H a xs/\∀ p,H p=none->Q (.ref p) (upd H p (.lst (wk xs lo hi)))
theorem jR:SlR X (BF X.K):=by
 intro pins s σ H x v vl vu lo hi sl Q I rx hs pl pu h
 obtain ⟨a,xs,rfl,hx,q⟩:=h
 cases rx
 obtain ⟨its,r,ht,hz⟩:=I.list hx
 have hlen:=r.length
 refine ⟨"list",_,slot_list_getitem.lookup,ht.isList.typeIs,?_⟩
 refine wpAny_getItem_list_slice ht.isList hs pl pu .none (by simp) ?_ (by rw [List.size_toArray] <;> walk_at "o")
 rw [wn,<- hlen]
 refine ⟨.ref s.heap.objs.size,_,I.laid (t':=s.toks) (o:=.lst (wk xs lo hi)) (fun b ob q=>Heap.get?_push_of_some _ q) (Nat.le_refl _) ?_,rfl,q _ (I.hok.fresh (Nat.le_refl _))⟩
 exact ⟨Nat.le_trans (yT xs lo hi) hz,_,0,(r.drop (HT.sIx xs.length 0 lo)).take (HT.sIx xs.length xs.length hi - HT.sIx xs.length 0 lo),Heap.get?_push_size _ rfl⟩
noncomputable def j5:V->Bool
 | .non=>true
 | .bl _=>true
 | .int _=>true
 | .str _=>true
 | _=>false
noncomputable def eqV:V->V->Bool
 | .non,.non=>true
 | .bl a,.bl b=>a == b
 | .bl a,.int b=>(if a then 1 else 0) == b
 | .int a,.bl b=>a == (if b then 1 else 0)
 | .int a,.int b=>a == b
 | .str a,.str b=>a == b
 | _,_=>false
theorem Em {A:Around}{s:Shared}{y x:V}{u v:Value}(ry:zF y u)(rx:zF x v)(fy:j5 y=true)(fx:j5 x=true):SeqAt.EqAt A s u v (eqV y x):=by
 cases y with
 | non=>
  cases ry
  cases x with
  | non=>cases rx;exact SeqAt.EqAt.same _
  | bl b=>cases rx;exact SeqAt.EqAt.none_bool b
  | int b=>obtain ⟨t,rfl⟩:=rx;exact SeqAt.EqAt.none_int b t
  | str b=>obtain ⟨t,rfl⟩:=rx;exact SeqAt.EqAt.none_str b t
  | _=>exact absurd (show false=true from fx) Bool.false_ne_true
 | bl a=>
  cases ry
  cases x with
  | non=>cases rx;exact SeqAt.EqAt.bool_none a
  | bl b=>cases rx;exact SeqAt.EqAt.bool_bool a b
  | int b=>obtain ⟨t,rfl⟩:=rx;exact SeqAt.EqAt.bool_int a b t
  | str b=>obtain ⟨t,rfl⟩:=rx;exact SeqAt.EqAt.bool_str a b t
  | _=>exact absurd (show false=true from fx) Bool.false_ne_true
 | int a=>
  obtain ⟨t',rfl⟩:=ry
  cases x with
  | non=>cases rx;exact SeqAt.EqAt.int_none a t'
  | bl b=>cases rx;exact SeqAt.EqAt.int_bool a t' b
  | int b=>obtain ⟨t,rfl⟩:=rx;exact SeqAt.EqAt.int_int a t' b t
  | str b=>obtain ⟨t,rfl⟩:=rx;exact SeqAt.EqAt.int_str a t' b t
  | _=>exact absurd (show false=true from fx) Bool.false_ne_true
 | str a=>
  obtain ⟨t',rfl⟩:=ry
  cases x with
  | non=>cases rx;exact SeqAt.EqAt.str_none a t'
  | bl b=>cases rx;exact SeqAt.EqAt.str_bool a t' b
  | int b=>obtain ⟨t,rfl⟩:=rx;exact SeqAt.EqAt.str_int a t' b t
  | str b=>obtain ⟨t,rfl⟩:=rx;exact SeqAt.EqAt.str_str a t' b t
  | _=>exact absurd (show false=true from fx) Bool.false_ne_true
 | _=>exact absurd (show false=true from fy) Bool.false_ne_true
noncomputable def eqU (x:V)(u:Value):Bool:=match u with
 | .none=>eqV .non x
 | .bool b=>eqV (.bl b) x
 | .int i _=>eqV (.int i) x
 | .str z _=>eqV (.str z) x
 | _=>false
theorem VM {x y:V}{u:Value}(r:zF y u)(f:j5 y=true):eqU x u=eqV y x:=by
 cases y with
 | non=>cases r;rfl
 | bl b=>cases r;rfl
 | int i=>obtain ⟨t,rfl⟩:=r;rfl
 | str z=>obtain ⟨t,rfl⟩:=r;rfl
 | _=>exact absurd (show false=true from f) Bool.false_ne_true
theorem vV {A:Around}{s:Shared}{x:V}{v:Value}(rx:zF x v)(fx:j5 x=true):∀ {xs:List V} {us:List Value},zu xs us->xs.all j5=true->∀ u ∈ us,SeqAt.EqAt A s u v (eqU x u)
 | _,_,.nil,_=>fun u hu=>by cases hu
 | y :: xs,u :: us,.cons r t,f=>fun u' hu=>by
  rw [List.all_cons,Bool.and_eq_true] at f
  rcases List.mem_cons.mp hu with rfl | hu
  ·rw [VM r f.1];exact Em r rx f.1 fx
  ·exact vV rx fx t f.2 u' hu
theorem zw:qI X (.builtin "len") (fun xs H Q=>∃ p ys,xs=[.ref p]/\(SqL X.K H p ys \/ SqT X.K H p ys)/\Q (.int ys.length) H):=by
 intro pins s σ H xs us Q I r h
 obtain ⟨p,ys,rfl,hq,q⟩:=h
 obtain ⟨u,rfl,rx⟩:=jK r
 cases rx
 have hn:=vP
 rcases hq with hq | hq
 ·obtain ⟨its,r',pl,hz⟩:=I.list hq
  have hlen:=r'.length
  exact Calls.call_len_list pl.isList (by simp only [List.size_toArray] <;> walk_at "o") ⟨.int ys.length,H,I.tok _,⟨s.toks+1,by rw [List.size_toArray,hlen]⟩,q⟩
 ·obtain ⟨its,r',pl,hz⟩:=I.tuple hq
  have hlen:=r'.length
  exact len_tuple pl (by simp only [List.size_toArray] <;> walk_at "o") ⟨.int ys.length,H,I.tok _,⟨s.toks+1,by rw [List.size_toArray,hlen]⟩,q⟩
theorem kl:qI X (.type "list") (fun xs H Q=>∃ p ys,xs=[.ref p]/\(SqL X.K H p ys \/ SqT X.K H p ys)/\∀ l,H l=none->Q (.ref l) (upd H l (.lst ys))):=by
 intro pins s σ H xs us Q I r h
 obtain ⟨p,ys,rfl,hq,q⟩:=h
 obtain ⟨u,rfl,rx⟩:=jK r
 cases rx
 have fin:∀ (its:List Value),zu ys its->ys.length<=sizeLine->∀ (h':Heap) (c':Nat),(∀ b o',s.heap.get? b=some o'->h'.get? b=some o') ->
   h'.get? s.heap.objs.size=some { cls:=.type "list",dict:=none,data:=.seq its.toArray c',slots:=#[] }->EP X pins σ Q (.ref s.heap.objs.size) { s with heap:=h' }:=fun its r' hz h' c' kp e=>
  ⟨.ref s.heap.objs.size,_,I.laid (t':=s.toks) kp (Nat.le_refl _) (show qa X.prog X.w _ h' _ (.lst ys) from ⟨hz,its,c',r',e⟩),rfl,q _ (I.hok.fresh (Nat.le_refl _))⟩
 rcases hq with hq | hq
 ·obtain ⟨its,r',pl,hz⟩:=I.list hq
  have hlen:=r'.length
  obtain ⟨o,ho,hc,n,hd⟩:=pl.isList
  exact call_list_seq p (.inl rfl) ho hc hd (fun h' c' kp e=>fin its r' hz h' c' kp e) (by simp only [List.size_toArray] <;> walk_at "o")
 ·obtain ⟨its,r',pl,hz⟩:=I.tuple hq
  have hlen:=r'.length
  obtain ⟨o,ho,hc,n,hd⟩:=pl
  exact call_list_seq p (.inr rfl) ho hc hd (fun h' c' kp e=>fin its r' hz h' c' kp e) (by simp only [List.size_toArray] <;> walk_at "o")
theorem xF:qI X (.type "tuple") (fun xs H Q=>∃ p ys,xs=[.ref p]/\((SqL X.K H p ys/\∀ l,H l=none->Q (.ref l) (upd H l (.tup ys))) \/ (SqT X.K H p ys/\Q (.ref p) H))):=by
 intro pins s σ H xs us Q I r h
 obtain ⟨p,ys,rfl,h⟩:=h
 obtain ⟨u,rfl,rx⟩:=jK r
 cases rx
 rcases h with ⟨hq,q⟩ | ⟨hq,q⟩
 ·obtain ⟨its,r',pl,hz⟩:=I.list hq
  have hlen:=r'.length
  refine call_tuple_list pl.isList (fun h' kp=>?_) (by simp only [List.size_toArray] <;> walk_at "o")
  have I1:Inv X pins σ H { s with heap:=h' }:=I.kept (t':=s.toks) kp
  have I2:Inv X pins σ (upd H h'.objs.size (.tup ys)) { s with heap:=h'.push { cls:=.type "tuple",data:=.seq its.toArray } }:=
   I1.laid (t':=s.toks) (fun b o e=>Heap.get?_push_of_some _ e) (Nat.le_refl _) (show qa X.prog X.w _ _ _ (.tup ys) from ⟨hz,its,r',wq.new _ _⟩)
  exact ⟨.ref h'.objs.size,_,I2,rfl,q _ (I1.hok.fresh (Nat.le_refl _))⟩
 ·obtain ⟨its,r',pl,hz⟩:=I.tuple hq
  exact call_tuple_same pl ⟨.ref p,H,I,rfl,q⟩
noncomputable def tyV (K:PySem.W.Frag)(T:String)(x:V)(H:Hp):Prop:=match x with
  | .str _=>T="str"
  | .int _=>T="int"
  | .ref p => (T = "list" /\ ∃ xs, SqL K H p xs) \/ (T = "tuple" /\ ((∃ xs, Rd H p (.tup xs)) \/ ∃ o, K.lookup p = some o /\ o.cls = .type "tuple" /\ o.dict = none)) \/
      (T="dict"/\((∃ kvs,H p=some (.dK kvs)) \/ ∃ kvs,H p=some (.dT kvs))) \/ (T="set"/\∃ S n,H p=some (.set S n))
  | _=>False
theorem Kb {pins : List (Addr × Obj)}{σ : St}{H : Hp}{s : Shared}{T : String}{x : V}{v : Value}(I : Inv X pins σ H s)(r : zF x v)(ty : tyV X.K T x H) :
    s.TypeIs v T/\∀ a,v=.ref a->∃ ob,s.heap.get? a=some ob/\ob.dict=none:=by
  cases x with
  | str z=>
    obtain ⟨t,rfl⟩:=r
    cases (show T="str" from ty)
    exact ⟨typeIs_str s z t,fun _ e=>nomatch e⟩
  | int i=>
    obtain ⟨t,rfl⟩:=r
    cases (show T="int" from ty)
    exact ⟨typeIs_int s i t,fun _ e=>nomatch e⟩
  | ref p=>
    cases r
    rcases ty with ⟨rfl,xs,hq⟩ | ⟨rfl,⟨xs,hx⟩ | ⟨o,hk,hc,hd⟩⟩ | ⟨rfl,hk⟩ | ⟨rfl,S,n,hk⟩
    · obtain ⟨its,_,pl,_⟩:=I.list hq
      refine ⟨pl.isList.typeIs,fun a e=>?_⟩
      cases e
      obtain ⟨o,n,e,c,hd,_⟩:=pl
      exact ⟨o,e,hd⟩
    · obtain ⟨_,its,_,o,e,c,_,hd⟩:=hx.ok I.hok
      refine ⟨⟨o,e,c⟩,fun a e2=>?_⟩
      cases e2
      exact ⟨o,e,hd⟩
    · refine ⟨⟨o,I.kIn p o hk,hc⟩,fun a e=>?_⟩
      cases e
      exact ⟨o,I.kIn _ o hk,hd⟩
    · have z : ∃ o, s.heap.get? p = some o /\ o.ExactDict := by
        rcases hk with ⟨kvs,hk⟩ | ⟨kvs,hk⟩
        · obtain ⟨_,_,_,_,o,_,_,e,ex,_⟩:=I.hok p _ hk
          exact ⟨o,e,ex⟩
        · obtain ⟨_,_,_,_,o,_,_,e,ex,_⟩:=I.hok p _ hk
          exact ⟨o,e,ex⟩
      obtain ⟨o,e,ex⟩:=z
      refine ⟨⟨o,e,ex.1⟩,fun a e2=>?_⟩
      cases e2
      exact ⟨o,e,ex.2.1⟩
    · obtain ⟨o,_,_,_,e,ex,_⟩:=I.hok p _ hk
      refine ⟨⟨o,e,ex.1⟩,fun a e2=>?_⟩
      cases e2
      exact ⟨o,e,ex.2.1⟩
  | _=>exact False.elim ty
noncomputable def tBM (K:PySem.W.Frag)(T:String)(r:V->List V->Hp->VK->Prop)(to:TE)(t:TA):TE:=fun σ H Q=>to σ H fun x H1=>tyV K T x H1/\t σ H1 fun xs H2=>r x xs H2 Q
variable {o e:Expr}{es:List Expr}{to:TE}{t:TA}{name:Str}{apos cpos:Pos}{T id:String}{r:V->List V->Hp->VK->Prop}
theorem jN (pa:PlainAttrs T)(slot:Slot T name id)(hty:typeOf (.builtin id)=pure (.type "method_descriptor"))(hm:MtR X id r)(ho:PE X o to)(ha:PA X (e :: es) t)
  (hbase:attributeBase o name X.env (eval o X.env)=eval o X.env:=by rfl)
  (hfew:((backTo cpos (starEach (e :: es) X.env)).all (fun x=>!x.1) && (backToKw cpos (keywordEach [] X.env)).all (fun x=>x.1.isSome)
   && decide ((e :: es).length+([]:List Keyword).length+(if ([]:List Keyword).isEmpty then 0 else 1)<30))=true:=by rfl)
  (hline:(apos.endLine == cpos.line)=true:=by rfl) (hs:starEach (e :: es) X.env=(false,eval e X.env) :: starEach es X.env:=by rfl) (hplain:(backTo cpos (starEach es X.env)).any (·.1)=false:=by rfl) :
  PE X (.Call (.Attribute o name apos) (e :: es) [] cpos) (tBM X.K T r to t):=by
 intro pins s σ H Q I h
 refine wpAny_Call_method_late hbase hfew hline rfl (thn (ho pins s σ H _ I h) fun v s1 ⟨x,H1,I1,r1,ty,q1⟩=>?_)
 obtain ⟨h1,h2⟩:=Kb I1 r1 ty
 refine ⟨T,id,pa,slot,hty,h1,h2,?_⟩
 have hA:=ha cpos pins s1 σ H1 _ I1 q1
 rw [hs] at hA ⊢
 refine Calls.callWith_builtin (by show (false || (backTo cpos (starEach es X.env)).any (·.1))=false;rw [hplain] <;> rfl) (Calls.evalArgs_plain ?_)
 exact thn hA fun us s2 ⟨vs,H2,I2,r2,q2⟩=>hm pins s2 σ H2 x vs v us Q I2 r1 r2 q2
/- xs.append(e),list.index on a module's tuple .. are MtR facts of 06m -/
end
noncomputable def MtM (X:Cx)(id:String)(r:V->List V->Hp->VK->Prop):Prop:=
 ∀ (pins:List (Addr × Obj)) (s:Shared) (σ:St) (H:Hp) (x:V) (xs:List V) (v:Value) (us:List Value) (Q:VK),Inv X pins σ H s->zF x v->zu xs us->r x xs H Q ->
  wpAny (model X.prog X.w) X.A (call (.builtin id) (v :: us)) (EP X pins σ Q) X.xe s
theorem zu.one:∀ {x:V} {us:List Value},zu [x] us->∃ u,us=[u]/\zF x u
 | _,_,.cons r .nil=>⟨_,rfl,r⟩
theorem zu.dropLast {xs:List V}{us:List Value}(h:zu xs us):zu xs.dropLast us.dropLast:=by
 induction h with
 | nil=>exact .nil
 | cons r t ih=>
  cases t with
  | nil=>exact .nil
  | cons q t'=>exact .cons r ih
theorem zu.rep {xs:List V}{us:List Value}(h:zu xs us):∀ k:Nat,zu (List.replicate k xs).flatten (List.replicate k us).flatten
 | 0=>.nil
 | k+1=>by
  rw [List.replicate_succ,List.replicate_succ,List.flatten_cons,List.flatten_cons]
  exact zu.append h (zu.rep h k)
theorem wO (its:List Value):∀ (k:Nat) (acc:List Value),
  List.foldl (fun x1 x2=>x1 ++ x2) acc.toArray (List.replicate k its.toArray)=(acc ++ (List.replicate k its).flatten).toArray
 | 0,acc=>by simp
 | k+1,acc=>by
  have e:acc.toArray ++ its.toArray=(acc ++ its).toArray:=by simp
  have e2:(acc ++ its) ++ (List.replicate k its).flatten=acc ++ (List.replicate (k+1) its).flatten:=by
   rw [List.replicate_succ,List.flatten_cons,List.append_assoc]
  rw [<- e2,<- wO its k (acc ++ its),<- e,List.replicate_succ,List.foldl_cons]
section
variable {X:Cx}{pins:List (Addr × Obj)}{σ:St}{H:Hp}{s:Shared}{l b:Addr}{xs ys zs:List V}
theorem Inv.lset {its its':List Value}{n:Nat}{f:Array Value->Array Value}{t':Nat}(I:Inv X pins σ H s)(hH:H l=some (.lst xs))
  (e:s.heap.get? l=some { cls:=.type "list",data:=.seq its.toArray n }) (hf:f its.toArray=its'.toArray) (hv:zu ys its') (hz:ys.length<=sizeLine) :
  Inv X pins σ (upd H l (.lst ys)) { s with heap:=s.heap.update l (Obj.mapSeq f),toks:=t' }:=by
 have q:=PySem.IsL.update e f
 rw [hf] at q
 refine I.write (x:=l) (e:=l) (by rw [hH];exact trivial) (.inl rfl) (fun b' u hb hu=>(Heap.get?_update_other s.heap (Obj.mapSeq f) (Ne.symm hb)).trans hu) ⟨_,q⟩ ?_
 exact ⟨hz,its',_,hv,q⟩
theorem Inv.lnew {its:List Value}{t':Nat}(I:Inv X pins σ H s)(hv:zu ys its)(hz:ys.length<=sizeLine) :
  Inv X pins σ (upd H s.heap.objs.size (.lst ys)) { s with heap:=s.heap.push { cls:=.type "list",data:=.seq its.toArray },toks:=t' }:=
 I.laid (fun _ _ q=>Heap.get?_push_of_some _ q) (Nat.le_refl _) ⟨hz,its,0,hv,Heap.get?_push_size _ rfl⟩
theorem Inv.fresh (I:Inv X pins σ H s):H s.heap.objs.size=none:=I.hok.fresh (Nat.le_refl _)
theorem Inv.lstM (I:Inv X pins σ H s)(hH:H l=some (.lst xs)):xs.length<=sizeLine/\∃ (its:List Value) (n:Nat),zu xs its/\xs.length=its.length/\s.heap.get? l=some { cls:=.type "list",data:=.seq its.toArray n }:=by
 obtain ⟨z,its,n,r,e⟩:=I.hok l _ hH
 exact ⟨z,its,n,r,r.length,e⟩
theorem QC {n:Nat}(h:n<=sizeLine):Builtin.List.listTooLong n=false:=by
 unfold Builtin.List.listTooLong
 exact decide_eq_false (by walk_at "o")
end
section
variable {X:Cx}
noncomputable def vj:V->List V->Hp->VK->Prop:=fun x vs H Q=>∃ l xs y,x=.ref l/\vs=[y]/\H l=some (.lst xs)/\xs.length<sizeLine/\Q .non (upd H l (.lst (xs ++ [y])))
theorem wQ:MtM X "list.append" vj:=by
 intro pins s σ H x vs v us Q I rx rv h
 obtain ⟨l,xs,y,rfl,rfl,hH,hz,q⟩:=h
 cases rx
 obtain ⟨u,rfl,ru⟩:=rv.one
 obtain ⟨z,its,n,r,hl,e⟩:=I.lstM hH
 refine call_meets F.slot_list_append ⟨_,e,rfl⟩ F.entry_list_append (F.args_list_append_2 _ _) (PySem.list_append l its.toArray n u (by rw [List.size_toArray];walk_at "o")) ⟨e,?_⟩
 refine ⟨.non,_,I.lset (its':=its ++ [u]) hH e (by simp) (r.append (.cons ru .nil)) ?_,rfl,q⟩
 rw [List.length_append,List.length_singleton]
 walk_at "o"
noncomputable def vm:V->List V->Hp->VK->Prop:=fun x vs H Q=>∃ l b xs zs,x=.ref l/\vs=[.ref b]/\H l=some (.lst xs)/\H b=some (.lst zs)/\xs.length+zs.length<=sizeLine/\Q .non (upd H l (.lst (xs ++ zs)))
theorem X3:MtM X "list.extend" vm:=by
 intro pins s σ H x vs v us Q I rx rv h
 obtain ⟨l,b,xs,zs,rfl,rfl,hH,hB,hz,q⟩:=h
 cases rx
 obtain ⟨u,rfl,ru⟩:=rv.one
 cases ru
 obtain ⟨z,its,n,r,hl,e⟩:=I.lstM hH
 obtain ⟨z2,its2,n2,r2,hl2,e2⟩:=I.lstM hB
 have hsz:its.toArray.size+its2.toArray.size<=sizeLine:=by rw [List.size_toArray,List.size_toArray];walk_at "o"
 have hlong:¬ (!its.toArray.isEmpty && Builtin.List.listTooLong (its.toArray.size+its2.toArray.size))=true:=by
  rw [QC hsz,Bool.and_false]
  exact Bool.false_ne_true
 refine call_meets F.slot_list_extend ⟨_,e,rfl⟩ F.entry_list_extend (F.args_list_extend_2 _ _)
  (AutoSeq1.list_extend_list_list_0 l its.toArray n b its2.toArray n2 hlong (by rw [List.size_toArray];walk_at "o") (by walk_at "o")) ⟨e,e2,?_⟩
 refine ⟨.non,_,I.lset (its':=its ++ its2) hH e (by simp) (r.append r2) ?_,rfl,q⟩
 rw [List.length_append]
 walk_at "o"
noncomputable def Be:R2:=fun x y H Q=>∃ l b xs zs,x=.ref l/\y=.ref b/\H l=some (.lst xs)/\H b=some (.lst zs)/\xs.length+zs.length<=sizeLine/\∀ p,H p=none->Q (.ref p) (upd H p (.lst (xs ++ zs)))
theorem jC:OpR X (binaryOp .Add) Be:=by
 intro pins s σ H x y v u Q I rx ry h
 obtain ⟨l,b,xs,zs,rfl,rfl,hH,hB,hz,q⟩:=h
 cases rx
 cases ry
 obtain ⟨z,its,n,r,hl,e⟩:=I.lstM hH
 obtain ⟨z2,its2,n2,r2,hl2,e2⟩:=I.lstM hB
 refine PySem.P.add_list e e2 ?_ (by rw [List.size_toArray,List.size_toArray];walk_at "o")
 have ea:its.toArray ++ its2.toArray=(its ++ its2).toArray:=by simp
 rw [ea]
 exact ⟨.ref _,_,I.lnew (t':=s.toks) (r.append r2) (by rw [List.length_append];walk_at "o"),rfl,q _ I.fresh⟩
noncomputable def EB:R2:=fun x y H Q=>∃ l k xs,x=.ref l/\y=.int k/\H l=some (.lst xs)/\-(2 ^ 63)<=k/\k<2 ^ 63/\xs.length * k.toNat<=sizeLine /\
 ∀ p,H p=none->Q (.ref p) (upd H p (.lst (List.replicate k.toNat xs).flatten))
theorem AH {α:Type}(xs:List α)(k:Nat):(List.replicate k xs).flatten.length=k * xs.length:=by
 induction k with
 | zero=>simp
 | succ k ih=>rw [List.replicate_succ,List.flatten_cons,List.length_append,ih,Nat.succ_mul,Nat.add_comm]
theorem wd:OpR X (binaryOp .Mult) EB:=by
 intro pins s σ H x y v u Q I rx ry h
 obtain ⟨l,k,xs,rfl,rfl,hH,h1,h2,hz,q⟩:=h
 cases rx
 obtain ⟨t,rfl⟩:=ry
 obtain ⟨z,its,n,r,hl,e⟩:=I.lstM hH
 have hlen:its.toArray.size * k.toNat<=sizeLine:=by rw [List.size_toArray,<- hl];exact hz
 have hcap:¬ its.toArray.size * k.toNat > (2 ^ 63 - 1) / 8:=by
  have:(sizeLine:Nat)<=(2 ^ 63 - 1) / 8:=by decide
  walk_at "o"
 have hfit:¬ (!Builtin.List.listFitsIndex k)=true:=by
  rw [fitsIndex_both h1 h2]
  exact Bool.false_ne_true
 have hlong:¬ Builtin.List.listTooLong (its.toArray.size * k.toNat)=true:=by
  rw [QC hlen]
  exact Bool.false_ne_true
 have hnew:List.foldl (fun x1 x2=>x1 ++ x2) #[] (List.replicate (if its.toArray.isEmpty=true then 0 else k.toNat) its.toArray)=(List.replicate k.toNat its).flatten.toArray:=by
  have f0:∀ m:Nat,List.foldl (fun x1 x2=>x1 ++ x2) #[] (List.replicate m its.toArray)=(List.replicate m its).flatten.toArray:=fun m=>by
   have:=wO its m []
   rw [List.nil_append] at this
   exact this
  rw [f0]
  cases its with
  | nil=>simp
  | cons a r'=>rw [if_neg (by simp)]
 refine wpAny_binaryOp_repeat_ref (T:="list") (U:="int") (by decide) ⟨_,e,rfl⟩ (fun s'=>typeIs_int s' k t) noFill_list_mul F.fills_int_mul F.slot_int_rmul repeat_list F.slot_int_index.lookup
  (call_meets F.slot_int_rmul (typeIs_int s k t) F.entry_int_rmul (F.args_int_rmul_2 _ _) (int___rmul___int_list k t l its.toArray n)
   ⟨e,rfl,⟨_,e,rfl⟩,call_meets F.slot_list_mul ⟨_,e,rfl⟩ F.entry_list_mul (F.args_list_mul_2 _ _) (AutoListH.list___mul___list_int_3 l its.toArray n k t hfit hcap hlong) ⟨e,?_⟩⟩)
 rw [hnew]
 exact ⟨.ref _,_,I.lnew (t':=s.toks) (r.rep k.toNat) (by rw [AH,Nat.mul_comm];exact hz),rfl,q _ I.fresh⟩
end
section
variable {prog:Program}{w:World}{A:Around}{E:Value->Shared->Prop}{s:Shared}
end
section
variable {X:Cx}
end
end L2
namespace Att
open PySem PySem.W PySem.Calls PyProof.Rows
theorem y6 {P:Params}{h:Heap}:∀ (ns:List Int) (vs:List Value),WellAll P h vs (ns.map WData.int)->IntsAre vs ns:=by
 intro ns
 induction ns with
 | nil=>
  intro vs w
  rw [List.map_nil] at w
  cases w
  exact .nil
 | cons n ns ih=>
  intro vs w
  rw [List.map_cons] at w
  cases w with
  | cons a b=>
   cases a
   exact .cons _ _ (ih _ b)
theorem Ye {l:OpenLaw}{n:Nat}(hn:l.most=some n){P:Params}{h:Heap}{args:List WData}{vals:List Value}
  (hpre:l.row.toRowW.claim.pre args=true) (hwl:WellAll P h vals args) :
  ∃ a vs ns,vals=[Value.ref a]/\args=[WData.list (ns.map WData.int)]/\h.get? a=some { cls:=.type "list",data:=.seq vs.toArray }/\IntsAre vs ns/\ns.length<=n:=by
 have hsh:WShape.hasAll [] args [.list .int]=true:=(pre_splitW hpre).1
 have hc:l.pre.holds [] { args:=args }=true:=(pre_splitW hpre).2
 obtain ⟨d,r,rfl,h1,h2⟩:=hasAllW_cons hsh
 obtain rfl:=hasAllW_nil h2
 obtain ⟨xs,rfl,h3⟩:=hasW_list h1
 obtain ⟨ns,rfl⟩:=items_int h3
 have hlen:ns.length<=n:=by
  unfold OpenLaw.pre at hc
  have h4:(WTm.not (.lt (.lit (.int (n:Int))) (.len (.arg 0)))).holds [] { args:=[.list (ns.map .int)] }=true:=by
   have h4:=(holds_andW hc).1
   rw [hn] at h4
   exact h4
  have h5:=condW_of h4 (w_not (w_lt w_lit (w_len_list (w_arg rfl))))
  rw [List.length_map] at h5
  refine Nat.le_of_not_lt fun q=>?_
  have q':(n:Int)<((ns.length:Nat):Int):=by walk_at "o"
  first
   | (rw [decide_eq_true q'] at h5;exact absurd h5 (by decide))
   | (simp at h5;walk_at "o")
 cases hwl with
 | cons w1 w2=>
  cases w2
  cases w1 with
  | list ho hall=>exact ⟨_,_,ns,rfl,rfl,ho,y6 ns _ hall,hlen⟩
theorem Xv (l:OpenLaw)(args:List WData):l.row.toRowW.claim.post args (.bool true) args=true:=
 postW_of (r:=l.row.toRowW) (X:=(true == true))
  (show WShape.has [] (.bool true) .bool=true by first | rfl | decide | simp [WShape.has,WShape.arms,WShape.armsAll])
  (show (WTm.eq .res (.lit (.bool true))).value [] { args:=args,res:=some (.bool true),after:=args }=some (.bool (true == true)) from w_eq_bool (w_res rfl) w_lit) rfl
theorem attach_call {l:OpenLaw}{n:Nat}{q:Program}{loose:List Str}{XP:(Str->Option Value)->Heap->Prop}{YP:World->Heap->Prop}{d:DefRec}
  (hn:l.most=some n) (hdf:d.params.defaults=[])
  (call:∀ (w:World) (s₀ s₁:Shared) (mg mb:Str->Option Value) (fa:Addr) (o:Obj) (pm cd doc:Value) (a:Addr) (vs:List Value) (ns:List Int),
   Ground q loose [] XP w s₀ mg mb s₁.heap->YP w s₁.heap ->
   s₁.heap.get? fa=some o->o.data=.func (docDef d.name d.params d.body d.scope pm cd doc)->s₁.heap.CodeRec cd d.name->mg d.name=some (.ref fa) ->
   s₁.heap.get? a=some { cls:=.type "list",data:=.seq vs.toArray }->IntsAre vs ns->ns.length<=n->s₁.gens=#[] ->
   codeAny (model l.prog w) callerA (.call (.ref fa) ⟨[.ref a],[]⟩) (fun r s'=>r=.ok (.ret (.bool true))/\OldK s₁.heap s'.heap/\s'.os=s₁.os/\AllBare s'.gens) s₁) :
  WalkO q loose XP YP l.row.toRowW d [] (fun f vs=>PySem.call f vs):=by
 intro w s₀ s₁ mg mb G Y fa o pm cd doc dV kV ho hd hcd hD hmg hg args vals as hpre hlay hrd hwl hlo
 obtain rfl:dV=.none:=Dflts.none hD hdf
 obtain rfl:kV=.none:=Dflts.noKw hD
 obtain ⟨a,vs,ns,rfl,rfl,hobj,hints,hlen⟩:=Ye hn hpre hwl
 refine enter_call (codeAny_mono (call w s₀ s₁ mg mb fa o pm cd doc a vs ns G Y ho (fd_plain hd) hcd hmg hobj hints hlen hg) fun r s' hq=>?_)
 obtain ⟨rfl,h2,h3,h4⟩:=hq
 exact ⟨.inl ⟨.bool true,.bool true,[],rfl,fun _=>rfl,.bool true,Xv l _,fun _=>⟨List.Pairwise.nil,fun _ hm=>(nomatch hm)⟩⟩,h2,h3,h4⟩
section
variable {prog:Program}{w:World}{A:Around}{E:Value->Shared->Prop}{s:Shared}{K:Frag}
noncomputable def GZ (h:Heap)(L d:Addr):List (Addr × Obj):=(List.range h.objs.size).filterMap fun a=>if a=L \/ a=d then none else (h.get? a).map fun o=>(a,o)
end
end Att
namespace L2
open PySem PySem.Spec PyProof.Rows
theorem jA:∀ {vs:List Value} {ns:List Int},IntsAre vs ns->zu (ns.map V.int) vs
 | _,_,.nil=>.nil
 | _,_,.cons n t h=>.cons ⟨t,rfl⟩ (jA h)
noncomputable def DL (H:Hp):Prop:=∀ b,H b=none \/ ∃ o xs,H b=some (.frz o (.lst xs))
theorem Al {P:Program}{w:World}{K:PySem.W.Frag}{mg mb:Str->Option Value}{CX:CXT}{k:Nat}{fa a:Addr}{fd:FuncData}{x:Str}{sp:Sp}{s₁:Shared}{vs:List Value}{ns:List Int}
  (KX:K.In s₁.heap) (hns:s₁.heap.Ns mainGlobals mg) (hb:s₁.heap.Ns builtinsNs mb) (hbb:∀ x:Str,x ≠ "__name__"->mb x=bootBuiltins x) (hlim:s₁.heap.NoLimit) (hg:s₁.gens=#[])
  (ha:s₁.heap.get? a=some { cls:=.type "list",data:=.seq vs.toArray }) (hi:IntsAre vs ns) (hl:ns.length<=sizeLine) (hr:qZ k callerA)
  (F:∀ base:Heap,K.In base->base.Ns mainGlobals mg->kC P w K mg base CX k fa fd [x] sp) (hbind:∀ (s:Shared) (u:Value),BindsTo s fd ⟨[u],[]⟩ [(x,u)])
  (hsp:∀ H:Hp,DL H->SqL K H a (ns.map V.int)->sp [.ref a] H (fun v _=>v=.bl true) fun _ _ _=>False)
  (hCX:∀ H e s',CX [] H s₁ (fun _ _ _=>False) e s'->False) :
  codeAny (model P w) callerA (.call (.ref fa) ⟨[.ref a],[]⟩) (fun r s'=>r=.ok (.ret (.bool true))/\OldK s₁.heap s'.heap/\s'.os=s₁.os/\AllBare s'.gens) s₁:=by
 have rv:=jA hi
 have lenV:=hi.length
 have core:∀ H:Hp,DL H->SqL K H a (ns.map V.int)->HOk P w H s₁.heap->(∀ b,H b ≠ none->b=a)->(H a ≠ none->K.lookup a=none) ->
   codeAny (model P w) callerA (.call (.ref fa) ⟨[.ref a],[]⟩) (fun r s'=>r=.ok (.ret (.bool true))/\OldK s₁.heap s'.heap/\s'.os=s₁.os/\AllBare s'.gens) s₁:=by
  intro H hO hS hok hA hK
  have base_of:∀ {b:Addr} {o:Obj},s₁.heap.get? b=some o->H b=none->(xW s₁.heap H).get? b=some o:=fun e n=>QX e n
  have noA:∀ {b:Addr} {o:Obj} {es:Array DictEntry} {ep:Nat},s₁.heap.get? b=some o->o.data=.dict es ep->H b=none:=fun {b o es ep} e d=>by
   cases q:H b with
   | none=>rfl
   | some u=>
    have e':b=a:=hA b (by rw [q];simp)
    subst e'
    rw [ha] at e;cases e
    have d':Data.seq vs.toArray _=Data.dict es ep:=d
    cases d'
  have nsK:∀ {b:Addr} {m:Str->Option Value},s₁.heap.Ns b m->(xW s₁.heap H).Ns b m:=fun {b m} ⟨o,es,ep,e,d,r⟩=>⟨o,es,ep,base_of e (noA e d),d,r⟩
  have hKb:K.In (xW s₁.heap H):=fun b o e=>base_of (KX b o e) (by
   cases q:H b with
   | none=>rfl
   | some u=>
    have e':b=a:=hA b (by rw [q];simp)
    subst e'
    rw [hK (by rw [q];simp)] at e;cases e)
  have hM:Mod K mg (xW s₁.heap H):=⟨hKb,nsK hns,⟨mb,nsK hb,hbb⟩,let ⟨mc,h1,h2⟩:=hlim;⟨mc,nsK h1,h2⟩⟩
  have e0:Ad P w K mg (xW s₁.heap H) callerA [] s₁ H:=⟨rfl,hM,fun b o e=>K2 e,Nat.le_of_eq (wH _ _),trivial,fun b hb=>absurd (show b ∈ ([]:List Addr) from hb) (by simp),hok,.of_eq hg⟩
  refine codeAny_mono ((F _ hKb (nsK hns)).run callerA [] s₁ H ⟨[.ref a],[]⟩ [.ref a] [.ref a] _ _ hr e0 (hbind s₁ (.ref a)) (.cons rfl .nil) (hsp H hO hS)) fun r s' h=>?_
  cases r with
  | error e=>exact (hCX H e s' h).elim
  | ok fl=>
   cases fl with
   | next=>exact False.elim h
   | brk=>exact False.elim h
   | cont=>exact False.elim h
   | ret u=>
    obtain ⟨v,H',os,bare,un,hok',r',q⟩:=h
    have q':v=.bl true:=q
    subst q'
    obtain rfl:u=Value.bool true:=r'
    refine ⟨rfl,OldK.of_keep fun b o e=>?_,os,bare⟩
    cases q:H b with
    | none=>exact un.keep b o e q (by intro z;exact absurd (show b ∈ ([]:List Addr) from z) (by simp)) (by simp)
    | some u=>
     rcases hO b with z | ⟨ob,xs,z⟩
     ·rw [q] at z;cases z
     ·have z2:=un.frzs b ob _ z
      obtain ⟨e1,_⟩:=hok b _ z
      obtain ⟨e2,_⟩:=hok' b _ z2
      rw [e] at e1;cases e1
      exact e2
 cases hk:K.lookup a with
 | some o=>
  have e:=KX a o hk
  rw [ha] at e
  cases e
  refine core (fun _=>none) (fun _=>.inl rfl) (.inr ⟨_,vs.toArray,_,hk,rfl,rfl,rfl,by rw [List.size_toArray,lenV];exact hl,by simpa using rv⟩) (fun b u z=>by have z':(none:Option HO)=some u:=z;cases z') (fun b z=>absurd rfl z) fun z=>absurd rfl z
 | none=>
  refine core (fun b=>if b=a then some (.frz { cls:=.type "list",data:=.seq vs.toArray } (.lst (ns.map V.int))) else none) (fun b=>?_) (.inl (.inr ⟨{ cls:=.type "list",data:=.seq vs.toArray },if_pos rfl⟩)) (fun b u z=>?_) (fun b z=>?_) fun _=>hk
  ·by_cases hb:b=a
   ·exact .inr ⟨_,_,if_pos hb⟩
   ·exact .inl (if_neg hb)
  ·by_cases hb:b=a
   ·have z':=(if_pos hb).symm.trans z
    cases z'
    subst hb
    exact ⟨ha,by rw [List.length_map];exact hl,vs,_,rv,ha⟩
   ·have z':=(if_neg hb).symm.trans z
    cases z'
  ·by_cases hb:b=a
   ·exact hb
   ·exact absurd (if_neg hb) z
noncomputable abbrev KOf {K:PySem.W.Frag}{h:Heap}(_:K.In h):PySem.W.Frag:=K
theorem walk_of {l:PySem.W.OpenLaw}{n k:Nat}{q:Program}{loose:List Str}{XP:(Str->Option Value)->Heap->Prop}{YP:World->Heap->Prop}{d:DefRec}{K:Params->PySem.W.Frag}{CX:World->CXT}{sp:World->Sp}{x:Str}
  (hn:l.most=some n) (hn2:n<=sizeLine) (hdf:d.params.defaults=[]) (hr:qZ k callerA)
  (hY:∀ (w:World) (h:Heap),YP w h->(K w.params).In h)
  (F:∀ (w:World) (mg:Str->Option Value) (fa:Addr) (h:Heap),(K w.params).In h->h.Ns mainGlobals mg->mg d.name=some (.ref fa) ->
   ∃ fd:FuncData,(∀ (s:Shared) (u:Value),BindsTo s fd ⟨[u],[]⟩ [(x,u)]) /\
    ∀ base:Heap,(K w.params).In base->base.Ns mainGlobals mg->kC l.prog w (K w.params) mg base (CX w) k fa fd [x] (sp w))
  (hsp:∀ (w:World) (H:Hp) (a:Addr) (ns:List Int),ns.length<=n->DL H->SqL (K w.params) H a (ns.map V.int)->sp w [.ref a] H (fun v _=>v=.bl true) fun _ _ _=>False)
  (hCX:∀ (w:World) (H:Hp) (s:Shared) (e:Value) (s':Shared),CX w [] H s (fun _ _ _=>False) e s'->False) :
  PySem.W.WalkO q loose XP YP l.row.toRowW d [] (fun f vs=>PySem.call f vs):=by
 refine Att.attach_call hn hdf fun w s₀ s₁ mg mb fa o pm cd doc a vs ns G Y ho hd hcd hmg hobj hints hlen hg=>?_
 have KX:=hY w _ Y
 obtain ⟨fd,hb,hF⟩:=F w mg fa _ KX G.T.g hmg
 exact Al KX G.T.g G.T.b G.T.builtins G.T.nolimit hg hobj hints (Nat.le_trans hlen hn2) hr hF hb (fun H hO hS=>hsp w H a ns hlen hO hS) fun H e s'=>hCX w H s₁ e s'
end L2
/- THE LAST THEOREM (shape;LID,My.* are yours):
   My.Adr: a structure of the addresses that your layer names (classes,functions);My.Txt K t: a structure (Prop) of the equations over K;
   My.txt_mk:{K} {implicit addresses ..} (e1:nsIn K mainGlobals "law"=some (some (.ref f))) (e2:K.lookup f=some ⟨oc,od,.func (fnOf "law" "law" params body scope dV kV doc pm an cdv ct),sl⟩) (e3:codeIn K cdv "law"=true) ..:∃ t,My.Txt K t
set_option maxRecDepth 100000 in
set_option maxHeartbeats 0 in
theorem PySem.Challenge.cw_LID_holds:PySem.Challenge.rw_LID.Holds:=by
 w_on;o_law;k_head;(case hw=>w_witness2)
 k_fill
 refine L2.walk_of (l:=PySem.Challenge.rw_LID) (n:=63) (k:=40) (x:="script") (CX:=fun w=>..) (sp:=fun _=>My.sp_law) rfl (by decide) rfl ⟨rfl,by decide,by decide⟩ (fun w h Y=>PySem.W.kIn_of Y) ?F ?S ?C
 case F=>
  intro w mg fa h KX G hmg
  have T:∃ t,My.Txt (L2.KOf KX) t:=by
   dsimp only [L2.KOf]                          -- K must stand as «<heap const> w.params» for k_is
   refine' My.txt_mk ?e1 ?e2 ?e3 ..
   (case e1=>PySem.W.k_is)                    -- in the order: a name->its address->its object->its parts
   (case e2=>PySem.W.k_is)
   ..
  obtain ⟨t,T⟩:=T
  have e0:=hmg.symm.trans (PySem.W.mg_of KX G T.law)
  cases e0                                       -- fa is the law's own address
  exact ⟨_,fun s u=>.of_eq rfl,fun base kb nb=>My.law_fn T kb nb⟩     -- if «.of_eq rfl» comes too early: refine' ⟨_,?b,fun base kb nb=>My.law_fn T kb nb⟩;exact fun s u=>.of_eq rfl
 case S=>exact fun w H a ns hl hO hS=>..
 case C=>exact ..
(the tactic k_is has no namespace: write k_is) -/
namespace L2
open PySem PySem.Spec PyProof.Rows
noncomputable def jg (s:Stmt):Arguments:=match s with
 | .FunctionDef _ a _ _ _ _ _ _ _ _=>a
 | _=>{ posonlyargs:=[],args:=[],vararg:=none,kwonlyargs:=[],kw_defaults:=[],kwarg:=none,defaults:=[] }
noncomputable def qq (s:Stmt):List Stmt:=match s with
 | .FunctionDef _ _ b _ _ _ _ _ _ _=>b
 | _=>[]
noncomputable def zj (s:Stmt):Scope:=match s with
 | .FunctionDef _ _ _ _ _ _ sc _ _ _=>sc
 | _=>{ kind:=.function,names:=[],isGenerator:=false,isCoroutine:=false }
noncomputable abbrev CX0:CXT:=fun _ _ _ _ _ _=>False
noncomputable abbrev E0:XK:=fun _ _ _=>False
theorem FW {X:Cx}:JH CX0 X E0:=fun _ _ _ _ _ _ _ h=>h.elim
structure Fun (K:PySem.W.Frag)(x qual:Str)(st:Stmt)(f:Addr)(fd:FuncData):Prop where
 ex:∃ (oc:Value) (od:Option Addr) (kV doc pm:Value) (an:Option Addr) (cdv ct:Value) (osl:Array (Option Value)),
  fd=PySem.W.fnOf x qual (jg st) (qq st) (zj st) .none kV doc pm an cdv ct/\K.lookup f=some ⟨oc,od,.func fd,osl⟩/\PySem.W.codeIn K cdv qual=true
 kp:PySem.W.keepIn K (.ref f)=true
section
variable {P:Program}{w:World}{K:PySem.W.Frag}{mg:Str->Option Value}{base:Heap}
theorem Fun.ok {x qual:Str}{st:Stmt}{f:Addr}{fd:FuncData}{N ps:List Str}{k:Nat}{sp:Sp}(F:Fun K x qual st f fd)(S:zy N ps (zj st))(len:∀ vs H Q E,sp vs H Q E->vs.length=ps.length)
  (hbody:∀ (cdv:Value) (A:Around) (outer:List Env) (s:Shared) (H:Hp) (vs:List V) (Q:VK) (E:XK),qZ k (A.deeper (envOfC qual (zj st) s.heap.objs.size f cdv))->sp vs H Q E ->
   ∃ t,PSs (vQ CX0 P w K mg base N qual (zj st) f cdv A outer s H E).nox (qq st) t/\t { nx:=fun _ H'=>Q .non H',rt:=Q } (jb N vs) H):kC P w K mg base CX0 (k+1) f fd ps sp:=by
 obtain ⟨oc,od,kV,doc,pm,an,cdv,ct,osl,rfl,lk,hcd⟩:=F.ex
 refine DA lk hcd S len fun A outer s H vs Q E hr hsp=>?_
 obtain ⟨t,h,q⟩:=hbody cdv A outer s H vs Q E hr hsp
 exact ⟨t,h.nox,q⟩
theorem Fun.binds {x qual:Str}{st:Stmt}{f:Addr}{fd:FuncData}{ps:List Str}(F:Fun K x qual st f fd)
  (h:∀ (kV doc pm:Value) (an:Option Addr) (cdv ct:Value) (us:List Value),us.length=ps.length->bindArgs (PySem.W.fnOf x qual (jg st) (qq st) (zj st) .none kV doc pm an cdv ct) ⟨us,[]⟩=pure (ps.zip us)):wB K fd ps []:=by
 obtain ⟨oc,od,kV,doc,pm,an,cdv,ct,osl,rfl,lk,hcd⟩:=F.ex
 exact .all (h kV doc pm an cdv ct)
theorem WQ {x qual:Str}{st:Stmt}{f:Addr}{oc:Value}{od an:Option Addr}{osl:Array (Option Value)}{kV doc pm cdv ct:Value}(l:K.lookup f=some ⟨oc,od,.func (PySem.W.fnOf x qual (jg st) (qq st) (zj st) .none kV doc pm an cdv ct),osl⟩)
  (c:PySem.W.codeIn K cdv qual=true) (k:PySem.W.keepIn K (.ref f)=true):Fun K x qual st f (PySem.W.fnOf x qual (jg st) (qq st) (zj st) .none kV doc pm an cdv ct):=⟨⟨oc,od,kV,doc,pm,an,cdv,ct,osl,rfl,l,c⟩,k⟩
end
section
variable {X:Cx}
theorem pv (i:Nat){x:Str}{pos:Pos}(hN:X.N[i]?=some x:=by rfl)(hv:Vis X.env.scope x:=by first | exact Or.inl rfl | exact Or.inr (Or.inl rfl) | exact Or.inr (Or.inr rfl))(hd:(x == ("__debug__":Str))=false:=by decide)
  (hcd:(x == ("__classdict__":Str))=false:=by decide):PE X (.Name x pos) (Y3 i):=En hN hv hd hcd
end
theorem VH {c A B:Prop}[Decidable c](h1:c->A)(h2:¬ c->B):if c then A else B:=by
 by_cases h:c
 ·rw [if_pos h]
  exact h1 h
 ·rw [if_neg h]
  exact h2 h
section
variable {κ:Type}[DecidableEq κ]
end
section
variable {P:Program}{w:World}{H:Hp}{h:Heap}{a:Addr}
end
section
variable {X:Cx}{pins:List (Addr × Obj)}{σ:St}{H:Hp}{s:Shared}{a:Addr}{y v:V}{u r:Value}{o:Option V}{A:Around}{E:Value->Shared->Prop}
end
section
variable {X:Cx}{pins:List (Addr × Obj)}{σ:St}{H:Hp}{s:Shared}{a:Addr}{kvs:List (Key × V)}{k:Key}{u:Value}{A:Around}{E:Value->Shared->Prop}
end
section
variable {X:Cx}{o i e value:Expr}{pos pos' tpos:Pos}{td ty tv:TE}
end
section
variable {X:Cx}{pos:Pos}
end
structure M1 (X:Cx)(o:Expr)(m:Str)(apos:Pos)(e:Expr)(cpos:Pos):Prop where
 base:attributeBase o m X.env (eval o X.env)=eval o X.env
 few:((backTo cpos (starEach [e] X.env)).all (fun x=>!x.1) && (backToKw cpos (keywordEach [] X.env)).all (fun x=>x.1.isSome)
  && decide (([e]:List Expr).length+([]:List Keyword).length+(if ([]:List Keyword).isEmpty then 0 else 1)<30))=true
 line:(apos.endLine == cpos.line)=true
 trees:backTo cpos (starEach [e] X.env)=[(false,eval e X.env)]
structure M2 (X:Cx)(o:Expr)(m:Str)(apos:Pos)(e f:Expr)(cpos:Pos):Prop where
 base:attributeBase o m X.env (eval o X.env)=eval o X.env
 few:((backTo cpos (starEach [e,f] X.env)).all (fun x=>!x.1) && (backToKw cpos (keywordEach [] X.env)).all (fun x=>x.1.isSome)
  && decide (([e,f]:List Expr).length+([]:List Keyword).length+(if ([]:List Keyword).isEmpty then 0 else 1)<30))=true
 line:(apos.endLine == cpos.line)=true
 trees:backTo cpos (starEach [e,f] X.env)=[(false,eval e X.env),(false,eval f X.env)]
section
variable {X:Cx}{pins:List (Addr × Obj)}{σ:St}{H:Hp}{s:Shared}{a:Addr}{y d:V}{u r:Value}{o:Option V}{A:Around}{E:Value->Shared->Prop}
end
section
variable {X:Cx}{o e f:Expr}{apos cpos:Pos}{td ty tx:TE}
end
section
variable {X:Cx}{pins:List (Addr × Obj)}{σ:St}{H:Hp}{s:Shared}{a:Addr}{kvs:List (Key × V)}{A:Around}{E:Value->Shared->Prop}
end
section
variable {X:Cx}{pins:List (Addr × Obj)}{σ:St}{H:Hp}{s:Shared}{a:Addr}{y:V}{u:Value}{A:Around}{E:Value->Shared->Prop}
end
section
variable {κ:Type}[DecidableEq κ]
end
end L2
set_option Elab.async false
set_option linter.all false
set_option maxRecDepth 100000
set_option maxHeartbeats 4000000
namespace L2
open PySem PySem.Spec PyProof.Rows
noncomputable def Vz (N:List Str)(ts:List Nat)(sc:Scope)(kind:Str->Option NameKind):Bool:=
 sc.kind == .function && sc.names.all (fun y=>y.2 != .cell && (y.2 != .local || sc.names.lookup y.1 == some .local) && (y.2 != .free || kind y.1 == some .cell || kind y.1 == some .free)) &&
  N.zipIdx.all (fun p=>sc.names.lookup p.1 != some .local || ts.contains p.2)
noncomputable def qW (cells:List (Str × Addr)):List (Str × NameKind)->List (Str × Addr)->List (Str × Addr)
 | [],acc=>acc
 | (n,k) :: r,acc=>qW cells r (if k=.free then (n,(cells.lookup n).getD 0) :: acc else acc)
theorem Zy {env:Env}:∀ (names:List (Str × NameKind)) (acc:List (Str × Addr)),(∀ y ∈ names,y.2=.free->∃ c,env.cells.lookup y.1=some c) ->
  (forIn names acc fun (x:Str × NameKind) (cs:List (Str × Addr))=>(match x with | (name,kind)=>if (kind == NameKind.free)=true then (do let c <- cellOf env name;pure (ForInStep.yield ((name,c) :: cs))) else pure (ForInStep.yield cs):Sem (ForInStep (List (Str × Addr)))))=pure (qW env.cells names acc)
 | [],acc,_=>rfl
 | (n,k) :: r,acc,h=>by
  rw [List.forIn_cons]
  by_cases hk:k=.free
  ·subst hk
   obtain ⟨c,hc⟩:=h (n,.free) List.mem_cons_self rfl
   have e1:cellOf env n=pure c:=by unfold cellOf;rw [hc]
   simp only [beq_self_eq_true,if_true,e1,pure_bind]
   rw [Zy r _ fun y hy=>h y (List.mem_cons_of_mem _ hy)]
   show _=pure (qW env.cells r (if NameKind.free=.free then _ else _))
   rw [if_pos rfl,hc];rfl
  ·have hb:(k == NameKind.free)=false:=by simpa using hk
   simp only [hb,Bool.false_eq_true,if_false,pure_bind]
   rw [Zy r _ fun y hy=>h y (List.mem_cons_of_mem _ hy)]
   show _=pure (qW env.cells r (if k=.free then _ else _))
   rw [if_neg hk]
theorem yy {cells : List (Str × Addr)} : ∀ (names : List (Str × NameKind)) (acc : List (Str × Addr)), (∀ y ∈ names, y.2 = .free -> ∃ c, cells.lookup y.1 = some c) -> (∀ x c, acc.lookup x = some c -> cells.lookup x = some c) ->
    (∀ x c,(qW cells names acc).lookup x=some c->cells.lookup x=some c)/\(∀ x c,acc.lookup x=some c->∃ c',(qW cells names acc).lookup x=some c')/\∀ y ∈ names,y.2=.free->∃ c,(qW cells names acc).lookup y.1=some c
  | [],acc,_,h2=>⟨h2,fun x c e=>⟨c,e⟩,fun y hy=>nomatch hy⟩
  | (n,k) :: r,acc,h1,h2=>by
    by_cases hk:k=.free
    · subst hk
      obtain ⟨c,hc⟩:=h1 (n,.free) List.mem_cons_self rfl
      have hc:cells.lookup n=some c:=hc
      have e:qW cells ((n,.free) :: r) acc=qW cells r ((n,c) :: acc):=by
        show qW cells r (if NameKind.free=.free then _ else _)=_
        rw [if_pos rfl,hc];rfl
      rw [e]
      obtain ⟨q1,q2,q3⟩:=yy (cells:=cells) r ((n,c) :: acc) (fun y hy=>h1 y (List.mem_cons_of_mem _ hy)) (fun x c' e'=>by
        rw [List.lookup_cons] at e'
        cases hx:x == n with
        | true => rw [hx] at e'; have : x = n := by simpa using hx
                  subst this;cases e';exact hc
        | false=>rw [hx] at e';exact h2 x c' e')
      refine ⟨q1,fun x c' e'=>?_,fun y hy hf=>?_⟩
      · cases hx:x == n with
        | true=>exact q2 x c (by rw [List.lookup_cons,hx])
        | false=>exact q2 x c' (by rw [List.lookup_cons,hx];exact e')
      · rcases List.mem_cons.mp hy with rfl | hy
        · exact q2 n c (by rw [List.lookup_cons,beq_self_eq_true])
        · exact q3 y hy hf
    · have e : qW cells ((n, k) :: r) acc = qW cells r acc := by
        show qW cells r (if k=.free then _ else _)=_
        rw [if_neg hk]
      rw [e]
      obtain ⟨q1,q2,q3⟩:=yy (cells:=cells) r acc (fun y hy=>h1 y (List.mem_cons_of_mem _ hy)) h2
      refine ⟨q1,q2,fun y hy hf=>?_⟩
      rcases List.mem_cons.mp hy with rfl | hy
      · exact absurd hf hk
      · exact q3 y hy hf
theorem Kg {scope:Scope}{env:Env}(h:∀ y ∈ scope.names,y.2=.free->∃ c,env.cells.lookup y.1=some c) :
  ∃ cl,closureFor scope env=pure cl/\(∀ x c,cl.lookup x=some c->env.cells.lookup x=some c)/\∀ y ∈ scope.names,y.2=.free->∃ c,cl.lookup y.1=some c:=by
 obtain ⟨q1,_,q3⟩:=yy (cells:=env.cells) scope.names [] h (fun x c e=>nomatch e)
 refine ⟨qW env.cells scope.names [],?_,q1,q3⟩
 unfold closureFor
 have:=Zy (env:=env) scope.names [] h
 first
  | exact this
  | (simp only [bind_pure];exact this)
  | (refine Eq.trans ?_ this;simp)
theorem yr {env:Env}:∀ {names:List (Str × NameKind)} {x:Str},(names.map fun (n,k)=>if (k == NameKind.free && env.scope.kind == .function && env.kindOf n == some .cell) then (n,NameKind.cell) else (n,k)).lookup x =
  (names.lookup x).map fun k=>if (k == NameKind.free && env.scope.kind == .function && env.kindOf x == some .cell) then NameKind.cell else k
 | [],_=>rfl
 | (n,k) :: r,x=>by
  have ih:=@yr env r x
  rw [List.map_cons]
  cases hx:x == n with
  | true=>
   have e:x=n:=by simpa using hx
   subst e
   rw [List.lookup_cons (as:=r),beq_self_eq_true]
   show List.lookup x ((if (k == NameKind.free && env.scope.kind == .function && env.kindOf x == some .cell)=true then (x,NameKind.cell) else (x,k)) :: _)=some _
   by_cases hc:(k == NameKind.free && env.scope.kind == .function && env.kindOf x == some .cell)=true
   ·rw [if_pos hc,List.lookup_cons,beq_self_eq_true];dsimp only;rw [if_pos hc]
   ·rw [if_neg hc,List.lookup_cons,beq_self_eq_true];dsimp only;rw [if_neg hc]
  | false=>
   rw [List.lookup_cons (as:=r),hx]
   show List.lookup x ((if (k == NameKind.free && env.scope.kind == .function && env.kindOf n == some .cell)=true then (n,NameKind.cell) else (n,k)) :: _)=_
   by_cases hc:(k == NameKind.free && env.scope.kind == .function && env.kindOf n == some .cell)=true
   ·rw [if_pos hc,List.lookup_cons,hx];exact ih
   ·rw [if_neg hc,List.lookup_cons,hx];exact ih
noncomputable abbrev cxC (X:Cx)(scope:Scope)(cl:List (Str × Addr))(s:Shared)(H:Hp)(fp:List Addr):Cx:=
 { X with s₀:=s,H₀:=H,env:=compEnvC scope cl s.heap.objs.size X.env,outer:=X.stack,ex:=fp,fn:=fun _=>false,pn:=[],xe:=fun _ _=>False }
noncomputable def clr:List Nat->St->St
 | [],σ=>σ
 | j :: r,σ=>clr r (σ.set j none)
theorem KB:∀ (ts:List Nat) (σ:St),(clr ts σ).length=σ.length
 | [],_=>rfl
 | j :: r,σ=>by show (clr r (σ.set j none)).length=_;rw [KB r];simp
theorem Z6:∀ (ts:List Nat) (σ:St) (i:Nat) (v:V),(clr ts σ)[i]?=some (some v)->i ∉ ts/\σ[i]?=some (some v)
 | [],_,_,_,h=>⟨by simp,h⟩
 | j :: r,σ,i,v,h=>by
  obtain ⟨h1,h2⟩:=Z6 r (σ.set j none) i v h
  by_cases e:j=i
  ·subst e
   rw [List.getElem?_set] at h2
   simp at h2
  ·rw [List.getElem?_set_ne e] at h2
   exact ⟨by simp [h1,Ne.symm e],h2⟩
structure ScF (X:Cx)(ts:List Nat)(scope:Scope):Prop where
 kind:scope.kind=.function
 cell:∀ y ∈ scope.names,y.2 ≠ .cell
 loc:∀ y ∈ scope.names,y.2=.local->scope.names.lookup y.1=some .local
 free:∀ y ∈ scope.names,y.2=.free->X.env.kindOf y.1=some .cell \/ X.env.kindOf y.1=some .free
 ts:∀ (i:Nat) x,X.N[i]?=some x->scope.names.lookup x=some .local->i ∈ ts
theorem D5 {X:Cx}{ts:List Nat}{scope:Scope}(h:Vz X.N ts scope X.env.kindOf=true):ScF X ts scope:=by
  unfold Vz at h
  simp only [Bool.and_eq_true,List.all_eq_true,bne_iff_ne,ne_eq,Bool.or_eq_true,beq_iff_eq] at h
  obtain ⟨⟨h1,h2⟩,h3⟩:=h
  refine ⟨h1,fun y hy=>(h2 y hy).1.1,fun y hy e=>?_,fun y hy e=>?_,fun i x e1 e2=>?_⟩
  · rcases (h2 y hy).1.2 with z | z
    · exact absurd e z
    · exact z
  · rcases (h2 y hy).2 with (z | z) | z
    · exact absurd e z
    · exact .inl z
    · exact .inr z
  · have hm : (x, i) ∈ X.N.zipIdx := by
      rw [List.mem_zipIdx_iff_getElem?];exact e1
    rcases h3 _ hm with z | z
    · exact absurd e2 z
    · simpa using z
section
variable {X:Cx}{ts:List Nat}{scope:Scope}{pins:List (Addr × Obj)}{σ:St}{H:Hp}{s:Shared}{fp:List Addr}
theorem JC (I:Inv X pins σ H s)(S:ScF X ts scope)(hf:∀ b ∈ fp,yZ X pins H b)(hfl:∀ b ∈ fp,b<s.heap.objs.size){cl:List (Str × Addr)}(c1:∀ x c,cl.lookup x=some c->X.env.cells.lookup x=some c)
  (c2:∀ y ∈ scope.names,y.2=.free->∃ c,cl.lookup y.1=some c) {h1:Heap} {t1:Nat} (hns:h1.Ns s.heap.objs.size (fun x=>([]:List (Str × Value)).reverse.lookup x))
  (hk:∀ b o,s.heap.get? b=some o->h1.get? b=some o):Inv (cxC X scope cl s H fp) [] (clr ts σ) H { s with heap:=h1,toks:=t1 }:=by
 have hlk:∀ x,(relabel scope X.env).names.lookup x=(scope.names.lookup x).map fun k=>if (k == NameKind.free && X.env.scope.kind == .function && X.env.kindOf x == some .cell) then NameKind.cell else k:=fun x=>yr
 have cfree:∀ x,((relabel scope X.env).names.lookup x=some .cell \/ (relabel scope X.env).names.lookup x=some .free)->(x,NameKind.free) ∈ scope.names:=fun x hx=>by
  rw [hlk] at hx
  cases e:scope.names.lookup x with
  | none=>rw [e] at hx;rcases hx with hx | hx <;> cases hx
  | some k=>
   have hm:=mem_of_lookup_some e
   cases k with
   | free=>exact hm
   | cell=>exact absurd rfl (S.cell _ hm)
   | «local»=>rw [e] at hx;rcases hx with hx | hx <;> cases hx
   | globalExplicit=>rw [e] at hx;rcases hx with hx | hx <;> cases hx
   | globalImplicit=>rw [e] at hx;rcases hx with hx | hx <;> cases hx
 have ccell:∀ x c,cl.lookup x=some c->∃ v,s.heap.IsCell c v:=fun x c e=>I.cell x c (c1 x c e)
 have fpne:∀ b ∈ fp,b ∉ frs X.stack:=fun b hb z=>by
  obtain ⟨_,f1,f2,_⟩:=hf b hb
  rcases List.mem_cons.mp (I.stkSub b z) with e | e
  ·exact f1 e
  ·exact f2 e
 refine ⟨⟨I.ok.mod,S.kind,I.ok.glob,I.ok.blt,Nat.le_refl _,fun x y c e1 e2=>I.ok.inj x y c (c1 x c e1) (c1 y c e2),fun x hx=>c2 (x,.free) (cfree x hx) rfl,(fun x c hx=>nomatch hx),I.ok.hd,I.ok.frames,.inl rfl,fun b hb=>⟨Nat.ne_of_lt (hfl b hb),fun x c e=>(hf b hb).2.2.2.2.1 x c (c1 x c e)⟩,
  I.bs,Nat.le_trans I.ok.bsz I.sz,fun b o e hb=>?_,fpne,I.stack,I.stkFree⟩,rfl,I.bare,Un.kept hk,⟨_,hns,fun i x v e1 e2 e3=>?_⟩,fun x c e=>?_,I.hok.fresh (Nat.le_refl _),fun x c e=>I.freeC x c (c1 x c e),fun p hp=>absurd hp (by simp),I.hok.kept hk,by rw [KB];exact I.len⟩
 ·rcases (hf b hb).2.2.2.1 with z | z
  ·exact I.ok.noex b o e z
  ·exact absurd (Nat.lt_of_lt_of_le (Heap.lt_size e) (Nat.le_trans I.ok.bsz z)) (Nat.lt_irrefl _)
 ·obtain ⟨nt,e2⟩:=Z6 ts σ i v e2
  have e3':(relabel scope X.env).names.lookup x=some .local \/ (relabel scope X.env).names.lookup x=some .cell \/ (relabel scope X.env).names.lookup x=some .free:=e3
  rcases e3' with z | z
  ·rw [hlk] at z
   cases e:scope.names.lookup x with
   | none=>rw [e] at z;cases z
   | some k=>
    rw [e] at z
    have z':(if (k == NameKind.free && X.env.scope.kind == .function && X.env.kindOf x == some .cell)=true then NameKind.cell else k)=.local:=Option.some.inj z
    split at z'
    ·cases z'
    ·subst z'
     exact absurd (S.ts i x e1 e) nt
  ·have hm:=cfree x z
   obtain ⟨c,hc⟩:=c2 _ hm rfl
   obtain ⟨m,hn,hl⟩:=I.loc
   have vis:Vis X.env.scope x:=by
    rcases S.free _ hm rfl with q | q
    ·exact .inr (.inl q)
    ·exact .inr (.inr q)
   obtain ⟨u,r,l⟩:=hl i x v e1 e2 vis
   refine ⟨u,r,.inr ⟨z,c,hc,?_⟩⟩
   rcases l with ⟨q,_⟩ | ⟨_,c',hc',hcell⟩
   ·rcases S.free _ hm rfl with q' | q'
    ·rw [q'] at q;cases q
    ·rw [q'] at q;cases q
   ·rw [c1 x c hc] at hc'
    cases hc'
    obtain ⟨o,ho,hd⟩:=hcell
    exact ⟨o,hk _ _ ho,hd⟩
 ·obtain ⟨v,o,ho,hd⟩:=ccell x c e
  exact ⟨v,o,hk _ _ ho,hd⟩
end
section
variable {prog:Program}{w:World}{A:Around}{R:Result->Shared->Prop}{s:Shared}
theorem xD {elt target iter : Expr}{ifs : List Expr}{scope : Scope}{pos : Pos}{it acc : Value}{env : Env}(I : Nat -> Shared -> Prop)
    (turn:∀ n s,I n s->wpAny (model prog w) A (pyNext it) (fun r s₁=>match r with
      | none=>R (.ok .next) s₁
      | some v => wpAny (model prog w) A (letOwnedTupleGo target it v) (fun _ s₀ => wpAny (model prog w) A (assign target env v) (fun _ s₂ =>
          wpAny (model prog w) A (forIn ifs true fun c r=>if r=true then do let ok <- isTrue c env (eval c env);pure (ForInStep.yield ok) else pure (ForInStep.yield r)) (fun ok s₃=>
            if ok=true then wpAny (model prog w) A (eval elt env) (fun x s₄=>
              wpAny (model prog w) A (call (.builtin "list.append") [acc,x]) (fun _ s₅=>∃ m,m<n/\I m s₅) (fun _ _=>False) s₄) (fun _ _=>False) s₃
            else ∃ m,m<n/\I m s₃) (fun _ _=>False) s₂) (fun _ _=>False) s₀) (fun _ _=>False) s₁) (fun _ _=>False) s)
    (n:Nat) (h:I n s) :
    codeAny (model prog w) A (.compLoop (.ListComp elt [⟨target,iter,ifs,0⟩] scope pos) 0 it acc env) R s:=by
  refine codeAny_loop rfl I (fun n s hI=>?_) n h
  show wpAny _ A ((compTurn (.ListComp elt [⟨target,iter,ifs,0⟩] scope pos) 0 it acc env).onRaise (fun x=>do noteFrame x env;theTreesLotGoes x)) _ _ s
  refine wpAny_noted ?_
  rw [compTurn_list]
  refine wpAny_bind (wpAny_standAt (wpAny_bind (wpAny_mono (turn n s hI) (fun r s₁ h₁=>?_) fun _ _ h'=>h'.elim)))
  cases r with
  | none=>exact wpAny_pure h₁
  | some v=>
    refine wpAny_bind (wpAny_mono h₁ (fun _ s₀ h₀=>?_) fun _ _ h'=>h'.elim)
    refine wpAny_bind (wpAny_mono h₀ (fun _ s₂ h₂=>wpAny_bind (wpAny_mono h₂ (fun ok s₃ h₃=>?_) fun _ _ h'=>h'.elim)) fun _ _ h'=>h'.elim)
    cases ok with
    | false=>exact wpAny_pure ⟨rfl,h₃⟩
    | true=>
      exact wpAny_bind (wpAny_bind (wpAny_mono h₃ (fun x s₄ h₄=>wpAny_bind (wpAny_mono h₄ (fun _ s₅ h₅=>wpAny_pure (wpAny_pure ⟨rfl,h₅⟩)) fun _ _ h'=>h'.elim)) fun _ _ h'=>h'.elim))
end
noncomputable def Vi:TT:=fun _ H Q=>Q true H
noncomputable def PIf (X:Cx)(ifs:List Expr)(t:TT):Prop:=
 ∀ (pins:List (Addr × Obj)) (s:Shared) (σ:St) (H:Hp) (Q:Bool->Hp->Prop),Inv X pins σ H s->t σ H Q ->
  wpAny (model X.prog X.w) X.A (forIn ifs true fun c r=>if r=true then do let ok <- isTrue c X.env (eval c X.env);pure (ForInStep.yield ok) else pure (ForInStep.yield r)) (TP X pins σ Q) X.xe s
theorem qk {X:Cx}:PIf X [] Vi:=fun _ _ _ H _ I h=>wpAny_tests_nil ⟨H,I,h⟩
theorem vb {X:Cx}{c:Expr}{t:TT}(h:PT X c t):PIf X [c] t:=fun pins s σ H Q I hq=>wpAny_tests_one (h pins s σ H Q I hq)
noncomputable def QO (ts:List Nat)(wi:TI)(g:TG)(tt:TT)(te:TE):TE:=fun σ H Q=>wi σ H fun J H1=>∀ D,H1 D=none->∃ W:Nat->Nat->St->Hp->Prop,(∃ m,W 0 m (clr ts σ) (upd H1 D (.lst [])))/\∀ i m τ H2,W i m τ H2 ->
 (J.stop i H2/\Q (.ref D) H2) \/ (J.go i H2/\∃ N:St->Hp->Prop,(∀ τ' H',N τ' H'->∃ m',m'<m/\W (i+1) m' τ' H')/\∀ x H',J.yld i H2 x H'->g x τ H' fun τ2 H3=>tt τ2 H3 fun b H4=>
  if b=true then te τ2 H4 fun v H5=>∃ ys,H5 D=some (.lst ys)/\ys.length<sizeLine/\N τ2 (upd H5 D (.lst (ys ++ [v]))) else N τ2 H4)
section
variable {X:Cx}{ts:List Nat}{scope:Scope}{tg iter elt:Expr}{ifs:List Expr}{wi:TI}{g:TG}{tt:TT}{te:TE}{pos:Pos}
theorem Qt (hc:X.calm=true)(hsc:Vz X.N ts scope X.env.kindOf=true)(hi:PI X tg iter wi)(hg:∀ cl s H fp,PG (cxC X scope cl s H fp) tg g)(ht:∀ cl s H fp,PIf (cxC X scope cl s H fp) ifs tt)(he:∀ cl s H fp,PE (cxC X scope cl s H fp) elt te)
  {pins:List (Addr × Obj)} {s:Shared} {σ:St} {H:Hp} {Q:VK} (I:Inv X pins σ H s) (h:QO ts wi g tt te σ H Q) {use:Option (Value->Sem Unit)} {Q':Value->Shared->Prop}
  (fin:∀ (D C:Addr) (H':Hp) (s':Shared),Inv X pins σ H' s'->(∃ m,s'.heap.Ns C m)->H' C=none->C ≠ X.env.locals->(∀ x c,X.env.cells.lookup x=some c->c ≠ C)->X.s₀.heap.objs.size<=C->(∀ p ∈ X.pn ++ pins,p.1 ≠ C)->C ∉ X.fs->Q (.ref D) H' ->
   compPost (model X.prog X.w) X.A X.xe use Q' (.ref D) C (.ok .next) s')
  (hs:∀ x,foldedSetIterable iter X.env x=pure x) :
  wpAny (model X.prog X.w) X.A (comprehension (.ListComp elt [⟨tg,iter,ifs,0⟩] scope pos) scope X.env (firstIterPos [⟨tg,iter,ifs,0⟩] pos) (newList []) false (eval iter X.env) use) Q' X.xe s:=by
 have S:=D5 hsc
 obtain ⟨cl,hcl,c1,c2⟩:=Kg (scope:=scope) (env:=X.env) fun y hy e=>I.ok.has y.1 (S.free y hy e)
 refine wpAny_comprehension_free (use:=use) rfl hs hcl S.kind S.loc ?_
 refine wpAny_mono (hi pins s σ H _ I h) (fun v s1 h1=>wpAny_mono h1 (fun itv s2 h2=>?_) fun _ _ e=>e) fun _ _ e=>e
 obtain ⟨it,fp,tn,J,H2,e,I2,T,st2,f2,q2⟩:=h2
 subst e
 have hD:H2 s2.heap.objs.size=none:=I2.hok.fresh (Nat.le_refl _)
 obtain ⟨W,⟨m0,w0⟩,turn⟩:=q2 _ hD
 refine wpAny_newObj_type (wpAny_newFunctionEnv S.cell (by intro y hy;simp at hy) (fun h₁ hns₁ hsb₁=>?_) S.kind)
 dsimp only at hns₁ hsb₁ ⊢
 generalize hh3:s2.heap.push { cls:=.type "list",dict:=none,data:=.seq ([]:List Value).toArray }=g3 at hns₁ hsb₁ ⊢
 have I3:Inv X pins σ (upd H2 s2.heap.objs.size (.lst [])) { s2 with heap:=g3 }:=by
  rw [<- hh3]
  exact I2.laid (t':=s2.toks) (fun b u e=>Heap.get?_push_of_some _ e) (Nat.le_refl _) ⟨Nat.zero_le _,[],_,.nil,Heap.get?_push_size _ rfl⟩
 have st3:tn 0 g3:=T.keep _ _ _ st2 fun b _ o e=>by rw [<- hh3];exact Heap.get?_push_of_some _ e
 have lt2:∀ b ∈ fp,b<s2.heap.objs.size:=fun b hb=>by obtain ⟨o,e,_⟩:=T.obj _ _ st2 b hb;exact Heap.lt_size e
 have hsz3:g3.objs.size=s2.heap.objs.size+1:=by rw [<- hh3,Heap.size_push]
 have f3:∀ b ∈ fp,yZ X pins (upd H2 s2.heap.objs.size (.lst [])) b:=fun b hb=>⟨by rw [zk (Nat.ne_of_lt (lt2 b hb))];exact (f2 b hb).1,(f2 b hb).2⟩
 have lt3:∀ b ∈ fp,b<g3.objs.size:=fun b hb=>by rw [hsz3];exact Nat.lt_succ_of_lt (lt2 b hb)
 have old:∀ b o,g3.get? b=some o->h₁.get? b=some o:=fun b o e=>hsb₁.extBut b o (Nat.ne_of_lt (Heap.lt_size e)) (Heap.get?_push_of_some _ e)
 have hns:h₁.Ns g3.objs.size (fun x=>([]:List (Str × Value)).reverse.lookup x):=hns₁
 have I4:∀ t,Inv (cxC X scope cl { s2 with heap:=g3 } (upd H2 s2.heap.objs.size (.lst [])) fp) [] (clr ts σ) (upd H2 s2.heap.objs.size (.lst [])) { s2 with heap:=h₁,toks:=t }:=fun t=>JC I3 S f3 lt3 c1 c2 hns old
 have fpne:∀ b ∈ fp,b ∉ frs X.stack:=fun b hb z=>by
  obtain ⟨_,f1,f2,_⟩:=f3 b hb
  rcases List.mem_cons.mp (I3.stkSub b z) with e | e
  ·exact f1 e
  ·exact f2 e
 have stat:∀ {H':Hp},(∀ b ∈ fp,H' b=none)->∀ b ∈ fp,yZ (cxC X scope cl { s2 with heap:=g3 } (upd H2 s2.heap.objs.size (.lst [])) fp) [] H' b:=fun hn b hb=>
  ⟨hn b hb,Nat.ne_of_lt (lt3 b hb),fpne b hb,.inl hb,fun x c e=>(f2 b hb).2.2.2.2.1 x c (c1 x c e),fun p hp=>absurd hp (by simp)⟩
 have loop:∀ t,codeAny (model X.prog X.w) X.A (.compLoop (.ListComp elt [⟨tg,iter,ifs,0⟩] scope pos) 0 (.ref it) (.ref s2.heap.objs.size) (compEnvC scope cl g3.objs.size X.env))
   (compPost (model X.prog X.w) X.A X.xe use Q' (.ref s2.heap.objs.size) g3.objs.size) { s2 with heap:=h₁,toks:=t }:=by
  intro t
  refine xD (fun n s'=>∃ i τ H',Inv (cxC X scope cl { s2 with heap:=g3 } (upd H2 s2.heap.objs.size (.lst [])) fp) [] τ H' s'/\tn i s'.heap/\(∀ b ∈ fp,H' b=none)/\W i n τ H') ?_ m0
   ⟨0,clr ts σ,_,I4 t,T.keep _ _ _ st3 fun b _ o e=>old b o e,fun b hb=>(f3 b hb).1,w0⟩
  rintro n s5 ⟨i,τ,H5,I5,st5,fr5,w5⟩
  rcases turn i n τ H5 w5 with ⟨stop,qn⟩ | ⟨go,N,hN,step⟩
  ·refine thn (T.done (cxC X scope cl { s2 with heap:=g3 } (upd H2 s2.heap.objs.size (.lst [])) fp) rfl rfl rfl hc i [] s5 τ H5 _ I5 (stat fr5) st5 stop) fun r s6 ⟨hr,I6⟩=>?_
   subst hr
   have base:Un (frs X.stack) fp (upd H2 s2.heap.objs.size (.lst [])) H5 g3 s6.heap:=I6.base
   have J6:Inv X pins σ H5 s6:=I3.call' (ch:=fp) I6.os base I6.hok I6.bare fun b hb=>⟨(f3 b hb).2.2.2.1,(f3 b hb).2.1,(f3 b hb).2.2.2.2.1,(f3 b hb).2.2.2.2.2⟩
   obtain ⟨m6,n6,_⟩:=I6.loc
   have hC:g3.get? g3.objs.size=none:=Heap.get?_none_of_le (Nat.le_refl _)
   refine fin _ g3.objs.size H5 s6 J6 ⟨m6,n6⟩ I6.free (Nat.ne_of_gt I3.lt) (fun x c e z=>?_) I3.sz (fun p hp z=>?_) (I3.nofs (Nat.le_refl _)) qn
   ·obtain ⟨v,q⟩:=I3.cell x c e
    exact absurd q.lt (by rw [z];exact Nat.lt_irrefl _)
   ·exact absurd (Heap.lt_size (I3.pin p hp).1) (by rw [z];exact Nat.lt_irrefl _)
  ·refine thn (T.item (cxC X scope cl { s2 with heap:=g3 } (upd H2 s2.heap.objs.size (.lst [])) fp) rfl rfl rfl hc i [] s5 τ H5 _ I5 (stat fr5) st5 go) fun r s6 ⟨u,hr,h6⟩=>?_
   subst hr
   refine thn h6 fun _ s7 ⟨x,H7,I7,r7,y7,st7,fr7⟩=>?_
   have I7':=I7.pinned (stat fr7) (T.obj _ _ st7)
   refine thn (hg cl { s2 with heap:=g3 } _ fp _ s7 τ H7 x u _ I7' r7 (step x H7 y7)) fun _ s8 ⟨τ8,H8,I8,q8⟩=>?_
   refine thn (ht cl { s2 with heap:=g3 } _ fp _ s8 τ8 H8 _ I8 q8) fun b s9 ⟨H9,I9,q9⟩=>?_
   have again:∀ {τ9:St} {H9:Hp} {s9:Shared},Inv (cxC X scope cl { s2 with heap:=g3 } (upd H2 s2.heap.objs.size (.lst [])) fp) ([] ++ v9 fp s7.heap) τ9 H9 s9->N τ9 H9 ->
     ∃ m,m<n/\∃ i τ H',Inv (cxC X scope cl { s2 with heap:=g3 } (upd H2 s2.heap.objs.size (.lst [])) fp) [] τ H' s9/\tn i s9.heap/\(∀ b ∈ fp,H' b=none)/\W i m τ H':=fun {τ9 H9 s9} I9 n9=>by
    obtain ⟨m',hm,w9⟩:=hN _ _ n9
    refine ⟨m',hm,i+1,τ9,H9,I9.unpinned,T.keep _ _ _ st7 fun b hb o e=>(I9.pin (b,o) (List.mem_append_right _ (List.mem_append_right _ (ku hb e)))).1,fun b hb=>?_,w9⟩
    obtain ⟨o,e,d⟩:=T.obj _ _ st7 b hb
    exact (I9.pin (b,o) (List.mem_append_right _ (List.mem_append_right _ (ku hb e)))).2.1
   cases b with
   | false=>
    rw [if_neg Bool.false_ne_true] at q9 ⊢
    exact again I9 q9
   | true=>
    rw [if_pos rfl] at q9 ⊢
    refine thn (he cl { s2 with heap:=g3 } _ fp _ s9 τ8 H9 _ I9 q9) fun y s10 ⟨v,H10,I10,r10,ys,hys,hlen,n10⟩=>?_
    exact thn (wQ (X:=cxC X scope cl { s2 with heap:=g3 } (upd H2 s2.heap.objs.size (.lst [])) fp) _ s10 τ8 H10 (.ref s2.heap.objs.size) [v] (.ref s2.heap.objs.size) [y] (fun _ H11=>N τ8 H11) I10 rfl (.cons r10 .nil) ⟨_,ys,v,rfl,rfl,hys,hlen,n10⟩) fun _ s11 ⟨_,H11,I11,_,n11⟩=>again I11 n11
 have LW:=loop (s2.toks+([]:List (Str × Value)).length)
 exact codeAny_compStart_list LW (T.self _ 0 _ _ _ (T.keep _ _ _ st3 fun b _ o e=>old b o e) LW)
end
section
variable {X:Cx}{ts:List Nat}{scope:Scope}{tg iter elt:Expr}{ifs:List Expr}{wi:TI}{g:TG}{tt:TT}{te:TE}{pos:Pos}
theorem qr (hc:X.calm=true)(hsc:Vz X.N ts scope X.env.kindOf=true)(hi:PI X tg iter wi)(hg:∀ cl s H fp,PG (cxC X scope cl s H fp) tg g)(ht:∀ cl s H fp,PIf (cxC X scope cl s H fp) ifs tt)(he:∀ cl s H fp,PE (cxC X scope cl s H fp) elt te)
  (hs:∀ x,foldedSetIterable iter X.env x=pure x:=by intro _;rfl):PE X (.ListComp elt [⟨tg,iter,ifs,0⟩] scope pos) (QO ts wi g tt te):=by
 intro pins s σ H Q I h
 rw [eval_ListComp]
 refine Qt hc hsc hi hg ht he I h (use:=none) (fun D C H' s' I' ⟨m,hn⟩ hC hL hce hsz hp hfs q=>⟨m,hn,fun h' hs'=>?_⟩) hs
 exact ⟨.ref D,H',I'.turned (t':=s'.toks) (it:=C) (fun b o hb e=>(hs'.2 b hb).trans e) hC hL (.inr hsz) hce hp,rfl,q⟩
theorem yq {j:Nat}{y:Str}{py spos:Pos}(hc:X.calm=true)(hN:X.N.Nodup)(hj:X.N[j]?=some y)(hy:Loc X.env.scope y)(hsc:Vz X.N ts scope X.env.kindOf=true)(hi:PI X tg iter wi)(hg:∀ cl s H fp,PG (cxC X scope cl s H fp) tg g)(ht:∀ cl s H fp,PIf (cxC X scope cl s H fp) ifs tt)(he:∀ cl s H fp,PE (cxC X scope cl s H fp) elt te)
  (hsw:swapsWith (.ListComp elt [⟨tg,iter,ifs,0⟩] scope pos) (some (.Name y py)) spos.line X.env=pure true:=by rfl)
  (hs:∀ x,foldedSetIterable iter X.env x=pure x:=by intro _;rfl) (hf:X.fn y=true \/ X.env.scope.names.lookup y=some .local:=by first | exact .inl rfl | exact .inr rfl | assumption) :
  PS X (.Assign [.Name y py] (.ListComp elt [⟨tg,iter,ifs,0⟩] scope pos) spos) (Yc (QO ts wi g tt te) (QU j)):=by
 intro pins s σ H D I h
 rw [exec_Assign_Name_used _ _ _ _ hsw]
 refine wpAny_bind (wpAny_standAt (wpAny_bind ?_))
 show wpAny _ _ (do let _ <- comprehension (.ListComp elt [⟨tg,iter,ifs,0⟩] scope pos) scope X.env _ (newList []) false (eval iter X.env) (some (assign (.Name y py) X.env))) _ _ s
 refine wpAny_bind (wpAny_mono (Qt hc hsc hi hg ht he I h (use:=some (assign (.Name y py) X.env)) (Q':=fun _ s'=>SP X pins D .next s') (fun D' C H' s' I' ⟨m,hn⟩ hC hL hce hsz hp hfs q=>?_) hs) (fun _ s' hq=>wpAny_pure (wpAny_pure hq)) fun _ _ e=>e)
 show wpAny _ _ (assign (.Name y py) X.env (.ref D')) _ _ _
 refine wpAny_assign_Name (Zc (v:=.ref D') I' hN hj hy rfl (fun s2 I2 ⟨a,hsb,ha⟩=>?_) hf)
 have hCa:C ≠ a:=by
  rcases ha with rfl | ha
  ·exact hL
  ·exact Ne.symm (hce y a ha)
 refine ⟨m,hn.sameBut hsb hCa,fun h' hs'=>?_⟩
 exact ⟨_,H',I2.turned (t':=s2.toks) (it:=C) (fun b o hb e=>(hs'.2 b hb).trans e) hC hL (.inr hsz) hce hp,q⟩
end
noncomputable def Ite (K:PySem.W.Frag)(a:Addr):It:=
 ⟨fun i H=>∃ xs x,SqL K H a xs/\xs[i]?=some x,fun i H y H'=>∃ p x,H p=none/\y=.ref p/\(∀ xs,SqL K H a xs->xs[i]?=some x)/\H'=upd H p (.tup [.int i,x]),fun i H=>∃ xs,SqL K H a xs/\xs.length<=i⟩
theorem Za {P:Program}{w:World}{K:PySem.W.Frag}{es:List Expr}{kt:Nat}{tp:Pos}(a e it:Addr)(hei:e ≠ it):Ql P w K (.Tuple es kt tp) (Ite K a) [e,it] e (fun i h=>(∃ old,IsEnum h e it (i:Nat) old)/\h.IsListIter it a i) where
 mem:=by simp
 obj:=fun i h st b hb=>by
  obtain ⟨⟨old,he⟩,⟨o,e1,c,d⟩⟩:=st
  rcases List.mem_cons.mp hb with rfl | hb
  ·exact ⟨_,he,fun v z=>by have z':Data.fields _=Data.cell v:=z;cases z'⟩
  ·have e2:b=it:=by simpa using hb
   subst e2
   exact ⟨o,e1,fun v z=>by rw [d] at z;cases z⟩
 keep:=fun i h h' st k=>by
  obtain ⟨⟨old,he⟩,st⟩:=st
  exact ⟨⟨old,k e (by simp) _ he⟩,st.at fun o e=>k it (by simp) o e⟩
 item:=by
  intro X hP hw hK hc i pins s σ H E I hf st hg
  subst hP hw hK
  obtain ⟨⟨old,he⟩,st⟩:=st
  obtain ⟨xs,x,hq,hx⟩:=hg
  obtain ⟨its,rv,p,hz⟩:=I.list hq
  obtain ⟨u,hu,ru⟩:=rv.get hx
  have fe:=hf e (by simp)
  have fi:=hf it (by simp)
  refine wpAny_pyNext_enum_item he st p.isList (x:=u) (by simpa using hu) hei fun h1 heo hit1 ht1 hz1 hk1=>?_
  refine ⟨.ref s.heap.objs.size,rfl,wpAny_letOwnedTupleGo_enum heo fun h2 he2 hs2=>?_⟩
  replace hs2:Heap.SameBut e h1 h2:=hs2
  have elt:e<s.heap.objs.size:=Heap.lt_size he
  have hfr:H s.heap.objs.size=none:=I.hok.fresh (Nat.le_refl _)
  have ht2:h2.get? s.heap.objs.size=some { cls:=.type "tuple",data:=.seq #[.int i s.toks,u] }:=(hs2.2 _ (Nat.ne_of_gt elt)).trans ht1
  have kk:∀ b o,b ∉ [e,it]->s.heap.get? b=some o->h2.get? b=some o:=fun b o hc q=>by
   have n1:b ≠ e:=fun z=>hc (by simp [z])
   have n2:b ≠ it:=fun z=>hc (by simp [z])
   exact (hs2.2 b n1).trans (hk1 b o n1 n2 q)
  have nb:∀ c v,H c=some v->c ∉ [e,it]:=fun c v z hm=>by
   rcases List.mem_cons.mp hm with z' | z'
   ·rw [z',fe.1] at z;cases z
   ·have e2:c=it:=by simpa using z'
    rw [e2,fi.1] at z;cases z
  have I2:Inv X pins σ (upd H s.heap.objs.size (.tup [.int i,x])) { s with heap:=h2,toks:=s.toks+1 }:=by
   refine I.step (g':=s.gens) (d':=s.drawn) (ch:=[e,it]) (fun b hb=>?_) (fun b o _ _ hc q _=>kk b o hc q) (fun b o _ _ hc q _=>⟨o.slots,kk b o hc q⟩) (fun b o _ q n=>by rw [zk (Nat.ne_of_lt (Heap.lt_size q))];exact n) (fun b o hc q=>⟨o,kk b o hc q⟩)
    (fun b xs q=>by rw [zk (zi q hfr)];exact q) (fun b o u q=>by rw [zk (zi q hfr)];exact q) (fun b ps q=>⟨#[],by rw [zk (zi q hfr),q];simp⟩) (fun m hm=>?_) (fun b v q=>?_) I.bare
   ·rcases List.mem_cons.mp hb with z | hb
    ·rw [z];exact ⟨fe.2.2.2.1,fe.2.1,fe.2.2.2.2.1,fe.2.2.2.2.2⟩
    ·have e2:b=it:=by simpa using hb
     rw [e2];exact ⟨fi.2.2.2.1,fi.2.1,fi.2.2.2.2.1,fi.2.2.2.2.2⟩
   ·obtain ⟨o,es,ep,ho,r⟩:=hm
    exact ⟨o,es,ep,kk _ o (by simp [Ne.symm fe.2.1,Ne.symm fi.2.1]) ho,r⟩
   ·by_cases hb:b=s.heap.objs.size
    ·subst hb
     rw [zl] at q
     cases q
     exact ⟨by show 2<=sizeLine;decide,[.int i s.toks,u],.cons ⟨_,rfl⟩ (.cons ru .nil),_,ht2,rfl,⟨_,rfl⟩,rfl⟩
    ·rw [zk hb] at q
     refine (I.hok b v q).stay (fun c o hc q'=>kk c o ?_ q') (fun c z=>by rw [zk (zi z hfr)];exact z) fun c xs z=>by rw [zk (zi z hfr)];exact z
     rcases hc with z | z
     ·rw [z];exact nb b v q
     ·exact nb c _ z
  refine ⟨.ref s.heap.objs.size,_,I2,rfl,⟨s.heap.objs.size,x,hfr,rfl,fun ys hy=>by rw [I.list_inj hy hq];exact hx,rfl⟩,⟨⟨_,by simpa using he2⟩,hit1.extBut hs2.extBut (Ne.symm hei)⟩,fun b hb=>?_⟩
  have hlt:b<s.heap.objs.size:=by
   rcases List.mem_cons.mp hb with rfl | hb
   ·exact elt
   ·have e2:b=it:=by simpa using hb
    subst e2
    obtain ⟨o,e1,_⟩:=st
    exact Heap.lt_size e1
  rw [zk (Nat.ne_of_lt hlt)]
  exact (hf b hb).1
 done:=by
  intro X hP hw hK hc i pins s σ H E I hf st hg
  subst hP hw hK
  obtain ⟨⟨old,he⟩,st⟩:=st
  obtain ⟨xs,hq,hx⟩:=hg
  obtain ⟨its,rv,p,hz⟩:=I.list hq
  obtain ⟨f0,f1,f2,f3,f4,f5⟩:=hf it (by simp)
  have hl:=rv.length
  exact wpAny_pyNext_enum_end (I.ok.hd hc) he st p.isList (by simp;walk_at "o") fun h' eb=>⟨rfl,I.turned (t':=s.toks) (fun b o hb e=>eb b o hb e) f0 f1 f3 f4 f5⟩
 self:=fun _ _ _ _ _ st h=>by
  obtain ⟨⟨old,he⟩,_⟩:=st
  exact wpAny_pyIter_enum he h
section
variable {X:Cx}{pins:List (Addr × Obj)}{σ:St}{H:Hp}{s:Shared}
theorem Inv.yieldTup {ch:List Addr}{h2:Heap}{tk:Nat}{T:Addr}{xs:List V}{us:List Value}(I:Inv X pins σ H s)(hf:∀ b ∈ ch,yZ X pins H b)(kk:∀ b o,b ∉ ch->s.heap.get? b=some o->h2.get? b=some o)(hT:s.heap.objs.size<=T)
  (ht2:h2.get? T=some { cls:=.type "tuple",data:=.seq us.toArray }) (rv:zu xs us) (hz:xs.length<=sizeLine):Inv X pins σ (upd H T (.tup xs)) { s with heap:=h2,toks:=tk }:=by
 have hfr:H T=none:=I.hok.fresh hT
 have nb:∀ c v,H c=some v->c ∉ ch:=fun c v z hm=>by rw [(hf c hm).1] at z;cases z
 refine I.step (g':=s.gens) (d':=s.drawn) (ch:=ch) (fun b hb=>⟨(hf b hb).2.2.2.1,(hf b hb).2.1,(hf b hb).2.2.2.2.1,(hf b hb).2.2.2.2.2⟩) (fun b o _ _ hc q _=>kk b o hc q) (fun b o _ _ hc q _=>⟨o.slots,kk b o hc q⟩)
  (fun b o _ q n=>by rw [zk (Nat.ne_of_lt (Nat.lt_of_lt_of_le (Heap.lt_size q) hT))];exact n) (fun b o hc q=>⟨o,kk b o hc q⟩)
  (fun b xs q=>by rw [zk (zi q hfr)];exact q) (fun b o u q=>by rw [zk (zi q hfr)];exact q) (fun b ps q=>⟨#[],by rw [zk (zi q hfr),q];simp⟩) (fun m hm=>?_) (fun b v q=>?_) I.bare
 ·obtain ⟨o,es,ep,ho,r⟩:=hm
  exact ⟨o,es,ep,kk _ o (fun z=>(hf _ z).2.1 rfl) ho,r⟩
 ·by_cases hb:b=T
  ·subst hb
   rw [zl] at q
   cases q
   exact ⟨hz,us,rv,_,ht2,rfl,⟨_,rfl⟩,rfl⟩
  ·rw [zk hb] at q
   refine (I.hok b v q).stay (fun c o hc q'=>kk c o ?_ q') (fun c z=>by rw [zk (zi z hfr)];exact z) fun c xs z=>by rw [zk (zi z hfr)];exact z
   rcases hc with z | z
   ·rw [z];exact nb b v q
   ·exact nb c _ z
theorem Inv.turnedL {ch:List Addr}{h2:Heap}{tk:Nat}(I:Inv X pins σ H s)(hf:∀ b ∈ ch,yZ X pins H b)(kk:∀ b o,b ∉ ch->s.heap.get? b=some o->h2.get? b=some o):Inv X pins σ H { s with heap:=h2,toks:=tk }:=by
 have nb:∀ c v,H c=some v->c ∉ ch:=fun c v z hm=>by rw [(hf c hm).1] at z;cases z
 refine I.step (g':=s.gens) (d':=s.drawn) (ch:=ch) (fun b hb=>⟨(hf b hb).2.2.2.1,(hf b hb).2.1,(hf b hb).2.2.2.2.1,(hf b hb).2.2.2.2.2⟩) (fun b o _ _ hc q _=>kk b o hc q) (fun b o _ _ hc q _=>⟨o.slots,kk b o hc q⟩)
  (fun b o _ q n=>n) (fun b o hc q=>⟨o,kk b o hc q⟩) (fun b xs q=>q) (fun b o u q=>q) (fun b ps q=>⟨#[],by rw [q];simp⟩) (fun m hm=>?_) (fun b v q=>?_) I.bare
 ·obtain ⟨o,es,ep,ho,r⟩:=hm
  exact ⟨o,es,ep,kk _ o (fun z=>(hf _ z).2.1 rfl) ho,r⟩
 ·refine (I.hok b v q).stay (fun c o hc q'=>kk c o ?_ q') (fun c z=>z) fun c xs z=>z
  rcases hc with z | z
  ·rw [z];exact nb b v q
  ·exact nb c _ z
end
noncomputable def Itz (K:PySem.W.Frag)(a b:Addr):It:=
 ⟨fun i H=>∃ xs ys x y,SqL K H a xs/\SqL K H b ys/\xs[i]?=some x/\ys[i]?=some y,fun i H z H'=>∃ p x y,H p=none/\z=.ref p/\(∀ xs,SqL K H a xs->xs[i]?=some x)/\(∀ ys,SqL K H b ys->ys[i]?=some y)/\H'=upd H p (.tup [x,y]),
  fun i H=>∃ xs ys,SqL K H a xs/\SqL K H b ys/\(xs.length<=i \/ ys.length<=i)⟩
theorem Vy {P:Program}{w:World}{K:PySem.W.Frag}{es:List Expr}{kt:Nat}{tp:Pos}(l1 l2 z TI TO i1 i2:Addr)(D:ZipApart z TI TO i1 i2 l1 l2) :
  Ql P w K (.Tuple es kt tp) (Itz K l1 l2) [z,TI,TO,i1,i2] z (fun i h=>IsZip h z TI TO .none/\IsPair h TI (.ref i1) (.ref i2)/\(∃ a b,IsPair h TO a b)/\h.IsListIter i1 l1 i/\h.IsListIter i2 l2 i) where
 mem:=by simp
 obj:=fun i h st b hb=>by
  obtain ⟨hz,hTI,⟨a,c,hTO⟩,⟨o1,e1,c1,d1⟩,⟨o2,e2,c2,d2⟩⟩:=st
  simp only [List.mem_cons,List.not_mem_nil,or_false] at hb
  rcases hb with rfl | rfl | rfl | rfl | rfl
  ·exact ⟨_,hz,fun v q=>by have q':Data.fields _=Data.cell v:=q;cases q'⟩
  ·exact ⟨_,hTI,fun v q=>by have q':Data.seq _ _=Data.cell v:=q;cases q'⟩
  ·exact ⟨_,hTO,fun v q=>by have q':Data.seq _ _=Data.cell v:=q;cases q'⟩
  ·exact ⟨o1,e1,fun v q=>by rw [d1] at q;cases q⟩
  ·exact ⟨o2,e2,fun v q=>by rw [d2] at q;cases q⟩
 keep:=fun i h h' st k=>by
  obtain ⟨hz,hTI,⟨a,c,hTO⟩,h1,h2⟩:=st
  exact ⟨k _ (by simp) _ hz,k _ (by simp) _ hTI,⟨a,c,k _ (by simp) _ hTO⟩,h1.at fun o e=>k _ (by simp) o e,h2.at fun o e=>k _ (by simp) o e⟩
 item:=by
  intro X hP hw hK hc i pins s σ H E I hf st hg
  subst hP hw hK
  obtain ⟨hz,hTI,⟨a,c,hTO⟩,h1,h2⟩:=st
  obtain ⟨xs,ys,x,y,hq1,hq2,hx,hy⟩:=hg
  obtain ⟨its1,rv1,p1,hz1⟩:=I.list hq1
  obtain ⟨its2,rv2,p2,hz2⟩:=I.list hq2
  obtain ⟨u,hu,ru⟩:=rv1.get hx
  obtain ⟨v,hv,rvv⟩:=rv2.get hy
  refine wpAny_pyNext_zip_item D hz hTI hTO h1 h2 p1.isList p2.isList (x:=u) (y:=v) (by simpa using hu) (by simpa using hv) fun g1 b1 b2 b3 b4 b5 b6 hk=>?_
  refine ⟨.ref s.heap.objs.size,rfl,wpAny_letOwnedTupleGo_zip b1 fun g2 hz2' hs2=>?_⟩
  replace hs2:Heap.SameBut z g1 g2:=hs2
  have zlt:z<s.heap.objs.size:=Heap.lt_size hz
  have I2:Inv X pins σ (upd H s.heap.objs.size (.tup [x,y])) { s with heap:=g2,toks:=s.toks }:=by
   refine I.yieldTup (us:=[u,v]) hf (fun b o hb e=>?_) (Nat.le_refl _) ((hs2.2 _ (Nat.ne_of_gt zlt)).trans b5) (.cons ru (.cons rvv .nil)) (by show 2<=sizeLine;decide)
   simp only [List.mem_cons,List.not_mem_nil,or_false,not_or] at hb
   exact (hs2.2 b hb.1).trans (hk b o hb.1 hb.2.2.1 hb.2.2.2.1 hb.2.2.2.2 e)
  refine ⟨.ref s.heap.objs.size,_,I2,rfl,⟨s.heap.objs.size,x,y,I.hok.fresh (Nat.le_refl _),rfl,fun xs' h'=>by rw [I.list_inj h' hq1];exact hx,fun ys' h'=>by rw [I.list_inj h' hq2];exact hy,rfl⟩,
   ⟨hz2',(hs2.2 _ D.TIz).trans (hk _ _ D.TIz D.TITO D.TIi1 D.TIi2 hTI),⟨_,_,(hs2.2 _ D.TOz).trans b2⟩,b3.extBut hs2.extBut D.i1z,b4.extBut hs2.extBut D.i2z⟩,fun b hb=>?_⟩
  have hlt:b<s.heap.objs.size:=by
   simp only [List.mem_cons,List.not_mem_nil,or_false] at hb
   rcases hb with rfl | rfl | rfl | rfl | rfl
   ·exact zlt
   ·exact Heap.lt_size hTI
   ·exact Heap.lt_size hTO
   ·obtain ⟨o,e,_⟩:=h1;exact Heap.lt_size e
   ·obtain ⟨o,e,_⟩:=h2;exact Heap.lt_size e
  rw [zk (Nat.ne_of_lt hlt)]
  exact (hf b hb).1
 done:=by
  intro X hP hw hK hc i pins s σ H E I hf st hg
  subst hP hw hK
  obtain ⟨hz,hTI,⟨a,c,hTO⟩,h1,h2⟩:=st
  obtain ⟨xs,ys,hq1,hq2,hend⟩:=hg
  obtain ⟨its1,rv1,p1,hz1⟩:=I.list hq1
  obtain ⟨its2,rv2,p2,hz2⟩:=I.list hq2
  have l1:=rv1.length
  have l2:=rv2.length
  refine wpAny_pyNext_zip_end (I.ok.hd hc) D hz hTI hTO h1 h2 p1.isList p2.isList (by simp;walk_at "o") fun h' hk=>⟨rfl,I.turnedL (tk:=s.toks) hf fun b o hb e=>?_⟩
  simp only [List.mem_cons,List.not_mem_nil,or_false,not_or] at hb
  exact hk b o hb.1 hb.2.2.1 hb.2.2.2.1 hb.2.2.2.2 e
 self:=fun _ _ _ _ _ st h=>wpAny_pyIter_zip st.1 h
theorem vR:bootBuiltins "enumerate"=some (.type "enumerate"):=by decide +kernel
theorem Xz:bootBuiltins "zip"=some (.type "zip"):=by decide +kernel
section
variable {X:Cx}{es:List Expr}{kt:Nat}{tp:Pos}
noncomputable def Dy (K:PySem.W.Frag)(ta:TA):TI:=fun σ H R=>ta σ H fun vs H1=>∃ a,vs=[.ref a]/\(∃ xs,SqL K H1 a xs)/\R (Ite K a) H1
theorem Bi {e:Expr}{ta:TA}{p pos:Pos}(hg:Gl X "enumerate")(hm:X.mg "enumerate"=none)(ha:PA X [e] ta)(hs:starEach [e] X.env=[(false,eval e X.env)]:=by rfl) :
  PI X (.Tuple es kt tp) (.Call (.Name "enumerate" p) [e] [] pos) (Dy X.K ta):=by
 intro pins s σ H R I h
 refine Call_ (kJ I hg hm (vR) (PyProof.Rows.callWith_type1 (thn (ha pos pins s σ H _ I h) fun us s1 ⟨vs,H1,I1,r1,q1⟩=>?_) hs rfl))
 obtain ⟨a,e,⟨xs,hq⟩,q⟩:=q1
 subst e
 obtain ⟨u,rfl,ru⟩:=jK r1
 cases ru
 obtain ⟨its,rv,pl,hz⟩:=I1.list hq
 refine call_enumerate_list pl.isList fun h' he hit hsz hk=>wpAny_pyIter_enum he ?_
 have I2:Inv X pins σ H1 { s1 with heap:=h' }:=I1.kept (t':=s1.toks) hk
 refine ⟨s1.heap.objs.size+1,[s1.heap.objs.size+1,s1.heap.objs.size],_,_,H1,rfl,I2,Za a _ _ (Nat.succ_ne_self _),⟨⟨_,he⟩,hit⟩,fun b hb=>?_,q⟩
 have hb':s1.heap.objs.size<=b:=by
  simp only [List.mem_cons,List.not_mem_nil,or_false] at hb
  rcases hb with rfl | rfl
  ·exact Nat.le_succ _
  ·exact Nat.le_refl _
 exact I1.fpOk hb' (I1.hok.fresh hb')
end
theorem WI {K:PySem.W.Frag}{a:Addr}{xs:List V}{g:TG}{tb:TS}{D:kF}{σ:St}{H:Hp}(Pv:Nat->St->Hp->Prop)(h0:Pv 0 σ H)(hl:∀ i σ H,i<=xs.length->Pv i σ H->SqL K H a xs)
  (hs:∀ i x p σ H,xs[i]?=some x->H p=none->Pv i σ H->g (.ref p) σ (upd H p (.tup [.int i,x])) fun σ2 H2=>tb { D with nx:=Pv (i+1),ct:=Pv (i+1),bk:=D.nx } σ2 H2) (hd:∀ σ H,Pv xs.length σ H->D.nx σ H) :
  ∃ W:Nat->Nat->St->Hp->Prop,(∃ m,W 0 m σ H)/\∀ i m σ H,W i m σ H ->
   ((Ite K a).stop i H/\D.nx σ H) \/ ((Ite K a).go i H/\∃ N:St->Hp->Prop,(∀ σ' H',N σ' H'->∃ m',m'<m/\W (i+1) m' σ' H')/\∀ x H',(Ite K a).yld i H x H'->g x σ H' fun σ2 H2=>tb { D with nx:=N,ct:=N,bk:=D.nx } σ2 H2):=by
 refine ⟨fun i m σ H=>m=xs.length - i/\i<=xs.length/\Pv i σ H,⟨xs.length,by simp,Nat.zero_le _,h0⟩,?_⟩
 rintro i m σ H ⟨rfl,hi,p⟩
 have q:=hl i σ H hi p
 by_cases hlt:i<xs.length
 ·refine .inr ⟨⟨xs,xs[i],q,by simp [hlt]⟩,Pv (i+1),fun σ' H' p'=>⟨xs.length - (i+1),by walk_at "o",rfl,hlt,p'⟩,fun x H' y=>?_⟩
  obtain ⟨pp,x',hp,rfl,y,rfl⟩:=y
  exact hs i x' pp σ _ (y xs q) hp p
 ·have e:i=xs.length:=by walk_at "o"
  subst e
  exact .inl ⟨⟨xs,q,Nat.le_refl _⟩,hd σ H p⟩
noncomputable def wf (p:Addr)(a b c:Int):HO:=.ext fun h=>∃ t u v,h.get? p=some { cls:=.type "range",data:=.fields #[.int a t,.int b u,.int c v] }
theorem Ew {P:Program}{w:World}{H:Hp}{h:Heap}{p:Addr}{a b c:Int}{t u v:Tok}(e:h.get? p=some { cls:=.type "range",data:=.fields #[.int a t,.int b u,.int c v] }):qa P w H h p (wf p a b c):=
 ⟨⟨t,u,v,e⟩,⟨_,e⟩,fun h1 h2 ⟨t,u,v,q⟩ k=>⟨t,u,v,k _ q⟩⟩
noncomputable def zr (a c:Int)(n:Nat):List Int:=(List.range n).map fun (i:Nat)=>a+(i:Int) * c
theorem zv (a c:Int)(n:Nat):(zr a c n).length=n:=by simp [zr]
theorem v8 {a c:Int}:∀ {n:Nat} {acc:Array Value},ItemsOf (fun (i:Nat) (v:Value)=>∃ t,v=Value.int (a+(i:Int) * c) t) acc n->zu ((zr a c n).map V.int) acc.toList:=by
 intro n acc ⟨hs,hi⟩
 have key:∀ (k:Nat) (l:List Value),l.length=k->(∀ (j:Nat) v,l[j]?=some v->∃ t,v=Value.int (a+(j:Int) * c) t)->zu ((zr a c k).map V.int) l:=by
  intro k
  induction k with
  | zero=>intro l hl _;cases l with
   | nil=>exact .nil
   | cons=>simp at hl
  | succ k ih=>
   intro l hl hv
   obtain ⟨l',x,rfl⟩:∃ l' x,l=l' ++ [x]:=⟨l.dropLast,l.getLast (by intro e;rw [e] at hl;simp at hl),(List.dropLast_concat_getLast _).symm⟩
   have hl':l'.length=k:=by simpa using hl
   have e:(zr a c (k+1)).map V.int=(zr a c k).map V.int ++ [.int (a+(k:Int) * c)]:=by simp [zr,List.range_succ]
   rw [e]
   refine (ih l' hl' fun j v hj=>hv j v ?_).append (.cons ?_ .nil)
   ·rw [List.getElem?_append_left (List.getElem?_eq_some_iff.mp hj).1];exact hj
   ·obtain ⟨t,rfl⟩:=hv k x (by rw [List.getElem?_append_right (by walk_at "o"),hl'];simp)
    exact ⟨t,rfl⟩
 exact key n acc.toList (by simpa using hs) fun j v hj=>hi j v (by simpa using hj)
section
variable {X:Cx}
theorem xf:qI X (.type "range") (fun xs H Q=>∃ b:Int,xs=[.int b]/\∀ p,H p=none->Q (.ref p) (upd H p (wf p 0 b 1))):=by
 intro pins s σ H xs us Q I r h
 obtain ⟨b,rfl,q⟩:=h
 obtain ⟨u,rfl,t,rfl⟩:=jK r
 refine call_range_1 ⟨.ref s.heap.objs.size,_,I.laid (fun b o e=>Heap.get?_push_of_some _ e) (Nat.le_refl _) ?_,rfl,q _ (I.hok.fresh (Nat.le_refl _))⟩
 exact Ew (Heap.get?_push_size _ rfl)
theorem xI (hc:X.calm=true):qI X (.type "list") (fun xs H Q=>∃ p a b c n,xs=[.ref p]/\H p=some (wf p a b c)/\Builtin.Range.small a b c=true/\Builtin.Range.rangeSize a b c=((n:Nat):Int)/\n<=100000/\∀ l,H l=none->Q (.ref l) (upd H l (.lst ((zr a c n).map V.int)))):=by
 intro pins s σ H xs us Q I r h
 obtain ⟨p,a,b,c,n,rfl,hp,hs,hn,hz,q⟩:=h
 obtain ⟨u,rfl,rx⟩:=jK r
 cases rx
 obtain ⟨⟨t,u,v,e⟩,_⟩:=(show qa X.prog X.w H s.heap p (wf p a b c) from I.hok _ _ hp)
 refine call_list_range (I.ok.hd hc) e hs hn (Nat.le_trans hz (by decide)) fun h' tk acc c' hk he hi=>?_
 refine ⟨.ref s.heap.objs.size,_,I.laid hk (Nat.le_refl _) (show qa X.prog X.w _ h' _ (.lst ((zr a c n).map V.int)) from ⟨?_,acc.toList,c',v8 hi,by simpa using he⟩),rfl,q _ (I.hok.fresh (Nat.le_refl _))⟩
 rw [List.length_map,zv]
 exact Nat.le_trans hz (by decide)
end
section
variable {X:Cx}
noncomputable def isT (t c:String):Option Bool:=if (Value.type t == Value.type c)=true then some true else if PySem.W.kitMeta c=true then (fastBuiltinMro t).map (·.contains (Value.type c)) else none
theorem Kx (K:PySem.W.Frag)(t c:String):PySem.W.kitOne K (.type t) (.type c)=isT t c:=rfl
noncomputable def va (t:String):List String->Option Bool
 | []=>some false
 | c :: r=>match isT t c with
  | some true=>some true
  | some false=>va t r
  | none=>none
theorem QM (K:PySem.W.Frag)(t:String):∀ cs:List String,PySem.W.kitAny K (.type t) (cs.map Value.type)=va t cs
 | []=>rfl
 | c :: r=>by
  show (match PySem.W.kitOne K (.type t) (.type c) with | some true=>some true | some false=>PySem.W.kitAny K (.type t) (r.map Value.type) | none=>none)=_
  rw [Kx,QM K t r];rfl
theorem qJ:qI X (.builtin "isinstance") (fun xs H Q=>∃ x t c b,xs=[x,.ty c]/\kI X.K H x (.type t)/\isT t c=some b/\Q (.bl b) H):=by
 intro pins s σ H xs us Q I r h
 obtain ⟨x,t,c,b,rfl,ty,e,q⟩:=h
 obtain ⟨u,v,rfl,ru,rv⟩:=Qz r
 cases rv
 exact XR I ru ty (by rw [Kx];exact e) fun tk=>⟨.bl b,H,I.tok _,rfl,q⟩
theorem QS:∀ {cs:List String} {us:List Value},zu (cs.map V.ty) us->us=cs.map Value.type
 | [],_,.nil=>rfl
 | c :: cs,_,.cons r t=>by rw [QS t];cases r;rfl
theorem w6:qI X (.builtin "isinstance") (fun xs H Q=>∃ x t p cs b,xs=[x,.ref p]/\H p=some (.tup (List.map V.ty cs))/\kI X.K H x (.type t)/\va t cs=some b/\Q (.bl b) H):=by
 intro pins s σ H xs us Q I r h
 obtain ⟨x,t,p,cs,b,rfl,hp,ty,e,q⟩:=h
 obtain ⟨u,v,rfl,rx,rv⟩:=Qz r
 cases rv
 obtain ⟨_,its,rt,o,ho,hc,⟨n,hd⟩,_⟩:=(show qa X.prog X.w H s.heap p (.tup (List.map V.ty cs)) from I.hok _ _ hp)
 obtain ⟨oc,od,odt,osl⟩:=o
 simp only at hc hd
 subst hc hd
 have e':PySem.W.kitAny X.K (.type t) its=some b:=by rw [QS rt,QM];exact e
 have fin:∀ tk,EP X pins σ Q (.bool b) { s with toks:=tk }:=fun tk=>⟨.bl b,H,I.tok _,rfl,q⟩
 cases ty with
 | non=>cases (show u=Value.none from rx);exact PySem.W.kia_tup PySem.W.kitx_none I.kIn True.intro ho e' (fun z=>nomatch z) fin
 | bl y=>cases (show u=Value.bool y from rx);exact PySem.W.kia_tup PySem.W.kitx_bool I.kIn True.intro ho e' (fun z=>nomatch z) fin
 | int i=>obtain ⟨t,q⟩:=(show ∃ t,u=Value.int i t from rx);cases q;exact PySem.W.kia_tup PySem.W.kitx_int I.kIn True.intro ho e' (fun z=>nomatch z) fin
 | str y=>obtain ⟨t,q⟩:=(show ∃ t,u=Value.str y t from rx);cases q;exact PySem.W.kia_tup PySem.W.kitx_str I.kIn True.intro ho e' (fun z=>nomatch z) fin
 | flt y=>obtain ⟨t,q⟩:=(show ∃ t,u=Value.float y t from rx);cases q;exact PySem.W.kia_tup PySem.W.kitx_float I.kIn True.intro ho e' (fun z=>nomatch z) fin
 | @lst a xs ea=>
  cases (show u=Value.ref a from rx)
  obtain ⟨_,_,n,_,h1⟩:=(show qa X.prog X.w H s.heap a (.lst xs) from I.hok a _ ea)
  exact PySem.W.kia_tup PySem.W.kitx_list I.kIn ⟨_,h1,rfl⟩ ho e' (fun z=>nomatch z) fin
 | @frz a ob xs ea=>
  cases (show u=Value.ref a from rx)
  obtain ⟨_,_,_,n,_,h1⟩:=(show qa X.prog X.w H s.heap a (.frz ob (.lst xs)) from I.hok a _ ea)
  exact PySem.W.kia_tup PySem.W.kitx_list I.kIn ⟨_,h1,rfl⟩ ho e' (fun z=>nomatch z) fin
 | @tup a xs ea=>
  cases (show u=Value.ref a from rx)
  obtain ⟨_,_,_,p⟩:=(show qa X.prog X.w H s.heap a (.tup xs) from I.hok a _ ea)
  obtain ⟨o,h1,h2,_⟩:=p
  exact PySem.W.kia_tup PySem.W.kitx_tuple I.kIn ⟨o,h1,h2⟩ ho e' (fun z=>nomatch z) fin
 | @dK a kvs ea=>
  cases (show u=Value.ref a from rx)
  obtain ⟨_,_,vs,_,p⟩:=(show qa X.prog X.w H s.heap a (.dK kvs) from I.hok a _ ea)
  obtain ⟨o,es,ep,h1,h2,_⟩:=p
  exact PySem.W.kia_tup PySem.W.kitx_dict I.kIn ⟨o,h1,h2.1⟩ ho e' (fun z=>nomatch z) fin
 | @dT a kvs ea=>
  cases (show u=Value.ref a from rx)
  obtain ⟨_,_,xs,_,o,es,ep,h1,h2,_⟩:=(show qa X.prog X.w H s.heap a (.dT kvs) from I.hok a _ ea)
  exact PySem.W.kia_tup PySem.W.kitx_dict I.kIn ⟨o,h1,h2.1⟩ ho e' (fun z=>nomatch z) fin
end
noncomputable def At (K:PySem.W.Frag)(mg:Str->Option Value)(x:Str)(st:Stmt):Prop:=∃ f fd,Fun K x x st f fd/\mg x=some (.ref f)
noncomputable def Df (P:Program)(w:World)(K:PySem.W.Frag)(mg:Str->Option Value)(base:Heap)(x:Str)(ps:List Str)(k:Nat)(sp:Sp):Prop:=
 ∃ f fd,kC P w K mg base CX0 k f fd ps sp/\wB K fd ps []/\PySem.W.keepIn K (.ref f)=true/\mg x=some (.ref f)/\∃ oc od osl,K.lookup f=some ⟨oc,od,.func fd,osl⟩
theorem Df.mono {P:Program}{w:World}{K:PySem.W.Frag}{mg:Str->Option Value}{base:Heap}{x:Str}{ps:List Str}{j k:Nat}{sp:Sp}(D:Df P w K mg base x ps j sp)(h:j<=k):Df P w K mg base x ps k sp:=
 let ⟨f,fd,F,r⟩:=D
 ⟨f,fd,F.mono h,r⟩
section
variable {X:Cx}{k:Nat}{x:Str}{ps:List Str}{sp:Sp}{p pos:Pos}{e:Expr}{es:List Expr}{t:TA}
theorem zO (D:Df X.prog X.w X.K X.mg X.base x ps k sp)(hr:qZ k X.A)(hg:Gl X x)(ha:PA X (e :: es) t)(hdb:(x == ("__debug__":Str))=false:=by decide)
  (he:starEach (e :: es) X.env=(false,eval e X.env) :: starEach es X.env:=by rfl) (hpl:(backTo pos (starEach es X.env)).any (·.1)=false:=by rfl):PE X (.Call (.Name x p) (e :: es) [] pos) (Kz sp [] E0 t):=by
 obtain ⟨f,fd,F,b,kp,m,_⟩:=D
 exact AU F hr hg m kp b .nil FW ha hdb he hpl
end
theorem kP {P:Program}{w:World}{K:PySem.W.Frag}{mg:Str->Option Value}{base:Heap}{x:Str}{st:Stmt}{N ps:List Str}{k:Nat}{sp:Sp}(a:At K mg x st)(S:zy N ps (zj st))
  (hb:∀ (kV doc pm:Value) (an:Option Addr) (cdv ct:Value) (us:List Value),us.length=ps.length->bindArgs (PySem.W.fnOf x x (jg st) (qq st) (zj st) .none kV doc pm an cdv ct) ⟨us,[]⟩=pure (ps.zip us))
  (len:∀ vs H Q E,sp vs H Q E->vs.length=ps.length)
  (hbody:∀ (f:Addr) (cdv:Value) (A:Around) (outer:List Env) (s:Shared) (H:Hp) (vs:List V) (Q:VK) (E:XK),qZ k (A.deeper (envOfC x (zj st) s.heap.objs.size f cdv))->sp vs H Q E ->
   ∃ t,PSs (vQ CX0 P w K mg base N x (zj st) f cdv A outer s H E).nox (qq st) t/\t { nx:=fun _ H'=>Q .non H',rt:=Q } (jb N vs) H):Df P w K mg base x ps (k+1) sp:=by
 obtain ⟨f,fd,F,m⟩:=a
 obtain ⟨oc,od,kV,doc,pm,an,cdv,ct,osl,_,lk,_⟩:=id F.ex
 exact ⟨f,fd,F.ok S len fun cdv A outer s H vs Q E=>hbody f cdv A outer s H vs Q E,F.binds hb,F.kp,m,oc,od,osl,lk⟩
theorem at_mk {K:PySem.W.Frag}{mg:Str->Option Value}{h:Heap}{x:Str}{st:Stmt}{f:Addr}{oc:Value}{od an:Option Addr}{osl:Array (Option Value)}{kV doc pm cdv ct:Value}(X:K.In h)(G:h.Ns mainGlobals mg)(a:PySem.W.nsIn K mainGlobals x=some (some (.ref f)))
  (l:K.lookup f=some ⟨oc,od,.func (PySem.W.fnOf x x (jg st) (qq st) (zj st) .none kV doc pm an cdv ct),osl⟩) (c:PySem.W.codeIn K cdv x=true) (k:PySem.W.keepIn K (.ref f)=true):At K mg x st:=⟨f,_,WQ l c k,PySem.W.mg_of X G a⟩
theorem Df.fn {P:Program}{w:World}{K:PySem.W.Frag}{mg:Str->Option Value}{base:Heap}{x:Str}{ps:List Str}{k:Nat}{sp:Sp}{f:Addr}{fd:FuncData}{oc:Value}{od:Option Addr}{osl:Array (Option Value)}(D:Df P w K mg base x ps k sp)(m:mg x=some (.ref f))(l:K.lookup f=some ⟨oc,od,.func fd,osl⟩):kC P w K mg base CX0 k f fd ps sp:=by
 obtain ⟨f',fd',F,_,_,m',oc',od',osl',l'⟩:=D
 rw [m] at m'
 cases m'
 rw [l] at l'
 cases l'
 exact F
structure Blt (mg:Str->Option Value):Prop where
 len:mg "len"=none
 range:mg "range"=none
 list:mg "list"=none
 tuple:mg "tuple"=none
 int:mg "int"=none
 bool:mg "bool"=none
 str:mg "str"=none
 abs:mg "abs"=none
 divmod:mg "divmod"=none
 enumerate:mg "enumerate"=none
 zip:mg "zip"=none
 sorted:mg "sorted"=none
 max:mg "max"=none
 min:mg "min"=none
 isinstance:mg "isinstance"=none
 all:mg "all"=none
theorem blt_mk {K:PySem.W.Frag}{mg:Str->Option Value}{h:Heap}(X:K.In h)(G:h.Ns mainGlobals mg)(z1:PySem.W.nsIn K mainGlobals "len"=some none)(z2:PySem.W.nsIn K mainGlobals "range"=some none)(z3:PySem.W.nsIn K mainGlobals "list"=some none)(z4:PySem.W.nsIn K mainGlobals "tuple"=some none)(z5:PySem.W.nsIn K mainGlobals "int"=some none)(z6:PySem.W.nsIn K mainGlobals "bool"=some none)(z7:PySem.W.nsIn K mainGlobals "str"=some none)(z8:PySem.W.nsIn K mainGlobals "abs"=some none)
  (z9:PySem.W.nsIn K mainGlobals "divmod"=some none) (z10:PySem.W.nsIn K mainGlobals "enumerate"=some none) (z11:PySem.W.nsIn K mainGlobals "zip"=some none) (z12:PySem.W.nsIn K mainGlobals "sorted"=some none) (z13:PySem.W.nsIn K mainGlobals "max"=some none) (z14:PySem.W.nsIn K mainGlobals "min"=some none) (z15:PySem.W.nsIn K mainGlobals "isinstance"=some none) (z16:PySem.W.nsIn K mainGlobals "all"=some none):Blt mg:=
 ⟨PySem.W.mg_none_of X G z1,PySem.W.mg_none_of X G z2,PySem.W.mg_none_of X G z3,PySem.W.mg_none_of X G z4,PySem.W.mg_none_of X G z5,PySem.W.mg_none_of X G z6,PySem.W.mg_none_of X G z7,PySem.W.mg_none_of X G z8,PySem.W.mg_none_of X G z9,PySem.W.mg_none_of X G z10,PySem.W.mg_none_of X G z11,PySem.W.mg_none_of X G z12,PySem.W.mg_none_of X G z13,PySem.W.mg_none_of X G z14,PySem.W.mg_none_of X G z15,PySem.W.mg_none_of X G z16⟩
theorem zD:bootBuiltins "isinstance"=some (.builtin "isinstance"):=by decide +kernel
theorem yv:bootBuiltins "sorted"=some (.builtin "sorted"):=by decide +kernel
theorem Vu:bootBuiltins "abs"=some (.builtin "abs"):=by decide +kernel
theorem Xu:bootBuiltins "divmod"=some (.builtin "divmod"):=by decide +kernel
theorem JQ:bootBuiltins "max"=some (.builtin "max"):=by decide +kernel
theorem qN:bootBuiltins "len"=some (.builtin "len"):=by decide +kernel
theorem jh:bootBuiltins "list"=some (.type "list"):=by decide +kernel
theorem kK:bootBuiltins "tuple"=some (.type "tuple"):=by decide +kernel
theorem xU:bootBuiltins "int"=some (.type "int"):=by decide +kernel
theorem Km:bootBuiltins "bool"=some (.type "bool"):=by decide +kernel
theorem Jy:bootBuiltins "str"=some (.type "str"):=by decide +kernel
theorem vM:bootBuiltins "range"=some (.type "range"):=by decide +kernel
noncomputable def Kp (bs:List Addr)(H H':Hp):Prop:=∀ c o,c ∉ bs->H c=some o->H' c=some o
theorem Kp.refl {bs:List Addr}{H:Hp}:Kp bs H H:=fun _ _ _ h=>h
theorem Kp.trans {bs:List Addr}{H H1 H2:Hp}(a:Kp bs H H1)(b:Kp bs H1 H2):Kp bs H H2:=fun c o n h=>b c o n (a c o n h)
theorem Kp.new {bs:List Addr}{H:Hp}{p:Addr}(o:HO)(h:H p=none):Kp bs H (upd H p o):=fun c u _ q=>by rw [zk (zi q h)];exact q
theorem Kp.set {bs:List Addr}{H:Hp}{p:Addr}(o:HO)(h:p ∈ bs):Kp bs H (upd H p o):=fun c u n q=>by have hne:c ≠ p:=(fun e=>n (by rw [e];exact h));rw [zk hne];exact q
theorem Kp.mono {bs bs':List Addr}{H H':Hp}(a:Kp bs H H')(h:∀ b ∈ bs,b ∈ bs'):Kp bs' H H':=fun c o n q=>a c o (fun z=>n (h c z)) q
theorem Kp.free {H H':Hp}(e:Kp [] H H'){l:Addr}(h:H' l=Option.none):H l=Option.none:=by
 cases q:H l with
 | none=>rfl
 | some o=>rw [e l o (by simp) q] at h;cases h
noncomputable def Bx (H:Hp)(b:Addr)(N:Nat):Prop:=∃ x y z:Int,H b=some (.lst [.int x,.int y,.int z])/\0<=x/\0<=y/\y<2147483648/\0<=z/\z<=N
noncomputable abbrev il (ns:List Int):HO:=.lst (ns.map V.int)
theorem cxK {CX:CXT}{P:Program}{w:World}{K:PySem.W.Frag}{mg:Str->Option Value}{base:Heap}{N:List Str}{qual:Str}{scope:Scope}{f:Addr}{cd:Value}{A:Around}{outer:List Env}{s:Shared}{H:Hp}{E:XK} :
  (vQ CX P w K mg base N qual scope f cd A outer s H E).K=K:=rfl
noncomputable def B3 (J:It)(g:TG)(tb:TS)(D:kF)(σ:St)(H:Hp):Prop:=∃ W:Nat->Nat->St->Hp->Prop,(∃ m,W 0 m σ H)/\∀ i m σ H,W i m σ H ->
 (J.stop i H/\D.nx σ H) \/ (J.go i H/\∃ N:St->Hp->Prop,(∀ σ' H',N σ' H'->∃ m',m'<m/\W (i+1) m' σ' H')/\∀ x H',J.yld i H x H'->g x σ H' fun σ2 H2=>tb { D with nx:=N,ct:=N,bk:=D.nx } σ2 H2)
theorem K6 {wi:TI}{g:TG}{tb:TS}{D:kF}{σ:St}{H:Hp}:FG wi g tb D σ H=wi σ H (fun J H1=>B3 J g tb D σ H1):=rfl
noncomputable def Gx (J:It)(g:TG)(tt:TT)(te:TE)(D:Addr)(Q:VK)(τ:St)(H:Hp):Prop:=∃ W:Nat->Nat->St->Hp->Prop,(∃ m,W 0 m τ H)/\∀ i m τ H2,W i m τ H2 ->
 (J.stop i H2/\Q (.ref D) H2) \/ (J.go i H2/\∃ N:St->Hp->Prop,(∀ τ' H',N τ' H'->∃ m',m'<m/\W (i+1) m' τ' H')/\∀ x H',J.yld i H2 x H'->g x τ H' fun τ2 H3=>tt τ2 H3 fun b H4=>
  if b=true then te τ2 H4 fun v H5=>∃ ys,H5 D=some (.lst ys)/\ys.length<sizeLine/\N τ2 (upd H5 D (.lst (ys ++ [v]))) else N τ2 H4)
theorem V1 {ts:List Nat}{wi:TI}{g:TG}{tt:TT}{te:TE}{σ:St}{H:Hp}{Q:VK} :
  QO ts wi g tt te σ H Q=wi σ H (fun J H1=>∀ D,H1 D=none->Gx J g tt te D Q (clr ts σ) (upd H1 D (.lst []))):=rfl
theorem VU {lo:Int}{n:Nat}{g:TG}{tb:TS}{D:kF}{σ:St}{H:Hp}(Pv:Nat->St->Hp->Prop)(h0:Pv 0 σ H)
  (hs:∀ i σ H,i<n->Pv i σ H->g (.int (lo+i)) σ H fun σ2 H2=>tb { D with nx:=Pv (i+1),ct:=Pv (i+1),bk:=D.nx } σ2 H2) (hd:∀ σ H,Pv n σ H->D.nx σ H):B3 (Itr lo n) g tb D σ H:=X8 Pv h0 hs hd
theorem B1 {K:PySem.W.Frag}{a:Addr}{xs:List V}{g:TG}{tb:TS}{D:kF}{σ:St}{H:Hp}(Pv:Nat->St->Hp->Prop)(h0:Pv 0 σ H)(hl:∀ i σ H,i<=xs.length->Pv i σ H->SqL K H a xs)
  (hs:∀ i x σ H,xs[i]?=some x->Pv i σ H->g x σ H fun σ2 H2=>tb { D with nx:=Pv (i+1),ct:=Pv (i+1),bk:=D.nx } σ2 H2) (hd:∀ σ H,Pv xs.length σ H->D.nx σ H):B3 (Itl K a) g tb D σ H:=V9 Pv h0 hl hs hd
theorem Bf {K:PySem.W.Frag}{a:Addr}{xs:List V}{g:TG}{tb:TS}{D:kF}{σ:St}{H:Hp}(Pv:Nat->St->Hp->Prop)(h0:Pv 0 σ H)(hl:∀ i σ H,i<=xs.length->Pv i σ H->SqL K H a xs)
  (hs:∀ i x p σ H,xs[i]?=some x->H p=none->Pv i σ H->g (.ref p) σ (upd H p (.tup [.int i,x])) fun σ2 H2=>tb { D with nx:=Pv (i+1),ct:=Pv (i+1),bk:=D.nx } σ2 H2) (hd:∀ σ H,Pv xs.length σ H->D.nx σ H):B3 (Ite K a) g tb D σ H:=WI Pv h0 hl hs hd
theorem Pn1_ {α:Type}{p:List α->Prop}(f:∀ a,p [a]):∀ us:List α,us.length=1->p us
 | [_],_=>f _
theorem Pn2_ {α:Type}{p:List α->Prop}(f:∀ a b,p [a,b]):∀ us:List α,us.length=2->p us
 | [_,_],_=>f _ _
theorem Pn3_ {α:Type}{p:List α->Prop}(f:∀ a b c,p [a,b,c]):∀ us:List α,us.length=3->p us
 | [_,_,_],_=>f _ _ _
theorem Pn4_ {α:Type}{p:List α->Prop}(f:∀ a b c d,p [a,b,c,d]):∀ us:List α,us.length=4->p us
 | [_,_,_,_],_=>f _ _ _ _
noncomputable def Jj_:Expr->Option Int
 | .Constant (.int i) _ _=>some i
 | _=>none
noncomputable def Jk:List Expr->Option (List Int)
 | []=>some []
 | e :: r=>match Jj_ e with
  | some i=>(Jk r).map (i :: ·)
  | none=>none
noncomputable def Da (is:List Int):TA:=fun _ H Q=>Q (is.map V.int) H
theorem Kl {X:Cx}:∀ {es:List Expr} {is:List Int},Jk es=some is->PA X es (Da is)
 | [],is,h=>by
  cases (show some []=some is from h)
  exact zb
 | e :: r,is,h=>by
  unfold Jk at h
  split at h
  ·rename_i i hi
   obtain ⟨js,e',rfl⟩:=Option.map_eq_some_iff.mp h
   unfold Jj_ at hi
   split at hi
   ·cases hi;exact za (te:=tC (.int i)) zd (Kl e')
   ·cases hi
  ·cases h
theorem jB {X:Cx}:qI X (.type "int") (fun xs H Q=>∃ k,xs=[.bl k]/\Q (.int (if k then 1 else 0)) H):=by
 intro pins s σ H xs us Q I r h
 exact XQ pins s σ H xs us Q I r (.inr h)
theorem Bx.mono {H:Hp}{b:Addr}{N M:Nat}(h:Bx H b N)(le:N<=M):Bx H b M:=let ⟨x,y,z,h1,h2,h3,h4,h5,h6⟩:=h;⟨x,y,z,h1,h2,h3,h4,h5,by walk_at "o"⟩
theorem Bx.new {H:Hp}{b p:Addr}{N:Nat}{o:HO}(h:Bx H b N)(hp:H p=none):Bx (upd H p o) b N:=let ⟨x,y,z,h1,r⟩:=h;⟨x,y,z,(zk (zi h1 hp)).trans h1,r⟩
noncomputable def zB (n:Nat)(ns:List Int):Prop:=ns.length=n/\ns.Nodup/\∀ x ∈ ns,0<=x/\x<(n:Int)
theorem vy:∀ (n:Nat) (l:List Int),l.Nodup->(∀ x ∈ l,0<=x/\x<(n:Int))->l.length<=n
 | 0,l,_,h=>by
  cases l with
  | nil=>exact Nat.le_refl _
  | cons x r=>have:=h x List.mem_cons_self;walk_at "o"
 | n+1,l,hn,h=>by
  have ih:=vy n (l.erase (n:Int)) (hn.erase _) (fun x hx=>by
   have h1:=h x (List.mem_of_mem_erase hx)
   have h2:x ≠ (n:Int):=fun e=>by
    subst e
    exact (hn.not_mem_erase) hx
   walk_at "o")
  by_cases hm:(n:Int) ∈ l
  ·rw [List.length_erase_of_mem hm] at ih;walk_at "o"
  ·rw [List.erase_of_not_mem hm] at ih;walk_at "o"
theorem zB.surj {n:Nat}{ns:List Int}(h:zB n ns){x:Int}(h0:0<=x)(h1:x<n):x ∈ ns:=by
 obtain ⟨l,d,b⟩:=h
 refine Classical.byContradiction fun hm=>?_
 have:=vy n (x :: ns) (List.nodup_cons.mpr ⟨hm,d⟩) (fun y hy=>by
  rcases List.mem_cons.mp hy with rfl | hy
  ·exact ⟨h0,h1⟩
  ·exact b y hy)
 rw [List.length_cons,l] at this
 walk_at "o"
theorem zB.getD {n:Nat}{ns:List Int}(h:zB n ns){i:Nat}(hi:i<n):0<=ns.getD i 0/\ns.getD i 0<n:=by
 obtain ⟨l,d,b⟩:=h
 have hi':i<ns.length:=by walk_at "o"
 have e:ns.getD i 0=ns[i]:=by rw [List.getD_eq_getElem?_getD,List.getElem?_eq_getElem hi'];rfl
 rw [e]
 exact b _ (List.getElem_mem hi')
theorem qe {ns:List Int}{i:Nat}(h:i<ns.length):ns.getD i 0=ns[i]:=by rw [List.getD_eq_getElem?_getD,List.getElem?_eq_getElem h];rfl
theorem zB.inj {n:Nat}{ns:List Int}(h:zB n ns){i j:Nat}(hi:i<n)(hj:j<n)(e:ns.getD i 0=ns.getD j 0):i=j:=by
 obtain ⟨l,d,b⟩:=h
 rw [qe (by walk_at "o"),qe (by walk_at "o")] at e
 exact (List.getElem_inj d).mp e
theorem Z4 {n:Nat}{ns:List Int}(l:ns.length=n)(b:∀ i,i<n->0<=ns.getD i 0/\ns.getD i 0<n)(j:∀ i k,i<n->k<n->ns.getD i 0=ns.getD k 0->i=k):zB n ns:=by
 refine ⟨l,?_,fun x hx=>?_⟩
 ·rw [List.nodup_iff_pairwise_ne,List.pairwise_iff_getElem]
  intro i k hi hk hik e
  have:=j i k (by walk_at "o") (by walk_at "o") (by rw [qe hi,qe hk];exact e)
  walk_at "o"
 ·obtain ⟨i,hi,rfl⟩:=List.mem_iff_getElem.mp hx
  have:=b i (by walk_at "o")
  rwa [qe hi] at this
theorem zB.ex {n:Nat}{ns:List Int}(h:zB n ns){j:Nat}(hj:j<n):∃ i,i<n/\ns.getD i 0=(j:Int):=by
 have hm:=h.surj (x:=(j:Int)) (by walk_at "o") (by walk_at "o")
 obtain ⟨i,hi,e⟩:=List.mem_iff_getElem.mp hm
 exact ⟨i,by rw [<- h.1];exact hi,by rw [qe hi];exact e⟩
theorem j4 (n:Nat){i:Nat}(h:i<n):(zr 0 1 n).getD i 0=(i:Int):=by
 rw [qe (by rw [zv];exact h)]
 simp [zr]
theorem Kp.drop1 {bs:List Addr}{H H':Hp}{p:Addr}{o:HO}(hp:H p=none)(k:Kp (p :: bs) (upd H p o) H'):Kp bs H H':=fun c u n h=>by
 have hne:c ≠ p:=zi h hp
 refine k c u ?_ ((zk hne).trans h)
 intro hm
 rcases List.mem_cons.mp hm with e | e
 ·exact hne e
 ·exact n e
theorem wa {ns:List Int}{i j:Nat}{v:Int}(h:i<ns.length):(ns.set i v).getD j 0=if j=i then v else ns.getD j 0:=by
 rw [List.getD_eq_getElem?_getD,List.getElem?_set]
 by_cases e:i=j
 ·subst e;simp [h]
 ·rw [if_neg e,if_neg (Ne.symm e),List.getD_eq_getElem?_getD]
theorem WP {xs ys:List Int}(l:xs.length=ys.length)(h:∀ i,i<xs.length->xs.getD i 0=ys.getD i 0):xs=ys:=by
 refine List.ext_getElem l fun i h1 h2=>?_
 have:=h i h1
 rwa [qe h1,qe h2] at this
noncomputable def Jx:V->V->V->Hp->(Hp->Prop)->Prop:=fun o i v H Q=>∃ k,i=.int k/\∃ p,o=.ref p/\∃ xs,H p=some (.lst xs)/\∃ j,ixN xs.length k=some j/\Q (upd H p (.lst (xs.set j v)))
section
variable {X:Cx}
theorem qD:MtR X "list.append" vj:=wQ
theorem jk {es:List Expr}{k:Nat}{t:TGs}{pos:Pos}{K:PySem.W.Frag}(n:Nat)(h:X.K=K)(hc:X.calm=true)(hs:PGs X es t)(hn:(assignEach es X.env).length=n:=by rfl)(hst:(assignEach es X.env).findIdx? (·.1)=none:=by rfl):PG X (.Tuple es k pos) (VC K n t):=h ▸ DJ hc hs hn hst
theorem qg:Eo X Jx:=by
 intro pins s σ H o i v ov iv u Q I ro ri rv h
 obtain ⟨k,e1,p,e2,xs,h1,j,h2,q⟩:=h
 exact VI pins s σ H o i v ov iv u Q I ro ri rv ⟨p,xs,k,j,e2,e1,h1,h2,q⟩
theorem wj {K:PySem.W.Frag}(h:X.K=K):qI X (.builtin "len") (fun xs H Q=>∃ p ys,xs=[.ref p]/\(SqL K H p ys \/ SqT K H p ys)/\Q (.int ys.length) H):=h ▸ zw
end
noncomputable def aft (one other:List Int):List Int:=one.map fun x=>other.getD x.toNat 0
theorem xP (a b:List Int):(aft a b).length=a.length:=List.length_map _
theorem Yp {a:List Int}(b:List Int){i:Nat}(h:i<a.length):(aft a b).getD i 0=b.getD (a.getD i 0).toNat 0:=by
 rw [qe (by rw [xP];exact h),qe h]
 exact List.getElem_map _
noncomputable def qF (os bs:List Int):Prop:=bs.length=os.length/\∀ i,i<os.length->bs.getD (os.getD i 0).toNat 0=(i:Int)
theorem qF.at {n:Nat}{os bs:List Int}(ho:zB n os)(h:qF os bs){j:Nat}(hj:j<n):∃ i:Nat,i<n/\os.getD i 0=(j:Int)/\bs.getD j 0=(i:Int):=by
 obtain ⟨i,hi,e⟩:=ho.ex hj
 refine ⟨i,hi,e,?_⟩
 have:=h.2 i (by rw [ho.1];exact hi)
 rw [e,Int.toNat_natCast] at this
 exact this
theorem qF.ord {n:Nat}{os bs:List Int}(ho:zB n os)(h:qF os bs):zB n bs:=by
 refine Z4 (by rw [h.1,ho.1]) (fun j hj=>?_) (fun j k hj hk e=>?_)
 ·obtain ⟨i,hi,_,e⟩:=h.at ho hj
  rw [e];walk_at "o"
 ·obtain ⟨i,hi,e1,e2⟩:=h.at ho hj
  obtain ⟨i',hi',e1',e2'⟩:=h.at ho hk
  have:i=i':=by walk_at "o"
  subst this
  walk_at "o"
theorem qF.right {n:Nat}{os bs:List Int}(ho:zB n os)(h:qF os bs):aft os bs=zr 0 1 n:=by
 refine WP (by rw [xP,zv,ho.1]) fun i hi=>?_
 rw [xP] at hi
 rw [Yp bs hi,h.2 i hi,j4 n (by rw [<- ho.1];exact hi)]
noncomputable def YS (os:List Int)(k:Nat):Nat:=((List.range k).filter fun (i:Nat)=>!decide (os.getD i 0=(i:Int))).length
section
variable {X:Cx}
noncomputable def KZ (K:PySem.W.Frag):R2:=fun x y H Q=>∃ p xs i v,x=.ref p/\y=.int i/\(SqL K H p xs \/ SqT K H p xs)/\atI xs i=some v/\Q v H
theorem qB:IxR X (KZ X.K):=by
 intro value slice pins s σ H x y v u Q I rx ry h hs
 obtain ⟨p,xs,i,z,e1,e2,hq | hq,he,q⟩:=h
 ·exact qt value slice pins s σ H x y v u Q I rx ry ⟨p,xs,i,z,e1,e2,hq,he,q⟩ hs
 ·exact Ff value slice pins s σ H x y v u Q I rx ry ⟨p,xs,i,z,e1,e2,hq,he,q⟩ hs
theorem yI {K:PySem.W.Frag}(h:X.K=K):IxR X (KZ K):=h ▸ qB
theorem Fq:bootBuiltins "all"=some (.builtin "all"):=by decide +kernel
theorem vO:∀ {bs:List Bool} {us:List Value},zu (bs.map V.bl) us->us=bs.map Value.bool
 | [],_,h=>by cases h;rfl
 | b :: bs,_,h=>by
  cases h with
  | cons r rs=>cases r;rw [vO rs];rfl
theorem Jj (bs:List Bool):((List.range bs.length).all fun i=>(bs[i]?).getD true)=bs.all id:=by
 rw [Bool.eq_iff_iff,List.all_eq_true,List.all_eq_true]
 constructor
 ·intro h x hx
  obtain ⟨i,hi,rfl⟩:=List.getElem_of_mem hx
  have:=h i (by simpa using hi)
  simpa [List.getElem?_eq_getElem hi] using this
 ·intro h i hi
  have hi':i<bs.length:=by simpa using hi
  simpa [List.getElem?_eq_getElem hi'] using h bs[i] (List.getElem_mem hi')
theorem Yl (hc:X.calm=true):qI X (.builtin "all") (fun xs H Q=>∃ p bs,xs=[.ref p]/\SqL X.K H p (List.map V.bl bs)/\Q (.bl (bs.all id)) H):=by
  intro pins s σ H xs us Q I r h
  obtain ⟨p,bs,rfl,hq,q⟩:=h
  obtain ⟨u,rfl,rx⟩:=jK r
  cases rx
  obtain ⟨its,rv,pl,hz⟩:=I.list hq
  have hu:=vO rv
  subst hu
  have hlt:p<s.heap.objs.size:=by obtain ⟨_,e,_⟩:=pl.isList;exact Heap.lt_size e
  refine call_all_walk (wpAny_pyIter_list pl.isList ?_)
  refine ⟨s.heap.objs.size,[s.heap.objs.size,p],[s.heap.objs.size],(bs.map Value.bool).toArray.size,_,_,fun i=>(bs[i]?).getD true,rfl,Walks.list (A:=X.A.in1) (I.ok.hd hc) _ p (Nat.ne_of_lt hlt) (bs.map Value.bool).toArray,
    ⟨⟨_,Heap.get?_push_size _ rfl,rfl,rfl⟩,pl.isList.push _⟩,fun i v s' Q' E' hP hQ=>?_,fun h' tk hk=>?_⟩
  · have hP':(bs.map Value.bool)[i]?=some v:=by simpa using hP
    rw [List.getElem?_map] at hP'
    cases e:bs[i]? with
    | none=>rw [e] at hP';cases hP'
    | some b=>
      rw [e] at hP'
      cases hP'
      simp only [e,Option.getD_some] at hQ
      exact wpAny_truthy_bool hQ
  · have e : ((List.range (bs.map Value.bool).toArray.size).all fun i => (bs[i]?).getD true) = bs.all id := by
      rw [List.size_toArray,List.length_map];exact Jj bs
    rw [e]
    refine ⟨.bl (bs.all id),H,I.turnedL (ch:=[]) (tk:=tk) (fun b hb=>nomatch hb) (fun b o _ eb=>?_),rfl,q⟩
    exact hk b o (fun hm=>by rw [List.mem_singleton.mp hm] at eb;exact Nat.lt_irrefl _ (Heap.lt_size eb)) (Heap.get?_push_of_some _ eb)
end
noncomputable def nxt (os:List Int)(p:Int):Int:=os.getD p.toNat 0
noncomputable def itn (os:List Int):Nat->Int->Int
 | 0,p=>p
 | k+1,p=>nxt os (itn os k p)
theorem qm {n:Nat}{os:List Int}(h:zB n os){p:Int}(p0:0<=p)(p1:p<n):∀ k,0<=itn os k p/\itn os k p<n
 | 0=>⟨p0,p1⟩
 | k+1=>by
  have:=qm h p0 p1 k
  exact h.getD (by walk_at "o")
theorem jQ (os:List Int)(p:Int)(b:Nat):∀ a,itn os (a+b) p=itn os a (itn os b p)
 | 0=>by rw [Nat.zero_add];rfl
 | a+1=>by
  rw [show a+1+b=(a+b)+1 by walk_at "o"]
  show nxt os (itn os (a+b) p)=nxt os (itn os a (itn os b p))
  rw [jQ os p b a]
theorem BO {n:Nat}{os:List Int}(h:zB n os){x y:Int}(x0:0<=x)(x1:x<n)(y0:0<=y)(y1:y<n)(e:nxt os x=nxt os y):x=y:=by
 have:=h.inj (i:=x.toNat) (j:=y.toNat) (by walk_at "o") (by walk_at "o") e
 walk_at "o"
theorem vi {n:Nat}{os:List Int}(h:zB n os){x y:Int}(x0:0<=x)(x1:x<n)(y0:0<=y)(y1:y<n):∀ k,itn os k x=itn os k y->x=y
 | 0,e=>e
 | k+1,e=>by
  have bx:=qm h x0 x1 k
  have by':=qm h y0 y1 k
  exact vi h x0 x1 y0 y1 k (BO h bx.1 bx.2 by'.1 by'.2 e)
theorem K9 {n:Nat}{os:List Int}(h:zB n os){p:Int}(p0:0<=p)(p1:p<n):∃ M,1<=M/\M<=n/\itn os M p=p:=by
 apply Classical.byContradiction
 intro hno
 have hp:((List.range (n+1)).map fun i=>itn os i p).Nodup:=by
  rw [List.Nodup,List.pairwise_map]
  refine List.Pairwise.imp_of_mem (R:=fun a b=>a<b) ?_ List.pairwise_lt_range
  intro a b ha hb hlt e
  have hb':b<n+1:=by simpa using hb
  refine hno ⟨b - a,by walk_at "o",by walk_at "o",?_⟩
  have bb:=qm h p0 p1 (b - a)
  refine (vi h p0 p1 bb.1 bb.2 a ?_).symm
  rw [<- jQ,show a+(b - a)=b by walk_at "o"]
  exact e
 have:=vy n _ hp (fun x hx=>by
  obtain ⟨i,_,rfl⟩:=List.mem_map.mp hx
  exact qm h p0 p1 i)
 rw [List.length_map,List.length_range] at this
 walk_at "o"
noncomputable def Fw (os:List Int)(p:Int)(m:Nat)(e:Int):Prop:=1<=m/\e=itn os m p/\e<=p/\∀ j,1<=j->j<m->p<itn os j p
open Classical in
noncomputable def wkM (os:List Int)(p:Int):Nat:=if h:∃ m,∃ e,Fw os p m e then Classical.choose h else 0
open Classical in
noncomputable def wkE (os:List Int)(p:Int):Int:=itn os (wkM os p) p
section
variable {P:Program}{w:World}{A:Around}{E:Value->Shared->Prop}{s:Shared}{j t:Addr}{i:Nat}{its:Array Value}{Q:Value->Shared->Prop}
theorem kq {x:Value}(hj:s.heap.IsTupleIter j t i)(ht:s.heap.IsTuple t its)(hx:its[i]?=some x)(hQ:∀ h',h'.IsTupleIter j t (i+1)->Heap.SameBut j s.heap h'->Q x { s with heap:=h' }):wpAny (model P w) A (Builtin.SmallTypes.nextOf (.ref j)) Q E s:=by
 obtain ⟨o,ho,hc,hd⟩:=id hj
 obtain ⟨ot,hot,_,nt,hdt⟩:=ht
 unfold Builtin.SmallTypes.nextOf
 refine wpAny_bind (wpAny_callSpecial?_slot (name:=Str.ofString "__next__") hj.typeIs F.slot_tuple_iterator_next (wpAny_call_entry F.slot_tuple_iterator_next hj.typeIs F.entry_tuple_iterator_next ?_ (F.args_tuple_iterator_next_1 _)))
 refine wpAny_bind (m:=field (.ref j) 0) (wpAny_field ho hd (x:=.ref t) rfl ?_);show wpAny _ _ (if (Value.ref t == Value.none)=true then _ else _) _ _ s;rw [if_neg (show ¬ ((Value.ref t == Value.none)=true) from Bool.false_ne_true)]
 refine wpAny_bind (m:=field (.ref j) 1) (wpAny_field ho hd (x:=.int i 0) rfl ?_);refine wpAny_bind (m:=seqItems? (.ref t)) (wpAny_seqItems hot hdt ?_);simp only [Int.toNat_natCast,hx]
 refine wpAny_bind (wpAny_setField ho hd (by simp) (wpAny_pure ⟨x,rfl,wpAny_pure (hQ _ ⟨_,Heap.get?_update_self _ ho (Obj.isFreed_of_fields (Obj.data_mapFields hd _)),(Obj.cls_mapFields ..).trans hc,by rw [Obj.data_mapFields hd];simp [rawInt]⟩ (Heap.SameBut.update ..))⟩))
theorem kZ (hh:A.handled=none)(hj:s.heap.IsTupleIter j t i)(ht:s.heap.IsTuple t its)(hx:its[i]?=none)(hE:∀ h' e,Heap.ExtBut j s.heap h'->(∃ o,h'.get? e=some o/\o.cls=.type "StopIteration")->E (.ref e) { s with heap:=h' }):wpAny (model P w) A (Builtin.SmallTypes.nextOf (.ref j)) Q E s:=by
 obtain ⟨o,ho,hc,hd⟩:=id hj
 obtain ⟨ot,hot,_,nt,hdt⟩:=ht
 unfold Builtin.SmallTypes.nextOf
 refine wpAny_bind (wpAny_callSpecial?_slot (name:=Str.ofString "__next__") hj.typeIs F.slot_tuple_iterator_next (wpAny_call_entry F.slot_tuple_iterator_next hj.typeIs F.entry_tuple_iterator_next ?_ (F.args_tuple_iterator_next_1 _)))
 refine wpAny_bind (m:=field (.ref j) 0) (wpAny_field ho hd (x:=.ref t) rfl ?_);show wpAny _ _ (if (Value.ref t == Value.none)=true then _ else _) _ _ s;rw [if_neg (show ¬ ((Value.ref t == Value.none)=true) from Bool.false_ne_true)]
 refine wpAny_bind (m:=field (.ref j) 1) (wpAny_field ho hd (x:=.int i 0) rfl ?_);refine wpAny_bind (m:=seqItems? (.ref t)) (wpAny_seqItems hot hdt ?_);simp only [Int.toNat_natCast,hx]
 refine wpAny_bind (wpAny_rule (wpAny_bind (wpAny_setField ho hd (by simp) ?_)));refine wpAny_bind (m:=newExc (.type "StopIteration") []) ?_;simp only [newExc,newTuple];refine wpAny_bind (wpAny_newObj_type ?_ (by size_fits));refine wpAny_bind (m:=firstArgMember _ _) (wpAny_of_eq (a:=Value.none) (by first | rfl | (simp only [firstArgMember];rfl)) ?_);refine wpAny_newObj_type ?_ (by size_fits);simp only [raiseNew];refine wpAny_bind (wpAny_handled ?_)
 (first | rw [show A.in1.handled=none from hh] | rw [hh]);refine wpAny_bind (wpAny_pure (wpAny_throw ?_));exact hE _ _ (((Heap.SameBut.update ..).extBut.push _).push _) ⟨_,Heap.get?_push_size _ rfl,rfl⟩
end
theorem XG {P:Program}{w:World}{A:Around}(hh:A.handled=none)(j t:Addr)(hne:t ≠ j)(its:Array Value) :
  Draws P w A j [j,t] its.size (fun i v=>its[i]?=some v) (fun i h=>h.IsTupleIter j t i/\h.IsTuple t its) where
 live:=fun _ _ st=>let ⟨o,ho,_⟩:=st.1;⟨o,ho⟩
 frame:=fun _ _ _ st hk=>⟨st.1.at fun o e=>hk j (by simp) o e,let ⟨o,ho,r⟩:=st.2;⟨o,hk t (by simp) o ho,r⟩⟩
 item:=fun i s Q E hi st hQ=>by
  refine kq st.1 st.2 (x:=its[i]) (by simp [hi]) fun h' hit' hs'=>?_
  exact hQ _ h' s.toks (by simp [hi]) ⟨hit',let ⟨o,ho,r⟩:=st.2;⟨o,(hs'.2 t hne).trans ho,r⟩⟩ hs'
 done:=fun s Q E st hE=>kZ hh st.1 st.2 (by simp) hE
open AutoSeq1 (wpAny_loadPart') in
theorem X2 (l:Addr)(its:Array Value)(n:Nat)(dct:Option Addr)(sl:Array (Option Value)) :
  Meets (Builtin.«enumerate.__new__» ⟨[.type "enumerate",.ref l],[]⟩) (fun _ R s=>s.heap.get? l=some { cls:=.type "tuple",dict:=dct,data:=.seq its n,slots:=sl }/\R (.ok (.ret (.ref (s.heap.push { cls:=.type "tuple_iterator",data:=.fields #[.ref l,.int 0 0] }).objs.size))) { s with heap:=(s.heap.push { cls:=.type "tuple_iterator",data:=.fields #[.ref l,.int 0 0] }).push { cls:=.type "enumerate",data:=.fields #[.none,.bool false,.ref s.heap.objs.size,rawInt 0,.none,.none] } }):=
 .of_wp fun prog w A R s h=>by
  obtain ⟨hp,g,d,tk,os⟩:=s
  obtain ⟨hl,h⟩:=h
  have hsub:=sub_enumerate
  have hT:Heap.IsTuple (Shared.heap ⟨hp,g,d,tk,os⟩) l its:=⟨_,hl,rfl,n,rfl⟩
  wp_walk using wpAny_loadPart' hl
  refine wpAny_stack_any fun st=>wpAny_pure ?_
  split
  ·rename_i c _ _ _ _ _
   cases (c == Value.type "enumerate")
   ·wp_walk using wpAny_loadPart' hl,wpAny_pyIter_tuple hT;exact ⟨_,rfl,h⟩
   ·wp_walk using wpAny_loadPart' hl,wpAny_pyIter_tuple hT;exact ⟨_,rfl,h⟩
  ·wp_walk using wpAny_loadPart' hl,wpAny_pyIter_tuple hT;exact ⟨_,rfl,h⟩
theorem JA {P:Program}{w:World}{A:Around}{E:Value->Shared->Prop}{s:Shared}{l:Addr}{its:Array Value}{Q:Value->Shared->Prop}(hT:s.heap.IsTuple l its)
  (h:∀ h',IsEnum h' (s.heap.objs.size+1) s.heap.objs.size 0 .none->h'.IsTupleIter s.heap.objs.size l 0->(∀ b o,s.heap.get? b=some o->h'.get? b=some o)->Q (.ref (s.heap.objs.size+1)) { s with heap:=h' }) :
  wpAny (model P w) A (call (.type "enumerate") [.ref l]) Q E s:=by
 obtain ⟨⟨c,dct,dt,sl⟩,hl,hc,n,hd⟩:=hT
 replace hc:c=.type "tuple":=hc
 replace hd:dt=.seq its n:=hd
 subst hc hd
 refine callType_new F.called_enumerate (by decide) (F.typeCall_enumerate_1 _) (F.newCall_enumerate_1 _) (fun obj=>F.args_object_init_2 obj _) F.entry_enumerate_new (X2 l its n dct sl) ⟨hl,?_⟩
 have hz:(s.heap.push { cls:=.type "tuple_iterator",data:=.fields #[.ref l,.int 0 0] }).objs.size=s.heap.objs.size+1:=Heap.size_push ..
 show _/\_
 rw [hz]
 have he:IsEnum ((s.heap.push { cls:=.type "tuple_iterator",data:=.fields #[.ref l,.int 0 0] }).push { cls:=.type "enumerate",data:=.fields #[.none,.bool false,.ref s.heap.objs.size,rawInt 0,.none,.none] }) (s.heap.objs.size+1) s.heap.objs.size 0 .none:=by
  have hg:=Heap.get?_push_size (s.heap.push { cls:=.type "tuple_iterator",data:=.fields #[.ref l,.int 0 0] }) (o:={ cls:=.type "enumerate",data:=.fields #[.none,.bool false,.ref s.heap.objs.size,rawInt 0,.none,.none] }) rfl
  rw [hz] at hg;exact hg
 exact ⟨⟨_,he,rfl⟩,h _ he ⟨_,Heap.get?_push_of_some _ (Heap.get?_push_size _ rfl),rfl,rfl⟩ fun b o x=>Heap.get?_push_of_some _ (Heap.get?_push_of_some _ x)⟩
theorem XI {P:Program}{w:World}{A:Around}{E:Value->Shared->Prop}{s:Shared}{e j t:Addr}{i:Nat}{its:Array Value}{old:Value}{Q:Option Value->Shared->Prop}(hh:A.handled=none)
  (he:IsEnum s.heap e j i old) (hj:s.heap.IsTupleIter j t i) (ht:s.heap.IsTuple t its) (hx:its[i]?=none) (hQ:∀ h',Heap.ExtBut j s.heap h'->Q none { s with heap:=h' }):wpAny (model P w) A (pyNext (.ref e)) Q E s:=by
 have hT:s.TypeIs (.ref e) "enumerate":=⟨_,he,rfl⟩
 unfold pyNext
 refine wpAny_bind (wpAny_attempt (wpAny_callSpecial?_slot (name:=Str.ofString "__next__") hT F.slot_enumerate_next (wpAny_call_entry F.slot_enumerate_next hT F.entry_enumerate_next ?_ (F.args_enumerate_next_1 _))))
 refine wpAny_bind (m:=field (.ref e) 2) (wpAny_field he rfl (x:=.ref j) rfl ?_);refine wpAny_bind (kZ hh hj ht hx fun h' x he' hx'=>?_)
 obtain ⟨o,ho,hc⟩:=hx'
 refine wpAny_bind (wpAny_isInstance (T:="StopIteration") (b:=true) ⟨o,ho,hc⟩ isSubtype_stop ?_);exact wpAny_pure (hQ _ he')
noncomputable def EO (K:PySem.W.Frag)(a:Addr):It:=
 ⟨fun i H=>∃ xs x,SqT K H a xs/\xs[i]?=some x,fun i H y H'=>∃ p x,H p=none/\y=.ref p/\(∀ xs,SqT K H a xs->xs[i]?=some x)/\H'=upd H p (.tup [.int i,x]),fun i H=>∃ xs,SqT K H a xs/\xs.length<=i⟩
theorem Ki {P:Program}{w:World}{K:PySem.W.Frag}{es:List Expr}{kt:Nat}{tp:Pos}(a e it:Addr)(hei:e ≠ it)(hea:e ≠ a)(hai:a ≠ it):Ql P w K (.Tuple es kt tp) (EO K a) [e,it] e (fun i h=>(∃ old,IsEnum h e it (i:Nat) old)/\h.IsTupleIter it a i) where
 mem:=by simp
 obj:=fun i h st b hb=>by
  obtain ⟨⟨old,he⟩,⟨o,e1,c,d⟩⟩:=st
  rcases List.mem_cons.mp hb with rfl | hb
  ·exact ⟨_,he,fun v z=>by have z':Data.fields _=Data.cell v:=z;cases z'⟩
  ·have e2:b=it:=by simpa using hb
   subst e2
   exact ⟨o,e1,fun v z=>by rw [d] at z;cases z⟩
 keep:=fun i h h' st k=>by
  obtain ⟨⟨old,he⟩,st⟩:=st
  exact ⟨⟨old,k e (by simp) _ he⟩,st.at fun o e=>k it (by simp) o e⟩
 item:=by
  intro X hP hw hK hc i pins s σ H E I hf st hg
  subst hP hw hK
  obtain ⟨⟨old,he⟩,st⟩:=st
  obtain ⟨xs,x,hq,hx⟩:=hg
  obtain ⟨its,rv,p,hz⟩:=I.tuple hq
  obtain ⟨u,hu,ru⟩:=rv.get hx
  have hlt:i<its.toArray.size:=by
   have:=(List.getElem?_eq_some_iff.mp hu).1
   simpa using this
  refine wpAny_pyNext_enum_itemD (XG (A:=X.A.in1) (I.ok.hd hc) it a hai its.toArray) he ⟨st,p⟩ hlt hei (by simp [hei,hea]) fun x' h1 tk hP heo hit1 ht1 hz1 hk1=>?_
  have hxu:x'=u:=by
   have h1':its[i]?=some x':=by simpa using hP
   rw [hu] at h1';cases h1';rfl
  subst hxu
  refine ⟨.ref s.heap.objs.size,rfl,wpAny_letOwnedTupleGo_enum heo fun h2 he2 hs2=>?_⟩
  replace hs2:Heap.SameBut e h1 h2:=hs2
  have elt:e<s.heap.objs.size:=Heap.lt_size he
  have ht2:=(hs2.2 _ (Nat.ne_of_gt elt)).trans ht1
  have I2:Inv X pins σ (upd H s.heap.objs.size (.tup [.int i,x])) { s with heap:=h2,toks:=tk+1 }:=by
   refine I.yieldTup (us:=[.int i tk,x']) hf (fun b o hb q=>?_) (Nat.le_refl _) ht2 (.cons ⟨_,rfl⟩ (.cons ru .nil)) (by show 2<=sizeLine;decide)
   have n1:b ≠ e:=fun z=>hb (by simp [z])
   have n2:b ≠ it:=fun z=>hb (by simp [z])
   exact (hs2.2 b n1).trans (hk1 b o n1 n2 q)
  refine ⟨.ref s.heap.objs.size,_,I2,rfl,⟨s.heap.objs.size,x,I.hok.fresh (Nat.le_refl _),rfl,fun ys hy=>by rw [I.tuple_inj hy hq];exact hx,rfl⟩,⟨⟨_,by simpa using he2⟩,hit1.1.extBut hs2.extBut (Ne.symm hei)⟩,fun b hb=>?_⟩
  have hlt:b<s.heap.objs.size:=by
   rcases List.mem_cons.mp hb with rfl | hb
   ·exact elt
   ·have e2:b=it:=by simpa using hb
    subst e2
    obtain ⟨o,e1,_⟩:=st
    exact Heap.lt_size e1
  rw [zk (Nat.ne_of_lt hlt)]
  exact (hf b hb).1
 done:=by
  intro X hP hw hK hc i pins s σ H E I hf st hg
  subst hP hw hK
  obtain ⟨⟨old,he⟩,st⟩:=st
  obtain ⟨xs,hq,hx⟩:=hg
  obtain ⟨its,rv,p,hz⟩:=I.tuple hq
  obtain ⟨f0,f1,f2,f3,f4,f5⟩:=hf it (by simp)
  have hl:=rv.length
  exact XI (I.ok.hd hc) he st p (by simp;walk_at "o") fun h' eb=>⟨rfl,I.turned (t':=s.toks) (fun b o hb e=>eb b o hb e) f0 f1 f3 f4 f5⟩
 self:=fun _ _ _ _ _ st h=>by
  obtain ⟨⟨old,he⟩,_⟩:=st
  exact wpAny_pyIter_enum he h
section
variable {X:Cx}{es:List Expr}{kt:Nat}{tp:Pos}
noncomputable def ZE (K:PySem.W.Frag)(ta:TA):TI:=fun σ H R=>ta σ H fun vs H1=>∃ a,vs=[.ref a]/\(((∃ xs,SqL K H1 a xs)/\R (Ite K a) H1) \/ ((∃ xs,SqT K H1 a xs)/\R (EO K a) H1))
theorem wA {e:Expr}{ta:TA}{p pos:Pos}(hg:Gl X "enumerate")(hm:X.mg "enumerate"=none)(ha:PA X [e] ta)(hs:starEach [e] X.env=[(false,eval e X.env)]:=by rfl) :
  PI X (.Tuple es kt tp) (.Call (.Name "enumerate" p) [e] [] pos) (ZE X.K ta):=by
 intro pins s σ H R I h
 refine Call_ (kJ I hg hm (vR) (PyProof.Rows.callWith_type1 (thn (ha pos pins s σ H _ I h) fun us s1 ⟨vs,H1,I1,r1,q1⟩=>?_) hs rfl))
 obtain ⟨a,e,q⟩:=q1
 subst e
 obtain ⟨u,rfl,ru⟩:=jK r1
 cases ru
 have hb':∀ b ∈ [s1.heap.objs.size+1,s1.heap.objs.size],s1.heap.objs.size<=b:=by
  intro b hb
  simp only [List.mem_cons,List.not_mem_nil,or_false] at hb
  walk_at "o"
 rcases q with ⟨⟨xs,hq⟩,q⟩ | ⟨⟨xs,hq⟩,q⟩
 ·obtain ⟨its,rv,pl,hz⟩:=I1.list hq
  refine call_enumerate_list pl.isList fun h' he hit hsz hk=>wpAny_pyIter_enum he ?_
  have I2:Inv X pins σ H1 { s1 with heap:=h' }:=I1.kept (t':=s1.toks) hk
  exact ⟨s1.heap.objs.size+1,[s1.heap.objs.size+1,s1.heap.objs.size],_,_,H1,rfl,I2,Za a _ _ (Nat.succ_ne_self _),⟨⟨_,he⟩,hit⟩,fun b hb=>I1.fpOk (hb' b hb) (I1.hok.fresh (hb' b hb)),q⟩
 ·obtain ⟨its,rv,pl,hz⟩:=I1.tuple hq
  have alt:a<s1.heap.objs.size:=by obtain ⟨o,e,_⟩:=pl;exact Heap.lt_size e
  refine JA pl fun h' he hit hk=>wpAny_pyIter_enum he ?_
  have I2:Inv X pins σ H1 { s1 with heap:=h' }:=I1.kept (t':=s1.toks) hk
  exact ⟨s1.heap.objs.size+1,[s1.heap.objs.size+1,s1.heap.objs.size],_,_,H1,rfl,I2,Ki a (s1.heap.objs.size+1) s1.heap.objs.size (Nat.succ_ne_self _) (Nat.ne_of_gt (Nat.lt_succ_of_lt alt)) (Nat.ne_of_lt alt),⟨⟨_,he⟩,hit⟩,fun b hb=>I1.fpOk (hb' b hb) (I1.hok.fresh (hb' b hb)),q⟩
end
theorem EG {K:PySem.W.Frag}{H H':Hp}{a:Addr}{xs:List V}(h:SqT K H a xs)(e:Kp [] H H'):SqT K H' a xs:=by
 rcases h with (h | ⟨o,h⟩) | h
 ·exact .inl (.inl (e _ _ (by simp) h))
 ·exact .inl (.inr ⟨o,e _ _ (by simp) h⟩)
 ·exact .inr h
theorem D8 {K:PySem.W.Frag}{H H':Hp}{a:Addr}{xs:List V}(h:SqL K H a xs)(e:Kp [] H H'):SqL K H' a xs:=by
 rcases h with (h | ⟨o,h⟩) | h
 ·exact .inl (.inl (e _ _ (by simp) h))
 ·exact .inl (.inr ⟨o,e _ _ (by simp) h⟩)
 ·exact .inr h
noncomputable def ME (t:TE):Prop:=∀ σ H Q Q',(∀ v H1,Q v H1->Q' v H1)->t σ H Q->t σ H Q'
noncomputable def MT (t:TT):Prop:=∀ σ H Q Q',(∀ v H1,Q v H1->Q' v H1)->t σ H Q->t σ H Q'
noncomputable def MR (r:R2):Prop:=∀ x y H Q Q',(∀ z H1,Q z H1->Q' z H1)->r x y H Q->r x y H Q'
theorem WA {i:Nat}:ME (Y3 i):=fun _ _ _ _ hq ⟨v,e,h⟩=>⟨v,e,hq _ _ h⟩
theorem GE {r:R2}{ta tb:TE}(hr:MR r)(ha:ME ta)(hb:ME tb):ME (tOp r ta tb):=fun _ _ _ _ hq h=>ha _ _ _ _ (fun _ _ h1=>hb _ _ _ _ (fun _ _ h2=>hr _ _ _ _ _ hq h2) h1) h
theorem B7 {t:TE}(h:ME t):MT (Ky t):=fun _ _ _ _ hq q=>h _ _ _ _ (fun _ _ ⟨k,e,z⟩=>⟨k,e,hq _ _ z⟩) q
theorem WX {p:Nat->Prop}:∀ n,p n->∃ m,p m/\∀ j,j<m->¬ p j:=by
 intro n
 induction n using Nat.strongRecOn with
 | _ n ih=>
  intro h
  by_cases hx:∃ j,j<n/\p j
  ·obtain ⟨j,hj,pj⟩:=hx
   exact ih j hj pj
  ·exact ⟨n,h,fun j hj pj=>hx ⟨j,hj,pj⟩⟩
noncomputable def jV (os:List Int)(p:Int)(m:Nat):Prop:=1<=m/\itn os m p=p/\∀ j,1<=j->j<m->itn os j p ≠ p
theorem jV.uniq {os:List Int}{p:Int}{m m':Nat}(h:jV os p m)(h':jV os p m'):m=m':=by
 obtain ⟨a1,a3,a4⟩:=h
 obtain ⟨b1,b3,b4⟩:=h'
 rcases Nat.lt_trichotomy m m' with z | z | z
 ·exact absurd a3 (b4 m a1 z)
 ·exact z
 ·exact absurd b3 (a4 m' b1 z)
theorem kT {n:Nat}{os:List Int}(h:zB n os){p:Int}(p0:0<=p)(p1:p<n):∃ m,jV os p m/\m<=n:=by
 obtain ⟨M,h1,h2,h3⟩:=K9 h p0 p1
 obtain ⟨m,⟨m1,m2⟩,m3⟩:=WX (p:=fun k=>1<=k/\itn os k p=p) M ⟨h1,h3⟩
 refine ⟨m,⟨m1,m2,fun j j1 jm e=>m3 j jm ⟨j1,e⟩⟩,?_⟩
 rcases Nat.lt_or_ge M m with z | z
 ·exact absurd ⟨h1,h3⟩ (m3 M z)
 ·walk_at "o"
open Classical in
noncomputable def per (os:List Int)(p:Int):Nat:=if h:∃ m,jV os p m then Classical.choose h else 0
theorem jV.per {os:List Int}{p:Int}{m:Nat}(h:jV os p m):per os p=m:=by
 have hx:∃ m,jV os p m:=⟨m,h⟩
 unfold L2.per
 rw [dif_pos hx]
 exact (Classical.choose_spec hx).uniq h
noncomputable def itl (os:List Int)(p:Int)(k:Nat):List Int:=(List.range k).map fun i=>itn os i p
theorem Z5 (os:List Int)(p:Int)(k:Nat):itl os p (k+1)=itl os p k ++ [itn os k p]:=by
 unfold itl;rw [List.range_succ,List.map_append];rfl
theorem qz (os:List Int)(p:Int)(k:Nat):(itl os p k).length=k:=by simp [itl]
theorem qd {os:List Int}{p:Int}{k:Nat}{x:Int}:x ∈ itl os p k ↔ ∃ i,i<k/\itn os i p=x:=by
 unfold itl
 rw [List.mem_map]
 constructor
 ·rintro ⟨i,hi,e⟩
  exact ⟨i,by simpa using hi,e⟩
 ·rintro ⟨i,hi,e⟩
  exact ⟨i,by simpa using hi,e⟩
noncomputable def zH (os:List Int)(p:Int):List Int:=itl os p (per os p)
noncomputable def Rch (os:List Int)(q x:Int):Prop:=∃ k,itn os k q=x
theorem Rch.refl {os:List Int}{p:Int}:Rch os p p:=⟨0,rfl⟩
theorem Rch.trans {os:List Int}{p q r:Int}(a:Rch os p q)(b:Rch os q r):Rch os p r:=by
 obtain ⟨i,rfl⟩:=a
 obtain ⟨j,rfl⟩:=b
 exact ⟨j+i,jQ os p i j⟩
theorem Zx {os:List Int}{p:Int}{m:Nat}(h:itn os m p=p):∀ k,itn os (k * m) p=p
 | 0=>by rw [Nat.zero_mul];rfl
 | k+1=>by rw [Nat.succ_mul,Nat.add_comm,jQ,Zx h k,h]
theorem A5 {os:List Int}{p:Int}{m:Nat}(h:itn os m p=p)(k:Nat):itn os k p=itn os (k % m) p:=by
 have e:k=k % m+(k / m) * m:=by rw [Nat.mul_comm];exact (Nat.mod_add_div k m).symm
 conv=>lhs;rw [e]
 rw [jQ,Zx h]
theorem Rch.symm {n:Nat}{os:List Int}(h:zB n os){p q:Int}(p0:0<=p)(p1:p<n)(a:Rch os p q):Rch os q p:=by
 obtain ⟨k,rfl⟩:=a
 obtain ⟨M,h1,_,h3⟩:=K9 h p0 p1
 refine ⟨(k+1) * M - k,?_⟩
 have hle:k<=(k+1) * M:=Nat.le_trans (Nat.le_succ k) (Nat.le_mul_of_pos_right _ h1)
 rw [<- jQ,Nat.sub_add_cancel hle,Zx h3]
theorem Rch.mem_ring {os:List Int}{p x:Int}{m:Nat}(h:jV os p m):Rch os p x ↔ x ∈ itl os p m:=by
 rw [qd]
 constructor
 ·rintro ⟨k,rfl⟩
  exact ⟨k % m,Nat.mod_lt _ h.1,(A5 h.2.1 k).symm⟩
 ·rintro ⟨i,_,e⟩
  exact ⟨i,e⟩
noncomputable def yY (os:List Int)(p:Nat):Prop:=∀ q:Nat,q<p->¬ Rch os (q:Int) (p:Int)
open Classical in
noncomputable def zo (os:List Int):Nat->List (List Int)
 | 0=>[]
 | i+1=>zo os i ++ if yY os i/\1<per os (i:Int) then [zH os (i:Int)] else []
noncomputable def zZ (os:List Int)(i:Nat)(x:Int):Prop:=∃ q:Nat,q<i/\Rch os (q:Int) x
theorem zZ.succ {os:List Int}{i:Nat}{x:Int}:zZ os (i+1) x ↔ zZ os i x \/ Rch os (i:Int) x:=by
 constructor
 ·rintro ⟨q,hq,r⟩
  by_cases e:q=i
  ·subst e;exact .inr r
  ·exact .inl ⟨q,by walk_at "o",r⟩
 ·rintro (⟨q,hq,r⟩ | r)
  ·exact ⟨q,by walk_at "o",r⟩
  ·exact ⟨i,by walk_at "o",r⟩
theorem qX {os:List Int}{i:Nat}:yY os i ↔ ¬ zZ os i (i:Int):=by
 constructor
 ·rintro h ⟨q,hq,r⟩;exact h q hq r
 ·intro h q hq r;exact h ⟨q,hq,r⟩
theorem zZ.step {n:Nat}{os:List Int}(h:zB n os){i:Nat}(hi:i<n)(hs:zZ os i (i:Int)){x:Int}:zZ os (i+1) x ↔ zZ os i x:=by
 rw [zZ.succ]
 constructor
 ·rintro (z | z)
  ·exact z
  ·obtain ⟨q,hq,r⟩:=hs
   exact ⟨q,hq,r.trans z⟩
 ·exact .inl
theorem zZ.apart {n:Nat}{os:List Int}(h:zB n os){i:Nat}(hi:i<n)(hs:¬ zZ os i (i:Int)){x:Int}(r:Rch os (i:Int) x):¬ zZ os i x:=by
 rintro ⟨q,hq,rq⟩
 exact hs ⟨q,hq,rq.trans (r.symm h (by walk_at "o") (by walk_at "o"))⟩
theorem vF (os:List Int):∀ i,(zo os i).length<=i
 | 0=>Nat.le_refl _
 | i+1=>by
  unfold zo
  rw [List.length_append]
  have:=vF os i
  split <;> simp <;> walk_at "o"
theorem ka {n:Nat}{os:List Int}(h:zB n os){r:List Int}:∀ {i:Nat},i<=n->r ∈ zo os i->1<r.length/\r.length<=n
 | 0,_,hr=>by simp [zo] at hr
 | i+1,hi,hr=>by
  unfold zo at hr
  rcases List.mem_append.mp hr with z | z
  ·exact ka h (by walk_at "o") z
  ·by_cases c:yY os i/\1<per os (i:Int)
   ·rw [if_pos c] at z
    rw [List.mem_singleton.mp z]
    obtain ⟨m,hm,hle⟩:=kT h (p:=(i:Int)) (by walk_at "o") (by walk_at "o")
    unfold zH
    rw [qz]
    have:=hm.per
    walk_at "o"
   ·rw [if_neg c] at z;cases z
theorem BC (n:Nat){p:Int}(p0:0<=p)(p1:p<n):itn (zr 0 1 n) 1 p=p:=by
 show (zr 0 1 n).getD p.toNat 0=p
 rw [j4 n (by walk_at "o")]
 walk_at "o"
theorem xN (n:Nat):∀ i,i<=n->zo (zr 0 1 n) i=[]
 | 0,_=>rfl
 | i+1,hi=>by
  unfold zo
  rw [xN n i (by walk_at "o"),List.nil_append]
  have hp:jV (zr 0 1 n) (i:Int) 1:=⟨Nat.le_refl _,BC n (by walk_at "o") (by walk_at "o"),fun j h1 h2=>by walk_at "o"⟩
  rw [if_neg (by rw [hp.per];rintro ⟨_,z⟩;walk_at "o")]
noncomputable def Mkd (os:List Int)(mk:Nat):Nat->Int->Prop
 | 0,_=>False
 | i+1,x=>Mkd os mk i x \/ (¬ Mkd os mk i (i:Int)/\wkE os (i:Int)=(i:Int)/\Rch os (i:Int) x/\x<(mk:Int))
open Classical in
noncomputable def cnt (os:List Int)(mk:Nat)(i:Nat):Int:=if Mkd os mk i (i:Int) then 0 else ((wkM os (i:Int):Nat):Int)
noncomputable def iLT (K:PySem.W.Frag)(tl:TE):TI:=fun σ H R=>tl σ H fun x H1=>∃ a,x=.ref a/\(((∃ xs,SqL K H1 a xs)/\R (Itl K a) H1) \/ ((∃ xs,SqT K H1 a xs)/\R (Itt K a) H1))
theorem jd {X:Cx}{tg:Expr}{l:Expr}{tl:TE}(hl:PE X l tl):PI X tg l (iLT X.K tl):=by
 intro pins s σ H R I h
 refine thn (hl pins s σ H _ I h) fun v s1 ⟨x,H1,I1,r1,q1⟩=>?_
 obtain ⟨a,e,q⟩:=q1
 subst e
 cases r1
 have fo:∀ b ∈ [s1.heap.objs.size],yZ X pins H1 b:=fun b hb=>by
  have e:b=s1.heap.objs.size:=by simpa using hb
  subst e
  exact I1.fpOk (Nat.le_refl _) (I1.hok.fresh (Nat.le_refl _))
 rcases q with ⟨⟨xs,hq⟩,q⟩ | ⟨⟨xs,hq⟩,q⟩
 ·obtain ⟨its,rv,p,hz⟩:=I1.list hq
  refine wpAny_pyIter_list p.isList ?_
  exact ⟨s1.heap.objs.size,[s1.heap.objs.size],_,_,H1,rfl,I1.kept (t':=s1.toks) fun b o e=>Heap.get?_push_of_some _ e,wu a _,⟨_,Heap.get?_push_size _ rfl,rfl,rfl⟩,fo,q⟩
 ·obtain ⟨its,rv,p,hz⟩:=I1.tuple hq
  refine wpAny_pyIter_tuple (show s1.heap.IsTuple a its.toArray from p) ?_
  exact ⟨s1.heap.objs.size,[s1.heap.objs.size],_,_,H1,rfl,I1.kept (t':=s1.toks) fun b o e=>Heap.get?_push_of_some _ e,Kh a _,⟨_,Heap.get?_push_size _ rfl,rfl,rfl⟩,fo,q⟩
theorem VB {n:Nat}{os bs:List Int}(ho:zB n os)(h:qF os bs){x:Int}(x0:0<=x)(x1:x<n):nxt os (nxt bs x)=x:=by
 obtain ⟨i,hi,e1,e2⟩:=qF.at ho h (j:=x.toNat) (by walk_at "o")
 show os.getD (bs.getD x.toNat 0).toNat 0=x
 rw [e2,Int.toNat_natCast,e1]
 walk_at "o"
open Classical in
theorem KM {n:Nat}{os:List Int}(h:zB n os):∃ bs,qF os bs:=by
 refine ⟨(List.range n).map fun (j:Nat)=>if hx:∃ i:Nat,i<n/\os.getD i 0=(j:Int) then ((Classical.choose hx:Nat):Int) else 0,?_,fun i hi=>?_⟩
 ·rw [List.length_map,List.length_range,h.1]
 ·have hi':i<n:=by rw [<- h.1];exact hi
  have hb:=h.getD hi'
  have hl:(os.getD i 0).toNat<n:=by walk_at "o"
  rw [qe (by rw [List.length_map,List.length_range];exact hl),List.getElem_map,List.getElem_range]
  have hx:∃ i':Nat,i'<n/\os.getD i' 0=(((os.getD i 0).toNat:Nat):Int):=⟨i,hi',by walk_at "o"⟩
  rw [dif_pos hx]
  obtain ⟨c1,c2⟩:=Classical.choose_spec hx
  have:Classical.choose hx=i:=h.inj c1 hi' (by rw [c2];walk_at "o")
  walk_at "o"
section
variable {X:Cx}
theorem vq:∀ {ns:List Int} {us:List Value},zu (ns.map V.int) us->∃ ps:List (Int × Tok),us=ps.map (fun p=>Value.int p.1 p.2)/\ps.map (·.1)=ns
 | [],_,h=>by cases h;exact ⟨[],rfl,rfl⟩
 | n :: ns,_,h=>by
  cases h with
  | cons r rs=>
   obtain ⟨ps,e1,e2⟩:=vq rs
   obtain ⟨t,rfl⟩:=r
   exact ⟨(n,t) :: ps,by rw [e1];rfl,by rw [<- e2];rfl⟩
theorem WN {ps:List (Int × Tok)}{i:Nat}(h:i<ps.length):numAt ps.toArray i=(ps.map (·.1)).getD i 0:=by
 unfold numAt
 rw [List.getD_eq_getElem?_getD,List.getElem?_map,List.getElem?_toArray]
end
section
variable {X:Cx}
end
theorem yD {X:Cx}:MtR X "list.extend" vm:=X3
section
variable {prog:Program}{w:World}{A:Around}{R:Result->Shared->Prop}{s:Shared}
end
noncomputable def CL (J:It)(g:TG)(tt:TT)(tr:St->Hp->(St->Hp->Prop)->Prop)(N:St->Hp->Prop)(σ:St)(H:Hp):Prop:=∃ W:Nat->Nat->St->Hp->Prop,(∃ m,W 0 m σ H)/\∀ i m τ H2,W i m τ H2 ->
 (J.stop i H2/\N τ H2) \/ (J.go i H2/\∃ N1:St->Hp->Prop,(∀ τ' H',N1 τ' H'->∃ m',m'<m/\W (i+1) m' τ' H')/\∀ x H',J.yld i H2 x H'->g x τ H' fun τ2 H3=>tt τ2 H3 fun b H4=>
  if b=true then tr τ2 H4 N1 else N1 τ2 H4)
noncomputable abbrev TR:=St->Hp->(St->Hp->Prop)->Prop
noncomputable def JU (te:TE)(D:Addr):TR:=fun σ H N=>te σ H fun v H5=>∃ ys,H5 D=some (.lst ys)/\ys.length<sizeLine/\N σ (upd H5 D (.lst (ys ++ [v])))
noncomputable def DZ (wi:TI)(g:TG)(tt:TT)(tr:Addr->TR)(D:Addr):TR:=fun σ H N=>wi σ H fun J H1=>CL J g tt (tr D) N σ H1
section
variable {C:Cx}{elt tg iter:Expr}{ifs:List Expr}{gens:List Comprehension}{scope:Scope}{pos:Pos}{d:Nat}{D:Addr}{g:TG}{tt:TT}{te:TE}{tr:TR}
end
noncomputable def Wt (ts:List Nat)(wi:TI)(g:TG)(tt:TT)(tr:Addr->TR):TE:=fun σ H Q=>wi σ H fun J H1=>∀ D,H1 D=none->CL J g tt (tr D) (fun _ H2=>Q (.ref D) H2) (clr ts σ) (upd H1 D (.lst []))
section
variable {X:Cx}{ts:List Nat}{scope:Scope}{tg iter elt:Expr}{ifs:List Expr}{zx:List Comprehension}{wi:TI}{g:TG}{tt:TT}{tr:Addr->TR}{pos:Pos}
end
theorem Yj {ts:List Nat}{wi:TI}{g:TG}{tt:TT}{tr:Addr->TR}{σ:St}{H:Hp}{Q:VK} :
  Wt ts wi g tt tr σ H Q=wi σ H (fun J H1=>∀ D,H1 D=none->CL J g tt (tr D) (fun _ H2=>Q (.ref D) H2) (clr ts σ) (upd H1 D (.lst []))):=rfl
theorem XW {wi:TI}{g:TG}{tt:TT}{tr:Addr->TR}{D:Addr}{σ:St}{H:Hp}{N:St->Hp->Prop}:DZ wi g tt tr D σ H N=wi σ H (fun J H1=>CL J g tt (tr D) N σ H1):=rfl
theorem XO {te:TE}{D:Addr}{σ:St}{H:Hp}{N:St->Hp->Prop}:JU te D σ H N=te σ H (fun v H5=>∃ ys,H5 D=some (.lst ys)/\ys.length<sizeLine/\N σ (upd H5 D (.lst (ys ++ [v])))):=rfl
section
variable {P:Program}{w:World}{A:Around}{E:Value->Shared->Prop}{it l:Addr}{items:Array Value}
end
section
variable {X:Cx}{pos:Pos}
end
noncomputable def rep (o:Nat)(G:List Int):List Int:=(List.range (o * G.length)).map fun (i:Nat)=>((i / G.length * G.length:Nat):Int)+G.getD (i % G.length) 0
section
variable {P:Program}{w:World}{A:Around}{E:Value->Shared->Prop}{s:Shared}{z TI TO i1 i2 l1 l2:Addr}{k:Nat}{xs ys:Array Value}{x y a b:Value}{Q:Option Value->Shared->Prop}
theorem Xx (D:ZipApart z TI TO i1 i2 l1 l2)(hz:IsZip s.heap z TI TO .none)(hTI:IsPair s.heap TI (.ref i1) (.ref i2))(hTO:IsPair s.heap TO a b)(h1:s.heap.IsTupleIter i1 l1 k)(h2:s.heap.IsTupleIter i2 l2 k)(p1:s.heap.IsTuple l1 xs)(p2:s.heap.IsTuple l2 ys)(hx:xs[k]?=some x)(hy:ys[k]?=some y)
  (hQ:∀ h',IsZip h' z TI TO (rawInt s.heap.objs.size)->IsPair h' TO x y->h'.IsTupleIter i1 l1 (k+1)->h'.IsTupleIter i2 l2 (k+1)->IsPair h' s.heap.objs.size x y->h'.objs.size=s.heap.objs.size+1->(∀ c o,c ≠ z->c ≠ TO->c ≠ i1->c ≠ i2->s.heap.get? c=some o->h'.get? c=some o)->Q (some (.ref s.heap.objs.size)) { s with heap:=h' }) :
  wpAny (model P w) A (pyNext (.ref z)) Q E s:=by
 have hT:s.TypeIs (.ref z) "zip":=⟨_,hz,rfl⟩
 unfold pyNext
 refine wpAny_bind (wpAny_attempt (wpAny_callSpecial?_slot (name:=Str.ofString "__next__") hT F.slot_zip_next (wpAny_call_entry F.slot_zip_next hT F.entry_zip_next ?_ (F.args_zip_next_1 _))))
 refine wpAny_bind (m:=field (.ref z) 2) (wpAny_field hz rfl (x:=.bool false) rfl ?_)
 refine wpAny_bind (m:=field (.ref z) 3) (wpAny_field hz rfl (x:=.ref TI) rfl ?_)
 refine wpAny_bind (m:=seqItems? (.ref TI)) (wpAny_seqItems hTI rfl ?_)
 refine wpAny_bind (m:=Builtin.SmallTypes.ownedTupleIsFree (.ref z)) ?_
 unfold Builtin.SmallTypes.ownedTupleIsFree
 refine wpAny_bind (wpAny_field hz rfl (x:=.none) rfl (wpAny_pure ?_))
 refine wpAny_bind (m:=rule "zip.__next__.owned-tuple-again") (wpAny_rule ?_)
 refine wpAny_bind (m:=field (.ref z) 4) (wpAny_field hz rfl (x:=.ref TO) rfl ?_)
 refine wpAny_bind (m:=setField (.ref z) 0 .ellipsis) (wpAny_setField hz rfl (by simp) ?_)
 have sb1:=Heap.SameBut.update s.heap z (Obj.mapFields fun x_1=>x_1.setIfInBounds 0 Value.ellipsis)
 have g1:(s.heap.update z (Obj.mapFields fun x_1=>x_1.setIfInBounds 0 Value.ellipsis)).get? z=some { cls:=Value.type "zip",data:=Data.fields #[.ellipsis,Value.bool false,Value.bool false,Value.ref TI,Value.ref TO] }:=Heap.get?_update_self _ hz (Obj.isFreed_of_fields (Obj.data_mapFields rfl _))
 generalize s.heap.update z (Obj.mapFields fun x_1=>x_1.setIfInBounds 0 Value.ellipsis)=h1' at *
 refine wpAny_bind ?_
 rw [show (#[Value.ref i1,Value.ref i2].toList.zipIdx:List (Value × Nat))=[(.ref i1,0),(.ref i2,1)] from rfl,List.forIn_cons]
 dsimp only
 have it1:h1'.IsTupleIter i1 l1 k:=by obtain ⟨o,ho,r⟩:=h1;exact ⟨o,(sb1.2 i1 D.i1z).trans ho,r⟩
 have tp1:h1'.IsTuple l1 xs:=by obtain ⟨o,ho,r⟩:=p1;exact ⟨o,(sb1.2 l1 D.l1z).trans ho,r⟩
 refine wpAny_bind (wpAny_bind (wpAny_onRaise ?_))
 show wpAny _ _ (Builtin.SmallTypes.nextOf (.ref i1) >>= fun v=>pure (some v)) _ _ _
 refine wpAny_bind (kq it1 tp1 hx fun h2' it2 sb2=>wpAny_pure ?_)
 dsimp only
 have gTO2:IsPair h2' TO a b:=((sb2.2 TO D.TOi1).trans (sb1.2 TO D.TOz)).trans hTO
 refine wpAny_bind (wpAny_seqItems gTO2 rfl ?_)
 dsimp only
 refine wpAny_bind (wpAny_updateSeq_pair gTO2 fun h3' g3 sb3=>?_)
 refine wpAny_bind (wpAny_letGo (wpAny_pure ?_))
 dsimp only
 have g3':IsPair h3' TO x b:=g3
 have it3:h3'.IsTupleIter i2 l2 k:=by obtain ⟨o,ho,r⟩:=h2;exact ⟨o,(((sb3.2 i2 (Ne.symm D.TOi2)).trans (sb2.2 i2 (Ne.symm D.i12))).trans (sb1.2 i2 D.i2z)).trans ho,r⟩
 have tp3:h3'.IsTuple l2 ys:=by obtain ⟨o,ho,r⟩:=p2;exact ⟨o,(((sb3.2 l2 D.l2TO).trans (sb2.2 l2 D.l2i1)).trans (sb1.2 l2 D.l2z)).trans ho,r⟩
 rw [List.forIn_cons]
 refine wpAny_bind (wpAny_bind (wpAny_onRaise ?_))
 show wpAny _ _ (Builtin.SmallTypes.nextOf (.ref i2) >>= fun v=>pure (some v)) _ _ _
 refine wpAny_bind (kq it3 tp3 hy fun h4' it4 sb4=>wpAny_pure ?_)
 dsimp only
 have gTO4:IsPair h4' TO x b:=(sb4.2 TO D.TOi2).trans g3'
 refine wpAny_bind (wpAny_seqItems gTO4 rfl ?_)
 dsimp only
 refine wpAny_bind (wpAny_updateSeq_pair gTO4 fun h5' g5 sb5=>?_)
 refine wpAny_bind (wpAny_letGo (wpAny_pure ?_))
 dsimp only
 have g5':IsPair h5' TO x y:=g5
 rw [List.forIn_nil]
 refine wpAny_pure ?_
 dsimp only
 refine wpAny_bind (wpAny_seqItems g5' rfl ?_)
 dsimp only
 have sz5:h5'.objs.size=s.heap.objs.size:=((((sb5.1).trans sb4.1).trans sb3.1).trans sb2.1).trans sb1.1
 refine wpAny_bind (wpAny_newTuple ?_ (by show 2<=sizeLine;decide))
 have gz5:h5'.get? z=some { cls:=Value.type "zip",data:=Data.fields #[.ellipsis,Value.bool false,Value.bool false,Value.ref TI,Value.ref TO] }:=((((sb5.2 z (Ne.symm D.TOz)).trans (sb4.2 z (Ne.symm D.i2z))).trans (sb3.2 z (Ne.symm D.TOz))).trans (sb2.2 z (Ne.symm D.i1z))).trans g1
 have zlt:z<h5'.objs.size:=Heap.lt_size gz5
 have g6:(h5'.push { cls:=Value.type "tuple",data:=Data.seq #[x,y] }).get? z=_:=Heap.get?_push_of_some _ gz5
 have n6:(h5'.push { cls:=Value.type "tuple",data:=Data.seq #[x,y] }).get? h5'.objs.size=some { cls:=Value.type "tuple",data:=Data.seq #[x,y] }:=Heap.get?_push_size _ rfl
 have ex6:∀ c o,h5'.get? c=some o->(h5'.push { cls:=Value.type "tuple",data:=Data.seq #[x,y] }).get? c=some o:=fun c o e=>Heap.get?_push_of_some _ e
 have sz6:(h5'.push { cls:=Value.type "tuple",data:=Data.seq #[x,y] }).objs.size=h5'.objs.size+1:=Heap.size_push ..
 show wpAny _ _ (Builtin.SmallTypes.ownedTupleHandOut (.ref z) (.ref h5'.objs.size) >>= _) _ _ { s with heap:=h5'.push { cls:=Value.type "tuple",data:=Data.seq #[x,y] } }
 generalize h5'.push { cls:=Value.type "tuple",data:=Data.seq #[x,y] }=h6' at *
 unfold Builtin.SmallTypes.ownedTupleHandOut
 refine wpAny_bind (wpAny_bind (wpAny_setField g6 rfl (by simp) (wpAny_setField (Heap.get?_update_self _ g6 (Obj.isFreed_of_fields (Obj.data_mapFields rfl _))) rfl (by simp) ?_)))
 have sb7:=Heap.SameBut.update h6' z (Obj.mapFields fun x_1=>x_1.setIfInBounds 0 (rawInt h5'.objs.size))
 have g7:(h6'.update z (Obj.mapFields fun x_1=>x_1.setIfInBounds 0 (rawInt h5'.objs.size))).get? z=some { cls:=Value.type "zip",data:=Data.fields #[rawInt h5'.objs.size,Value.bool false,Value.bool false,Value.ref TI,Value.ref TO] }:=Heap.get?_update_self _ g6 (Obj.isFreed_of_fields (Obj.data_mapFields rfl _))
 dsimp only
 generalize h6'.update z (Obj.mapFields fun x_1=>x_1.setIfInBounds 0 (rawInt h5'.objs.size))=h7' at *
 have sb8:=Heap.SameBut.update h7' z (Obj.mapFields fun x_1=>x_1.setIfInBounds 1 (Value.bool false))
 have g8:(h7'.update z (Obj.mapFields fun x_1=>x_1.setIfInBounds 1 (Value.bool false))).get? z=some { cls:=Value.type "zip",data:=Data.fields #[rawInt h5'.objs.size,Value.bool false,Value.bool false,Value.ref TI,Value.ref TO] }:=Heap.get?_update_self _ g7 (Obj.isFreed_of_fields (Obj.data_mapFields rfl _))
 generalize h7'.update z (Obj.mapFields fun x_1=>x_1.setIfInBounds 1 (Value.bool false))=h8' at *
 have far:∀ c o,c ≠ z->h6'.get? c=some o->h8'.get? c=some o:=fun c o hc e=>((sb8.2 c hc).trans (sb7.2 c hc)).trans e
 refine wpAny_pure ⟨_,rfl,wpAny_pure ?_⟩
 rw [sz5] at g8 n6 sz6 zlt ⊢
 refine hQ h8' g8 (far _ _ D.TOz (ex6 _ _ g5')) ?_ ?_ (far _ _ (Nat.ne_of_gt zlt) n6) (by rw [sb8.1,sb7.1,sz6]) fun c o c1 c2 c3 c4 e=>?_
 ·obtain ⟨o,ho,r⟩:=it2
  exact ⟨o,far _ _ D.i1z (ex6 _ _ (((sb5.2 i1 (Ne.symm D.TOi1)).trans (sb4.2 i1 D.i12)).trans ((sb3.2 i1 (Ne.symm D.TOi1)).trans ho))),r⟩
 ·obtain ⟨o,ho,r⟩:=it4
  exact ⟨o,far _ _ D.i2z (ex6 _ _ ((sb5.2 i2 (Ne.symm D.TOi2)).trans ho)),r⟩
 ·exact far _ _ c1 (ex6 _ _ ((sb5.2 c c2).trans ((sb4.2 c c4).trans ((sb3.2 c c2).trans ((sb2.2 c c3).trans ((sb1.2 c c1).trans e))))))
theorem YN (hh:A.handled=none)(D:ZipApart z TI TO i1 i2 l1 l2)(hz:IsZip s.heap z TI TO .none)(hTI:IsPair s.heap TI (.ref i1) (.ref i2))(h1:s.heap.IsTupleIter i1 l1 k)(p1:s.heap.IsTuple l1 xs)(hx:xs[k]?=none)
  (hQ:∀ h',(∀ c o,c ≠ z->c ≠ TO->c ≠ i1->c ≠ i2->s.heap.get? c=some o->h'.get? c=some o)->Q none { s with heap:=h' }):wpAny (model P w) A (pyNext (.ref z)) Q E s:=by
 have hT:s.TypeIs (.ref z) "zip":=⟨_,hz,rfl⟩
 unfold pyNext
 refine wpAny_bind (wpAny_attempt (wpAny_callSpecial?_slot (name:=Str.ofString "__next__") hT F.slot_zip_next (wpAny_call_entry F.slot_zip_next hT F.entry_zip_next ?_ (F.args_zip_next_1 _))))
 refine wpAny_bind (m:=field (.ref z) 2) (wpAny_field hz rfl (x:=.bool false) rfl ?_)
 refine wpAny_bind (m:=field (.ref z) 3) (wpAny_field hz rfl (x:=.ref TI) rfl ?_)
 refine wpAny_bind (m:=seqItems? (.ref TI)) (wpAny_seqItems hTI rfl ?_)
 refine wpAny_bind (m:=Builtin.SmallTypes.ownedTupleIsFree (.ref z)) ?_
 unfold Builtin.SmallTypes.ownedTupleIsFree
 refine wpAny_bind (wpAny_field hz rfl (x:=.none) rfl (wpAny_pure ?_))
 refine wpAny_bind (m:=rule "zip.__next__.owned-tuple-again") (wpAny_rule ?_)
 refine wpAny_bind (m:=field (.ref z) 4) (wpAny_field hz rfl (x:=.ref TO) rfl ?_)
 refine wpAny_bind (m:=setField (.ref z) 0 .ellipsis) (wpAny_setField hz rfl (by simp) ?_)
 have sb1:=Heap.SameBut.update s.heap z (Obj.mapFields fun x_1=>x_1.setIfInBounds 0 Value.ellipsis)
 have g1:(s.heap.update z (Obj.mapFields fun x_1=>x_1.setIfInBounds 0 Value.ellipsis)).get? z=some { cls:=Value.type "zip",data:=Data.fields #[.ellipsis,Value.bool false,Value.bool false,Value.ref TI,Value.ref TO] }:=Heap.get?_update_self _ hz (Obj.isFreed_of_fields (Obj.data_mapFields rfl _))
 generalize s.heap.update z (Obj.mapFields fun x_1=>x_1.setIfInBounds 0 Value.ellipsis)=h1' at *
 refine wpAny_bind ?_
 rw [show (#[Value.ref i1,Value.ref i2].toList.zipIdx:List (Value × Nat))=[(.ref i1,0),(.ref i2,1)] from rfl,List.forIn_cons]
 dsimp only
 have it1:h1'.IsTupleIter i1 l1 k:=by obtain ⟨o,ho,r⟩:=h1;exact ⟨o,(sb1.2 i1 D.i1z).trans ho,r⟩
 have tp1:h1'.IsTuple l1 xs:=by obtain ⟨o,ho,r⟩:=p1;exact ⟨o,(sb1.2 l1 D.l1z).trans ho,r⟩
 refine wpAny_bind (wpAny_bind (wpAny_onRaise ?_))
 show wpAny _ _ (Builtin.SmallTypes.nextOf (.ref i1) >>= fun v=>pure (some v)) _ _ _
 refine wpAny_bind (kZ (by first | exact hh | (show A.in1.handled=none;exact hh)) it1 tp1 hx fun h2' e ex2 ⟨oe,hoe,hce⟩=>?_)
 have gz2:h2'.get? z=some { cls:=Value.type "zip",data:=Data.fields #[.ellipsis,Value.bool false,Value.bool false,Value.ref TI,Value.ref TO] }:=ex2 z _ (Ne.symm D.i1z) g1
 have hez:e ≠ z:=by
  intro h
  subst h
  have hoe':h2'.get? e=some oe:=hoe
  rw [gz2] at hoe'
  cases hoe'
  exact absurd (show Value.type "zip"=Value.type "StopIteration" from hce) (by decide)
 refine wpAny_setField gz2 rfl (by simp) ?_
 have sb3:=Heap.SameBut.update h2' z (Obj.mapFields fun x_1=>x_1.setIfInBounds 0 Value.none)
 dsimp only
 generalize h2'.update z (Obj.mapFields fun x_1=>x_1.setIfInBounds 0 Value.none)=h3' at *
 refine wpAny_bind (wpAny_isInstance (T:="StopIteration") (b:=true) ⟨oe,(sb3.2 e hez).trans hoe,hce⟩ isSubtype_stop ?_)
 refine wpAny_pure (hQ h3' fun c o c1 c2 c3 c4 ec=>?_)
 exact (sb3.2 c c1).trans (ex2 c o c3 ((sb1.2 c c1).trans ec))
end
open AutoSeq1 (wpAny_loadPart') in
theorem Am (l1 l2:Addr)(xs ys:Array Value)(n1 n2:Nat)(d1 d2:Option Addr)(s1 s2:Array (Option Value)) :
  Meets (Builtin.«zip.__new__» ⟨[.type "zip",.ref l1,.ref l2],[]⟩) (fun _ R s=>s.heap.get? l1=some { cls:=.type "tuple",dict:=d1,data:=.seq xs n1,slots:=s1 }/\s.heap.get? l2=some { cls:=.type "tuple",dict:=d2,data:=.seq ys n2,slots:=s2 } /\
   ∀ g1 g2 g3 g4 g5,g1=s.heap.push { cls:=.type "tuple_iterator",data:=.fields #[.ref l1,.int 0 0] }->g2=g1.push { cls:=.type "tuple_iterator",data:=.fields #[.ref l2,.int 0 0] }->g3=g2.push { cls:=.type "tuple",data:=.seq #[.ref s.heap.objs.size,.ref g1.objs.size] }->g4=g3.push { cls:=.type "tuple",data:=.seq #[.none,.none] }->g5=g4.push { cls:=.type "zip",data:=.fields #[.none,.bool false,.bool false,.ref g2.objs.size,.ref g3.objs.size] }->R (.ok (.ret (.ref g4.objs.size))) { s with heap:=g5 }):=
 .of_wp fun prog w A R s h=>by
  obtain ⟨hp,g,d,tk,os⟩:=s
  obtain ⟨hl1,hl2,h⟩:=h
  have hT1:Heap.IsTuple (Shared.heap ⟨hp,g,d,tk,os⟩) l1 xs:=⟨_,hl1,rfl,n1,rfl⟩
  have hT2:Heap.IsTuple (hp.push { cls:=.type "tuple_iterator",data:=.fields #[.ref l1,.int 0 0] }) l2 ys:=⟨_,Heap.get?_push_of_some _ hl2,rfl,n2,rfl⟩
  have hsub:isSubtype (Value.type "zip") (Value.type "zip")=pure true:=by first | exact sub_zip | rfl
  wp_walk using wpAny_loadPart' hl1,wpAny_pyIter_tuple hT1,wpAny_pyIter_tuple hT2
  exact ⟨_,rfl,h _ _ _ _ _ rfl rfl rfl rfl rfl⟩
theorem Xr {P:Program}{w:World}{A:Around}{E:Value->Shared->Prop}{s:Shared}{l1 l2:Addr}{xs ys:Array Value}{Q:Value->Shared->Prop}(hT1:s.heap.IsTuple l1 xs)(hT2:s.heap.IsTuple l2 ys)
  (h:∀ h',IsZip h' (s.heap.objs.size+4) (s.heap.objs.size+2) (s.heap.objs.size+3) .none->IsPair h' (s.heap.objs.size+2) (.ref s.heap.objs.size) (.ref (s.heap.objs.size+1))->IsPair h' (s.heap.objs.size+3) .none .none->h'.IsTupleIter s.heap.objs.size l1 0->h'.IsTupleIter (s.heap.objs.size+1) l2 0->(∀ b o,s.heap.get? b=some o->h'.get? b=some o)->Q (.ref (s.heap.objs.size+4)) { s with heap:=h' }) :
  wpAny (model P w) A (call (.type "zip") [.ref l1,.ref l2]) Q E s:=by
 obtain ⟨⟨c1,d1,dt1,sl1⟩,hl1,hc1,n1,hd1⟩:=hT1
 replace hc1:c1=.type "tuple":=hc1
 replace hd1:dt1=.seq xs n1:=hd1
 subst hc1 hd1
 obtain ⟨⟨c2,d2,dt2,sl2⟩,hl2,hc2,n2,hd2⟩:=hT2
 replace hc2:c2=.type "tuple":=hc2
 replace hd2:dt2=.seq ys n2:=hd2
 subst hc2 hd2
 refine callType_new F.called_zip (by decide) (F.typeCall_zip_2 _ _) (F.newCall_zip_2 _ _) (fun obj=>F.args_object_init_3 obj _ _) F.entry_zip_new (Am l1 l2 xs ys n1 n2 d1 d2 sl1 sl2) ⟨hl1,hl2,?_⟩
 intro g1 g2 g3 g4 g5 e1 e2 e3 e4 e5
 have z1:g1.objs.size=s.heap.objs.size+1:=by rw [e1,Heap.size_push]
 have z2:g2.objs.size=s.heap.objs.size+2:=by rw [e2,Heap.size_push,z1]
 have z3:g3.objs.size=s.heap.objs.size+3:=by rw [e3,Heap.size_push,z2]
 have z4:g4.objs.size=s.heap.objs.size+4:=by rw [e4,Heap.size_push,z3]
 have k1:∀ b o,s.heap.get? b=some o->g1.get? b=some o:=fun b o x=>by rw [e1];exact Heap.get?_push_of_some _ x
 have k2:∀ b o,g1.get? b=some o->g2.get? b=some o:=fun b o x=>by rw [e2];exact Heap.get?_push_of_some _ x
 have k3:∀ b o,g2.get? b=some o->g3.get? b=some o:=fun b o x=>by rw [e3];exact Heap.get?_push_of_some _ x
 have k4:∀ b o,g3.get? b=some o->g4.get? b=some o:=fun b o x=>by rw [e4];exact Heap.get?_push_of_some _ x
 have k5:∀ b o,g4.get? b=some o->g5.get? b=some o:=fun b o x=>by rw [e5];exact Heap.get?_push_of_some _ x
 have p1:g1.get? s.heap.objs.size=some { cls:=.type "tuple_iterator",data:=.fields #[.ref l1,.int 0 0] }:=by rw [e1];exact Heap.get?_push_size _ rfl
 have p2:g2.get? (s.heap.objs.size+1)=some { cls:=.type "tuple_iterator",data:=.fields #[.ref l2,.int 0 0] }:=by
  have:=Heap.get?_push_size g1 (o:={ cls:=.type "tuple_iterator",data:=.fields #[.ref l2,.int 0 0] }) rfl
  rw [z1] at this;rw [e2];exact this
 have p3:g3.get? (s.heap.objs.size+2)=some { cls:=.type "tuple",data:=.seq #[.ref s.heap.objs.size,.ref (s.heap.objs.size+1)] }:=by
  have:=Heap.get?_push_size g2 (o:={ cls:=.type "tuple",data:=.seq #[.ref s.heap.objs.size,.ref g1.objs.size] }) rfl
  rw [z2] at this;rw [e3,this,z1]
 have p4:g4.get? (s.heap.objs.size+3)=some { cls:=.type "tuple",data:=.seq #[.none,.none] }:=by
  have:=Heap.get?_push_size g3 (o:={ cls:=.type "tuple",data:=.seq #[.none,.none] }) rfl
  rw [z3] at this;rw [e4,this]
 have p5:g5.get? (s.heap.objs.size+4)=some { cls:=.type "zip",data:=.fields #[.none,.bool false,.bool false,.ref (s.heap.objs.size+2),.ref (s.heap.objs.size+3)] }:=by
  have:=Heap.get?_push_size g4 (o:={ cls:=.type "zip",data:=.fields #[.none,.bool false,.bool false,.ref g2.objs.size,.ref g3.objs.size] }) rfl
  rw [z4] at this;rw [e5,this,z2,z3]
 show _/\_
 rw [z4]
 exact ⟨⟨_,p5,rfl⟩,h _ p5 (k5 _ _ (k4 _ _ p3)) (k5 _ _ p4) ⟨_,k5 _ _ (k4 _ _ (k3 _ _ (k2 _ _ p1))),rfl,rfl⟩ ⟨_,k5 _ _ (k4 _ _ (k3 _ _ p2)),rfl,rfl⟩ fun b o x=>k5 _ _ (k4 _ _ (k3 _ _ (k2 _ _ (k1 _ _ x))))⟩
noncomputable def DR (K:PySem.W.Frag)(a b:Addr):It:=
 ⟨fun i H=>∃ xs ys x y,SqT K H a xs/\SqT K H b ys/\xs[i]?=some x/\ys[i]?=some y,fun i H z H'=>∃ p x y,H p=none/\z=.ref p/\(∀ xs,SqT K H a xs->xs[i]?=some x)/\(∀ ys,SqT K H b ys->ys[i]?=some y)/\H'=upd H p (.tup [x,y]),
  fun i H=>∃ xs,SqT K H a xs/\xs.length<=i⟩
theorem XA {P:Program}{w:World}{K:PySem.W.Frag}{es:List Expr}{kt:Nat}{tp:Pos}(l1 l2 z TI TO i1 i2:Addr)(D:ZipApart z TI TO i1 i2 l1 l2) :
  Ql P w K (.Tuple es kt tp) (DR K l1 l2) [z,TI,TO,i1,i2] z (fun i h=>IsZip h z TI TO .none/\IsPair h TI (.ref i1) (.ref i2)/\(∃ a b,IsPair h TO a b)/\h.IsTupleIter i1 l1 i/\h.IsTupleIter i2 l2 i) where
 mem:=by simp
 obj:=fun i h st b hb=>by
  obtain ⟨hz,hTI,⟨a,c,hTO⟩,⟨o1,e1,c1,d1⟩,⟨o2,e2,c2,d2⟩⟩:=st
  simp only [List.mem_cons,List.not_mem_nil,or_false] at hb
  rcases hb with rfl | rfl | rfl | rfl | rfl
  ·exact ⟨_,hz,fun v q=>by have q':Data.fields _=Data.cell v:=q;cases q'⟩
  ·exact ⟨_,hTI,fun v q=>by have q':Data.seq _ _=Data.cell v:=q;cases q'⟩
  ·exact ⟨_,hTO,fun v q=>by have q':Data.seq _ _=Data.cell v:=q;cases q'⟩
  ·exact ⟨o1,e1,fun v q=>by rw [d1] at q;cases q⟩
  ·exact ⟨o2,e2,fun v q=>by rw [d2] at q;cases q⟩
 keep:=fun i h h' st k=>by
  obtain ⟨hz,hTI,⟨a,c,hTO⟩,h1,h2⟩:=st
  exact ⟨k _ (by simp) _ hz,k _ (by simp) _ hTI,⟨a,c,k _ (by simp) _ hTO⟩,h1.at fun o e=>k _ (by simp) o e,h2.at fun o e=>k _ (by simp) o e⟩
 item:=by
  intro X hP hw hK hc i pins s σ H E I hf st hg
  subst hP hw hK
  obtain ⟨hz,hTI,⟨a,c,hTO⟩,h1,h2⟩:=st
  obtain ⟨xs,ys,x,y,hq1,hq2,hx,hy⟩:=hg
  obtain ⟨its1,rv1,p1,hz1⟩:=I.tuple hq1
  obtain ⟨its2,rv2,p2,hz2⟩:=I.tuple hq2
  obtain ⟨u,hu,ru⟩:=rv1.get hx
  obtain ⟨v,hv,rvv⟩:=rv2.get hy
  refine Xx D hz hTI hTO h1 h2 p1 p2 (x:=u) (y:=v) (by simpa using hu) (by simpa using hv) fun g1 b1 b2 b3 b4 b5 b6 hk=>?_
  refine ⟨.ref s.heap.objs.size,rfl,wpAny_letOwnedTupleGo_zip b1 fun g2 hz2' hs2=>?_⟩
  replace hs2:Heap.SameBut z g1 g2:=hs2
  have zlt:z<s.heap.objs.size:=Heap.lt_size hz
  have I2:Inv X pins σ (upd H s.heap.objs.size (.tup [x,y])) { s with heap:=g2,toks:=s.toks }:=by
   refine I.yieldTup (us:=[u,v]) hf (fun b o hb e=>?_) (Nat.le_refl _) ((hs2.2 _ (Nat.ne_of_gt zlt)).trans b5) (.cons ru (.cons rvv .nil)) (by show 2<=sizeLine;decide)
   simp only [List.mem_cons,List.not_mem_nil,or_false,not_or] at hb
   exact (hs2.2 b hb.1).trans (hk b o hb.1 hb.2.2.1 hb.2.2.2.1 hb.2.2.2.2 e)
  refine ⟨.ref s.heap.objs.size,_,I2,rfl,⟨s.heap.objs.size,x,y,I.hok.fresh (Nat.le_refl _),rfl,fun xs' h'=>by rw [I.tuple_inj h' hq1];exact hx,fun ys' h'=>by rw [I.tuple_inj h' hq2];exact hy,rfl⟩,
   ⟨hz2',(hs2.2 _ D.TIz).trans (hk _ _ D.TIz D.TITO D.TIi1 D.TIi2 hTI),⟨_,_,(hs2.2 _ D.TOz).trans b2⟩,b3.extBut hs2.extBut D.i1z,b4.extBut hs2.extBut D.i2z⟩,fun b hb=>?_⟩
  have hlt:b<s.heap.objs.size:=by
   simp only [List.mem_cons,List.not_mem_nil,or_false] at hb
   rcases hb with rfl | rfl | rfl | rfl | rfl
   ·exact zlt
   ·exact Heap.lt_size hTI
   ·exact Heap.lt_size hTO
   ·obtain ⟨o,e,_⟩:=h1;exact Heap.lt_size e
   ·obtain ⟨o,e,_⟩:=h2;exact Heap.lt_size e
  rw [zk (Nat.ne_of_lt hlt)]
  exact (hf b hb).1
 done:=by
  intro X hP hw hK hc i pins s σ H E I hf st hg
  subst hP hw hK
  obtain ⟨hz,hTI,⟨a,c,hTO⟩,h1,h2⟩:=st
  obtain ⟨xs,hq1,hend⟩:=hg
  obtain ⟨its1,rv1,p1,hz1⟩:=I.tuple hq1
  have l1:=rv1.length
  refine YN (I.ok.hd hc) D hz hTI h1 p1 (by simp;walk_at "o") fun h' hk=>⟨rfl,I.turnedL (tk:=s.toks) hf fun b o hb e=>?_⟩
  simp only [List.mem_cons,List.not_mem_nil,or_false,not_or] at hb
  exact hk b o hb.1 hb.2.2.1 hb.2.2.2.1 hb.2.2.2.2 e
 self:=fun _ _ _ _ _ st h=>wpAny_pyIter_zip st.1 h
section
variable {X:Cx}{es:List Expr}{kt:Nat}{tp:Pos}
noncomputable def Jv (K:PySem.W.Frag)(ta:TA):TI:=fun σ H R=>ta σ H fun vs H1=>∃ a b,vs=[.ref a,.ref b]/\(((∃ xs,SqL K H1 a xs)/\(∃ ys,SqL K H1 b ys)/\R (Itz K a b) H1) \/ ((∃ xs,SqT K H1 a xs)/\(∃ ys,SqT K H1 b ys)/\R (DR K a b) H1))
theorem vH {e1 e2:Expr}{ta:TA}{p pos:Pos}(hg:Gl X "zip")(hm:X.mg "zip"=none)(ha:PA X [e1,e2] ta)(hs:starEach [e1,e2] X.env=[(false,eval e1 X.env),(false,eval e2 X.env)]:=by rfl)(hs2:starEach [e2] X.env=[(false,eval e2 X.env)]:=by rfl) :
  PI X (.Tuple es kt tp) (.Call (.Name "zip" p) [e1,e2] [] pos) (Jv X.K ta):=by
 intro pins s σ H R I h
 refine Call_ (kJ I hg hm Xz (PyProof.Rows.callWith_type1 (thn (ha pos pins s σ H _ I h) fun us s1 ⟨vs,H1,I1,r1,q1⟩=>?_) (by rw [hs,hs2]) (by rw [hs2];rfl)))
 obtain ⟨a,b,e,q1⟩:=q1
 subst e
 obtain ⟨u,v,rfl,ru,rv⟩:=Qz r1
 cases ru
 cases rv
 rcases q1 with ⟨⟨xs,hq1⟩,⟨ys,hq2⟩,q⟩ | ⟨⟨xs,hq1⟩,⟨ys,hq2⟩,q⟩
 ·obtain ⟨its1,rv1,p1,hz1⟩:=I1.list hq1
  obtain ⟨its2,rv2,p2,hz2⟩:=I1.list hq2
  have la:a<s1.heap.objs.size:=by obtain ⟨o,e,_⟩:=p1.isList;exact Heap.lt_size e
  have lb:b<s1.heap.objs.size:=by obtain ⟨o,e,_⟩:=p2.isList;exact Heap.lt_size e
  refine call_zip_2 p1.isList p2.isList fun h' b1 b2 b3 b4 b5 hsz hk=>wpAny_pyIter_zip b1 ?_
  have I2:Inv X pins σ H1 { s1 with heap:=h' }:=I1.kept (t':=s1.toks) hk
  refine ⟨s1.heap.objs.size+4,[s1.heap.objs.size+4,s1.heap.objs.size+2,s1.heap.objs.size+3,s1.heap.objs.size,s1.heap.objs.size+1],_,_,H1,rfl,I2,Vy a b _ _ _ _ _ (zipApart_new la lb),⟨b1,b2,⟨_,_,b3⟩,b4,b5⟩,fun c hb=>?_,q⟩
  have hb':s1.heap.objs.size<=c:=by
   simp only [List.mem_cons,List.not_mem_nil,or_false] at hb
   rcases hb with rfl | rfl | rfl | rfl | rfl <;> first | exact Nat.le_refl _ | exact Nat.le_add_right _ _
  exact I1.fpOk hb' (I1.hok.fresh hb')
 ·obtain ⟨its1,rv1,p1,hz1⟩:=I1.tuple hq1
  obtain ⟨its2,rv2,p2,hz2⟩:=I1.tuple hq2
  have la:a<s1.heap.objs.size:=by obtain ⟨o,e,_⟩:=p1;exact Heap.lt_size e
  have lb:b<s1.heap.objs.size:=by obtain ⟨o,e,_⟩:=p2;exact Heap.lt_size e
  refine Xr p1 p2 fun h' b1 b2 b3 b4 b5 hk=>wpAny_pyIter_zip b1 ?_
  have I2:Inv X pins σ H1 { s1 with heap:=h' }:=I1.kept (t':=s1.toks) hk
  refine ⟨s1.heap.objs.size+4,[s1.heap.objs.size+4,s1.heap.objs.size+2,s1.heap.objs.size+3,s1.heap.objs.size,s1.heap.objs.size+1],_,_,H1,rfl,I2,XA a b _ _ _ _ _ (zipApart_new la lb),⟨b1,b2,⟨_,_,b3⟩,b4,b5⟩,fun c hb=>?_,q⟩
  have hb':s1.heap.objs.size<=c:=by
   simp only [List.mem_cons,List.not_mem_nil,or_false] at hb
   rcases hb with rfl | rfl | rfl | rfl | rfl <;> first | exact Nat.le_refl _ | exact Nat.le_add_right _ _
  exact I1.fpOk hb' (I1.hok.fresh hb')
end
noncomputable def slV (xs:List V)(lo hi st:Option Int):List V:=(sliceRange (sliceBounds lo hi st xs.length).1 (sliceBounds lo hi st xs.length).2.1 (sliceBounds lo hi st xs.length).2.2).filterMap fun k=>xs[k]?
theorem yF {xs:List V}{us:List Value}(r:zu xs us):∀ ks:List Nat,zu (ks.filterMap fun k=>xs[k]?) (ks.filterMap fun k=>us[k]?)
 | []=>.nil
 | k :: ks=>by
  have ih:=yF r ks
  have hl:=r.length
  by_cases h:k<xs.length
  ·have e1:xs[k]?=some xs[k]:=List.getElem?_eq_getElem h
   obtain ⟨u,hu,ru⟩:=r.get e1
   rw [List.filterMap_cons_some e1,List.filterMap_cons_some hu]
   exact .cons ru ih
  ·have e1:xs[k]?=none:=List.getElem?_eq_none (by walk_at "o")
   have e2:us[k]?=none:=List.getElem?_eq_none (by walk_at "o")
   rw [List.filterMap_cons_none e1,List.filterMap_cons_none e2]
   exact ih
noncomputable def Gg (K:PySem.W.Frag):V->Option Int->Option Int->Option Int->Hp->VK->Prop:=fun x lo hi st H Q=>∃ a xs,x=.ref a/\SqL K H a xs/\st ≠ some 0/\∀ p,H p=none->Q (.ref p) (upd H p (.lst (slV xs lo hi st)))
noncomputable def Fa (K:PySem.W.Frag)(te:TE)(tl th ts:TO):TE:=fun σ H Q=>te σ H fun x H1=>tl σ H1 fun l H2=>th σ H2 fun u H3=>ts σ H3 fun z H4=>Gg K x l u z H4 Q
section
variable {X:Cx}{e st:Expr}{te:TE}{lo hi:Option Expr}{tl th ts:TO}{p2 pos:Pos}
theorem wx (he:PE X e te)(hl:PO X lo tl)(hu:PO X hi th)(hst:PO X (some st) ts):PE X (.Subscript e (.Slice lo hi (some st) p2) pos) (Fa X.K te tl th ts):=by
 intro pins s σ H Q I h
 refine Subscript_ (thn (he pins s σ H _ I h) fun v s1 ⟨x,H1,I1,r1,q1⟩=>?_)
 refine wpAny_Slice (thn (hl pins s1 σ H1 _ I1 q1) fun vl s2 ⟨l,H2,I2,pl,q2⟩=>thn (hu pins s2 σ H2 _ I2 q2) fun vu s3 ⟨u,H3,I3,pu,q3⟩=>thn (hst pins s3 σ H3 _ I3 q3) fun vs s4 ⟨z,H4,I4,pz,q4⟩=>?_)
 have I5:Inv X pins σ H4 { s4 with heap:=s4.heap.push { cls:=.type "slice",data:=.fields #[vl,vu,vs] } }:=I4.kept (t':=s4.toks) fun b ob q=>Heap.get?_push_of_some _ q
 obtain ⟨a,xs,rfl,hx,hz0,q⟩:=q4
 cases r1
 obtain ⟨its,r,ht,hz⟩:=I5.list hx
 have hlen:=r.length
 show wpAny (model X.prog X.w) X.A (subscriptTail e (.Slice lo hi (some st) p2) (.ref a) (.ref s4.heap.objs.size)) (EP X pins σ Q) X.xe { s4 with heap:=s4.heap.push { cls:=.type "slice",data:=.fields #[vl,vu,vs] } }
 refine tail_any (ops:=[.ref a,.ref s4.heap.objs.size]) ht.isList.typeIs slot_list_getitem.lookup ?_ rfl
 refine wpAny_getItem_list_slice ht.isList (Heap.IsSliceOf.new ..) pl pu pz hz0 ?_ (by rw [List.size_toArray];walk_at "o")
 have e1:slicePick its.toArray l u z=(List.filterMap (fun x=>its[x]?) (sliceRange (sliceBounds l u z xs.length).1 (sliceBounds l u z xs.length).2.1 (sliceBounds l u z xs.length).2.2)).toArray:=by
  unfold slicePick
  rw [List.size_toArray,<- hlen]
  simp only [List.getElem?_toArray]
 have hsz:=slicePick_size_le its.toArray l u z
 rw [e1] at hsz ⊢
 have rr:=yF r (sliceRange (sliceBounds l u z xs.length).1 (sliceBounds l u z xs.length).2.1 (sliceBounds l u z xs.length).2.2)
 have hl2:=rr.length
 refine ⟨.ref _,_,I5.laid (t':=s4.toks) (o:=.lst (slV xs l u z)) (fun b ob q=>Heap.get?_push_of_some _ q) (Nat.le_refl _) ?_,rfl,q _ (I5.hok.fresh (Nat.le_refl _))⟩
 refine ⟨?_,_,0,rr,Heap.get?_push_size _ rfl⟩
 rw [List.size_toArray,List.size_toArray] at hsz
 show (slV xs l u z).length<=_
 unfold slV
 walk_at "o"
end
theorem V3 (xs:List V):slV xs none (some 0) (some (-1))=(xs.drop 1).reverse:=by
 have hb:sliceBounds none (some 0) (some (-1)) xs.length=((xs.length:Int) - 1,max (-1) (min 0 ((xs.length:Int) - 1)),-1):=rfl
 unfold slV
 rw [hb]
 have key:∀ n,n=xs.length->sliceRange ((n:Int) - 1) (max (-1) (min 0 ((n:Int) - 1))) (-1)=(List.range (n - 1)).map fun k=>n - 1 - k:=by
  intro n _
  unfold sliceRange
  dsimp only
  rw [if_neg (by decide)]
  have hc:((if (n:Int) - 1 > max (-1) (min 0 ((n:Int) - 1)) then ((n:Int) - 1 - max (-1) (min 0 ((n:Int) - 1)) - -1 - 1) / - -1 else 0).toNat)=n - 1:=by
   rcases Nat.eq_zero_or_pos n with z | z
   ·subst z;decide
   ·have e:max (-1) (min 0 ((n:Int) - 1))=0:=by walk_at "o"
    rw [e]
    split
    ·rw [show - -(1:Int)=1 from rfl,Int.ediv_one];walk_at "o"
    ·walk_at "o"
  rw [hc]
  refine List.map_congr_left fun k hk=>?_
  have:k<n - 1:=by simpa using hk
  walk_at "o"
 show List.filterMap (fun k=>xs[k]?) (sliceRange ((xs.length:Int) - 1) (max (-1) (min 0 ((xs.length:Int) - 1))) (-1))=_
 rw [key xs.length rfl,List.filterMap_map]
 refine List.ext_getElem? fun i=>?_
 have hall:∀ k,k<xs.length - 1->((fun k=>xs[k]?) ∘ fun k=>xs.length - 1 - k) k=some (xs.getD (xs.length - 1 - k) .non):=fun k hk=>by
  show xs[xs.length - 1 - k]?=_
  rw [List.getD_eq_getElem?_getD,List.getElem?_eq_getElem (by walk_at "o")];rfl
 have hfm:List.filterMap ((fun k=>xs[k]?) ∘ fun k=>xs.length - 1 - k) (List.range (xs.length - 1))=(List.range (xs.length - 1)).map fun k=>xs.getD (xs.length - 1 - k) .non:=by
  have go:∀ (ks:List Nat),(∀ k ∈ ks,k<xs.length - 1)->List.filterMap ((fun k=>xs[k]?) ∘ fun k=>xs.length - 1 - k) ks=ks.map fun k=>xs.getD (xs.length - 1 - k) .non:=by
   intro ks
   induction ks with
   | nil=>intro _;rfl
   | cons k ks ih=>
    intro hk
    rw [List.filterMap_cons_some (hall k (hk k (by simp))),ih fun j hj=>hk j (by simp [hj])];rfl
  exact go _ fun k hk=>by simpa using hk
 rw [hfm,List.getElem?_map]
 by_cases h:i<xs.length - 1
 ·rw [List.getElem?_range h,List.getElem?_reverse (by rw [List.length_drop];walk_at "o"),List.getElem?_drop,List.length_drop]
  show some (xs.getD (xs.length - 1 - i) .non)=xs[1+(xs.length - 1 - 1 - i)]?
  rw [List.getD_eq_getElem?_getD,show 1+(xs.length - 1 - 1 - i)=xs.length - 1 - i by walk_at "o",List.getElem?_eq_getElem (by walk_at "o")];rfl
 ·rw [List.getElem?_eq_none (by rw [List.length_range];walk_at "o"),List.getElem?_eq_none (by rw [List.length_reverse,List.length_drop];walk_at "o")];rfl
theorem kM {α:Type}(p q:α->Bool):∀ (l:List α),(∀ x ∈ l,¬ (p x=true/\q x=true))->l.countP (fun x=>p x || q x)=l.countP p+l.countP q
 | [],_=>rfl
 | x :: l,h=>by
  have ih:=kM p q l fun y hy=>h y (by simp [hy])
  have hx:=h x (by simp)
  rw [List.countP_cons,List.countP_cons,List.countP_cons,ih]
  cases hp:p x <;> cases hq:q x
  ·simp
  ·simp;walk_at "o"
  ·simp;walk_at "o"
  ·exact absurd ⟨hp,hq⟩ hx
theorem J5 (n y:Nat)(h:y<n):(List.range n).countP (fun x=>decide (x=y))=1:=by
 induction n with
 | zero=>walk_at "o"
 | succ n ih=>
  rw [List.range_succ,List.countP_append]
  by_cases e:y=n
  ·subst e
   have:(List.range y).countP (fun x=>decide (x=y))=0:=by
    rw [List.countP_eq_zero]
    intro x hx
    have:x<y:=by simpa using hx
    simp;walk_at "o"
   rw [this];simp
  ·rw [ih (by walk_at "o")]
   have:¬ n=y:=fun z=>e z.symm
   simp [this]
theorem vN (n:Nat):∀ (R:List Nat),R.Nodup->(∀ x ∈ R,x<n)->(List.range n).countP (fun x=>decide (x ∈ R))=R.length
 | [],_,_=>by simp
 | y :: R,nd,hb=>by
  have hy:=List.nodup_cons.mp nd
  have e:(fun x=>decide (x ∈ y :: R))=fun x=>decide (x=y) || decide (x ∈ R):=by
   funext x
   rw [Bool.eq_iff_iff]
   simp
  rw [e,kM,J5 n y (hb y (by simp)),vN n R hy.2 fun x hx=>hb x (by simp [hx]),List.length_cons,Nat.add_comm]
  intro x _ ⟨h1,h2⟩
  have h1':x=y:=by simpa using h1
  subst h1'
  exact hy.1 (by simpa using h2)
theorem Zm {n:Nat}{os:List Int}(h:zB n os){i:Nat}(hi:i<n):1<per os (i:Int) ↔ ¬ os.getD i 0=(i:Int):=by
 obtain ⟨M,hM,hMn⟩:=kT h (p:=(i:Int)) (by walk_at "o") (by walk_at "o")
 rw [hM.per]
 have e1:itn os 1 (i:Int)=os.getD i 0:=by
  show os.getD ((i:Int)).toNat 0=_
  rw [Int.toNat_natCast]
 constructor
 ·intro z e
  exact hM.2.2 1 (Nat.le_refl _) z (by rw [e1,e])
 ·intro z
  rcases Nat.lt_or_ge 1 M with y | y
  ·exact y
  ·have:M=1:=by have:=hM.1;walk_at "o"
   rw [this] at hM
   exact absurd (by rw [<- e1,hM.2.1]) z
theorem yE {n:Nat}{os:List Int}(h:zB n os){p:Int}(p0:0<=p)(p1:p<n){M:Nat}(hM:jV os p M):(itl os p M).Nodup:=by
 rw [List.nodup_iff_pairwise_ne,List.pairwise_iff_getElem]
 intro i j hi hj hij e
 rw [qz] at hi hj
 have e':itn os i p=itn os j p:=by
  have e1:(itl os p M)[i]'(by rw [qz];exact hi)=itn os i p:=by simp [itl]
  have e2:(itl os p M)[j]'(by rw [qz];exact hj)=itn os j p:=by simp [itl]
  rw [<- e1,<- e2];exact e
 have b:=qm h p0 p1 (j - i)
 have e2:itn os (j - i) p=p:=by
  refine (vi h p0 p1 b.1 b.2 i ?_).symm
  rw [<- jQ,show i+(j - i)=j by walk_at "o"]
  exact e'
 exact hM.2.2 (j - i) (by walk_at "o") (by walk_at "o") e2
theorem Js {n:Nat}{os:List Int}(h:zB n os){i x:Nat}(hi:i<n)(hx:x<n)(hp:1<per os (i:Int))(r:Rch os (i:Int) (x:Int)):¬ os.getD x 0=(x:Int):=by
 intro e
 have r2:=r.symm h (by walk_at "o") (by walk_at "o")
 obtain ⟨k,hk⟩:=r2
 have hfix:∀ k,itn os k (x:Int)=(x:Int):=by
  intro k
  induction k with
  | zero=>rfl
  | succ k ih=>
   show nxt os (itn os k (x:Int))=_
   rw [ih]
   show os.getD ((x:Int)).toNat 0=_
   rw [Int.toNat_natCast,e]
 rw [hfix k] at hk
 have:x=i:=by walk_at "o"
 subst this
 exact (Zm h hi).mp hp e
open Classical in
noncomputable def wo (os:List Int)(n i:Nat):Nat:=(List.range n).countP fun (x:Nat)=>decide (zZ os i (x:Int)/\¬ os.getD x 0=(x:Int))
noncomputable def y9 (rs:List (List Int)):Nat:=(rs.map List.length).sum
theorem Wh (a b:List (List Int)):y9 (a ++ b)=y9 a+y9 b:=by unfold y9;rw [List.map_append,List.sum_append]
open Classical in
theorem wb {n:Nat}{os:List Int}(h:zB n os):∀ i,i<=n->y9 (zo os i)=wo os n i
 | 0,_=>by
  unfold wo
  have:(List.range n).countP (fun (x:Nat)=>decide (zZ os 0 (x:Int)/\¬ os.getD x 0=(x:Int)))=0:=by
   rw [List.countP_eq_zero]
   intro x _ hx
   have:=(of_decide_eq_true hx).1
   obtain ⟨q,hq,_⟩:=this
   walk_at "o"
  rw [this];rfl
 | i+1,hi=>by
  have ih:=wb h i (by walk_at "o")
  show y9 (zo os i ++ _)=_
  rw [Wh,ih]
  obtain ⟨M,hM,hMn⟩:=kT h (p:=(i:Int)) (by walk_at "o") (by walk_at "o")
  by_cases hL:yY os i
  ·have hns:=qX.mp hL
   by_cases hp:1<per os (i:Int)
   ·rw [if_pos ⟨hL,hp⟩]
    have e:(fun x:Nat=>decide (zZ os (i+1) (x:Int)/\¬ os.getD x 0=(x:Int)))=fun x:Nat=>decide (zZ os i (x:Int)/\¬ os.getD x 0=(x:Int)) || decide (Rch os (i:Int) (x:Int)/\¬ os.getD x 0=(x:Int)):=by
     funext x
     rw [Bool.eq_iff_iff,Bool.or_eq_true,decide_eq_true_eq,decide_eq_true_eq,decide_eq_true_eq,zZ.succ]
     constructor
     ·rintro ⟨a | a,b⟩
      ·exact .inl ⟨a,b⟩
      ·exact .inr ⟨a,b⟩
     ·rintro (⟨a,b⟩ | ⟨a,b⟩)
      ·exact ⟨.inl a,b⟩
      ·exact ⟨.inr a,b⟩
    unfold wo
    rw [e,kM]
    ·congr 1
     have e2:(List.range n).countP (fun x:Nat=>decide (Rch os (i:Int) (x:Int)/\¬ os.getD x 0=(x:Int)))=(List.range n).countP (fun x:Nat=>decide (x ∈ (itl os (i:Int) M).map Int.toNat)):=by
      refine List.countP_congr fun x hx=>?_
      have hx':x<n:=by simpa using hx
      rw [decide_eq_true_eq,decide_eq_true_eq,List.mem_map]
      constructor
      ·rintro ⟨r,_⟩
       exact ⟨(x:Int),(Rch.mem_ring hM).mp r,by simp⟩
      ·rintro ⟨y,hy,e⟩
       obtain ⟨k,hk,ek⟩:=qd.mp hy
       have b:=qm h (p:=(i:Int)) (by walk_at "o") (by walk_at "o") k
       have hyx:y=(x:Int):=by walk_at "o"
       rw [hyx] at hy
       have r:=(Rch.mem_ring hM).mpr hy
       exact ⟨r,Js h (by walk_at "o") hx' hp r⟩
     have hnd:=yE h (p:=(i:Int)) (by walk_at "o") (by walk_at "o") hM
     rw [e2,vN]
     ·rw [List.length_map,qz]
      unfold y9 zH
      rw [hM.per]
      simp [qz]
     ·rw [List.nodup_iff_pairwise_ne,List.pairwise_map]
      refine List.Pairwise.imp_of_mem (fun {a b} ha hb hab e=>?_) (List.nodup_iff_pairwise_ne.mp hnd)
      obtain ⟨k1,_,e1⟩:=qd.mp ha
      obtain ⟨k2,_,e2⟩:=qd.mp hb
      have b1:=qm h (p:=(i:Int)) (by walk_at "o") (by walk_at "o") k1
      have b2:=qm h (p:=(i:Int)) (by walk_at "o") (by walk_at "o") k2
      exact hab (by walk_at "o")
     ·intro x hx
      obtain ⟨y,hy,e⟩:=List.mem_map.mp hx
      obtain ⟨k,hk,ek⟩:=qd.mp hy
      have b:=qm h (p:=(i:Int)) (by walk_at "o") (by walk_at "o") k
      walk_at "o"
    ·intro x _ ⟨h1,h2⟩
     exact zZ.apart h (by walk_at "o") hns (of_decide_eq_true h2).1 (of_decide_eq_true h1).1
   ·rw [if_neg (fun z=>hp z.2)]
    have e:wo os n (i+1)=wo os n i:=by
     unfold wo
     refine List.countP_congr fun x hx=>?_
     have hx':x<n:=by simpa using hx
     rw [decide_eq_true_eq,decide_eq_true_eq,zZ.succ]
     have hfix:os.getD i 0=(i:Int):=Classical.byContradiction fun z=>hp ((Zm h (by walk_at "o")).mpr z)
     constructor
     ·rintro ⟨a | a,b⟩
      ·exact ⟨a,b⟩
      ·exfalso
       obtain ⟨k,hk⟩:=a
       have hstay:∀ k,itn os k (i:Int)=(i:Int):=by
        intro k
        induction k with
        | zero=>rfl
        | succ k ih=>
         show nxt os (itn os k (i:Int))=_
         rw [ih]
         show os.getD ((i:Int)).toNat 0=_
         rw [Int.toNat_natCast,hfix]
       rw [hstay k] at hk
       have:i=x:=by walk_at "o"
       subst this
       exact b hfix
     ·rintro ⟨a,b⟩
      exact ⟨.inl a,b⟩
    rw [e]
    rfl
  ·rw [if_neg (fun z=>hL z.1)]
   have hs:zZ os i (i:Int):=Classical.byContradiction fun z=>hL (qX.mpr z)
   have e:wo os n (i+1)=wo os n i:=by
    unfold wo
    refine List.countP_congr fun x hx=>?_
    rw [decide_eq_true_eq,decide_eq_true_eq,zZ.step h (by walk_at "o") hs]
   rw [e]
   rfl
open Classical in
theorem Qp {n:Nat}{os:List Int}(h:zB n os):y9 (zo os n)=YS os n:=by
 rw [wb h n (Nat.le_refl n)]
 unfold wo YS
 rw [List.countP_eq_length_filter]
 congr 1
 refine List.filter_congr fun x hx=>?_
 have hx':x<n:=by simpa using hx
 rw [Bool.eq_iff_iff]
 constructor
 ·intro z
  have:=(of_decide_eq_true z).2
  simpa using this
 ·intro z
  have z':¬ os.getD x 0=(x:Int):=by simpa using z
  exact decide_eq_true ⟨⟨x,hx',Rch.refl⟩,z'⟩
theorem qF.symm {n:Nat}{os bs:List Int}(ho:zB n os)(h:qF os bs):qF bs os:=by
 refine ⟨h.1.symm,fun j hj=>?_⟩
 rw [h.1,ho.1] at hj
 have:=VB ho h (x:=(j:Int)) (by walk_at "o") (by walk_at "o")
 have e:nxt os (nxt bs (j:Int))=os.getD (bs.getD ((j:Int)).toNat 0).toNat 0:=rfl
 rw [e,Int.toNat_natCast] at this
 exact this
noncomputable def sw1 (row:List Int)(s:Nat × Nat):List Int:=(row.set s.1 (row.getD s.2 0)).set s.2 (row.getD s.1 0)
noncomputable def swR (row:List Int)(l:List (Nat × Nat)):List Int:=l.foldl sw1 row
theorem B0 (row:List Int)(s:Nat × Nat):(sw1 row s).length=row.length:=by unfold sw1;rw [List.length_set,List.length_set]
theorem xw:∀ (l:List (Nat × Nat)) (row:List Int),(swR row l).length=row.length
 | [],_=>rfl
 | s :: l,row=>by show (swR (sw1 row s) l).length=_;rw [xw l,B0]
theorem Zz (row:List Int)(a b:List (Nat × Nat)):swR row (a ++ b)=swR (swR row a) b:=by unfold swR;rw [List.foldl_append]
theorem vh {row:List Int}{a b x:Nat}(ha:a<row.length)(hb:b<row.length):(sw1 row (a,b)).getD x 0=if x=b then row.getD a 0 else if x=a then row.getD b 0 else row.getD x 0:=by
 unfold sw1
 rw [wa (by rw [List.length_set];exact hb),wa ha]
noncomputable def zW (c:List Nat):List (Nat × Nat):=(c.drop 1).map fun p=>(c.getD 0 0,p)
theorem yJ {row:List Int}{c:List Nat}(nd:c.Nodup)(hb:∀ x ∈ c,x<row.length)(h0:∀ x ∈ c,row.getD x 0=(x:Int))(hc:1<=c.length):∀ k,k<c.length ->
  (swR row ((zW c).take k)).getD (c.getD 0 0) 0=((c.getD k 0:Nat):Int)/\(∀ i,1<=i->i<=k->(swR row ((zW c).take k)).getD (c.getD i 0) 0=((c.getD (i - 1) 0:Nat):Int)) /\
   (∀ i,k<i->i<c.length->(swR row ((zW c).take k)).getD (c.getD i 0) 0=((c.getD i 0:Nat):Int))/\∀ x,x ∉ c->(swR row ((zW c).take k)).getD x 0=row.getD x 0
 | 0,h=>by
  have gm:∀ i,i<c.length->c.getD i 0 ∈ c:=fun i hi=>by
   rw [List.getD_eq_getElem?_getD,List.getElem?_eq_getElem hi];exact List.getElem_mem hi
  refine ⟨h0 _ (gm 0 h),fun i h1 h2=>by walk_at "o",fun i h1 h2=>h0 _ (gm i h2),fun x hx=>rfl⟩
 | k+1,h=>by
  obtain ⟨i1,i2,i3,i4⟩:=yJ nd hb h0 hc k (by walk_at "o")
  have gm:∀ i,i<c.length->c.getD i 0 ∈ c:=fun i hi=>by
   rw [List.getD_eq_getElem?_getD,List.getElem?_eq_getElem hi];exact List.getElem_mem hi
  have inj:∀ i j,i<c.length->j<c.length->c.getD i 0=c.getD j 0->i=j:=fun i j hi hj e=>by
   rw [List.getD_eq_getElem?_getD,List.getElem?_eq_getElem hi,List.getD_eq_getElem?_getD,List.getElem?_eq_getElem hj] at e
   exact (List.getElem_inj nd).mp e
  have hsl:(zW c).length=c.length - 1:=by unfold zW;rw [List.length_map,List.length_drop]
  have est:(zW c)[k]?=some (c.getD 0 0,c.getD (k+1) 0):=by
   unfold zW
   rw [List.getElem?_map,List.getElem?_drop,List.getD_eq_getElem?_getD (i:=k+1),show 1+k=k+1 by walk_at "o",List.getElem?_eq_getElem h];rfl
  have htk:(zW c).take (k+1)=(zW c).take k ++ [(c.getD 0 0,c.getD (k+1) 0)]:=by rw [List.take_add_one,est];rfl
  rw [htk,Zz]
  show (sw1 (swR row ((zW c).take k)) (c.getD 0 0,c.getD (k+1) 0)).getD _ _=_/\_
  have b0:c.getD 0 0<(swR row ((zW c).take k)).length:=by rw [xw];exact hb _ (gm 0 (by walk_at "o"))
  have b1:c.getD (k+1) 0<(swR row ((zW c).take k)).length:=by rw [xw];exact hb _ (gm (k+1) h)
  have ne:c.getD 0 0 ≠ c.getD (k+1) 0:=fun e=>by have:=inj 0 (k+1) (by walk_at "o") h e;walk_at "o"
  refine ⟨?_,fun i h1 h2=>?_,fun i h1 h2=>?_,fun x hx=>?_⟩
  ·rw [vh b0 b1,if_neg ne,if_pos rfl]
   exact i3 (k+1) (by walk_at "o") h
  ·show (sw1 _ _).getD _ _=_
   rw [vh b0 b1]
   by_cases e:i=k+1
   ·subst e
    rw [if_pos rfl,i1,show k+1 - 1=k by walk_at "o"]
   ·rw [if_neg (fun z=>e (inj i (k+1) (by walk_at "o") h z)),if_neg (fun z=>by have:=inj i 0 (by walk_at "o") (by walk_at "o") z;walk_at "o")]
    exact i2 i h1 (by walk_at "o")
  ·show (sw1 _ _).getD _ _=_
   rw [vh b0 b1,if_neg (fun z=>by have:=inj i (k+1) h2 h z;walk_at "o"),if_neg (fun z=>by have:=inj i 0 h2 (by walk_at "o") z;walk_at "o")]
   exact i3 i (by walk_at "o") h2
  ·show (sw1 _ _).getD _ _=_
   rw [vh b0 b1,if_neg (fun z=>hx (by rw [z];exact gm (k+1) h)),if_neg (fun z=>hx (by rw [z];exact gm 0 (by walk_at "o")))]
   exact i4 x hx
noncomputable def jc (os:List Int)(i:Nat):List (Nat × Nat):=((zo os i).map fun r=>zW (r.map Int.toNat)).flatten
open Classical in
theorem xS {n:Nat}{os:List Int}(h:zB n os):∀ i,i<=n->(swR (zr 0 1 n) (jc os i)).length=n/\(∀ t:Nat,t<n->zZ os i (t:Int)->(swR (zr 0 1 n) (jc os i)).getD (os.getD t 0).toNat 0=(t:Int))/\∀ t:Nat,t<n->¬ zZ os i (t:Int)->(swR (zr 0 1 n) (jc os i)).getD t 0=(t:Int)
  | 0,_=>by
    refine ⟨zv 0 1 n,fun t _ ⟨q,hq,_⟩=>by walk_at "o",fun t ht _=>?_⟩
    show (zr 0 1 n).getD t 0=_
    exact j4 n ht
  | i+1,hi=>by
    obtain ⟨l,ih1,ih2⟩:=xS h i (by walk_at "o")
    obtain ⟨M,hM,hMn⟩:=kT h (p:=(i:Int)) (by walk_at "o") (by walk_at "o")
    have hst:jc os (i+1)=jc os i ++ (((if yY os i/\1<per os (i:Int) then [zH os (i:Int)] else []).map fun r=>zW (r.map Int.toNat)).flatten):=by
      unfold jc
      show ((zo os i ++ _).map _).flatten=_
      rw [List.map_append,List.flatten_append]
    rw [hst,Zz]
    generalize swR (zr 0 1 n) (jc os i)=row at *
    by_cases hL:yY os i
    · have hns:=qX.mp hL
      by_cases hp:1<per os (i:Int)
      · rw [if_pos ⟨hL,hp⟩]
        have e1:([zH os (i:Int)].map fun r=>zW (r.map Int.toNat)).flatten=zW ((itl os (i:Int) M).map Int.toNat):=by
          unfold zH
          rw [hM.per]
          simp
        rw [e1]
        have hcl:((itl os (i:Int) M).map Int.toNat).length=M:=by rw [List.length_map,qz]
        have cg:∀ k,k<M->((itl os (i:Int) M).map Int.toNat).getD k 0=(itn os k (i:Int)).toNat:=fun k hk=>by
          rw [List.getD_eq_getElem?_getD,List.getElem?_map]
          unfold itl
          rw [List.getElem?_map,List.getElem?_range hk];rfl
        have bd:∀ k,0<=itn os k (i:Int)/\itn os k (i:Int)<n:=fun k=>qm h (by walk_at "o") (by walk_at "o") k
        have hnd:((itl os (i:Int) M).map Int.toNat).Nodup:=by
          rw [List.nodup_iff_pairwise_ne,List.pairwise_map]
          refine List.Pairwise.imp_of_mem (fun {a b} ha hb hab e=>?_) (List.nodup_iff_pairwise_ne.mp (yE h (p:=(i:Int)) (by walk_at "o") (by walk_at "o") hM))
          obtain ⟨k1,_,e1⟩:=qd.mp ha
          obtain ⟨k2,_,e2⟩:=qd.mp hb
          have b1:=bd k1
          have b2:=bd k2
          exact hab (by walk_at "o")
        have hmem:∀ x:Nat,x ∈ (itl os (i:Int) M).map Int.toNat ↔ Rch os (i:Int) (x:Int):=fun x=>by
          rw [List.mem_map,Rch.mem_ring hM]
          constructor
          · rintro ⟨y,hy,e⟩
            obtain ⟨k,hk,ek⟩:=qd.mp hy
            have:=bd k
            rw [show (x:Int)=y by walk_at "o"];exact hy
          · intro hx
            exact ⟨_,hx,by simp⟩
        have hfree:∀ x ∈ (itl os (i:Int) M).map Int.toNat,x<n/\row.getD x 0=(x:Int):=fun x hx=>by
          have r:=(hmem x).mp hx
          obtain ⟨k,hk⟩:=r
          have:=bd k
          have hxn:x<n:=by walk_at "o"
          exact ⟨hxn,ih2 x hxn (zZ.apart h (by walk_at "o") hns ⟨k,hk⟩)⟩
        have hM1:=hM.1
        obtain ⟨s1,s2,s3,s4⟩:=yJ hnd (fun x hx=>by rw [l];exact (hfree x hx).1) (fun x hx=>(hfree x hx).2) (by walk_at "o") (M - 1) (by walk_at "o")
        have htake:(zW ((itl os (i:Int) M).map Int.toNat)).take (M - 1)=zW ((itl os (i:Int) M).map Int.toNat):=by
          rw [List.take_of_length_le]
          unfold zW
          rw [List.length_map,List.length_drop,hcl]
          exact Nat.le_refl _
        rw [htake] at s1 s2 s3 s4
        refine ⟨by rw [xw];exact l,fun t ht hs=>?_,fun t ht hs=>?_⟩
        · have nx:Rch os (t:Int) (os.getD t 0):=⟨1,by show os.getD ((t:Int)).toNat 0=_;rw [Int.toNat_natCast]⟩
          have gb:=h.getD ht
          rcases zZ.succ.mp hs with z | z
          · have hnot : (os.getD t 0).toNat ∉ (itl os (i : Int) M).map Int.toNat := fun hm => by
              have r:=(hmem _).mp hm
              rw [Int.toNat_of_nonneg gb.1] at r
              obtain ⟨q,hq,rq⟩:=z
              exact zZ.apart h (by walk_at "o") hns r ⟨q,hq,rq.trans nx⟩
            rw [s4 _ hnot]
            exact ih1 t ht z
          · obtain ⟨k,hk,ek⟩:=qd.mp ((Rch.mem_ring hM).mp z)
            have enx:os.getD t 0=itn os (k+1) (i:Int):=by
              show _=nxt os (itn os k (i:Int))
              rw [ek]
              show _=os.getD ((t:Int)).toNat 0
              rw [Int.toNat_natCast]
            rw [enx]
            by_cases hlast:k+1=M
            · rw [hlast,hM.2.1]
              have:((i:Int)).toNat=((itl os (i:Int) M).map Int.toNat).getD 0 0:=by rw [cg 0 (by walk_at "o")];rfl
              rw [this,s1,cg (M - 1) (by walk_at "o"),show M - 1=k by walk_at "o",ek]
              simp
            · have:=s2 (k+1) (by walk_at "o") (by walk_at "o")
              rw [cg (k+1) (by walk_at "o"),show k+1 - 1=k by walk_at "o",cg k hk,ek] at this
              rw [this]
              simp
        · have hnot:t ∉ (itl os (i:Int) M).map Int.toNat:=fun hm=>hs (zZ.succ.mpr (.inr ((hmem t).mp hm)))
          rw [s4 t hnot]
          exact ih2 t ht fun z=>hs (zZ.succ.mpr (.inl z))
      · rw [if_neg (fun z=>hp z.2)]
        have hfix:os.getD i 0=(i:Int):=Classical.byContradiction fun z=>hp ((Zm h (by walk_at "o")).mpr z)
        have hstay:∀ k,itn os k (i:Int)=(i:Int):=by
          intro k
          induction k with
          | zero=>rfl
          | succ k ih=>
            show nxt os (itn os k (i:Int))=_
            rw [ih]
            show os.getD ((i:Int)).toNat 0=_
            rw [Int.toNat_natCast,hfix]
        refine ⟨l,fun t ht hs=>?_,fun t ht hs=>ih2 t ht fun z=>hs (zZ.succ.mpr (.inl z))⟩
        rcases zZ.succ.mp hs with z | ⟨k,z⟩
        · exact ih1 t ht z
        · rw [hstay k] at z
          have:i=t:=by walk_at "o"
          subst this
          rw [hfix,Int.toNat_natCast]
          exact ih2 i ht hns
    · rw [if_neg (fun z=>hL z.1)]
      have hs0:zZ os i (i:Int):=Classical.byContradiction fun z=>hL (qX.mpr z)
      exact ⟨l,fun t ht hs=>ih1 t ht ((zZ.step h (by walk_at "o") hs0).mp hs),fun t ht hs=>ih2 t ht fun z=>hs ((zZ.step h (by walk_at "o") hs0).mpr z)⟩
theorem VZ {n:Nat}{os:List Int}(h:zB n os){t:Nat}(ht:t<n):(swR (zr 0 1 n) (jc os n)).getD (os.getD t 0).toNat 0=(t:Int):=
 (xS h n (Nat.le_refl n)).2.1 t ht ⟨t,ht,Rch.refl⟩
section
variable {X:Cx}
variable {o e:Expr}{es:List Expr}{to:TE}{t:TA}{name:Str}{apos cpos:Pos}{T id:String}{r:V->List V->Hp->VK->Prop}{K:PySem.W.Frag}
end
section
variable {X:Cx}{tg:Expr}
end
inductive Dd where
 | take (p:Nat) | move (p g:Nat) | lay (g:Nat)
noncomputable abbrev RS:=List (Option Int) × Option Int × List Int
noncomputable def inc (mv:List Int)(x:Int):List Int:=mv.set x.toNat (mv.getD x.toNat 0+1)
inductive Do:Dd->RS->RS->Prop
 | take {p:Nat} {row:List (Option Int)} {mv:List Int} {x:Int}:row[p]?=some (some x)->Do (.take p) (row,none,mv) (row.set p none,some x,inc mv x)
 | move {p g:Nat} {row:List (Option Int)} {h:Option Int} {mv:List Int} {x:Int}:row[p]?=some (some x)->row[g]?=some none->Do (.move p g) (row,h,mv) ((row.set p none).set g (some x),h,inc mv x)
 | lay {g:Nat} {row:List (Option Int)} {mv:List Int} {x:Int}:row[g]?=some none->Do (.lay g) (row,some x,mv) (row.set g (some x),none,inc mv x)
inductive Dos:List Dd->RS->RS->Prop
 | nil {s:RS}:Dos [] s s
 | cons {d:Dd} {l:List Dd} {s t u:RS}:Do d s t->Dos l t u->Dos (d :: l) s u
theorem Dos.append {a b:List Dd}{s t u:RS}(h1:Dos a s t)(h2:Dos b t u):Dos (a ++ b) s u:=by
 induction h1 with
 | nil=>exact h2
 | cons d _ ih=>exact .cons d (ih h2)
noncomputable def mvP:Nat->List Nat->List Dd
 | _,[]=>[]
 | g,p :: ps=>.move p g :: mvP p ps
noncomputable def qQ (c:List Nat):List Dd:=.take (c.getD 0 0) :: mvP (c.getD 0 0) (c.drop 1).reverse ++ [.lay ((c.drop 1).reverse.getLastD (c.getD 0 0))]
theorem Dj:∀ (ps:List Nat) (g:Nat) (row:List (Option Int)) (h:Option Int) (mv:List Int),row[g]?=some none->(g :: ps).Nodup->(∀ p ∈ ps,row[p]?=some (some (p:Int))) ->
  ∃ row',Dos (mvP g ps) (row,h,mv) (row',h,ps.foldl (fun m (p:Nat)=>inc m (p:Int)) mv)/\row'.length=row.length/\row'[ps.getLastD g]?=some none/\(∀ (i p:Nat),ps[i]?=some p->row'[(g :: ps).getD i 0]?=some (some (p:Int)))/\∀ x,x ∉ g :: ps->row'[x]?=row[x]?
 | [],g,row,h,mv,hg,_,_=>⟨row,.nil,rfl,hg,fun i p e=>by simp at e,fun x _=>rfl⟩
 | p :: ps,g,row,h,mv,hg,nd,hp=>by
  have gl:g<row.length:=(List.getElem?_eq_some_iff.mp hg).1
  have hp0:=hp p (by simp)
  have pl:p<row.length:=(List.getElem?_eq_some_iff.mp hp0).1
  rw [List.nodup_cons] at nd
  obtain ⟨n1,n2⟩:=nd
  have ngp:g ≠ p:=fun z=>n1 (by rw [z];simp)
  have at1:∀ x,((row.set p none).set g (some (p:Int)))[x]?=if x=g then some (some (p:Int)) else if x=p then some none else row[x]?:=by
   intro x
   rw [List.getElem?_set,List.getElem?_set,List.length_set]
   by_cases e1:x=g
   ·subst e1;simp [gl]
   ·rw [if_neg (fun z=>e1 z.symm),if_neg e1]
    by_cases e2:x=p
    ·subst e2;simp [pl]
    ·rw [if_neg (fun z=>e2 z.symm),if_neg e2]
  obtain ⟨row',d,l,hl,hs,ho⟩:=Dj ps p ((row.set p none).set g (some (p:Int))) h (inc mv (p:Int)) (by rw [at1,if_neg (fun z=>ngp z.symm),if_pos rfl]) n2 (fun q hq=>by
   rw [at1,if_neg (fun z=>n1 (by rw [<- z];simp [hq])),if_neg (fun z=>(List.nodup_cons.mp n2).1 (by rw [<- z];exact hq))]
   exact hp q (by simp [hq]))
  refine ⟨row',.cons (.move hp0 hg) d,by rw [l,List.length_set,List.length_set],?_,fun i q e=>?_,fun x hx=>?_⟩
  ·rw [show (p :: ps).getLastD g=ps.getLastD p by simp [List.getLastD_eq_getLast?,List.getLast?_cons]];exact hl
  ·cases i with
   | zero=>
    have:p=q:=by simpa using e
    subst this
    show row'[g]?=_
    rw [ho g n1,at1,if_pos rfl]
   | succ i=>exact hs i q (by simpa using e)
  ·have hx1:x ≠ g:=fun z=>hx (by simp [z])
   have hx2:x ∉ p :: ps:=fun z=>hx (List.mem_cons_of_mem _ z)
   rw [ho x hx2,at1,if_neg hx1,if_neg (fun z=>hx2 (by simp [z]))]
noncomputable def w8 (c:List Nat)(mv:List Int):List Int:=inc ((c.drop 1).reverse.foldl (fun m (p:Nat)=>inc m (p:Int)) (inc mv ((c.getD 0 0:Nat):Int))) ((c.getD 0 0:Nat):Int)
theorem Bv {R:List Int}{c:List Nat}{mv:List Int}(nd:c.Nodup)(hc:2<=c.length)(hb:∀ x ∈ c,x<R.length)(h0:∀ x ∈ c,R.getD x 0=(x:Int)) :
  Dos (qQ c) (R.map some,none,mv) ((swR R (zW c)).map some,none,w8 c mv):=by
 obtain ⟨c0,ct,rfl⟩:∃ c0 ct,c=c0 :: ct:=by
  cases c with
  | nil=>simp at hc
  | cons a b=>exact ⟨a,b,rfl⟩
 have hat:∀ x ∈ c0 :: ct,(R.map some)[x]?=some (some (x:Int)):=fun x hx=>by
  rw [List.getElem?_map,List.getElem?_eq_getElem (hb x hx),<- h0 x hx,qe (hb x hx)];rfl
 have l0:c0<R.length:=hb c0 (by simp)
 have nd':=List.nodup_cons.mp nd
 have hrow:((R.map some).set c0 none)[c0]?=some none:=by rw [List.getElem?_set,List.length_map];simp [l0]
 obtain ⟨row',d,l,hl,hs,ho⟩:=Dj ct.reverse c0 ((R.map some).set c0 none) (some (c0:Int)) (inc mv (c0:Int)) hrow
  (List.nodup_cons.mpr ⟨by simpa using nd'.1,(by have h:=nd'.2;rw [List.nodup_iff_pairwise_ne] at h ⊢;rw [List.pairwise_reverse];exact h.imp fun z=>z.symm)⟩) (fun p hp=>by
   have hp':p ∈ ct:=by simpa using hp
   rw [List.getElem?_set,if_neg (fun z=>nd'.1 (by rw [z];exact hp'))]
   exact hat p (by simp [hp']))
 have hct:1<=ct.length:=by simpa using hc
 rw [List.length_set,List.length_map] at l
 have last:ct.reverse.getLastD c0=ct.getD 0 0:=by
  cases ct with
  | nil=>simp at hct
  | cons a b=>simp [List.getLastD_eq_getLast?]
 have hl':=hl
 rw [last] at hl
 have e:row'.set (ct.getD 0 0) (some (c0:Int))=(swR R (zW (c0 :: ct))).map some:=by
  obtain ⟨s1,s2,s3,s4⟩:=yJ (row:=R) nd hb h0 (by walk_at "o") ((c0 :: ct).length - 1) (by simp)
  have htake:(zW (c0 :: ct)).take ((c0 :: ct).length - 1)=zW (c0 :: ct):=by
   rw [List.take_of_length_le]
   unfold zW
   rw [List.length_map,List.length_drop]
   exact Nat.le_refl _
  rw [htake] at s1 s2 s4
  have lsw:=xw (zW (c0 :: ct)) R
  have l1:ct.getD 0 0<row'.length:=by rw [l];exact hb _ (by rw [List.getD_eq_getElem?_getD,List.getElem?_eq_getElem hct];simp)
  refine List.ext_getElem? fun x=>?_
  rw [List.getElem?_set,List.getElem?_map]
  by_cases hx:x<R.length
  ·have ex:(swR R (zW (c0 :: ct)))[x]?=some ((swR R (zW (c0 :: ct))).getD x 0):=by rw [List.getD_eq_getElem?_getD,List.getElem?_eq_getElem (by walk_at "o")];rfl
   rw [ex]
   show _=some (some _)
   by_cases hm:x ∈ c0 :: ct
   ·obtain ⟨k,hk,ek⟩:=List.mem_iff_getElem.mp hm
    have gd:∀ i (hi:i<(c0 :: ct).length),(c0 :: ct).getD i 0=(c0 :: ct)[i]:=fun i hi=>by rw [List.getD_eq_getElem?_getD,List.getElem?_eq_getElem hi];rfl
    rcases k with _ | _ | k
    ·have ek:c0=x:=ek
     subst ek
     have ne:ct.getD 0 0 ≠ c0:=fun z=>nd'.1 (by rw [<- z,List.getD_eq_getElem?_getD,List.getElem?_eq_getElem hct];simp)
     rw [if_neg ne]
     have:=hs 0 (ct.getD (ct.length - 1) 0) (by rw [List.getElem?_reverse (by walk_at "o"),List.getD_eq_getElem?_getD,show ct.length - 1 - 0=ct.length - 1 by walk_at "o",List.getElem?_eq_getElem (by walk_at "o")];rfl)
     rw [show (c0 :: ct.reverse).getD 0 0=c0 from rfl] at this
     rw [this]
     have s1':(swR R (zW (c0 :: ct))).getD c0 0=_:=s1
     rw [s1',gd _ (by simp)]
     simp only [List.length_cons,Nat.add_sub_cancel]
     rw [List.getD_eq_getElem?_getD,List.getElem?_eq_getElem (by walk_at "o")]
     obtain ⟨m,hm'⟩:∃ m,ct.length=m+1:=⟨ct.length - 1,by walk_at "o"⟩
     simp [hm']
    ·have ek:ct[0]=x:=ek
     have e0:ct.getD 0 0=x:=by rw [List.getD_eq_getElem?_getD,List.getElem?_eq_getElem hct];exact ek
     rw [if_pos e0,if_pos l1]
     have:=s2 1 (Nat.le_refl 1) (by simp;walk_at "o")
     rw [gd 1 (by simpa using hk)] at this
     rw [show x=(c0 :: ct)[1] from ek.symm,this]
     rfl
    ·have hk':k+1<ct.length:=by simpa using hk
     have ek:ct[k+1]=x:=ek
     have ne:ct.getD 0 0 ≠ x:=fun z=>by
      rw [List.getD_eq_getElem?_getD,List.getElem?_eq_getElem hct,<- ek] at z
      have:=(List.getElem_inj nd'.2).mp (show ct[0]=ct[k+1] from z)
      walk_at "o"
     rw [if_neg ne]
     have hi1:ct.length - 1 - (k+1)<ct.reverse.length:=by rw [List.length_reverse];walk_at "o"
     have:=hs (ct.length - 1 - k) (ct.getD k 0) (by rw [List.getElem?_reverse (by walk_at "o"),List.getD_eq_getElem?_getD,show ct.length - 1 - (ct.length - 1 - k)=k by walk_at "o",List.getElem?_eq_getElem (by walk_at "o")];rfl)
     rw [show (c0 :: ct.reverse).getD (ct.length - 1 - k) 0=x by
      rw [show ct.length - 1 - k=(ct.length - 1 - (k+1))+1 by walk_at "o",List.getD_eq_getElem?_getD,List.getElem?_cons_succ,List.getElem?_reverse (by walk_at "o"),show ct.length - 1 - (ct.length - 1 - (k+1))=k+1 by walk_at "o",List.getElem?_eq_getElem hk']
      exact ek] at this
     rw [this]
     have s2':=s2 (k+2) (by walk_at "o") (by simp;walk_at "o")
     rw [gd (k+2) hk,show (c0 :: ct)[k+2]=x from ek] at s2'
     rw [s2',show k+2 - 1=k+1 by walk_at "o",gd (k+1) (by simp;walk_at "o"),List.getD_eq_getElem?_getD,List.getElem?_eq_getElem (by walk_at "o")]
     rfl
   ·rw [s4 x hm]
    have hm2:x ∉ c0 :: ct.reverse:=fun z=>hm (by simpa using z)
    have ne:ct.getD 0 0 ≠ x:=fun z=>hm (by rw [<- z,List.getD_eq_getElem?_getD,List.getElem?_eq_getElem hct];simp)
    rw [if_neg ne,ho x hm2,List.getElem?_set,if_neg (fun z=>hm (by simp [z])),List.getElem?_map,qe hx,List.getElem?_eq_getElem hx]
    rfl
  ·have ne:ct.getD 0 0 ≠ x:=fun z=>by walk_at "o"
   rw [if_neg ne,List.getElem?_eq_none (by walk_at "o"),List.getElem?_eq_none (by walk_at "o")]
   rfl
 refine .cons (.take (hat c0 (by simp))) (Dos.append d (.cons (.lay hl') ?_))
 show Dos [] (row'.set (ct.reverse.getLastD c0) (some (c0:Int)),none,w8 (c0 :: ct) mv) _
 rw [last,e]
 exact .nil
noncomputable def xY (os:List Int)(i:Nat)(mv:List Int):List Int:=(zo os i).foldl (fun m r=>w8 (r.map Int.toNat) m) mv
noncomputable def jJ (os:List Int)(i:Nat):List Dd:=((zo os i).map fun r=>qQ (r.map Int.toNat)).flatten
open Classical in
theorem Q5 {n:Nat}{os:List Int}(h:zB n os)(mv:List Int):∀ i,i<=n->Dos (jJ os i) ((zr 0 1 n).map some,none,mv) ((swR (zr 0 1 n) (jc os i)).map some,none,xY os i mv)
 | 0,_=>.nil
 | i+1,hi=>by
  have d1:=Q5 h mv i (by walk_at "o")
  obtain ⟨l,ih1,ih2⟩:=xS h i (by walk_at "o")
  obtain ⟨M,hM,hMn⟩:=kT h (p:=(i:Int)) (by walk_at "o") (by walk_at "o")
  have hst:jc os (i+1)=jc os i ++ (((if yY os i/\1<per os (i:Int) then [zH os (i:Int)] else []).map fun r=>zW (r.map Int.toNat)).flatten):=by
   unfold jc
   show ((zo os i ++ _).map _).flatten=_
   rw [List.map_append,List.flatten_append]
  have hrp:jJ os (i+1)=jJ os i ++ (((if yY os i/\1<per os (i:Int) then [zH os (i:Int)] else []).map fun r=>qQ (r.map Int.toNat)).flatten):=by
   unfold jJ
   show ((zo os i ++ _).map _).flatten=_
   rw [List.map_append,List.flatten_append]
  have hrm:xY os (i+1) mv=(if yY os i/\1<per os (i:Int) then [zH os (i:Int)] else []).foldl (fun m r=>w8 (r.map Int.toNat) m) (xY os i mv):=by
   unfold xY
   show (zo os i ++ _).foldl _ _=_
   rw [List.foldl_append]
  rw [hst,hrp,hrm,Zz]
  by_cases hL:yY os i/\1<per os (i:Int)
  ·rw [if_pos hL]
   have hns:=qX.mp hL.1
   have hM2:1<M:=by rw [<- hM.per];exact hL.2
   have e1:([zH os (i:Int)].map fun r=>zW (r.map Int.toNat)).flatten=zW ((itl os (i:Int) M).map Int.toNat):=by
    unfold zH
    rw [hM.per]
    simp
   have e2:([zH os (i:Int)].map fun r=>qQ (r.map Int.toNat)).flatten=qQ ((itl os (i:Int) M).map Int.toNat):=by
    unfold zH
    rw [hM.per]
    simp
   have e3:[zH os (i:Int)].foldl (fun m r=>w8 (r.map Int.toNat) m) (xY os i mv)=w8 ((itl os (i:Int) M).map Int.toNat) (xY os i mv):=by
    unfold zH
    rw [hM.per]
    rfl
   rw [e1,e2,e3]
   have hcl:((itl os (i:Int) M).map Int.toNat).length=M:=by rw [List.length_map,qz]
   have bd:∀ k,0<=itn os k (i:Int)/\itn os k (i:Int)<n:=fun k=>qm h (by walk_at "o") (by walk_at "o") k
   have hnd:((itl os (i:Int) M).map Int.toNat).Nodup:=by
    rw [List.nodup_iff_pairwise_ne,List.pairwise_map]
    refine List.Pairwise.imp_of_mem (fun {a b} ha hb hab e=>?_) (List.nodup_iff_pairwise_ne.mp (yE h (p:=(i:Int)) (by walk_at "o") (by walk_at "o") hM))
    obtain ⟨k1,_,e1⟩:=qd.mp ha
    obtain ⟨k2,_,e2⟩:=qd.mp hb
    have b1:=bd k1
    have b2:=bd k2
    exact hab (by walk_at "o")
   have hfree:∀ x ∈ (itl os (i:Int) M).map Int.toNat,x<n/\(swR (zr 0 1 n) (jc os i)).getD x 0=(x:Int):=fun x hx=>by
    obtain ⟨y,hy,e⟩:=List.mem_map.mp hx
    obtain ⟨k,hk,ek⟩:=qd.mp hy
    have:=bd k
    have hxn:x<n:=by walk_at "o"
    exact ⟨hxn,ih2 x hxn (zZ.apart h (by walk_at "o") hns ⟨k,by walk_at "o"⟩)⟩
   have d2:=Bv (R:=swR (zr 0 1 n) (jc os i)) (mv:=xY os i mv) hnd (by walk_at "o") (fun x hx=>by rw [l];exact (hfree x hx).1) (fun x hx=>(hfree x hx).2)
   exact d1.append d2
  ·rw [if_neg hL]
   exact d1.append .nil
section
variable {X:Cx}{K:PySem.W.Frag}
end
section
variable {X:Cx}
end
section
variable {X:Cx}
end
theorem yx {prog:Program}{w:World}{A:Around}{E:Value->Shared->Prop}{s:Shared}{sl:Addr}{vl vu vs:Value}{n:Nat}{Q:Int × Int × Nat->Shared->Prop}(hs:s.heap.IsSliceOf sl vl vu vs)(pl:IsPart vl none)(pu:IsPart vu none)(ps:IsPart vs (some (-1)))
  (h:Q ((n:Int) - 1,-1,n) s):wpAny (model prog w) A (Builtin.Slice.sliceApplied (.ref sl) (pure (n:Int))) Q E s:=by
 obtain ⟨os,hos,hcs,hds⟩:=id hs
 unfold Builtin.Slice.sliceApplied Builtin.Slice.sliceFields
 refine wpAny_bind (wpAny_bind (wpAny_field hos hds (x:=vl) rfl (wpAny_bind (wpAny_field hos hds (x:=vu) rfl (wpAny_bind (wpAny_field hos hds (x:=vs) rfl (wpAny_pure ?_)))))))
 refine wpAny_bind (HT.slicePart_ ps ?_)
 show wpAny _ _ (if ((-1:Int) == 0)=true then _ else _) _ _ s
 rw [if_neg (by decide)]
 refine wpAny_bind (HT.slicePart_ pl (wpAny_bind (HT.slicePart_ pu (wpAny_bind (wpAny_pure ?_)))))
 show wpAny _ _ (pure ((n:Int) - 1,(-1:Int),Builtin.Slice.slicePlaces ((n:Int) - 1) (-1) (-1))) _ _ s
 have e:Builtin.Slice.slicePlaces ((n:Int) - 1) (-1) (-1)=n:=by
  unfold Builtin.Slice.slicePlaces
  rw [if_neg (by decide)]
  split
  ·rw [show - -(1:Int)=1 from rfl,Int.ediv_one];walk_at "o"
  ·walk_at "o"
 rw [e]
 exact wpAny_pure h
theorem WB (xs:List Value):((List.range xs.length).filterMap fun (m:Nat)=>xs.toArray[(((xs.length:Int) - 1)+(m:Int) * -1).toNat]?)=xs.reverse:=by
 have go:∀ (ks:List Nat),(∀ k ∈ ks,k<xs.length)->(ks.filterMap fun (m:Nat)=>xs.toArray[(((xs.length:Int) - 1)+(m:Int) * -1).toNat]?)=ks.map fun k=>xs.reverse.getD k .none:=by
  intro ks
  induction ks with
  | nil=>intro _;rfl
  | cons k ks ih=>
   intro hk
   have h0:=hk k (by simp)
   have e1:(((xs.length:Int) - 1)+(k:Int) * -1).toNat=xs.length - 1 - k:=by walk_at "o"
   have e2:xs.toArray[(((xs.length:Int) - 1)+(k:Int) * -1).toNat]?=some (xs.reverse.getD k .none):=by
    rw [e1,List.getElem?_toArray,List.getD_eq_getElem?_getD,List.getElem?_reverse h0,List.getElem?_eq_getElem (by walk_at "o")];rfl
   rw [List.filterMap_cons_some (f:=fun (m:Nat)=>xs.toArray[(((xs.length:Int) - 1)+(m:Int) * -1).toNat]?) e2,ih fun j hj=>hk j (by simp [hj])];rfl
 rw [go _ fun k hk=>by simpa using hk]
 refine List.ext_getElem? fun i=>?_
 rw [List.getElem?_map]
 by_cases h:i<xs.length
 ·rw [List.getElem?_range h,List.getElem?_eq_getElem (by rw [List.length_reverse];exact h)]
  show some (xs.reverse.getD i .none)=_
  rw [List.getD_eq_getElem?_getD,List.getElem?_eq_getElem (by rw [List.length_reverse];exact h)];rfl
 ·rw [List.getElem?_eq_none (by rw [List.length_range];walk_at "o"),List.getElem?_eq_none (by rw [List.length_reverse];walk_at "o")];rfl
theorem yc {prog:Program}{w:World}{A:Around}{E:Value->Shared->Prop}{s:Shared}{t sl:Addr}{xs:List Value}{vl vu vs:Value}{Q:Value->Shared->Prop}(ht:IsTup s.heap t xs.toArray)(hs:s.heap.IsSliceOf sl vl vu vs)(pl:IsPart vl none)(pu:IsPart vu none)(ps:IsPart vs (some (-1)))
  (h:Q (.ref s.heap.objs.size) { s with heap:=s.heap.push { cls:=.type "tuple",data:=.seq xs.reverse.toArray } })
  (hsz:xs.length<=sizeLine):wpAny (model prog w) A (getItem (.ref t) (.ref sl)) Q E s:=by
 have htake:sizeOk (.seq xs.reverse.toArray):=by
  show xs.reverse.toArray.size<=sizeLine
  rw [List.size_toArray,List.length_reverse];exact hsz
 obtain ⟨os,hos,hcs,hds⟩:=id hs
 have hTs:s.TypeIs (.ref sl) "slice":=⟨os,hos,hcs⟩
 unfold getItem
 try with_reducible refine wpAny_holding ?_
 first | refine wpAny_bind (wpAny_pure ?_) | skip
 refine wpAny_bind (wpAny_sequenceKey ht.typeIs (by decide) ?_)
 refine wpAny_bind (wpAny_callSpecial?_slot (name:=Str.ofString "__getitem__") ht.typeIs PyProof.Rows.slot_tuple_getitem
  (wpAny_call_entry PyProof.Rows.slot_tuple_getitem ht.typeIs PyProof.Rows.entry_tuple_getitem ?_ (PyProof.Rows.args_tuple_getitem _ _)))
 show wpAny _ _ (Builtin.Tuple.tupleItemsOf (.ref t) >>= _) _ _ s
 refine wpAny_bind (tupleItemsOf_ ht ?_)
 refine wpAny_bind (wpAny_typeOf hTs ?_)
 rw [if_pos (by decide)]
 refine wpAny_bind (yx hs pl pu ps ?_)
 have hno:¬ ((((xs.toArray.size:Int) - 1) == 0 && (-1:Int) == 1 && xs.toArray.size == xs.toArray.size)=true):=by
  intro q
  rw [Bool.and_eq_true,Bool.and_eq_true] at q
  exact absurd q.1.2 (by decide)
 show wpAny _ _ (if (((xs.toArray.size:Int) - 1) == 0 && (-1:Int) == 1 && xs.toArray.size == xs.toArray.size)=true then _ else _) _ _ s
 have ep:=WB xs
 rw [if_neg hno]
 rw [List.size_toArray]
 rw [ep]
 first
  | exact wpAny_bind (m:=Builtin.Tuple.tupleExact _) (wpAny_newObj_type (wpAny_pure ⟨_,rfl,wpAny_pure h⟩) htake)
  | exact wpAny_bind (m:=Builtin.Tuple.tupleExact _) (wpAny_newObj_type (wpAny_bind (wpAny_pure (wpAny_pure ⟨_,rfl,wpAny_pure h⟩))) htake)
  | exact wpAny_bind (wpAny_bind (m:=Builtin.Tuple.tupleExact _) (wpAny_newObj_type (wpAny_pure (wpAny_pure ⟨_,rfl,wpAny_pure h⟩)) htake))
  | exact wpAny_bind (wpAny_bind (m:=Builtin.Tuple.tupleExact _) (wpAny_newObj_type (wpAny_pure ⟨_,rfl,wpAny_pure h⟩) htake))
theorem BQ (xs:List V):slV xs none none (some (-1))=xs.reverse:=by
 have hb:sliceBounds none none (some (-1)) xs.length=((xs.length:Int) - 1,-1,-1):=rfl
 unfold slV
 rw [hb]
 have key:sliceRange ((xs.length:Int) - 1) (-1) (-1)=(List.range xs.length).map fun k=>xs.length - 1 - k:=by
  unfold sliceRange
  dsimp only
  rw [if_neg (by decide)]
  have hc:((if (xs.length:Int) - 1 > -1 then ((xs.length:Int) - 1 - -1 - -1 - 1) / - -1 else 0).toNat)=xs.length:=by
   split
   ·rw [show - -(1:Int)=1 from rfl,Int.ediv_one];walk_at "o"
   ·walk_at "o"
  rw [hc]
  refine List.map_congr_left fun k hk=>?_
  have:k<xs.length:=by simpa using hk
  walk_at "o"
 show List.filterMap (fun k=>xs[k]?) (sliceRange ((xs.length:Int) - 1) (-1) (-1))=_
 rw [key,List.filterMap_map]
 have go:∀ (ks:List Nat),(∀ k ∈ ks,k<xs.length)->List.filterMap ((fun k=>xs[k]?) ∘ fun k=>xs.length - 1 - k) ks=ks.map fun k=>xs.reverse.getD k .non:=by
  intro ks
  induction ks with
  | nil=>intro _;rfl
  | cons k ks ih=>
   intro hk
   have h0:=hk k (by simp)
   have e2:((fun k=>xs[k]?) ∘ fun k=>xs.length - 1 - k) k=some (xs.reverse.getD k .non):=by
    show xs[xs.length - 1 - k]?=_
    rw [List.getD_eq_getElem?_getD,List.getElem?_reverse h0,List.getElem?_eq_getElem (by walk_at "o")];rfl
   rw [List.filterMap_cons_some e2,ih fun j hj=>hk j (by simp [hj])];rfl
 rw [go _ fun k hk=>by simpa using hk]
 refine List.ext_getElem? fun i=>?_
 rw [List.getElem?_map]
 by_cases h:i<xs.length
 ·rw [List.getElem?_range h,List.getElem?_eq_getElem (by rw [List.length_reverse];exact h)]
  show some (xs.reverse.getD i .non)=_
  rw [List.getD_eq_getElem?_getD,List.getElem?_eq_getElem (by rw [List.length_reverse];exact h)];rfl
 ·rw [List.getElem?_eq_none (by rw [List.length_range];walk_at "o"),List.getElem?_eq_none (by rw [List.length_reverse];walk_at "o")];rfl
theorem zu.rev {xs:List V}{us:List Value}(r:zu xs us):zu xs.reverse us.reverse:=by
 induction r with
 | nil=>exact .nil
 | cons h _ ih=>rw [List.reverse_cons,List.reverse_cons];exact ih.append (.cons h .nil)
noncomputable def BP (K:PySem.W.Frag):V->Hp->VK->Prop:=fun x H Q=>∃ a xs,x=.ref a/\((SqL K H a xs/\∀ p,H p=none->Q (.ref p) (upd H p (.lst xs.reverse))) \/ (SqT K H a xs/\∀ p,H p=none->Q (.ref p) (upd H p (.tup xs.reverse))))
noncomputable def Fg (K:PySem.W.Frag)(te:TE)(ts:TO):TE:=fun σ H Q=>te σ H fun x H1=>ts σ H1 fun z H2=>z=some (-1)/\BP K x H2 Q
section
variable {X:Cx}{e st:Expr}{te:TE}{ts:TO}{p2 pos:Pos}
theorem Yo (he:PE X e te)(hst:PO X (some st) ts):PE X (.Subscript e (.Slice none none (some st) p2) pos) (Fg X.K te ts):=by
 intro pins s σ H Q I h
 refine Subscript_ (thn (he pins s σ H _ I h) fun v s1 ⟨x,H1,I1,r1,q1⟩=>?_)
 refine wpAny_Slice (thn (ki pins s1 σ H1 (fun z H2=>z=none/\ts σ H2 fun z H2=>z=some (-1)/\BP X.K x H2 Q) I1 ⟨rfl,q1⟩) fun vl s2 ⟨l,H2,I2,pl,e1,q2⟩=>thn (ki pins s2 σ H2 (fun z H3=>z=none/\ts σ H3 fun z H2=>z=some (-1)/\BP X.K x H2 Q) I2 ⟨rfl,q2⟩) fun vu s3 ⟨u,H3,I3,pu,e2,q3⟩=>thn (hst pins s3 σ H3 _ I3 q3) fun vs s4 ⟨z,H4,I4,pz,e3,q4⟩=>?_)
 subst e1 e2 e3
 have I5:Inv X pins σ H4 { s4 with heap:=s4.heap.push { cls:=.type "slice",data:=.fields #[vl,vu,vs] } }:=I4.kept (t':=s4.toks) fun b ob q=>Heap.get?_push_of_some _ q
 obtain ⟨a,xs,rfl,q⟩:=q4
 cases r1
 rcases q with ⟨hx,q⟩ | ⟨hx,q⟩
 ·obtain ⟨its,r,ht,hz⟩:=I5.list hx
  have hlen:=r.length
  show wpAny (model X.prog X.w) X.A (subscriptTail e (.Slice none none (some st) p2) (.ref a) (.ref s4.heap.objs.size)) (EP X pins σ Q) X.xe { s4 with heap:=s4.heap.push { cls:=.type "slice",data:=.fields #[vl,vu,vs] } }
  refine tail_any (ops:=[.ref a,.ref s4.heap.objs.size]) ht.isList.typeIs slot_list_getitem.lookup ?_ rfl
  refine wpAny_getItem_list_slice ht.isList (Heap.IsSliceOf.new ..) pl pu pz (by decide) ?_ (by rw [List.size_toArray];walk_at "o")
  have e1:slicePick its.toArray none none (some (-1))=(List.filterMap (fun x=>its[x]?) (sliceRange (sliceBounds none none (some (-1)) xs.length).1 (sliceBounds none none (some (-1)) xs.length).2.1 (sliceBounds none none (some (-1)) xs.length).2.2)).toArray:=by
   unfold slicePick
   rw [List.size_toArray,<- hlen]
   simp only [List.getElem?_toArray]
  rw [e1]
  have rr:=yF r (sliceRange (sliceBounds none none (some (-1)) xs.length).1 (sliceBounds none none (some (-1)) xs.length).2.1 (sliceBounds none none (some (-1)) xs.length).2.2)
  have er:(List.filterMap (fun k=>xs[k]?) (sliceRange (sliceBounds none none (some (-1)) xs.length).1 (sliceBounds none none (some (-1)) xs.length).2.1 (sliceBounds none none (some (-1)) xs.length).2.2))=xs.reverse:=BQ xs
  rw [er] at rr
  refine ⟨.ref _,_,I5.laid (t':=s4.toks) (o:=.lst xs.reverse) (fun b ob q=>Heap.get?_push_of_some _ q) (Nat.le_refl _) ?_,rfl,q _ (I5.hok.fresh (Nat.le_refl _))⟩
  refine ⟨?_,_,0,rr,Heap.get?_push_size _ rfl⟩
  rw [List.length_reverse];exact hz
 ·obtain ⟨its,r,ht,hz⟩:=I5.tuple hx
  show wpAny (model X.prog X.w) X.A (subscriptTail e (.Slice none none (some st) p2) (.ref a) (.ref s4.heap.objs.size)) (EP X pins σ Q) X.xe { s4 with heap:=s4.heap.push { cls:=.type "slice",data:=.fields #[vl,vu,vs] } }
  refine tail_any (ops:=[.ref a,.ref s4.heap.objs.size]) ht.typeIs PyProof.Rows.slot_tuple_getitem.lookup ?_ rfl
  refine yc ht (Heap.IsSliceOf.new ..) pl pu pz ?_ (by rw [<- r.length];exact hz)
  refine ⟨.ref _,_,I5.laid (t':=s4.toks) (o:=.tup xs.reverse) (fun b ob q=>Heap.get?_push_of_some _ q) (Nat.le_refl _) ?_,rfl,q _ (I5.hok.fresh (Nat.le_refl _))⟩
  exact ⟨by rw [List.length_reverse];exact hz,_,zu.rev r,wq.new _ _⟩
end
section
variable {X:Cx}
end
noncomputable def AtM (K:PySem.W.Frag)(C:Addr)(m qual:Str)(st:Stmt):Prop:=∃ f fd,Fun K m qual st f fd/\GV K C m f
section
variable {X:Cx}{k:Nat}{C:Addr}{m x:Str}{ps:List Str}{sp:Sp}{p pos apos:Pos}{o e:Expr}{es:List Expr}{t:TA}{to:TE}
end
structure KD (K:PySem.W.Frag)(w:World)(a:Addr)(kvs:List (Key × V)):Prop where
 ex:∃ es ep,K.lookup a=some ⟨.type "dict",none,.dict es ep,#[]⟩/\∀ P:Program,PySem.KeysOf (vp P w) es/\∃ vs,KV kvs vs/\Pairs (vp P w) es.toList vs/\(vs.map (·.1)).Nodup
 ns:(a == sysModules)=false
section
variable {X:Cx}{e:Expr}{ty:TE}{p apos cpos:Pos}{x:Str}{a:Addr}{kvs:List (Key × V)}
end
section
variable {X:Cx}
end
theorem GM {K:PySem.W.Frag}{C f:Addr}{m qual:Str}{st:Stmt}{oc kV dc pm cd ct:Value}{od an:Option Addr}{sl:Array (Option Value)}(a1:PySem.W.findIn K (.ref C) m=some (some (.ref f)))(i1:PySem.W.isFn K (.ref f)=true)
  (l1:K.lookup f=some ⟨oc,od,.func (PySem.W.fnOf m qual (jg st) (qq st) (zj st) .none kV dc pm an cd ct),sl⟩) (c1:PySem.W.codeIn K cd qual=true) (k1:PySem.W.keepIn K (.ref f)=true):AtM K C m qual st:=⟨f,_,WQ l1 c1 k1,⟨a1,i1,k1⟩⟩
section
variable {X:Cx}
noncomputable def Zk:V->List V->Hp->VK->Prop:=fun x vs H Q=>∃ l xs v,x=.ref l/\vs=[v]/\H l=some (.lst xs)/\xs.all j5=true/\j5 v=true/\Q (.int ((xs.countP fun y=>eqV y v:Nat))) H
theorem yO {x:V}:∀ {xs:List V} {us:List Value},zu xs us->xs.all j5=true->us.countP (eqU x)=xs.countP fun y=>eqV y x
 | _,_,.nil,_=>rfl
 | y :: xs,u :: us,.cons r t,f=>by
  rw [List.all_cons,Bool.and_eq_true] at f
  rw [List.countP_cons,List.countP_cons,yO t f.2,VM r f.1]
theorem xm:MtR X "list.count" Zk:=by
 intro pins s σ H x vs v us Q I rx rv h
 obtain ⟨l,xs,i,rfl,rfl,hH,hf,hi,q⟩:=h
 cases rx
 obtain ⟨u,rfl,ru⟩:=rv.one
 obtain ⟨z,its,n,r,hl,e⟩:=I.lstM hH
 refine call_meets F.slot_list_count ⟨_,e,rfl⟩ F.entry_list_count (F.args_list_count_2 _ _) (SeqAt.list_countAt l its.toArray n none _ u (eqU i)) ⟨e,?_,?_⟩
 ·intro y hy
  exact vV ru hi r hf y (by simpa using hy)
 ·refine ⟨.int ((xs.countP fun y=>eqV y i:Nat)),H,I.kept (t':=s.toks+1) fun b o e=>e,⟨s.toks,?_⟩,q⟩
  show Value.int ((its.countP (eqU i):Nat):Int) s.toks=_
  rw [yO r hf]
end
structure ScG (X:Cx)(ts:List Nat)(scope:Scope):Prop where
 kind:scope.kind=.function
 cell:∀ y ∈ scope.names,y.2=.cell->scope.names.lookup y.1=some .cell
 loc:∀ y ∈ scope.names,y.2=.local->scope.names.lookup y.1=some .local
 free:∀ y ∈ scope.names,y.2=.free->X.env.kindOf y.1=some .cell \/ X.env.kindOf y.1=some .free
 ts:∀ (i:Nat) x,X.N[i]?=some x->scope.names.lookup x=some .local \/ scope.names.lookup x=some .cell->i ∈ ts
section
variable {X:Cx}{ts:List Nat}{scope:Scope}{pins:List (Addr × Obj)}{σ:St}{H:Hp}{s:Shared}{fp:List Addr}
end
section
variable {X:Cx}{ts:List Nat}{scope:Scope}{tg iter elt:Expr}{ifs:List Expr}{wi:TI}{g:TG}{tt:TT}{te:TE}{pos:Pos}
end
section
variable {X:Cx}
end
inductive Dat where
 | non | bl (b:Bool) | int (i:Int) | str (x:Str) | ty (n:String) | lst (l:List Dat) | tup (l:List Dat) | rng (lo hi c:Int) | scr (K:PySem.W.Frag) (l:List Int)
inductive AV where
 | d (x:Dat) | ref (a:Addr)
inductive MO where
 | lst (l:List AV) | dK (kvs:List (Key × AV)) | ins (C:Addr) (fs:List (Str × AV)) | exc (C:Addr) (fs:List (Str × V)) | tb (R:Array Value->Addr->Obj->Prop)
noncomputable def GX (a C:Addr)(d:Option Addr):HO:=.ext fun h=>∃ o,h.get? a=some o/\o.cls=.ref C/\o.dict=d/\∃ vs,o.data=.fields vs
noncomputable abbrev MH:=Addr->Option MO
noncomputable abbrev ASt:=List (Option AV)
noncomputable def mup (M:MH)(a:Addr)(o:MO):MH:=fun b=>if b=a then some o else M b
theorem ze {M:MH}{a:Addr}{o:MO}:mup M a o a=some o:=if_pos rfl
theorem zC {M:MH}{a b:Addr}{o:MO}(h:b ≠ a):mup M a o b=M b:=if_neg h
theorem jz {M:MH}{a:Addr}{o u:MO}:mup (mup M a o) a u=mup M a u:=by
 funext b;unfold mup;split <;> rfl
noncomputable abbrev Own:=Addr->Prop
inductive Rep (H:Hp) (O:Own):V->Dat->Prop
 | non:Rep H O .non .non
 | bl {b:Bool}:Rep H O (.bl b) (.bl b)
 | int {i:Int}:Rep H O (.int i) (.int i)
 | str {x:Str}:Rep H O (.str x) (.str x)
 | ty {n:String}:Rep H O (.ty n) (.ty n)
 | lst {a:Addr} {xs:List V} {l:List Dat}:¬ O a->H a=some (.lst xs)->xs.length=l.length->(∀ (i:Nat) x d,xs[i]?=some x->l[i]?=some d->Rep H O x d)->Rep H O (.ref a) (.lst l)
 | tup {a:Addr} {xs:List V} {l:List Dat}:¬ O a->H a=some (.tup xs)->xs.length=l.length->(∀ (i:Nat) x d,xs[i]?=some x->l[i]?=some d->Rep H O x d)->Rep H O (.ref a) (.tup l)
 | rng {a:Addr} {lo hi c:Int}:¬ O a->H a=some (wf a lo hi c)->Rep H O (.ref a) (.rng lo hi c)
 | scr {a:Addr} {K:PySem.W.Frag} {l:List Int}:¬ O a->Rd H a (.lst (l.map V.int))->Rep H O (.ref a) (.scr K l)
 | scrK {a:Addr} {K:PySem.W.Frag} {l:List Int}:SqL K (fun _=>none) a (l.map V.int)->Rep H O (.ref a) (.scr K l)
noncomputable def Xw (H:Hp)(O:Own)(xs:List V)(l:List Dat):Prop:=xs.length=l.length/\∀ (i:Nat) x d,xs[i]?=some x->l[i]?=some d->Rep H O x d
noncomputable def zq (H:Hp)(O:Own)(M:MH)(v:V):AV->Prop
 | .d x=>Rep H O v x
 | .ref a=>v=.ref a/\M a ≠ none
noncomputable def zf (H:Hp)(O:Own)(M:MH)(xs:List V)(l:List AV):Prop:=xs.length=l.length/\∀ (i:Nat) x d,xs[i]?=some x->l[i]?=some d->zq H O M x d
noncomputable def QW {κ:Type}(H:Hp)(O:Own)(M:MH)(xs:List (κ × V))(l:List (κ × AV)):Prop:=xs.map (·.1)=l.map (·.1)/\zf H O M (xs.map (·.2)) (l.map (·.2))
noncomputable def jq (H:Hp)(O:Own)(M:MH)(a:Addr):MO->Prop
 | .lst l=>∃ xs,H a=some (.lst xs)/\zf H O M xs l
 | .dK kvs=>∃ xs,H a=some (.dK xs)/\QW H O M xs kvs
 | .ins C fs=>∃ dx xs,H a=some (.ins C dx xs)/\QW H O M xs fs/\O dx/\M dx=none/\H dx=some (.own a)
 | .exc C fs=>∃ d,H a=some (GX a C d)/\(d=none/\fs=[] \/ ∃ dx,d=some dx/\H dx=some (.xd fs)/\O dx/\M dx=none)
 | .tb R=>∃ ps,H a=some (.tbl ps)/\(ps=#[] \/ ∃ c oc u,R ps c oc/\¬ O c/\H c=some (.frz oc u))
structure Wf (H:Hp)(O:Own)(M:MH):Prop where
 mo:∀ a o,M a=some o->jq H O M a o
 own:∀ a,M a ≠ none->O a
 al:∀ a,O a->∃ o,H a=some o/\∀ xs,o ≠ .tup xs
theorem Wf.ne {H:Hp}{O:Own}{M:MH}(w:Wf H O M)(a:Addr)(h:O a):H a ≠ none:=by obtain ⟨o,e,_⟩:=w.al a h;rw [e];exact fun z=>nomatch z
structure Ext (H:Hp)(O:Own)(M:MH)(H':Hp)(O':Own)(M':MH):Prop where
 fix:∀ a o,¬ O a->H a=some o->H' a=some o/\¬ O' a
 prv:∀ a,O a->M a=none->H' a=H a/\O' a/\M' a=none
 mst:∀ a,M a ≠ none->M' a ≠ none
theorem Ext.refl {H:Hp}{O:Own}{M:MH}:Ext H O M H O M:=⟨fun _ _ h e=>⟨e,h⟩,fun _ h e=>⟨rfl,h,e⟩,fun _ h=>h⟩
theorem Ext.trans {H H1 H2:Hp}{O O1 O2:Own}{M M1 M2:MH}(a:Ext H O M H1 O1 M1)(b:Ext H1 O1 M1 H2 O2 M2):Ext H O M H2 O2 M2:=
 ⟨fun x o h e=>let ⟨e1,h1⟩:=a.fix x o h e;b.fix x o h1 e1,fun x h e=>by
  obtain ⟨e1,h1,n1⟩:=a.prv x h e
  obtain ⟨e2,h2,n2⟩:=b.prv x h1 n1
  exact ⟨e2.trans e1,h2,n2⟩,fun x h=>b.mst x (a.mst x h)⟩
theorem Rep.imp {H H':Hp}{O O':Own}(k:∀ a o,¬ O a->H a=some o->H' a=some o/\¬ O' a){v:V}{d:Dat}(r:Rep H O v d):Rep H' O' v d:=by
 induction r with
 | non=>exact .non
 | bl=>exact .bl
 | int=>exact .int
 | str=>exact .str
 | ty=>exact .ty
 | lst h e l _ ih=>exact .lst (k _ _ h e).2 (k _ _ h e).1 l ih
 | tup h e l _ ih=>exact .tup (k _ _ h e).2 (k _ _ h e).1 l ih
 | rng h e=>exact .rng (k _ _ h e).2 (k _ _ h e).1
 | scr h e=>
  rcases e with e | ⟨o,e⟩
  ·exact .scr (k _ _ h e).2 (.inl (k _ _ h e).1)
  ·exact .scr (k _ _ h e).2 (.inr ⟨o,(k _ _ h e).1⟩)
 | scrK h=>exact .scrK h
theorem Aq {H:Hp}{O:Own}{K:PySem.W.Frag}{v:V}{l:List Int}(r:Rep H O v (.scr K l)):∃ a,v=.ref a/\SqL K H a (l.map V.int):=by
 cases r with
 | @scr a _ _ _ h=>exact ⟨a,rfl,.inl h⟩
 | @scrK a _ _ h=>
  rcases h with (h | ⟨o,h⟩) | h
  ·cases h
  ·cases h
  ·exact ⟨a,rfl,.inr h⟩
theorem Rep.ext {H H':Hp}{O O':Own}{M M':MH}(k:Ext H O M H' O' M'){v:V}{d:Dat}(r:Rep H O v d):Rep H' O' v d:=r.imp k.fix
theorem zq.ext {H H':Hp}{O O':Own}{M M':MH}(k:Ext H O M H' O' M'){v:V}{x:AV}(r:zq H O M v x):zq H' O' M' v x:=by
 cases x with
 | d x=>exact Rep.ext k r
 | ref a=>exact ⟨r.1,k.mst a r.2⟩
theorem zf.ext {H H':Hp}{O O':Own}{M M':MH}(k:Ext H O M H' O' M'){xs:List V}{l:List AV}(r:zf H O M xs l):zf H' O' M' xs l:=⟨r.1,fun i x d e1 e2=>(r.2 i x d e1 e2).ext k⟩
theorem QW.ext {κ:Type}{H H':Hp}{O O':Own}{M M':MH}(k:Ext H O M H' O' M'){xs:List (κ × V)}{l:List (κ × AV)}(r:QW H O M xs l):QW H' O' M' xs l:=⟨r.1,r.2.ext k⟩
theorem zf.nil {H:Hp}{O:Own}{M:MH}:zf H O M [] []:=⟨rfl,fun i x d e=>by simp at e⟩
theorem zf.cons {H:Hp}{O:Own}{M:MH}{x:V}{d:AV}{xs:List V}{l:List AV}(h:zq H O M x d)(r:zf H O M xs l):zf H O M (x :: xs) (d :: l):=
 ⟨by simp [r.1],fun i y e h1 h2=>by
  cases i with
  | zero=>simp at h1 h2;subst h1 h2;exact h
  | succ i=>simp at h1 h2;exact r.2 i y e h1 h2⟩
theorem zf.head {H:Hp}{O:Own}{M:MH}{x:V}{d:AV}{xs:List V}{l:List AV}(r:zf H O M (x :: xs) (d :: l)):zq H O M x d/\zf H O M xs l:=
 ⟨r.2 0 x d rfl rfl,by have:=r.1;simpa using this,fun i y e h1 h2=>r.2 (i+1) y e (by simpa using h1) (by simpa using h2)⟩
theorem zf.nil_inv {H:Hp}{O:Own}{M:MH}{xs:List V}(r:zf H O M xs []):xs=[]:=List.length_eq_zero_iff.mp r.1
theorem zf.cons_inv {H:Hp}{O:Own}{M:MH}{xs:List V}{d:AV}{l:List AV}(r:zf H O M xs (d :: l)):∃ x r',xs=x :: r'/\zq H O M x d/\zf H O M r' l:=by
 cases xs with
 | nil=>have:=r.1;simp at this
 | cons x r'=>exact ⟨x,r',rfl,r.head⟩
theorem zf.append {H:Hp}{O:Own}{M:MH}{xs ys:List V}{l m:List AV}(a:zf H O M xs l)(b:zf H O M ys m):zf H O M (xs ++ ys) (l ++ m):=
 ⟨by rw [List.length_append,List.length_append,a.1,b.1],fun i x d h1 h2=>by
  by_cases c:i<xs.length
  ·rw [List.getElem?_append_left c] at h1
   rw [List.getElem?_append_left (by rw [<- a.1];exact c)] at h2
   exact a.2 i x d h1 h2
  ·rw [List.getElem?_append_right (by walk_at "o")] at h1
   rw [List.getElem?_append_right (by rw [<- a.1];walk_at "o"),<- a.1] at h2
   exact b.2 _ x d h1 h2⟩
theorem zf.snoc {H:Hp}{O:Own}{M:MH}{xs:List V}{l:List AV}{x:V}{d:AV}(a:zf H O M xs l)(b:zq H O M x d):zf H O M (xs ++ [x]) (l ++ [d]):=a.append (.cons b .nil)
theorem zf.set {H:Hp}{O:Own}{M:MH}{xs:List V}{l:List AV}{x:V}{d:AV}(a:zf H O M xs l)(b:zq H O M x d)(j:Nat):zf H O M (xs.set j x) (l.set j d):=
 ⟨by rw [List.length_set,List.length_set,a.1],fun i y e h1 h2=>by
  rw [List.getElem?_set] at h1 h2
  by_cases c:j=i
  ·rw [if_pos c] at h1 h2
   split at h1
   ·split at h2
    ·cases h1;cases h2;exact b
    ·cases h2
   ·cases h1
  ·rw [if_neg c] at h1 h2
   exact a.2 i y e h1 h2⟩
theorem zf.get {H:Hp}{O:Own}{M:MH}{xs:List V}{l:List AV}(a:zf H O M xs l){i:Nat}{d:AV}(h:l[i]?=some d):∃ x,xs[i]?=some x/\zq H O M x d:=by
 have hi:=(List.getElem?_eq_some_iff.mp h).1
 have hx:i<xs.length:=by rw [a.1];exact hi
 exact ⟨xs[i],by simp [hx],a.2 i _ _ (by simp [hx]) h⟩
theorem zf.get' {H:Hp}{O:Own}{M:MH}{xs:List V}{l:List AV}(a:zf H O M xs l){i:Nat}{x:V}(h:xs[i]?=some x):∃ d,l[i]?=some d/\zq H O M x d:=by
 have hi:=(List.getElem?_eq_some_iff.mp h).1
 have hx:i<l.length:=by rw [<- a.1];exact hi
 exact ⟨l[i],by simp [hx],a.2 i _ _ h (by simp [hx])⟩
theorem zf.drop {H:Hp}{O:Own}{M:MH}{xs:List V}{l:List AV}(a:zf H O M xs l)(k:Nat):zf H O M (xs.drop k) (l.drop k):=
 ⟨by rw [List.length_drop,List.length_drop,a.1],fun i x d h1 h2=>by rw [List.getElem?_drop] at h1 h2;exact a.2 _ x d h1 h2⟩
theorem zf.take {H:Hp}{O:Own}{M:MH}{xs:List V}{l:List AV}(a:zf H O M xs l)(k:Nat):zf H O M (xs.take k) (l.take k):=
 ⟨by rw [List.length_take,List.length_take,a.1],fun i x d h1 h2=>by
  rw [List.getElem?_take] at h1 h2
  by_cases c:i<k
  ·rw [if_pos c] at h1 h2
   exact a.2 _ x d h1 h2
  ·rw [if_neg c] at h1
   cases h1⟩
theorem Xw.av {H:Hp}{O:Own}{M:MH}{xs:List V}{l:List Dat}(r:Xw H O xs l):zf H O M xs (l.map .d):=
 ⟨by rw [List.length_map];exact r.1,fun i x d h1 h2=>by
  rw [List.getElem?_map] at h2
  cases e:l[i]? with
  | none=>rw [e] at h2;cases h2
  | some y=>rw [e] at h2;cases h2;exact r.2 i x y h1 e⟩
theorem zf.pure {H:Hp}{O:Own}{M:MH}{xs:List V}{l:List Dat}(r:zf H O M xs (l.map .d)):Xw H O xs l:=
 ⟨by have:=r.1;rwa [List.length_map] at this,fun i x d h1 h2=>r.2 i x (.d d) h1 (by rw [List.getElem?_map,h2];rfl)⟩
theorem Wf.fresh {H:Hp}{O:Own}{M:MH}(w:Wf H O M){p:Addr}(h:H p=none):¬ O p/\M p=none:=by
 have:¬ O p:=fun z=>w.ne p z h
 exact ⟨this,by
  cases e:M p with
  | none=>rfl
  | some o=>exact absurd (w.own p (by rw [e];exact fun z=>nomatch z)) this⟩
theorem jq.ext {H H':Hp}{O O':Own}{M M':MH}(k:Ext H O M H' O' M'){a:Addr}{o:MO}(e:H' a=H a)(r:jq H O M a o):jq H' O' M' a o:=by
 cases o with
 | lst l=>obtain ⟨xs,h,r⟩:=r;exact ⟨xs,e.trans h,r.ext k⟩
 | dK l=>obtain ⟨xs,h,r⟩:=r;exact ⟨xs,e.trans h,r.ext k⟩
 | ins C fs=>obtain ⟨dx,xs,h,r,q1,q2,q3⟩:=r;obtain ⟨x1,x2,x3⟩:=k.prv dx q1 q2;exact ⟨dx,xs,e.trans h,r.ext k,x2,x3,x1.trans q3⟩
 | exc C fs=>
  obtain ⟨d,h,r⟩:=r
  refine ⟨d,e.trans h,?_⟩
  rcases r with r | ⟨dx,e1,h1,h2,h3⟩
  ·exact .inl r
  ·obtain ⟨x1,x2,x3⟩:=k.prv dx h2 h3;exact .inr ⟨dx,e1,x1.trans h1,x2,x3⟩
 | tb R=>obtain ⟨ps,h,r⟩:=r;exact ⟨ps,e.trans h,r.imp id fun ⟨c,oc,u,h1,h2,h3⟩=>⟨c,oc,u,h1,(k.fix c _ h2 h3).2,(k.fix c _ h2 h3).1⟩⟩
theorem qj {H:Hp}{O:Own}{M:MH}(w:Wf H O M){p:Addr}(h:H p=none)(o:HO):Ext H O M (upd H p o) O M:=
 ⟨fun a u ha e=>⟨by rw [zk (zi e h)];exact e,ha⟩,fun a ha e=>⟨zk (fun z=>w.ne a ha (by rw [z];exact h)),ha,e⟩,fun _ h=>h⟩
theorem ke {H:Hp}{O:Own}{M:MH}(w:Wf H O M){p:Addr}(h:H p=none)(o:HO):Wf (upd H p o) O M:=
 ⟨fun a mo e=>jq.ext (qj w h o) (zk (fun z=>by rw [z,(w.fresh h).2] at e;cases e)) (w.mo a mo e),w.own,fun a ha=>by
  have:a ≠ p:=fun z=>w.ne a ha (by rw [z];exact h)
  rw [zk this];exact w.al a ha⟩
noncomputable def Xo (O:Own)(p:Addr):Own:=fun a=>a=p \/ O a
noncomputable def A4 (O:Own)(p:Addr):Own:=fun a=>a ≠ p/\O a
theorem yi {H:Hp}{O:Own}{M:MH}(w:Wf H O M){p:Addr}(h:M p ≠ none)(o:HO)(mo:MO):Ext H O M (upd H p o) O (mup M p mo):=
 ⟨fun a u ha e=>⟨by rw [zk (fun z=>ha (by rw [z];exact w.own p h))];exact e,ha⟩,fun a ha e=>by
  have hne:a ≠ p:=fun z=>h (by rw [<- z];exact e)
  exact ⟨zk hne,ha,by rw [zC hne];exact e⟩,fun a ha=>by
  by_cases e:a=p
  ·rw [e,ze];exact fun z=>nomatch z
  ·rw [zC e];exact ha⟩
theorem VL {H:Hp}{O:Own}{M:MH}(w:Wf H O M){p:Addr}(h:M p ≠ none){o:HO}{mo:MO}(ho:∀ xs,o ≠ .tup xs)(r:jq (upd H p o) O (mup M p mo) p mo):Wf (upd H p o) O (mup M p mo):=by
 refine ⟨fun a u e=>?_,fun a ha=>?_,fun a ha=>?_⟩
 ·by_cases c:a=p
  ·subst c;rw [ze] at e;cases e;exact r
  ·rw [zC c] at e
   exact jq.ext (yi w h o mo) (zk c) (w.mo a u e)
 ·by_cases c:a=p
  ·subst c;exact w.own a h
  ·rw [zC c] at ha;exact w.own a ha
 ·by_cases c:a=p
  ·rw [c,zl];exact ⟨o,rfl,ho⟩
  ·rw [zk c];exact w.al a ha
theorem qL {H:Hp}{O:Own}{M:MH}(w:Wf H O M){p:Addr}(h:H p=none)(o:HO):Ext H O M (upd H p o) (Xo O p) M:=
 ⟨fun a u ha e=>⟨by rw [zk (zi e h)];exact e,fun z=>z.elim (zi e h) ha⟩,fun a ha e=>by
  have hne:a ≠ p:=fun z=>w.ne a ha (by rw [z];exact h)
  exact ⟨zk hne,.inr ha,e⟩,fun _ h=>h⟩
theorem yL {H:Hp}{O:Own}{M:MH}(w:Wf H O M){p:Addr}(h:H p=none)(o:HO)(ho:∀ xs,o ≠ .tup xs):Wf (upd H p o) (Xo O p) M:=
 ⟨fun a mo e=>jq.ext (qL w h o) (zk (fun z=>by rw [z,(w.fresh h).2] at e;cases e)) (w.mo a mo e),fun a ha=>.inr (w.own a ha),fun a ha=>by
  by_cases c:a=p
  ·rw [c,zl];exact ⟨o,rfl,ho⟩
  ·rw [zk c];exact w.al a (ha.resolve_left c)⟩
theorem vc {H:Hp}{O:Own}{p:Addr}(hO:O p)(o:HO):∀ a u,¬ O a->H a=some u->upd H p o a=some u/\¬ O a:=fun a u ha e=>⟨by rw [zk (fun z=>ha (by rw [z];exact hO))];exact e,ha⟩
theorem zq.imp {H H':Hp}{O O':Own}{M M':MH}(k:∀ a o,¬ O a->H a=some o->H' a=some o/\¬ O' a)(hm:∀ a,M a ≠ none->M' a ≠ none){v:V}{x:AV}(r:zq H O M v x):zq H' O' M' v x:=by
 cases x with
 | d x=>exact Rep.imp k r
 | ref a=>exact ⟨r.1,hm a r.2⟩
theorem zf.imp {H H':Hp}{O O':Own}{M M':MH}(k:∀ a o,¬ O a->H a=some o->H' a=some o/\¬ O' a)(hm:∀ a,M a ≠ none->M' a ≠ none){xs:List V}{l:List AV}(r:zf H O M xs l):zf H' O' M' xs l:=⟨r.1,fun i x d e1 e2=>(r.2 i x d e1 e2).imp k hm⟩
theorem jq.imp {H H':Hp}{O O':Own}{M:MH}(k:∀ a o,¬ O a->H a=some o->H' a=some o/\¬ O' a){a:Addr}{o:MO}(e:H' a=H a)(hd:∀ dx x,O dx->M dx=none->H dx=some x->((∃ b,x=.own b) \/ ∃ fs,x=.xd fs)->H' dx=some x/\O' dx)(r:jq H O M a o):jq H' O' M a o:=by
 cases o with
 | lst l=>obtain ⟨xs,h,r⟩:=r;exact ⟨xs,e.trans h,r.imp k fun _ z=>z⟩
 | dK l=>obtain ⟨xs,h,r⟩:=r;exact ⟨xs,e.trans h,r.1,r.2.imp k fun _ z=>z⟩
 | ins C fs=>obtain ⟨dx,xs,h,r,q1,q2,q3⟩:=r;exact ⟨dx,xs,e.trans h,⟨r.1,r.2.imp k fun _ z=>z⟩,(hd dx _ q1 q2 q3 (.inl ⟨_,rfl⟩)).2,q2,(hd dx _ q1 q2 q3 (.inl ⟨_,rfl⟩)).1⟩
 | exc C fs=>
  obtain ⟨d,h,r⟩:=r
  refine ⟨d,e.trans h,?_⟩
  rcases r with r | ⟨dx,e1,h1,h2,h3⟩
  ·exact .inl r
  ·obtain ⟨x1,x2⟩:=hd dx _ h2 h3 h1 (.inr ⟨_,rfl⟩);exact .inr ⟨dx,e1,x1,x2,h3⟩
 | tb R=>obtain ⟨ps,h,r⟩:=r;exact ⟨ps,e.trans h,r.imp id fun ⟨c,oc,u,h1,h2,h3⟩=>⟨c,oc,u,h1,(k c _ h2 h3).2,(k c _ h2 h3).1⟩⟩
theorem Jc {H:Hp}{O:Own}{M:MH}(w:Wf H O M){p:Addr}(hO:O p)(hM:M p=none){xs:List V}(hp:H p=some (.lst xs))(o:HO)(ho:∀ xs,o ≠ .tup xs):Wf (upd H p o) O M:=
 ⟨fun a mo e=>jq.imp (vc hO o) (zk (fun z=>by rw [z,hM] at e;cases e)) (fun dx x h1 _ h3 h4=>⟨by rw [zk (Xc h3 hp (by rcases h4 with ⟨_,rfl⟩ | ⟨_,rfl⟩ <;> exact fun z=>nomatch z))];exact h3,h1⟩) (w.mo a mo e),w.own,fun a ha=>by
  by_cases c:a=p
  ·rw [c,zl];exact ⟨o,rfl,ho⟩
  ·rw [zk c];exact w.al a ha⟩
theorem yM {H:Hp}{O:Own}(p:Addr):∀ a u,¬ O a->H a=some u->H a=some u/\¬ A4 O p a:=fun a u ha e=>⟨e,fun z=>ha z.2⟩
theorem Y9 {H:Hp}{O:Own}{M:MH}(w:Wf H O M){p:Addr}(hM:M p=none){xs:List V}(hp:H p=some (.lst xs)):Wf H (A4 O p) M:=
 ⟨fun a mo e=>jq.imp (yM p) rfl (fun dx x h1 _ h3 h4=>⟨h3,⟨Xc h3 hp (by rcases h4 with ⟨_,rfl⟩ | ⟨_,rfl⟩ <;> exact fun z=>nomatch z),h1⟩⟩) (w.mo a mo e),fun a ha=>⟨fun z=>ha (by rw [z];exact hM),w.own a ha⟩,fun a ha=>w.al a ha.2⟩
noncomputable abbrev AK:=AV->MH->Prop
noncomputable abbrev AE:=ASt->MH->AK->Prop
noncomputable abbrev AT:=ASt->MH->(Bool->MH->Prop)->Prop
noncomputable abbrev AA:=ASt->MH->(List AV->MH->Prop)->Prop
structure jw where
 nx:ASt->MH->Prop
 rt:AK
 bk:ASt->MH->Prop:=fun _ _=>False
 ct:ASt->MH->Prop:=fun _ _=>False
noncomputable abbrev AS:=MH->jw->ASt->MH->Prop
noncomputable abbrev AG:=AV->ASt->MH->(ASt->MH->Prop)->Prop
noncomputable abbrev AGs:=List AV->ASt->MH->(ASt->MH->Prop)->Prop
noncomputable abbrev AI:=ASt->MH->(List AV->(MH->Prop)->MH->Prop)->Prop
structure Er (H:Hp)(O:Own)(M:MH)(σ:St)(ρ:ASt):Prop where
 len:σ.length=ρ.length
 get:∀ (i:Nat) x,ρ[i]?=some (some x)->∃ v,σ[i]?=some (some v)/\zq H O M v x
theorem Er.ext {H H':Hp}{O O':Own}{M M':MH}{σ:St}{ρ:ASt}(e:Er H O M σ ρ)(k:Ext H O M H' O' M'):Er H' O' M' σ ρ:=⟨e.len,fun i x h=>let ⟨v,h1,h2⟩:=e.get i x h;⟨v,h1,h2.ext k⟩⟩
theorem Er.set {H:Hp}{O:Own}{M:MH}{σ:St}{ρ:ASt}(e:Er H O M σ ρ){v:V}{x:AV}(r:zq H O M v x)(j:Nat):Er H O M (σ.set j (some v)) (ρ.set j (some x)):=
 ⟨by rw [List.length_set,List.length_set,e.len],fun i y h=>by
  rw [List.getElem?_set] at h ⊢
  by_cases c:j=i
  ·rw [if_pos c] at h ⊢
   by_cases c2:j<ρ.length
   ·rw [if_pos c2] at h;rw [if_pos (by rw [e.len];exact c2)];cases h;exact ⟨v,rfl,r⟩
   ·rw [if_neg c2] at h;cases h
  ·rw [if_neg c] at h ⊢;exact e.get i y h⟩
noncomputable def AL:List Nat->ASt->ASt
 | [],σ=>σ
 | j :: r,σ=>AL r (σ.set j none)
theorem Er.clr {H:Hp}{O:Own}{M:MH}:∀ (ts:List Nat) {σ:St} {ρ:ASt},Er H O M σ ρ->Er H O M (clr ts σ) (AL ts ρ)
  | [],_,_,e=>e
  | j :: r, σ, ρ, e => Er.clr r ⟨by rw [List.length_set, List.length_set, e.len], fun i y h => by
      rw [List.getElem?_set] at h ⊢
      by_cases c:j=i
      · rw [if_pos c] at h
        split at h <;> cases h
      · rw [if_neg c] at h ⊢;exact e.get i y h⟩
structure zU (t:TE)(a:AE):Prop where
 go:∀ {σ:St} {H:Hp} {O:Own} {ρ:ASt} {M:MH} {Q:VK} {Q':AK},Wf H O M->Er H O M σ ρ->a ρ M Q'->(∀ x M' v H' O',Q' x M'->Ext H O M H' O' M'->Wf H' O' M'->zq H' O' M' v x->Q v H')->t σ H Q
structure yP (t:TT)(a:AT):Prop where
 go:∀ {σ:St} {H:Hp} {O:Own} {ρ:ASt} {M:MH} {Q:Bool->Hp->Prop} {Q':Bool->MH->Prop},Wf H O M->Er H O M σ ρ->a ρ M Q'->(∀ b M' H' O',Q' b M'->Ext H O M H' O' M'->Wf H' O' M'->Q b H')->t σ H Q
structure kj (t:TA)(a:AA):Prop where
 go:∀ {σ:St} {H:Hp} {O:Own} {ρ:ASt} {M:MH} {Q:List V->Hp->Prop} {Q':List AV->MH->Prop},Wf H O M->Er H O M σ ρ->a ρ M Q'->(∀ x M' v H' O',Q' x M'->Ext H O M H' O' M'->Wf H' O' M'->zf H' O' M' v x->Q v H')->t σ H Q
structure Zj (t:TE)(a:ASt->MH->(List AV->MH->Prop)->Prop):Prop where
 go:∀ {σ:St} {H:Hp} {O:Own} {ρ:ASt} {M:MH} {Q:VK} {Q':List AV->MH->Prop},Wf H O M->Er H O M σ ρ->a ρ M Q' ->
  (∀ l M' p xs H' O',Q' l M'->Ext H O M H' O' M'->Wf H' O' M'->O' p->M' p=none->H p=none->H' p=some (.lst xs)->zf H' O' M' xs l->Q (.ref p) H')->t σ H Q
noncomputable abbrev AR2:=AV->AV->MH->AK->Prop
structure Zh (r:R2)(a:AR2):Prop where
 go:∀ {x y:V} {dx dy:AV} {H:Hp} {O:Own} {M:MH} {Q:VK} {Q':AK},Wf H O M->zq H O M x dx->zq H O M y dy->a dx dy M Q'->(∀ x M' v H' O',Q' x M'->Ext H O M H' O' M'->Wf H' O' M'->zq H' O' M' v x->Q v H')->r x y H Q
structure GB (r:V->Hp->VK->Prop)(a:AV->MH->AK->Prop):Prop where
 go:∀ {x:V} {dx:AV} {H:Hp} {O:Own} {M:MH} {Q:VK} {Q':AK},Wf H O M->zq H O M x dx->a dx M Q'->(∀ x M' v H' O',Q' x M'->Ext H O M H' O' M'->Wf H' O' M'->zq H' O' M' v x->Q v H')->r x H Q
structure we (r:List V->Hp->VK->Prop)(a:List AV->MH->AK->Prop):Prop where
 go:∀ {vs:List V} {xs:List AV} {H:Hp} {O:Own} {M:MH} {Q:VK} {Q':AK},Wf H O M->zf H O M vs xs->a xs M Q'->(∀ x M' v H' O',Q' x M'->Ext H O M H' O' M'->Wf H' O' M'->zq H' O' M' v x->Q v H')->r vs H Q
noncomputable def zV (i:Nat):AE:=fun ρ M Q=>∃ x,ρ[i]?=some (some x)/\Q x M
noncomputable def aC (d:Dat):AE:=fun _ M Q=>Q (.d d) M
theorem As {i:Nat}:zU (Y3 i) (zV i):=⟨fun w e ⟨x,h,q⟩ k=>let ⟨v,h1,h2⟩:=e.get i x h;⟨v,h1,k _ _ _ _ _ q .refl w h2⟩⟩
theorem Et {i:Int}:zU (tC (.int i)) (aC (.int i)):=⟨fun w _ q k=>k _ _ _ _ _ q .refl w .int⟩
theorem DW {i:Bool}:zU (tC (.bl i)) (aC (.bl i)):=⟨fun w _ q k=>k _ _ _ _ _ q .refl w .bl⟩
theorem EY:zU (tC .non) (aC .non):=⟨fun w _ q k=>k _ _ _ _ _ q .refl w .non⟩
theorem EX {i:Str}:zU (tC (.str i)) (aC (.str i)):=⟨fun w _ q k=>k _ _ _ _ _ q .refl w .str⟩
theorem EC {i:String}:zU (tC (.ty i)) (aC (.ty i)):=⟨fun w _ q k=>k _ _ _ _ _ q .refl w .ty⟩
noncomputable def aOp (r:AR2)(a b:AE):AE:=fun ρ M Q=>a ρ M fun x M1=>b ρ M1 fun y M2=>r x y M2 Q
theorem D6 {r:R2}{ra:AR2}{t u:TE}{a b:AE}(hr:Zh r ra)(h1:zU t a)(h2:zU u b):zU (tOp r t u) (aOp ra a b):=
 ⟨fun w e q k=>h1.go w e q fun x M1 v H1 O1 q1 k1 w1 r1=>h2.go w1 (e.ext k1) q1 fun y M2 u H2 O2 q2 k2 w2 r2=>hr.go w2 (r1.ext k2) r2 q2 fun z M3 v3 H3 O3 q3 k3 w3 r3=>k z M3 v3 H3 O3 q3 ((k1.trans k2).trans k3) w3 r3⟩
noncomputable def aUn (r:AV->MH->AK->Prop)(a:AE):AE:=fun ρ M Q=>a ρ M fun x M1=>r x M1 Q
theorem Ez {r:V->Hp->VK->Prop}{ra:AV->MH->AK->Prop}{t:TE}{a:AE}(hr:GB r ra)(h1:zU t a):zU (tUn r t) (aUn ra a):=
 ⟨fun w e q k=>h1.go w e q fun x M1 v H1 O1 q1 k1 w1 r1=>hr.go w1 r1 q1 fun z M3 v3 H3 O3 q3 k3 w3 r3=>k z M3 v3 H3 O3 q3 (k1.trans k3) w3 r3⟩
noncomputable def ja:AA:=fun _ M Q=>Q [] M
noncomputable def zQ (a:AE)(b:AA):AA:=fun ρ M Q=>a ρ M fun x M1=>b ρ M1 fun xs M2=>Q (x :: xs) M2
theorem Bq:kj DI ja:=⟨fun w _ q k=>k _ _ _ _ _ q .refl w .nil⟩
theorem WT {t:TE}{u:TA}{a:AE}{b:AA}(h1:zU t a)(h2:kj u b):kj (YR t u) (zQ a b):=
 ⟨fun w e q k=>h1.go w e q fun x M1 v H1 O1 q1 k1 w1 r1=>h2.go w1 (e.ext k1) q1 fun y M2 u H2 O2 q2 k2 w2 r2=>k _ _ _ _ _ q2 (k1.trans k2) w2 (.cons (r1.ext k2) r2)⟩
theorem Zo {H:Hp}{O:Own}{M:MH}(is:List Int):zf H O M (is.map V.int) (is.map fun i=>.d (.int i)):=by
 induction is with
 | nil=>exact .nil
 | cons i r ih=>exact .cons .int ih
noncomputable def aCB (r:List AV->MH->AK->Prop)(b:AA):AE:=fun ρ M Q=>b ρ M fun xs M1=>r xs M1 Q
theorem Ep {r:List V->Hp->VK->Prop}{ra:List AV->MH->AK->Prop}{u:TA}{b:AA}(hr:we r ra)(h2:kj u b):zU (tCB r u) (aCB ra b):=
 ⟨fun w e q k=>h2.go w e q fun x M1 v H1 O1 q1 k1 w1 r1=>hr.go w1 r1 q1 fun z M3 v3 H3 O3 q3 k3 w3 r3=>k z M3 v3 H3 O3 q3 (k1.trans k3) w3 r3⟩
noncomputable abbrev ASp:=List AV->MH->AK->Prop
noncomputable def cSp (a:ASp):Sp:=fun vs H Q _=>∃ xs M O Q',Wf H O M/\zf H O M vs xs/\a xs M Q'/\∀ x M' v H' O',Q' x M'->Ext H O M H' O' M'->Wf H' O' M'->zq H' O' M' v x->Q v H'
noncomputable def KW (sp:ASp)(b:AA):AE:=fun ρ M Q=>b ρ M fun xs M1=>sp xs M1 Q
theorem Vh {sp:ASp}{u:TA}{b:AA}(h:kj u b):zU (Kz (cSp sp) [] E0 u) (KW sp b):=
 ⟨fun w e q k=>h.go w e q fun x M1 v H1 O1 q1 k1 w1 r1=>⟨x,M1,O1,_,w1,by rw [List.append_nil];exact r1,q1,fun z M3 v3 H3 O3 q3 k3 w3 r3=>k z M3 v3 H3 O3 q3 (k1.trans k3) w3 r3⟩⟩
noncomputable def pur:List AV->Option (List Dat)
 | []=>some []
 | .d x :: r=>match pur r with | some l=>some (x :: l) | none=>none
 | .ref _ :: _=>none
theorem Av:pur []=some []:=rfl
theorem Wq {x:Dat}{r:List AV}{l:List Dat}(h:pur r=some l):pur (.d x :: r)=some (x :: l):=by unfold pur;rw [h]
theorem zJ (l:List Dat):pur (l.map .d)=some l:=by
 induction l with
 | nil=>rfl
 | cons x r ih=>exact Wq ih
theorem jY:∀ {xs:List AV} {l:List Dat},pur xs=some l->xs=l.map .d
 | [],l,h=>by cases h;rfl
 | .d x :: r,l,h=>by
  unfold pur at h
  cases e:pur r with
  | none=>rw [e] at h;cases h
  | some m=>rw [e] at h;cases h;rw [jY e];rfl
 | .ref _ :: _,_,h=>by cases h
theorem Ext.shown {H H':Hp}{O O':Own}{M M':MH}{p:Addr}(w:Wf H O M)(k:Ext H O M H' O' M')(h:H p=none):Ext H O M H' (A4 O' p) M':=
 ⟨fun a o ha e=>⟨(k.fix a o ha e).1,fun z=>(k.fix a o ha e).2 z.2⟩,fun a ha e=>⟨(k.prv a ha e).1,⟨fun z=>w.ne a ha (by rw [z];exact h),(k.prv a ha e).2.1⟩,(k.prv a ha e).2.2⟩,k.mst⟩
theorem Ext.owned {H H':Hp}{O O':Own}{M M':MH}{p:Addr}(w:Wf H O M)(k:Ext H O M H' O' M')(h:H p=none)(mo:MO):Ext H O M H' O' (mup M' p mo):=
 ⟨k.fix,fun a ha e=>⟨(k.prv a ha e).1,(k.prv a ha e).2.1,by rw [zC (fun z=>w.ne a ha (by rw [z];exact h))];exact (k.prv a ha e).2.2⟩,fun a ha=>by
  by_cases e:a=p
  ·rw [e,ze];exact fun z=>nomatch z
  ·rw [zC e];exact k.mst a ha⟩
theorem Qs {H:Hp}{O:Own}{M:MH}{p:Addr}(w:Wf H O M)(hO:O p)(hM:M p=none){xs:List V}{l:List AV}(hp:H p=some (.lst xs))(r:zf H O M xs l):Wf H O (mup M p (.lst l)):=by
 have km:∀ a,M a ≠ none->mup M p (.lst l) a ≠ none:=fun a ha=>by
  by_cases e:a=p
  ·rw [e,ze];exact fun z=>nomatch z
  ·rw [zC e];exact ha
 refine ⟨fun a u e=>?_,fun a ha=>?_,w.al⟩
 ·by_cases c:a=p
  ·subst c;rw [ze] at e;cases e;exact ⟨xs,hp,r.imp (fun _ _ z h=>⟨h,z⟩) km⟩
  ·rw [zC c] at e
   have:=w.mo a u e
   cases u with
   | lst m=>obtain ⟨ys,h1,h2⟩:=this;exact ⟨ys,h1,h2.imp (fun _ _ z h=>⟨h,z⟩) km⟩
   | dK m=>obtain ⟨ys,h1,h2⟩:=this;exact ⟨ys,h1,h2.1,h2.2.imp (fun _ _ z h=>⟨h,z⟩) km⟩
   | ins C fs=>
    obtain ⟨dx,ys,h1,h2,h3,h4,h5⟩:=this
    exact ⟨dx,ys,h1,⟨h2.1,h2.2.imp (fun _ _ z h=>⟨h,z⟩) km⟩,h3,by rw [zC (Xc h5 hp (fun z=>nomatch z))];exact h4,h5⟩
   | exc C fs=>
    obtain ⟨d,h1,h2⟩:=this
    refine ⟨d,h1,?_⟩
    rcases h2 with h2 | ⟨dx,e1,h2,h3,h4⟩
    ·exact .inl h2
    ·exact .inr ⟨dx,e1,h2,h3,by rw [zC (Xc h2 hp (fun z=>nomatch z))];exact h4⟩
   | tb R=>exact this
 ·by_cases c:a=p
  ·rw [c];exact hO
  ·rw [zC c] at ha;exact w.own a ha
noncomputable abbrev AF:=ASt->MH->(List AV->MH->Prop)->Prop
noncomputable def aFz (a:AF):AE:=fun ρ M Q=>a ρ M fun l M'=>∃ ds,pur l=some ds/\Q (.d (.lst ds)) M'
noncomputable def aOw (a:AF):AE:=fun ρ M Q=>a ρ M fun l M'=>∀ p,M p=none->M' p=none->Q (.ref p) (mup M' p (.lst l))
noncomputable def Gh (t:TE):TE:=t
theorem jt {X:Cx}{e:Expr}{t:TE}(h:PE X e t):PE X e (Gh t):=h
theorem xZ {t:TE}{a:AF}(h:Zj t a):zU t (aFz a):=
 ⟨fun w e q k=>h.go w e q fun l M' p xs H' O' q1 k1 w1 o1 m1 hp hx r1=>by
  obtain ⟨ds,e1,q2⟩:=q1
  rw [jY e1] at r1
  have r2:=r1.pure
  exact k _ _ _ _ _ q2 (k1.shown w hp) (Y9 w1 m1 hx) (Rep.lst (fun z=>z.1 rfl) hx r2.1 fun i x d e1 e2=>(r2.2 i x d e1 e2).imp (yM p))⟩
theorem AM {t:TE}{a:AF}(h:Zj t a):zU (Gh t) (aOw a):=
 ⟨fun w e q k=>h.go w e q fun l M' p xs H' O' q1 k1 w1 o1 m1 hp hx r1=>k _ _ _ _ _ (q1 p (w.fresh hp).2 m1) (k1.owned w hp _) (Qs w1 o1 m1 hx r1) ⟨rfl,by rw [ze];exact fun z=>nomatch z⟩⟩
noncomputable def X5 (b:AA):AF:=fun ρ M Q=>b ρ M fun xs M1=>xs.length<=sizeLine/\Q xs M1
theorem WW {u:TA}{b:AA}(h:kj u b):Zj (EQ u) (X5 b):=
 ⟨fun w e q k=>h.go w e q fun x M1 v H1 O1 q1 k1 w1 r1=>⟨by rw [r1.1];exact q1.1,fun p hp=>
  k x M1 p v _ _ q1.2 (k1.trans (qL w1 hp _)) (yL w1 hp _ (fun _ z=>nomatch z)) (.inl rfl) (w1.fresh hp).2 (by
   cases e0:(_:Hp) p with
   | none=>exact e0
   | some o=>
    exfalso
    rename_i H0 O0 _ M0 _ _
    by_cases c:O0 p
    ·by_cases c2:M0 p=none
     ·exact w1.ne p (k1.prv p c c2).2.1 hp
     ·exact w1.ne p (w1.own p (k1.mst p c2)) hp
    ·rw [(k1.fix p o c e0).1] at hp;cases hp) zl (r1.ext (qL w1 hp _))⟩⟩
noncomputable def XY (b:AA):AE:=fun ρ M Q=>b ρ M fun xs M1=>xs.length<=sizeLine/\∃ ds,pur xs=some ds/\Q (.d (.tup ds)) M1
theorem Ar {u:TA}{b:AA}(h:kj u b):zU (Bl u) (XY b):=
 ⟨fun w e q k=>h.go w e q fun x M1 v H1 O1 q1 k1 w1 r1=>⟨by rw [r1.1];exact q1.1,fun p hp=>by
  obtain ⟨_,ds,e1,q2⟩:=q1
  rw [jY e1] at r1
  have r2:=r1.pure
  exact k _ _ _ _ _ q2 (k1.trans (qj w1 hp _)) (ke w1 hp _) (Rep.tup (w1.fresh hp).1 zl r2.1 fun i x d e1 e2=>(r2.2 i x d e1 e2).ext (qj w1 hp _))⟩⟩
noncomputable def aB (a:AE):AT:=fun ρ M Q=>a ρ M fun x M1=>∃ b,x=.d (.bl b)/\Q b M1
theorem xX {H:Hp}{O:Own}{v:V}{b:Bool}(r:Rep H O v (.bl b)):v=.bl b:=by cases r;rfl
theorem zT {H:Hp}{O:Own}{v:V}{b:Int}(r:Rep H O v (.int b)):v=.int b:=by cases r;rfl
theorem An {H:Hp}{O:Own}{v:V}{b:String}(r:Rep H O v (.ty b)):v=.ty b:=by cases r;rfl
theorem BK {H:Hp}{O:Own}{v:V}(r:Rep H O v .non):v=.non:=by cases r;rfl
theorem Ga {t:TE}{a:AE}(h:zU t a):yP (tB t) (aB a):=⟨fun w e q k=>h.go w e q fun x M1 v H1 O1 ⟨b,e1,q1⟩ k1 w1 r1=>by
 subst e1;exact ⟨b,xX r1,k _ _ _ _ q1 k1 w1⟩⟩
theorem YD {t:TE}{a:AE}(h:zU t a):yP (Ky t) (aB a):=⟨fun w e q k=>h.go w e q fun x M1 v H1 O1 ⟨b,e1,q1⟩ k1 w1 r1=>by
 subst e1;exact ⟨b,xX r1,k _ _ _ _ q1 k1 w1⟩⟩
noncomputable def kB:AT:=fun _ M Q=>Q true M
theorem YL:yP Vi kB:=⟨fun w _ q k=>k _ _ _ _ q .refl w⟩
noncomputable def Gy (a b:AT):AT:=fun ρ M Q=>a ρ M fun c M1=>if c=true then b ρ M1 Q else Q false M1
noncomputable def aOr (a b:AT):AT:=fun ρ M Q=>a ρ M fun c M1=>if c=true then Q true M1 else b ρ M1 Q
noncomputable def Fu (a:AT):AT:=fun ρ M Q=>a ρ M fun c M1=>Q (!c) M1
theorem D7 {t u:TT}{a b:AT}(h1:yP t a)(h2:yP u b):yP (tOr t u) (aOr a b):=⟨fun w e q k=>h1.go w e q fun c M1 H1 O1 q1 k1 w1=>by
 cases c with
 | false=>exact h2.go w1 (e.ext k1) q1 fun c M2 H2 O2 q2 k2 w2=>k _ _ _ _ q2 (k1.trans k2) w2
 | true=>exact k _ _ _ _ q1 k1 w1⟩
theorem BA {t:TT}{a:AT}(h1:yP t a):yP (Fm t) (Fu a):=⟨fun w e q k=>h1.go w e q fun c M1 H1 O1 q1 k1 w1=>k _ _ _ _ q1 k1 w1⟩
noncomputable def Yq (a b:AE):AE:=fun ρ M Q=>a ρ M fun x M1=>∃ c,x=.d (.bl c)/\if c=true then b ρ M1 Q else Q (.d (.bl false)) M1
theorem Wp {t u:TE}{a b:AE}(h1:zU t a)(h2:zU u b):zU (We t u) (Yq a b):=⟨fun w e q k=>h1.go w e q fun x M1 v H1 O1 ⟨c,e1,q1⟩ k1 w1 r1=>by
 subst e1
 refine ⟨c,xX r1,?_⟩
 cases c with
 | true=>exact h2.go w1 (e.ext k1) q1 fun c M2 v2 H2 O2 q2 k2 w2 r2=>k _ _ _ _ _ q2 (k1.trans k2) w2 r2
 | false=>exact k _ _ _ _ _ q1 k1 w1 .bl⟩
noncomputable def Ve (r r':AR2)(a b c:AE):AE:=fun ρ M Q=>a ρ M fun x M1=>b ρ M1 fun y M2=>r x y M2 fun z M3=>∃ k,z=.d (.bl k)/\if k=true then c ρ M3 fun u M4=>r' y u M4 Q else Q (.d (.bl false)) M3
theorem Yd {r r':R2}{ar ar':AR2}{t u v:TE}{a b c:AE}(hr:Zh r ar)(hr':Zh r' ar')(h1:zU t a)(h2:zU u b)(h3:zU v c):zU (V0 r r' t u v) (Ve ar ar' a b c):=
 ⟨fun w e q k=>h1.go w e q fun x M1 v H1 O1 q1 k1 w1 r1=>h2.go w1 (e.ext k1) q1 fun y M2 u H2 O2 q2 k2 w2 r2=>hr.go w2 (r1.ext k2) r2 q2 fun z M3 v3 H3 O3 ⟨c,e3,q3⟩ k3 w3 r3=>by
  subst e3
  refine ⟨c,xX r3,?_⟩
  have k13:=(k1.trans k2).trans k3
  cases c with
  | false=>exact k _ _ _ _ _ q3 k13 w3 .bl
  | true=>exact h3.go w3 (e.ext k13) q3 fun z4 M4 v4 H4 O4 q4 k4 w4 r4=>hr'.go w4 ((r2.ext k3).ext k4) r4 q4 fun z5 M5 v5 H5 O5 q5 k5 w5 r5=>k _ _ _ _ _ q5 ((k13.trans k4).trans k5) w5 r5⟩
structure ED (H0:Hp)(O0:Own)(M0:MH)(D:kF)(D':jw):Prop where
 nx:∀ σ H O ρ M,Wf H O M->Er H O M σ ρ->Ext H0 O0 M0 H O M->D'.nx ρ M->D.nx σ H
 rt:∀ v x H O M,Wf H O M->Ext H0 O0 M0 H O M->zq H O M v x->D'.rt x M->D.rt v H
 bk:∀ σ H O ρ M,Wf H O M->Er H O M σ ρ->Ext H0 O0 M0 H O M->D'.bk ρ M->D.bk σ H
 ct:∀ σ H O ρ M,Wf H O M->Er H O M σ ρ->Ext H0 O0 M0 H O M->D'.ct ρ M->D.ct σ H
theorem ED.tr {H0 H1:Hp}{O0 O1:Own}{M0 M1:MH}{D:kF}{D':jw}(E:ED H0 O0 M0 D D')(k:Ext H0 O0 M0 H1 O1 M1):ED H1 O1 M1 D D':=
 ⟨fun σ H O ρ M w e x q=>E.nx σ H O ρ M w e (k.trans x) q,fun v y H O M w x r q=>E.rt v y H O M w (k.trans x) r q,fun σ H O ρ M w e x q=>E.bk σ H O ρ M w e (k.trans x) q,fun σ H O ρ M w e x q=>E.ct σ H O ρ M w e (k.trans x) q⟩
structure jW (t:TS)(a:AS):Prop where
 go:∀ {H0:Hp} {O0:Own} {M0:MH} {D:kF} {D':jw} {σ:St} {H:Hp} {O:Own} {ρ:ASt} {M:MH},Wf H0 O0 M0->Wf H O M->Er H O M σ ρ->Ext H0 O0 M0 H O M->a M0 D' ρ M->ED H0 O0 M0 D D'->t D σ H
noncomputable def xj:AS:=fun _ D ρ M=>D.nx ρ M
theorem Vs:jW Wn xj:=⟨fun _ w e x q E=>E.nx _ _ _ _ _ w e x q⟩
noncomputable def kW (a b:AS):AS:=fun B D ρ M=>a B { D with nx:=b B D } ρ M
theorem AZ {t u:TS}{a b:AS}(h1:jW t a)(h2:jW u b):jW (Fs t u) (kW a b):=
 ⟨fun w0 w e x q E=>h1.go w0 w e x q ⟨fun σ H O ρ M w e x q=>h2.go w0 w e x q E,E.rt,E.bk,E.ct⟩⟩
noncomputable def Z3 (a:AE):AS:=fun _ D ρ M=>a ρ M fun _ M1=>D.nx ρ M1
theorem W3 {t:TE}{a:AE}(h:zU t a):jW (WV t) (Z3 a):=⟨fun _ w e x q E=>h.go w e q fun y M1 v H1 O1 q1 k1 w1 r1=>E.nx _ _ _ _ _ w1 (e.ext k1) (x.trans k1) q1⟩
noncomputable def FB (a:AE):AS:=fun _ D ρ M=>a ρ M D.rt
theorem Bo {t:TE}{a:AE}(h:zU t a):jW (Eh t) (FB a):=⟨fun _ w e x q E=>h.go w e q fun y M1 v H1 O1 q1 k1 w1 r1=>E.rt _ _ _ _ _ w1 (x.trans k1) r1 q1⟩
noncomputable def QP (c:AT)(a b:AS):AS:=fun B D ρ M=>c ρ M fun k M1=>if k=true then a B D ρ M1 else b B D ρ M1
theorem AJ {c:TT}{t u:TS}{ac:AT}{a b:AS}(hc:yP c ac)(h1:jW t a)(h2:jW u b):jW (D9 c t u) (QP ac a b):=
 ⟨fun w0 w e x q E=>hc.go w e q fun k M1 H1 O1 q1 k1 w1=>by
  cases k with
  | true=>exact h1.go w0 w1 (e.ext k1) (x.trans k1) q1 E
  | false=>exact h2.go w0 w1 (e.ext k1) (x.trans k1) q1 E⟩
noncomputable def W9:AS:=fun _ _ _ _=>False
theorem XT:jW JO W9:=⟨fun _ _ _ _ q _=>q.elim⟩
structure ZA (g:TG)(a:AG):Prop where
 go:∀ {v:V} {x:AV} {σ:St} {H:Hp} {O:Own} {ρ:ASt} {M:MH} {Q:St->Hp->Prop} {Q':ASt->MH->Prop},Wf H O M->Er H O M σ ρ->zq H O M v x->a x ρ M Q' ->
  (∀ σ' H' O' ρ' M',Q' ρ' M'->Ext H O M H' O' M'->Wf H' O' M'->Er H' O' M' σ' ρ'->Q σ' H')->g v σ H Q
structure QY (g:TGs)(a:AGs):Prop where
 go:∀ {v:List V} {x:List AV} {σ:St} {H:Hp} {O:Own} {ρ:ASt} {M:MH} {Q:St->Hp->Prop} {Q':ASt->MH->Prop},Wf H O M->Er H O M σ ρ->zf H O M v x->a x ρ M Q' ->
  (∀ σ' H' O' ρ' M',Q' ρ' M'->Ext H O M H' O' M'->Wf H' O' M'->Er H' O' M' σ' ρ'->Q σ' H')->g v σ H Q
noncomputable def qM (i:Nat):AG:=fun x ρ M Q=>Q (ρ.set i (some x)) M
theorem Ym {i:Nat}:ZA (QU i) (qM i):=⟨fun w e r q k=>k _ _ _ _ _ q .refl w (e.set r i)⟩
noncomputable def yV:AGs:=fun xs ρ M Q=>xs=[]/\Q ρ M
noncomputable def qV (a:AG)(b:AGs):AGs:=fun xs ρ M Q=>∃ x r,xs=x :: r/\a x ρ M fun ρ' M'=>b r ρ' M' Q
theorem WD:QY Fp yV:=⟨fun w e r q k=>by obtain ⟨e1,q⟩:=q;subst e1;exact ⟨r.nil_inv,k _ _ _ _ _ q .refl w e⟩⟩
theorem XX {g:TG}{u:TGs}{a:AG}{b:AGs}(h1:ZA g a)(h2:QY u b):QY (Ah g u) (qV a b):=⟨fun w e r q k=>by
 obtain ⟨x,r',e1,q⟩:=q;subst e1
 obtain ⟨v,vr,e2,rv,rr⟩:=r.cons_inv
 subst e2
 exact ⟨v,vr,rfl,h1.go w e rv q fun σ' H' O' ρ' M' q1 k1 w1 e1=>h2.go w1 e1 (rr.ext k1) q1 fun σ2 H2 O2 ρ2 M2 q2 k2 w2 e2=>k _ _ _ _ _ q2 (k1.trans k2) w2 e2⟩⟩
noncomputable def QD (n:Nat)(b:AGs):AG:=fun x ρ M Q=>∃ l,x=.d (.tup l)/\l.length=n/\b (l.map .d) ρ M Q
theorem W5 {K:PySem.W.Frag}{n:Nat}{u:TGs}{b:AGs}(h:QY u b):ZA (VC K n u) (QD n b):=⟨fun {v x σ H O ρ M Q Q'} w e r q k=>by
 obtain ⟨l,e1,ln,q⟩:=q;subst e1
 cases (show Rep H O v (.tup l) from r) with
 | @tup a xs _ o1 h1 l1 r1=>exact ⟨a,xs,rfl,SqT.of h1,l1.trans ln,h.go w e (Xw.av ⟨l1,r1⟩) q k⟩⟩
noncomputable def qb (x:AV)(M:MH):Option (List AV):=match x with
 | .d (.lst l)=>some (l.map .d)
 | .ref a=>match M a with
  | some (.lst l)=>some l
  | _=>none
 | _=>none
noncomputable def FK (x:AV):Option (List AV):=match x with
 | .d (.tup l)=>some (l.map .d)
 | _=>none
noncomputable def zN (x:AV)(M:MH):Option (List AV):=match x with
 | .d (.lst l)=>some (l.map .d)
 | .d (.tup l)=>some (l.map .d)
 | .ref a=>match M a with
  | some (.lst l)=>some l
  | _=>none
 | _=>none
theorem qO (l:List Dat)(M:MH):qb (.d (.lst l)) M=some (l.map .d):=rfl
theorem FP (l:List Dat):FK (.d (.tup l))=some (l.map .d):=rfl
theorem xO (l:List Dat)(M:MH):zN (.d (.lst l)) M=some (l.map .d):=rfl
theorem Fh (l:List Dat)(M:MH):zN (.d (.tup l)) M=some (l.map .d):=rfl
theorem qo {a:Addr}{M:MH}{l:List AV}(h:M a=some (.lst l)):qb (.ref a) M=some l:=by unfold qb;dsimp only;rw [h]
theorem zX {a:Addr}{M:MH}{l:List AV}(h:M a=some (.lst l)):zN (.ref a) M=some l:=by unfold zN;dsimp only;rw [h]
theorem vJ {x:AV}{M:MH}{l:List AV}(h:qb x M=some l):(∃ m,x=.d (.lst m)/\l=m.map .d) \/ ∃ a,x=.ref a/\M a=some (.lst l):=by
 cases x with
 | d x=>
  cases x with
  | lst m=>cases h;exact .inl ⟨m,rfl,rfl⟩
  | _=>cases h
 | ref a=>
  unfold qb at h
  dsimp only at h
  cases e:M a with
  | none=>rw [e] at h;cases h
  | some o=>
   rw [e] at h
   cases o with
   | lst m=>cases h;exact .inr ⟨a,rfl,e⟩
   | _=>cases h
theorem qH {x:AV}{M:MH}{l:List AV}(h:zN x M=some l):qb x M=some l \/ ∃ m,x=.d (.tup m)/\l=m.map .d:=by
 cases x with
 | d x=>
  cases x with
  | lst m=>cases h;exact .inl rfl
  | tup m=>cases h;exact .inr ⟨m,rfl,rfl⟩
  | _=>cases h
 | ref a=>exact .inl h
theorem zY {H:Hp}{O:Own}{M:MH}{v:V}{x:AV}{l:List AV}(w:Wf H O M)(r:zq H O M v x)(h:qb x M=some l):∃ a xs,v=.ref a/\H a=some (.lst xs)/\zf H O M xs l:=by
 rcases vJ h with ⟨m,rfl,rfl⟩ | ⟨a,rfl,e⟩
 ·cases (show Rep H O v (.lst m) from r) with
  | @lst a xs _ o1 h1 l1 r1=>exact ⟨a,xs,rfl,h1,Xw.av ⟨l1,r1⟩⟩
 ·obtain ⟨xs,h1,r1⟩:=w.mo a _ e
  exact ⟨a,xs,r.1,h1,r1⟩
theorem qP {H:Hp}{O:Own}{M:MH}{v:V}{x:AV}{l:List AV}(r:zq H O M v x)(h:FK x=some l):∃ a xs,v=.ref a/\H a=some (.tup xs)/\zf H O M xs l:=by
 cases x with
 | ref a=>cases h
 | d x=>
  cases x with
  | tup m=>
   cases h
   cases (show Rep H O v (.tup m) from r) with
   | @tup a xs _ o1 h1 l1 r1=>exact ⟨a,xs,rfl,h1,Xw.av ⟨l1,r1⟩⟩
  | _=>cases h
theorem yG {H:Hp}{O:Own}{M:MH}{v:V}{x:AV}{l:List AV}(w:Wf H O M)(r:zq H O M v x)(h:zN x M=some l):∃ a xs,v=.ref a/\(H a=some (.lst xs) \/ H a=some (.tup xs))/\zf H O M xs l:=by
 rcases qH h with e | ⟨m,rfl,rfl⟩
 ·obtain ⟨a,xs,h1,h2,h3⟩:=zY w r e;exact ⟨a,xs,h1,.inl h2,h3⟩
 ·obtain ⟨a,xs,h1,h2,h3⟩:=qP (l:=m.map .d) r rfl;exact ⟨a,xs,h1,.inr h2,h3⟩
structure WC (t:YG)(a:AV->AV->AV->MH->(MH->Prop)->Prop):Prop where
 go:∀ {o i v:V} {ao ai av:AV} {H:Hp} {O:Own} {M:MH} {Q:Hp->Prop} {Q':MH->Prop},Wf H O M->zq H O M o ao->zq H O M i ai->zq H O M v av->a ao ai av M Q'->(∀ M' H' O',Q' M'->Ext H O M H' O' M'->Wf H' O' M'->Q H')->t o i v H Q
noncomputable def Ze (a b:AE)(s:AV->AV->AV->MH->(MH->Prop)->Prop):AG:=fun x ρ M Q=>a ρ M fun o M1=>b ρ M1 fun i M2=>s o i x M2 fun M3=>Q ρ M3
theorem VT {to ti:TE}{t:YG}{a b:AE}{s:AV->AV->AV->MH->(MH->Prop)->Prop}(h1:zU to a)(h2:zU ti b)(h3:WC t s):ZA (EE to ti t) (Ze a b s):=⟨fun w e r q k=>
 h1.go w e q fun x M1 v H1 O1 q1 k1 w1 r1=>h2.go w1 (e.ext k1) q1 fun y M2 u H2 O2 q2 k2 w2 r2=>h3.go w2 (r1.ext k2) r2 (r.ext (k1.trans k2)) q2 fun M3 H3 O3 q3 k3 w3=>k _ _ _ _ _ q3 ((k1.trans k2).trans k3) w3 (e.ext ((k1.trans k2).trans k3))⟩
theorem jT {M:MH}{p:Addr}{o:MO}(h:M p=some o):M p ≠ none:=by rw [h];exact fun z=>nomatch z
noncomputable def asL:AV->AV->AV->MH->(MH->Prop)->Prop:=fun o i v M Q=>∃ p l k j,o=.ref p/\i=.d (.int k)/\M p=some (.lst l)/\ixN l.length k=some j/\Q (mup M p (.lst (l.set j v)))
theorem YA:WC Jx asL:=⟨fun w ro ri rv q k=>by
 obtain ⟨p,l,n,j,rfl,rfl,hm,hj,q⟩:=q
 obtain ⟨xs,hx,rx⟩:=w.mo p _ hm
 have np:=jT hm
 refine ⟨n,zT ri,p,ro.1,xs,hx,j,by rw [rx.1];exact hj,k _ _ _ q (yi w np _ _) (VL w np (fun _ z=>nomatch z) ⟨_,zl,(rx.set rv j).ext (yi w np _ _)⟩)⟩⟩
noncomputable def DY (a:AE)(g:AG):AS:=fun _ D ρ M=>a ρ M fun x M1=>g x ρ M1 D.nx
theorem A6 {t:TE}{g:TG}{a:AE}{ag:AG}(h:zU t a)(hg:ZA g ag):jW (Yc t g) (DY a ag):=⟨fun _ w e x q E=>h.go w e q fun y M1 v H1 O1 q1 k1 w1 r1=>hg.go w1 (e.ext k1) r1 q1 fun σ2 H2 O2 ρ2 M2 q2 k2 w2 e2=>E.nx _ _ _ _ _ w2 e2 ((x.trans k1).trans k2) q2⟩
noncomputable def Gd (i j:Nat)(a:AA):AS:=fun _ D ρ M=>a ρ M fun xs M1=>∃ x y,xs=[x,y]/\D.nx ((ρ.set i (some x)).set j (some y)) M1
theorem A8 {i j:Nat}{t:TA}{a:AA}(h:kj t a):jW (E4 i j t) (Gd i j a):=⟨fun _ w e x q E=>h.go w e q fun ys M1 vs H1 O1 q1 k1 w1 r1=>by
 obtain ⟨y,z,rfl,q2⟩:=q1
 obtain ⟨v1,r',rfl,a1,r2⟩:=r1.cons_inv
 obtain ⟨v2,r',rfl,a2,r3⟩:=r2.cons_inv
 rw [r3.nil_inv]
 exact ⟨v1,v2,rfl,E.nx _ _ _ _ _ w1 (((e.ext k1).set a1 i).set a2 j) (x.trans k1) q2⟩⟩
structure G3 (t:TIp)(a:AR2):Prop where
 go:∀ {x y:V} {dx dy:AV} {H:Hp} {O:Own} {M:MH} {Q:VK} {Q':AK},Wf H O M->zq H O M x dx->zq H O M y dy->a dx dy M Q'->(∀ x M' v H' O',Q' x M'->Ext H O M H' O' M'->Wf H' O' M'->zq H' O' M' v x->Q v H')->t x y H Q
noncomputable def FJ (c:AT)(b:AS):AS:=fun B D ρ M=>∃ W:Nat->ASt->MH->Prop,(∃ m,W m ρ M)/\∀ m ρ M,W m ρ M->c ρ M fun k M1=>if k=true then b B { D with nx:=fun ρ' M'=>∃ m',m'<m/\W m' ρ' M',ct:=fun ρ' M'=>∃ m',m'<m/\W m' ρ' M',bk:=D.nx } ρ M1 else D.nx ρ M1
theorem XH {c:TT}{t:TS}{ac:AT}{a:AS}(hc:yP c ac)(h:jW t a):jW (Kj c t) (FJ ac a):=⟨fun {H0 O0 M0 D D' σ H O ρ M} w0 w e x q E=>by
 obtain ⟨W,⟨m,h0⟩,st⟩:=q
 refine ⟨fun m σ H=>∃ O ρ M,Wf H O M/\Er H O M σ ρ/\Ext H0 O0 M0 H O M/\W m ρ M,⟨m,O,ρ,M,w,e,x,h0⟩,?_⟩
 rintro m σ H ⟨O,ρ,M,w,e,x,hw⟩
 refine hc.go w e (st m ρ M hw) fun k M1 H1 O1 q1 k1 w1=>?_
 cases k with
 | false=>exact E.nx _ _ _ _ _ w1 (e.ext k1) (x.trans k1) q1
 | true=>exact ⟨fun σ' H'=>∃ m',m'<m/\∃ O ρ M,Wf H' O M/\Er H' O M σ' ρ/\Ext H0 O0 M0 H' O M/\W m' ρ M,fun σ' H' z=>z,h.go w0 w1 (e.ext k1) (x.trans k1) q1 ⟨fun σ H O ρ M w e x ⟨m',hm,hw⟩=>⟨m',hm,O,ρ,M,w,e,x,hw⟩,E.rt,E.nx,fun σ H O ρ M w e x ⟨m',hm,hw⟩=>⟨m',hm,O,ρ,M,w,e,x,hw⟩⟩⟩⟩
noncomputable def yC (J:It)(H:Hp)(O:Own)(M:MH)(l:List AV)(G:MH->Prop):Prop:=
 ∀ (H':Hp) (O':Own) (M':MH),(∀ a o,¬ O a->H a=some o->H' a=some o/\¬ O' a)->(∀ a,M a ≠ none->M' a ≠ none)->Wf H' O' M'->G M'->∀ i:Nat,(i=l.length->J.stop i H') /\
  ∀ y,l[i]?=some y->J.go i H'/\∀ x H'',J.yld i H' x H''->Ext H' O' M' H'' O' M'/\Wf H'' O' M'/\zq H'' O' M' x y
structure JF (wi:TI)(ai:AI):Prop where
 go:∀ {σ:St} {H:Hp} {O:Own} {ρ:ASt} {M:MH} {R:It->Hp->Prop} {R':List AV->(MH->Prop)->MH->Prop},Wf H O M->Er H O M σ ρ->ai ρ M R'->(∀ l G M' J H' O',R' l G M'->Ext H O M H' O' M'->Wf H' O' M'->yC J H' O' M' l G->R J H')->wi σ H R
noncomputable def F5 (ag:AG)(ab:AS)(B:MH)(D:jw)(G:MH->Prop)(l:List AV)(ρ:ASt)(M:MH):Prop:=
 ∃ Pv:Nat->ASt->MH->Prop,Pv 0 ρ M/\(∀ i x ρ M,l[i]?=some x->Pv i ρ M->G M/\ag x ρ M fun ρ' M'=>ab B { D with nx:=Pv (i+1),ct:=Pv (i+1),bk:=D.nx } ρ' M')/\∀ ρ M,Pv l.length ρ M->G M/\D.nx ρ M
noncomputable def Gv (ai:AI)(ag:AG)(ab:AS):AS:=fun _ D ρ M=>ai ρ M fun l G M1=>F5 ag ab M1 D G l ρ M1
theorem AB {wi:TI}{g:TG}{t:TS}{ai:AI}{ag:AG}{ab:AS}(hi:JF wi ai)(hg:ZA g ag)(hb:jW t ab):jW (FG wi g t) (Gv ai ag ab):=⟨fun {H0 O0 M0 D D' σ H O ρ M} w0 w e x q E=>by
 rw [K6]
 refine hi.go w e q fun l G M1 J H1 O1 q1 k1 w1 hj=>?_
 have E1:=E.tr (x.trans k1)
 obtain ⟨Pv,p0,ps,pd⟩:=q1
 refine ⟨fun i m σ H=>m=l.length - i/\i<=l.length/\∃ O ρ M,Wf H O M/\Er H O M σ ρ/\Ext H1 O1 M1 H O M/\Pv i ρ M,⟨l.length,by simp,Nat.zero_le _,O1,ρ,M1,w1,e.ext k1,.refl,p0⟩,?_⟩
 rintro i m σ H ⟨rfl,hi,O,ρ,M,w,e,x,hf⟩
 by_cases hil:i<l.length
 ·have hy:l[i]?=some l[i]:=List.getElem?_eq_getElem hil
  obtain ⟨hG,q2⟩:=ps i l[i] ρ M hy hf
  obtain ⟨j1,j2⟩:=(hj H O M x.fix x.mst w hG i).2 l[i] hy
  refine .inr ⟨j1,fun σ' H'=>∃ O ρ M,Wf H' O M/\Er H' O M σ' ρ/\Ext H1 O1 M1 H' O M/\Pv (i+1) ρ M,fun σ' H' z=>⟨l.length - (i+1),by walk_at "o",rfl,hil,z⟩,fun v H' hv=>?_⟩
  obtain ⟨k2,w2,r2⟩:=j2 v H' hv
  refine hg.go w2 (e.ext k2) r2 q2 fun σ3 H3 O3 ρ3 M3 q3 k3 w3 e3=>?_
  exact hb.go w1 w3 e3 ((x.trans k2).trans k3) q3 ⟨fun σ H O ρ M w e x q=>⟨O,ρ,M,w,e,x,q⟩,E1.rt,E1.nx,fun σ H O ρ M w e x q=>⟨O,ρ,M,w,e,x,q⟩⟩
 ·have e0:i=l.length:=by walk_at "o"
  subst e0
  obtain ⟨hG,q2⟩:=pd ρ M hf
  exact .inl ⟨(hj H O M x.fix x.mst w hG l.length).1 rfl,E1.nx _ _ _ _ _ w e x q2⟩⟩
theorem xl {H H1:Hp}{O O1:Own}{M M1:MH}(w1:Wf H1 O1 M1)(k1:Ext H O M H1 O1 M1){p:Addr}(hp:H1 p=none):H p=none:=by
 cases e0:H p with
 | none=>rfl
 | some o=>
  exfalso
  by_cases c:O p
  ·by_cases c2:M p=none
   ·exact w1.ne p (k1.prv p c c2).2.1 hp
   ·exact w1.ne p (w1.own p (k1.mst p c2)) hp
  ·rw [(k1.fix p o c e0).1] at hp;cases hp
theorem XM {K:PySem.W.Frag}{H:Hp}{O:Own}{M:MH}{a:Addr}{x:AV}{l:List AV}(r:zq H O M (.ref a) x)(h:qb x M=some l):yC (Itl K a) H O M l (fun M'=>qb x M'=some l):=by
 intro H' O' M' fix mst w' hG i
 obtain ⟨a',xs,e,h1,r1⟩:=zY w' (r.imp fix mst) hG
 cases e
 refine ⟨fun e=>⟨xs,SqL.of h1,by rw [r1.1];walk_at "o"⟩,fun y hy=>?_⟩
 obtain ⟨v,hv,rv⟩:=r1.get hy
 refine ⟨⟨xs,v,SqL.of h1,hv⟩,fun z H'' hz=>?_⟩
 obtain ⟨e1,e2⟩:=hz
 subst e1
 have:=e2 xs (SqL.of h1)
 rw [hv] at this;cases this
 exact ⟨.refl,w',rv⟩
theorem VJ {K:PySem.W.Frag}{H:Hp}{O:Own}{M:MH}{a:Addr}{x:AV}{l:List AV}(r:zq H O M (.ref a) x)(h:FK x=some l):yC (Itt K a) H O M l (fun _=>True):=by
 intro H' O' M' fix mst w' hG i
 obtain ⟨a',xs,e,h1,r1⟩:=qP (r.imp fix mst) h
 cases e
 refine ⟨fun e=>⟨xs,SqT.of h1,by rw [r1.1];walk_at "o"⟩,fun y hy=>?_⟩
 obtain ⟨v,hv,rv⟩:=r1.get hy
 refine ⟨⟨xs,v,SqT.of h1,hv⟩,fun z H'' hz=>?_⟩
 obtain ⟨e1,e2⟩:=hz
 subst e1
 have:=e2 xs (SqT.of h1)
 rw [hv] at this;cases this
 exact ⟨.refl,w',rv⟩
noncomputable def aiS (a:AE):AI:=fun ρ M R=>a ρ M fun x M1=>∃ l,zN x M1=some l/\R l (fun M'=>zN x M'=some l) M1
theorem yC.mono {J:It}{H:Hp}{O:Own}{M:MH}{l:List AV}{G G':MH->Prop}(h:yC J H O M l G)(k:∀ M,G' M->G M):yC J H O M l G':=fun H' O' M' fix mst w' hG=>h H' O' M' fix mst w' (k _ hG)
theorem EI {K:PySem.W.Frag}{t:TE}{a:AE}(h:zU t a):JF (iLT K t) (aiS a):=⟨fun w e q k=>h.go w e q fun x M1 v H1 O1 ⟨l,hl,q1⟩ k1 w1 r1=>by
 rcases qH hl with hl' | ⟨m,rfl,rfl⟩
 ·obtain ⟨a,xs,rfl,h1,_⟩:=zY w1 r1 hl'
  refine ⟨a,rfl,.inl ⟨⟨xs,SqL.of h1⟩,k _ _ _ _ _ _ q1 k1 w1 ((XM r1 hl').mono fun M hM=>?_)⟩⟩
  rcases qH hM with z | ⟨m,rfl,rfl⟩
  ·exact z
  ·cases hl'
 ·obtain ⟨a,xs,rfl,h1,_⟩:=qP (l:=m.map .d) r1 rfl
  exact ⟨a,rfl,.inr ⟨⟨xs,SqT.of h1⟩,k _ _ _ _ _ _ q1 k1 w1 ((VJ r1 rfl).mono fun _ _=>trivial)⟩⟩⟩
noncomputable def QH (lo c:Int)(n:Nat):List AV:=(List.range n).map fun (k:Nat)=>.d (.int (lo+(k:Int) * c))
theorem j7 (lo c:Int)(n:Nat):(QH lo c n).length=n:=by simp [QH]
theorem jH {lo c:Int}{n i:Nat}{y:AV}(h:(QH lo c n)[i]?=some y):i<n/\y=.d (.int (lo+(i:Int) * c)):=by
 have hi:=(List.getElem?_eq_some_iff.mp h).1
 rw [j7] at hi
 unfold QH at h
 rw [List.getElem?_map,List.getElem?_range hi] at h
 cases h
 exact ⟨hi,rfl⟩
theorem Va {H:Hp}{O:Own}{M:MH}(lo:Int)(n:Nat):yC (Itr lo n) H O M (QH lo 1 n) (fun _=>True):=by
 intro H' O' M' fix mst w' hG i
 refine ⟨fun e=>by rw [j7] at e;exact Nat.le_of_eq e.symm,fun y hy=>?_⟩
 obtain ⟨hi,rfl⟩:=jH hy
 refine ⟨hi,fun z H'' hz=>?_⟩
 obtain ⟨rfl,rfl⟩:=hz
 rw [Int.mul_one]
 exact ⟨.refl,w',.int⟩
noncomputable def Gz (a:AA):AI:=fun ρ M R=>a ρ M fun xs M1=>∃ j:Int,xs=[.d (.int j)]/\-(2 ^ 62)<=j/\j<2 ^ 62/\R (QH 0 1 j.toNat) (fun _=>True) M1
theorem A2 {t:TA}{a:AA}(h:kj t a):JF (Wx t) (Gz a):=⟨fun w e q k=>h.go w e q fun x M1 v H1 O1 ⟨j,e1,j1,j2,q1⟩ k1 w1 r1=>by
 subst e1
 obtain ⟨v1,r',rfl,a1,r2⟩:=r1.cons_inv
 rw [r2.nil_inv,zT a1]
 exact ⟨j,rfl,j1,j2,k _ _ _ _ _ _ q1 k1 w1 (Va _ _)⟩⟩
noncomputable def yR (m:List Dat):List AV:=(List.range m.length).map fun (i:Nat)=>.d (.tup [.int (i:Int),m.getD i .non])
theorem j6 (m:List Dat):(yR m).length=m.length:=by simp [yR]
theorem xB {m:List Dat}{i:Nat}{y:AV}(h:(yR m)[i]?=some y):∃ d,m[i]?=some d/\y=.d (.tup [.int (i:Int),d]):=by
 have hi:=(List.getElem?_eq_some_iff.mp h).1
 rw [j6] at hi
 unfold yR at h
 rw [List.getElem?_map,List.getElem?_range hi] at h
 cases h
 exact ⟨m[i],List.getElem?_eq_getElem hi,by dsimp only;rw [List.getD_eq_getElem?_getD,List.getElem?_eq_getElem hi];rfl⟩
theorem ye {H:Hp}{O:Own}{M:MH}(w:Wf H O M){p:Addr}(hp:H p=none){x y:V}{d e:Dat}(r1:Rep H O x d)(r2:Rep H O y e):Ext H O M (upd H p (.tup [x,y])) O M/\Wf (upd H p (.tup [x,y])) O M/\zq (upd H p (.tup [x,y])) O M (.ref p) (.d (.tup [d,e])):=
 ⟨qj w hp _,ke w hp _,Rep.tup (w.fresh hp).1 zl rfl fun i z f h1 h2=>by
  match i,h1,h2 with
  | 0,h1,h2=>cases h1;cases h2;exact r1.ext (qj w hp _)
  | 1,h1,h2=>cases h1;cases h2;exact r2.ext (qj w hp _)
  | (i+2),h1,_=>cases h1⟩
theorem Xs {K:PySem.W.Frag}{H:Hp}{O:Own}{M:MH}{a:Addr}{x:AV}{m:List Dat}(r:zq H O M (.ref a) x)(h:qb x M=some (m.map .d)):yC (Ite K a) H O M (yR m) (fun M'=>qb x M'=some (m.map .d)):=by
 intro H' O' M' fix mst w' hG i
 obtain ⟨a',xs,e,h1,r1⟩:=zY w' (r.imp fix mst) hG
 cases e
 have l1:=r1.1
 rw [List.length_map] at l1
 refine ⟨fun e=>⟨xs,SqL.of h1,by rw [j6] at e;walk_at "o"⟩,fun y hy=>?_⟩
 obtain ⟨d,hd,rfl⟩:=xB hy
 obtain ⟨v,hv,rv⟩:=r1.get (i:=i) (d:=.d d) (by rw [List.getElem?_map,hd];rfl)
 refine ⟨⟨xs,v,SqL.of h1,hv⟩,fun z H'' hz=>?_⟩
 obtain ⟨p,x',hp,rfl,e2,rfl⟩:=hz
 have:=e2 xs (SqL.of h1)
 rw [hv] at this;cases this
 exact ye w' hp .int rv
theorem J9 {K:PySem.W.Frag}{H:Hp}{O:Own}{M:MH}{a:Addr}{m:List Dat}(r:zq H O M (.ref a) (.d (.tup m))):yC (EO K a) H O M (yR m) (fun _=>True):=by
 intro H' O' M' fix mst w' hG i
 obtain ⟨a',xs,e,h1,r1⟩:=qP (l:=m.map .d) (r.imp fix mst) rfl
 cases e
 have l1:=r1.1
 rw [List.length_map] at l1
 refine ⟨fun e=>⟨xs,SqT.of h1,by rw [j6] at e;walk_at "o"⟩,fun y hy=>?_⟩
 obtain ⟨d,hd,rfl⟩:=xB hy
 obtain ⟨v,hv,rv⟩:=r1.get (i:=i) (d:=.d d) (by rw [List.getElem?_map,hd];rfl)
 refine ⟨⟨xs,v,SqT.of h1,hv⟩,fun z H'' hz=>?_⟩
 obtain ⟨p,x',hp,rfl,e2,rfl⟩:=hz
 have:=e2 xs (SqT.of h1)
 rw [hv] at this;cases this
 exact ye w' hp .int rv
noncomputable def aiE (a:AA):AI:=fun ρ M R=>a ρ M fun xs M1=>∃ x l m,xs=[x]/\zN x M1=some l/\pur l=some m/\R (yR m) (fun M'=>zN x M'=some l) M1
theorem Jb {x:AV}{M M':MH}{l l':List AV}(h:qb x M=some l)(h':zN x M'=some l'):qb x M'=some l':=by
 rcases qH h' with z | ⟨m,rfl,rfl⟩
 ·exact z
 ·cases h
theorem EH {K:PySem.W.Frag}{t:TA}{a:AA}(h:kj t a):JF (ZE K t) (aiE a):=⟨fun w e q k=>h.go w e q fun xs M1 v H1 O1 ⟨x,l,m,e1,hl,hm,q1⟩ k1 w1 r1=>by
 subst e1
 obtain ⟨v1,r',rfl,a1,r2⟩:=r1.cons_inv
 rw [r2.nil_inv]
 rw [jY hm] at hl q1
 rcases qH hl with hl' | ⟨m',rfl,e2⟩
 ·obtain ⟨a,xs,rfl,h1,_⟩:=zY w1 a1 hl'
  exact ⟨a,rfl,.inl ⟨⟨xs,SqL.of h1⟩,k _ _ _ _ _ _ q1 k1 w1 ((Xs a1 hl').mono fun M hM=>Jb hl' hM)⟩⟩
 ·obtain rfl:m=m':=by have:=congrArg pur e2;rw [zJ,zJ] at this;cases this;rfl
  obtain ⟨a,xs,rfl,h1,_⟩:=qP (l:=m.map .d) a1 rfl
  exact ⟨a,rfl,.inr ⟨⟨xs,SqT.of h1⟩,k _ _ _ _ _ _ q1 k1 w1 ((J9 a1).mono fun _ _=>trivial)⟩⟩⟩
noncomputable def wl (m n:List Dat):List AV:=(List.range (min m.length n.length)).map fun (i:Nat)=>.d (.tup [m.getD i .non,n.getD i .non])
theorem jE (m n:List Dat):(wl m n).length=min m.length n.length:=by simp [wl]
theorem kX {m n:List Dat}{i:Nat}{y:AV}(h:(wl m n)[i]?=some y):∃ d e,m[i]?=some d/\n[i]?=some e/\y=.d (.tup [d,e]):=by
 have hi:=(List.getElem?_eq_some_iff.mp h).1
 rw [jE] at hi
 unfold wl at h
 rw [List.getElem?_map,List.getElem?_range hi] at h
 cases h
 have h1:i<m.length:=by walk_at "o"
 have h2:i<n.length:=by walk_at "o"
 exact ⟨m[i],n[i],List.getElem?_eq_getElem h1,List.getElem?_eq_getElem h2,by dsimp only;rw [List.getD_eq_getElem?_getD,List.getElem?_eq_getElem h1,List.getD_eq_getElem?_getD,List.getElem?_eq_getElem h2];rfl⟩
theorem W2 {K:PySem.W.Frag}{H:Hp}{O:Own}{M:MH}{a b:Addr}{x y:AV}{m n:List Dat}(r:zq H O M (.ref a) x)(h:qb x M=some (m.map .d))(r':zq H O M (.ref b) y)(h':qb y M=some (n.map .d)):yC (Itz K a b) H O M (wl m n) (fun M'=>qb x M'=some (m.map .d)/\qb y M'=some (n.map .d)):=by
 intro H' O' M' fix mst w' hG i
 obtain ⟨a',xs,e,h1,r1⟩:=zY w' (r.imp fix mst) hG.1
 cases e
 obtain ⟨b',ys,e,h2,r2⟩:=zY w' (r'.imp fix mst) hG.2
 cases e
 have l1:=r1.1
 have l2:=r2.1
 rw [List.length_map] at l1 l2
 refine ⟨fun e=>⟨xs,ys,SqL.of h1,SqL.of h2,by rw [jE] at e;walk_at "o"⟩,fun z hz=>?_⟩
 obtain ⟨d,f,hd,hf,rfl⟩:=kX hz
 obtain ⟨v,hv,rv⟩:=r1.get (i:=i) (d:=.d d) (by rw [List.getElem?_map,hd];rfl)
 obtain ⟨u,hu,ru⟩:=r2.get (i:=i) (d:=.d f) (by rw [List.getElem?_map,hf];rfl)
 refine ⟨⟨xs,ys,v,u,SqL.of h1,SqL.of h2,hv,hu⟩,fun z H'' hz=>?_⟩
 obtain ⟨p,x',y',hp,rfl,e2,e3,rfl⟩:=hz
 have:=e2 xs (SqL.of h1)
 rw [hv] at this;cases this
 have:=e3 ys (SqL.of h2)
 rw [hu] at this;cases this
 exact ye w' hp rv ru
theorem Yi {K:PySem.W.Frag}{H:Hp}{O:Own}{M:MH}{a b:Addr}{m n:List Dat}(hmn:m.length<=n.length)(r:zq H O M (.ref a) (.d (.tup m)))(r':zq H O M (.ref b) (.d (.tup n))):yC (DR K a b) H O M (wl m n) (fun _=>True):=by
 intro H' O' M' fix mst w' hG i
 obtain ⟨a',xs,e,h1,r1⟩:=qP (l:=m.map .d) (r.imp fix mst) rfl
 cases e
 obtain ⟨b',ys,e,h2,r2⟩:=qP (l:=n.map .d) (r'.imp fix mst) rfl
 cases e
 have l1:=r1.1
 have l2:=r2.1
 rw [List.length_map] at l1 l2
 refine ⟨fun e=>⟨xs,SqT.of h1,by rw [jE] at e;walk_at "o"⟩,fun z hz=>?_⟩
 obtain ⟨d,f,hd,hf,rfl⟩:=kX hz
 obtain ⟨v,hv,rv⟩:=r1.get (i:=i) (d:=.d d) (by rw [List.getElem?_map,hd];rfl)
 obtain ⟨u,hu,ru⟩:=r2.get (i:=i) (d:=.d f) (by rw [List.getElem?_map,hf];rfl)
 refine ⟨⟨xs,ys,v,u,SqT.of h1,SqT.of h2,hv,hu⟩,fun z H'' hz=>?_⟩
 obtain ⟨p,x',y',hp,rfl,e2,e3,rfl⟩:=hz
 have:=e2 xs (SqT.of h1)
 rw [hv] at this;cases this
 have:=e3 ys (SqT.of h2)
 rw [hu] at this;cases this
 exact ye w' hp rv ru
noncomputable def Bz (a:AA):AI:=fun ρ M R=>a ρ M fun xs M1=>∃ x y m n,xs=[x,y]/\((qb x M1=some (List.map AV.d m)/\qb y M1=some (List.map AV.d n)) \/ (x=.d (.tup m)/\y=.d (.tup n)/\m.length<=n.length))/\R (wl m n) (fun M'=>qb x M'=qb x M1/\qb y M'=qb y M1) M1
theorem AN {K:PySem.W.Frag}{t:TA}{a:AA}(h:kj t a):JF (Jv K t) (Bz a):=⟨fun w e q k=>h.go w e q fun xs M1 v H1 O1 ⟨x,y,m,n,e1,hxy,q1⟩ k1 w1 r1=>by
 subst e1
 obtain ⟨v1,r',rfl,a1,r2⟩:=r1.cons_inv
 obtain ⟨v2,r',rfl,a2,r3⟩:=r2.cons_inv
 rw [r3.nil_inv]
 rcases hxy with ⟨hx,hy⟩ | ⟨rfl,rfl,hmn⟩
 ·obtain ⟨a,xs,rfl,h1,_⟩:=zY w1 a1 hx
  obtain ⟨b,ys,rfl,h2,_⟩:=zY w1 a2 hy
  exact ⟨a,b,rfl,.inl ⟨⟨xs,SqL.of h1⟩,⟨ys,SqL.of h2⟩,k _ _ _ _ _ _ q1 k1 w1 ((W2 a1 hx a2 hy).mono fun _ z=>⟨z.1.trans hx,z.2.trans hy⟩)⟩⟩
 ·obtain ⟨a,xs,rfl,h1,_⟩:=qP (l:=m.map .d) a1 rfl
  obtain ⟨b,ys,rfl,h2,_⟩:=qP (l:=n.map .d) a2 rfl
  exact ⟨a,b,rfl,.inr ⟨⟨xs,SqT.of h1⟩,⟨ys,SqT.of h2⟩,k _ _ _ _ _ _ q1 k1 w1 ((Yi hmn a1 a2).mono fun _ _=>trivial)⟩⟩⟩
structure y8 (D:Addr)(H:Hp)(O:Own)(M:MH)(H':Hp)(O':Own)(M':MH):Prop where
 fix:∀ a o,¬ O a->H a=some o->H' a=some o/\¬ O' a
 prv:∀ a,a ≠ D->O a->M a=none->H' a=H a/\O' a/\M' a=none
 mst:∀ a,M a ≠ none->M' a ≠ none
theorem Ext.x {D:Addr}{H H':Hp}{O O':Own}{M M':MH}(k:Ext H O M H' O' M'):y8 D H O M H' O' M':=⟨k.fix,fun a _=>k.prv a,k.mst⟩
theorem y8.trans {D:Addr}{H H1 H2:Hp}{O O1 O2:Own}{M M1 M2:MH}(a:y8 D H O M H1 O1 M1)(b:y8 D H1 O1 M1 H2 O2 M2):y8 D H O M H2 O2 M2:=
 ⟨fun x o h e=>let ⟨e1,h1⟩:=a.fix x o h e;b.fix x o h1 e1,fun x hx h e=>by
  obtain ⟨e1,h1,n1⟩:=a.prv x hx h e
  obtain ⟨e2,h2,n2⟩:=b.prv x hx h1 n1
  exact ⟨e2.trans e1,h2,n2⟩,fun x h=>b.mst x (a.mst x h)⟩
theorem y8.set {D:Addr}{H:Hp}{O:Own}{M:MH}(hO:O D)(o:HO):y8 D H O M (upd H D o) O M:=⟨vc hO o,fun a ha h e=>⟨zk ha,h,e⟩,fun _ h=>h⟩
theorem Er.imp {H H':Hp}{O O':Own}{M M':MH}{σ:St}{ρ:ASt}(e:Er H O M σ ρ)(k:∀ a o,¬ O a->H a=some o->H' a=some o/\¬ O' a)(hm:∀ a,M a ≠ none->M' a ≠ none):Er H' O' M' σ ρ:=⟨e.len,fun i x h=>let ⟨v,h1,h2⟩:=e.get i x h;⟨v,h1,h2.imp k hm⟩⟩
noncomputable abbrev ATR:=List AV->ASt->MH->(List AV->ASt->MH->Prop)->Prop
structure Kn (D:Addr)(tr:TR)(a:ATR):Prop where
 go:∀ {σ:St} {H:Hp} {O:Own} {ρ:ASt} {M:MH} {acc:List AV} {ys:List V} {N:St->Hp->Prop} {N':List AV->ASt->MH->Prop},Wf H O M->Er H O M σ ρ->O D->M D=none->H D=some (.lst ys)->zf H O M ys acc->a acc ρ M N' ->
  (∀ acc' ρ' M' σ' H' O' ys',N' acc' ρ' M'->y8 D H O M H' O' M'->Wf H' O' M'->Er H' O' M' σ' ρ'->O' D->M' D=none->H' D=some (.lst ys')->zf H' O' M' ys' acc'->N σ' H')->tr σ H N
noncomputable def jI (a:AE):ATR:=fun acc ρ M N=>a ρ M fun x M1=>acc.length<sizeLine/\N (acc ++ [x]) ρ M1
theorem QE {D:Addr}{t:TE}{a:AE}(h:zU t a):Kn D (JU t D) (jI a):=⟨fun {σ H O ρ M acc ys N N'} w e o m hd r q k=>h.go w e q fun x M1 v H1 O1 ⟨q0,q1⟩ k1 w1 r1=>by
 obtain ⟨e1,o1,m1⟩:=k1.prv D o m
 have r':=r.ext k1
 refine ⟨ys,e1.trans hd,by rw [r.1];exact q0,k _ _ _ _ _ _ (ys ++ [v]) q1 (k1.x.trans (y8.set o1 _)) (Jc w1 o1 m1 (e1.trans hd) _ (fun _ z=>nomatch z)) ((e.ext k1).imp (vc o1 _) (fun _ z=>z)) o1 m1 zl ((r'.snoc r1).imp (vc o1 _) (fun _ z=>z))⟩⟩
noncomputable def wm (ag:AG)(at_:AT)(tr:ATR)(G:MH->Prop)(N:List AV->ASt->MH->Prop)(l acc:List AV)(ρ:ASt)(M:MH):Prop:=
 ∃ Pv:Nat->List AV->ASt->MH->Prop,Pv 0 acc ρ M/\(∀ i x acc ρ M,l[i]?=some x->Pv i acc ρ M->G M/\ag x ρ M fun ρ2 M2=>at_ ρ2 M2 fun b M3=>if b=true then tr acc ρ2 M3 (Pv (i+1)) else Pv (i+1) acc ρ2 M3)/\∀ acc ρ M,Pv l.length acc ρ M->G M/\N acc ρ M
theorem FF {D:Addr}{g:TG}{tt:TT}{tr:TR}{ag:AG}{at_:AT}{atr:ATR}(hg:ZA g ag)(ht:yP tt at_)(hr:Kn D tr atr){J:It}{H1:Hp}{O1:Own}{M1:MH}{l:List AV}{G:MH->Prop}(hj:yC J H1 O1 M1 l G){N':List AV->ASt->MH->Prop}{N:St->Hp->Prop}
  {σ:St} {ρ:ASt} {acc:List AV} {ys:List V} (w:Wf H1 O1 M1) (e:Er H1 O1 M1 σ ρ) (o:O1 D) (m:M1 D=none) (hd:H1 D=some (.lst ys)) (r:zf H1 O1 M1 ys acc) (q:wm ag at_ atr G N' l acc ρ M1)
  (k:∀ acc' ρ' M' σ' H' O' ys',N' acc' ρ' M'->y8 D H1 O1 M1 H' O' M'->Wf H' O' M'->Er H' O' M' σ' ρ'->O' D->M' D=none->H' D=some (.lst ys')->zf H' O' M' ys' acc'->N σ' H'):CL J g tt tr N σ H1:=by
 obtain ⟨Pv,p0,ps,pd⟩:=q
 refine ⟨fun i n σ H=>n=l.length - i/\i<=l.length/\∃ O ρ M acc ys,Wf H O M/\Er H O M σ ρ/\y8 D H1 O1 M1 H O M/\O D/\M D=none/\H D=some (.lst ys)/\zf H O M ys acc/\Pv i acc ρ M,
  ⟨l.length,by simp,Nat.zero_le _,O1,ρ,M1,acc,ys,w,e,Ext.refl.x,o,m,hd,r,p0⟩,?_⟩
 rintro i n σ H ⟨rfl,hi,O,ρ,M,acc,ys,w,e,x,o,m,hd,r,hf⟩
 by_cases hil:i<l.length
 ·have hy:l[i]?=some l[i]:=List.getElem?_eq_getElem hil
  obtain ⟨hG,q2⟩:=ps i l[i] acc ρ M hy hf
  obtain ⟨j1,j2⟩:=(hj H O M x.fix x.mst w hG i).2 l[i] hy
  refine .inr ⟨j1,fun σ' H'=>∃ O ρ M acc ys,Wf H' O M/\Er H' O M σ' ρ/\y8 D H1 O1 M1 H' O M/\O D/\M D=none/\H' D=some (.lst ys)/\zf H' O M ys acc/\Pv (i+1) acc ρ M,fun σ' H' z=>⟨l.length - (i+1),by walk_at "o",rfl,hil,z⟩,fun v H' hv=>?_⟩
  obtain ⟨k2,w2,r2⟩:=j2 v H' hv
  refine hg.go w2 (e.ext k2) r2 q2 fun σ3 H3 O3 ρ3 M3 q3 k3 w3 e3=>?_
  refine ht.go w3 e3 q3 fun b M4 H4 O4 q4 k4 w4=>?_
  have k24:=(k2.trans k3).trans k4
  obtain ⟨d4,o4,m4⟩:=k24.prv D o m
  have r4:=r.ext k24
  cases b with
  | true=>
   exact hr.go w4 (e3.ext k4) o4 m4 (d4.trans hd) r4 q4 fun acc' ρ' M' σ' H' O' ys' q5 k5 w5 e5 o5 m5 d5 r5=>⟨O',ρ',M',acc',ys',w5,e5,(x.trans k24.x).trans k5,o5,m5,d5,r5,q5⟩
  | false=>
   exact ⟨O4,ρ3,M4,acc,ys,w4,e3.ext k4,x.trans k24.x,o4,m4,d4.trans hd,r4,q4⟩
 ·have e0:i=l.length:=by walk_at "o"
  subst e0
  obtain ⟨hG,q2⟩:=pd acc ρ M hf
  exact .inl ⟨(hj H O M x.fix x.mst w hG l.length).1 rfl,k _ _ _ _ _ _ _ q2 x w e o m hd r⟩
noncomputable def wL (ts:List Nat)(ai:AI)(ag:AG)(at_:AT)(atr:ATR):AF:=fun ρ M Q=>ai ρ M fun l G M1=>wm ag at_ atr G (fun acc _ M'=>Q acc M') l [] (AL ts ρ) M1
theorem Jw {ts:List Nat}{wi:TI}{g:TG}{tt:TT}{tr:Addr->TR}{ai:AI}{ag:AG}{at_:AT}{atr:ATR}(hi:JF wi ai)(hg:ZA g ag)(ht:yP tt at_)(hr:∀ D,Kn D (tr D) atr):Zj (Wt ts wi g tt tr) (wL ts ai ag at_ atr):=⟨fun {σ H O ρ M Q Q'} w e q k=>by
 refine hi.go w e q fun l G M1 J H1 O1 q1 k1 w1 hj D hD=>?_
 have kp:=qL w1 hD (.lst [])
 have hj':yC J (upd H1 D (.lst [])) (Xo O1 D) M1 l G:=fun H' O' M' fix mst w' hG=>hj H' O' M' (fun a o ha ho=>fix a o (kp.fix a o ha ho).2 (kp.fix a o ha ho).1) mst w' hG
 refine FF hg ht (hr D) hj' (yL w1 hD _ (fun _ z=>nomatch z)) (((e.ext k1).clr ts).ext kp) (.inl rfl) (w1.fresh hD).2 zl .nil q1 fun acc' ρ' M' σ' H' O' ys' q5 k5 w5 e5 o5 m5 d5 r5=>?_
 have hH:=xl w1 k1 hD
 refine k _ _ _ _ _ _ q5 ⟨fun a o ha ho=>?_,fun a ha hm=>?_,fun a hm=>k5.mst a (k1.mst a hm)⟩ w5 o5 m5 hH d5 r5
 ·obtain ⟨x1,x2⟩:=(k1.trans kp).fix a o ha ho
  exact k5.fix a o x2 x1
 ·obtain ⟨x1,x2,x3⟩:=(k1.trans kp).prv a ha hm
  obtain ⟨y1,y2,y3⟩:=k5.prv a (fun z=>w.ne a ha (by rw [z];exact hH)) x2 x3
  exact ⟨y1.trans x1,y2,y3⟩⟩
theorem XE {ts:List Nat}{wi:TI}{g:TG}{tt:TT}{te:TE}{ai:AI}{ag:AG}{at_:AT}{ae:AE}(hi:JF wi ai)(hg:ZA g ag)(ht:yP tt at_)(he:zU te ae):Zj (QO ts wi g tt te) (wL ts ai ag at_ (jI ae)):=
 ⟨fun w e q k=>(Jw (ts:=ts) (tr:=JU te) hi hg ht fun D=>QE he).go w e q k⟩
noncomputable def aI (C:Int->Int->Prop)(g:Int->Int->Dat):AR2:=fun x y M Q=>∃ i j,x=.d (.int i)/\y=.d (.int j)/\C i j/\Q (.d (g i j)) M
noncomputable def aI0 (g:Int->Int->Dat):AR2:=fun x y M Q=>∃ i j,x=.d (.int i)/\y=.d (.int j)/\Q (.d (g i j)) M
theorem E7 {C:Int->Int->Prop}{f:Int->Int->Int}:Zh (rI C fun i j=>.int (f i j)) (aI C fun i j=>.int (f i j)):=⟨fun w r1 r2 ⟨i,j,e1,e2,c,q⟩ k=>by
 subst e1 e2;exact ⟨i,j,zT r1,zT r2,c,k _ _ _ _ _ q .refl w .int⟩⟩
theorem B5 {f:Int->Int->Int}:Zh (rI0 fun i j=>.int (f i j)) (aI0 fun i j=>.int (f i j)):=⟨fun w r1 r2 ⟨i,j,e1,e2,q⟩ k=>by
 subst e1 e2;exact ⟨i,j,zT r1,zT r2,k _ _ _ _ _ q .refl w .int⟩⟩
theorem VE {f:Int->Int->Bool}:Zh (rI0 fun i j=>.bl (f i j)) (aI0 fun i j=>.bl (f i j)):=⟨fun w r1 r2 ⟨i,j,e1,e2,q⟩ k=>by
 subst e1 e2;exact ⟨i,j,zT r1,zT r2,k _ _ _ _ _ q .refl w .bl⟩⟩
noncomputable def aU (g:Int->Dat):AV->MH->AK->Prop:=fun x M Q=>∃ i,x=.d (.int i)/\Q (.d (g i)) M
theorem Ek {f:Int->Int}:GB (rU fun i=>.int (f i)) (aU fun i=>.int (f i)):=⟨fun w r1 ⟨i,e1,q⟩ k=>by
 subst e1;exact ⟨i,zT r1,k _ _ _ _ _ q .refl w .int⟩⟩
noncomputable def eqS:Dat->Dat->Option Bool
 | .non,.non=>some true | .non,.int _=>some false | .int _,.non=>some false | .non,.bl _=>some false | .bl _,.non=>some false | .non,.str _=>some false | .str _,.non=>some false
 | .int i,.int j=>some (decide (i=j)) | .bl a,.bl b=>some (decide (a=b)) | .str a,.str b=>some (decide (a=b))
 | .int _,.str _=>some false | .str _,.int _=>some false | .bl _,.str _=>some false | .str _,.bl _=>some false
 | _,_=>none
noncomputable def xi:AV->Bool
 | .d .non=>true
 | _=>false
theorem VF {H:Hp}{O:Own}{M:MH}{v:V}{x:AV}(r:zq H O M v x):decide (v=V.non)=xi x:=by
 cases x with
 | ref a=>rw [r.1];rfl
 | d x=>cases (show Rep H O v x from r) <;> rfl
noncomputable def FM (f:Bool->Bool):AR2:=fun x y M Q=>y=.d .non/\Q (.d (.bl (f (xi x)))) M
theorem Bk:Zh (fun x y H Q=>y=V.non/\Q (V.bl (decide (x=V.non))) H) (FM id):=⟨fun w r1 r2 ⟨e,q⟩ k=>by
 subst e;exact ⟨BK r2,by rw [VF r1];exact k _ _ _ _ _ q .refl w .bl⟩⟩
theorem BD {H:Hp}{O:Own}{M:MH}{xs:List V}{l:List AV}(r:zf H O M xs l){i:Int}{x:AV}(h:atI l i=some x):∃ v,atI xs i=some v/\zq H O M v x:=by
 unfold atI at h ⊢
 rw [r.1]
 cases e:ixN l.length i with
 | none=>rw [e] at h;cases h
 | some j=>rw [e] at h;exact r.get h
noncomputable def aIx (s:AV->MH->Option (List AV)):AR2:=fun x y M Q=>∃ l i z,s x M=some l/\y=.d (.int i)/\atI l i=some z/\Q z M
theorem Vk {K:PySem.W.Frag}:Zh (KZ K) (aIx zN):=⟨fun w r1 r2 ⟨l,i,z,h,e,hz,q⟩ k=>by
 subst e
 obtain ⟨a,xs,rfl,h1,r⟩:=yG w r1 h
 obtain ⟨v,hv,rv⟩:=BD r hz
 exact ⟨a,xs,i,v,rfl,zT r2,h1.elim (fun h=>.inl (SqL.of h)) (fun h=>.inr (SqT.of h)),hv,k _ _ _ _ _ q .refl w rv⟩⟩
structure Vo (r:R2)(a:AV->AV->MH->(List AV->Prop)->Prop):Prop where
 go:∀ {x y:V} {dx dy:AV} {H:Hp} {O:Own} {M:MH} {Q:VK} {Q':List AV->Prop},Wf H O M->zq H O M x dx->zq H O M y dy->a dx dy M Q'->(∀ l ys,Q' l->zf H O M ys l->∀ p,H p=none->Q (.ref p) (upd H p (.lst ys)))->r x y H Q
noncomputable def fOp (r:AV->AV->MH->(List AV->Prop)->Prop)(a b:AE):AF:=fun ρ M Q=>a ρ M fun x M1=>b ρ M1 fun y M2=>r x y M2 fun l=>Q l M2
theorem Kr {r:R2}{ra:AV->AV->MH->(List AV->Prop)->Prop}{t u:TE}{a b:AE}(hr:Vo r ra)(h1:zU t a)(h2:zU u b):Zj (tOp r t u) (fOp ra a b):=
 ⟨fun w e q k=>h1.go w e q fun x M1 v H1 O1 q1 k1 w1 r1=>h2.go w1 (e.ext k1) q1 fun y M2 u H2 O2 q2 k2 w2 r2=>hr.go w2 (r1.ext k2) r2 q2 fun l ys q3 r3 p hp=>
  k l M2 p ys _ _ q3 ((k1.trans k2).trans (qL w2 hp _)) (yL w2 hp _ (fun _ z=>nomatch z)) (.inl rfl) (w2.fresh hp).2 (xl w2 (k1.trans k2) hp) zl (r3.ext (qL w2 hp _))⟩
noncomputable def Jn:AV->AV->MH->(List AV->Prop)->Prop:=fun x y M Q=>∃ l m,qb x M=some l/\qb y M=some m/\l.length+m.length<=sizeLine/\Q (l ++ m)
theorem QN:Vo Be Jn:=⟨fun w r1 r2 ⟨l,m,h1,h2,hs,q⟩ k=>by
 obtain ⟨a,xs,rfl,e1,p1⟩:=zY w r1 h1
 obtain ⟨b,ys,rfl,e2,p2⟩:=zY w r2 h2
 exact ⟨a,b,xs,ys,rfl,rfl,e1,e2,by rw [p1.1,p2.1];exact hs,k _ _ q (p1.append p2)⟩⟩
theorem zf.rep {H:Hp}{O:Own}{M:MH}{xs:List V}{l:List AV}(a:zf H O M xs l):∀ k:Nat,zf H O M (List.replicate k xs).flatten (List.replicate k l).flatten
 | 0=>.nil
 | k+1=>by rw [List.replicate_succ,List.replicate_succ,List.flatten_cons,List.flatten_cons];exact a.append (zf.rep a k)
noncomputable def Gj:AV->AV->MH->(List AV->Prop)->Prop:=fun x y M Q=>∃ l k,qb x M=some l/\y=.d (.int k)/\-(2 ^ 63)<=k/\k<2 ^ 63/\l.length * k.toNat<=sizeLine/\Q (List.replicate k.toNat l).flatten
theorem YO:Vo EB Gj:=⟨fun w r1 r2 ⟨l,n,h1,e,b1,b2,hs,q⟩ k=>by
 subst e
 obtain ⟨a,xs,rfl,e1,p1⟩:=zY w r1 h1
 exact ⟨a,n,xs,rfl,zT r2,e1,b1,b2,by rw [p1.1];exact hs,k _ _ q (p1.rep _)⟩⟩
noncomputable abbrev AO:=ASt->MH->(Option Int->MH->Prop)->Prop
structure wt (t:TO)(a:AO):Prop where
 go:∀ {σ:St} {H:Hp} {O:Own} {ρ:ASt} {M:MH} {Q:Option Int->Hp->Prop} {Q':Option Int->MH->Prop},Wf H O M->Er H O M σ ρ->a ρ M Q'->(∀ x M' H' O',Q' x M'->Ext H O M H' O' M'->Wf H' O' M'->Q x H')->t σ H Q
noncomputable def BB:AO:=fun _ M Q=>Q none M
noncomputable def Qf (a:AE):AO:=fun ρ M Q=>a ρ M fun x M1=>∃ i,x=.d (.int i)/\Q (some i) M1
theorem AD:wt Zl BB:=⟨fun w _ q k=>k _ _ _ _ q .refl w⟩
theorem YZ {t:TE}{a:AE}(h:zU t a):wt (VV t) (Qf a):=⟨fun w e q k=>h.go w e q fun x M1 v H1 O1 ⟨i,e1,q1⟩ k1 w1 r1=>by
 subst e1;exact ⟨i,zT r1,k _ _ _ _ q1 k1 w1⟩⟩
noncomputable def kE {α:Type}(xs:List α)(lo hi:Option Int):List α:=(xs.drop (HT.sIx xs.length 0 lo)).take (HT.sIx xs.length xs.length hi - HT.sIx xs.length 0 lo)
theorem zf.cut {H:Hp}{O:Own}{M:MH}{xs:List V}{l:List AV}(a:zf H O M xs l)(lo hi:Option Int):zf H O M (wk xs lo hi) (kE l lo hi):=by
 unfold wk kE
 rw [a.1]
 exact (a.drop _).take _
theorem yo {α β:Type}(f:α->β)(l:List α)(lo hi:Option Int):kE (l.map f) lo hi=(kE l lo hi).map f:=by
 unfold kE
 rw [List.length_map,<- List.map_drop,<- List.map_take]
noncomputable def fSl (a:AE)(lo hi:AO):AF:=fun ρ M Q=>a ρ M fun x M1=>lo ρ M1 fun i M2=>hi ρ M2 fun j M3=>∃ l,qb x M3=some l/\Q (kE l i j) M3
theorem Bg {K:PySem.W.Frag}{t:TE}{tl th:TO}{a:AE}{lo hi:AO}(h1:zU t a)(h2:wt tl lo)(h3:wt th hi):Zj (tSl (BF K) t tl th) (fSl a lo hi):=
 ⟨fun w e q k=>h1.go w e q fun x M1 v H1 O1 q1 k1 w1 r1=>h2.go w1 (e.ext k1) q1 fun i M2 H2 O2 q2 k2 w2=>h3.go w2 (e.ext (k1.trans k2)) q2 fun j M3 H3 O3 ⟨l,hl,q3⟩ k3 w3=>by
  obtain ⟨a,xs,rfl,e1,p1⟩:=zY w3 (r1.ext (k2.trans k3)) hl
  exact ⟨a,xs,rfl,SqL.of e1,fun p hp=>k _ _ p _ _ _ q3 (((k1.trans k2).trans k3).trans (qL w3 hp _)) (yL w3 hp _ (fun _ z=>nomatch z)) (.inl rfl) (w3.fresh hp).2 (xl w3 ((k1.trans k2).trans k3) hp) zl ((p1.cut i j).ext (qL w3 hp _))⟩⟩
theorem ZO {H:Hp}{O:Own}{M:MH}(w:Wf H O M){p:Addr}(hp:H p=none){xs:List V}{l:List Dat}(r:zf H O M xs (l.map .d)):zq (upd H p (.tup xs)) O M (.ref p) (.d (.tup l)):=
 have r2:=r.pure
 Rep.tup (w.fresh hp).1 zl r2.1 fun i x d e1 e2=>(r2.2 i x d e1 e2).ext (qj w hp _)
theorem zf.reverse {H:Hp}{O:Own}{M:MH}{xs:List V}{l:List AV}(a:zf H O M xs l):zf H O M xs.reverse l.reverse:=
 ⟨by rw [List.length_reverse,List.length_reverse,a.1],fun i x d h1 h2=>by
  have hi:=(List.getElem?_eq_some_iff.mp h1).1
  rw [List.length_reverse] at hi
  rw [List.getElem?_reverse hi] at h1
  rw [List.getElem?_reverse (by rw [<- a.1];exact hi),<- a.1] at h2
  exact a.2 _ x d h1 h2⟩
noncomputable def FU (a:AE)(st:AO):AE:=fun ρ M Q=>a ρ M fun x M1=>st ρ M1 fun i M2=>i=some (-1)/\((∃ m l,qb x M2=some m/\pur m=some l/\Q (.d (.lst l.reverse)) M2) \/ (∃ l,x=.d (.tup l)/\Q (.d (.tup l.reverse)) M2))
theorem BV {K:PySem.W.Frag}{t:TE}{ts:TO}{a:AE}{st:AO}(h1:zU t a)(h2:wt ts st):zU (Fg K t ts) (FU a st):=
 ⟨fun w e q k=>h1.go w e q fun x M1 v H1 O1 q1 k1 w1 r1=>h2.go w1 (e.ext k1) q1 fun i M2 H2 O2 ⟨hi,q2⟩ k2 w2=>⟨hi,by
  have k12:=k1.trans k2
  rcases q2 with ⟨m,l,hl,hp,q2⟩ | ⟨l,rfl,q2⟩
  ·rw [jY hp] at hl
   obtain ⟨a,xs,rfl,e1,p1⟩:=zY w2 (r1.ext k2) hl
   have p2:=p1.reverse
   rw [<- List.map_reverse] at p2
   have p3:=p2.pure
   exact ⟨a,xs,rfl,.inl ⟨SqL.of e1,fun p hp=>k _ _ _ _ _ q2 (k12.trans (qj w2 hp _)) (ke w2 hp _) (Rep.lst (w2.fresh hp).1 zl p3.1 fun i x d e1 e2=>(p3.2 i x d e1 e2).ext (qj w2 hp _))⟩⟩
  ·obtain ⟨a,xs,rfl,e1,p1⟩:=qP (l:=l.map .d) (r1.ext k2) rfl
   have p2:=p1.reverse
   rw [<- List.map_reverse] at p2
   exact ⟨a,xs,rfl,.inr ⟨SqT.of e1,fun p hp=>k _ _ _ _ _ q2 (k12.trans (qj w2 hp _)) (ke w2 hp _) (ZO w2 hp p2)⟩⟩⟩⟩
theorem zf.sl {H:Hp}{O:Own}{M:MH}:∀ (ks:List Nat) {xs:List V} {l:List AV},zf H O M xs l->zf H O M (ks.filterMap fun k=>xs[k]?) (ks.filterMap fun k=>l[k]?)
 | [],_,_,_=>.nil
 | k :: r,xs,l,a=>by
  rw [List.filterMap_cons,List.filterMap_cons]
  cases e:xs[k]? with
  | none=>
   have:l[k]?=none:=by
    rw [List.getElem?_eq_none_iff,<- a.1]
    exact List.getElem?_eq_none_iff.mp e
   rw [this]
   exact zf.sl r a
  | some v=>
   obtain ⟨d,hd,rd⟩:=a.get' e
   rw [hd]
   exact .cons rd (zf.sl r a)
noncomputable def slA {α:Type}(xs:List α)(lo hi st:Option Int):List α:=(sliceRange (sliceBounds lo hi st xs.length).1 (sliceBounds lo hi st xs.length).2.1 (sliceBounds lo hi st xs.length).2.2).filterMap fun k=>xs[k]?
noncomputable def Fx (a:AE)(lo hi st:AO):AF:=fun ρ M Q=>a ρ M fun x M1=>lo ρ M1 fun i M2=>hi ρ M2 fun j M3=>st ρ M3 fun z M4=>∃ l,qb x M4=some l/\z ≠ some 0/\Q (slA l i j z) M4
theorem Ak {K:PySem.W.Frag}{t:TE}{tl th ts:TO}{a:AE}{lo hi st:AO}(h1:zU t a)(h2:wt tl lo)(h3:wt th hi)(h4:wt ts st):Zj (Fa K t tl th ts) (Fx a lo hi st):=
 ⟨fun w e q k=>h1.go w e q fun x M1 v H1 O1 q1 k1 w1 r1=>h2.go w1 (e.ext k1) q1 fun i M2 H2 O2 q2 k2 w2=>h3.go w2 (e.ext (k1.trans k2)) q2 fun j M3 H3 O3 q3 k3 w3=>h4.go w3 (e.ext ((k1.trans k2).trans k3)) q3 fun z M4 H4 O4 ⟨l,hl,hz,q4⟩ k4 w4=>by
  obtain ⟨a,xs,rfl,e1,p1⟩:=zY w4 (r1.ext ((k2.trans k3).trans k4)) hl
  have k14:=((k1.trans k2).trans k3).trans k4
  have p2:zf H4 O4 M4 (slV xs i j z) (slA l i j z):=by unfold slV slA;rw [p1.1];exact zf.sl _ p1
  exact ⟨a,xs,rfl,SqL.of e1,hz,fun p hp=>k _ _ p _ _ _ q4 (k14.trans (qL w4 hp _)) (yL w4 hp _ (fun _ z=>nomatch z)) (.inl rfl) (w4.fresh hp).2 (xl w4 k14 hp) zl (p2.ext (qL w4 hp _))⟩⟩
mutual
noncomputable def eqD:Dat->Dat->Bool
 | .non,.non=>true
 | .bl a,.bl b=>a == b
 | .bl a,.int b=>(if a then 1 else 0) == b
 | .int a,.bl b=>a == (if b then 1 else 0)
 | .int a,.int b=>a == b
 | .str a,.str b=>a == b
 | .lst a,.lst b=>xR a b
 | .tup a,.tup b=>xR a b
 | _,_=>false
noncomputable def xR:List Dat->List Dat->Bool
 | [],[]=>true
 | a :: r,b :: r'=>eqD a b && xR r r'
 | _,_=>false
end
mutual
noncomputable def dp:Dat->Nat
 | .lst l=>dps l+1
 | .tup l=>dps l+1
 | .rng _ _ _=>1000
 | .scr _ _=>1000
 | .ty _=>1000
 | _=>0
noncomputable def dps:List Dat->Nat
 | []=>0
 | a :: r=>max (dp a) (dps r)
end
theorem ZH {l:List Dat}{n:Nat}(h:∀ d ∈ l,dp d<=n):dps l<=n:=by
 induction l with
 | nil=>exact Nat.zero_le _
 | cons a r ih=>rw [dps];exact Nat.max_le.mpr ⟨h a (by simp),ih fun d hd=>h d (by simp [hd])⟩
theorem qx {l:List Dat}{d:Dat}(h:d ∈ l):dp d<=dps l:=by
 induction l with
 | nil=>cases h
 | cons a r ih=>
  rw [dps]
  rcases List.mem_cons.mp h with rfl | h
  ·exact Nat.le_max_left _ _
  ·exact Nat.le_trans (ih h) (Nat.le_max_right _ _)
theorem kY:∀ (l m:List Dat),l.length=m.length->xR l m=(List.range l.length).all fun j=>eqD (l.getD j .non) (m.getD j .non)
 | [],[],_=>rfl
 | a :: r,b :: r',h=>by
  rw [xR,kY r r' (by simpa using h),List.length_cons,List.range_succ_eq_map,List.all_cons,List.all_map];rfl
 | [],_ :: _,h=>by simp at h
 | _ :: _,[],h=>by simp at h
theorem kO:∀ (l m:List Dat),l.length ≠ m.length->xR l m=false
 | [],[],h=>absurd rfl h
 | a :: r,b :: r',h=>by rw [xR,kO r r' (fun z=>h (by simp [z])),Bool.and_false]
 | [],_ :: _,h=>by simp [xR]
 | _ :: _,[],h=>by simp [xR]
theorem Wl (l m:List Dat):eqD (.lst l) (.tup m)=false:=by simp [eqD]
theorem Af (l m:List Dat):eqD (.tup l) (.lst m)=false:=by simp [eqD]
theorem Bu {p:Dat->Prop}(h:∀ a,(∀ b,dp b<dp a->p b)->p a)(a:Dat):p a:=by
 have:∀ n a,dp a<=n->p a:=fun n=>by
  induction n with
  | zero=>intro a ha;exact h a fun b hb=>absurd hb (by walk_at "o")
  | succ n ih=>intro a ha;exact h a fun b hb=>ih b (by walk_at "o")
 exact this (dp a) a (Nat.le_refl _)
theorem wM {l:List Dat}(h:∀ d ∈ l,eqD d d=true):xR l l=true:=by
 induction l with
 | nil=>rfl
 | cons a r ih=>rw [xR,h a (by simp),ih fun d hd=>h d (by simp [hd])];rfl
theorem Qx {a:Dat}:dp a<1000->eqD a a=true:=by
 refine Bu (p:=fun a=>dp a<1000->eqD a a=true) (fun a ih ha=>?_) a
 cases a with
 | non=>rfl
 | bl b=>rw [eqD];simp
 | int i=>rw [eqD];simp
 | str x=>rw [eqD];simp
 | lst l=>
  rw [eqD]
  rw [dp] at ha ih
  exact wM fun d hd=>ih d (by have:=qx hd;walk_at "o") (by have:=qx hd;walk_at "o")
 | tup l=>
  rw [eqD]
  rw [dp] at ha ih
  exact wM fun d hd=>ih d (by have:=qx hd;walk_at "o") (by have:=qx hd;walk_at "o")
 | rng a b c=>rw [dp] at ha;walk_at "o"
 | scr _ l=>rw [dp] at ha;walk_at "o"
 | ty l=>rw [dp] at ha;walk_at "o"
theorem Rep.fn {H:Hp}{O O':Own}{v:V}{a b:Dat}(r:Rep H O v a):Rep H O' v b->dp a<1000->dp b<1000->a=b:=by
 induction r generalizing b with
 | non=>intro r' _ _;cases r';rfl
 | bl=>intro r' _ _;cases r';rfl
 | int=>intro r' _ _;cases r';rfl
 | str=>intro r' _ _;cases r';rfl
 | ty=>intro r' h _;rw [dp] at h;walk_at "o"
 | rng _ _=>intro r' h _;rw [dp] at h;walk_at "o"
 | scr _ _=>intro r' h _;rw [dp] at h;walk_at "o"
 | scrK _=>intro r' h _;rw [dp] at h;walk_at "o"
 | @lst a xs l o1 h1 l1 r1 ih=>
  intro r' ha hb
  cases r' with
  | @lst _ ys m o2 h2 l2 r2=>
   rw [h1] at h2;cases h2
   congr 1
   refine List.ext_getElem (l1.symm.trans l2) fun i i1 i2=>?_
   have i0:i<xs.length:=by walk_at "o"
   rw [dp] at ha hb
   refine ih i xs[i] l[i] (by simp [i0]) (by simp [i1]) (r2 i xs[i] m[i] (by simp [i0]) (by simp [i2])) ?_ ?_
   ·have:=qx (List.getElem_mem i1);walk_at "o"
   ·have:=qx (List.getElem_mem i2);walk_at "o"
  | @tup _ ys m o2 h2=>rw [h1] at h2;cases h2
  | rng o2 h2=>rw [dp] at hb;walk_at "o"
  | scr o2 h2=>rw [dp] at hb;walk_at "o"
  | scrK _=>rw [dp] at hb;walk_at "o"
 | @tup a xs l o1 h1 l1 r1 ih=>
  intro r' ha hb
  cases r' with
  | @tup _ ys m o2 h2 l2 r2=>
   rw [h1] at h2;cases h2
   congr 1
   refine List.ext_getElem (l1.symm.trans l2) fun i i1 i2=>?_
   have i0:i<xs.length:=by walk_at "o"
   rw [dp] at ha hb
   refine ih i xs[i] l[i] (by simp [i0]) (by simp [i1]) (r2 i xs[i] m[i] (by simp [i0]) (by simp [i2])) ?_ ?_
   ·have:=qx (List.getElem_mem i1);walk_at "o"
   ·have:=qx (List.getElem_mem i2);walk_at "o"
  | @lst _ ys m o2 h2=>rw [h1] at h2;cases h2
  | rng o2 h2=>rw [dp] at hb;walk_at "o"
  | scr o2 h2=>rw [dp] at hb;walk_at "o"
  | scrK _=>rw [dp] at hb;walk_at "o"
section
variable {X:Cx}{pins:List (Addr × Obj)}{s:Shared}{σ:St}{H:Hp}
theorem kN {xs:List V}{us:List Value}(r:zu xs us){j:Nat}(h:j<us.toArray.size):∃ x,xs[j]?=some x/\zF x us.toArray[j]:=by
 have h':j<us.length:=by simpa using h
 have hx:j<xs.length:=by rw [r.length];exact h'
 obtain ⟨u,hu,ru⟩:=r.get (i:=j) (List.getElem?_eq_getElem hx)
 have e:us.toArray[j]=u:=by
  have:=(List.getElem?_eq_some_iff.mp hu).2
  simpa using this
 exact ⟨xs[j],List.getElem?_eq_getElem hx,by rw [e];exact ru⟩
theorem Vm (I : Inv X pins σ H s){A : Around}{p q : Addr}{O O' : Own}{a b : Dat}(ih : ∀ (c d : Dat) (v u : V) (v' u' : Value), dp c < dp a -> Rep H O v c -> Rep H O' u d -> dp d < 1000 -> zF v v' -> zF u u' -> SeqAt.EqAt A.in1 s v' u' (eqD c d))
    (ra:Rep H O (.ref p) a) (rb:Rep H O' (.ref q) b) (ha:dp a<1000) (hb:dp b<1000) (hu:A.units<cLine):SeqAt.RcAt A s (.ref p) (.ref q) (eqD a b):=by
  cases ra with
  | @lst _ xs l o1 h1 l1 r1=>
    obtain ⟨us,u1,p1,z1⟩:=I.list (SqL.of h1)
    cases rb with
    | @lst _ ys m o2 h2 l2 r2=>
      obtain ⟨ws,u2,p2,z2⟩:=I.list (SqL.of h2)
      have s1:us.toArray.size=l.length:=by rw [List.size_toArray,<- u1.length,l1]
      have s2:ws.toArray.size=m.length:=by rw [List.size_toArray,<- u2.length,l2]
      by_cases e:l.length=m.length
      · have h := SeqAt.RcAt.lists (A := A) (e := fun j => eqD (l.getD j .non) (m.getD j .non)) p1.isList p2.isList (by rw [s1, s2, e]) hu (fun j j1 j2 => by
          obtain ⟨x,hx,rx⟩:=kN u1 j1
          obtain ⟨y,hy,ry⟩:=kN u2 j2
          have k1:j<l.length:=by rw [<- s1];exact j1
          have k2:j<m.length:=by rw [<- s2];exact j2
          rw [dp] at ha hb ih
          refine ih _ _ x y _ _ ?_ (r1 j x _ hx ?_) (r2 j y _ hy ?_) ?_ rx ry
          · rw [List.getD_eq_getElem?_getD,List.getElem?_eq_getElem k1]
            have:=qx (List.getElem_mem k1);show dp l[j]<_;walk_at "o"
          · rw [List.getD_eq_getElem?_getD,List.getElem?_eq_getElem k1];rfl
          · rw [List.getD_eq_getElem?_getD,List.getElem?_eq_getElem k2];rfl
          · rw [List.getD_eq_getElem?_getD,List.getElem?_eq_getElem k2]
            have:=qx (List.getElem_mem k2);show dp m[j]<_;walk_at "o")
        rw [s1,<- kY l m e] at h
        rw [eqD];exact h
      · rw [eqD,kO l m e]
        exact SeqAt.RcAt.lists_lengths p1.isList p2.isList (by rw [s1,s2];simpa using e) hu
    | @tup _ ys m o2 h2 l2 r2=>
      obtain ⟨ws,u2,p2,z2⟩:=I.tuple (SqT.of h2)
      rw [Wl]
      exact SeqAt.RcAt.list_tuple p1.isList p2 hu
    | rng o2 h2=>rw [dp] at hb;walk_at "o"
    | scr o2 h2=>rw [dp] at hb;walk_at "o"
    | scrK _=>rw [dp] at hb;walk_at "o"
  | @tup _ xs l o1 h1 l1 r1=>
    obtain ⟨us,u1,p1,z1⟩:=I.tuple (SqT.of h1)
    cases rb with
    | @tup _ ys m o2 h2 l2 r2=>
      obtain ⟨ws,u2,p2,z2⟩:=I.tuple (SqT.of h2)
      have s1:us.toArray.size=l.length:=by rw [List.size_toArray,<- u1.length,l1]
      have s2:ws.toArray.size=m.length:=by rw [List.size_toArray,<- u2.length,l2]
      have h := SeqAt.RcAt.tuples (A := A) (e := fun j => eqD (l.getD j .non) (m.getD j .non)) (show s.heap.IsTuple p us.toArray from p1) (show s.heap.IsTuple q ws.toArray from p2) hu (fun j j1 j2 => by
          obtain ⟨x,hx,rx⟩:=kN u1 j1
          obtain ⟨y,hy,ry⟩:=kN u2 j2
          have k1:j<l.length:=by rw [<- s1];exact j1
          have k2:j<m.length:=by rw [<- s2];exact j2
          rw [dp] at ha hb ih
          refine ih _ _ x y _ _ ?_ (r1 j x _ hx ?_) (r2 j y _ hy ?_) ?_ rx ry
          · rw [List.getD_eq_getElem?_getD,List.getElem?_eq_getElem k1]
            have:=qx (List.getElem_mem k1);show dp l[j]<_;walk_at "o"
          · rw [List.getD_eq_getElem?_getD,List.getElem?_eq_getElem k1];rfl
          · rw [List.getD_eq_getElem?_getD,List.getElem?_eq_getElem k2];rfl
          · rw [List.getD_eq_getElem?_getD,List.getElem?_eq_getElem k2]
            have:=qx (List.getElem_mem k2);show dp m[j]<_;walk_at "o")
      rw [s1,s2] at h
      rw [eqD]
      by_cases e:l.length=m.length
      · rw [<- e,Nat.min_self,beq_self_eq_true,Bool.and_true,<- kY l m e] at h
        exact h
      · rw [kO l m e]
        rw [show (l.length == m.length)=false by simpa using e,Bool.and_false] at h
        exact h
    | @lst _ ys m o2 h2 l2 r2=>
      obtain ⟨ws,u2,p2,z2⟩:=I.list (SqL.of h2)
      rw [Af]
      exact SeqAt.RcAt.tuple_list p1 p2.isList hu
    | rng o2 h2=>rw [dp] at hb;walk_at "o"
    | scr o2 h2=>rw [dp] at hb;walk_at "o"
    | scrK _=>rw [dp] at hb;walk_at "o"
  | rng o2 h2=>rw [dp] at ha;walk_at "o"
  | scr o2 h2=>rw [dp] at ha;walk_at "o"
  | scrK _=>rw [dp] at ha;walk_at "o"
theorem GN (I:Inv X pins σ H s){a:Addr}{xs:List V}(h:H a=some (.lst xs)):∃ us,s.heap.IsList a us:=let ⟨_,_,p,_⟩:=I.list (SqL.of h);⟨_,p.isList⟩
theorem GH (I:Inv X pins σ H s){a:Addr}{xs:List V}(h:H a=some (.tup xs)):∃ us,s.heap.IsTuple a us:=let ⟨_,_,p,_⟩:=I.tuple (SqT.of h);⟨_,p⟩
local macro_rules | `(tactic| walk_at "sc")=>`(tactic| first
 | with_reducible exact .same _ | with_reducible exact .none_none | with_reducible exact .none_bool _ | with_reducible exact .none_int _ _ | with_reducible exact .none_str _ _ | with_reducible exact .bool_none _ | with_reducible exact .bool_bool _ _ | with_reducible exact .bool_int _ _ _ | with_reducible exact .bool_str _ _ _ | with_reducible exact .int_none _ _ | with_reducible exact .int_bool _ _ _ | with_reducible exact .int_int _ _ _ _ | with_reducible exact .int_str _ _ _ _ | with_reducible exact .str_none _ _ | with_reducible exact .str_bool _ _ _ | with_reducible exact .str_int _ _ _ _ | with_reducible exact .str_str _ _ _ _)
theorem ls_ (I:Inv X pins σ H s){a:Addr}{xs:List V}(h:H a=some (.lst xs)):s.heap.IsList a (Classical.choose (GN I h)):=Classical.choose_spec _
theorem ts_ (I:Inv X pins σ H s){a:Addr}{xs:List V}(h:H a=some (.tup xs)):s.heap.IsTuple a (Classical.choose (GH I h)):=Classical.choose_spec _
local macro_rules | `(tactic| walk_at "sq")=>`(tactic| first
 | with_reducible exact .none_list (ls_ (by assumption) (by assumption)) (by assumption) | with_reducible exact .bool_list _ (ls_ (by assumption) (by assumption)) (by assumption) | with_reducible exact .int_list _ _ (ls_ (by assumption) (by assumption)) (by assumption) | with_reducible exact .str_list _ _ (ls_ (by assumption) (by assumption)) (by assumption) | with_reducible exact .list_none (ls_ (by assumption) (by assumption)) (by assumption) | with_reducible exact .list_bool _ (ls_ (by assumption) (by assumption)) (by assumption) | with_reducible exact .list_int _ _ (ls_ (by assumption) (by assumption)) (by assumption) | with_reducible exact .list_str _ _ (ls_ (by assumption) (by assumption)) (by assumption)
 | with_reducible exact .none_tuple (ts_ (by assumption) (by assumption)) (by assumption) | with_reducible exact .bool_tuple _ (ts_ (by assumption) (by assumption)) (by assumption) | with_reducible exact .int_tuple _ _ (ts_ (by assumption) (by assumption)) (by assumption) | with_reducible exact .str_tuple _ _ (ts_ (by assumption) (by assumption)) (by assumption) | with_reducible exact .tuple_none (ts_ (by assumption) (by assumption)) (by assumption) | with_reducible exact .tuple_bool _ (ts_ (by assumption) (by assumption)) (by assumption) | with_reducible exact .tuple_int _ _ (ts_ (by assumption) (by assumption)) (by assumption) | with_reducible exact .tuple_str _ _ (ts_ (by assumption) (by assumption)) (by assumption))
theorem K7 (I : Inv X pins σ H s){O O' : Own}(A : Around)(hu : A.units < cLine)(a b : Dat)(v u : V)(v' u' : Value)(ha : dp a < 1000)(ra : Rep H O v a)(rb : Rep H O' u b)(hb : dp b < 1000)(rv : zF v v')(ru : zF u u')
    (ih:∀ (c d:Dat) (v u:V) (v' u':Value),dp c<dp a->Rep H O v c->Rep H O' u d->dp d<1000->zF v v'->zF u u'->SeqAt.EqAt A.in1 s v' u' (eqD c d)):SeqAt.EqAt A s v' u' (eqD a b):=by
  by_cases hr:∃ p q,v=.ref p/\u=.ref q
  · obtain ⟨p,q,rfl,rfl⟩:=hr
    cases rv
    cases ru
    by_cases e:p=q
    · subst e
      rw [<- ra.fn rb ha hb,Qx ha]
      exact .same _
    · exact .of_refs e (Vm I ih ra rb ha hb hu)
  · cases ra <;> cases rb <;> first
      | with_reducible exact absurd ⟨_,_,rfl,rfl⟩ hr
      | (rw [dp] at ha;walk_at "o")
      | (rw [dp] at hb;walk_at "o")
      | ((first | (obtain ⟨t0,rfl⟩:=rv) | cases rv);(first | (obtain ⟨t1,rfl⟩:=ru) | cases ru);simp only [eqD,Bool.not_false,Bool.not_true];first | walk_at "sc" | walk_at "sq")
theorem Wv (I:Inv X pins σ H s){O O':Own}:∀ (n:Nat) (A:Around),A.units+n<cLine->∀ (a b:Dat) (v u:V) (v' u':Value),dp a<=n->n<1000->Rep H O v a->Rep H O' u b->dp b<1000->zF v v'->zF u u'->SeqAt.EqAt A s v' u' (eqD a b):=by
 intro n
 induction n with
 | zero=>
  intro A hu a b v u v' u' ha _ ra rb hb rv ru
  exact K7 I A (by walk_at "o") a b v u v' u' (by walk_at "o") ra rb hb rv ru fun _ _ _ _ _ _ h=>absurd h (by walk_at "o")
 | succ n ih=>
  intro A hu a b v u v' u' ha hn ra rb hb rv ru
  exact K7 I A (by walk_at "o") a b v u v' u' (by walk_at "o") ra rb hb rv ru fun c d x y x' y' hc rc rd hd rx ry=>ih A.in1 (by show A.units+1+n<_;walk_at "o") c d x y x' y' (by walk_at "o") (by walk_at "o") rc rd hd rx ry
noncomputable def EU (f:Bool->Bool):R2:=fun x y H Q=>∃ O O' a b,Rep H O x a/\Rep H O' y b/\dp a<=40/\dp b<=40/\Q (.bl (f (eqD a b))) H
theorem Fe (I:Inv X pins σ H s){O O':Own}(A:Around)(hu:A.units+41<cLine)(a b:Dat)(v u:V)(v' u':Value)(ha:dp a<=40)(ra:Rep H O v a)(rb:Rep H O' u b)(hb:dp b<=40)(rv:zF v v')(ru:zF u u'):SeqAt.RcAt A s v' u' (eqD a b):=by
  have ih:∀ (c d:Dat) (v u:V) (v' u':Value),dp c<dp a->Rep H O v c->Rep H O' u d->dp d<1000->zF v v'->zF u u'->SeqAt.EqAt A.in1 s v' u' (eqD c d):=fun c d v u v' u' hc rc rd hd rv ru=>Wv I 40 A.in1 (by show A.units+1+40<_;walk_at "o") c d v u v' u' (by walk_at "o") (by walk_at "o") rc rd hd rv ru
  replace hu:A.units<cLine:=by walk_at "o"
  by_cases hr:∃ p q,v=.ref p/\u=.ref q
  · obtain ⟨p,q,rfl,rfl⟩:=hr
    cases rv
    cases ru
    exact Vm I ih ra rb (by walk_at "o") (by walk_at "o") hu
  · cases ra <;> cases rb <;> first
      | with_reducible exact absurd ⟨_,_,rfl,rfl⟩ hr
      | (rw [dp] at ha;walk_at "o")
      | (rw [dp] at hb;walk_at "o")
      | ((first | (obtain ⟨t0,rfl⟩:=rv) | cases rv);(first | (obtain ⟨t1,rfl⟩:=ru) | cases ru);simp only [eqD,Bool.not_false,Bool.not_true];first | walk_at "sc" | walk_at "sq")
theorem VW (I : Inv X pins σ H s){A : Around}{p q : Addr}{O O' : Own}{a b : Dat}(ih : ∀ (c d : Dat) (v u : V) (v' u' : Value), dp c < dp a -> Rep H O v c -> Rep H O' u d -> dp d < 1000 -> zF v v' -> zF u u' -> SeqAt.EqAt A.in1 s v' u' (eqD c d))
    (ra:Rep H O (.ref p) a) (rb:Rep H O' (.ref q) b) (ha:dp a<1000) (hb:dp b<1000) (hu:A.units<cLine):SeqAt.RcNeAt A s (.ref p) (.ref q) (!(eqD a b)):=by
  cases ra with
  | @lst _ xs l o1 h1 l1 r1=>
    obtain ⟨us,u1,p1,z1⟩:=I.list (SqL.of h1)
    cases rb with
    | @lst _ ys m o2 h2 l2 r2=>
      obtain ⟨ws,u2,p2,z2⟩:=I.list (SqL.of h2)
      have s1:us.toArray.size=l.length:=by rw [List.size_toArray,<- u1.length,l1]
      have s2:ws.toArray.size=m.length:=by rw [List.size_toArray,<- u2.length,l2]
      by_cases e:l.length=m.length
      · have h := SeqAt.RcNeAt.lists (A := A) (e := fun j => eqD (l.getD j .non) (m.getD j .non)) p1.isList p2.isList (by rw [s1, s2, e]) hu (fun j j1 j2 => by
          obtain ⟨x,hx,rx⟩:=kN u1 j1
          obtain ⟨y,hy,ry⟩:=kN u2 j2
          have k1:j<l.length:=by rw [<- s1];exact j1
          have k2:j<m.length:=by rw [<- s2];exact j2
          rw [dp] at ha hb ih
          refine ih _ _ x y _ _ ?_ (r1 j x _ hx ?_) (r2 j y _ hy ?_) ?_ rx ry
          · rw [List.getD_eq_getElem?_getD,List.getElem?_eq_getElem k1]
            have:=qx (List.getElem_mem k1);show dp l[j]<_;walk_at "o"
          · rw [List.getD_eq_getElem?_getD,List.getElem?_eq_getElem k1];rfl
          · rw [List.getD_eq_getElem?_getD,List.getElem?_eq_getElem k2];rfl
          · rw [List.getD_eq_getElem?_getD,List.getElem?_eq_getElem k2]
            have:=qx (List.getElem_mem k2);show dp m[j]<_;walk_at "o")
        rw [s1,<- kY l m e] at h
        rw [eqD];exact h
      · rw [eqD,kO l m e]
        exact SeqAt.RcNeAt.lists_lengths p1.isList p2.isList (by rw [s1,s2];simpa using e) hu
    | @tup _ ys m o2 h2 l2 r2=>
      obtain ⟨ws,u2,p2,z2⟩:=I.tuple (SqT.of h2)
      rw [Wl]
      exact SeqAt.RcNeAt.list_tuple p1.isList p2 hu
    | rng o2 h2=>rw [dp] at hb;walk_at "o"
    | scr o2 h2=>rw [dp] at hb;walk_at "o"
    | scrK _=>rw [dp] at hb;walk_at "o"
  | @tup _ xs l o1 h1 l1 r1=>
    obtain ⟨us,u1,p1,z1⟩:=I.tuple (SqT.of h1)
    cases rb with
    | @tup _ ys m o2 h2 l2 r2=>
      obtain ⟨ws,u2,p2,z2⟩:=I.tuple (SqT.of h2)
      have s1:us.toArray.size=l.length:=by rw [List.size_toArray,<- u1.length,l1]
      have s2:ws.toArray.size=m.length:=by rw [List.size_toArray,<- u2.length,l2]
      have h := SeqAt.RcNeAt.tuples (A := A) (e := fun j => eqD (l.getD j .non) (m.getD j .non)) (show s.heap.IsTuple p us.toArray from p1) (show s.heap.IsTuple q ws.toArray from p2) hu (fun j j1 j2 => by
          obtain ⟨x,hx,rx⟩:=kN u1 j1
          obtain ⟨y,hy,ry⟩:=kN u2 j2
          have k1:j<l.length:=by rw [<- s1];exact j1
          have k2:j<m.length:=by rw [<- s2];exact j2
          rw [dp] at ha hb ih
          refine ih _ _ x y _ _ ?_ (r1 j x _ hx ?_) (r2 j y _ hy ?_) ?_ rx ry
          · rw [List.getD_eq_getElem?_getD,List.getElem?_eq_getElem k1]
            have:=qx (List.getElem_mem k1);show dp l[j]<_;walk_at "o"
          · rw [List.getD_eq_getElem?_getD,List.getElem?_eq_getElem k1];rfl
          · rw [List.getD_eq_getElem?_getD,List.getElem?_eq_getElem k2];rfl
          · rw [List.getD_eq_getElem?_getD,List.getElem?_eq_getElem k2]
            have:=qx (List.getElem_mem k2);show dp m[j]<_;walk_at "o")
      rw [s1,s2] at h
      rw [eqD]
      by_cases e:l.length=m.length
      · rw [<- e,Nat.min_self,beq_self_eq_true,Bool.and_true,<- kY l m e] at h
        exact h
      · rw [kO l m e]
        rw [show (l.length == m.length)=false by simpa using e,Bool.and_false] at h
        exact h
    | @lst _ ys m o2 h2 l2 r2=>
      obtain ⟨ws,u2,p2,z2⟩:=I.list (SqL.of h2)
      rw [Af]
      exact SeqAt.RcNeAt.tuple_list p1 p2.isList hu
    | rng o2 h2=>rw [dp] at hb;walk_at "o"
    | scr o2 h2=>rw [dp] at hb;walk_at "o"
    | scrK _=>rw [dp] at hb;walk_at "o"
  | rng o2 h2=>rw [dp] at ha;walk_at "o"
  | scr o2 h2=>rw [dp] at ha;walk_at "o"
  | scrK _=>rw [dp] at ha;walk_at "o"
theorem Wj (I:Inv X pins σ H s){O O':Own}(A:Around)(hu:A.units+41<cLine)(a b:Dat)(v u:V)(v' u':Value)(ha:dp a<=40)(ra:Rep H O v a)(rb:Rep H O' u b)(hb:dp b<=40)(rv:zF v v')(ru:zF u u'):SeqAt.RcNeAt A s v' u' (!(eqD a b)):=by
  have ih:∀ (c d:Dat) (v u:V) (v' u':Value),dp c<dp a->Rep H O v c->Rep H O' u d->dp d<1000->zF v v'->zF u u'->SeqAt.EqAt A.in1 s v' u' (eqD c d):=fun c d v u v' u' hc rc rd hd rv ru=>Wv I 40 A.in1 (by show A.units+1+40<_;walk_at "o") c d v u v' u' (by walk_at "o") (by walk_at "o") rc rd hd rv ru
  replace hu:A.units<cLine:=by walk_at "o"
  by_cases hr:∃ p q,v=.ref p/\u=.ref q
  · obtain ⟨p,q,rfl,rfl⟩:=hr
    cases rv
    cases ru
    exact VW I ih ra rb (by walk_at "o") (by walk_at "o") hu
  · cases ra <;> cases rb <;> first
      | with_reducible exact absurd ⟨_,_,rfl,rfl⟩ hr
      | (rw [dp] at ha;walk_at "o")
      | (rw [dp] at hb;walk_at "o")
      | ((first | (obtain ⟨t0,rfl⟩:=rv) | cases rv);(first | (obtain ⟨t1,rfl⟩:=ru) | cases ru);simp only [eqD,Bool.not_false,Bool.not_true];first | walk_at "sc" | walk_at "sq")
theorem qw (hu:X.A.units+64<cLine):OpR X (compareOp .Eq) (EU id):=by
 intro pins s σ H x y v u Q I rx ry h
 obtain ⟨O,O',a,b,ra,rb,ha,hb,k⟩:=h
 exact Fe I X.A (by walk_at "o") a b x y v u ha ra rb hb rx ry _ _ _ _ ⟨.bl _,H,I,rfl,k⟩
theorem yB (hu:X.A.units+64<cLine):OpR X (compareOp .NotEq) (EU not):=by
 intro pins s σ H x y v u Q I rx ry h
 obtain ⟨O,O',a,b,ra,rb,ha,hb,k⟩:=h
 exact Wj I X.A (by walk_at "o") a b x y v u ha ra rb hb rx ry _ _ _ _ ⟨.bl _,H,I,rfl,k⟩
end
noncomputable def kD (x:AV)(M:MH):Option Dat:=match x with
 | .d x=>some x
 | .ref a=>match M a with
  | some (.lst l)=>(pur l).map .lst
  | _=>none
theorem D3 (x:Dat)(M:MH):kD (.d x) M=some x:=rfl
theorem yg {a:Addr}{M:MH}{l:List AV}{ds:List Dat}(h:M a=some (.lst l))(hp:pur l=some ds):kD (.ref a) M=some (.lst ds):=by unfold kD;dsimp only;rw [h];dsimp only;rw [hp];rfl
theorem QI {H:Hp}{O:Own}{M:MH}{v:V}{x:AV}{d:Dat}(w:Wf H O M)(r:zq H O M v x)(h:kD x M=some d):∃ O',Rep H O' v d:=by
 cases x with
 | d x=>cases h;exact ⟨O,r⟩
 | ref a=>
  unfold kD at h
  dsimp only at h
  cases e:M a with
  | none=>rw [e] at h;cases h
  | some o=>
   rw [e] at h
   cases o with
   | lst l=>
    dsimp only at h
    cases ep:pur l with
    | none=>rw [ep] at h;cases h
    | some ds=>
     rw [ep] at h
     cases h
     obtain ⟨xs,hx,rx⟩:=w.mo a _ e
     rw [jY ep] at rx
     have rp:=rx.pure
     refine ⟨A4 O a,?_⟩
     rw [r.1]
     exact Rep.lst (fun z=>z.1 rfl) hx rp.1 fun i x d e1 e2=>(rp.2 i x d e1 e2).imp (yM a)
   | _=>cases h
noncomputable def Qb (f:Bool->Bool):AR2:=fun x y M Q=>∃ a b,kD x M=some a/\kD y M=some b/\dp a<=40/\dp b<=40/\Q (.d (.bl (f (eqD a b)))) M
theorem Bp {f:Bool->Bool}:Zh (EU f) (Qb f):=⟨fun w r1 r2 ⟨a,b,e1,e2,h1,h2,q⟩ k=>by
 obtain ⟨O1,p1⟩:=QI w r1 e1
 obtain ⟨O2,p2⟩:=QI w r2 e2
 exact ⟨O1,O2,a,b,p1,p2,h1,h2,k _ _ _ _ _ q .refl w .bl⟩⟩
theorem xM (i:Int):dp (.int i)=0:=by simp [dp]
theorem vf (ns:List Int):dp (.lst (ns.map .int))<=1:=by
 rw [dp]
 have:dps (ns.map Dat.int)<=0:=ZH fun d hd=>by
  obtain ⟨i,_,rfl⟩:=List.mem_map.mp hd
  rw [xM];exact Nat.le_refl _
 walk_at "o"
theorem qG {H:Hp}{O:Own}{M:MH}{vs:List V}{x:AV}(r:zf H O M vs [x]):∃ v,vs=[v]/\zq H O M v x:=by
 obtain ⟨v1,r',rfl,a1,r2⟩:=r.cons_inv
 rw [r2.nil_inv];exact ⟨v1,rfl,a1⟩
theorem xJ {H:Hp}{O:Own}{M:MH}{vs:List V}{x y:AV}(r:zf H O M vs [x,y]):∃ v u,vs=[v,u]/\zq H O M v x/\zq H O M u y:=by
 obtain ⟨v1,r',rfl,a1,r2⟩:=r.cons_inv
 obtain ⟨v2,rfl,a2⟩:=qG r2
 exact ⟨v1,v2,rfl,a1,a2⟩
noncomputable def Ac:List AV->MH->AK->Prop:=fun xs M Q=>∃ x l,xs=[x]/\zN x M=some l/\Q (.d (.int (l.length:Nat))) M
theorem AW {K:PySem.W.Frag}:we (fun xs H Q=>∃ p ys,xs=[V.ref p]/\(SqL K H p ys \/ SqT K H p ys)/\Q (V.int ys.length) H) Ac:=⟨fun w r ⟨x,l,e,h,q⟩ k=>by
 subst e
 obtain ⟨v,rfl,rv⟩:=qG r
 obtain ⟨a,xs,rfl,h1,r1⟩:=yG w rv h
 exact ⟨a,xs,rfl,h1.elim (fun h=>.inl (SqL.of h)) (fun h=>.inr (SqT.of h)),by rw [r1.1];exact k _ _ _ _ _ q .refl w .int⟩⟩
noncomputable def bI2 (f:Int->Int->Int):List AV->MH->AK->Prop:=fun xs M Q=>∃ i j,xs=[.d (.int i),.d (.int j)]/\Q (.d (.int (f i j))) M
theorem FE {f:Int->Int->Int}:we (fun xs H Q=>∃ i j,xs=[V.int i,V.int j]/\Q (V.int (f i j)) H) (bI2 f):=⟨fun w r ⟨i,j,e,q⟩ k=>by
 subst e
 obtain ⟨v,u,rfl,rv,ru⟩:=xJ r
 exact ⟨i,j,by rw [zT rv,zT ru],k _ _ _ _ _ q .refl w .int⟩⟩
noncomputable def Dv:List AV->MH->AK->Prop:=fun xs M Q=>∃ c,xs=[.d (.bl c)]/\Q (.d (.int (if c=true then 1 else 0))) M
theorem Vl:we (fun xs H Q=>∃ k,xs=[V.bl k]/\Q (V.int (if k=true then 1 else 0)) H) Dv:=⟨fun w r ⟨c,e,q⟩ k=>by
 subst e
 obtain ⟨v,rfl,rv⟩:=qG r
 exact ⟨c,by rw [xX rv],k _ _ _ _ _ q .refl w .int⟩⟩
noncomputable def VQ:List AV->MH->AK->Prop:=fun xs M Q=>∃ x l ds,xs=[x]/\zN x M=some l/\pur l=some ds/\Q (.d (.tup ds)) M
theorem Xt {K:PySem.W.Frag}:we (fun xs H Q=>∃ p ys,xs=[V.ref p]/\((SqL K H p ys/\∀ l,H l=none->Q (V.ref l) (upd H l (HO.tup ys))) \/ SqT K H p ys/\Q (V.ref p) H)) VQ:=⟨fun w r ⟨x,l,ds,e,h,hp,q⟩ k=>by
 subst e
 obtain ⟨v,rfl,rv⟩:=qG r
 rw [jY hp] at h
 rcases qH h with h' | ⟨m,rfl,e2⟩
 ·obtain ⟨a,xs,rfl,h1,r1⟩:=zY w rv h'
  exact ⟨a,xs,rfl,.inl ⟨SqL.of h1,fun p hp=>k _ _ _ _ _ q (qj w hp _) (ke w hp _) (ZO w hp r1)⟩⟩
 ·obtain rfl:ds=m:=by have:=congrArg pur e2;rw [zJ,zJ] at this;cases this;rfl
  obtain ⟨a,xs,rfl,h1,r1⟩:=qP (l:=ds.map .d) rv rfl
  exact ⟨a,xs,rfl,.inr ⟨SqT.of h1,k _ _ _ _ _ q .refl w rv⟩⟩⟩
structure Ko (r:List V->Hp->VK->Prop)(a:List AV->MH->(List AV->Prop)->Prop):Prop where
 go:∀ {vs:List V} {xs:List AV} {H:Hp} {O:Own} {M:MH} {Q:VK} {Q':List AV->Prop},Wf H O M->zf H O M vs xs->a xs M Q'->(∀ l ys,Q' l->zf H O M ys l->∀ p,H p=none->Q (.ref p) (upd H p (.lst ys)))->r vs H Q
noncomputable def fCB (r:List AV->MH->(List AV->Prop)->Prop)(b:AA):AF:=fun ρ M Q=>b ρ M fun xs M1=>r xs M1 fun l=>Q l M1
theorem vk {r:List V->Hp->VK->Prop}{ra:List AV->MH->(List AV->Prop)->Prop}{u:TA}{b:AA}(hr:Ko r ra)(h:kj u b):Zj (tCB r u) (fCB ra b):=
 ⟨fun w e q k=>h.go w e q fun x M1 v H1 O1 q1 k1 w1 r1=>hr.go w1 r1 q1 fun l ys q3 r3 p hp=>
  k l M1 p ys _ _ q3 (k1.trans (qL w1 hp _)) (yL w1 hp _ (fun _ z=>nomatch z)) (.inl rfl) (w1.fresh hp).2 (xl w1 k1 hp) zl (r3.ext (qL w1 hp _))⟩
noncomputable def Y6:List AV->MH->(List AV->Prop)->Prop:=fun xs M Q=>∃ x l,xs=[x]/\zN x M=some l/\Q l
theorem wJ {K:PySem.W.Frag}:Ko (fun xs H Q=>∃ p ys,xs=[V.ref p]/\(SqL K H p ys \/ SqT K H p ys)/\∀ l,H l=none->Q (V.ref l) (upd H l (HO.lst ys))) Y6:=⟨fun w r ⟨x,l,e,h,q⟩ k=>by
 subst e
 obtain ⟨v,rfl,rv⟩:=qG r
 obtain ⟨a,xs,rfl,h1,r1⟩:=yG w rv h
 exact ⟨a,xs,rfl,h1.elim (fun h=>.inl (SqL.of h)) (fun h=>.inr (SqT.of h)),k _ _ q r1⟩⟩
theorem jo {H:Hp}{O:Own}{M:MH}:∀ {ns:List Int} {xs:List V},zf H O M xs (ns.map fun i=>AV.d (.int i))->xs=ns.map V.int
 | [],xs,r=>r.nil_inv
 | i :: ns,xs,r=>by
  obtain ⟨v,r',rfl,a1,r2⟩:=r.cons_inv
  rw [zT a1,jo r2];rfl
noncomputable def tyA (x:AV)(M:MH):Option String:=match x with
 | .d .non=>some "NoneType"
 | .d (.bl _)=>some "bool"
 | .d (.int _)=>some "int"
 | .d (.str _)=>some "str"
 | .d (.lst _)=>some "list"
 | .d (.tup _)=>some "tuple"
 | .ref a=>match M a with
  | some (.lst _)=>some "list"
  | some (.dK _)=>some "dict"
  | _=>none
 | _=>none
theorem Wb {K:PySem.W.Frag}{H:Hp}{O:Own}{M:MH}{v:V}{x:AV}{t:String}(w:Wf H O M)(r:zq H O M v x)(h:tyA x M=some t):kI K H v (.type t):=by
 cases x with
 | d x=>
  cases (show Rep H O v x from r) with
  | non=>cases h;exact .non
  | bl=>cases h;exact .bl _
  | int=>cases h;exact .int _
  | str=>cases h;exact .str _
  | lst o e=>cases h;exact .lst e
  | tup o e=>cases h;exact .tup e
  | ty=>cases h
  | rng _ _=>cases h
  | scr _ _=>cases h
  | scrK _=>cases h
 | ref a=>
  unfold tyA at h
  dsimp only at h
  rw [r.1]
  cases e:M a with
  | none=>rw [e] at h;cases h
  | some o=>
   rw [e] at h
   have:=w.mo a o e
   cases o with
   | lst l=>cases h;obtain ⟨xs,hx,_⟩:=this;exact .lst hx
   | dK l=>cases h;obtain ⟨xs,hx,_⟩:=this;exact .dK hx
   | ins C fs=>cases h
   | exc C fs=>cases h
   | tb R=>cases h
noncomputable def B8:List AV->MH->AK->Prop:=fun xs M Q=>∃ x t c b,xs=[x,.d (.ty c)]/\tyA x M=some t/\isT t c=some b/\Q (.d (.bl b)) M
theorem B2 {K:PySem.W.Frag}:we (fun xs H Q=>∃ x t c b,xs=[x,V.ty c]/\kI K H x (Value.type t)/\isT t c=some b/\Q (V.bl b) H) B8:=⟨fun w r ⟨x,t,c,b,e,h,hb,q⟩ k=>by
 subst e
 obtain ⟨v,u,rfl,rv,ru⟩:=xJ r
 exact ⟨v,t,c,b,by rw [An ru],Wb w rv h,hb,k _ _ _ _ _ q .refl w .bl⟩⟩
theorem KA {H:Hp}{O:Own}{M:MH}:∀ {ns:List String} {xs:List V},zf H O M xs ((ns.map Dat.ty).map .d)->xs=ns.map V.ty
 | [],xs,r=>r.nil_inv
 | i :: ns,xs,r=>by
  obtain ⟨v,r',rfl,a1,r2⟩:=r.cons_inv
  rw [An a1,KA r2];rfl
noncomputable def QQ:List Dat->Option (List String)
 | []=>some []
 | .ty n :: r=>(QQ r).map (n :: ·)
 | _=>none
theorem KY:∀ {l:List Dat} {cs:List String},QQ l=some cs->l=cs.map Dat.ty
 | [],cs,h=>by cases h;rfl
 | .ty n :: r,cs,h=>by
  unfold QQ at h
  cases e:QQ r with
  | none=>rw [e] at h;cases h
  | some m=>rw [e] at h;cases h;rw [KY e];rfl
 | .non :: _,_,h=>by cases h
 | .bl _ :: _,_,h=>by cases h
 | .int _ :: _,_,h=>by cases h
 | .str _ :: _,_,h=>by cases h
 | .lst _ :: _,_,h=>by cases h
 | .tup _ :: _,_,h=>by cases h
 | .rng _ _ _ :: _,_,h=>by cases h
 | .scr _ _ :: _,_,h=>by cases h
noncomputable def Yz:List AV->MH->AK->Prop:=fun xs M Q=>∃ x t l cs b,xs=[x,.d (.tup l)]/\QQ l=some cs/\tyA x M=some t/\va t cs=some b/\Q (.d (.bl b)) M
theorem Ab {K:PySem.W.Frag}:we (fun xs H Q=>∃ x t p cs b,xs=[x,V.ref p]/\H p=some (HO.tup (List.map V.ty cs))/\kI K H x (Value.type t)/\va t cs=some b/\Q (V.bl b) H) Yz:=⟨fun w r ⟨x,t,l,cs,b,e,hc,h,hb,q⟩ k=>by
 subst e
 obtain ⟨v,u,rfl,rv,ru⟩:=xJ r
 rw [KY hc] at ru
 obtain ⟨a,xs,rfl,h1,r1⟩:=qP (l:=(cs.map Dat.ty).map .d) ru rfl
 rw [KA r1] at h1
 exact ⟨v,t,a,cs,b,rfl,h1,Wb w rv h,hb,k _ _ _ _ _ q .refl w .bl⟩⟩
theorem KL {H:Hp}{O:Own}{M:MH}:∀ {ns:List Bool} {xs:List V},zf H O M xs (ns.map fun i=>AV.d (.bl i))->xs=ns.map V.bl
 | [],xs,r=>r.nil_inv
 | i :: ns,xs,r=>by
  obtain ⟨v,r',rfl,a1,r2⟩:=r.cons_inv
  rw [xX a1,KL r2];rfl
noncomputable def FL (f:List Bool->Bool):List AV->MH->AK->Prop:=fun xs M Q=>∃ x bs,xs=[x]/\qb x M=some (List.map (fun b=>AV.d (.bl b)) bs)/\Q (.d (.bl (f bs))) M
theorem BL {K:PySem.W.Frag}{f:List Bool->Bool}:we (fun xs H Q=>∃ p bs,xs=[V.ref p]/\SqL K H p (List.map V.bl bs)/\Q (V.bl (f bs)) H) (FL f):=⟨fun w r ⟨x,bs,e,h,q⟩ k=>by
 subst e
 obtain ⟨v,rfl,rv⟩:=qG r
 obtain ⟨a,xs,rfl,h1,r1⟩:=zY w rv h
 rw [KL r1] at h1
 exact ⟨a,bs,rfl,SqL.of h1,k _ _ _ _ _ q .refl w .bl⟩⟩
noncomputable def Dt:List AV->MH->AK->Prop:=fun xs M Q=>∃ b,xs=[.d (.int b)]/\Q (.d (.rng 0 b 1)) M
theorem Yx:we (fun xs H Q=>∃ b,xs=[V.int b]/\∀ (p:Addr),H p=none->Q (V.ref p) (upd H p (wf p 0 b 1))) Dt:=⟨fun w r ⟨b,e,q⟩ k=>by
 subst e
 obtain ⟨v,rfl,rv⟩:=qG r
 exact ⟨b,by rw [zT rv],fun p hp=>k _ _ _ _ _ q (qj w hp _) (ke w hp _) (Rep.rng (w.fresh hp).1 zl)⟩⟩
noncomputable def V5:List AV->MH->(List AV->Prop)->Prop:=fun xs M Q=>∃ a b c n,xs=[.d (.rng a b c)]/\Builtin.Range.small a b c=true/\Builtin.Range.rangeSize a b c=((n:Nat):Int)/\n<=100000/\Q ((zr a c n).map fun i=>AV.d (.int i))
theorem wK:Ko (fun xs H Q=>∃ p a b c n,xs=[.ref p]/\H p=some (wf p a b c)/\Builtin.Range.small a b c=true/\Builtin.Range.rangeSize a b c=((n:Nat):Int)/\n<=100000/\∀ l,H l=none->Q (.ref l) (upd H l (.lst ((zr a c n).map V.int)))) V5:=⟨fun {vs xs H O M Q Q'} w r ⟨a,b,c,n,e,h1,h2,h3,q⟩ k=>by
 subst e
 obtain ⟨v,rfl,rv⟩:=qG r
 cases (show Rep H O v (.rng a b c) from rv) with
 | rng o h=>exact ⟨_,a,b,c,n,rfl,h,h1,h2,h3,k _ _ q (Zo _)⟩⟩
noncomputable def flD:Dat->Option V
 | .non=>some .non
 | .bl b=>some (.bl b)
 | .int i=>some (.int i)
 | .str s=>some (.str s)
 | _=>none
noncomputable def Z9:List AV->Option (List V)
 | []=>some []
 | .d x :: r=>match flD x,Z9 r with
  | some v,some l=>some (v :: l)
  | _,_=>none
 | _=>none
theorem Y5 {H:Hp}{O:Own}{v x:V}{d:Dat}(r:Rep H O v d)(h:flD d=some x):v=x/\j5 v=true:=by
 cases r <;> cases h <;> exact ⟨rfl,rfl⟩
theorem K5 {H:Hp}{O:Own}{M:MH}:∀ {l:List AV} {xs vs:List V},zf H O M xs l->Z9 l=some vs->xs=vs/\xs.all j5=true
 | [],xs,vs,r,h=>by cases h;rw [r.nil_inv];exact ⟨rfl,rfl⟩
 | .d d :: l,xs,vs,r,h=>by
  obtain ⟨v,r',rfl,a1,r2⟩:=r.cons_inv
  unfold Z9 at h
  cases e1:flD d with
  | none=>rw [e1] at h;cases h
  | some z=>
   cases e2:Z9 l with
   | none=>rw [e1,e2] at h;cases h
   | some zs=>
    rw [e1,e2] at h
    cases h
    obtain ⟨h1,h2⟩:=Y5 a1 e1
    obtain ⟨h3,h4⟩:=K5 r2 e2
    subst h1 h3
    exact ⟨rfl,by rw [List.all_cons,h2,h4];rfl⟩
 | .ref a :: l,xs,vs,r,h=>by cases h
theorem yw:∀ (ns:List Int),Z9 (ns.map fun i=>AV.d (.int i))=some (ns.map V.int)
 | []=>rfl
 | i :: r=>by rw [List.map_cons,Z9,yw r];rfl
theorem xK (ns:List Int):Z9 ((ns.map Dat.int).map .d)=some (ns.map V.int):=by rw [List.map_map];exact yw ns
structure Bd (r:V->List V->Hp->VK->Prop)(a:AV->List AV->MH->AK->Prop):Prop where
 go:∀ {x:V} {dx:AV} {vs:List V} {xs:List AV} {H:Hp} {O:Own} {M:MH} {Q:VK} {Q':AK},Wf H O M->zq H O M x dx->zf H O M vs xs->a dx xs M Q'->(∀ x M' v H' O',Q' x M'->Ext H O M H' O' M'->Wf H' O' M'->zq H' O' M' v x->Q v H')->r x vs H Q
noncomputable def aBM (r:AV->List AV->MH->AK->Prop)(a:AE)(b:AA):AE:=fun ρ M Q=>a ρ M fun x M1=>(∃ l,qb x M1=some l)/\b ρ M1 fun xs M2=>r x xs M2 Q
theorem Fo {K:PySem.W.Frag}{r:V->List V->Hp->VK->Prop}{ra:AV->List AV->MH->AK->Prop}{t:TE}{u:TA}{a:AE}{b:AA}(hr:Bd r ra)(h1:zU t a)(h2:kj u b):zU (tBM K "list" r t u) (aBM ra a b):=
 ⟨fun w e q k=>h1.go w e q fun x M1 v H1 O1 ⟨⟨l,hl⟩,q1⟩ k1 w1 r1=>⟨by
  obtain ⟨a,xs,rfl,hx,_⟩:=zY w1 r1 hl
  exact .inl ⟨rfl,xs,SqL.of hx⟩,h2.go w1 (e.ext k1) q1 fun y M2 u H2 O2 q2 k2 w2 r2=>hr.go w2 (r1.ext k2) r2 q2 fun z M3 v3 H3 O3 q3 k3 w3 r3=>k z M3 v3 H3 O3 q3 ((k1.trans k2).trans k3) w3 r3⟩⟩
theorem Qa {H:Hp}{O:Own}{M:MH}{p:Addr}{l l':List AV}{xs':List V}(w:Wf H O M)(hm:M p=some (.lst l))(r:zf H O M xs' l'):Ext H O M (upd H p (.lst xs')) O (mup M p (.lst l'))/\Wf (upd H p (.lst xs')) O (mup M p (.lst l')):=
 have np:=jT hm
 ⟨yi w np _ _,VL w np (fun _ z=>nomatch z) ⟨_,zl,r.ext (yi w np _ _)⟩⟩
noncomputable def vg:AV->List AV->MH->AK->Prop:=fun x xs M Q=>∃ p l y,x=.ref p/\xs=[y]/\M p=some (.lst l)/\l.length<sizeLine/\Q (.d .non) (mup M p (.lst (l ++ [y])))
theorem Jr:Bd vj vg:=⟨fun w r1 r2 ⟨p,l,y,e1,e2,hm,hs,q⟩ k=>by
 subst e1 e2
 obtain ⟨v,rfl,rv⟩:=qG r2
 obtain ⟨xs,hx,rx⟩:=w.mo p _ hm
 obtain ⟨k1,w1⟩:=Qa w hm (rx.snoc rv)
 exact ⟨p,xs,v,r1.1,rfl,hx,by rw [rx.1];exact hs,k _ _ _ _ _ q k1 w1 .non⟩⟩
noncomputable def Zf:AV->List AV->MH->AK->Prop:=fun x xs M Q=>∃ p l y m,x=.ref p/\xs=[y]/\M p=some (.lst l)/\qb y M=some m/\l.length+m.length<=sizeLine/\Q (.d .non) (mup M p (.lst (l ++ m)))
theorem JG:Bd vm Zf:=⟨fun w r1 r2 ⟨p,l,y,m,e1,e2,hm,hy,hs,q⟩ k=>by
 subst e1 e2
 obtain ⟨v,rfl,rv⟩:=qG r2
 obtain ⟨xs,hx,rx⟩:=w.mo p _ hm
 obtain ⟨b,ys,rfl,hb,rb⟩:=zY w rv hy
 obtain ⟨k1,w1⟩:=Qa w hm (rx.append rb)
 exact ⟨p,b,xs,ys,r1.1,rfl,hx,hb,by rw [rx.1,rb.1];exact hs,k _ _ _ _ _ q k1 w1 .non⟩⟩
noncomputable def V8:AV->List AV->MH->AK->Prop:=fun x xs M Q=>∃ l vs d v,qb x M=some l/\xs=[.d d]/\Z9 l=some vs/\flD d=some v/\Q (.d (.int ((vs.countP fun y=>eqV y v:Nat)))) M
theorem ww:Bd Zk V8:=⟨fun w r1 r2 ⟨l,vs,d,v,hl,e,hs,hv,q⟩ k=>by
 subst e
 obtain ⟨u,rfl,ru⟩:=qG r2
 obtain ⟨a,xs,rfl,h1,p1⟩:=zY w r1 hl
 obtain ⟨rfl,f1⟩:=Y5 ru hv
 obtain ⟨rfl,f2⟩:=K5 p1 hs
 exact ⟨a,xs,u,rfl,rfl,h1,f2,f1,k _ _ _ _ _ q .refl w .int⟩⟩
noncomputable def VR (r:Addr):MO->Prop
 | .lst l=>AV.ref r ∈ l
 | .dK kvs=>AV.ref r ∈ kvs.map (·.2)
 | .ins _ fs=>AV.ref r ∈ fs.map (·.2)
 | .exc _ _=>False
 | .tb _=>False
inductive Dee (M M2:MH):AV->Dat->Prop
 | d {x:Dat}:Dee M M2 (.d x) x
 | lst {p:Addr} {l:List AV} {ds:List Dat}:M p=some (.lst l)->M2 p=none->l.length=ds.length->(∀ (i:Nat) a b,l[i]?=some a->ds[i]?=some b->Dee M M2 a b)->Dee M M2 (.ref p) (.lst ds)
structure JX (M0 M':MH)(x x':AV)(M'':MH):Prop where
 sub:∀ q,M'' q=M' q \/ (M0 q=none/\M'' q=none)
 cl:∀ q o,M'' q=some o->M0 q=some o \/ ∀ r,VR r o->M'' r ≠ none
 res:(x'=x/\∀ p,x=.ref p->M'' p ≠ none) \/ (∃ p l ds,x=.ref p/\M' p=some (.lst l)/\pur l=some ds/\M'' p=none/\x'=.d (.lst ds)) \/ ∃ d,Dee M' M'' x d/\x'=.d d
theorem Dee.rep {H:Hp}{O:Own}{M M2:MH}(w:Wf H O M){x:AV}{d:Dat}(h:Dee M M2 x d):∀ {v:V},zq H O M v x->Rep H (fun a=>O a/\¬ (M a ≠ none/\M2 a=none)) v d:=by
 induction h with
 | d=>exact fun r=>Rep.imp (fun a u h e=>⟨e,fun z=>h z.1⟩) r
 | @lst p l ds hm hn hl _ ih=>
  intro v r
  obtain ⟨xs,hx,rx⟩:=w.mo p _ hm
  rw [r.1]
  refine Rep.lst (fun z=>z.2 ⟨jT hm,hn⟩) hx (rx.1.trans hl) fun i x d e1 e2=>?_
  have hi:=(List.getElem?_eq_some_iff.mp e2).1
  have ha:l[i]?=some (l[i]'(by walk_at "o")):=List.getElem?_eq_getElem (by walk_at "o")
  exact ih i _ d ha e2 (rx.2 i x _ e1 ha)
theorem B9 {H0 H : Hp}{O0 O : Own}{M0 M' M'' : MH}{x x' : AV}{v : V}(w0 : Wf H0 O0 M0)(w : Wf H O M')(k : Ext H0 O0 M0 H O M')(r : zq H O M' v x)(f : JX M0 M' x x' M'') :
    ∃ O'',Wf H O'' M''/\Ext H0 O0 M0 H O'' M''/\zq H O'' M'' v x'/\∀ a,O a->M' a=none->O'' a/\M'' a=none:=by
  have ks:∀ a u,¬ O a->H a=some u->H a=some u/\¬ (O a/\¬ (M' a ≠ none/\M'' a=none)):=fun a u h e=>⟨e,fun z=>h z.1⟩
  have k0:∀ a,M0 a ≠ none->M'' a=M' a:=fun a h=>(f.sub a).elim (fun z=>z) (fun z=>absurd z.1 h)
  have m0:∀ a,M0 a ≠ none->M'' a ≠ none:=fun a h=>by rw [k0 a h];exact k.mst a h
  have avs:∀ {xs:List V} {l:List AV},zf H O M' xs l->(∀ r,AV.ref r ∈ l->M'' r ≠ none)->zf H (fun a=>O a/\¬ (M' a ≠ none/\M'' a=none)) M'' xs l:=fun {xs l} rr hr=>⟨rr.1,fun i y d e1 e2=>by
    have:=rr.2 i y d e1 e2
    cases d with
    | d d=>exact Rep.imp ks this
    | ref a=>exact ⟨this.1,hr a (List.mem_of_getElem? e2)⟩⟩
  have refs0:∀ q o,M0 q=some o->∀ r,VR r o->M0 r ≠ none:=fun q o e r hr=>by
    have:=w0.mo q o e
    cases o with
    | lst l=>
      obtain ⟨xs,_,rr⟩:=this
      obtain ⟨i,hi⟩:=List.getElem?_of_mem hr
      obtain ⟨y,_,ry⟩:=rr.get hi
      exact ry.2
    | dK l=>
      obtain ⟨xs,_,rr⟩:=this
      obtain ⟨i,hi⟩:=List.getElem?_of_mem hr
      obtain ⟨y,_,ry⟩:=rr.2.get hi
      exact ry.2
    | ins C l=>
      obtain ⟨dx,xs,_,rr,_⟩:=this
      obtain ⟨i,hi⟩:=List.getElem?_of_mem hr
      obtain ⟨y,_,ry⟩:=rr.2.get hi
      exact ry.2
    | exc C l=>exact hr.elim
    | tb R=>exact hr.elim
  refine ⟨fun a=>O a/\¬ (M' a ≠ none/\M'' a=none),⟨fun q o e=>?_,fun a h=>?_,fun a h=>w.al a h.1⟩,⟨fun a u h e=>?_,fun a h e=>?_,m0⟩,?_,fun a h e=>⟨⟨h,fun z=>z.1 e⟩,(f.sub a).elim (fun z=>z.trans e) (fun z=>z.2)⟩⟩
  · have e' : M' q = some o := by
      rcases f.sub q with z | z
      · rw [<- z];exact e
      · rw [z.2] at e;cases e
    have hr:∀ r,VR r o->M'' r ≠ none:=by
      rcases f.cl q o e with z | z
      · exact fun r hr=>m0 r (refs0 q o z r hr)
      · exact z
    have:=w.mo q o e'
    cases o with
    | lst l=>obtain ⟨xs,h1,rr⟩:=this;exact ⟨xs,h1,avs rr hr⟩
    | dK l=>obtain ⟨xs,h1,rr⟩:=this;exact ⟨xs,h1,rr.1,avs rr.2 hr⟩
    | ins C l=>
      obtain ⟨dx,xs,h1,rr,h2,h3,h4⟩:=this
      refine ⟨dx,xs,h1,⟨rr.1,avs rr.2 hr⟩,⟨h2,fun z=>z.1 h3⟩,?_,h4⟩
      rcases f.sub dx with z | z
      · rw [z];exact h3
      · exact z.2
    | exc C l=>
      obtain ⟨d,h1,h2⟩:=this
      refine ⟨d,h1,?_⟩
      rcases h2 with h2 | ⟨dx,e1,h2,h3,h4⟩
      · exact .inl h2
      · refine .inr ⟨dx,e1,h2,⟨h3,fun z=>z.1 h4⟩,?_⟩
        rcases f.sub dx with z | z
        · rw [z];exact h4
        · exact z.2
    | tb R=>obtain ⟨ps,h1,h2⟩:=this;exact ⟨ps,h1,h2.imp id fun ⟨c,oc,u,a1,a2,a3⟩=>⟨c,oc,u,a1,fun z=>a2 z.1,a3⟩⟩
  · refine ⟨w.own a ?_,fun z=>h z.2⟩
    rcases f.sub a with z | z
    · rw [<- z];exact h
    · exact absurd z.2 h
  · obtain ⟨x1,x2⟩:=k.fix a u h e
    exact ⟨x1,fun z=>x2 z.1⟩
  · obtain ⟨x1,x2,x3⟩:=k.prv a h e
    refine ⟨x1,⟨x2,fun z=>z.1 x3⟩,?_⟩
    rcases f.sub a with z | z
    · rw [z];exact x3
    · exact z.2
  · rcases f.res with ⟨rfl,hp⟩ | ⟨p,l,ds,rfl,hm,hp,hn,rfl⟩ | ⟨d,hd,rfl⟩
    · cases x' with
      | d d=>exact Rep.imp ks r
      | ref a=>exact ⟨r.1,hp a rfl⟩
    · obtain ⟨xs,hx,rx⟩:=w.mo p _ hm
      rw [jY hp] at rx
      have rp:=rx.pure
      rw [r.1]
      exact Rep.lst (fun z=>z.2 ⟨jT hm,hn⟩) hx rp.1 fun i x d e1 e2=>(rp.2 i x d e1 e2).imp ks
    · exact hd.rep w r
theorem yz {H0 H:Hp}{O0 O:Own}{M0 M' M'':MH}{x x':AV}{v:V}(w0:Wf H0 O0 M0)(w:Wf H O M')(k:Ext H0 O0 M0 H O M')(r:zq H O M' v x)(f:JX M0 M' x x' M'') :
  ∃ O'',Wf H O'' M''/\Ext H0 O0 M0 H O'' M''/\zq H O'' M'' v x':=let ⟨O2,a,b,c,_⟩:=B9 w0 w k r f;⟨O2,a,b,c⟩
noncomputable def Fr (M0 M:MH):Prop:=∀ q,M0 q ≠ none->M q=M0 q
theorem Fr.refl {M:MH}:Fr M M:=fun _ _=>rfl
theorem Fr.mup {M0 M:MH}(f:Fr M0 M){p:Addr}(h:M0 p=none)(o:MO):Fr M0 (mup M p o):=fun q hq=>by rw [zC (fun z=>hq (by rw [z];exact h))];exact f q hq
theorem Fr.sub {M0 M:MH}(f:Fr M0 M)(q:Addr):M0 q=M q \/ (M0 q=none/\M0 q=none):=by
 cases e:M0 q with
 | none=>exact .inr ⟨rfl,rfl⟩
 | some o=>exact .inl (by rw [f q (by rw [e];exact fun z=>nomatch z),e])
theorem Dh {M0 M:MH}(f:Fr M0 M)(d:Dat):JX M0 M (.d d) (.d d) M0:=⟨f.sub,fun q o e=>.inl e,.inl ⟨rfl,fun p z=>nomatch z⟩⟩
theorem jx {M0 M:MH}(f:Fr M0 M){p:Addr}{l:List AV}{ds:List Dat}(h0:M0 p=none)(h:M p=some (.lst l))(hp:pur l=some ds):JX M0 M (.ref p) (.d (.lst ds)) M0:=⟨f.sub,fun q o e=>.inl e,.inr (.inl ⟨p,l,ds,rfl,h,hp,h0,rfl⟩)⟩
theorem KH {l:List AV}{ds:List Dat}(h:pur l=some ds)(r:Addr):AV.ref r ∉ l:=by
 rw [jY h];intro z
 obtain ⟨d,_,e⟩:=List.mem_map.mp z
 cases e
theorem xu {M0 M:MH}(f:Fr M0 M){p:Addr}{l:List AV}{ds:List Dat}(h0:M0 p=none)(h:M p=some (.lst l))(hp:pur l=some ds):JX M0 M (.ref p) (.ref p) (mup M0 p (.lst l)):=by
 refine ⟨fun q=>?_,fun q o e=>?_,.inl ⟨rfl,fun q z=>by cases z;rw [ze];exact fun z=>nomatch z⟩⟩
 ·by_cases c:q=p
  ·rw [c,ze,h];exact .inl rfl
  ·rw [zC c];exact f.sub q
 ·by_cases c:q=p
  ·rw [c,ze] at e
   cases e
   exact .inr fun r hr=>absurd hr (KH hp r)
  ·rw [zC c] at e;exact .inl e
noncomputable def qi (N:List Str)(xs:List AV):ASt:=xs.map some ++ List.replicate (N.length - xs.length) none
theorem QK {H:Hp}{O:Own}{M:MH}{vs:List V}{xs:List AV}(r:zf H O M vs xs)(N:List Str):Er H O M (jb N vs) (qi N xs):=by
 unfold jb qi
 refine ⟨by simp [r.1],fun i x h=>?_⟩
 by_cases c:i<xs.length
 ·rw [List.getElem?_append_left (by simpa using c),List.getElem?_map] at h
  cases e:xs[i]? with
  | none=>rw [e] at h;cases h
  | some y=>
   rw [e] at h
   cases h
   obtain ⟨v,hv,rv⟩:=r.get e
   exact ⟨v,by rw [List.getElem?_append_left (by rw [List.length_map,r.1];exact c),List.getElem?_map,hv];rfl,rv⟩
 ·rw [List.getElem?_append_right (by simp;walk_at "o"),List.getElem?_replicate] at h
  split at h <;> cases h
noncomputable def rtA (M0:MH)(Q:AK):AK:=fun x M'=>∃ x' M'',JX M0 M' x x' M''/\Q x' M''
theorem dfA {P:Program}{w:World}{K:PySem.W.Frag}{mg:Str->Option Value}{base:Heap}{x:Str}{st:Stmt}{N ps:List Str}{k:Nat}{a:ASp}(at_:At K mg x st)(S:zy N ps (zj st))
  (hb:∀ (kV doc pm:Value) (an:Option Addr) (cdv ct:Value) (us:List Value),us.length=ps.length->bindArgs (PySem.W.fnOf x x (jg st) (qq st) (zj st) .none kV doc pm an cdv ct) ⟨us,[]⟩=pure (ps.zip us))
  (len:∀ xs M Q,a xs M Q->xs.length=ps.length)
  (hbody:∀ (f:Addr) (cdv:Value) (A:Around) (outer:List Env) (s:Shared) (H:Hp) (E:XK),qZ k (A.deeper (envOfC x (zj st) s.heap.objs.size f cdv)) ->
   ∃ t,PSs (vQ CX0 P w K mg base N x (zj st) f cdv A outer s H E).nox (qq st) t/\∃ b,jW t b/\∀ xs M Q,a xs M Q->b M { nx:=fun _ M'=>rtA M Q (.d .non) M',rt:=rtA M Q } (qi N xs) M):Df P w K mg base x ps (k+1) (cSp a):=by
 refine kP at_ S hb (fun vs H Q E h=>?_) (fun f cdv A outer s H vs Q E hr h=>?_)
 ·obtain ⟨xs,M,O,Q',w,r,q,_⟩:=h
  rw [r.1];exact len xs M Q' q
 ·obtain ⟨t,ht,b,hb,hq⟩:=hbody f cdv A outer s H E hr
  refine ⟨t,ht,?_⟩
  obtain ⟨xs,M,O,Q',w,r,q,kk⟩:=h
  refine hb.go w w (QK r N) .refl (hq xs M Q' q) ⟨fun σ H' O' ρ M' w' e' x' q'=>?_,fun v y H' O' M' w' x' r' q'=>?_,fun _ _ _ _ _ _ _ _ z=>z.elim,fun _ _ _ _ _ _ _ _ z=>z.elim⟩
  ·obtain ⟨y',M'',f,q2⟩:=q'
   obtain ⟨O'',w2,k2,r2⟩:=yz w w' x' (show zq H' O' M' .non (.d .non) from .non) f
   exact kk _ _ _ _ _ q2 k2 w2 r2
  ·obtain ⟨y',M'',f,q2⟩:=q'
   obtain ⟨O'',w2,k2,r2⟩:=yz w w' x' r' f
   exact kk _ _ _ _ _ q2 k2 w2 r2
structure GG (tr:Addr->TR)(a:ATR):Prop where
 go:∀ D,Kn D (tr D) a
theorem Yw {t u:TE}{a b:AE}(h1:zU t a)(h2:zU u b):zU (tOp Be t u) (aFz (fOp Jn a b)):=xZ (Kr QN h1 h2)
theorem Yk {K:PySem.W.Frag}{u:TA}{b:AA}(h:kj u b):zU (tCB (fun xs H Q=>∃ p ys,xs=[V.ref p]/\(SqL K H p ys \/ SqT K H p ys)/\∀ l,H l=none->Q (V.ref l) (upd H l (HO.lst ys))) u) (aFz (fCB Y6 b)):=xZ (vk wJ h)
theorem Xy {u:TA}{b:AA}(h:kj u b):zU (tCB (fun xs H Q=>∃ p a b c n,xs=[.ref p]/\H p=some (wf p a b c)/\Builtin.Range.small a b c=true/\Builtin.Range.rangeSize a b c=((n:Nat):Int)/\n<=100000/\∀ l,H l=none->Q (.ref l) (upd H l (.lst ((zr a c n).map V.int)))) u) (aFz (fCB V5 b)):=xZ (vk wK h)
theorem ex2 {t:TS}{q:AS->Prop}{b:AS}(h:jW t b)(k:q b):∃ b,jW t b/\q b:=⟨b,h,k⟩
section
variable {X:Cx}{K:PySem.W.Frag}
end
theorem E2 {τ:Type}(R:τ->ASt)(f:AV->AV){ag:AG}{ae:AE}{G:MH->Prop}{N:List AV->ASt->MH->Prop}{l:List AV}{ρ:ASt}{M:MH}(h0:∃ o,ρ=R o)(hG:G M)(hl:l.length<=100000)
  (hs:∀ (o:τ) (x:AV) (Q:AV->ASt->MH->Prop),x ∈ l->(∀ o',Q (f x) (R o') M)->ag x (R o) M fun ρ2 M2=>ae ρ2 M2 fun y M3=>Q y ρ2 M3) (hN:∀ o,N (l.map f) (R o) M):wm ag kB (jI ae) G N l [] ρ M:=by
 have hsl:100000<sizeLine:=by rw [sizeLine_eq];decide
 refine ⟨fun i acc ρ' M'=>i<=l.length/\acc=(l.take i).map f/\M'=M/\∃ o,ρ'=R o,⟨Nat.zero_le _,rfl,rfl,h0⟩,?_,?_⟩
 ·rintro i x acc ρ' M' hx ⟨hi,rfl,rfl,o,rfl⟩
  have hil:=(List.getElem?_eq_some_iff.mp hx).1
  refine ⟨hG,?_⟩
  refine hs o x (fun y ρ2 M3=>((l.take i).map f).length<sizeLine/\(i+1<=l.length/\(l.take i).map f ++ [y]=(l.take (i+1)).map f/\M3=M'/\∃ o,ρ2=R o)) (List.mem_of_getElem? hx) fun o'=>⟨by rw [List.length_map,List.length_take];walk_at "o",hil,?_,rfl,o',rfl⟩
  rw [List.take_add_one,hx,List.map_append];rfl
 ·rintro acc ρ' M' ⟨_,rfl,rfl,o,rfl⟩
  rw [List.take_length]
  exact ⟨hG,hN o⟩
theorem KR {τ:Type}(R:τ->ASt)(f:Nat->AV){ag:AG}{ae:AE}{G:MH->Prop}{N:List AV->ASt->MH->Prop}{l:List AV}{ρ:ASt}{M:MH}(h0:∃ o,ρ=R o)(hG:G M)(hl:l.length<=100000)
  (hs:∀ (o:τ) (i:Nat) (x:AV) (Q:AV->ASt->MH->Prop),l[i]?=some x->(∀ o',Q (f i) (R o') M)->ag x (R o) M fun ρ2 M2=>ae ρ2 M2 fun y M3=>Q y ρ2 M3) (hN:∀ o,N ((List.range l.length).map f) (R o) M):wm ag kB (jI ae) G N l [] ρ M:=by
 have hsl:100000<sizeLine:=by rw [sizeLine_eq];decide
 refine ⟨fun i acc ρ' M'=>i<=l.length/\acc=(List.range i).map f/\M'=M/\∃ o,ρ'=R o,⟨Nat.zero_le _,rfl,rfl,h0⟩,?_,?_⟩
 ·rintro i x acc ρ' M' hx ⟨hi,rfl,rfl,o,rfl⟩
  have hil:=(List.getElem?_eq_some_iff.mp hx).1
  refine ⟨hG,?_⟩
  refine hs o i x (fun y ρ2 M3=>((List.range i).map f).length<sizeLine/\(i+1<=l.length/\(List.range i).map f ++ [y]=(List.range (i+1)).map f/\M3=M'/\∃ o,ρ2=R o)) hx fun o'=>⟨by rw [List.length_map,List.length_range];walk_at "o",hil,?_,rfl,o',rfl⟩
  rw [List.range_succ,List.map_append];rfl
 ·rintro acc ρ' M' ⟨_,rfl,rfl,o,rfl⟩
  exact ⟨hG,hN o⟩
theorem xg {α:Type}(F:α->Dat)(l:List α):pur (l.map fun a=>AV.d (F a))=some (l.map F):=by
 have:(l.map fun a=>AV.d (F a))=(l.map F).map .d:=by rw [List.map_map];rfl
 rw [this,zJ]
theorem Vj:isT "int" "int"=some true:=by decide +kernel
theorem Jt:isT "int" "bool"=some false:=by decide +kernel
theorem VP:isT "int" "str"=some false:=by decide +kernel
theorem El:isT "int" "list"=some false:=by decide +kernel
theorem Ef:isT "int" "tuple"=some false:=by decide +kernel
theorem Wy:isT "bool" "int"=some true:=by decide +kernel
theorem JS:isT "bool" "bool"=some true:=by decide +kernel
theorem V2:isT "bool" "str"=some false:=by decide +kernel
theorem FI:isT "bool" "list"=some false:=by decide +kernel
theorem D4:isT "bool" "tuple"=some false:=by decide +kernel
theorem Ft:isT "str" "int"=some false:=by decide +kernel
theorem Es:isT "str" "bool"=some false:=by decide +kernel
theorem Zi:isT "str" "str"=some true:=by decide +kernel
theorem Ei:isT "str" "list"=some false:=by decide +kernel
theorem DP:isT "str" "tuple"=some false:=by decide +kernel
theorem DE:isT "NoneType" "int"=some false:=by decide +kernel
theorem Fd:isT "NoneType" "bool"=some false:=by decide +kernel
theorem JM:isT "NoneType" "str"=some false:=by decide +kernel
theorem ET:isT "NoneType" "list"=some false:=by decide +kernel
theorem Fk:isT "NoneType" "tuple"=some false:=by decide +kernel
theorem Fi:isT "list" "int"=some false:=by decide +kernel
theorem Fy:isT "list" "bool"=some false:=by decide +kernel
theorem DN:isT "list" "str"=some false:=by decide +kernel
theorem Kf:isT "list" "list"=some true:=by decide +kernel
theorem FQ:isT "list" "tuple"=some false:=by decide +kernel
theorem EJ:isT "tuple" "int"=some false:=by decide +kernel
theorem FC:isT "tuple" "bool"=some false:=by decide +kernel
theorem EL:isT "tuple" "str"=some false:=by decide +kernel
theorem JW:isT "tuple" "list"=some false:=by decide +kernel
theorem Ej:isT "tuple" "tuple"=some true:=by decide +kernel
theorem Wa:va "int" ["list","tuple"]=some false:=by decide +kernel
theorem Vb:va "bool" ["list","tuple"]=some false:=by decide +kernel
theorem Y2:va "str" ["list","tuple"]=some false:=by decide +kernel
theorem Yu:va "NoneType" ["list","tuple"]=some false:=by decide +kernel
theorem Jh:va "list" ["list","tuple"]=some true:=by decide +kernel
theorem Ka:va "tuple" ["list","tuple"]=some true:=by decide +kernel
theorem W4:QQ []=some []:=rfl
theorem XN {n:String}{r:List Dat}:QQ (.ty n :: r)=(QQ r).map (n :: ·):=rfl
theorem FS (M:MH):tyA (.d .non) M=some "NoneType":=rfl
theorem F7 (b:Bool)(M:MH):tyA (.d (.bl b)) M=some "bool":=rfl
theorem GA (i:Int)(M:MH):tyA (.d (.int i)) M=some "int":=rfl
theorem Gs (s:Str)(M:MH):tyA (.d (.str s)) M=some "str":=rfl
theorem FT (l:List Dat)(M:MH):tyA (.d (.lst l)) M=some "list":=rfl
theorem Gw (l:List Dat)(M:MH):tyA (.d (.tup l)) M=some "tuple":=rfl
theorem Yb (x:Dat)(r:List AV):pur (.d x :: r)=match pur r with | some l=>some (x :: l) | none=>none:=rfl
theorem E3 (i j:Int):eqS (.int i) (.int j)=some (decide (i=j)):=rfl
theorem EV (i j:Bool):eqS (.bl i) (.bl j)=some (decide (i=j)):=rfl
theorem Fc (i j:Str):eqS (.str i) (.str j)=some (decide (i=j)):=rfl
theorem A0:xi (.d .non)=true:=rfl
theorem A3 (i:Int):xi (.d (.int i))=false:=rfl
theorem Bw (i:List Dat):xi (.d (.lst i))=false:=rfl
theorem BJ (i:List Dat):xi (.d (.tup i))=false:=rfl
theorem A7 (i:Addr):xi (.ref i)=false:=rfl
theorem Br (i:Str):xi (.d (.str i))=false:=rfl
theorem BS (i:Bool):xi (.d (.bl i))=false:=rfl
theorem JB {H H':Hp}{O:Own}{M:MH}(w:Wf H O M)(k:Kp [] H H'):Ext H O M H' O M/\Wf H' O M:=by
 have e:Ext H O M H' O M:=⟨fun a o h e=>⟨k a o (by simp) e,h⟩,fun a h e=>⟨by
  obtain ⟨o,ho,_⟩:=w.al a h
  rw [ho];exact k a o (by simp) ho,h,e⟩,fun _ h=>h⟩
 refine ⟨e,⟨fun a o h=>jq.ext e ?_ (w.mo a o h),w.own,fun a h=>?_⟩⟩
 ·obtain ⟨u,hu,_⟩:=w.al a (w.own a (by rw [h];exact fun z=>nomatch z))
  rw [hu];exact k a u (by simp) hu
 ·obtain ⟨o,ho,hn⟩:=w.al a h
  exact ⟨o,k a o (by simp) ho,hn⟩
theorem DV {H H':Hp}{O:Own}{M:MH}(w:Wf H O M){b:Addr}{l:List AV}(hb:M b=some (.lst l))(k:Kp [b] H H'){ns:List Int}(h:H' b=some (.lst (ns.map V.int))) :
  Ext H O M H' O (mup M b (.lst (ns.map fun i=>.d (.int i))))/\Wf H' O (mup M b (.lst (ns.map fun i=>.d (.int i)))):=by
 have hOb:=w.own b (jT hb)
 have kk:∀ a o,a ≠ b->H a=some o->H' a=some o:=fun a o ha e=>k a o (by simpa using ha) e
 have e:Ext H O M H' O (mup M b (.lst (ns.map fun i=>.d (.int i)))):=⟨fun a o h e=>⟨kk a o (fun z=>h (by rw [z];exact hOb)) e,h⟩,fun a ha e=>by
  have hne:a ≠ b:=fun z=>by rw [z,hb] at e;cases e
  obtain ⟨o,ho,_⟩:=w.al a ha
  exact ⟨by rw [ho];exact kk a o hne ho,ha,by rw [zC hne];exact e⟩,fun a ha=>by
  by_cases c:a=b
  ·rw [c,ze];exact fun z=>nomatch z
  ·rw [zC c];exact ha⟩
 refine ⟨e,⟨fun a o ho=>?_,fun a ha=>?_,fun a ha=>?_⟩⟩
 ·by_cases c:a=b
  ·subst c;rw [ze] at ho;cases ho;exact ⟨_,h,Zo ns⟩
  ·rw [zC c] at ho
   refine jq.ext e ?_ (w.mo a o ho)
   obtain ⟨u,hu,_⟩:=w.al a (w.own a (jT ho))
   rw [hu];exact kk a u c hu
 ·by_cases c:a=b
  ·rw [c];exact hOb
  ·rw [zC c] at ha;exact w.own a ha
 ·by_cases c:a=b
  ·rw [c];exact ⟨_,h,fun xs z=>nomatch z⟩
  ·obtain ⟨o,ho,hn⟩:=w.al a ha
   exact ⟨o,kk a o c ho,hn⟩
theorem Ja {H:Hp}{O:Own}{p:Addr}{ns:List Int}(ho:¬ O p)(h:H p=some (.lst (ns.map V.int))):Rep H O (.ref p) (.lst (ns.map .int)):=
 Rep.lst ho h (by simp) fun i x d e1 e2=>by
  rw [List.getElem?_map] at e1 e2
  cases e:ns[i]? with
  | none=>rw [e] at e1;cases e1
  | some n=>rw [e] at e1 e2;cases e1;cases e2;exact .int
theorem VD {H:Hp}{O:Own}{M:MH}{v:V}{x:AV}{ns:List Int}(w:Wf H O M)(r:zq H O M v x)(h:zN x M=some (ns.map fun i=>.d (.int i))):∃ a,v=.ref a/\(H a=some (.lst (ns.map V.int)) \/ H a=some (.tup (ns.map V.int))):=by
 obtain ⟨a,xs,rfl,h1,r1⟩:=yG w r h
 rw [jo r1] at h1
 exact ⟨a,rfl,h1⟩
theorem VA {H:Hp}{O:Own}{M:MH}{v:V}{x:AV}{ns:List Int}(w:Wf H O M)(r:zq H O M v x)(h:qb x M=some (ns.map fun i=>.d (.int i))):∃ a,v=.ref a/\H a=some (.lst (ns.map V.int)):=by
 obtain ⟨a,xs,rfl,h1,r1⟩:=zY w r h
 rw [jo r1] at h1
 exact ⟨a,rfl,h1⟩
theorem Df.imp' {P:Program}{w:World}{K:PySem.W.Frag}{mg:Str->Option Value}{base:Heap}{x:Str}{ps:List Str}{sp sp':Sp}{k:Nat}(D:Df P w K mg base x ps k sp)(h:∀ vs H Q E,sp' vs H Q E->sp vs H Q E):Df P w K mg base x ps k sp':=
 let ⟨f,fd,F,r⟩:=D
 ⟨f,fd,F.imp h,r⟩
mutual
noncomputable def wdt:Dat->Nat
 | .lst l=>max l.length (J4 l)
 | .tup l=>max l.length (J4 l)
 | _=>0
noncomputable def J4:List Dat->Nat
 | []=>0
 | a :: r=>max (wdt a) (J4 r)
end
theorem Xd {l:List Dat}{n:Nat}(h:∀ d ∈ l,wdt d<=n):J4 l<=n:=by
 induction l with
 | nil=>exact Nat.zero_le _
 | cons a r ih=>rw [J4];exact Nat.max_le.mpr ⟨h a (by simp),ih fun d hd=>h d (by simp [hd])⟩
theorem Xh {l:List Dat}{d:Dat}(h:d ∈ l):wdt d<=J4 l:=by
 induction l with
 | nil=>cases h
 | cons a r ih=>
  rw [J4]
  rcases List.mem_cons.mp h with rfl | h
  ·exact Nat.le_max_left _ _
  ·exact Nat.le_trans (ih h) (Nat.le_max_right _ _)
noncomputable def jy (n:Nat)(d:Dat):Prop:=dp d<=n/\wdt d<=100000
theorem jy.mono {n m:Nat}{d:Dat}(h:jy n d)(k:n<=m):jy m d:=⟨Nat.le_trans h.1 k,h.2⟩
theorem Aj {n:Nat}{l:List Dat}(hl:l.length<=100000)(h:∀ d ∈ l,jy n d):jy (n+1) (.lst l):=⟨by rw [dp];exact Nat.succ_le_succ (ZH fun d hd=>(h d hd).1),by rw [wdt];exact Nat.max_le.mpr ⟨hl,Xd fun d hd=>(h d hd).2⟩⟩
theorem Ap {n:Nat}{l:List Dat}(hl:l.length<=100000)(h:∀ d ∈ l,jy n d):jy (n+1) (.tup l):=⟨by rw [dp];exact Nat.succ_le_succ (ZH fun d hd=>(h d hd).1),by rw [wdt];exact Nat.max_le.mpr ⟨hl,Xd fun d hd=>(h d hd).2⟩⟩
theorem VY (n:Nat)(i:Int):jy n (.int i):=⟨by simp [dp],by simp [wdt]⟩
theorem Ao (n:Nat)(i:Str):jy n (.str i):=⟨by simp [dp],by simp [wdt]⟩
theorem jy.lst {n:Nat}{l:List Dat}(h:jy (n+1) (.lst l)):l.length<=100000/\∀ d ∈ l,jy n d:=by
 obtain ⟨h1,h2⟩:=h
 rw [dp] at h1
 rw [wdt] at h2
 exact ⟨(Nat.max_le.mp h2).1,fun d hd=>⟨by have:=qx hd;walk_at "o",Nat.le_trans (Xh hd) (Nat.max_le.mp h2).2⟩⟩
theorem jy.tup {n:Nat}{l:List Dat}(h:jy (n+1) (.tup l)):l.length<=100000/\∀ d ∈ l,jy n d:=by
 obtain ⟨h1,h2⟩:=h
 rw [dp] at h1
 rw [wdt] at h2
 exact ⟨(Nat.max_le.mp h2).1,fun d hd=>⟨by have:=qx hd;walk_at "o",Nat.le_trans (Xh hd) (Nat.max_le.mp h2).2⟩⟩
theorem jy.no_l {l:List Dat}(h:jy 0 (.lst l)):False:=by have:=h.1;rw [dp] at this;walk_at "o"
theorem jy.no_t {l:List Dat}(h:jy 0 (.tup l)):False:=by have:=h.1;rw [dp] at this;walk_at "o"
theorem QJ {x:AV}{M:MH}{l:List Dat}(h:kD x M=some (.lst l)):qb x M=some (l.map .d)/\zN x M=some (l.map .d)/\tyA x M=some "list"/\xi x=false:=by
 cases x with
 | d x=>cases h;exact ⟨rfl,rfl,rfl,rfl⟩
 | ref a=>
  unfold kD at h
  dsimp only at h
  cases e:M a with
  | none=>rw [e] at h;cases h
  | some o=>
   rw [e] at h
   cases o with
   | lst m=>
    dsimp only at h
    cases ep:pur m with
    | none=>rw [ep] at h;cases h
    | some ds=>
     rw [ep] at h
     cases h
     rw [jY ep] at e
     exact ⟨qo e,zX e,by unfold tyA;dsimp only;rw [e],rfl⟩
   | _=>cases h
theorem qv {x:AV}{M:MH}{d:Dat}(h:kD x M=some d)(hd:∀ l,d ≠ .lst l):x=.d d:=by
 cases x with
 | d x=>cases h;rfl
 | ref a=>
  unfold kD at h
  dsimp only at h
  cases e:M a with
  | none=>rw [e] at h;cases h
  | some o=>
   rw [e] at h
   cases o with
   | lst m=>
    dsimp only at h
    cases ep:pur m with
    | none=>rw [ep] at h;cases h
    | some ds=>rw [ep] at h;cases h;exact absurd rfl (hd ds)
   | _=>cases h
theorem Qu (b:Bool):dp (.bl b)=0:=by simp [dp]
theorem yA (b:Str):dp (.str b)=0:=by simp [dp]
theorem JY:dp .non=0:=by simp [dp]
theorem JV (a b:Bool):eqD (.bl a) (.bl b)=decide (a=b):=by rw [eqD];cases a <;> cases b <;> rfl
theorem J8 (a b:Int):eqD (.int a) (.int b)=decide (a=b):=by rw [eqD];by_cases h:a=b <;> simp [h]
theorem ZT (a b:Str):eqD (.str a) (.str b)=decide (a=b):=by rw [eqD];by_cases h:a=b <;> simp [h]
theorem Vp:eqD .non .non=true:=by simp [eqD]
theorem Ed (i:Int):eqD .non (.int i)=false:=by simp [eqD]
theorem Fb (i:Int):eqD (.int i) .non=false:=by simp [eqD]
theorem E8 (i:Int)(s:Str):eqD (.int i) (.str s)=false:=by simp [eqD]
theorem DK (i:Int)(s:Str):eqD (.str s) (.int i)=false:=by simp [eqD]
theorem Fz (s:Str):eqD (.str s) .non=false:=by simp [eqD]
theorem Fl (s:Str):eqD .non (.str s)=false:=by simp [eqD]
theorem YT {x:AV}{M:MH}{l:List AV}(h:qb x M=some l){p:Addr}(hp:M p=none)(o:MO):qb x (mup M p o)=some l:=by
 rcases vJ h with ⟨m,rfl,rfl⟩ | ⟨a,rfl,e⟩
 ·rfl
 ·exact qo (by rw [zC (fun z=>by rw [z,hp] at e;cases e)];exact e)
theorem Ys {x:AV}{M:MH}{l:List AV}(h:zN x M=some l){p:Addr}(hp:M p=none)(o:MO):zN x (mup M p o)=some l:=by
 rcases qH h with h' | ⟨m,rfl,rfl⟩
 ·have:=YT h' hp o
  rcases vJ h' with ⟨m,rfl,rfl⟩ | ⟨a,rfl,e⟩
  ·rfl
  ·exact this
 ·rfl
theorem je (ns:List Int):List.map AV.d (List.map Dat.int ns)=List.map (fun i=>AV.d (.int i)) ns:=by rw [List.map_map];rfl
theorem Dm (ns:List Bool):List.map AV.d (List.map Dat.bl ns)=List.map (fun i=>AV.d (.bl i)) ns:=by rw [List.map_map];rfl
theorem zI (ns:List Int):pur (List.map (fun i=>AV.d (.int i)) ns)=some (ns.map Dat.int):=by rw [<- je,zJ]
theorem Bj (ns:List Bool):pur (List.map (fun i=>AV.d (.bl i)) ns)=some (ns.map Dat.bl):=by rw [<- Dm,zJ]
theorem BG {α β:Type}(f:α->β)(l:List α)(i:Int):atI (l.map f) i=(atI l i).map f:=by
 unfold atI
 rw [List.length_map]
 cases ixN l.length i with
 | none=>rfl
 | some j=>exact List.getElem?_map ..
theorem jD {n:Nat}{i:Int}(h0:0<=i)(h1:i<n):ixN n i=some i.toNat:=by unfold ixN;rw [if_pos h0,if_pos h1]
theorem Eu {α:Type}{l:List α}{i:Int}(h0:0<=i)(h1:i<l.length)(d:α):atI l i=some (l.getD i.toNat d):=by
 unfold atI
 rw [jD h0 h1]
 show l[i.toNat]?=_
 rw [List.getD_eq_getElem?_getD,List.getElem?_eq_getElem (by walk_at "o")];rfl
theorem QB {ns:List Int}{i:Int}(h0:0<=i)(h1:i<ns.length):atI (ns.map fun i=>AV.d (.int i)) i=some (.d (.int (ns.getD i.toNat 0))):=by rw [BG,Eu h0 h1 0];rfl
theorem ZG {α β:Type}(f:α->β)(xs:List α)(lo hi st:Option Int):slA (xs.map f) lo hi st=(slA xs lo hi st).map f:=by
 unfold slA
 rw [List.length_map]
 generalize sliceRange _ _ _=ks
 induction ks with
 | nil=>rfl
 | cons k r ih=>
  rw [List.filterMap_cons,List.filterMap_cons,List.getElem?_map]
  cases xs[k]? with
  | none=>exact ih
  | some v=>exact congrArg _ ih
theorem W0 (xs:List V):slA xs none (some 0) (some (-1))=(xs.drop 1).reverse:=V3 xs
theorem wI (ns:List Int):slA ns none (some 0) (some (-1))=(ns.drop 1).reverse:=by
 have h:=W0 (ns.map V.int)
 rw [ZG,<- List.map_drop,<- List.map_reverse] at h
 exact (List.map_inj_right (fun _ _ z=>V.int.inj z)).mp h
theorem FR {α:Type}(xs:List α)(k:Nat):kE xs (some (k:Int)) none=xs.drop k:=by
 unfold kE
 rw [HT.sIx_nat,HT.sIx_none,List.take_of_length_le (by rw [List.length_drop];walk_at "o")]
 by_cases h:k<=xs.length
 ·rw [Nat.min_eq_left h]
 ·rw [Nat.min_eq_right (by walk_at "o"),List.drop_length,List.drop_of_length_le (by walk_at "o")]
theorem BY {α:Type}(xs:List α)(k:Nat):kE xs none (some (k:Int))=xs.take k:=by
 unfold kE
 rw [HT.sIx_nat,HT.sIx_none,List.drop_zero,Nat.sub_zero]
 by_cases h:k<=xs.length
 ·rw [Nat.min_eq_left h]
 ·rw [Nat.min_eq_right (by walk_at "o"),List.take_of_length_le (Nat.le_refl _),List.take_of_length_le (by walk_at "o")]
theorem zg {a zx:AS}{B:MH}{D:jw}{ρ:ASt}{M:MH}(h:∀ r,r=zx->kW a r B D ρ M):kW a zx B D ρ M:=h zx rfl
theorem Fr.non {M M':MH}(f:Fr M M'){p:Addr}(h:M' p=none):M p=none:=by
 cases e:M p with
 | none=>rfl
 | some o=>rw [f p (by rw [e];exact fun z=>nomatch z),e] at h;cases h
noncomputable abbrev ilD (os:List Int):Dat:=.lst (os.map .int)
theorem Aw (ns:List Int)(M:MH):qb (.d (ilD ns)) M=some (ns.map fun i=>.d (.int i)):=by rw [qO,je]
noncomputable def BxM (M:MH)(b:Addr)(N:Nat):Prop:=∃ x y z:Int,M b=some (.lst [.d (.int x),.d (.int y),.d (.int z)])/\0<=x/\0<=y/\y<2147483648/\0<=z/\z<=N
theorem BxM.mono {M:MH}{b:Addr}{N N':Nat}(h:BxM M b N)(hn:N<=N'):BxM M b N':=by
 obtain ⟨x,y,z,h1,h2,h3,h4,h5,h6⟩:=h
 exact ⟨x,y,z,h1,h2,h3,h4,h5,by walk_at "o"⟩
theorem BxM.ne {M:MH}{b:Addr}{N:Nat}(h:BxM M b N):M b ≠ none:=by obtain ⟨x,y,z,h1,_⟩:=h;exact jT h1
theorem BxM.bx {H:Hp}{O:Own}{M:MH}{b:Addr}{N:Nat}(w:Wf H O M)(h:BxM M b N):Bx H b N:=by
 obtain ⟨x,y,z,h1,h2⟩:=h
 obtain ⟨xs,hx,rx⟩:=w.mo b _ h1
 rw [jo (ns:=[x,y,z]) rx] at hx
 exact ⟨x,y,z,hx,h2⟩
noncomputable def BxS (M M':MH)(b:Addr)(N:Nat):Prop:=BxM M' b N/\∃ o,M'=mup M b o
theorem BxS.at {M M':MH}{b:Addr}{N:Nat}(h:BxS M M' b N){q:Addr}(hq:q ≠ b):M' q=M q:=by
 obtain ⟨_,o,rfl⟩:=h
 exact zC hq
theorem Yv {H H':Hp}{O:Own}{M:MH}(w:Wf H O M){b:Addr}{N N':Nat}(hb:BxM M b N)(k:Kp [b] H H')(h:Bx H' b N'):∃ M',BxS M M' b N'/\Ext H O M H' O M'/\Wf H' O M':=by
 obtain ⟨x,y,z,h1,_⟩:=hb
 obtain ⟨x',y',z',g1,g2⟩:=h
 obtain ⟨e1,e2⟩:=DV w h1 k (ns:=[x',y',z']) g1
 exact ⟨_,⟨⟨x',y',z',ze,g2⟩,_,rfl⟩,e1,e2⟩
mutual
noncomputable def pdD:Dat->PyData
 | .bl b=>.bool b
 | .int i=>.int i
 | .str x=>.str x
 | .lst l=>.list (ZK l)
 | .tup l=>.tuple (ZK l)
 | _=>.none
noncomputable def ZK:List Dat->List PyData
 | []=>[]
 | a :: r=>pdD a :: ZK r
end
section
variable {X:Cx}{pins:List (Addr × Obj)}{s:Shared}{σ:St}{H:Hp}{O:Own}
mutual
theorem D0:∀ d:Dat,(pdD d).hasDict=false
 | .non=>by simp [pdD,PyData.hasDict]
 | .bl _=>by simp [pdD,PyData.hasDict]
 | .int _=>by simp [pdD,PyData.hasDict]
 | .str _=>by simp [pdD,PyData.hasDict]
 | .ty _=>by simp [pdD,PyData.hasDict]
 | .rng _ _ _=>by simp [pdD,PyData.hasDict]
 | .scr _ _=>by simp [pdD,PyData.hasDict]
 | .lst l=>by rw [pdD,PyData.hasDict];exact Zq l
 | .tup l=>by rw [pdD,PyData.hasDict];exact Zq l
theorem Zq:∀ l:List Dat,PyData.hasDictAll (ZK l)=false
 | []=>by simp [ZK,PyData.hasDictAll]
 | a :: r=>by rw [ZK,PyData.hasDictAll,D0 a,Zq r];rfl
end
mutual
theorem Wo:∀ d:Dat,(pdD d).depth<=dp d
 | .non=>by simp [pdD,PyData.depth]
 | .bl _=>by simp [pdD,PyData.depth]
 | .int _=>by simp [pdD,PyData.depth]
 | .str _=>by simp [pdD,PyData.depth]
 | .ty _=>by simp [pdD,PyData.depth]
 | .rng _ _ _=>by simp [pdD,PyData.depth]
 | .scr _ _=>by simp [pdD,PyData.depth]
 | .lst l=>by rw [pdD,PyData.depth,dp];exact Nat.succ_le_succ (yN l)
 | .tup l=>by rw [pdD,PyData.depth,dp];exact Nat.succ_le_succ (yN l)
theorem yN:∀ l:List Dat,PyData.depthAll (ZK l)<=dps l
 | []=>by simp [ZK,PyData.depthAll]
 | a :: r=>by rw [ZK,PyData.depthAll,dps];exact Nat.max_le.mpr ⟨Nat.le_trans (Wo a) (Nat.le_max_left _ _),Nat.le_trans (yN r) (Nat.le_max_right _ _)⟩
end
end
section
variable {X:Cx}
end
structure Sh (b:Nat)(d:Dat):Prop where
 s:(pdD d).showable=true
 l:(pdD d).shown.length<=b
theorem Ks {a b:ASp}(h:∀ xs M Q,b xs M Q->a xs M (rtA M Q))(vs:List V)(H:Hp)(Q:VK)(E:XK)(q:cSp b vs H Q E):cSp a vs H Q E:=by
 obtain ⟨xs,M,O,Q',w,r,q,k⟩:=q
 refine ⟨xs,M,O,_,w,r,h xs M Q' q,fun x M' v H' O' q' e' w' r'=>?_⟩
 obtain ⟨y',M'',f,q2⟩:=q'
 obtain ⟨O'',w2,k2,r2⟩:=yz w w' e' r' f
 exact k _ _ _ _ _ q2 k2 w2 r2
structure SB (M0 M:MH)(b:Addr)(N:Nat):Prop where
 bx:BxM M b N
 fr:∀ q,M0 q ≠ none->q ≠ b->M q=M0 q
 b0:M0 b ≠ none
theorem SB.refl {M:MH}{b:Addr}{N:Nat}(h:BxM M b N):SB M M b N:=⟨h,fun _ _ _=>rfl,h.ne⟩
theorem SB.go {M0 M M':MH}{b:Addr}{N N':Nat}(s:SB M0 M b N)(t:BxS M M' b N'):SB M0 M' b N':=⟨t.1,fun q hq hb=>(t.at hb).trans (s.fr q hq hb),s.b0⟩
theorem SB.mono {M0 M:MH}{b:Addr}{N N':Nat}(s:SB M0 M b N)(h:N<=N'):SB M0 M b N':=⟨s.bx.mono h,s.fr,s.b0⟩
theorem SB.new {M0 M:MH}{b p:Addr}{N:Nat}(s:SB M0 M b N)(hp:M p=none):M0 p=none/\p ≠ b:=by
 have hb:p ≠ b:=fun z=>s.bx.ne (by rw [<- z];exact hp)
 refine ⟨?_,hb⟩
 cases e:M0 p with
 | none=>rfl
 | some o=>rw [s.fr p (by rw [e];exact fun z=>nomatch z) hb,e] at hp;cases hp
theorem SB.fin {M0 M:MH}{b:Addr}{N:Nat}(s:SB M0 M b N)(d:Dat):∃ M'',JX M0 M (.d d) (.d d) M''/\BxS M0 M'' b N:=by
 obtain ⟨x,y,z,h1,h2⟩:=s.bx
 refine ⟨mup M0 b (.lst [.d (.int x),.d (.int y),.d (.int z)]),⟨fun q=>?_,fun q o e=>?_,.inl ⟨rfl,fun p z=>nomatch z⟩⟩,⟨x,y,z,ze,h2⟩,_,rfl⟩
 ·by_cases c:q=b
  ·rw [c,ze,h1];exact .inl rfl
  ·rw [zC c]
   cases e:M0 q with
   | none=>exact .inr ⟨rfl,rfl⟩
   | some o=>exact .inl (by rw [s.fr q (by rw [e];exact fun z=>nomatch z) c,e])
 ·by_cases c:q=b
  ·rw [c,ze] at e
   cases e
   exact .inr fun r hr=>absurd hr (KH (ds:=[.int x,.int y,.int z]) rfl r)
  ·rw [zC c] at e;exact .inl e
theorem SB.rt {M0 M:MH}{b:Addr}{N:Nat}{Q:AK}{d:Dat}(s:SB M0 M b N)(q:∀ M',BxS M0 M' b N->Q (.d d) M'):rtA M0 Q (.d d) M:=by
 obtain ⟨M'',f,t⟩:=s.fin d
 exact ⟨_,_,f,q M'' t⟩
theorem ZN {M0 M:MH}{Q:AK}{d:Dat}(f:Fr M0 M)(q:Q (.d d) M0):rtA M0 Q (.d d) M:=⟨_,_,Dh f d,q⟩
theorem SB.frm {M M2 M':MH}{b:Addr}{N:Nat}(f:Fr M M2)(hb:M b=none)(s:SB M2 M' b N):Fr M M':=fun q hq=>by
 have h1:q ≠ b:=fun z=>hq (by rw [z];exact hb)
 rw [s.fr q (by rw [f q hq];exact hq) h1,f q hq]
section
variable {X:Cx}
end
section
open PySem.SeqAt
open PySem.AutoSeq1 (wpAny_loadPart')
open PySem.MeetsSeq PySem.MeetsSeq2 PySem.MeetsSeq3 PySem.SeqRoads2
end
section
variable {X:Cx}
end
section
variable {X:Cx}{pins:List (Addr × Obj)}{σ:St}{H:Hp}{s:Shared}{a b:Addr}{kvs:List (List Key × V)}{k:List Key}{v:V}{r:Value}{A:Around}{E:Value->Shared->Prop}
end
section
variable {prog:Program}{w:World}{A:Around}{E:Value->Shared->Prop}{s:Shared}
theorem Qv {l:Addr}{vs:List Value}{Q:List Value->Shared->Prop}(hl:IsTup s.heap l vs.toArray)
  (h:Q vs { s with heap:=(s.heap.push (seqObj "list" #[] 0)).update s.heap.objs.size (Obj.mapSeq (· ++ vs.toArray)) }) (hsz:vs.length<=sizeLine:=by size_fits) :
  wpAny (model prog w) A (collect (.ref l)) Q E s:=by
 obtain ⟨o,ho,hc,n,hd⟩:=id hl
 unfold collect
 refine wpAny_bind (wpAny_runValue (codeAny_builtin entry_proto_collect' ?_))
 show wpAny _ _ (do again (.builtin "list.__iadd__" ⟨[<- newList [],.ref l],[]⟩)) _ _ s
 refine wpAny_bind (wpAny_newList (wpAny_pure ⟨Code.quiet_builtin _ (by decide +kernel),codeAny_builtin entry_list_iadd' ?_⟩))
 show wpAny _ _ (Builtin.List.listExtendWith (.ref s.heap.objs.size) (.ref l) (.ref s.heap.objs.size)) _ _ { s with heap:=s.heap.push (seqObj "list" #[] 0) }
 unfold Builtin.List.listExtendWith
 have ho':(s.heap.push (seqObj "list" #[] 0)).get? l=some o:=Heap.get?_push_of_some _ ho
 refine wpAny_bind (wpAny_typeOf (T:="tuple") ⟨o,ho',hc⟩ ?_)
 have ht:(Value.type "tuple" == Value.type "tuple")=true:=by rfl
 rw [if_pos (by rw [ht];simp)]
 refine wpAny_bind (listItems_at ho' hd ?_)
 refine wpAny_bind (listItems_at (xs:=#[]) (n:=0) (Heap.get?_push_size _ rfl) rfl ?_)
 rw [if_neg (by simp)]
 refine wpAny_bind (listUpdate_at (xs:=#[]) (n:=0) (Heap.get?_push_size _ rfl) rfl ?_ (Nat.zero_le _) (by show (#[] ++ vs.toArray).size<=sizeLine+1;simp only [Array.size_append,List.size_toArray,List.length_nil];walk_at "o"))
 refine wpAny_pure ?_
 show wpAny (model prog w) A (do
   let o <- load s.heap.objs.size
   match o.data with
   | .seq xs _=>pure xs.toList
   | _=>unsupported "internal:collect") Q E { s with heap:=(s.heap.push (seqObj "list" #[] 0)).update s.heap.objs.size (Obj.mapSeq (· ++ vs.toArray)) }
 refine wpAny_bind (wpAny_load (get?_update_seq (Heap.get?_push_size _ rfl) _) ?_)
 show wpAny _ _ (pure ((#[]:Array Value) ++ vs.toArray).toList) Q E _
 rw [show ((#[]:Array Value) ++ vs.toArray).toList=vs by simp]
 exact wpAny_pure h
end
section
variable {X:Cx}
end
theorem kg {α τ:Type}(R:τ->ASt)(g f:α->AV)(xs:List α){ag:AG}{ae:AE}{G:MH->Prop}{N:List AV->ASt->MH->Prop}{ρ:ASt}{M:MH}(h0:∃ o,ρ=R o)(hG:G M)(hl:xs.length<=100000)
  (hs:∀ (o:τ) (x:α) (Q:AV->ASt->MH->Prop),x ∈ xs->(∀ o',Q (f x) (R o') M)->ag (g x) (R o) M fun ρ2 M2=>ae ρ2 M2 fun y M3=>Q y ρ2 M3) (hN:∀ o,N (xs.map f) (R o) M):wm ag kB (jI ae) G N (xs.map g) [] ρ M:=by
 have hsl:100000<sizeLine:=by rw [sizeLine_eq];decide
 refine ⟨fun i acc ρ' M'=>i<=xs.length/\acc=(xs.take i).map f/\M'=M/\∃ o,ρ'=R o,⟨Nat.zero_le _,rfl,rfl,h0⟩,?_,?_⟩
 ·rintro i x acc ρ' M' hx ⟨hi,rfl,rfl,o,rfl⟩
  rw [List.getElem?_map] at hx
  cases e:xs[i]? with
  | none=>rw [e] at hx;cases hx
  | some y=>
   rw [e] at hx
   cases hx
   have hil:=(List.getElem?_eq_some_iff.mp e).1
   refine ⟨hG,?_⟩
   refine hs o y (fun z ρ2 M3=>((xs.take i).map f).length<sizeLine/\(i+1<=xs.length/\(xs.take i).map f ++ [z]=(xs.take (i+1)).map f/\M3=M'/\∃ o,ρ2=R o)) (List.mem_of_getElem? e) fun o'=>⟨by rw [List.length_map,List.length_take];walk_at "o",hil,?_,rfl,o',rfl⟩
   rw [List.take_add_one,e,List.map_append];rfl
 ·rintro acc ρ' M' ⟨_,rfl,rfl,o,rfl⟩
  rw [List.length_map,List.take_length]
  exact ⟨hG,hN o⟩
noncomputable def fl2 (o:Obj):Option Value:=match o.data with
 | .fields vs=>vs[2]?
 | _=>none
noncomputable def SmD (h h':Heap):Prop:=∀ b o,h.get? b=some o->∃ o',h'.get? b=some o'/\o'.dict=o.dict/\fl2 o'=fl2 o
structure Kd {α:Type}(t:Sem α):Prop where
 out:∀ (M:Model) (G:PySem.Ctx) (R:α->Pos->Shared->Prop) (Ee:Value->Pos->Shared->Prop) (p:Pos) (s:Shared),Sem.wp M G t R Ee p s->Sem.wp M G t (fun a p' s'=>R a p' s'/\SmD s.heap s'.heap) Ee p s
section
variable {α β:Type}
end
local macro_rules | `(tactic| walk_at "kd")=>`(tactic| repeat' with_reducible first
  | assumption
  | exact kd_pure _
  | exact kd_uns _
  | exact kd_field _ _
  | exact kd_setField _ _ _ (by decide)
  | exact kd_load _
  | exact kd_stack
  | exact kd_alloc _
  | apply kd_ite
  | apply kd_bind
  | intro _
  | split)
structure GI (P:Program)(w:World)(outer:List Env)(H:Hp)(s:Shared)(B:Heap)(H':Hp)(s':Shared):Prop where
 os:s'.os=s.os
 bare:AllBare s'.gens
 stay:B.StaysIn s'.heap
 cov:∀ b o,s.heap.get? b=some o->b ∉ frs outer->∃ o',B.get? b=some o'/\(H b=none->o'=o)
 slot:∀ b o,s.heap.get? b=some o->b ∈ frs outer->∃ sl,s'.heap.get? b=some { o with slots:=sl }
 frf:∀ b ∈ frs outer,H b=none
 free:∀ b o,s.heap.get? b=some o->H b=none->H' b=none
 tups:∀ b xs,H b=some (.tup xs)->H' b=some (.tup xs)
 frzs:∀ b o u,H b=some (.frz o u)->H' b=some (.frz o u)
 tbls:∀ b ps,H b=some (.tbl ps)->∃ more,H' b=some (.tbl (ps ++ more))
 hok:HOk P w H' B
section
variable {P:Program}{w:World}{outer:List Env}{H H':Hp}{s s':Shared}{B h':Heap}
end
section
variable {X:Cx}{pins:List (Addr × Obj)}{σ:St}{H H':Hp}{s s':Shared}{B h':Heap}
end
noncomputable def Two (d:Option Addr)(H:Hp):Prop:=∃ dx fs,d=some dx/\H dx=some (.xd fs)/\2<=fs.length
structure Air (P:Program)(w:World)(outer:List Env)(H:Hp)(s:Shared)(x C:Addr)(d:Option Addr)(H':Hp)(s':Shared):Prop where
 ex:∃ B a0,GI P w outer H s B H' s'/\Heap.FlyingW B outer x (.ref C) a0 s'.heap
 dct:∃ o,s'.heap.get? x=some o/\o.dict=d/\(fl2 o=some .none \/ Two d H')
noncomputable def CX1 (P:Program)(w:World):CXT:=fun outer H s E e s'=>∃ x C d H',e=.ref x/\Air P w outer H s x C d H' s'/\E (.ref C) d H'
structure DX (X:Cx)(E:XK):Prop where
 stk:X.stack=X.env :: X.outer
 ex:X.ex=[]
 fr:X.env.frame=some X.env.locals
 xe:X.xe=fun e s'=>wpAny (model X.prog X.w) X.A (leaving X.env e) (fun _ s''=>CX1 X.prog X.w X.outer X.H₀ X.s₀ E e s'') (fun e' s''=>CX1 X.prog X.w X.outer X.H₀ X.s₀ E e' s'') s'
section
variable {X:Cx}{E:XK}{pins:List (Addr × Obj)}{σ:St}{H H':Hp}{s s':Shared}
end
section
variable {X:Cx}{k:Nat}{x:Str}{ps:List Str}{sp:Sp}{E:St->XK}{p pos:Pos}{e:Expr}{es:List Expr}{t:TA}
end
abbrev GO:List Value:=[.type "ValueError",.type "Exception",.type "BaseException",.type "object"]
section
variable {X:Cx}{E:XK}{C:Addr}{x:Str}{np cpos pos:Pos}{e:Expr}{es:List Expr}{t:TA}
end
section
variable {X:Cx}{pins:List (Addr × Obj)}{σ:St}{H H':Hp}{s s':Shared}
end
section
variable {X:Cx}{pins pins':List (Addr × Obj)}{σ:St}{H:Hp}{s s':Shared}{xe:Value->Shared->Prop}
end
section
variable {X:Cx}{pins:List (Addr × Obj)}{σ:St}{H H':Hp}{s s':Shared}{B:Heap}{x C:Addr}{d:Option Addr}{a0:Value}
variable {body suite:List Stmt}{b₀:Stmt}{n tx:Str}{i:Nat}{T:Addr}{np hpos pos:Pos}{tb:(St->XK)->TS}{th:TS}
end
open PySem.W (Looks InstAt findIn findObj subIn mroIn)
section
variable {prog:Program}{w:World}{A:Around}{E:Value->Shared->Prop}{h:Heap}{g:Array GenState}{d:Drawn}{t:Nat}{os:OsState}{K:PySem.W.Frag}{x C:Addr}{ox:Obj}{od:Option Obj}{name:Str}
structure G5 (K:PySem.W.Frag)(C:Addr):Prop where
 bx:subIn K (.ref C) (.type "BaseException")=some true
 ga:findIn K (.ref C) "__getattribute__"=some (some (.builtin "BaseException.__getattribute__"))
 gt:findIn K (.ref C) "__getattr__"=some none
 cl:findIn K (.ref C) "__class__"=some (some (.builtin "object.__class__"))
 gs:PySem.W.specialIn K (.builtin "object.__class__") "__get__"=some (some (.builtin "getset_descriptor.__get__"))
 tk:PySem.W.takesIn K (.builtin "object.__class__")=some true
 mo:mroIn K C (.type "object")=some true
 is:(PySem.W.clsIn K C).isSome=true
end
inductive VS (X:Cx):List Expr->List Value->Prop
 | nil:VS X [] []
 | own {x:Str} {p:Pos} {C:Addr} {es:List Expr} {cs:List Value}:Gl X x->X.mg x=some (.ref C)->(x == ("__debug__":Str))=false->VS X es cs->VS X (.Name x p :: es) (.ref C :: cs)
 | blt {x:Str} {p:Pos} {T:String} {es:List Expr} {cs:List Value}:Gl X x->X.mg x=none->bootBuiltins x=some (.type T)->x ≠ "__name__"->(x == ("__debug__":Str))=false->VS X es cs->VS X (.Name x p :: es) (.type T :: cs)
section
variable {X:Cx}{e c:Expr}{es:List Expr}{cs:List Value}{t:TE}{p pos tp:Pos}{kk:Nat}
end
noncomputable abbrev AXK:=Addr->List (Str × V)->MH->Prop
noncomputable abbrev GF:=List AV->MH->AK->AXK->Prop
noncomputable def GS (H:Hp)(O:Own)(M:MH)(d:Option Addr)(fs:List (Str × V)):Prop:=d=none/\fs=[] \/ ∃ dx,d=some dx/\H dx=some (.xd fs)/\O dx/\M dx=none
structure EXs (H0:Hp)(O0:Own)(M0:MH)(E:St->XK)(EA:ASt->AXK):Prop where
 go:∀ σ ρ C fs M' H' O' d,EA ρ C fs M'->Ext H0 O0 M0 H' O' M'->Wf H' O' M'->Er H' O' M' σ ρ->GS H' O' M' d fs->E σ (.ref C) d H'
structure G4 (HX:Hp)(OX:Own)(MX:MH)(t:TS)(a:AS):Prop where
 go:∀ {H0:Hp} {O0:Own} {M0:MH} {D:kF} {D':jw} {σ:St} {H:Hp} {O:Own} {ρ:ASt} {M:MH},Ext HX OX MX H0 O0 M0->Wf H0 O0 M0->Wf H O M->Er H O M σ ρ->Ext H0 O0 M0 H O M->a M0 D' ρ M->ED H0 O0 M0 D D'->t D σ H
section
variable {HX:Hp}{OX:Own}{MX:MH}{t u:TS}{a b:AS}{E:St->XK}{EA:ASt->AXK}{sp:GF}{ta:TA}{aa:AA}
end
section
variable {K:PySem.W.Frag}{i:Nat}{T:Addr}{tb:(St->XK)->TS}{th:TS}{ab:(ASt->AXK)->AS}{ah:AS}
end
section
variable {X:Cx}{K:PySem.W.Frag}{body suite:List Stmt}{b₀:Stmt}{n tx:Str}{i:Nat}{T:Addr}{np hpos pos tp p:Pos}{tb:(St->XK)->TS}{th:TS}{e c:Expr}{es:List Expr}{cs:List Value}{t:TE}{kk:Nat}
end
section
variable {X:Cx}
end
end L2
namespace PySem
open Sem (wp)
section
variable {prog:Program}{w:World}{A:Around}{E:Value->Shared->Prop}{h:Heap}{g:Array GenState}{d:Drawn}{t:Nat}{os:OsState}
variable {nm q:Str}{C N:Addr}{bs bm bmB:List Value}{hdct:Bool}{sn:List Str}{sub:List Value}{ab:Bool}{col:Option Bool}{dd:Option Addr}{k0 k1 k2 k3 k5:Option Value}{B Bn newId nid initId inN:String}{bmN:List Value}
end
section
variable {M:Model}{A:Around}{E:Value->Shared->Prop}{env:Env}
variable {nm q:Str}{C N:Addr}{bs bm:List Value}{hdct:Bool}{sn:List Str}{sub:List Value}{ab:Bool}{col:Option Bool}{dd:Option Addr}{k0 k1 k2 k3 k5:Option Value}{newId:String}
end
section
variable {prog:Program}{w:World}{A:Around}{E:Value->Shared->Prop}{s:Shared}{env:Env}
variable {nm q:Str}{C N:Addr}{bs bm bmB:List Value}{hdct:Bool}{sn:List Str}{sub:List Value}{ab:Bool}{col:Option Bool}{dd:Option Addr}{k0 k1 k2 k3 k5:Option Value}{B Bn newId nid initId inN:String}{bmN:List Value}
end
end PySem
namespace L2
open PySem PySem.Spec PyProof.Rows
open PySem.W (Looks InstAt findIn findObj subIn mroIn clsIn takerIn hasDictIn)
noncomputable def GP:Value->Bool
 | .ref _=>true
 | _=>false
noncomputable def DQ (l:List Value):Bool:=l.dropWhile GP == GO
structure G6 (K:PySem.W.Frag)(C:Addr)(name:Str):Prop where
 s:findIn K (.ref C) "__setattr__"=some (some (.builtin "object.__setattr__"))
 t:takerIn K C name=some none
 hd:hasDictIn K C=true
 mo:mroIn K C (.type "object")=some true
 ve:(clsIn K C).any (fun cd=>DQ cd.mro)=true
section
variable {prog:Program}{w:World}{A:Around}{E:Value->Shared->Prop}{s:Shared}{K:PySem.W.Frag}{x C:Addr}{ox:Obj}{od:Option Obj}{name:Str}{v:Value}
end
open PySem.W (Looks InstAt findIn findObj subIn mroIn clsIn takerIn hasDictIn)
section
variable {X:Cx}{pins:List (Addr × Obj)}{σ:St}{H:Hp}{s:Shared}
variable {o value:Expr}{f:Str}{ta tv:TE}{pos pos':Pos}
end
section
variable {X:Cx}{E:XK}{C:Addr}{x:Str}{np cpos pos:Pos}{e:Expr}{es:List Expr}{t:TA}{k n:Nat}{fn:List V->List (Str × V)}
end
open PySem.W (Looks InstAt findIn findObj subIn mroIn clsIn takerIn hasDictIn)
section
variable {X:Cx}{k:Nat}{C:Addr}{m x:Str}{ps:List Str}{sp:Sp}{E:St->XK}{p pos apos:Pos}{o e:Expr}{es:List Expr}{t:TA}{to:TE}
end
section
variable {prog:Program}{w:World}{A:Around}{E:Value->Shared->Prop}{s:Shared}{K:PySem.W.Frag}{x C:Addr}{ox u:Obj}{name:Str}{v:Value}
end
section
variable {X:Cx}{e:Expr}{ta:TE}{f:Str}{pos:Pos}
end
open PySem.W (findIn hasDictIn)
section
variable {HX:Hp}{OX:Own}{MX:MH}{E:St->XK}{EA:ASt->AXK}{sp:GF}{te:TE}{ae:AE}{ta:TA}{aa:AA}{C:Addr}{m:Str}
end
end L2
namespace PySem
open Sem (wp)
section
variable {prog:Program}{w:World}{A:Around}{E:Value->Shared->Prop}{s:Shared}
end
section
variable {prog:Program}{w:World}{A:Around}{E:Value->Shared->Prop}{env:Env}
variable {nm q:Str}{C N:Addr}{bs bm bmB:List Value}{hdct:Bool}{sn:List Str}{sub:List Value}{ab:Bool}{col:Option Bool}{dd:Option Addr}{k0 k1 k2 k3 k5:Option Value}{B Bn newId nid initId inN:String}{bmN:List Value}
end
end PySem
namespace L2
open PySem PySem.Spec PyProof.Rows
section
variable {M:Model}{A:Around}{E:Value->Shared->Prop}{s:Shared}
end
section
variable {X:Cx}{E:XK}{pins:List (Addr × Obj)}{σ:St}{H:Hp}{s:Shared}
end
open PySem.W (Looks InstAt findIn findObj subIn mroIn clsIn takerIn hasDictIn)
structure G0 (k:Nat)(A:Around):Prop where
 gd:A.guards=some []
 dp:A.depth+3 * k+5<recursionLimit
 un:A.units+16 * k+200<cLine
open PySem.W (Looks InstAt findIn findObj subIn mroIn clsIn takerIn hasDictIn)
section
variable {X:Cx}{E:XK}{body:List Stmt}{n tx cx:Str}{i k nn:Nat}{T C2:Addr}{np cp cpos rpos hpos pos:Pos}{tb:(St->XK)->TS}{ta:TA}{e1:Expr}{es:List Expr}{fn:List V->List (Str × V)}
end
open PySem.W (Looks InstAt findIn findObj subIn mroIn clsIn takerIn hasDictIn)
section
variable {X:Cx}{e:Expr}{ta:TE}{f:Str}{pos:Pos}{K:PySem.W.Frag}
end
section
variable {HX:Hp}{OX:Own}{MX:MH}{K:PySem.W.Frag}{i j:Nat}{T C2:Addr}{f:Str}{fn:List V->List (Str × V)}{E:XK}{EA:ASt->AXK}{tb:(St->XK)->TS}{ab:(ASt->AXK)->AS}
end
section
variable {X:Cx}{K:PySem.W.Frag}{E:XK}{body:List Stmt}{n tx cx:Str}{i k nn:Nat}{T C2:Addr}{np cp cpos rpos hpos pos:Pos}{tb:(St->XK)->TS}{ta:TA}{e1:Expr}{es:List Expr}{fn:List V->List (Str × V)}
end
noncomputable def yU (b:AA)(n:Nat)(ag:AGs):AS:=fun _ D ρ M=>b ρ M fun xs M1=>xs.length=n/\n<=sizeLine/\ag xs ρ M1 fun ρ2 M3=>D.nx ρ2 M3
theorem YY {K:PySem.W.Frag}{u:TA}{b:AA}{n:Nat}{gs:TGs}{ag:AGs}(h:kj u b)(hg:QY gs ag):jW (Yc (Bl u) (VC K n gs)) (yU b n ag):=⟨fun _ w e x q E=>h.go w e q fun xs M1 vs H1 O1 q1 k1 w1 r1=>
 ⟨by rw [r1.1,q1.1];exact q1.2.1,fun p hp=>
  have k2:=qj w1 hp (.tup vs)
  ⟨p,vs,rfl,SqT.of zl,r1.1.trans q1.1,hg.go (ke w1 hp _) (e.ext (k1.trans k2)) (r1.ext k2) q1.2.2 fun σ3 H3 O3 ρ3 M3 q3 k3 w3 e3=>E.nx _ _ _ _ _ w3 e3 (((x.trans k1).trans k2).trans k3) q3⟩⟩⟩
section
variable {X:Cx}
end
structure YV where
 nx:ASt->MH->Prop
 rt:List AV->MH->Prop
noncomputable abbrev AST:=MH->YV->ASt->MH->Prop
structure G2 (t:TS)(a:AST):Prop where
 go:∀ {H0:Hp} {O0:Own} {M0:MH} {Q:VK} {D':YV} {σ:St} {H:Hp} {O:Own} {ρ:ASt} {M:MH} {nx:St->Hp->Prop},Wf H0 O0 M0->Wf H O M->Er H O M σ ρ->Ext H0 O0 M0 H O M->a M0 D' ρ M ->
  (∀ ys M' us H' O' p,D'.rt ys M'->Ext H0 O0 M0 H' O' M'->Wf H' O' M'->H' p=some (.tup us)->zf H' O' M' us ys->Q (.ref p) H')->t { nx:=nx,rt:=Q } σ H
end L2
namespace L2
open PySem PyProof.Rows
noncomputable def kn (p:Keyed):Int:=numOf p.1
noncomputable def LEr (rk:Keyed->Int)(p q:Keyed):Prop:=kn p<kn q \/ (kn p=kn q/\rk p<=rk q)
section
variable {rk:Keyed->Int}{p q r:Keyed}
theorem LEr.refl:LEr rk p p:=.inr ⟨rfl,Int.le_refl _⟩
theorem LEr.trans (h:LEr rk p q)(g:LEr rk q r):LEr rk p r:=by
 unfold LEr at *;walk_at "o"
theorem LEr.kn (h:LEr rk p q):kn p<=kn q:=by unfold LEr at h;walk_at "o"
theorem LEr.of (h:L2.kn p<=L2.kn q)(g:rk p<=rk q):LEr rk p q:=by unfold LEr;walk_at "o"
end
noncomputable def IsI (p:Keyed):Prop:=∃ n t,p.1=Value.int n t
section
variable {prog:Program}{w:World}{A:Around}{E:Value->Shared->Prop}{s:Shared}
theorem Q1 {st:SortSt}{x y:Keyed}{Q:Option Bool->SortSt->Prop}(hk:kindOf st=oneType')(hx:IsI x)(hy:IsI y)(h:Q (some (decide (kn x<kn y))) st):wpS (model prog w) A E s (lt' x y) Q st:=by
 obtain ⟨x1,x2⟩:=x
 obtain ⟨y1,y2⟩:=y
 obtain ⟨a,t,rfl⟩:=hx
 obtain ⟨b,u,rfl⟩:=hy
 rw [lt'_eq]
 refine wpS_bind (wpS_get ?_)
 rw [hk,keyLt'_oneType]
 exact wpS_bind (wpS_lift (wpAny_attempt (oneLt_int ⟨rfl,wpS_pure h⟩)))
theorem zP {st:SortSt}{xs:Array Keyed}{i:Nat}{x:Keyed}{Q:Keyed->SortSt->Prop}(hx:xs[i]?=some x)(h:Q x st):wpS (model prog w) A E s (elem' xs i) Q st:=by
 rw [elem'_eq,hx];exact wpS_pure h
theorem ky {σ:Type}{st:σ}{t:String}{Q:PUnit->σ->Prop}(h:Q ⟨⟩ st):wpS (model prog w) A E s (liftM (rule t):StateT σ Sem PUnit) Q st:=wpS_lift (wpAny_rule ⟨rfl,h⟩)
end
noncomputable def ZU:Bool->Keyed->Array Keyed->Nat->Nat->Nat->StateT SortSt Sem (Option Nat):=sortPriv% PySem.Builtin.gallop
local macro_rules | `(tactic| walk_at "unG")=>do
 let n:=Lean.mkIdent (Lean.mkPrivateNameCore `PySem.Builtin.List.W1All `PySem.Builtin.gallop)
 `(tactic| unfold $n)
noncomputable def byd (left:Bool)(key x:Keyed):Bool:=if left then decide (kn x<kn key) else !decide (kn key<kn x)
theorem YB {left:Bool}{key x y:Keyed}(h:kn x<=kn y)(g:byd left key y=true):byd left key x=true:=by
 unfold byd at *
 cases left
 ·simp only [Bool.false_eq_true,if_false,Bool.not_eq_true',decide_eq_false_iff_not] at *;walk_at "o"
 ·simp only [if_true,decide_eq_true_eq] at *;walk_at "o"
structure Cut (left:Bool)(key:Keyed)(f:Nat->Keyed)(n k:Nat):Prop where
 le:k<=n
 lo:∀ i,i<k->byd left key (f i)=true
 hi:∀ i,k<=i->i<n->byd left key (f i)=false
section
variable {prog:Program}{w:World}{A:Around}{E:Value->Shared->Prop}{s:Shared}
theorem Xn {st:SortSt}{left:Bool}{key:Keyed}{xs:Array Keyed}{base n hint:Nat}{f:Nat->Keyed}{Q:Option Nat->SortSt->Prop}(hk:kindOf st=oneType')(hkey:IsI key)(hf:∀ i,i<n->xs[base+i]?=some (f i)/\IsI (f i))(hs:∀ i j,i<=j->j<n->kn (f i)<=kn (f j))(hh:hint<n)
  (h:∀ k,Cut left key f n k->Q (some k) st):wpS (model prog w) A E s (ZU left key xs base n hint) Q st:=by
 unfold ZU
 walk_at "unG"
 have hb:∀ (i:Nat) (Q:Option Bool->SortSt->Prop),i<n->Q (some (byd left key (f i))) st->wpS (model prog w) A E s (do
   let x <- elem' xs (base+i)
   if left=true then lt' x key else do
    let r <- lt' key x
    pure (r.map (!·))) Q st:=fun i Q hi q=>by
  refine wpS_bind (zP (hf i hi).1 ?_)
  unfold byd at q
  cases left
  ·rw [if_neg (by decide)]
   exact wpS_bind (Q1 hk hkey (hf i hi).2 (wpS_pure q))
  ·rw [if_pos rfl]
   exact Q1 hk (hf i hi).2 hkey q
 have up:∀ i j,i<=j->j<n->byd left key (f j)=true->byd left key (f i)=true:=fun i j h1 h2=>YB (hs i j h1 h2)
 have dn:∀ i j,i<=j->j<n->byd left key (f i)=false->byd left key (f j)=false:=fun i j h1 h2 g=>by
  cases e:byd left key (f j) with
  | false=>rfl
  | true=>rw [up i j h1 h2 e] at g;exact g
 have fin:∀ {F:Nat->Option (Option Nat) × Nat × Nat->StateT SortSt Sem (ForInStep (Option (Option Nat) × Nat × Nat))} lo hi,(∀ t lo hi (R:_->SortSt->Prop),lo ≥ hi->R (ForInStep.done (none,lo,hi)) st->wpS (model prog w) A E s (F t (none,lo,hi)) R st) ->
   (∀ t lo hi (R:_->SortSt->Prop),lo<hi->hi<=n->R (ForInStep.yield (if byd left key (f (lo+(hi - lo) / 2))=true then (none,lo+(hi - lo) / 2+1,hi) else (none,lo,lo+(hi - lo) / 2))) st->wpS (model prog w) A E s (F t (none,lo,hi)) R st) ->
   lo<=hi->hi<=n->(∀ i,i<lo->byd left key (f i)=true)->(∀ i,hi<=i->i<n->byd left key (f i)=false)->wpS (model prog w) A E s (forIn [0:n] (none,lo,hi) F) (fun c st'=>st'=st/\∃ k,c=(none,k,k)/\Cut left key f n k) st:=fun lo hi F1 F2 h1 h2 h3 h4=>by
  refine wpS_forRange (I:=fun t c st'=>st'=st/\∃ lo hi,c=(none,lo,hi)/\lo<=hi/\hi<=n/\hi - lo<=n - t/\(∀ i,i<lo->byd left key (f i)=true)/\(∀ i,hi<=i->i<n->byd left key (f i)=false))
   ?_ ?_ ⟨rfl,lo,hi,rfl,h1,h2,by walk_at "o",h3,h4⟩
  ·rintro t c st' _ ht ⟨rfl,lo,hi,rfl,g1,g2,g3,g4,g5⟩
   by_cases c:lo ≥ hi
   ·have:lo=hi:=by walk_at "o"
    subst this
    exact F1 _ _ _ _ c ⟨rfl,lo,rfl,g2,g4,g5⟩
   ·refine F2 _ _ _ _ (by walk_at "o") g2 ?_
    cases e:byd left key (f (lo+(hi - lo) / 2)) with
    | true=>rw [if_pos rfl];exact ⟨rfl,_,_,rfl,by walk_at "o",g2,by walk_at "o",fun i hi'=>up i _ (by walk_at "o") (by walk_at "o") e,g5⟩
    | false=>rw [if_neg (by decide)];exact ⟨rfl,_,_,rfl,by walk_at "o",by walk_at "o",by walk_at "o",g4,fun i h1 h2=>dn _ i h1 h2 e⟩
  ·rintro c st' ⟨rfl,lo,hi,rfl,g1,g2,g3,g4,g5⟩
   have:lo=hi:=by walk_at "o"
   subst this
   exact ⟨rfl,lo,rfl,g2,g4,g5⟩
 dsimp only
 refine wpS_bind (hb hint _ hh ?_)
 cases e:byd left key (f hint) with
 | true=>
  dsimp only
  rw [if_pos rfl]
  refine wpS_bind (wpS_mono (wpS_forRange (I:=fun t c st'=>st'=st/\∃ la o,c=(none,la,o)/\la<o/\t+1<=o/\hint+la<n/\byd left key (f (hint+la))=true)
   (Q:=fun c st'=>st'=st/\∃ la o,c=(none,la,o)/\la<o/\hint+la<n/\byd left key (f (hint+la))=true/\(o ≥ n - hint \/ byd left key (f (hint+o))=false)) ?_ ?_ ⟨rfl,0,1,rfl,by walk_at "o",by walk_at "o",by walk_at "o",e⟩) ?_)
  ·rintro t c st' _ ht ⟨rfl,la,o,rfl,g1,g2,g3,g4⟩
   dsimp only
   by_cases c:o ≥ n - hint
   ·rw [if_pos c];exact wpS_pure ⟨rfl,la,o,rfl,g1,g3,g4,.inl c⟩
   ·rw [if_neg c]
    refine wpS_bind (hb _ _ (by walk_at "o") ?_)
    cases e2:byd left key (f (hint+o)) with
    | true=>exact wpS_pure ⟨rfl,o,_,rfl,by walk_at "o",by walk_at "o",by walk_at "o",e2⟩
    | false=>exact wpS_pure ⟨rfl,la,o,rfl,g1,g3,g4,.inr e2⟩
  ·rintro c st' ⟨rfl,la,o,rfl,g1,g2,g3,g4⟩
   exact ⟨rfl,la,o,rfl,g1,g3,g4,.inl (by walk_at "o")⟩
  ·rintro c st' ⟨rfl,la,o,rfl,g1,g3,g4,g5⟩
   refine wpS_bind (wpS_mono (fin (hint+la+1) (hint+min o (n - hint)) (fun t lo hi R c r=>?_) (fun t lo hi R c c2 r=>?_) (by walk_at "o") (by walk_at "o") ?_ ?_) ?_)
   ·dsimp only;rw [if_pos c];exact wpS_pure r
   ·dsimp only
    rw [if_neg (by walk_at "o")]
    refine wpS_bind (hb _ _ (by walk_at "o") ?_)
    cases e:byd left key (f (lo+(hi - lo) / 2)) with
    | true=>rw [e,if_pos rfl] at r;exact wpS_pure r
    | false=>rw [e,if_neg (by decide)] at r;exact wpS_pure r
   ·exact fun i hi=>up i _ (by walk_at "o") g3 g4
   ·intro i h1 h2
    rcases g5 with g5 | g5
    ·walk_at "o"
    ·exact dn _ i (by walk_at "o") h2 g5
   ·rintro c st' ⟨rfl,k,rfl,g⟩
    exact wpS_pure (h k g)
 | false=>
  dsimp only
  rw [if_neg (by decide)]
  refine wpS_bind (wpS_mono (wpS_forRange (I:=fun t c st'=>st'=st/\∃ la o,c=(none,la,o)/\la<o/\t+1<=o/\la<=hint/\byd left key (f (hint - la))=false)
   (Q:=fun c st'=>st'=st/\∃ la o,c=(none,la,o)/\la<o/\la<=hint/\byd left key (f (hint - la))=false/\(o ≥ hint+1 \/ byd left key (f (hint - o))=true)) ?_ ?_ ⟨rfl,0,1,rfl,by walk_at "o",by walk_at "o",by walk_at "o",e⟩) ?_)
  ·rintro t c st' _ ht ⟨rfl,la,o,rfl,g1,g2,g3,g4⟩
   dsimp only
   by_cases c:o ≥ hint+1
   ·rw [if_pos c];exact wpS_pure ⟨rfl,la,o,rfl,g1,g3,g4,.inl c⟩
   ·rw [if_neg c]
    refine wpS_bind (hb _ _ (by walk_at "o") ?_)
    cases e2:byd left key (f (hint - o)) with
    | true=>exact wpS_pure ⟨rfl,la,o,rfl,g1,g3,g4,.inr e2⟩
    | false=>exact wpS_pure ⟨rfl,o,_,rfl,by walk_at "o",by walk_at "o",by walk_at "o",e2⟩
  ·rintro c st' ⟨rfl,la,o,rfl,g1,g2,g3,g4⟩
   exact ⟨rfl,la,o,rfl,g1,g3,g4,.inl (by walk_at "o")⟩
  ·rintro c st' ⟨rfl,la,o,rfl,g1,g3,g4,g5⟩
   refine wpS_bind (wpS_mono (fin (hint+1 - min o (hint+1)) (hint - la) (fun t lo hi R c r=>?_) (fun t lo hi R c c2 r=>?_) (by walk_at "o") (by walk_at "o") ?_ ?_) ?_)
   ·dsimp only;rw [if_pos c];exact wpS_pure r
   ·dsimp only
    rw [if_neg (by walk_at "o")]
    refine wpS_bind (hb _ _ (by walk_at "o") ?_)
    cases e:byd left key (f (lo+(hi - lo) / 2)) with
    | true=>rw [e,if_pos rfl] at r;exact wpS_pure r
    | false=>rw [e,if_neg (by decide)] at r;exact wpS_pure r
   ·intro i hi
    rcases g5 with g5 | g5
    ·walk_at "o"
    ·exact up i _ (by walk_at "o") (by walk_at "o") g5
   ·exact fun i h1 h2=>dn _ i (by walk_at "o") h2 g4
   ·rintro c st' ⟨rfl,k,rfl,g⟩
    exact wpS_pure (h k g)
end
end L2
namespace L2
open PySem PyProof.Rows
section
variable {rk:Keyed->Int}
structure MLo (rk:Keyed->Int)(X Y:List Keyed)(a b:Nat)(o:List Keyed):Prop where
 la:a<=X.length
 lb:b<=Y.length
 perm:o.Perm (X.take a ++ Y.take b)
 pw:o.Pairwise (LEr rk)
 lx:∀ x ∈ o,∀ y ∈ X.drop a,LEr rk x y
 ly:∀ x ∈ o,∀ y ∈ Y.drop b,LEr rk x y
structure kf (rk:Keyed->Int)(X Y:List Keyed):Prop where
 px:X.Pairwise (LEr rk)
 py:Y.Pairwise (LEr rk)
 bel:∀ x ∈ X,∀ y ∈ Y,rk x<=rk y
 ix:∀ x ∈ X,IsI x
 iy:∀ y ∈ Y,IsI y
theorem xA {X:List Keyed}(h:X.Pairwise (LEr rk)){a:Nat}{x:Keyed}(hx:X[a]?=some x):∀ y ∈ X.drop a,LEr rk x y:=fun y hy=>by
 obtain ⟨hl,rfl⟩:=List.getElem?_eq_some_iff.mp hx
 rw [List.drop_eq_getElem_cons hl] at hy
 rcases List.mem_cons.mp hy with rfl | hy
 ·exact LEr.refl
 ·have:=List.Pairwise.sublist (List.drop_sublist a X) h
  rw [List.drop_eq_getElem_cons hl] at this
  exact (List.pairwise_cons.mp this).1 y hy
theorem kU {X:List Keyed}(h:X.Pairwise (LEr rk)){a:Nat}{x:Keyed}(hx:X[a]?=some x):∀ y ∈ X.take (a+1),LEr rk y x:=fun y hy=>by
 obtain ⟨hl,rfl⟩:=List.getElem?_eq_some_iff.mp hx
 rw [List.take_succ_eq_append_getElem hl] at hy
 rcases List.mem_append.mp hy with hy | hy
 ·have:=List.Pairwise.sublist (List.take_sublist (a+1) X) h
  rw [List.take_succ_eq_append_getElem hl] at this
  exact (List.pairwise_append.mp this).2.2 y hy _ (List.mem_singleton.mpr rfl)
 ·rw [List.mem_singleton.mp hy];exact LEr.refl
theorem ZL {o:List Keyed}{x:Keyed}(h:o.Pairwise (LEr rk))(g:∀ y ∈ o,LEr rk y x):(o ++ [x]).Pairwise (LEr rk):=List.pairwise_append.mpr ⟨h,List.pairwise_singleton _ _,fun y hy z hz=>by rw [List.mem_singleton.mp hz];exact g y hy⟩
theorem Ke {o A B:List Keyed}{x:Keyed}(h:o.Perm (A ++ B)):(o ++ [x]).Perm ((A ++ [x]) ++ B):=by
 rw [List.append_assoc]
 refine (h.append_right [x]).trans ?_
 rw [List.append_assoc]
 exact List.Perm.append_left A List.perm_append_comm
theorem Kc {o A B:List Keyed}{x:Keyed}(h:o.Perm (A ++ B)):(o ++ [x]).Perm (A ++ (B ++ [x])):=by
 rw [<- List.append_assoc];exact h.append_right [x]
variable {X Y o:List Keyed}{a b:Nat}
theorem MLo.x (T:kf rk X Y)(h:MLo rk X Y a b o){x y:Keyed}(hx:X[a]?=some x)(hy:Y[b]?=some y)(c:kn x<=kn y):MLo rk X Y (a+1) b (o ++ [x]):=by
 obtain ⟨hl,e⟩:=List.getElem?_eq_some_iff.mp hx
 have hd:X.drop a=x :: X.drop (a+1):=by rw [List.drop_eq_getElem_cons hl,e]
 have mx:x ∈ X:=List.mem_of_getElem? hx
 refine ⟨hl,h.lb,?_,ZL h.pw fun z hz=>h.lx z hz x (by rw [hd];exact List.mem_cons_self ..),fun z hz y' hy'=>?_,fun z hz y' hy'=>?_⟩
 ·rw [List.take_succ_eq_append_getElem hl,e];exact Ke h.perm
 ·rcases List.mem_append.mp hz with hz | hz
  ·exact h.lx z hz y' (by rw [hd];exact List.mem_cons_of_mem _ hy')
  ·rw [List.mem_singleton.mp hz];exact xA T.px hx y' (by rw [hd];exact List.mem_cons_of_mem _ hy')
 ·rcases List.mem_append.mp hz with hz | hz
  ·exact h.ly z hz y' hy'
  ·rw [List.mem_singleton.mp hz]
   have:=(xA T.py hy y' hy').kn
   exact LEr.of (by walk_at "o") (T.bel _ mx _ (List.mem_of_mem_drop hy'))
theorem MLo.y (T:kf rk X Y)(h:MLo rk X Y a b o){x y:Keyed}(hx:X[a]?=some x)(hy:Y[b]?=some y)(c:kn y<kn x):MLo rk X Y a (b+1) (o ++ [y]):=by
 obtain ⟨hl,e⟩:=List.getElem?_eq_some_iff.mp hy
 have hd:Y.drop b=y :: Y.drop (b+1):=by rw [List.drop_eq_getElem_cons hl,e]
 refine ⟨h.la,hl,?_,ZL h.pw fun z hz=>h.ly z hz y (by rw [hd];exact List.mem_cons_self ..),fun z hz y' hy'=>?_,fun z hz y' hy'=>?_⟩
 ·rw [List.take_succ_eq_append_getElem hl,e];exact Kc h.perm
 ·rcases List.mem_append.mp hz with hz | hz
  ·exact h.lx z hz y' hy'
  ·rw [List.mem_singleton.mp hz]
   have:=(xA T.px hx y' hy').kn
   exact .inl (by walk_at "o")
 ·rcases List.mem_append.mp hz with hz | hz
  ·exact h.ly z hz y' (by rw [hd];exact List.mem_cons_of_mem _ hy')
  ·rw [List.mem_singleton.mp hz];exact xA T.py hy y' (by rw [hd];exact List.mem_cons_of_mem _ hy')
theorem MLo.xs (T:kf rk X Y)(h:MLo rk X Y a b o){y:Keyed}(hy:Y[b]?=some y):∀ k,(∀ i,i<k->∃ x,X[a+i]?=some x/\kn x<=kn y)->MLo rk X Y (a+k) b (o ++ (X.drop a).take k)
 | 0,_=>by rw [List.take_zero,List.append_nil];exact h
 | k+1,g=>by
  obtain ⟨x,h1,h2⟩:=g k (by walk_at "o")
  have:=(MLo.xs T h hy k fun i hi=>g i (by walk_at "o")).x T h1 hy h2
  obtain ⟨hl,e⟩:=List.getElem?_eq_some_iff.mp h1
  rw [List.append_assoc] at this
  rw [show (X.drop a).take (k+1)=(X.drop a).take k ++ [x] by rw [List.take_succ_eq_append_getElem (by rw [List.length_drop];walk_at "o"),List.getElem_drop,e]]
  exact this
theorem MLo.ys (T:kf rk X Y)(h:MLo rk X Y a b o){x:Keyed}(hx:X[a]?=some x):∀ k,(∀ i,i<k->∃ y,Y[b+i]?=some y/\kn y<kn x)->MLo rk X Y a (b+k) (o ++ (Y.drop b).take k)
 | 0,_=>by rw [List.take_zero,List.append_nil];exact h
 | k+1,g=>by
  obtain ⟨y,h1,h2⟩:=g k (by walk_at "o")
  have:=(MLo.ys T h hx k fun i hi=>g i (by walk_at "o")).y T hx h1 h2
  obtain ⟨hl,e⟩:=List.getElem?_eq_some_iff.mp h1
  rw [List.append_assoc] at this
  rw [show (Y.drop b).take (k+1)=(Y.drop b).take k ++ [y] by rw [List.take_succ_eq_append_getElem (by rw [List.length_drop];walk_at "o"),List.getElem_drop,e]]
  exact this
noncomputable def jn (rk:Keyed->Int)(X Y m:List Keyed):Prop:=m.Perm (X ++ Y)/\m.Pairwise (LEr rk)
theorem MLo.doneY (T:kf rk X Y)(h:MLo rk X Y a Y.length o):jn rk X Y (o ++ X.drop a ++ Y.drop Y.length):=by
 rw [List.drop_length,List.append_nil]
 have p:=h.perm
 rw [List.take_length] at p
 refine ⟨?_,List.pairwise_append.mpr ⟨h.pw,T.px.sublist (List.drop_sublist _ _),h.lx⟩⟩
 refine (p.append_right _).trans ?_
 rw [List.append_assoc]
 refine (List.Perm.append_left _ List.perm_append_comm).trans ?_
 rw [<- List.append_assoc,List.take_append_drop]
theorem MLo.doneX (T:kf rk X Y)(h:MLo rk X Y X.length b o):jn rk X Y (o ++ X.drop X.length ++ Y.drop b):=by
 rw [List.drop_length,List.append_nil]
 have p:=h.perm
 rw [List.take_length] at p
 refine ⟨?_,List.pairwise_append.mpr ⟨h.pw,T.py.sublist (List.drop_sublist _ _),h.ly⟩⟩
 refine (p.append_right _).trans ?_
 rw [List.append_assoc,List.take_append_drop]
theorem MLo.last (T:kf rk X Y)(h:MLo rk X Y a b o)(ha:a+1=X.length)(g:∀ x,X[a]?=some x->∀ y ∈ Y,kn y<kn x):jn rk X Y (o ++ Y.drop b ++ X.drop a):=by
 obtain ⟨x,hx⟩:∃ x,X[a]?=some x:=⟨_,List.getElem?_eq_getElem (by walk_at "o")⟩
 obtain ⟨hl,e⟩:=List.getElem?_eq_some_iff.mp hx
 have hd:X.drop a=[x]:=by rw [List.drop_eq_getElem_cons hl,e,List.drop_eq_nil_of_le (by walk_at "o")]
 refine ⟨?_,?_⟩
 ·refine ((h.perm.append_right _).append_right _).trans ?_
  rw [List.append_assoc (X.take a),List.take_append_drop]
  rw [List.append_assoc]
  refine (List.Perm.append_left _ List.perm_append_comm).trans ?_
  rw [<- List.append_assoc,List.take_append_drop]
 ·rw [hd]
  refine ZL (List.pairwise_append.mpr ⟨h.pw,T.py.sublist (List.drop_sublist _ _),h.ly⟩) fun y hy=>?_
  rcases List.mem_append.mp hy with hy | hy
  ·exact h.lx y hy x (by rw [hd];exact List.mem_singleton.mpr rfl)
  ·exact .inl (g x hx y (List.mem_of_mem_drop hy))
end
noncomputable def Qh:Array Keyed->Array Keyed->StateT SortSt Sem (Array Keyed):=sortPriv% PySem.Builtin.mergeLo
local macro_rules | `(tactic| walk_at "unM")=>do
 let n:=Lean.mkIdent (Lean.mkPrivateNameCore `PySem.Builtin.List.W1All `PySem.Builtin.mergeLo)
 `(tactic| unfold $n)
noncomputable abbrev xE (st:SortSt)(g:Nat):SortSt:=SortSt.mk' (kindOf st) (arrOf st) (pendingOf st) g (failedOf st)
noncomputable def K0:Nat->StateT SortSt Sem Unit:=sortPriv% PySem.Builtin.setMinGallop
theorem JR (g:Nat):K0 g=modify fun st=>xE st g:=rfl
section
variable {prog:Program}{w:World}{A:Around}{E:Value->Shared->Prop}{s:Shared}{rk:Keyed->Int}
theorem xr {st:SortSt}{g:Nat}{Q:Unit->SortSt->Prop}(h:Q () (xE st g)):wpS (model prog w) A E s (K0 g) Q st:=by
 rw [JR];exact wpS_modify h
theorem wC {X:List Keyed}(h:X.Pairwise (LEr rk)){i j:Nat}(hij:i<=j)(hj:j<X.length):kn (X[i]?.getD (.none,.none))<=kn (X[j]?.getD (.none,.none)):=by
 rw [List.getElem?_eq_getElem hj,List.getElem?_eq_getElem (by walk_at "o")]
 by_cases c:i=j
 ·subst c;exact Int.le_refl _
 ·exact (List.pairwise_iff_getElem.mp h i j (by walk_at "o") hj (by walk_at "o")).kn
theorem yu {st:SortSt}{left:Bool}{key:Keyed}{xs:Array Keyed}{base n hint:Nat}{Q:Option Nat->SortSt->Prop}(hk:kindOf st=oneType')(hkey:IsI key)(hX:((xs.toList.drop base).take n).Pairwise (LEr rk))(hI:∀ x ∈ xs.toList,IsI x)(hb:base+n<=xs.size)(hh:hint<n)
  (h:∀ k,k<=n->(∀ i,i<k->∃ x,xs.toList[base+i]?=some x/\byd left key x=true)->(∀ i,k<=i->i<n->∃ x,xs.toList[base+i]?=some x/\byd left key x=false)->Q (some k) st):wpS (model prog w) A E s (ZU left key xs base n hint) Q st:=by
 have ge:∀ i,i<n->∃ x,xs.toList[base+i]?=some x/\((xs.toList.drop base).take n)[i]?=some x:=fun i hi=>by
  have:base+i<xs.toList.length:=by rw [Array.length_toList];walk_at "o"
  refine ⟨_,List.getElem?_eq_getElem this,?_⟩
  rw [List.getElem?_take_of_lt hi,List.getElem?_drop,List.getElem?_eq_getElem this]
 refine Xn (f:=fun i=>((xs.toList.drop base).take n)[i]?.getD (.none,.none)) hk hkey (fun i hi=>?_) (fun i j hij hj=>wC hX hij (by rw [List.length_take,List.length_drop,Array.length_toList];walk_at "o")) hh fun k c=>h k c.le (fun i hi=>?_) fun i h1 h2=>?_
 ·obtain ⟨x,h1,h2⟩:=ge i hi
  rw [h2,<- Array.getElem?_toList,h1]
  exact ⟨rfl,hI x (List.mem_of_getElem? h1)⟩
 ·obtain ⟨x,h1,h2⟩:=ge i (Nat.lt_of_lt_of_le hi c.le)
  have:=c.lo i hi
  rw [h2] at this
  exact ⟨x,h1,this⟩
 ·obtain ⟨x,h3,h4⟩:=ge i h2
  have:=c.hi i h1 h2
  rw [h4] at this
  exact ⟨x,h3,this⟩
theorem WE {key x:Keyed}(h:byd true key x=true):kn x<kn key:=by unfold byd at h;simpa using h
theorem Jg {key x:Keyed}(h:byd true key x=false):kn key<=kn x:=by unfold byd at h;simpa using h
theorem Vt {key x:Keyed}(h:byd false key x=true):kn x<=kn key:=by unfold byd at h;simpa using h
theorem JN {key x:Keyed}(h:byd false key x=false):kn key<kn x:=by unfold byd at h;simpa using h
end
end L2
namespace L2
open PySem PyProof.Rows
local macro_rules | `(tactic| walk_at "unM")=>do
 let n:=Lean.mkIdent (Lean.mkPrivateNameCore `PySem.Builtin.List.W1All `PySem.Builtin.mergeLo)
 `(tactic| unfold $n)
section
variable {prog:Program}{w:World}{A:Around}{E:Value->Shared->Prop}{s:Shared}{rk:Keyed->Int}
theorem ZS (xs:Array Keyed)(i k:Nat):(xs.extract i (i+k)).toList=(xs.toList.drop i).take k:=by
 rw [Array.toList_extract,List.extract_eq_take_drop,Nat.add_sub_cancel_left]
theorem xx (xs:Array Keyed)(i:Nat):(xs.extract i xs.size).toList=xs.toList.drop i:=by
 rw [Array.toList_extract,List.extract_eq_take_drop,List.take_of_length_le (by rw [List.length_drop,Array.length_toList];walk_at "o")]
theorem ju {xs:Array Keyed}{i:Nat}(h:i<xs.size):∃ x,xs[i]?=some x/\xs.toList[i]?=some x:=⟨xs[i],Array.getElem?_eq_getElem h,by rw [Array.getElem?_toList,Array.getElem?_eq_getElem h]⟩
theorem qp {α:Type}{st:SortSt}{c:Prop}[Decidable c]{m1 m2:StateT SortSt Sem α}{Q:α->SortSt->Prop}(h1:c->wpS (model prog w) A E s m1 Q st)(h2:¬ c->wpS (model prog w) A E s m2 Q st):wpS (model prog w) A E s (if c then m1 else m2) Q st:=by
 by_cases h:c
 ·rw [if_pos h];exact h1 h
 ·rw [if_neg h];exact h2 h
theorem Dw {α:Type}{st:SortSt}{c:Nat->Prop}{dc:∀ g,Decidable (c g)}{F m1:Nat->StateT SortSt Sem α}{Q:α->SortSt->Prop}(h:∀ g,wpS (model prog w) A E s (F g) Q st)(e:∀ g,m1 g=F (g - 1)):∀ g,wpS (model prog w) A E s (if c g then m1 g else F g) Q st:=fun g=>qp (fun _=>e g ▸ h _) fun _=>h _
theorem Dz {α:Type}{st:SortSt}{P:Array Keyed->Nat->Prop}{c:Prop}{dc:Decidable c}{c1 c2:Array Keyed->Nat->Prop}{d1:∀ o a,Decidable (c1 o a)}{d2:∀ o a,Decidable (c2 o a)}{F m1 r1 r2:Array Keyed->Nat->StateT SortSt Sem α}{Q:α->SortSt->Prop}(f:Array Keyed->Nat->Array Keyed)(g:Nat->Nat)
  (h1:∀ o a,P o a->c->c1 o a->wpS (model prog w) A E s (r1 o a) Q st) (h2:∀ o a,P o a->c->¬ c1 o a->c2 o a->wpS (model prog w) A E s (r2 o a) Q st) (h:∀ o a o2 a2,P o a->(c/\¬ c1 o a/\¬ c2 o a/\o2=f o a/\a2=g a) \/ (¬ c/\o2=o/\a2=a)->wpS (model prog w) A E s (F o2 a2) Q st) (e:∀ o a,m1 o a=F (f o a) (g a)) :
  ∀ o a,P o a->wpS (model prog w) A E s (if c then if c1 o a then r1 o a else if c2 o a then r2 o a else m1 o a else F o a) Q st:=fun o a p=>
 qp (fun hc=>qp (h1 o a p hc) fun hc1=>qp (h2 o a p hc hc1) fun hc2=>e o a ▸ h o a _ _ p (.inl ⟨hc,hc1,hc2,rfl,rfl⟩)) fun hc=>h o a _ _ p (.inr ⟨hc,rfl,rfl⟩)
theorem Dq {α:Type}{st:SortSt}{P:Array Keyed->Nat->Prop}{c:Prop}{dc:Decidable c}{c1:Array Keyed->Nat->Prop}{d1:∀ o a,Decidable (c1 o a)}{F m1 r1:Array Keyed->Nat->StateT SortSt Sem α}{Q:α->SortSt->Prop}(f:Array Keyed->Nat->Array Keyed)(g:Nat->Nat)
  (h1:∀ o a,P o a->c->c1 o a->wpS (model prog w) A E s (r1 o a) Q st) (h:∀ o a o2 a2,P o a->(c/\¬ c1 o a/\o2=f o a/\a2=g a) \/ (¬ c/\o2=o/\a2=a)->wpS (model prog w) A E s (F o2 a2) Q st) (e:∀ o a,m1 o a=F (f o a) (g a)) :
  ∀ o a,P o a->wpS (model prog w) A E s (if c then if c1 o a then r1 o a else m1 o a else F o a) Q st:=fun o a p=>
 qp (fun hc=>qp (h1 o a p hc) fun hc1=>e o a ▸ h o a _ _ p (.inl ⟨hc,hc1,rfl,rfl⟩)) fun hc=>h o a _ _ p (.inr ⟨hc,rfl,rfl⟩)
theorem Ji {st : SortSt}{xs ys : Array Keyed}{Q : Array Keyed -> SortSt -> Prop}(hk : kindOf st = oneType')(T : kf rk xs.toList ys.toList)(hx : 0 < xs.size)(hy : 0 < ys.size)(h0 : ∀ x y, xs.toList[0]? = some x -> ys.toList[0]? = some y -> kn y < kn x)(hl : ∀ x, xs.toList[xs.size - 1]? = some x -> ∀ y ∈ ys.toList, kn y < kn x)
    (h:∀ m g,jn rk xs.toList ys.toList m.toList->Q m (xE st g)):wpS (model prog w) A E s (Qh xs ys) Q st:=by
  unfold Qh
  walk_at "unM"
  have lx:xs.toList.length=xs.size:=Array.length_toList
  have ly:ys.toList.length=ys.size:=Array.length_toList
  have dn:∀ {o:Array Keyed} {a b},MLo rk xs.toList ys.toList a b o.toList->b=ys.size->jn rk xs.toList ys.toList (o ++ xs.extract a ++ ys.extract b).toList:=fun {o a b} M e=>by
    rw [Array.toList_append,Array.toList_append,xx,xx]
    subst e;rw [<- ly] at M ⊢;exact M.doneY T
  have dnx:∀ {o:Array Keyed} {a b},MLo rk xs.toList ys.toList a b o.toList->a=xs.size->jn rk xs.toList ys.toList (o ++ xs.extract a ++ ys.extract b).toList:=fun {o a b} M e=>by
    rw [Array.toList_append,Array.toList_append,xx,xx]
    subst e;rw [<- lx] at M ⊢;exact M.doneX T
  have ls:∀ {o:Array Keyed} {a b},MLo rk xs.toList ys.toList a b o.toList->a+1=xs.size->jn rk xs.toList ys.toList (o ++ ys.extract b ++ xs.extract a).toList:=fun {o a b} M e=>by
    rw [Array.toList_append,Array.toList_append,xx,xx]
    exact M.last T (by walk_at "o") fun x hx'=>hl x (by rw [<- hx'];congr 1;walk_at "o")
  have ix:∀ {a x},xs.toList[a]?=some x->IsI x:=fun e=>T.ix _ (List.mem_of_getElem? e)
  have iy:∀ {a x},ys.toList[a]?=some x->IsI x:=fun e=>T.iy _ (List.mem_of_getElem? e)
  have gal:∀ {a b} {o:Array Keyed} {k:Nat} {y:Keyed},MLo rk xs.toList ys.toList a b o.toList->ys.toList[b]?=some y->(∀ i,i<k->∃ x,xs.toList[a+i]?=some x/\byd false y x=true)->MLo rk xs.toList ys.toList (a+k) b (o ++ xs.extract a (a+k)).toList:=fun {a b o k y} M e g=>by
    rw [Array.toList_append,ZS]
    exact M.xs T e k fun i hi=>by obtain ⟨x,h1,h2⟩:=g i hi;exact ⟨x,h1,Vt h2⟩
  have gal2:∀ {a b} {o:Array Keyed} {k:Nat} {x:Keyed},MLo rk xs.toList ys.toList a b o.toList->xs.toList[a]?=some x->(∀ i,i<k->∃ y,ys.toList[b+i]?=some y/\byd true x y=true)->MLo rk xs.toList ys.toList a (b+k) (o ++ ys.extract b (b+k)).toList:=fun {a b o k y} M e g=>by
    rw [Array.toList_append,ZS]
    exact M.ys T e k fun i hi=>by obtain ⟨x,h1,h2⟩:=g i hi;exact ⟨x,h1,WE h2⟩
  have pux:∀ {a b} {o:Array Keyed} {x y:Keyed},MLo rk xs.toList ys.toList a b o.toList->xs.toList[a]?=some x->ys.toList[b]?=some y->kn x<=kn y->MLo rk xs.toList ys.toList (a+1) b (o.push x).toList:=fun M h1 h2 h3=>by rw [Array.toList_push];exact M.x T h1 h2 h3
  have puy:∀ {a b} {o:Array Keyed} {x y:Keyed},MLo rk xs.toList ys.toList a b o.toList->xs.toList[a]?=some x->ys.toList[b]?=some y->kn y<kn x->MLo rk xs.toList ys.toList a (b+1) (o.push y).toList:=fun M h1 h2 h3=>by rw [Array.toList_push];exact M.y T h1 h2 h3
  obtain ⟨x0,ex0,lx0⟩:=ju hx
  obtain ⟨y0,ey0,ly0⟩:=ju hy
  have M0:MLo rk xs.toList ys.toList 0 0 (#[]:Array Keyed).toList:=⟨Nat.zero_le _,Nat.zero_le _,List.Perm.refl _,List.Pairwise.nil,fun x hx=>(nomatch hx),fun x hx=>(nomatch hx)⟩
  have M1:MLo rk xs.toList ys.toList 0 1 (#[y0]:Array Keyed).toList:=puy M0 lx0 ly0 (h0 _ _ lx0 ly0)
  refine wpS_bind (ky ?_)
  dsimp only
  refine wpS_bind (zP ey0 ?_)
  by_cases c1:(1 == ys.size)=true
  · rw [if_pos c1]
    exact wpS_pure (h _ (gallopOf st) (dn M1 (by simpa using c1)))
  rw [if_neg c1]
  by_cases c2:(0+1 == xs.size)=true
  · rw [if_pos c2]
    exact wpS_pure (h _ (gallopOf st) (ls M1 (by simpa using c2)))
  rw [if_neg c2]
  have c1 : 1 < ys.size := by have : ¬ 1 = ys.size := by simpa using c1
                              walk_at "o"
  have c2 : 1 < xs.size := by have : ¬ 0 + 1 = xs.size := by simpa using c2
                              walk_at "o"
  refine wpS_bind (wpS_get ?_)
  refine wpS_bind (wpS_mono (wpS_forRange (I:=fun t c st'=>∃ o a b g g',c=(none,o,a,b,g)/\st'=xE st g'/\MLo rk xs.toList ys.toList a b o.toList/\a+1<xs.size/\b<ys.size/\t+1<=a+b)
    (Q:=fun c st'=>∃ m o a b g g',c=(some m,o,a,b,g)/\st'=xE st g'/\jn rk xs.toList ys.toList m.toList) ?_ ?_ ⟨_,_,_,_,gallopOf st,rfl,rfl,M1,by walk_at "o",by walk_at "o",by walk_at "o"⟩) ?_)
  · rintro t c st' _ ht ⟨o,a,b,g,g',rfl,rfl,M,ha,hb,hc⟩
    dsimp only
    refine wpS_bind (wpS_mono (wpS_forRange (I:=fun u c st'=>∃ o a b ac bc,c=(none,o,a,b,ac,bc)/\st'=xE st g'/\MLo rk xs.toList ys.toList a b o.toList/\a+1<xs.size/\b<ys.size/\t+1<=a+b/\u+1<=a+b)
      (Q:=fun c st'=>st'=xE st g'/\((∃ m o a b ac bc,c=(some m,o,a,b,ac,bc)/\jn rk xs.toList ys.toList m.toList) \/ (∃ o a b ac bc,c=(none,o,a,b,ac,bc)/\MLo rk xs.toList ys.toList a b o.toList/\a+1<xs.size/\b<ys.size/\t+2<=a+b))) ?_ ?_ ⟨_,_,_,_,_,rfl,rfl,M,ha,hb,hc,by walk_at "o"⟩) ?_)
    · rintro u c st' _ hu ⟨o,a,b,ac,bc,rfl,rfl,M,ha,hb,hc,hd⟩
      obtain ⟨x,ex,lx'⟩:=ju (xs:=xs) (i:=a) (by walk_at "o")
      obtain ⟨y,ey,ly'⟩:=ju hb
      dsimp only
      refine wpS_bind (zP ey (wpS_bind (zP ex (wpS_bind (Q1 hk (iy ly') (ix lx') ?_)))))
      by_cases c:kn y<kn x
      · rw [decide_eq_true c]
        dsimp only
        rw [if_pos rfl]
        refine wpS_bind (zP ey ?_)
        have M':=puy M lx' ly' c
        by_cases c3:(b+1 == ys.size)=true
        · rw [if_pos c3];exact wpS_pure ⟨rfl,.inl ⟨_,_,_,_,_,_,rfl,dn M' (by simpa using c3)⟩⟩
        rw [if_neg c3]
        have c3:¬ b+1=ys.size:=by simpa using c3
        split
        · exact wpS_pure ⟨rfl,.inr ⟨_,_,_,_,_,rfl,M',ha,by walk_at "o",by walk_at "o"⟩⟩
        · exact wpS_pure ⟨_,_,_,_,_,rfl,rfl,M',ha,by walk_at "o",by walk_at "o",by walk_at "o"⟩
      · rw [decide_eq_false c]
        dsimp only
        rw [if_neg (by decide)]
        refine wpS_bind (zP ex ?_)
        have M':=pux M lx' ly' (by walk_at "o")
        by_cases c3:(a+1+1 == xs.size)=true
        · rw [if_pos c3];exact wpS_pure ⟨rfl,.inl ⟨_,_,_,_,_,_,rfl,ls M' (by simpa using c3)⟩⟩
        rw [if_neg c3]
        have c3:¬ a+1+1=xs.size:=by simpa using c3
        split
        · exact wpS_pure ⟨rfl,.inr ⟨_,_,_,_,_,rfl,M',by walk_at "o",hb,by walk_at "o"⟩⟩
        · exact wpS_pure ⟨_,_,_,_,_,rfl,rfl,M',by walk_at "o",hb,by walk_at "o",by walk_at "o"⟩
    · rintro c st' ⟨o,a,b,ac,bc,rfl,rfl,M,ha,hb,hc,hd⟩
      walk_at "o"
    rintro c st' ⟨rfl,⟨m,o,a,b,ac,bc,rfl,r⟩ | ⟨o,a,b,ac,bc,rfl,M,ha,hb,hc⟩⟩
    · exact wpS_pure ⟨m,_,_,_,_,_,rfl,rfl,r⟩
    dsimp only
    refine wpS_bind (ky ?_)
    refine wpS_bind (wpS_mono (wpS_forRange (I:=fun u c st'=>∃ o a b g ac bc g',c=(none,o,a,b,g,ac,bc)/\st'=xE st g'/\MLo rk xs.toList ys.toList a b o.toList/\a+1<xs.size/\b<ys.size/\t+2<=a+b/\u+1<=a+b)
      (Q:=fun c st'=>∃ g',st'=xE st g'/\((∃ m o a b g ac bc,c=(some m,o,a,b,g,ac,bc)/\jn rk xs.toList ys.toList m.toList) \/ (∃ o a b g ac bc,c=(none,o,a,b,g,ac,bc)/\MLo rk xs.toList ys.toList a b o.toList/\a+1<xs.size/\b<ys.size/\t+2<=a+b))) ?_ ?_ ⟨_,_,_,_,_,_,_,rfl,rfl,M,ha,hb,hc,by walk_at "o"⟩) ?_)
    · rintro u c st' _ hu ⟨o,a,b,g,ac,bc,g',rfl,rfl,M,ha,hb,hc,hd⟩
      clear c1 c2 M1 M0
      obtain ⟨y,ey,ly'⟩:=ju hb
      dsimp only
      revert g
      refine Dw (fun g=>?h) ?e
      case e=>exact fun _=>rfl
      refine wpS_bind (xr ?_)
      refine wpS_bind (zP ey ?_)
      refine wpS_bind (yu (rk:=rk) hk (iy ly') ((T.px.sublist (List.drop_sublist _ _)).sublist (List.take_sublist _ _)) T.ix (by walk_at "o") (by walk_at "o") fun k k1 k2 k3=>?_)
      dsimp only
      have all:MLo rk xs.toList ys.toList a b o.toList/\a+1<xs.size/\t+2<=a+b/\u+1<=a+b/\k<=xs.size - a/\(∀ i,i<k->∃ x,xs.toList[a+i]?=some x/\byd false y x=true)/\(∀ i,k<=i->i<xs.size - a->∃ x,xs.toList[a+i]?=some x/\byd false y x=false):=⟨M,ha,hc,hd,k1,k2,k3⟩
      clear M ha hc hd k1 k2 k3
      revert all
      revert o a
      refine Dz (fun o a=>o ++ xs.extract a (a+k)) (fun a=>a+k) (fun o a p _ c3=>wpS_pure ⟨_,rfl,.inl ⟨_,_,_,_,_,_,_,rfl,ls (gal p.1 ly' p.2.2.2.2.2.1) (beq_iff_eq.mp c3)⟩⟩) (fun o a p _ _ c4=>wpS_pure ⟨_,rfl,.inl ⟨_,_,_,_,_,_,_,rfl,dnx (gal p.1 ly' p.2.2.2.2.2.1) (beq_iff_eq.mp c4)⟩⟩) (fun o a o2 a2 p hj=>?hj1) ?ej1
      case ej1=>exact fun _ _=>rfl
      obtain ⟨M,ha,hc,hd,k1,k2,k3⟩:=p
      have Mg:=gal M ly' k2
      obtain ⟨M1,ea,ha2⟩:MLo rk xs.toList ys.toList a2 b o2.toList/\a2=a+k/\a2+1<xs.size:=by
        clear hc hd k2 k3 hu
        rcases hj with ⟨_,c3,c4,rfl,rfl⟩ | ⟨c3,rfl,rfl⟩
        · have c3:¬ a+k+1=xs.size:=fun z=>c3 (beq_iff_eq.mpr z)
          have c4:¬ a+k=xs.size:=fun z=>c4 (beq_iff_eq.mpr z)
          exact ⟨Mg,rfl,by walk_at "o"⟩
        · exact ⟨M,by walk_at "o",by walk_at "o"⟩
      obtain ⟨x,ex,lx'⟩:=ju (xs:=xs) (i:=a2) (by clear hj;walk_at "o")
      obtain ⟨x',lx2,k4⟩:=k3 k (Nat.le_refl _) (by clear hj;walk_at "o")
      rw [<- ea,lx'] at lx2
      cases lx2
      have k4:=JN k4
      have hc:t+2<=a2+b/\u+1<=a2+b:=by clear hj;walk_at "o"
      clear hj k2 k3 k1 ea M ha hd
      refine wpS_bind (zP ey ?_)
      have M2:=puy M1 lx' ly' k4
      by_cases c5:(b+1 == ys.size)=true
      · rw [if_pos c5];exact wpS_pure ⟨_,rfl,.inl ⟨_,_,_,_,_,_,_,rfl,dn M2 (beq_iff_eq.mp c5)⟩⟩
      rw [if_neg c5]
      have c5:b+1<ys.size:=Nat.lt_of_le_of_ne hb fun z=>c5 (beq_iff_eq.mpr z)
      refine wpS_bind (zP ex ?_)
      refine wpS_bind (yu (rk:=rk) hk (ix lx') ((T.py.sublist (List.drop_sublist _ _)).sublist (List.take_sublist _ _)) T.iy (by walk_at "o") (by walk_at "o") fun k' k1' k2' k3'=>?_)
      dsimp only
      have all:MLo rk xs.toList ys.toList a2 (b+1) (o2.push y).toList/\b+1<ys.size/\t+2<=a2+(b+1)/\u+1<=a2+(b+1)/\k'<=ys.size - (b+1)/\(∀ i,i<k'->∃ z,ys.toList[b+1+i]?=some z/\byd true x z=true)/\(∀ i,k'<=i->i<ys.size - (b+1)->∃ z,ys.toList[b+1+i]?=some z/\byd true x z=false):=⟨M2,c5,by walk_at "o",by walk_at "o",k1',k2',k3'⟩
      clear M2 c5 k1' k2' k3' M1
      generalize o2.push y=o3 at all ⊢
      generalize b+1=b1 at all ⊢
      revert all
      revert o3 b1
      refine Dq (fun o b=>o ++ ys.extract b (b+k')) (fun b=>b+k') (fun o b p _ c6=>wpS_pure ⟨_,rfl,.inl ⟨_,_,_,_,_,_,_,rfl,dn (gal2 p.1 lx' p.2.2.2.2.2.1) (beq_iff_eq.mp c6)⟩⟩) (fun o b o4 b4 p hj=>?hj2) ?ej2
      case ej2=>exact fun _ _=>rfl
      obtain ⟨M,hb,hc,hd,k1,k2,k3⟩:=p
      have Mg:=gal2 M lx' k2
      obtain ⟨M3,eb,hb4⟩:MLo rk xs.toList ys.toList a2 b4 o4.toList/\b4=b+k'/\b4<ys.size:=by
        clear hc hd k2 k3 hu
        rcases hj with ⟨_,c3,rfl,rfl⟩ | ⟨c3,rfl,rfl⟩
        · have c3:¬ b+k'=ys.size:=fun z=>c3 (beq_iff_eq.mpr z)
          exact ⟨Mg,rfl,by walk_at "o"⟩
        · exact ⟨M,by walk_at "o",by walk_at "o"⟩
      obtain ⟨y',ly2,k5⟩:=k3 k' (Nat.le_refl _) (by clear hj;walk_at "o")
      rw [<- eb] at ly2
      have hc:t+2<=a2+b4/\u+1<=a2+b4:=by clear hj;walk_at "o"
      clear hj k2 k3 k1 eb M hb hd
      refine wpS_bind (zP ex ?_)
      have M4:=pux M3 lx' ly2 (Jg k5)
      by_cases c7:(a2+1+1 == xs.size)=true
      · rw [if_pos c7];exact wpS_pure ⟨_,rfl,.inl ⟨_,_,_,_,_,_,_,rfl,ls M4 (beq_iff_eq.mp c7)⟩⟩
      rw [if_neg c7]
      have c7:a2+1+1<xs.size:=Nat.lt_of_le_of_ne ha2 fun z=>c7 (beq_iff_eq.mpr z)
      refine qp (fun _=>?_) fun _=>?_
      · exact wpS_pure ⟨_,rfl,.inr ⟨_,_,_,_,_,_,rfl,M4,c7,hb4,by walk_at "o"⟩⟩
      · exact wpS_pure ⟨_,_,_,_,_,_,_,rfl,rfl,M4,c7,hb4,by walk_at "o",by walk_at "o"⟩
    · rintro c st' ⟨o,a,b,g,ac,bc,g',rfl,rfl,M,ha,hb,hc,hd⟩
      walk_at "o"
    rintro c st' ⟨g',rfl,⟨m,o,a,b,g,ac,bc,rfl,r⟩ | ⟨o,a,b,g,ac,bc,rfl,M,ha,hb,hc⟩⟩
    · exact wpS_pure ⟨m,_,_,_,_,_,rfl,rfl,r⟩
    · dsimp only
      refine wpS_bind (xr ?_)
      exact wpS_pure ⟨_,_,_,_,_,rfl,rfl,M,ha,hb,by walk_at "o"⟩
  · rintro c st' ⟨o,a,b,g,g',rfl,rfl,M,ha,hb,hc⟩
    walk_at "o"
  · rintro c st' ⟨m,o,a,b,g,g',rfl,rfl,r⟩
    exact wpS_pure (h m g' r)
end
end L2
namespace L2
open PySem PyProof.Rows
section
variable {rk:Keyed->Int}{X Y o:List Keyed}{a b:Nat}
structure MHi (rk:Keyed->Int)(X Y:List Keyed)(a b:Nat)(o:List Keyed):Prop where
 la:a<=X.length
 lb:b<=Y.length
 perm:o.Perm (X.drop a ++ Y.drop b)
 pw:o.Pairwise fun p q=>LEr rk q p
 lx:∀ x ∈ o,∀ y ∈ X.take a,LEr rk y x
 ly:∀ x ∈ o,∀ y ∈ Y.take b,LEr rk y x
theorem Qw {x:Keyed}(h:o.Pairwise fun p q=>LEr rk q p)(g:∀ y ∈ o,LEr rk x y):(o ++ [x]).Pairwise fun p q=>LEr rk q p:=List.pairwise_append.mpr ⟨h,List.pairwise_singleton _ _,fun y hy z hz=>by rw [List.mem_singleton.mp hz];exact g y hy⟩
theorem MHi.x (T:kf rk X Y)(h:MHi rk X Y (a+1) (b+1) o){x y:Keyed}(hx:X[a]?=some x)(hy:Y[b]?=some y)(c:kn y<kn x):MHi rk X Y a (b+1) (o ++ [x]):=by
 obtain ⟨hl,e⟩:=List.getElem?_eq_some_iff.mp hx
 have hd:X.drop a=x :: X.drop (a+1):=by rw [List.drop_eq_getElem_cons hl,e]
 have ht:X.take (a+1)=X.take a ++ [x]:=by rw [List.take_succ_eq_append_getElem hl,e]
 refine ⟨by walk_at "o",h.lb,?_,Qw h.pw fun z hz=>h.lx z hz x (by rw [ht];exact List.mem_append_right _ (List.mem_singleton.mpr rfl)),fun z hz y' hy'=>?_,fun z hz y' hy'=>?_⟩
 ·rw [hd]
  refine (h.perm.append_right [x]).trans ?_
  exact List.perm_append_comm
 ·rcases List.mem_append.mp hz with hz | hz
  ·exact h.lx z hz y' (by rw [ht];exact List.mem_append_left _ hy')
  ·rw [List.mem_singleton.mp hz];exact kU T.px hx y' (by rw [ht];exact List.mem_append_left _ hy')
 ·rcases List.mem_append.mp hz with hz | hz
  ·exact h.ly z hz y' hy'
  ·rw [List.mem_singleton.mp hz]
   have:=(kU T.py hy y' hy').kn
   exact .inl (by walk_at "o")
theorem MHi.y (T:kf rk X Y)(h:MHi rk X Y (a+1) (b+1) o){x y:Keyed}(hx:X[a]?=some x)(hy:Y[b]?=some y)(c:kn x<=kn y):MHi rk X Y (a+1) b (o ++ [y]):=by
 obtain ⟨hl,e⟩:=List.getElem?_eq_some_iff.mp hy
 have hd:Y.drop b=y :: Y.drop (b+1):=by rw [List.drop_eq_getElem_cons hl,e]
 have ht:Y.take (b+1)=Y.take b ++ [y]:=by rw [List.take_succ_eq_append_getElem hl,e]
 refine ⟨h.la,by walk_at "o",?_,Qw h.pw fun z hz=>h.ly z hz y (by rw [ht];exact List.mem_append_right _ (List.mem_singleton.mpr rfl)),fun z hz y' hy'=>?_,fun z hz y' hy'=>?_⟩
 ·rw [hd]
  refine (h.perm.append_right [y]).trans ?_
  rw [List.append_assoc]
  exact List.Perm.append_left _ List.perm_append_comm
 ·rcases List.mem_append.mp hz with hz | hz
  ·exact h.lx z hz y' hy'
  ·rw [List.mem_singleton.mp hz]
   have:=(kU T.px hx y' hy').kn
   exact LEr.of (by walk_at "o") (T.bel _ (List.mem_of_mem_take hy') _ (List.mem_of_getElem? hy))
 ·rcases List.mem_append.mp hz with hz | hz
  ·exact h.ly z hz y' (by rw [ht];exact List.mem_append_left _ hy')
  ·rw [List.mem_singleton.mp hz];exact kU T.py hy y' (by rw [ht];exact List.mem_append_left _ hy')
theorem Z7 {X:List Keyed}{a k:Nat}{x:Keyed}(h:X[a+k]?=some x):((X.drop a).take (k+1)).reverse=[x] ++ ((X.drop a).take k).reverse:=by
 obtain ⟨hl,e⟩:=List.getElem?_eq_some_iff.mp h
 rw [List.take_succ_eq_append_getElem (by rw [List.length_drop];walk_at "o"),List.getElem_drop,e,List.reverse_append];rfl
theorem MHi.xs (T:kf rk X Y){y:Keyed}(hy:Y[b]?=some y):∀ k {o},MHi rk X Y (a+k) (b+1) o->(∀ i,i<k->∃ x,X[a+i]?=some x/\kn y<kn x)->MHi rk X Y a (b+1) (o ++ ((X.drop a).take k).reverse)
 | 0,o,h,_=>by rw [List.take_zero,List.reverse_nil,List.append_nil];exact h
 | k+1,o,h,g=>by
  obtain ⟨x,h1,h2⟩:=g k (by walk_at "o")
  rw [Z7 h1,<- List.append_assoc]
  exact MHi.xs T hy k (MHi.x T h h1 hy h2) fun i hi=>g i (by walk_at "o")
theorem MHi.ys (T:kf rk X Y){x:Keyed}(hx:X[a]?=some x):∀ k {o},MHi rk X Y (a+1) (b+k) o->(∀ i,i<k->∃ y,Y[b+i]?=some y/\kn x<=kn y)->MHi rk X Y (a+1) b (o ++ ((Y.drop b).take k).reverse)
 | 0,o,h,_=>by rw [List.take_zero,List.reverse_nil,List.append_nil];exact h
 | k+1,o,h,g=>by
  obtain ⟨y,h1,h2⟩:=g k (by walk_at "o")
  rw [Z7 h1,<- List.append_assoc]
  exact MHi.ys T hx k (MHi.y T h hx h1 h2) fun i hi=>g i (by walk_at "o")
theorem Jo (h:o.Pairwise fun p q=>LEr rk q p):o.reverse.Pairwise (LEr rk):=List.pairwise_reverse.mpr h
theorem MHi.doneX (T:kf rk X Y)(h:MHi rk X Y 0 b o):jn rk X Y (X.take 0 ++ Y.take b ++ o.reverse):=by
 rw [List.take_zero,List.nil_append]
 refine ⟨?_,List.pairwise_append.mpr ⟨T.py.sublist (List.take_sublist _ _),Jo h.pw,fun x hx y hy=>h.ly y (List.mem_reverse.mp hy) x hx⟩⟩
 refine (List.Perm.append_left _ ((List.reverse_perm o).trans h.perm)).trans ?_
 rw [List.drop_zero,<- List.append_assoc]
 refine (List.perm_append_comm.append_right _).trans ?_
 rw [List.append_assoc,List.take_append_drop]
theorem MHi.doneY (T:kf rk X Y)(h:MHi rk X Y a 0 o):jn rk X Y (X.take a ++ Y.take 0 ++ o.reverse):=by
 rw [List.take_zero,List.append_nil]
 refine ⟨?_,List.pairwise_append.mpr ⟨T.px.sublist (List.take_sublist _ _),Jo h.pw,fun x hx y hy=>h.lx y (List.mem_reverse.mp hy) x hx⟩⟩
 refine (List.Perm.append_left _ ((List.reverse_perm o).trans h.perm)).trans ?_
 rw [List.drop_zero,<- List.append_assoc,List.take_append_drop]
theorem MHi.first (T:kf rk X Y)(h:MHi rk X Y a 1 o)(g:∀ y,Y[0]?=some y->∀ x ∈ X,kn y<kn x):jn rk X Y (Y.take 1 ++ X.take a ++ o.reverse):=by
 have hl:=h.lb
 refine ⟨?_,?_⟩
 ·refine (List.Perm.append_left _ ((List.reverse_perm o).trans h.perm)).trans ?_
  rw [List.append_assoc,<- List.append_assoc (X.take a),List.take_append_drop]
  refine List.perm_append_comm.trans ?_
  rw [List.append_assoc]
  refine List.Perm.append_left _ (List.perm_append_comm.trans ?_)
  rw [List.take_append_drop]
 ·refine List.pairwise_append.mpr ⟨List.pairwise_append.mpr ⟨T.py.sublist (List.take_sublist _ _),T.px.sublist (List.take_sublist _ _),fun y hy x hx=>?_⟩,Jo h.pw,fun x hx y hy=>?_⟩
  ·have e:Y[0]?=some (Y[0]'hl):=List.getElem?_eq_getElem hl
   rw [List.take_succ_eq_append_getElem hl,List.take_zero,List.nil_append] at hy
   rw [List.mem_singleton.mp hy]
   exact .inl (g _ e x (List.mem_of_mem_take hx))
  ·rcases List.mem_append.mp hx with hx | hx
   ·exact h.ly y (List.mem_reverse.mp hy) x hx
   ·exact h.lx y (List.mem_reverse.mp hy) x hx
end
noncomputable def Qr:Array Keyed->Array Keyed->StateT SortSt Sem (Array Keyed):=sortPriv% PySem.Builtin.mergeHi
local macro_rules | `(tactic| walk_at "unM")=>do
 let n:=Lean.mkIdent (Lean.mkPrivateNameCore `PySem.Builtin.List.W1All `PySem.Builtin.mergeHi)
 `(tactic| unfold $n)
section
variable {prog:Program}{w:World}{A:Around}{E:Value->Shared->Prop}{s:Shared}{rk:Keyed->Int}
theorem xC (xs:Array Keyed)(i:Nat):(xs.extract 0 i).toList=xs.toList.take i:=by
 rw [Array.toList_extract,List.extract_eq_take_drop,List.drop_zero,Nat.sub_zero]
theorem Xi (xs:Array Keyed){i j:Nat}(h:i<=j):(xs.extract i j).reverse.toList=((xs.toList.drop i).take (j - i)).reverse:=by
 rw [Array.toList_reverse,Array.toList_extract,List.extract_eq_take_drop]
theorem JL {st:SortSt}{xs ys:Array Keyed}{Q:Array Keyed->SortSt->Prop}(hk:kindOf st=oneType')(T:kf rk xs.toList ys.toList)(hx:0<xs.size)(hy:0<ys.size)(h0:∀ y,ys.toList[0]?=some y->∀ x ∈ xs.toList,kn y<kn x)(hl:∀ x,xs.toList[xs.size - 1]?=some x->∀ y ∈ ys.toList,kn y<kn x)
  (h:∀ m g,jn rk xs.toList ys.toList m.toList->Q m (xE st g)):wpS (model prog w) A E s (Qr xs ys) Q st:=by
 unfold Qr
 walk_at "unM"
 have lx:xs.toList.length=xs.size:=Array.length_toList
 have ly:ys.toList.length=ys.size:=Array.length_toList
 have dn:∀ {o:Array Keyed} {a b},MHi rk xs.toList ys.toList a b o.toList->a=0->jn rk xs.toList ys.toList (xs.extract 0 a ++ ys.extract 0 b ++ o.reverse).toList:=fun {o a b} M e=>by
  rw [Array.toList_append,Array.toList_append,xC,xC,Array.toList_reverse]
  subst e;exact M.doneX T
 have dny:∀ {o:Array Keyed} {a b},MHi rk xs.toList ys.toList a b o.toList->b=0->jn rk xs.toList ys.toList (xs.extract 0 a ++ ys.extract 0 b ++ o.reverse).toList:=fun {o a b} M e=>by
  rw [Array.toList_append,Array.toList_append,xC,xC,Array.toList_reverse]
  subst e;exact M.doneY T
 have ls:∀ {o:Array Keyed} {a b},MHi rk xs.toList ys.toList a b o.toList->b=1->jn rk xs.toList ys.toList (ys.extract 0 b ++ xs.extract 0 a ++ o.reverse).toList:=fun {o a b} M e=>by
  rw [Array.toList_append,Array.toList_append,xC,xC,Array.toList_reverse]
  subst e;exact M.first T h0
 have ix:∀ {a x},xs.toList[a]?=some x->IsI x:=fun e=>T.ix _ (List.mem_of_getElem? e)
 have iy:∀ {a x},ys.toList[a]?=some x->IsI x:=fun e=>T.iy _ (List.mem_of_getElem? e)
 have gal:∀ {a b} {o:Array Keyed} {k:Nat} {y:Keyed},MHi rk xs.toList ys.toList a b o.toList->1<=b->ys.toList[b - 1]?=some y->k<=a->(∀ i,k<=i->i<a->∃ x,xs.toList[0+i]?=some x/\byd false y x=false)->MHi rk xs.toList ys.toList k b (o ++ (xs.extract k a).reverse).toList:=fun {a b o k y} M hb e hka g=>by
  rw [Array.toList_append,Xi _ hka]
  obtain ⟨b,rfl⟩:∃ b',b=b'+1:=⟨b - 1,by walk_at "o"⟩
  exact MHi.xs T e (a - k) (by rw [show k+(a - k)=a by walk_at "o"];exact M) fun i hi=>by obtain ⟨x,h1,h2⟩:=g (k+i) (by walk_at "o") (by walk_at "o");rw [Nat.zero_add] at h1;exact ⟨x,h1,JN h2⟩
 have gal2:∀ {a b} {o:Array Keyed} {k:Nat} {x:Keyed},MHi rk xs.toList ys.toList a b o.toList->1<=a->xs.toList[a - 1]?=some x->k<=b->(∀ i,k<=i->i<b->∃ y,ys.toList[0+i]?=some y/\byd true x y=false)->MHi rk xs.toList ys.toList a k (o ++ (ys.extract k b).reverse).toList:=fun {a b o k y} M hb e hka g=>by
  rw [Array.toList_append,Xi _ hka]
  obtain ⟨a,rfl⟩:∃ b',a=b'+1:=⟨a - 1,by walk_at "o"⟩
  exact MHi.ys T e (b - k) (by rw [show k+(b - k)=b by walk_at "o"];exact M) fun i hi=>by obtain ⟨x,h1,h2⟩:=g (k+i) (by walk_at "o") (by walk_at "o");rw [Nat.zero_add] at h1;exact ⟨x,h1,Jg h2⟩
 have pux:∀ {a b} {o:Array Keyed} {x y:Keyed},MHi rk xs.toList ys.toList a b o.toList->1<=a->1<=b->xs.toList[a - 1]?=some x->ys.toList[b - 1]?=some y->kn y<kn x->MHi rk xs.toList ys.toList (a - 1) b (o.push x).toList:=fun {a b o x y} M ha hb h1 h2 h3=>by
  rw [Array.toList_push]
  obtain ⟨a,rfl⟩:∃ b',a=b'+1:=⟨a - 1,by walk_at "o"⟩
  obtain ⟨b,rfl⟩:∃ b',b=b'+1:=⟨b - 1,by walk_at "o"⟩
  exact M.x T h1 h2 h3
 have puy:∀ {a b} {o:Array Keyed} {x y:Keyed},MHi rk xs.toList ys.toList a b o.toList->1<=a->1<=b->xs.toList[a - 1]?=some x->ys.toList[b - 1]?=some y->kn x<=kn y->MHi rk xs.toList ys.toList a (b - 1) (o.push y).toList:=fun {a b o x y} M ha hb h1 h2 h3=>by
  rw [Array.toList_push]
  obtain ⟨a,rfl⟩:∃ b',a=b'+1:=⟨a - 1,by walk_at "o"⟩
  obtain ⟨b,rfl⟩:∃ b',b=b'+1:=⟨b - 1,by walk_at "o"⟩
  exact M.y T h1 h2 h3
 obtain ⟨x0,ex0,lx0⟩:=ju (xs:=xs) (i:=xs.size - 1) (by walk_at "o")
 obtain ⟨y0,ey0,ly0⟩:=ju (xs:=ys) (i:=ys.size - 1) (by walk_at "o")
 have M0:MHi rk xs.toList ys.toList xs.size ys.size (#[]:Array Keyed).toList:=⟨Nat.le_of_eq lx.symm,Nat.le_of_eq ly.symm,by rw [<- lx,<- ly,List.drop_length,List.drop_length];exact List.Perm.refl _,List.Pairwise.nil,fun x hx=>(nomatch hx),fun x hx=>(nomatch hx)⟩
 have M1:MHi rk xs.toList ys.toList (xs.size - 1) ys.size (#[x0]:Array Keyed).toList:=pux M0 hx hy lx0 ly0 (hl _ lx0 _ (List.mem_of_getElem? ly0))
 refine wpS_bind (ky ?_)
 dsimp only
 refine wpS_bind (zP ex0 ?_)
 by_cases c1:(xs.size - 1 == 0)=true
 ·rw [if_pos c1]
  exact wpS_pure (h _ (gallopOf st) (dn M1 (by simpa using c1)))
 rw [if_neg c1]
 by_cases c2:(ys.size == 1)=true
 ·rw [if_pos c2]
  exact wpS_pure (h _ (gallopOf st) (ls M1 (by simpa using c2)))
 rw [if_neg c2]
 have c1:¬ xs.size - 1=0:=fun z=>c1 (beq_iff_eq.mpr z)
 have c2:¬ ys.size=1:=fun z=>c2 (beq_iff_eq.mpr z)
 refine wpS_bind (wpS_get ?_)
 refine wpS_bind (wpS_mono (wpS_forRange (I:=fun t c st'=>∃ o a b g g',c=(none,a,b,o,g)/\st'=xE st g'/\MHi rk xs.toList ys.toList a b o.toList/\0<a/\1<b/\t+1+a+b<=xs.size+ys.size)
  (Q:=fun c st'=>∃ m o a b g g',c=(some m,a,b,o,g)/\st'=xE st g'/\jn rk xs.toList ys.toList m.toList) ?_ ?_ ⟨_,_,_,_,gallopOf st,rfl,rfl,M1,by walk_at "o",by walk_at "o",by walk_at "o"⟩) ?_)
 ·rintro t c st' _ ht ⟨o,a,b,g,g',rfl,rfl,M,ha,hb,hc⟩
  dsimp only
  refine wpS_bind (wpS_mono (wpS_forRange (I:=fun u c st'=>∃ o a b ac bc,c=(none,a,b,o,ac,bc)/\st'=xE st g'/\MHi rk xs.toList ys.toList a b o.toList/\0<a/\1<b/\t+1+a+b<=xs.size+ys.size/\u+1+a+b<=xs.size+ys.size)
   (Q:=fun c st'=>st'=xE st g'/\((∃ m o a b ac bc,c=(some m,a,b,o,ac,bc)/\jn rk xs.toList ys.toList m.toList) \/ (∃ o a b ac bc,c=(none,a,b,o,ac,bc)/\MHi rk xs.toList ys.toList a b o.toList/\0<a/\1<b/\t+2+a+b<=xs.size+ys.size))) ?_ ?_ ⟨_,_,_,_,_,rfl,rfl,M,ha,hb,hc,by walk_at "o"⟩) ?_)
  ·rintro u c st' _ hu ⟨o,a,b,ac,bc,rfl,rfl,M,ha,hb,hc,hd⟩
   have ma:=M.la
   have mb:=M.lb
   obtain ⟨x,ex,lx'⟩:=ju (xs:=xs) (i:=a - 1) (by walk_at "o")
   obtain ⟨y,ey,ly'⟩:=ju (xs:=ys) (i:=b - 1) (by walk_at "o")
   dsimp only
   refine wpS_bind (zP ey (wpS_bind (zP ex (wpS_bind (Q1 hk (iy ly') (ix lx') ?_)))))
   by_cases c:kn y<kn x
   ·rw [decide_eq_true c]
    dsimp only
    rw [if_pos rfl]
    refine wpS_bind (zP ex ?_)
    have M':=pux M (by walk_at "o") (by walk_at "o") lx' ly' c
    by_cases c3:(a - 1 == 0)=true
    ·rw [if_pos c3];exact wpS_pure ⟨rfl,.inl ⟨_,_,_,_,_,_,rfl,dn M' (by simpa using c3)⟩⟩
    rw [if_neg c3]
    have c3:¬ a - 1=0:=fun z=>c3 (beq_iff_eq.mpr z)
    refine qp (fun _=>?_) fun _=>?_
    ·exact wpS_pure ⟨rfl,.inr ⟨_,_,_,_,_,rfl,M',by walk_at "o",by walk_at "o",by walk_at "o"⟩⟩
    ·exact wpS_pure ⟨_,_,_,_,_,rfl,rfl,M',by walk_at "o",by walk_at "o",by walk_at "o",by walk_at "o"⟩
   ·rw [decide_eq_false c]
    dsimp only
    rw [if_neg (by decide)]
    refine wpS_bind (zP ey ?_)
    have M':=puy M (by walk_at "o") (by walk_at "o") lx' ly' (by walk_at "o")
    by_cases c3:(b - 1 == 1)=true
    ·rw [if_pos c3];exact wpS_pure ⟨rfl,.inl ⟨_,_,_,_,_,_,rfl,ls M' (by simpa using c3)⟩⟩
    rw [if_neg c3]
    have c3:¬ b - 1=1:=fun z=>c3 (beq_iff_eq.mpr z)
    refine qp (fun _=>?_) fun _=>?_
    ·exact wpS_pure ⟨rfl,.inr ⟨_,_,_,_,_,rfl,M',by walk_at "o",by walk_at "o",by walk_at "o"⟩⟩
    ·exact wpS_pure ⟨_,_,_,_,_,rfl,rfl,M',by walk_at "o",by walk_at "o",by walk_at "o",by walk_at "o"⟩
  ·rintro c st' ⟨o,a,b,ac,bc,rfl,rfl,M,ha,hb,hc,hd⟩
   walk_at "o"
  rintro c st' ⟨rfl,⟨m,o,a,b,ac,bc,rfl,r⟩ | ⟨o,a,b,ac,bc,rfl,M,ha,hb,hc⟩⟩
  ·exact wpS_pure ⟨m,_,_,_,_,_,rfl,rfl,r⟩
  dsimp only
  refine wpS_bind (ky ?_)
  refine wpS_bind (wpS_mono (wpS_forRange (I:=fun u c st'=>∃ o a b g ac bc g',c=(none,a,b,o,g,ac,bc)/\st'=xE st g'/\MHi rk xs.toList ys.toList a b o.toList/\0<a/\1<b/\t+2+a+b<=xs.size+ys.size/\u+1+a+b<=xs.size+ys.size)
   (Q:=fun c st'=>∃ g',st'=xE st g'/\((∃ m o a b g ac bc,c=(some m,a,b,o,g,ac,bc)/\jn rk xs.toList ys.toList m.toList) \/ (∃ o a b g ac bc,c=(none,a,b,o,g,ac,bc)/\MHi rk xs.toList ys.toList a b o.toList/\0<a/\1<b/\t+2+a+b<=xs.size+ys.size))) ?_ ?_ ⟨_,_,_,_,_,_,_,rfl,rfl,M,ha,hb,hc,by walk_at "o"⟩) ?_)
  ·rintro u c st' _ hu ⟨o,a,b,g,ac,bc,g',rfl,rfl,M,ha,hb,hc,hd⟩
   clear c1 c2 M1 M0
   have ma:=M.la
   have mb:=M.lb
   obtain ⟨y,ey,ly'⟩:=ju (xs:=ys) (i:=b - 1) (by walk_at "o")
   dsimp only
   revert g
   refine Dw (fun g=>?h) ?e
   case e=>exact fun _=>rfl
   refine wpS_bind (xr ?_)
   refine wpS_bind (zP ey ?_)
   refine wpS_bind (yu (rk:=rk) hk (iy ly') (T.px.sublist ((List.take_sublist _ _).trans (List.drop_sublist _ _))) T.ix (by walk_at "o") (by walk_at "o") fun k k1 k2 k3=>?_)
   dsimp only
   generalize hac:a - k=ac2
   have all:MHi rk xs.toList ys.toList a b o.toList/\0<a/\t+2+a+b<=xs.size+ys.size/\u+1+a+b<=xs.size+ys.size/\k<=a/\a<=xs.size/\(∀ i,i<k->∃ x,xs.toList[0+i]?=some x/\byd false y x=true)/\(∀ i,k<=i->i<a->∃ x,xs.toList[0+i]?=some x/\byd false y x=false)/\a - k=ac2:=⟨M,ha,hc,hd,k1,lx ▸ ma,k2,k3,hac⟩
   clear M ha hc hd k1 k2 k3 hac ma
   revert all
   revert o a
   refine Dq (fun o a=>o ++ (xs.extract k a).reverse) (fun _=>k) (fun o a p _ c4=>wpS_pure ⟨_,rfl,.inl ⟨_,_,_,_,_,_,_,rfl,dn (gal p.1 (Nat.le_of_lt hb) ly' p.2.2.2.2.1 p.2.2.2.2.2.2.2.1) (beq_iff_eq.mp c4)⟩⟩) (fun o a o2 a2 p hj=>?hj1) ?ej1
   case ej1=>exact fun _ _=>rfl
   obtain ⟨M,ha,hc,hd,k1,ax,k2,k3,hac⟩:=p
   have Mg:=gal M (Nat.le_of_lt hb) ly' k1 k3
   obtain ⟨M1,ea,ha2⟩:MHi rk xs.toList ys.toList a2 b o2.toList/\a2=k/\0<a2:=by
    clear hc hd k2 k3 hu
    rcases hj with ⟨_,c4,rfl,rfl⟩ | ⟨c3,rfl,rfl⟩
    ·have c4:¬ a2=0:=fun z=>c4 (beq_iff_eq.mpr z)
     exact ⟨Mg,rfl,by walk_at "o"⟩
    ·exact ⟨M,by walk_at "o",ha⟩
   have hc:t+2+a2+b<=xs.size+ys.size/\u+1+a2+b<=xs.size+ys.size/\a2<=xs.size:=by clear hj;walk_at "o"
   subst ea
   obtain ⟨x,ex,lx'⟩:=ju (xs:=xs) (i:=a2 - 1) (by clear hj;walk_at "o")
   obtain ⟨x',lx2,k4⟩:=k2 (a2 - 1) (by clear hj;walk_at "o")
   rw [Nat.zero_add,lx'] at lx2
   cases lx2
   clear hj k2 k3 k1 M Mg ha hd hac ax
   refine wpS_bind (zP ey ?_)
   have M2:=puy M1 ha2 (Nat.le_of_lt hb) lx' ly' (Vt k4)
   by_cases c5:(b - 1 == 1)=true
   ·rw [if_pos c5];exact wpS_pure ⟨_,rfl,.inl ⟨_,_,_,_,_,_,_,rfl,ls M2 (beq_iff_eq.mp c5)⟩⟩
   rw [if_neg c5]
   have c5:¬ b - 1=1:=fun z=>c5 (beq_iff_eq.mpr z)
   refine wpS_bind (zP ex ?_)
   refine wpS_bind (yu (rk:=rk) hk (ix lx') (T.py.sublist ((List.take_sublist _ _).trans (List.drop_sublist _ _))) T.iy (by walk_at "o") (by walk_at "o") fun k' k1' k2' k3'=>?_)
   dsimp only
   generalize hbc:b - 1 - k'=bc2
   have all:MHi rk xs.toList ys.toList a2 (b - 1) (o2.push y).toList/\1<b - 1/\t+2+a2+(b - 1)<=xs.size+ys.size/\u+2+a2+(b - 1)<=xs.size+ys.size/\k'<=b - 1/\(∀ i,i<k'->∃ z,ys.toList[0+i]?=some z/\byd true x z=true)/\(∀ i,k'<=i->i<b - 1->∃ z,ys.toList[0+i]?=some z/\byd true x z=false)/\b - 1 - k'=bc2:=⟨M2,by walk_at "o",by walk_at "o",by walk_at "o",k1',k2',k3',hbc⟩
   clear M2 c5 k1' k2' k3' M1 hbc
   generalize o2.push y=o3 at all ⊢
   generalize b - 1=b1 at all ⊢
   revert all
   revert o3 b1
   refine Dz (fun o b=>o ++ (ys.extract k' b).reverse) (fun _=>k') (fun o b p _ c6=>wpS_pure ⟨_,rfl,.inl ⟨_,_,_,_,_,_,_,rfl,ls (gal2 p.1 ha2 lx' p.2.2.2.2.1 p.2.2.2.2.2.2.1) (beq_iff_eq.mp c6)⟩⟩) (fun o b p _ _ c8=>wpS_pure ⟨_,rfl,.inl ⟨_,_,_,_,_,_,_,rfl,dny (gal2 p.1 ha2 lx' p.2.2.2.2.1 p.2.2.2.2.2.2.1) (beq_iff_eq.mp c8)⟩⟩) (fun o b o4 b4 p hj=>?hj2) ?ej2
   case ej2=>exact fun _ _=>rfl
   obtain ⟨M,hb1,hc1,hd1,k1,k2,k3,hbc⟩:=p
   have Mg:=gal2 M ha2 lx' k1 k3
   obtain ⟨M3,eb,hb4⟩:MHi rk xs.toList ys.toList a2 b4 o4.toList/\b4=k'/\1<b4:=by
    clear hc hc1 hd1 k2 k3 hu
    rcases hj with ⟨_,c6,c8,rfl,rfl⟩ | ⟨c3,rfl,rfl⟩
    ·have c6:¬ b4=1:=fun z=>c6 (beq_iff_eq.mpr z)
     have c8:¬ b4=0:=fun z=>c8 (beq_iff_eq.mpr z)
     exact ⟨Mg,rfl,by walk_at "o"⟩
    ·exact ⟨M,by walk_at "o",hb1⟩
   subst eb
   obtain ⟨y',ly2,k5⟩:=k2 (b4 - 1) (by clear hj;walk_at "o")
   rw [Nat.zero_add] at ly2
   have hc:t+2+a2+b4<=xs.size+ys.size/\u+2+a2+b4<=xs.size+ys.size:=by clear hj;walk_at "o"
   clear hj k2 k3 k1 M Mg hb1 hc1 hd1 hbc
   refine wpS_bind (zP ex ?_)
   have M4:=pux M3 ha2 (Nat.le_of_lt hb4) lx' ly2 (WE k5)
   by_cases c7:(a2 - 1 == 0)=true
   ·rw [if_pos c7];exact wpS_pure ⟨_,rfl,.inl ⟨_,_,_,_,_,_,_,rfl,dn M4 (beq_iff_eq.mp c7)⟩⟩
   rw [if_neg c7]
   have c7:¬ a2 - 1=0:=fun z=>c7 (beq_iff_eq.mpr z)
   refine qp (fun _=>?_) fun _=>?_
   ·exact wpS_pure ⟨_,rfl,.inr ⟨_,_,_,_,_,_,rfl,M4,by walk_at "o",hb4,by walk_at "o"⟩⟩
   ·exact wpS_pure ⟨_,_,_,_,_,_,_,rfl,rfl,M4,by walk_at "o",hb4,by walk_at "o",by walk_at "o"⟩
  ·rintro c st' ⟨o,a,b,g,ac,bc,g',rfl,rfl,M,ha,hb,hc,hd⟩
   walk_at "o"
  rintro c st' ⟨g',rfl,⟨m,o,a,b,g,ac,bc,rfl,r⟩ | ⟨o,a,b,g,ac,bc,rfl,M,ha,hb,hc⟩⟩
  ·exact wpS_pure ⟨m,_,_,_,_,_,rfl,rfl,r⟩
  ·dsimp only
   refine wpS_bind (xr ?_)
   exact wpS_pure ⟨_,_,_,_,_,rfl,rfl,M,ha,hb,by walk_at "o"⟩
 ·rintro c st' ⟨o,a,b,g,g',rfl,rfl,M,ha,hb,hc⟩
  walk_at "o"
 ·rintro c st' ⟨m,o,a,b,g,g',rfl,rfl,r⟩
  exact wpS_pure (h m g' r)
end
end L2
namespace L2
open PySem PyProof.Rows
noncomputable def gK (xs:Array Keyed)(i:Nat):Keyed:=xs[i]?.getD (.none,.none)
theorem xc {xs ys:Array Keyed}{i j:Nat}(h:xs[i]?=ys[j]?):gK xs i=gK ys j:=by unfold gK;rw [h]
theorem Gn {xs:Array Keyed}{i:Nat}(h:i<xs.size):xs[i]?=some (gK xs i):=by unfold gK;rw [Array.getElem?_eq_getElem h];rfl
structure Sg (xs ys:Array Keyed)(lo hi:Nat):Prop where
 perm:ys.Perm xs
 out:∀ i,i<lo \/ hi<=i->ys[i]?=xs[i]?
 inn:∀ i,lo<=i->i<hi->∃ j,lo<=j/\j<hi/\ys[i]?=xs[j]?
theorem Sg.size {xs ys:Array Keyed}{lo hi:Nat}(h:Sg xs ys lo hi):ys.size=xs.size:=h.perm.size_eq
theorem Sg.refl (xs:Array Keyed)(lo hi:Nat):Sg xs xs lo hi:=⟨Array.Perm.refl _,fun _ _=>rfl,fun i h1 h2=>⟨i,h1,h2,rfl⟩⟩
theorem Sg.trans {xs ys zs:Array Keyed}{lo hi:Nat}(h:Sg xs ys lo hi)(g:Sg ys zs lo hi):Sg xs zs lo hi:=
 ⟨g.perm.trans h.perm,fun i c=>(g.out i c).trans (h.out i c),fun i h1 h2=>by
  obtain ⟨j,j1,j2,e⟩:=g.inn i h1 h2
  obtain ⟨k,k1,k2,e'⟩:=h.inn j j1 j2
  exact ⟨k,k1,k2,e.trans e'⟩⟩
theorem Sg.mono {xs ys:Array Keyed}{lo hi lo' hi':Nat}(h:Sg xs ys lo hi)(h1:lo'<=lo)(h2:hi<=hi'):Sg xs ys lo' hi':=
 ⟨h.perm,fun i c=>h.out i (by walk_at "o"),fun i c1 c2=>by
  by_cases c:lo<=i/\i<hi
  ·obtain ⟨j,j1,j2,e⟩:=h.inn i c.1 c.2
   exact ⟨j,by walk_at "o",by walk_at "o",e⟩
  ·exact ⟨i,c1,c2,h.out i (by walk_at "o")⟩⟩
theorem qE {xs:Array Keyed}{i j:Nat}(hj:j<=xs.size):Sg xs (mirror xs i j ((j - i) / 2)) i j:=
 ⟨mirror_perm _ _ _ _,fun k c=>by rw [getElem?_mirror_all hj,if_neg (by walk_at "o")],fun k h1 h2=>⟨i+j - 1 - k,by walk_at "o",by walk_at "o",by rw [getElem?_mirror_all hj,if_pos ⟨h1,h2⟩]⟩⟩
theorem ql {xs:Array Keyed}{i j:Nat}(hj:j<=xs.size)(k:Nat):gK (mirror xs i j ((j - i) / 2)) k=if i<=k/\k<j then gK xs (i+j - 1 - k) else gK xs k:=by
 have e:=getElem?_mirror_all (i:=i) hj k
 by_cases h1:i<=k/\k<j
 ·rw [if_pos h1] at e ⊢;exact xc e
 ·rw [if_neg h1] at e ⊢;exact xc e
theorem Xp {xs:Array Keyed}{src d:Nat}(hs:src<xs.size)(hd:d<=src)(k:Nat):gK (bubble xs src d) k=if k=src - d then gK xs src else if src - d<k/\k<=src then gK xs (k - 1) else gK xs k:=by
 have e:=getElem?_bubble hs d hd k
 by_cases h1:k=src - d
 ·rw [if_pos h1] at e ⊢;exact xc e
 ·rw [if_neg h1] at e ⊢
  by_cases h2:src - d<k/\k<=src
  ·rw [if_pos h2] at e ⊢;exact xc e
  ·rw [if_neg h2] at e ⊢;exact xc e
theorem XJ {xs:Array Keyed}{src d:Nat}(hs:src<xs.size)(hd:d<=src):Sg xs (bubble xs src d) (src - d) (src+1):=
 ⟨bubble_perm _ _ _,fun k c=>by rw [getElem?_bubble hs d hd,if_neg (by walk_at "o"),if_neg (by walk_at "o")],fun k h1 h2=>by
  rw [getElem?_bubble hs d hd]
  by_cases c:k=src - d
  ·rw [if_pos c];exact ⟨src,by walk_at "o",by walk_at "o",rfl⟩
  ·rw [if_neg c,if_pos (by walk_at "o")];exact ⟨k - 1,by walk_at "o",by walk_at "o",rfl⟩⟩
structure SoB (a₀:Array Keyed)(st:SortSt):Prop where
 perm:(arrOf st).Perm a₀
 kind:kindOf st=oneType'
 failed:failedOf st=none
theorem SoB.size {a₀:Array Keyed}{st:SortSt}(h:SoB a₀ st):(arrOf st).size=a₀.size:=h.perm.size_eq
theorem SoB.set {a₀:Array Keyed}{st:SortSt}(h:SoB a₀ st){xs:Array Keyed}(hp:xs.Perm (arrOf st)):SoB a₀ (setArr st xs):=⟨hp.trans h.perm,h.kind,h.failed⟩
noncomputable def Je (a₀:Array Keyed):Prop:=∀ p ∈ a₀.toList,IsI p
theorem SoB.ints {a₀:Array Keyed}{st:SortSt}(h:SoB a₀ st)(h0:Je a₀):∀ p ∈ (arrOf st).toList,IsI p:=fun p hp=>h0 p ((Array.perm_iff_toList_perm.mp h.perm).mem_iff.mp hp)
theorem SoB.int {a₀:Array Keyed}{st:SortSt}(h:SoB a₀ st)(h0:Je a₀){i:Nat}(hi:i<a₀.size):(arrOf st)[i]?=some (gK (arrOf st) i)/\IsI (gK (arrOf st) i):=by
 have e:=Gn (xs:=arrOf st) (i:=i) (by rw [h.size];exact hi)
 refine ⟨e,h.ints h0 _ (List.mem_of_getElem? (i:=i) ?_)⟩
 rw [Array.getElem?_toList];exact e
section
variable {prog:Program}{w:World}{A:Around}{E:Value->Shared->Prop}{s:Shared}{a₀:Array Keyed}{rk:Keyed->Int}
theorem KQ {st:SortSt}{i j:Nat}{Q:Option Bool->SortSt->Prop}(hB:SoB a₀ st)(h0:Je a₀)(hi:i<a₀.size)(hj:j<a₀.size)(h:Q (some (decide (kn (gK (arrOf st) i)<kn (gK (arrOf st) j)))) st):wpS (model prog w) A E s (ltAt' i j) Q st:=by
 rw [ltAt'_eq]
 refine wpS_bind (wpS_get ?_)
 obtain ⟨e1,i1⟩:=hB.int h0 hi
 obtain ⟨e2,i2⟩:=hB.int h0 hj
 exact wpS_bind (zP e1 (wpS_bind (zP e2 (Q1 hB.kind i1 i2 h))))
noncomputable def Srt (rk:Keyed->Int)(xs:Array Keyed)(lo hi:Nat):Prop:=∀ i j,lo<=i->i<=j->j<hi->LEr rk (gK xs i) (gK xs j)
noncomputable def Asc (rk:Keyed->Int)(xs:Array Keyed)(lo:Nat):Prop:=∀ i j,lo<=i->i<=j->j<xs.size->rk (gK xs i)<=rk (gK xs j)
theorem Sg.rkk {xs ys:Array Keyed}{lo m:Nat}(h:Sg xs ys lo m)(ha:Asc rk xs lo){i j:Nat}(h1:lo<=i)(h2:i<m)(h3:m<=j)(h4:j<xs.size):rk (gK ys i)<=rk (gK ys j):=by
 obtain ⟨i',a1,a2,e⟩:=h.inn i h1 h2
 rw [xc e,xc (h.out j (.inr h3))]
 exact ha i' j a1 (by walk_at "o") h4
theorem Srt.one {xs:Array Keyed}{lo:Nat}:Srt rk xs lo (lo+1):=fun i j h1 h2 h3=>by
 have:i=j:=by walk_at "o"
 subst this;exact LEr.refl
theorem Srt.more {xs:Array Keyed}{lo hi:Nat}(h:Srt rk xs lo hi)(hl:lo<hi)(g:LEr rk (gK xs (hi - 1)) (gK xs hi)):Srt rk xs lo (hi+1):=fun i j h1 h2 h3=>by
 by_cases c:j<hi
 ·exact h i j h1 h2 c
 ·have:j=hi:=by walk_at "o"
  subst this
  by_cases c2:i=j
  ·subst c2;exact LEr.refl
  ·exact (h i (j - 1) h1 (by walk_at "o") (by walk_at "o")).trans g
theorem JI {xs:Array Keyed}{lo k l:Nat}(hs:Srt rk xs lo (lo+k))(hl:l<=k)(hz:lo+k<xs.size)(ha:∀ i,lo<=i->i<lo+l->LEr rk (gK xs i) (gK xs (lo+k)))(hb:∀ i,lo+l<=i->i<lo+k->LEr rk (gK xs (lo+k)) (gK xs i)):Srt rk (bubble xs (lo+k) (lo+k - (lo+l))) lo (lo+(k+1)):=by
 have f:∀ i,gK (bubble xs (lo+k) (lo+k - (lo+l))) i=if i=lo+l then gK xs (lo+k) else if lo+l<i/\i<=lo+k then gK xs (i - 1) else gK xs i:=fun i=>by
  rw [Xp hz (by walk_at "o"),show lo+k - (lo+k - (lo+l))=lo+l by walk_at "o"]
 clear hz
 intro i j b1 b2 b3
 rw [f,f]
 clear f
 by_cases ci:i=lo+l
 ·rw [if_pos ci]
  by_cases cj:j=lo+l
  ·rw [if_pos cj];exact LEr.refl
  ·rw [if_neg cj,if_pos (by walk_at "o")]
   exact hb (j - 1) (by walk_at "o") (by walk_at "o")
 ·rw [if_neg ci]
  by_cases cj:j=lo+l
  ·rw [if_pos cj,if_neg (by walk_at "o")]
   exact ha i b1 (by walk_at "o")
  ·rw [if_neg cj]
   by_cases ci2:lo+l<i
   ·rw [if_pos (by walk_at "o"),if_pos (by walk_at "o")]
    exact hs _ _ (by walk_at "o") (by walk_at "o") (by walk_at "o")
   ·rw [if_neg (by walk_at "o")]
    by_cases cj2:lo+l<j
    ·rw [if_pos (by walk_at "o")];exact hs _ _ b1 (by walk_at "o") (by walk_at "o")
    ·rw [if_neg (by walk_at "o")];exact hs _ _ b1 b2 (by walk_at "o")
theorem Xm {st : SortSt}{lo n ok : Nat}{Q : Bool -> SortSt -> Prop}(h0 : Je a₀)(hB : SoB a₀ st)(hn : lo + n <= a₀.size)(hok : 1 <= ok)(hok2 : ok <= n)(ha : ∀ i j, lo <= i -> i < j -> lo + ok <= j -> j < a₀.size -> rk (gK (arrOf st) i) <= rk (gK (arrOf st) j))(hs : Srt rk (arrOf st) lo (lo + ok))
    (h:∀ xs,Sg (arrOf st) xs lo (lo+n)->Srt rk xs lo (lo+n)->Q true (setArr st xs)):wpS (model prog w) A E s (binarySort' lo n ok) Q st:=by
  rw [binarySort'_eq]
  refine wpS_bind (wpS_mono (wpS_forRange (I:=fun k c st'=>c=(none,())/\∃ xs,st'=setArr st xs/\Sg (arrOf st) xs lo (lo+k)/\Srt rk xs lo (lo+k)/\k<=n)
    (Q:=fun c st'=>c=(none,())/\∃ xs,st'=setArr st xs/\Sg (arrOf st) xs lo (lo+n)/\Srt rk xs lo (lo+n)) ?_ ?_ ⟨rfl,arrOf st,rfl,Sg.refl _ _ _,by rw [show max ok 1=ok by walk_at "o"];exact hs,by walk_at "o"⟩) ?_)
  · rintro k c st' hak hkn ⟨rfl,xs,rfl,g,hs,_⟩
    have hB':SoB a₀ (setArr st xs):=hB.set g.perm
    have sz:xs.size=a₀.size:=hB'.size
    refine wpS_bind (wpS_mono (wpS_forRange (I:=fun t c st'=>st'=setArr st xs/\∃ l r,c=(none,l,r)/\l<=r/\r<=k/\r - l<=k - t/\(∀ i,i<l->kn (gK xs (lo+i))<=kn (gK xs (lo+k)))/\(∀ i,r<=i->i<k->kn (gK xs (lo+k))<kn (gK xs (lo+i))))
      (Q:=fun c st'=>st'=setArr st xs/\∃ l,c=(none,l,l)/\l<=k/\(∀ i,i<l->kn (gK xs (lo+i))<=kn (gK xs (lo+k)))/\(∀ i,l<=i->i<k->kn (gK xs (lo+k))<kn (gK xs (lo+i)))) ?_ ?_ ⟨rfl,0,k,rfl,by walk_at "o",by walk_at "o",by walk_at "o",fun i hi=>by walk_at "o",fun i h1 h2=>by walk_at "o"⟩) ?_)
    · rintro t c st' _ ht ⟨rfl,l,r,rfl,h1,h2,h3,h4,h5⟩
      dsimp only
      by_cases c:l ≥ r
      · rw [if_pos c]
        have:l=r:=by walk_at "o"
        subst this
        exact wpS_pure ⟨rfl,l,rfl,h2,h4,h5⟩
      · rw [if_neg c]
        refine wpS_bind (KQ hB' h0 (by walk_at "o") (by walk_at "o") ?_)
        by_cases c2:kn (gK xs (lo+k))<kn (gK xs (lo+(l+r) / 2))
        · rw [show decide (kn (gK (arrOf (setArr st xs)) (lo+k))<kn (gK (arrOf (setArr st xs)) (lo+(l+r) / 2)))=true from decide_eq_true c2]
          refine wpS_pure ⟨rfl,_,_,rfl,by walk_at "o",by walk_at "o",by walk_at "o",h4,fun i a1 a2=>?_⟩
          have:=(hs (lo+(l+r) / 2) (lo+i) (by walk_at "o") (by walk_at "o") (by walk_at "o")).kn
          walk_at "o"
        · rw [show decide (kn (gK (arrOf (setArr st xs)) (lo+k))<kn (gK (arrOf (setArr st xs)) (lo+(l+r) / 2)))=false from decide_eq_false c2]
          refine wpS_pure ⟨rfl,_,_,rfl,by walk_at "o",by walk_at "o",by walk_at "o",fun i a1=>?_,h5⟩
          have:=(hs (lo+i) (lo+(l+r) / 2) (by walk_at "o") (by walk_at "o") (by walk_at "o")).kn
          walk_at "o"
    · rintro c st' ⟨rfl,l,r,rfl,h1,h2,h3,h4,h5⟩
      have:l=r:=by walk_at "o"
      subst this
      exact ⟨rfl,l,rfl,h2,h4,h5⟩
    · rintro c st' ⟨rfl,l,rfl,h2,h4,h5⟩
      show wpS _ _ _ _ (do moveDown' (lo+k) (lo+l);pure (ForInStep.yield (none,()))) _ _
      rw [moveDown'_eq]
      refine wpS_bind (wpS_modify (wpS_pure ⟨rfl,bubble xs (lo+k) (lo+k - (lo+l)),rfl,?_,?_,by walk_at "o"⟩))
      · exact (g.mono (Nat.le_refl _) (by walk_at "o")).trans ((XJ (by walk_at "o") (by walk_at "o")).mono (by walk_at "o") (by walk_at "o"))
      · have rkk : ∀ i, i < k -> rk (gK xs (lo + i)) <= rk (gK xs (lo + k)) := fun i hi => by
          obtain ⟨i',a1,a2,e⟩:=g.inn (lo+i) (by walk_at "o") (by walk_at "o")
          rw [xc e,xc (g.out (lo+k) (.inr (by walk_at "o")))]
          exact ha i' (lo+k) a1 (by walk_at "o") (by walk_at "o") (by walk_at "o")
        clear ha
        refine JI hs h2 (by walk_at "o") (fun i a1 a2=>?_) fun i a1 a2=>?_
        · have z1:=h4 (i - lo) (by walk_at "o")
          have z2:=rkk (i - lo) (by walk_at "o")
          rw [show lo+(i - lo)=i by walk_at "o"] at z1 z2
          exact LEr.of z1 z2
        · have:=h5 (i - lo) (by walk_at "o") (by walk_at "o")
          rw [show lo+(i - lo)=i by walk_at "o"] at this
          exact .inl this
  · rintro c st' ⟨rfl,xs,rfl,g,hs,hk⟩
    rw [show max (max ok 1) n=n by walk_at "o"] at g hs
    exact ⟨rfl,xs,rfl,g,hs⟩
  · rintro c st' ⟨rfl,xs,rfl,g,hs⟩
    exact wpS_pure (h xs g hs)
end
end L2
namespace L2
open PySem PyProof.Rows
section
variable {prog:Program}{w:World}{A:Around}{E:Value->Shared->Prop}{s:Shared}{a₀:Array Keyed}{rk:Keyed->Int}
noncomputable def Fal (rk:Keyed->Int)(xs:Array Keyed)(lo hi:Nat):Prop:=∀ i j,lo<=i->i<=j->j<hi->LEr rk (gK xs j) (gK xs i)
structure Dsc (rk:Keyed->Int)(xs:Array Keyed)(lo T hi:Nat):Prop where
 l:lo<=T
 t:T<hi
 a:Fal rk xs lo T
 b:∀ i,lo<=i->i<T->kn (gK xs (hi - 1))<kn (gK xs i)
 c:∀ i j,T<=i->i<=j->j<hi->kn (gK xs i)=kn (gK xs (hi - 1))/\rk (gK xs i)<=rk (gK xs j)
theorem Dsc.fall0 {xs:Array Keyed}{lo T hi:Nat}(h:Dsc rk xs lo T hi)(e:T+1=hi):Fal rk xs lo hi:=fun i j h1 h2 h3=>by
 by_cases c:j<T
 ·exact h.a i j h1 h2 c
 ·have:j=T:=by walk_at "o"
  subst this
  by_cases c2:i=j
  ·subst c2;exact LEr.refl
  ·have:=h.b i h1 (by walk_at "o")
   rw [show hi - 1=j by walk_at "o"] at this
   exact .inl this
theorem Dsc.fall {xs:Array Keyed}{lo T hi:Nat}(h:Dsc rk xs lo T hi)(hs:hi<=xs.size):Fal rk (mirror xs T hi ((hi - T) / 2)) lo hi:=fun i j h1 h2 h3=>by
 have hl:=h.l
 have ht:=h.t
 rw [ql hs,ql hs]
 by_cases ci:T<=i
 ·rw [if_pos (by walk_at "o"),if_pos (by walk_at "o")]
  have a1:=h.c (T+hi - 1 - j) (T+hi - 1 - i) (by walk_at "o") (by walk_at "o") (by walk_at "o")
  have a2:=h.c (T+hi - 1 - i) (T+hi - 1 - i) (by walk_at "o") (by walk_at "o") (by walk_at "o")
  exact LEr.of (by walk_at "o") a1.2
 ·by_cases cj:T<=j
  ·rw [if_pos (by walk_at "o"),if_neg (by walk_at "o")]
   have a1:=h.b i h1 (by walk_at "o")
   have a2:=h.c (T+hi - 1 - j) (T+hi - 1 - j) (by walk_at "o") (by walk_at "o") (by walk_at "o")
   exact .inl (by walk_at "o")
  ·rw [if_neg (by walk_at "o"),if_neg (by walk_at "o")];exact h.a i j h1 h2 (by walk_at "o")
theorem Dsc.last {xs:Array Keyed}{lo T hi:Nat}(h:Dsc rk xs lo T hi)(hs:hi<=xs.size):kn (gK (mirror xs T hi ((hi - T) / 2)) (hi - 1))=kn (gK xs (hi - 1)):=by
 have ht:=h.t
 rw [ql hs,if_pos ⟨by walk_at "o",by walk_at "o"⟩]
 exact (h.c (T+hi - 1 - (hi - 1)) (T+hi - 1 - (hi - 1)) (by walk_at "o") (by walk_at "o") (by walk_at "o")).1
theorem Fal.next {xs:Array Keyed}{lo hi:Nat}(h:Fal rk xs lo hi)(hl:lo<hi)(g:kn (gK xs hi)<kn (gK xs (hi - 1))):Dsc rk xs lo hi (hi+1):=by
 refine ⟨by walk_at "o",by walk_at "o",h,fun i h1 h2=>?_,fun i j h1 h2 h3=>?_⟩
 ·have:=(h i (hi - 1) h1 (by walk_at "o") (by walk_at "o")).kn
  rw [Nat.add_sub_cancel];walk_at "o"
 ·have:i=hi:=by walk_at "o"
  have:j=hi:=by walk_at "o"
  subst i j
  rw [Nat.add_sub_cancel];exact ⟨rfl,Int.le_refl _⟩
theorem Dsc.like {xs:Array Keyed}{lo T hi:Nat}(h:Dsc rk xs lo T hi)(e:kn (gK xs hi)=kn (gK xs (hi - 1)))(g:∀ i,lo<=i->i<hi->rk (gK xs i)<=rk (gK xs hi)):Dsc rk xs lo T (hi+1):=by
 have hl:=h.l
 have ht:=h.t
 refine ⟨hl,by walk_at "o",h.a,fun i h1 h2=>?_,fun i j h1 h2 h3=>?_⟩
 ·have:=h.b i h1 h2
  rw [Nat.add_sub_cancel];walk_at "o"
 ·rw [Nat.add_sub_cancel]
  by_cases cj:j<hi
  ·have:=h.c i j h1 h2 cj
   exact ⟨by walk_at "o",this.2⟩
  ·have:j=hi:=by walk_at "o"
   subst this
   by_cases ci:i=j
   ·subst ci;exact ⟨rfl,Int.le_refl _⟩
   ·exact ⟨by have:=(h.c i i h1 (by walk_at "o") (by walk_at "o")).1;walk_at "o",g i (by walk_at "o") (by walk_at "o")⟩
theorem Fal.srt {xs:Array Keyed}{lo hi:Nat}(h:Fal rk xs lo hi)(hs:hi<=xs.size):Srt rk (mirror xs lo hi ((hi - lo) / 2)) lo hi:=fun i j h1 h2 h3=>by
 rw [ql hs,ql hs,if_pos ⟨h1,by walk_at "o"⟩,if_pos ⟨by walk_at "o",h3⟩]
 exact h _ _ (by walk_at "o") (by walk_at "o") (by walk_at "o")
theorem Ag {st:SortSt}{lo nrem:Nat}{Q:Option Nat->SortSt->Prop}(h0:Je a₀)(hB:SoB a₀ st)(hn:lo+nrem<=a₀.size)(h1:1<=nrem)(ha:Asc rk (arrOf st) lo)
  (h:∀ m xs,1<=m->m<=nrem->Sg (arrOf st) xs lo (lo+m)->Srt rk xs lo (lo+m)->Q (some m) (setArr st xs)):wpS (model prog w) A E s (countRun' lo nrem) Q st:=by
 rw [countRun'_eq]
 have sz:=hB.size
 have asc:∀ {F:Nat->Option (Option Nat) × Nat->StateT SortSt Sem (ForInStep (Option (Option Nat) × Nat))} (xs:Array Keyed) (n:Nat),Sg (arrOf st) xs lo (lo+n) ->
   (∀ t n (R:_->SortSt->Prop),1<=n->n<nrem->R (if kn (gK xs (lo+n))<kn (gK xs (lo+n - 1)) then ForInStep.done (none,n) else ForInStep.yield (none,n+1)) (setArr st xs)->wpS (model prog w) A E s (F t (none,n)) R (setArr st xs)) ->
   Srt rk xs lo (lo+n)->1<=n->n<=nrem->wpS (model prog w) A E s (forIn [n:nrem] (none,n) F) (fun c st'=>st'=setArr st xs/\∃ m,c=(none,m)/\n<=m/\m<=nrem/\Srt rk xs lo (lo+m)/\(m=nrem \/ kn (gK xs (lo+m))<kn (gK xs (lo+m - 1)))) (setArr st xs):=fun xs n g hF hs hn1 hn2=>by
  refine wpS_forRange (I:=fun t c st'=>st'=setArr st xs/\c=(none,t)/\Srt rk xs lo (lo+t)) ?_ ?_ ⟨rfl,rfl,hs⟩
  ·rintro t c st' h1 h2 ⟨rfl,rfl,hs⟩
   refine hF _ _ _ (by walk_at "o") h2 ?_
   by_cases c:kn (gK xs (lo+t))<kn (gK xs (lo+t - 1))
   ·rw [if_pos c];exact ⟨rfl,t,rfl,h1,by walk_at "o",hs,.inr c⟩
   ·rw [if_neg c]
    refine ⟨rfl,rfl,?_⟩
    exact hs.more (by walk_at "o") (LEr.of (by walk_at "o") ((g.mono (Nat.le_refl _) (show lo+n<=lo+t by walk_at "o")).rkk ha (by walk_at "o") (by walk_at "o") (Nat.le_refl _) (by walk_at "o")))
  ·rintro c st' ⟨rfl,rfl,hs⟩
   rw [show max n nrem=nrem by walk_at "o"] at hs ⊢
   exact ⟨rfl,_,rfl,hn2,Nat.le_refl _,hs,.inl rfl⟩
 have cmp:∀ {xs:Array Keyed} {m i j:Nat} (R:Option Bool->SortSt->Prop),Sg (arrOf st) xs lo m->i<a₀.size->j<a₀.size->R (some (decide (kn (gK xs i)<kn (gK xs j)))) (setArr st xs)->wpS (model prog w) A E s (ltAt' i j) R (setArr st xs):=fun R g hi hj r=>KQ (hB.set g.perm) h0 hi hj r
 refine wpS_bind (wpS_mono (asc (arrOf st) 1 (Sg.refl _ _ _) (fun t n R hn1 hn2 r=>?_) Srt.one (by walk_at "o") h1) ?_)
 ·dsimp only
  refine wpS_bind (cmp _ (Sg.refl _ lo lo) (by walk_at "o") (by walk_at "o") ?_)
  by_cases c:kn (gK (arrOf st) (lo+n))<kn (gK (arrOf st) (lo+n - 1))
  ·rw [if_pos c] at r;rw [decide_eq_true c];exact wpS_pure r
  ·rw [if_neg c] at r;rw [decide_eq_false c];exact wpS_pure r
 rintro c st' ⟨rfl,n,rfl,hn1,hn2,hs,hc⟩
 dsimp only
 by_cases c1:(n == nrem)=true
 ·rw [if_pos c1]
  exact wpS_pure (h n (arrOf st) hn1 hn2 (Sg.refl _ _ _) hs)
 rw [if_neg c1]
 have c1:¬ n=nrem:=fun z=>c1 (beq_iff_eq.mpr z)
 have hc:kn (gK (arrOf st) (lo+n))<kn (gK (arrOf st) (lo+n - 1)):=hc.resolve_left c1
 have key:∀ xs,Sg (arrOf st) xs lo (lo+n)->Fal rk xs lo (lo+n)->kn (gK xs (lo+n))<kn (gK xs (lo+n - 1))->Dsc rk xs lo (lo+n) (lo+n+1):=fun xs g f z=>f.next (by walk_at "o") z
 refine qp (fun c2=>?_) fun c2=>?_
 ·refine wpS_bind (cmp _ (Sg.refl _ lo lo) (by walk_at "o") (by walk_at "o") ?_)
  by_cases c3:kn (gK (arrOf st) lo)<kn (gK (arrOf st) (lo+n - 1))
  ·rw [decide_eq_true c3]
   exact wpS_pure (h n (arrOf st) hn1 hn2 (Sg.refl _ _ _) hs)
  rw [decide_eq_false c3]
  dsimp only
  rw [if_neg (by decide)]
  refine wpS_bind (wpS_reverse ?_)
  have hz:lo+n<=(arrOf st).size:=by walk_at "o"
  have g1:Sg (arrOf st) (mirror (arrOf st) lo (lo+n) ((lo+n - lo) / 2)) lo (lo+n):=qE hz
  have ek:∀ i,lo<=i->i<lo+n->kn (gK (arrOf st) i)=kn (gK (arrOf st) lo):=fun i a1 a2=>by
   have z1:=(hs lo i (Nat.le_refl _) a1 a2).kn
   have z2:=(hs i (lo+n - 1) a1 (by walk_at "o") (by walk_at "o")).kn
   walk_at "o"
  have f1:Fal rk (mirror (arrOf st) lo (lo+n) ((lo+n - lo) / 2)) lo (lo+n):=fun i j a1 a2 a3=>by
   rw [ql hz,ql hz,if_pos (by walk_at "o"),if_pos (by walk_at "o")]
   have z1:=ek (lo+(lo+n) - 1 - i) (by walk_at "o") (by walk_at "o")
   have z2:=ek (lo+(lo+n) - 1 - j) (by walk_at "o") (by walk_at "o")
   exact LEr.of (by walk_at "o") (ha _ _ (by walk_at "o") (by walk_at "o") (by walk_at "o"))
  have d1:=key _ g1 f1 (by
   rw [ql hz,ql hz,if_neg (by walk_at "o"),if_pos ⟨by walk_at "o",by walk_at "o"⟩]
   have z1:=ek (lo+(lo+n) - 1 - (lo+n - 1)) (by walk_at "o") (by walk_at "o")
   have z2:=ek (lo+n - 1) (by walk_at "o") (by walk_at "o")
   walk_at "o")
  have g1:=g1.mono (Nat.le_refl lo) (Nat.le_succ (lo+n))
  show wpS _ _ _ _ _ _ (setArr st (mirror (arrOf st) lo (lo+n) ((lo+n - lo) / 2)))
  generalize mirror (arrOf st) lo (lo+n) ((lo+n - lo) / 2)=xs at *
  refine wpS_bind (ky ?_)
  refine wpS_bind (wpS_mono (wpS_forRange (I:=fun t c st'=>∃ xs T q,c=(none,t,q)/\st'=setArr st xs/\Sg (arrOf st) xs lo (lo+t)/\T+q+1=lo+t/\Dsc rk xs lo T (lo+t)) (Q:=fun c st'=>∃ xs T q t,c=(none,t,q)/\1<=t/\t<=nrem/\st'=setArr st xs/\Sg (arrOf st) xs lo (lo+t)/\T+q+1=lo+t/\Dsc rk xs lo T (lo+t)) ?_ ?_ ⟨xs,lo+n,0,rfl,rfl,g1,by walk_at "o",d1⟩) ?_)
  ·rintro t c st' h1 h2 ⟨xs,T,q,rfl,rfl,g,hq,d⟩
   have hz:lo+t<=xs.size:=by rw [g.size,sz];walk_at "o"
   have dl:=d.l
   dsimp only
   refine wpS_bind (cmp _ g (by walk_at "o") (by walk_at "o") ?_)
   by_cases c3:kn (gK xs (lo+t))<kn (gK xs (lo+t - 1))
   ·rw [decide_eq_true c3]
    dsimp only
    rw [if_pos rfl]
    refine qp (fun c4=>?_) fun c4=>?_
    ·refine wpS_bind (wpS_reverse (wpS_pure ?_))
     rw [show lo+t - (q+1)=T by walk_at "o"]
     exact ⟨mirror xs T (lo+t) ((lo+t - T) / 2),lo+t,0,rfl,rfl,(g.trans ((qE hz).mono d.l (Nat.le_refl _))).mono (Nat.le_refl _) (by walk_at "o"),by walk_at "o",(d.fall hz).next (by walk_at "o") (by rw [d.last hz,ql hz,if_neg (by walk_at "o")];exact c3)⟩
    ·exact wpS_pure ⟨xs,lo+t,0,rfl,rfl,g.mono (Nat.le_refl _) (by walk_at "o"),by walk_at "o",(d.fall0 (by walk_at "o")).next (by walk_at "o") c3⟩
   ·rw [decide_eq_false c3]
    dsimp only
    rw [if_neg (by decide)]
    refine wpS_bind (cmp _ g (by walk_at "o") (by walk_at "o") ?_)
    by_cases c4:kn (gK xs (lo+t - 1))<kn (gK xs (lo+t))
    ·rw [decide_eq_true c4];exact wpS_pure ⟨xs,T,q,t,rfl,by walk_at "o",by walk_at "o",rfl,g,hq,d⟩
    ·rw [decide_eq_false c4];exact wpS_pure ⟨xs,T,q+1,rfl,rfl,g.mono (Nat.le_refl _) (by walk_at "o"),by walk_at "o",d.like (by walk_at "o") fun i a1 a2=>g.rkk ha a1 a2 (Nat.le_refl _) (by walk_at "o")⟩
  ·rintro c st' ⟨xs,T,q,rfl,rfl,g,hq,d⟩
   rw [show max (n+1) nrem=nrem by walk_at "o"] at *
   exact ⟨xs,T,q,nrem,rfl,by walk_at "o",Nat.le_refl _,rfl,g,hq,d⟩
  rintro c st' ⟨xs,T,q,t,rfl,t1,t2,rfl,g,hq,d⟩
  have hz:lo+t<=xs.size:=by rw [g.size,sz];walk_at "o"
  have dl:=d.l
  dsimp only
  refine qp (fun c4=>wpS_bind (wpS_reverse ?_)) fun c4=>?_
  ·rw [show lo+t - (q+1)=T by walk_at "o"]
   have g2:=g.trans ((qE hz).mono d.l (Nat.le_refl _))
   have f2:=d.fall hz
   show wpS _ _ _ _ _ _ (setArr st (mirror xs T (lo+t) ((lo+t - T) / 2)))
   generalize mirror xs T (lo+t) ((lo+t - T) / 2)=ys at *
   refine wpS_bind (wpS_reverse ?_)
   have hz2:lo+t<=ys.size:=by rw [g2.size,sz];walk_at "o"
   have g3:=g2.trans (qE hz2)
   have s3:=f2.srt hz2
   refine wpS_bind (wpS_mono (asc (mirror ys lo (lo+t) ((lo+t - lo) / 2)) t g3 (fun u n R hn1 hn2 r=>?_) s3 t1 t2) ?_)
   ·dsimp only
    refine wpS_bind (cmp _ g3 (by walk_at "o") (by walk_at "o") ?_)
    by_cases c:kn (gK (mirror ys lo (lo+t) ((lo+t - lo) / 2)) (lo+n))<kn (gK (mirror ys lo (lo+t) ((lo+t - lo) / 2)) (lo+n - 1))
    ·rw [if_pos c] at r;rw [decide_eq_true c];exact wpS_pure r
    ·rw [if_neg c] at r;rw [decide_eq_false c];exact wpS_pure r
   rintro c st' ⟨rfl,m,rfl,m1,m2,s4,_⟩
   exact wpS_pure (h m _ (by walk_at "o") m2 (g3.mono (Nat.le_refl _) (by walk_at "o")) s4)
  ·have f2:=d.fall0 (by walk_at "o")
   have g2:=g
   generalize xs=ys at *
   refine wpS_bind (wpS_reverse ?_)
   have hz2:lo+t<=ys.size:=by rw [g2.size,sz];walk_at "o"
   have g3:=g2.trans (qE hz2)
   have s3:=f2.srt hz2
   refine wpS_bind (wpS_mono (asc (mirror ys lo (lo+t) ((lo+t - lo) / 2)) t g3 (fun u n R hn1 hn2 r=>?_) s3 t1 t2) ?_)
   ·dsimp only
    refine wpS_bind (cmp _ g3 (by walk_at "o") (by walk_at "o") ?_)
    by_cases c:kn (gK (mirror ys lo (lo+t) ((lo+t - lo) / 2)) (lo+n))<kn (gK (mirror ys lo (lo+t) ((lo+t - lo) / 2)) (lo+n - 1))
    ·rw [if_pos c] at r;rw [decide_eq_true c];exact wpS_pure r
    ·rw [if_neg c] at r;rw [decide_eq_false c];exact wpS_pure r
   rintro c st' ⟨rfl,m,rfl,m1,m2,s4,_⟩
   exact wpS_pure (h m _ (by walk_at "o") m2 (g3.mono (Nat.le_refl _) (by walk_at "o")) s4)
 ·have e1:n=1:=by walk_at "o"
  subst e1
  have d1:Dsc rk (arrOf st) lo (lo+1) (lo+1+1):=by
   refine key _ (Sg.refl _ _ _) (fun i j a1 a2 a3=>?_) hc
   have:i=j:=by walk_at "o"
   subst this;exact LEr.refl
  have g1:Sg (arrOf st) (arrOf st) lo (lo+1+1):=Sg.refl _ _ _
  refine wpS_bind (ky ?_)
  refine wpS_bind (wpS_mono (wpS_forRange (I:=fun t c st'=>∃ xs T q,c=(none,t,q)/\st'=setArr st xs/\Sg (arrOf st) xs lo (lo+t)/\T+q+1=lo+t/\Dsc rk xs lo T (lo+t)) (Q:=fun c st'=>∃ xs T q t,c=(none,t,q)/\1<=t/\t<=nrem/\st'=setArr st xs/\Sg (arrOf st) xs lo (lo+t)/\T+q+1=lo+t/\Dsc rk xs lo T (lo+t)) ?_ ?_ ⟨arrOf st,lo+1,0,rfl,rfl,g1,by walk_at "o",d1⟩) ?_)
  ·rintro t c st' h1 h2 ⟨xs,T,q,rfl,rfl,g,hq,d⟩
   have hz:lo+t<=xs.size:=by rw [g.size,sz];walk_at "o"
   have dl:=d.l
   dsimp only
   refine wpS_bind (cmp _ g (by walk_at "o") (by walk_at "o") ?_)
   by_cases c3:kn (gK xs (lo+t))<kn (gK xs (lo+t - 1))
   ·rw [decide_eq_true c3]
    dsimp only
    rw [if_pos rfl]
    refine qp (fun c4=>?_) fun c4=>?_
    ·refine wpS_bind (wpS_reverse (wpS_pure ?_))
     rw [show lo+t - (q+1)=T by walk_at "o"]
     exact ⟨mirror xs T (lo+t) ((lo+t - T) / 2),lo+t,0,rfl,rfl,(g.trans ((qE hz).mono d.l (Nat.le_refl _))).mono (Nat.le_refl _) (by walk_at "o"),by walk_at "o",(d.fall hz).next (by walk_at "o") (by rw [d.last hz,ql hz,if_neg (by walk_at "o")];exact c3)⟩
    ·exact wpS_pure ⟨xs,lo+t,0,rfl,rfl,g.mono (Nat.le_refl _) (by walk_at "o"),by walk_at "o",(d.fall0 (by walk_at "o")).next (by walk_at "o") c3⟩
   ·rw [decide_eq_false c3]
    dsimp only
    rw [if_neg (by decide)]
    refine wpS_bind (cmp _ g (by walk_at "o") (by walk_at "o") ?_)
    by_cases c4:kn (gK xs (lo+t - 1))<kn (gK xs (lo+t))
    ·rw [decide_eq_true c4];exact wpS_pure ⟨xs,T,q,t,rfl,by walk_at "o",by walk_at "o",rfl,g,hq,d⟩
    ·rw [decide_eq_false c4];exact wpS_pure ⟨xs,T,q+1,rfl,rfl,g.mono (Nat.le_refl _) (by walk_at "o"),by walk_at "o",d.like (by walk_at "o") fun i a1 a2=>g.rkk ha a1 a2 (Nat.le_refl _) (by walk_at "o")⟩
  ·rintro c st' ⟨xs,T,q,rfl,rfl,g,hq,d⟩
   rw [show max (1+1) nrem=nrem by walk_at "o"] at *
   exact ⟨xs,T,q,nrem,rfl,by walk_at "o",Nat.le_refl _,rfl,g,hq,d⟩
  rintro c st' ⟨xs,T,q,t,rfl,t1,t2,rfl,g,hq,d⟩
  have hz:lo+t<=xs.size:=by rw [g.size,sz];walk_at "o"
  have dl:=d.l
  dsimp only
  refine qp (fun c4=>wpS_bind (wpS_reverse ?_)) fun c4=>?_
  ·rw [show lo+t - (q+1)=T by walk_at "o"]
   have g2:=g.trans ((qE hz).mono d.l (Nat.le_refl _))
   have f2:=d.fall hz
   show wpS _ _ _ _ _ _ (setArr st (mirror xs T (lo+t) ((lo+t - T) / 2)))
   generalize mirror xs T (lo+t) ((lo+t - T) / 2)=ys at *
   refine wpS_bind (wpS_reverse ?_)
   have hz2:lo+t<=ys.size:=by rw [g2.size,sz];walk_at "o"
   have g3:=g2.trans (qE hz2)
   have s3:=f2.srt hz2
   refine wpS_bind (wpS_mono (asc (mirror ys lo (lo+t) ((lo+t - lo) / 2)) t g3 (fun u n R hn1 hn2 r=>?_) s3 t1 t2) ?_)
   ·dsimp only
    refine wpS_bind (cmp _ g3 (by walk_at "o") (by walk_at "o") ?_)
    by_cases c:kn (gK (mirror ys lo (lo+t) ((lo+t - lo) / 2)) (lo+n))<kn (gK (mirror ys lo (lo+t) ((lo+t - lo) / 2)) (lo+n - 1))
    ·rw [if_pos c] at r;rw [decide_eq_true c];exact wpS_pure r
    ·rw [if_neg c] at r;rw [decide_eq_false c];exact wpS_pure r
   rintro c st' ⟨rfl,m,rfl,m1,m2,s4,_⟩
   exact wpS_pure (h m _ (by walk_at "o") m2 (g3.mono (Nat.le_refl _) (by walk_at "o")) s4)
  ·have f2:=d.fall0 (by walk_at "o")
   have g2:=g
   generalize xs=ys at *
   refine wpS_bind (wpS_reverse ?_)
   have hz2:lo+t<=ys.size:=by rw [g2.size,sz];walk_at "o"
   have g3:=g2.trans (qE hz2)
   have s3:=f2.srt hz2
   refine wpS_bind (wpS_mono (asc (mirror ys lo (lo+t) ((lo+t - lo) / 2)) t g3 (fun u n R hn1 hn2 r=>?_) s3 t1 t2) ?_)
   ·dsimp only
    refine wpS_bind (cmp _ g3 (by walk_at "o") (by walk_at "o") ?_)
    by_cases c:kn (gK (mirror ys lo (lo+t) ((lo+t - lo) / 2)) (lo+n))<kn (gK (mirror ys lo (lo+t) ((lo+t - lo) / 2)) (lo+n - 1))
    ·rw [if_pos c] at r;rw [decide_eq_true c];exact wpS_pure r
    ·rw [if_neg c] at r;rw [decide_eq_false c];exact wpS_pure r
   rintro c st' ⟨rfl,m,rfl,m1,m2,s4,_⟩
   exact wpS_pure (h m _ (by walk_at "o") m2 (g3.mono (Nat.le_refl _) (by walk_at "o")) s4)
end
end L2
namespace L2
open PySem PyProof.Rows
local macro_rules | `(tactic| walk_at "unMa")=>do
 let n:=Lean.mkIdent (Lean.mkPrivateNameCore `PySem.Builtin.List.W1All `PySem.Builtin.mergeAt)
 `(tactic| unfold $n)
theorem QR {f:Array Keyed->Keyed × Nat->Array Keyed}{b:Nat}(hf:∀ a p j,f a (p,j)=a.setIfInBounds (b+j) p):∀ (l:List Keyed) (n:Nat) (xs:Array Keyed) (U V W:List Keyed),xs.toList=U ++ (V ++ W)->U.length=b+n->V.length=l.length->((l.zipIdx n).foldl f xs).toList=U ++ (l ++ W)
 | [],n,xs,U,V,W,e,h1,h2=>by
  have:V=[]:=List.length_eq_zero_iff.mp h2
  subst this
  exact e
 | p :: l,n,xs,U,v :: V,W,e,h1,h2=>by
  rw [List.zipIdx_cons,List.foldl_cons,hf]
  have:=QR hf l (n+1) (xs.setIfInBounds (b+n) p) (U ++ [p]) V W (by
   rw [Array.toList_setIfInBounds,e,<- h1,List.set_append_right _ _ (Nat.le_refl _),Nat.sub_self,List.cons_append,List.set_cons_zero,List.append_assoc];rfl) (by rw [List.length_append,List.length_singleton];walk_at "o") (by simpa using h2)
  rw [this,List.append_assoc];rfl
section
variable {prog:Program}{w:World}{A:Around}{E:Value->Shared->Prop}{s:Shared}{rk:Keyed->Int}
theorem DF {st st':SortSt}{Q:PUnit->SortSt->Prop}(h:Q ⟨⟩ st'):wpS (model prog w) A E s (set st':StateT SortSt Sem PUnit) Q st:=by
 unfold wpS
 show wpAny _ _ ((set st':StateT SortSt Sem PUnit).run st) _ _ _
 rw [StateT.run_set]
 exact wpAny_pure ⟨rfl,h⟩
theorem jn.join {X Y m:List Keyed}{k j:Nat}(T:kf rk X Y)(hm:jn rk (X.drop k) (Y.take j) m)(h1:∀ x ∈ X.take k,∀ y ∈ Y,kn x<=kn y)(h2:∀ y ∈ Y.drop j,∀ x ∈ X,kn x<=kn y):jn rk X Y (X.take k ++ (m ++ Y.drop j)):=by
 refine ⟨?_,?_⟩
 ·refine (List.Perm.append_left _ (hm.1.append_right _)).trans ?_
  rw [List.append_assoc,List.take_append_drop,<- List.append_assoc,List.take_append_drop]
 ·have mm:∀ x ∈ m,x ∈ X.drop k \/ x ∈ Y.take j:=fun x hx=>List.mem_append.mp (hm.1.mem_iff.mp hx)
  have pX:∀ x ∈ X.take k,∀ y ∈ X.drop k,LEr rk x y:=by
   have:=T.px
   rw [<- List.take_append_drop k X] at this
   exact (List.pairwise_append.mp this).2.2
  have pY:∀ x ∈ Y.take j,∀ y ∈ Y.drop j,LEr rk x y:=by
   have:=T.py
   rw [<- List.take_append_drop j Y] at this
   exact (List.pairwise_append.mp this).2.2
  refine List.pairwise_append.mpr ⟨T.px.sublist (List.take_sublist _ _),List.pairwise_append.mpr ⟨hm.2,T.py.sublist (List.drop_sublist _ _),fun x hx y hy=>?_⟩,fun x hx y hy=>?_⟩
  ·rcases mm x hx with hx | hx
   ·exact LEr.of (h2 y hy x (List.mem_of_mem_drop hx)) (T.bel _ (List.mem_of_mem_drop hx) _ (List.mem_of_mem_drop hy))
   ·exact pY x hx y hy
  ·have bl:∀ y ∈ Y,LEr rk x y:=fun y hy=>LEr.of (h1 x hx y hy) (T.bel _ (List.mem_of_mem_take hx) _ hy)
   rcases List.mem_append.mp hy with hy | hy
   ·rcases mm y hy with hy | hy
    ·exact pX x hx y hy
    ·exact bl y (List.mem_of_mem_take hy)
   ·exact bl y (List.mem_of_mem_drop hy)
theorem Jm {st:SortSt}{i:Nat}{Q:Bool->SortSt->Prop}{P X Y R:List Keyed}{pw pw':Nat}(hk:kindOf st=oneType')(hf:failedOf st=none)(hI:∀ p ∈ (arrOf st).toList,IsI p)(e:(arrOf st).toList=P ++ (X ++ (Y ++ R)))(T:kf rk X Y)(hx:0<X.length)(hy:0<Y.length)
  (p1:(pendingOf st)[i]?=some (P.length,X.length,pw)) (p2:(pendingOf st)[i+1]?=some (P.length+X.length,Y.length,pw'))
  (h:∀ m g xs,jn rk X Y m->xs.toList=P ++ (m ++ R)->Q true (SortSt.mk' (kindOf st) xs (((pendingOf st).setIfInBounds i (P.length,X.length+Y.length,pw)).eraseIdxIfInBounds (i+1)) g (failedOf st))):wpS (model prog w) A E s (mergeAt' i) Q st:=by
 unfold mergeAt'
 walk_at "unMa"
 have sz:(arrOf st).size=P.length+(X.length+(Y.length+R.length)):=by rw [<- Array.length_toList,e,List.length_append,List.length_append,List.length_append]
 have gx:∀ j,j<X.length->(arrOf st).toList[P.length+j]?=X[j]?:=fun j hj=>by
  rw [e,List.getElem?_append_right (by walk_at "o"),Nat.add_sub_cancel_left,List.getElem?_append_left hj]
 have gy:∀ j,j<Y.length->(arrOf st).toList[P.length+X.length+j]?=Y[j]?:=fun j hj=>by
  rw [e,List.getElem?_append_right (by walk_at "o"),List.getElem?_append_right (by walk_at "o"),List.getElem?_append_left (by walk_at "o")];congr 1;walk_at "o"
 have dX:∀ k,k<=X.length->((arrOf st).toList.drop (P.length+k)).take (X.length - k)=X.drop k:=fun k hk=>by
  rw [e,<- List.drop_drop,List.drop_left,List.drop_append_of_le_length hk,List.take_append_of_le_length (by rw [List.length_drop];walk_at "o"),List.take_of_length_le (by rw [List.length_drop];walk_at "o")]
 have dY:∀ k,k<=Y.length->((arrOf st).toList.drop (P.length+X.length)).take k=Y.take k:=fun k hk=>by
  rw [e,<- List.drop_drop,List.drop_left,List.drop_left,List.take_append_of_le_length hk]
 have ax:∀ {j x},(arrOf st).toList[j]?=some x->(arrOf st)[j]?=some x:=fun z=>by rw [<- Array.getElem?_toList];exact z
 obtain ⟨y0,hy0⟩:∃ y,Y[0]?=some y:=⟨_,List.getElem?_eq_getElem hy⟩
 obtain ⟨x9,hx9⟩:∃ x,X[X.length - 1]?=some x:=⟨_,List.getElem?_eq_getElem (by walk_at "o")⟩
 have my:=List.mem_of_getElem? hy0
 have mx:=List.mem_of_getElem? hx9
 have y0le:∀ y ∈ Y,kn y0<=kn y:=fun y hy=>(xA T.py hy0 y (by rw [List.drop_zero];exact hy)).kn
 have x9le:∀ x ∈ X,kn x<=kn x9:=fun x hx'=>(kU T.px hx9 x (by rw [show X.length - 1+1=X.length by walk_at "o",List.take_length];exact hx')).kn
 refine wpS_bind (wpS_get ?_)
 rw [p1,p2]
 refine wpS_bind (DF ?_)
 refine wpS_bind (zP (ax (by rw [show P.length+X.length=P.length+X.length+0 by walk_at "o",gy 0 hy];exact hy0)) ?_)
 refine wpS_bind (yu (rk:=rk) (xs:=arrOf st) hk (T.iy _ my) (by have:=dX 0 (by walk_at "o");rw [Nat.add_zero,Nat.sub_zero,List.drop_zero] at this;rw [this];exact T.px) hI (by walk_at "o") hx fun k k1 k2 k3=>?_)
 dsimp only
 have k2:∀ x ∈ X.take k,kn x<=kn y0:=fun x hx'=>by
  obtain ⟨j,hj⟩:=List.getElem?_of_mem hx'
  have hjk:j<k:=by have:=(List.getElem?_eq_some_iff.mp hj).1;rw [List.length_take] at this;walk_at "o"
  obtain ⟨x',e1,e2⟩:=k2 j hjk
  rw [gx j (by walk_at "o")] at e1
  rw [List.getElem?_take_of_lt hjk,e1] at hj
  cases hj
  exact Vt e2
 have k2':∀ x ∈ X.take k,∀ y ∈ Y,kn x<=kn y:=fun x hx' y hy'=>Int.le_trans (k2 x hx') (y0le y hy')
 by_cases c1:(X.length - k == 0)=true
 ·rw [if_pos c1]
  have c1:k=X.length:=by have:=beq_iff_eq.mp c1;walk_at "o"
  subst c1
  rw [List.take_length] at k2'
  refine wpS_pure (h (X ++ Y) (gallopOf st) (arrOf st) ⟨List.Perm.refl _,List.pairwise_append.mpr ⟨T.px,T.py,fun x hx' y hy'=>LEr.of (k2' x hx' y hy') (T.bel x hx' y hy')⟩⟩ (by rw [e,List.append_assoc]))
 rw [if_neg c1]
 have c1:k<X.length:=by
  have:¬ X.length - k=0:=fun z=>c1 (beq_iff_eq.mpr z)
  walk_at "o"
 obtain ⟨xk,hxk⟩:∃ x,X[k]?=some x:=⟨_,List.getElem?_eq_getElem c1⟩
 have k3':kn y0<kn xk:=by
  obtain ⟨x',e1,e2⟩:=k3 k (Nat.le_refl _) c1
  rw [gx k c1,hxk] at e1
  cases e1
  exact JN e2
 have k4:∀ x ∈ X.drop k,kn y0<kn x:=fun x hx'=>by have:=(xA T.px hxk x hx').kn;walk_at "o"
 refine wpS_bind (zP (ax (by rw [show P.length+k+(X.length - k) - 1=P.length+(X.length - 1) by walk_at "o",gx _ (by walk_at "o")];exact hx9)) ?_)
 refine wpS_bind (yu (rk:=rk) (xs:=arrOf st) hk (T.ix _ mx) (by rw [dY _ (Nat.le_refl _),List.take_length];exact T.py) hI (by walk_at "o") (by walk_at "o") fun j j1 j2 j3=>?_)
 dsimp only
 have j2:∀ y ∈ Y.take j,kn y<kn x9:=fun y hy'=>by
  obtain ⟨n,hn⟩:=List.getElem?_of_mem hy'
  have hnj:n<j:=by have:=(List.getElem?_eq_some_iff.mp hn).1;rw [List.length_take] at this;walk_at "o"
  obtain ⟨y',e1,e2⟩:=j2 n hnj
  rw [gy n (by walk_at "o")] at e1
  rw [List.getElem?_take_of_lt hnj,e1] at hn
  cases hn
  exact WE e2
 have j3:∀ y ∈ Y.drop j,∀ x ∈ X,kn x<=kn y:=fun y hy' x hx'=>by
  obtain ⟨n,hn⟩:=List.getElem?_of_mem hy'
  rw [List.getElem?_drop] at hn
  have hl:=(List.getElem?_eq_some_iff.mp hn).1
  obtain ⟨y',e1,e2⟩:=j3 (j+n) (by walk_at "o") hl
  rw [gy _ hl,hn] at e1
  cases e1
  exact Int.le_trans (x9le x hx') (Jg e2)
 have c2:j ≠ 0:=fun z=>by
  subst z
  have:=j3 y0 (by rw [List.drop_zero];exact my) xk (List.mem_of_getElem? hxk)
  walk_at "o"
 rw [if_neg (by simpa using c2)]
 have ex:((arrOf st).extract (P.length+k) (P.length+X.length)).toList=X.drop k:=by
  rw [Array.toList_extract,List.extract_eq_take_drop,show P.length+X.length - (P.length+k)=X.length - k by walk_at "o",dX k k1]
 have ey:((arrOf st).extract (P.length+X.length) (P.length+X.length+j)).toList=Y.take j:=by
  rw [ZS,dY j j1]
 have T':kf rk (X.drop k) (Y.take j):=⟨T.px.sublist (List.drop_sublist _ _),T.py.sublist (List.take_sublist _ _),fun x hx' y hy'=>T.bel x (List.mem_of_mem_drop hx') y (List.mem_of_mem_take hy'),fun x hx'=>T.ix x (List.mem_of_mem_drop hx'),fun y hy'=>T.iy y (List.mem_of_mem_take hy')⟩
 have l9:(X.drop k)[X.length - k - 1]?=some x9:=by rw [List.getElem?_drop,<- hx9];congr 1;walk_at "o"
 have t0:(Y.take j)[0]?=some y0:=by rw [List.getElem?_take_of_lt (by walk_at "o"),hy0]
 have z1:((arrOf st).extract (P.length+k) (P.length+X.length)).size=X.length - k:=by rw [<- Array.length_toList,ex,List.length_drop]
 have z2:((arrOf st).extract (P.length+X.length) (P.length+X.length+j)).size=j:=by rw [<- Array.length_toList,ey,List.length_take];walk_at "o"
 have fin:∀ {f:Array Keyed->Keyed × Nat->Array Keyed} (m:Array Keyed) (g:Nat),(∀ a p q,f a (p,q)=a.setIfInBounds (P.length+k+q) p)->jn rk (X.drop k) (Y.take j) m.toList->Q true (SortSt.mk' (kindOf st) (m.toList.zipIdx.foldl f (arrOf st)) (((pendingOf st).setIfInBounds i (P.length,X.length+Y.length,pw)).eraseIdxIfInBounds (i+1)) g (failedOf st)):=fun {f} m g hff hm=>by
  refine h _ g _ (jn.join T hm k2' j3) ?_
  rw [QR hff m.toList 0 (arrOf st) (P ++ X.take k) (X.drop k ++ Y.take j) (Y.drop j ++ R) ?_ ?_ hm.1.length_eq.symm]
  ·simp only [List.append_assoc]
  ·rw [e,List.append_assoc,List.append_assoc,<- List.append_assoc (Y.take j),List.take_append_drop,<- List.append_assoc (X.take k),List.take_append_drop]
  ·rw [List.length_append,List.length_take];walk_at "o"
 refine qp (fun _=>?_) fun _=>?_
 ·refine wpS_bind (Ji (rk:=rk) (xs:=(arrOf st).extract (P.length+k) (P.length+X.length)) (ys:=(arrOf st).extract (P.length+X.length) (P.length+X.length+j)) hk (by rw [ex,ey];exact T') (by rw [z1];walk_at "o") (by rw [z2];walk_at "o") (by rw [ex,ey];intro x y a1 a2;rw [t0] at a2;cases a2;exact k4 x (List.mem_of_getElem? a1)) (by rw [ex,ey,z1];intro x a1;rw [l9] at a1;cases a1;exact j2) fun m g hm=>?_)
  rw [ex,ey] at hm
  refine wpS_bind (wpS_modify (wpS_bind (wpS_get ?_)))
  show wpS _ _ _ _ (pure (failedOf st).isNone) _ _
  rw [show (failedOf st).isNone=true by rw [hf];rfl]
  exact wpS_pure (fin m g (fun _ _ _=>rfl) hm)
 ·refine wpS_bind (JL (rk:=rk) (xs:=(arrOf st).extract (P.length+k) (P.length+X.length)) (ys:=(arrOf st).extract (P.length+X.length) (P.length+X.length+j)) hk (by rw [ex,ey];exact T') (by rw [z1];walk_at "o") (by rw [z2];walk_at "o") (by rw [ex,ey];intro y a2;rw [t0] at a2;cases a2;exact k4) (by rw [ex,ey,z1];intro x a1;rw [l9] at a1;cases a1;exact j2) fun m g hm=>?_)
  rw [ex,ey] at hm
  refine wpS_bind (wpS_modify (wpS_bind (wpS_get ?_)))
  show wpS _ _ _ _ (pure (failedOf st).isNone) _ _
  rw [show (failedOf st).isNone=true by rw [hf];rfl]
  exact wpS_pure (fin m g (fun _ _ _=>rfl) hm)
end
end L2
namespace L2
open PySem PyProof.Rows
noncomputable def Pnd:Nat->List (Nat × Nat × Nat)->List (List Keyed)->Prop
 | _,[],[]=>True
 | o,p :: ps,r :: rs=>p.1=o/\p.2.1=r.length/\Pnd (o+r.length) ps rs
 | _,_,_=>False
theorem Pnd.len:∀ {o ps rs},Pnd o ps rs->ps.length=rs.length
 | _,[],[],_=>rfl
 | _,_ :: ps,_ :: rs,h=>congrArg (·+1) (Pnd.len h.2.2)
 | _,[],_ :: _,h=>h.elim
 | _,_ :: _,[],h=>h.elim
theorem Pnd.snoc:∀ {o ps rs} {r:List Keyed} {pw:Nat},Pnd o ps rs->Pnd o (ps ++ [(o+rs.flatten.length,r.length,pw)]) (rs ++ [r])
 | _,[],[],_,_,_=>⟨rfl,rfl,trivial⟩
 | o,p :: ps,q :: rs,r,pw,h=>by
  refine ⟨h.1,h.2.1,?_⟩
  have:=Pnd.snoc (r:=r) (pw:=pw) h.2.2
  rw [List.flatten_cons,List.length_append,<- Nat.add_assoc];exact this
 | _,[],_ :: _,_,_,h=>h.elim
 | _,_ :: _,[],_,_,h=>h.elim
theorem Pnd.at : ∀ {o ps rs} (i : Nat) {X Y : List Keyed}, Pnd o ps rs -> rs[i]? = some X -> rs[i + 1]? = some Y -> ∃ pw pw', ps[i]? = some (o + (rs.take i).flatten.length, X.length, pw) /\ ps[i + 1]? = some (o + (rs.take i).flatten.length + X.length, Y.length, pw') /\
      ∀ Z:List Keyed,Z.length=X.length+Y.length->Pnd o ((ps.set i (o+(rs.take i).flatten.length,X.length+Y.length,pw)).eraseIdx (i+1)) (rs.take i ++ Z :: rs.drop (i+2))
  | o,p :: p' :: ps,x :: y :: rs,0,X,Y,h,hx,hy=>by
    cases hx;cases hy
    obtain ⟨h1,h2,h3,h4,h5⟩:=h
    obtain ⟨a,b,c⟩:=p
    obtain ⟨a',b',c'⟩:=p'
    simp only at h1 h2 h3 h4
    subst h1 h2 h3 h4
    refine ⟨c,c',rfl,rfl,fun Z hZ=>⟨rfl,hZ.symm,?_⟩⟩
    show Pnd (a+Z.length) ps rs
    rw [hZ,<- Nat.add_assoc];exact h5
  | o,p :: ps,x :: rs,i+1,X,Y,h,hx,hy=>by
    obtain ⟨pw,pw',e1,e2,e3⟩:=Pnd.at (o:=o+x.length) i (X:=X) (Y:=Y) h.2.2 hx hy
    have e:o+x.length+(rs.take i).flatten.length=o+((x :: rs).take (i+1)).flatten.length:=by
      rw [List.take_succ_cons,List.flatten_cons,List.length_append,Nat.add_assoc]
    rw [e] at e1 e2
    refine ⟨pw,pw',e1,e2,fun Z hZ=>?_⟩
    have:=e3 Z hZ
    rw [e] at this
    exact ⟨h.1,h.2.1,this⟩
  | _,[],[],_,_,_,_,hx,_=>by simp at hx
  | _,[],_ :: _,_,_,_,h,_,_=>h.elim
  | _,_ :: _,[],_,_,_,h,_,_=>h.elim
  | _,[_],[_],0,_,_,_,_,hy=>by simp at hy
  | _,[_],_ :: _ :: _,0,_,_,h,_,_=>h.2.2.elim
  | _,_ :: _ :: _,[_],0,_,_,h,_,_=>h.2.2.elim
theorem Pnd.mod {f:Nat × Nat × Nat->Nat × Nat × Nat}(hf:∀ p,(f p).1=p.1/\(f p).2.1=p.2.1):∀ {o ps rs} (i:Nat),Pnd o ps rs->Pnd o (ps.modify i f) rs
 | _,[],[],i,_=>by rw [List.modify_nil];trivial
 | _,p :: ps,r :: rs,0,h=>⟨(hf p).1.trans h.1,(hf p).2.trans h.2.1,h.2.2⟩
 | _,p :: ps,r :: rs,i+1,h=>⟨h.1,h.2.1,Pnd.mod hf i h.2.2⟩
 | _,[],_ :: _,_,h=>h.elim
 | _,_ :: _,[],_,h=>h.elim
section
variable {prog:Program}{w:World}{A:Around}{E:Value->Shared->Prop}{s:Shared}{a₀:Array Keyed}{rk:Keyed->Int}
structure Rns (rk:Keyed->Int)(a₀:Array Keyed)(rs:List (List Keyed))(zx:List Keyed)(st:SortSt):Prop where
 b:SoB a₀ st
 e:(arrOf st).toList=rs.flatten ++ zx
 ne:∀ r ∈ rs,0<r.length
 so:∀ r ∈ rs,r.Pairwise (LEr rk)
 bel:rs.Pairwise fun X Y=>∀ x ∈ X,∀ y ∈ Y,rk x<=rk y
 be:∀ x ∈ rs.flatten,∀ y ∈ zx,rk x<=rk y
 pn:Pnd 0 (pendingOf st).toList rs
theorem DH {rs:List (List Keyed)}{i:Nat}(h:i+1<rs.length):rs=rs.take i ++ rs[i] :: rs[i+1] :: rs.drop (i+2):=by
 rw [List.getElem_cons_drop,List.getElem_cons_drop,List.take_append_drop]
theorem Rns.merge {rs:List (List Keyed)}{zx:List Keyed}{st:SortSt}{i:Nat}{Q:Bool->SortSt->Prop}(h0:Je a₀)(J:Rns rk a₀ rs zx st)(hi:i+1<rs.length)(h:∀ rs' st',rs'.length+1=rs.length->rs'.flatten.length=rs.flatten.length->Rns rk a₀ rs' zx st'->Q true st'):wpS (model prog w) A E s (mergeAt' i) Q st:=by
 have sp:=DH hi
 have hx:rs[i]?=some rs[i]:=List.getElem?_eq_getElem _
 have hy:rs[i+1]?=some rs[i+1]:=List.getElem?_eq_getElem _
 have mx:rs[i] ∈ rs:=List.getElem_mem _
 have my:rs[i+1] ∈ rs:=List.getElem_mem _
 obtain ⟨pw,pw',p1,p2,p3⟩:=Pnd.at i J.pn hx hy
 have fl:rs.flatten=(rs.take i).flatten ++ (rs[i] ++ (rs[i+1] ++ (rs.drop (i+2)).flatten)):=by
  conv=>lhs;rw [sp]
  rw [List.flatten_append,List.flatten_cons,List.flatten_cons]
 have bl:=J.bel
 rw [sp] at bl
 obtain ⟨b1,b2,b3⟩:=List.pairwise_append.mp bl
 obtain ⟨b4,b5⟩:=List.pairwise_cons.mp b2
 obtain ⟨b6,b7⟩:=List.pairwise_cons.mp b5
 generalize rs[i]=X at *
 generalize rs[i+1]=Y at *
 refine Jm (rk:=rk) (P:=(rs.take i).flatten) (X:=X) (Y:=Y) (R:=(rs.drop (i+2)).flatten ++ zx) (pw:=pw) (pw':=pw') J.b.kind J.b.failed (J.b.ints h0) ?_ ⟨J.so _ mx,J.so _ my,b4 _ (List.mem_cons_self ..),?_,?_⟩ (J.ne _ mx) (J.ne _ my) ?_ ?_ fun m g xs hm hxs=>?_
 ·rw [J.e,fl];simp only [List.append_assoc]
 ·exact fun x hx'=>J.b.ints h0 x (by rw [J.e];exact List.mem_append_left _ (List.mem_flatten.mpr ⟨X,mx,hx'⟩))
 ·exact fun x hx'=>J.b.ints h0 x (by rw [J.e];exact List.mem_append_left _ (List.mem_flatten.mpr ⟨Y,my,hx'⟩))
 ·rw [<- Array.getElem?_toList,p1,Nat.zero_add]
 ·rw [<- Array.getElem?_toList,p2,Nat.zero_add]
 ·have ml:m.length=X.length+Y.length:=by rw [hm.1.length_eq,List.length_append]
  have mm:∀ x ∈ m,x ∈ X \/ x ∈ Y:=fun x hx'=>List.mem_append.mp (hm.1.mem_iff.mp hx')
  have fl':(rs.take i ++ m :: rs.drop (i+2)).flatten=(rs.take i).flatten ++ (m ++ (rs.drop (i+2)).flatten):=by rw [List.flatten_append,List.flatten_cons]
  have pf:(rs.take i ++ m :: rs.drop (i+2)).flatten.Perm rs.flatten:=by
   rw [fl,fl',<- List.append_assoc X]
   exact List.Perm.append_left _ (hm.1.append_right _)
  have inr:∀ r ∈ rs.take i ++ m :: rs.drop (i+2),r=m \/ r ∈ rs:=fun r hr=>by
   rcases List.mem_append.mp hr with hr | hr
   ·exact .inr (List.mem_of_mem_take hr)
   ·rcases List.mem_cons.mp hr with hr | hr
    ·exact .inl hr
    ·exact .inr (List.mem_of_mem_drop hr)
  refine h (rs.take i ++ m :: rs.drop (i+2)) _ ?_ pf.length_eq ⟨⟨?_,J.b.kind,J.b.failed⟩,?_,fun r hr=>?_,fun r hr=>?_,?_,fun x hx' y hy'=>J.be x (pf.mem_iff.mp hx') y hy',?_⟩
  ·rw [List.length_append,List.length_cons,List.length_take,List.length_drop];walk_at "o"
  ·refine Array.perm_iff_toList_perm.mpr (List.Perm.trans ?_ (Array.perm_iff_toList_perm.mp J.b.perm))
   show xs.toList.Perm _
   rw [hxs,J.e,fl]
   simp only [List.append_assoc]
   rw [<- List.append_assoc X]
   exact List.Perm.append_left _ (hm.1.append_right _)
  ·show xs.toList=_
   rw [hxs,fl'];simp only [List.append_assoc]
  ·rcases inr r hr with rfl | hr
   ·rw [ml];have:=J.ne _ mx;walk_at "o"
   ·exact J.ne r hr
  ·rcases inr r hr with rfl | hr
   ·exact hm.2
   ·exact J.so r hr
  ·refine List.pairwise_append.mpr ⟨b1,List.pairwise_cons.mpr ⟨fun r hr x hx' y hy'=>?_,b7⟩,fun r hr r' hr' x hx' y hy'=>?_⟩
   ·rcases mm x hx' with hx' | hx'
    ·exact b4 r (List.mem_cons_of_mem _ hr) x hx' y hy'
    ·exact b6 r hr x hx' y hy'
   ·rcases List.mem_cons.mp hr' with rfl | hr'
    ·rcases mm y hy' with hy' | hy'
     ·exact b3 r hr X (List.mem_cons_self ..) x hx' y hy'
     ·exact b3 r hr Y (List.mem_cons_of_mem _ (List.mem_cons_self ..)) x hx' y hy'
    ·exact b3 r hr r' (List.mem_cons_of_mem _ (List.mem_cons_of_mem _ hr')) x hx' y hy'
  ·have:=p3 m ml
   rw [Nat.zero_add] at this
   show Pnd 0 (((pendingOf st).setIfInBounds i _).eraseIdxIfInBounds (i+1)).toList _
   rw [Array.toList_eraseIdxIfInBounds,Array.toList_setIfInBounds]
   exact this
end
end L2
namespace L2
open PySem PyProof.Rows
section
variable {prog:Program}{w:World}{A:Around}{E:Value->Shared->Prop}{s:Shared}{a₀:Array Keyed}{rk:Keyed->Int}
theorem Zn {xs:Array Keyed}{i:Nat}{x:Keyed}(h:xs.toList[i]?=some x):gK xs i=x:=by
 unfold gK
 rw [<- Array.getElem?_toList,h];rfl
theorem Dr {l:List Keyed}{R:Keyed->Keyed->Prop}(h:∀ (i j:Nat) (x y:Keyed),i<j->l[i]?=some x->l[j]?=some y->R x y):l.Pairwise R:=by
 rw [List.pairwise_iff_getElem]
 intro i j hi hj hij
 exact h i j _ _ hij (List.getElem?_eq_getElem hi) (List.getElem?_eq_getElem hj)
theorem Rns.run {rs:List (List Keyed)}{zx:List Keyed}{st:SortSt}(J:Rns rk a₀ rs zx st){xs:Array Keyed}{n:Nat}(hn:1<=n)(hn2:n<=zx.length)(g:Sg (arrOf st) xs rs.flatten.length (rs.flatten.length+n))(hs:Srt rk xs rs.flatten.length (rs.flatten.length+n)) :
  ∃ r,r.length=n/\r.Pairwise (LEr rk)/\r.Perm (zx.take n)/\xs.toList=rs.flatten ++ (r ++ zx.drop n):=by
 have ln:(arrOf st).toList.length=rs.flatten.length+zx.length:=by rw [J.e,List.length_append]
 have lx:xs.toList.length=rs.flatten.length+zx.length:=by rw [Array.length_toList,g.size,<- Array.length_toList,ln]
 have out:∀ i,i<rs.flatten.length \/ rs.flatten.length+n<=i->xs.toList[i]?=(arrOf st).toList[i]?:=fun i c=>by rw [Array.getElem?_toList,Array.getElem?_toList];exact g.out i c
 have e:xs.toList=rs.flatten ++ ((xs.toList.drop rs.flatten.length).take n ++ zx.drop n):=by
  refine List.ext_getElem? fun i=>?_
  by_cases c1:i<rs.flatten.length
  ·rw [out i (.inl c1),J.e,List.getElem?_append_left c1,List.getElem?_append_left c1]
  ·rw [List.getElem?_append_right (by walk_at "o")]
   by_cases c2:i<rs.flatten.length+n
   ·rw [List.getElem?_append_left (by rw [List.length_take,List.length_drop];walk_at "o"),List.getElem?_take_of_lt (by walk_at "o"),List.getElem?_drop];congr 1;walk_at "o"
   ·rw [out i (.inr (by walk_at "o")),J.e,List.getElem?_append_right (by walk_at "o"),List.getElem?_append_right (by rw [List.length_take,List.length_drop];walk_at "o"),List.getElem?_drop,List.length_take,List.length_drop];congr 1;walk_at "o"
 refine ⟨(xs.toList.drop rs.flatten.length).take n,by rw [List.length_take,List.length_drop];walk_at "o",Dr fun i j x y hij hx hy=>?_,?_,e⟩
 ·have hj:j<n:=by have:=(List.getElem?_eq_some_iff.mp hy).1;rw [List.length_take] at this;walk_at "o"
  rw [List.getElem?_take_of_lt (by walk_at "o"),List.getElem?_drop] at hx hy
  have:=hs (rs.flatten.length+i) (rs.flatten.length+j) (by walk_at "o") (by walk_at "o") (by walk_at "o")
  rwa [Zn hx,Zn hy] at this
 ·have p:=Array.perm_iff_toList_perm.mp g.perm
  rw [e,J.e] at p
  have p:=(List.perm_append_left_iff _).mp p
  have p2:((xs.toList.drop rs.flatten.length).take n ++ zx.drop n).Perm (zx.take n ++ zx.drop n):=by rw [List.take_append_drop];exact p
  exact (List.perm_append_right_iff _).mp p2
theorem Rns.asc {rs:List (List Keyed)}{zx:List Keyed}{st:SortSt}(J:Rns rk a₀ rs zx st)(re:zx.Pairwise fun x y=>rk x<=rk y):Asc rk (arrOf st) rs.flatten.length:=fun i j h1 h2 h3=>by
 have ln:(arrOf st).toList.length=rs.flatten.length+zx.length:=by rw [J.e,List.length_append]
 rw [Array.length_toList] at ln
 have g:∀ k,rs.flatten.length<=k->k<(arrOf st).size->∃ x,zx[k - rs.flatten.length]?=some x/\gK (arrOf st) k=x:=fun k k1 k2=>by
  refine ⟨_,List.getElem?_eq_getElem (by walk_at "o"),Zn ?_⟩
  rw [J.e,List.getElem?_append_right k1,List.getElem?_eq_getElem]
 obtain ⟨x,x1,x2⟩:=g i h1 (by walk_at "o")
 obtain ⟨y,y1,y2⟩:=g j (by walk_at "o") h3
 rw [x2,y2]
 by_cases c:i=j
 ·subst c;rw [x1] at y1;cases y1;exact Int.le_refl _
 ·obtain ⟨a1,a2⟩:=List.getElem?_eq_some_iff.mp x1
  obtain ⟨b1,b2⟩:=List.getElem?_eq_some_iff.mp y1
  have:=List.pairwise_iff_getElem.mp re _ _ a1 b1 (by walk_at "o")
  rwa [a2,b2] at this
theorem Rns.size {rs:List (List Keyed)}{zx:List Keyed}{st:SortSt}(J:Rns rk a₀ rs zx st):rs.flatten.length+zx.length=a₀.size:=by
 rw [<- J.b.size,<- Array.length_toList,J.e,List.length_append]
theorem Rns.psize {rs:List (List Keyed)}{zx:List Keyed}{st:SortSt}(J:Rns rk a₀ rs zx st):(pendingOf st).size=rs.length:=by
 rw [<- Array.length_toList,J.pn.len]
theorem Rns.with {rs:List (List Keyed)}{zx r:List Keyed}{st:SortSt}{xs:Array Keyed}{n:Nat}(J:Rns rk a₀ rs zx st)(hp:r.Perm (zx.take n))(e:xs.toList=rs.flatten ++ (r ++ zx.drop n)):Rns rk a₀ rs (r ++ zx.drop n) (setArr st xs):=by
 have pr:(r ++ zx.drop n).Perm zx:=by
  refine (hp.append_right _).trans ?_
  rw [List.take_append_drop]
 refine ⟨⟨?_,J.b.kind,J.b.failed⟩,e,J.ne,J.so,J.bel,fun x hx y hy=>J.be x hx y (pr.mem_iff.mp hy),J.pn⟩
 refine Array.perm_iff_toList_perm.mpr (List.Perm.trans ?_ (Array.perm_iff_toList_perm.mp J.b.perm))
 show xs.toList.Perm _
 rw [e,J.e]
 exact List.Perm.append_left _ pr
theorem Rns.push {rs:List (List Keyed)}{zx r:List Keyed}{st:SortSt}(J:Rns rk a₀ rs (r ++ zx) st)(h1:0<r.length)(h2:r.Pairwise (LEr rk))(h3:∀ x ∈ r,∀ y ∈ zx,rk x<=rk y):Rns rk a₀ (rs ++ [r]) zx (setPending st ((pendingOf st).push (rs.flatten.length,r.length,0))):=by
 have fl:(rs ++ [r]).flatten=rs.flatten ++ r:=by rw [List.flatten_append,List.flatten_cons,List.flatten_nil,List.append_nil]
 refine ⟨⟨J.b.perm,J.b.kind,J.b.failed⟩,by rw [fl,List.append_assoc];exact J.e,fun q hq=>?_,fun q hq=>?_,List.pairwise_append.mpr ⟨J.bel,List.pairwise_singleton _ _,fun q hq q' hq' x hx y hy=>?_⟩,fun x hx y hy=>?_,?_⟩
 ·rcases List.mem_append.mp hq with hq | hq
  ·exact J.ne q hq
  ·rw [List.mem_singleton.mp hq];exact h1
 ·rcases List.mem_append.mp hq with hq | hq
  ·exact J.so q hq
  ·rw [List.mem_singleton.mp hq];exact h2
 ·rw [List.mem_singleton.mp hq'] at hy
  exact J.be x (List.mem_flatten.mpr ⟨q,hq,hx⟩) y (List.mem_append_left _ hy)
 ·rw [fl] at hx
  rcases List.mem_append.mp hx with hx | hx
  ·exact J.be x hx y (List.mem_append_right _ hy)
  ·exact h3 x hx y hy
 ·show Pnd 0 ((pendingOf st).push _).toList _
  rw [Array.toList_push]
  have:=J.pn.snoc (r:=r) (pw:=0)
  rwa [Nat.zero_add] at this
theorem Rns.power {rs:List (List Keyed)}{zx:List Keyed}{st:SortSt}{f:Nat × Nat × Nat->Nat × Nat × Nat}{i:Nat}(hf:∀ p,(f p).1=p.1/\(f p).2.1=p.2.1)(J:Rns rk a₀ rs zx st):Rns rk a₀ rs zx (setPending st ((pendingOf st).modify i f)):=
 ⟨⟨J.b.perm,J.b.kind,J.b.failed⟩,J.e,J.ne,J.so,J.bel,J.be,by
  show Pnd 0 ((pendingOf st).modify i f).toList rs
  rw [Array.toList_modify];exact J.pn.mod hf i⟩
theorem Rns.end {rs:List (List Keyed)}{st:SortSt}(J:Rns rk a₀ rs [] st)(h:rs.length<=1):(arrOf st).toList.Pairwise (LEr rk):=by
 rw [J.e,List.append_nil]
 match rs,h,J with
 | [],_,_=>exact List.Pairwise.nil
 | [r],_,J=>rw [List.flatten_cons,List.flatten_nil,List.append_nil];exact J.so r (List.mem_singleton.mpr rfl)
theorem Wu:∀ {rs:List (List Keyed)},(∀ r ∈ rs,0<r.length)->rs.length<=rs.flatten.length
 | [],_=>Nat.le_refl _
 | r :: rs,h=>by
  have:=Wu (rs:=rs) fun q hq=>h q (List.mem_cons_of_mem _ hq)
  have:=h r (List.mem_cons_self ..)
  rw [List.flatten_cons,List.length_append,List.length_cons];walk_at "o"
end
end L2
namespace L2
open PySem PyProof.Rows
section
variable {prog:Program}{w:World}{A:Around}{E:Value->Shared->Prop}{s:Shared}{a₀:Array Keyed}{rk:Keyed->Int}
theorem BE {c:Prop}[Decidable c]{n:Nat}:(if c then n - 1 else n)<=n:=by split <;> walk_at "o"
theorem yW {st:SortSt}{Q:Unit->SortSt->Prop}(h0:Je a₀)(hB:SoB a₀ st)(hp:pendingOf st=#[])(hr:(arrOf st).toList.Pairwise fun x y=>rk x<=rk y)(h:∀ st',SoB a₀ st'->(arrOf st').toList.Pairwise (LEr rk)->Q () st'):wpS (model prog w) A E s sortRuns' Q st:=by
 rw [sortRuns'_eq]
 refine wpS_bind (wpS_get ?_)
 dsimp only
 have J0:Rns rk a₀ [] (arrOf st).toList st:=⟨hB,rfl,fun r hr=>(nomatch hr),fun r hr=>(nomatch hr),List.Pairwise.nil,fun x hx=>(nomatch hx),by rw [hp];trivial⟩
 have sz:=hB.size
 rw [sz]
 refine wpS_bind (wpS_mono (wpS_forRange (I:=fun t c st'=>∃ rs zx,c=(none,rs.flatten.length)/\Rns rk a₀ rs zx st'/\zx.Pairwise (fun x y=>rk x<=rk y)/\(t<=rs.flatten.length \/ zx=[]))
  (Q:=fun c st'=>∃ rs,c=(none,rs.flatten.length)/\Rns rk a₀ rs [] st') ?_ ?_ ⟨[],_,rfl,J0,hr,.inl (Nat.zero_le _)⟩) ?_)
 ·rintro t c st' _ ht ⟨rs,zx,rfl,J,re,hc⟩
  have js:=J.size
  dsimp only
  by_cases c1:rs.flatten.length ≥ a₀.size
  ·rw [if_pos c1]
   have:zx=[]:=List.length_eq_zero_iff.mp (by walk_at "o")
   subst this
   exact wpS_pure ⟨rs,rfl,J⟩
  rw [if_neg c1]
  refine wpS_bind (Ag (rk:=rk) h0 J.b (by walk_at "o") (by walk_at "o") (J.asc re) fun m xs m1 m2 g hs=>?_)
  dsimp only
  refine qp (fun c2=>?_) fun c2=>?_
  ·refine wpS_bind (ky ?_)
   generalize hN:min (a₀.size - rs.flatten.length) (minRun' a₀.size a₀.size 0)=n
   have hn1:1<=n:=by walk_at "o"
   have hn2:n<=zx.length:=by walk_at "o"
   have A1:=J.asc re
   have xz:xs.size=a₀.size:=g.size.trans J.b.size
   refine wpS_bind (Xm (rk:=rk) h0 (J.b.set g.perm) (by walk_at "o") m1 (by walk_at "o") (fun i j i1 i2 i3 i4=>?_) hs fun ys g2 hs2=>?_)
   ·show rk (gK xs i)<=rk (gK xs j)
    by_cases c3:i<rs.flatten.length+m
    ·exact g.rkk A1 i1 c3 i3 (by rw [J.b.size];exact i4)
    ·rw [xc (g.out i (.inr (by walk_at "o"))),xc (g.out j (.inr (by walk_at "o")))]
     exact A1 i j i1 (by walk_at "o") (by rw [J.b.size];exact i4)
   have g:=(g.mono (Nat.le_refl _) (show rs.flatten.length+m<=rs.flatten.length+n by walk_at "o")).trans g2
   clear hs g2
   have hs:=hs2
   show wpS _ _ _ _ _ _ (setArr st' ys)
   rw [if_neg (by decide)]
   generalize ys=xs at *
   obtain ⟨r,r1,r2,r3,r4⟩:=J.run hn1 hn2 g hs
   have J1:=J.with r3 r4
   have r5:∀ x ∈ r,∀ y ∈ zx.drop n,rk x<=rk y:=fun x hx y hy=>by
    have:=re
    rw [<- List.take_append_drop n zx] at this
    exact (List.pairwise_append.mp this).2.2 x (r3.mem_iff.mp hx) y hy
   have re':(zx.drop n).Pairwise fun x y=>rk x<=rk y:=re.sublist (List.drop_sublist _ _)
   have fin:∀ rs' st2,Rns rk a₀ rs' (r ++ zx.drop n) st2->rs'.flatten.length=rs.flatten.length->∃ rs2 rest2,((none,rs.flatten.length+n):Option Unit × Nat)=(none,rs2.flatten.length)/\Rns rk a₀ rs2 rest2 (setPending st2 ((pendingOf st2).push (rs.flatten.length,n,0)))/\rest2.Pairwise (fun x y=>rk x<=rk y)/\(t+1<=rs2.flatten.length \/ rest2=[]):=fun rs' st2 J' hl=>by
    have J2:=J'.push (by walk_at "o") r2 r5
    rw [hl,r1] at J2
    have fl:(rs' ++ [r]).flatten.length=rs.flatten.length+n:=by rw [List.flatten_append,List.flatten_cons,List.flatten_nil,List.append_nil,List.length_append,hl,r1]
    refine ⟨rs' ++ [r],zx.drop n,by rw [fl],J2,re',?_⟩
    rw [fl]
    rcases hc with hc | hc
    ·exact .inl (by walk_at "o")
    ·rw [hc,List.length_nil] at hn2;walk_at "o"
   refine wpS_bind (wpS_get ?_)
   cases hb:(pendingOf (setArr st' xs)).back? with
   | none=>exact wpS_bind (wpS_modify (wpS_pure (fin rs _ J1 rfl)))
   | some p=>
    obtain ⟨s1,n1,p1⟩:=p
    dsimp only
    refine wpS_bind (wpS_mono (wpS_forRange (I:=fun _ c st2=>c=(none,())/\∃ rs',Rns rk a₀ rs' (r ++ zx.drop n) st2/\rs'.flatten.length=rs.flatten.length) (Q:=fun c st2=>c=(none,())/\∃ rs',Rns rk a₀ rs' (r ++ zx.drop n) st2/\rs'.flatten.length=rs.flatten.length) ?_ (fun _ _ hh=>hh) ⟨rfl,rs,J1,rfl⟩) ?_)
    ·rintro u c st2 _ _ ⟨rfl,rs',J',hl⟩
     refine wpS_bind (wpS_get ?_)
     have ps:=J'.psize
     by_cases c5:(pendingOf st2).size > 1
     ·rw [if_pos c5]
      cases hq:(pendingOf st2)[(pendingOf st2).size - 2]? with
      | none=>exact wpS_pure ⟨rfl,rs',J',hl⟩
      | some q=>
       dsimp only
       refine qp (fun _=>wpS_pure ⟨rfl,rs',J',hl⟩) fun _=>?_
       refine wpS_bind (J'.merge h0 (by walk_at "o") fun rs2 st3 l2 f2 J2=>?_)
       rw [if_neg (by decide)]
       exact wpS_pure ⟨rfl,rs2,J2,by walk_at "o"⟩
     ·rw [if_neg c5]
      exact wpS_pure ⟨rfl,rs',J',hl⟩
    ·rintro c st2 ⟨rfl,rs',J',hl⟩
     dsimp only
     refine wpS_bind (wpS_modify (wpS_bind (wpS_modify (wpS_pure ?_))))
     exact fin rs' _ (J'.power (fun _=>⟨rfl,rfl⟩)) hl
  ·have hn1:=m1
   have hn2:m<=zx.length:=by walk_at "o"
   generalize m=n at *
   obtain ⟨r,r1,r2,r3,r4⟩:=J.run hn1 hn2 g hs
   have J1:=J.with r3 r4
   have r5:∀ x ∈ r,∀ y ∈ zx.drop n,rk x<=rk y:=fun x hx y hy=>by
    have:=re
    rw [<- List.take_append_drop n zx] at this
    exact (List.pairwise_append.mp this).2.2 x (r3.mem_iff.mp hx) y hy
   have re':(zx.drop n).Pairwise fun x y=>rk x<=rk y:=re.sublist (List.drop_sublist _ _)
   have fin:∀ rs' st2,Rns rk a₀ rs' (r ++ zx.drop n) st2->rs'.flatten.length=rs.flatten.length->∃ rs2 rest2,((none,rs.flatten.length+n):Option Unit × Nat)=(none,rs2.flatten.length)/\Rns rk a₀ rs2 rest2 (setPending st2 ((pendingOf st2).push (rs.flatten.length,n,0)))/\rest2.Pairwise (fun x y=>rk x<=rk y)/\(t+1<=rs2.flatten.length \/ rest2=[]):=fun rs' st2 J' hl=>by
    have J2:=J'.push (by walk_at "o") r2 r5
    rw [hl,r1] at J2
    have fl:(rs' ++ [r]).flatten.length=rs.flatten.length+n:=by rw [List.flatten_append,List.flatten_cons,List.flatten_nil,List.append_nil,List.length_append,hl,r1]
    refine ⟨rs' ++ [r],zx.drop n,by rw [fl],J2,re',?_⟩
    rw [fl]
    rcases hc with hc | hc
    ·exact .inl (by walk_at "o")
    ·rw [hc,List.length_nil] at hn2;walk_at "o"
   refine wpS_bind (wpS_get ?_)
   cases hb:(pendingOf (setArr st' xs)).back? with
   | none=>exact wpS_bind (wpS_modify (wpS_pure (fin rs _ J1 rfl)))
   | some p=>
    obtain ⟨s1,n1,p1⟩:=p
    dsimp only
    refine wpS_bind (wpS_mono (wpS_forRange (I:=fun _ c st2=>c=(none,())/\∃ rs',Rns rk a₀ rs' (r ++ zx.drop n) st2/\rs'.flatten.length=rs.flatten.length) (Q:=fun c st2=>c=(none,())/\∃ rs',Rns rk a₀ rs' (r ++ zx.drop n) st2/\rs'.flatten.length=rs.flatten.length) ?_ (fun _ _ hh=>hh) ⟨rfl,rs,J1,rfl⟩) ?_)
    ·rintro u c st2 _ _ ⟨rfl,rs',J',hl⟩
     refine wpS_bind (wpS_get ?_)
     have ps:=J'.psize
     by_cases c5:(pendingOf st2).size > 1
     ·rw [if_pos c5]
      cases hq:(pendingOf st2)[(pendingOf st2).size - 2]? with
      | none=>exact wpS_pure ⟨rfl,rs',J',hl⟩
      | some q=>
       dsimp only
       refine qp (fun _=>wpS_pure ⟨rfl,rs',J',hl⟩) fun _=>?_
       refine wpS_bind (J'.merge h0 (by walk_at "o") fun rs2 st3 l2 f2 J2=>?_)
       rw [if_neg (by decide)]
       exact wpS_pure ⟨rfl,rs2,J2,by walk_at "o"⟩
     ·rw [if_neg c5]
      exact wpS_pure ⟨rfl,rs',J',hl⟩
    ·rintro c st2 ⟨rfl,rs',J',hl⟩
     dsimp only
     refine wpS_bind (wpS_modify (wpS_bind (wpS_modify (wpS_pure ?_))))
     exact fin rs' _ (J'.power (fun _=>⟨rfl,rfl⟩)) hl
 ·rintro c st' ⟨rs,zx,rfl,J,re,hc⟩
  have js:=J.size
  rw [Nat.max_eq_right (Nat.zero_le _)] at hc
  have:zx=[]:=by
   rcases hc with hc | hc
   ·exact List.length_eq_zero_iff.mp (by walk_at "o")
   ·exact hc
  subst this
  exact ⟨rs,rfl,J⟩
 rintro c st' ⟨rs,rfl,J⟩
 have js:=J.size
 have jl:=Wu J.ne
 rw [List.length_nil] at js
 dsimp only
 refine wpS_bind (wpS_mono (wpS_forRange (I:=fun t c st2=>c=(none,())/\∃ rs',Rns rk a₀ rs' [] st2/\(rs'.length+t<=a₀.size \/ rs'.length<=1)) (Q:=fun c st2=>c=(none,())/\∃ rs',Rns rk a₀ rs' [] st2/\rs'.length<=1) ?_ ?_ ⟨rfl,rs,J,.inl (by walk_at "o")⟩) ?_)
 ·rintro t c st2 _ ht ⟨rfl,rs',J',hl⟩
  refine wpS_bind (wpS_get ?_)
  have ps:=J'.psize
  by_cases c1:(pendingOf st2).size<=1
  ·rw [if_pos c1];exact wpS_pure ⟨rfl,rs',J',by walk_at "o"⟩
  rw [if_neg c1]
  refine wpS_bind (J'.merge h0 ?_ fun rs2 st3 l2 f2 J2=>?_)
  ·exact Nat.lt_of_le_of_lt (Nat.add_le_add_right BE 1) (by walk_at "o")
  ·rw [if_neg (by decide)]
   exact wpS_pure ⟨rfl,rs2,J2,by walk_at "o"⟩
 ·rintro c st2 ⟨rfl,rs',J',hl⟩
  exact ⟨rfl,rs',J',by walk_at "o"⟩
 ·rintro c st2 ⟨rfl,rs',J',hl⟩
  exact wpS_pure (h st2 J'.b (J'.end hl))
end
end L2
namespace L2
open PySem PyProof.Rows
section
variable {prog:Program}{w:World}{A:Around}{E:Value->Shared->Prop}{s:Shared}
theorem jX:100000<sizeLine:=by rw [sizeLine_eq];decide
theorem Gi {xs:Array Keyed}{n:Nat}{rk:Keyed->Int}(hn:n<=xs.size)(h:xs.toList.Pairwise (LEr rk)):SortedTo xs n:=fun i j hij hj=>by
 have e:∀ k,k<xs.size->K xs k=kn (xs.toList[k]?.getD (.none,.none)):=fun k hk=>by
  unfold K kn
  rw [Array.getElem?_toList,Array.getElem?_eq_getElem hk];rfl
 rw [e i (by walk_at "o"),e j (by walk_at "o")]
 exact wC h hij (by rw [Array.length_toList];walk_at "o")
theorem Z1 {a:Addr}{vs:List Value}{ns:List Int}{n:Nat}{P:Fin->Shared->Prop}(ho:s.heap.get? a=some (seqObj "list" vs.toArray n))(hI:IntsAre vs ns)(hz:vs.length<=100000)
  (h:∀ (out:Array Value) (ns':List Int),IntsAre out.toList ns'->ns'.Perm ns->ns'.Pairwise (·<=·)->P (.done (.ret .none)) { s with heap:=sortedHeap s.heap a vs out }):wpAny (model prog w) A (Builtin.«list.sort» ⟨[.ref a],[]⟩) P E s:=by
 by_cases h64:vs.length<64
 ·exact list_sort_tree ho hI h64 h
 have sl:=jX
 obtain ⟨v1,v2,vr,ev⟩:∃ v1 v2 vr,vs=v1 :: v2 :: vr:=by
  match vs,h64 with
  | [],q=>exact absurd (by simp) q
  | [_],q=>exact absurd (by simp) q
  | x :: y :: z,_=>exact ⟨x,y,z,rfl⟩
 have az:a<s.heap.objs.size:=Heap.lt_size ho
 obtain ⟨e1,g1⟩:∃ e1,(s.heap.update a (Obj.mapSeq fun _=>#[])).get? a=some (seqObj "list" #[] e1):=⟨_,get?_update_seq ho fun _=>#[]⟩
 have g3:(((s.heap.update a (Obj.mapSeq fun _=>#[])).push (seqObj "tuple" vs.toArray 0)).push (seqObj "list" #[] 0)).get? a=some (seqObj "list" #[] e1):=by
  refine (Heap.get?_push_ne _ _ _ ?_).trans ((Heap.get?_push_ne _ _ _ ?_).trans g1)
  ·rw [size_push',Heap.size_update];exact Nat.ne_of_lt (Nat.lt_succ_of_lt az)
  ·rw [Heap.size_update];exact Nat.ne_of_lt az
 have vz:vs.toArray.size=vs.length:=List.size_toArray
 rw [list_sort_plain]
 refine wpAny_bind (listItems_at ho rfl (wpAny_bind (listUpdate_at ho rfl (wpAny_bind (seqEpoch_at g1 rfl ?_)) (by walk_at "o") (by show 0<=_;walk_at "o"))))
 refine wpAny_bind (wpAny_newTuple (wpAny_bind (wpAny_newList (wpAny_holding ?_) (by show 0<=_;walk_at "o"))) (by show vs.length<=_;walk_at "o"))
 show wpAny (model prog w) A _ P E { s with heap:=((s.heap.update a (Obj.mapSeq fun _=>#[])).push (seqObj "tuple" vs.toArray 0)).push (seqObj "list" #[] 0) }
 dsimp only
 have two:¬ vs.toArray.size<2:=by walk_at "o"
 rw [if_neg two,if_neg two]
 have kk:keyKind' vs.toArray=pure oneType':=by rw [ev];rw [ev] at hI;exact keyKind_ints hI
 rw [kk]
 refine wpAny_bind (wpAny_pure (wpAny_bind (wpAny_mono (yW (rk:=fun _=>0) (a₀:=pairsOf vs) (st:=SortSt.mk' oneType' (vs.toArray.zip vs.toArray) #[] 7 none)
  (Q:=fun _ st'=>SoB (pairsOf vs) st'/\(arrOf st').toList.Pairwise (LEr fun _=>0)) hI.intKeys ⟨Array.Perm.refl _,rfl,rfl⟩ rfl (Dr fun _ _ _ _ _ _ _=>Int.le_refl _) fun st' b p=>⟨b,p⟩) ?_ fun _ _ e=>e)))
 rintro ⟨⟨⟩,st'⟩ s' ⟨rfl,hB,hp⟩
 have sz:(arrOf st').size=vs.length:=hB.size.trans (pairsOf_size vs)
 refine wpAny_bind (seqEpoch_at g3 rfl (wpAny_bind (listUpdate_at g3 rfl ?_ (by show 0<=_;walk_at "o") (by show ((arrOf st').map _).size<=_;rw [Array.size_map,sz];walk_at "o"))))
 rw [hB.failed]
 dsimp only
 rw [bne_self_eq_false,if_neg (by decide)]
 obtain ⟨ns',a1,a2,a3⟩:=sorted_out hI hB.perm (Gi (by rw [hB.size];exact Nat.le_refl _) hp)
 exact wpAny_pure (h _ ns' a1 a2 a3)
end
section
variable {prog:Program}{w:World}{A:Around}{E:Value->Shared->Prop}{s:Shared}
noncomputable def BI (h:Heap)(vs:List Value):Heap:=(h.push (seqObj "list" #[] 0)).update h.objs.size (Obj.mapSeq (· ++ vs.toArray))
theorem wX {l:Addr}{vs:List Value}{ns:List Int}{Q:Value->Shared->Prop}(hc:∀ (A':Around) (R:List Value->Shared->Prop),R vs { s with heap:=BI s.heap vs }->wpAny (model prog w) A' (collect (.ref l)) R E s)(hI:IntsAre vs ns)(hz:vs.length<=100000)
  (h:∀ (out:Array Value) (ns':List Int),IntsAre out.toList ns'->ns'.Perm ns->ns'.Pairwise (·<=·)->Q (.ref (s.heap.objs.size+1)) { s with heap:=sortedAll s.heap vs out }):wpAny (model prog w) A (call (.builtin "sorted") [.ref l]) Q E s:=by
 have sl:=jX
 have gz:(BI s.heap vs).objs.size=s.heap.objs.size+1:=(Heap.size_update ..).trans (size_push' _ _)
 have at1:((BI s.heap vs).push (seqObj "list" vs.toArray 0)).get? (s.heap.objs.size+1)=some (seqObj "list" vs.toArray 0):=by rw [<- gz];exact Heap.get?_push_size _ rfl
 refine Calls.call_function_entry kind_sorted plain_sorted entry_sorted (args_sorted1 _) ?_
 unfold Builtin.«sorted»
 refine wpAny_bind (m:=checkCount "sorted" 1 1 _) (wpAny_pure (wpAny_bind (hc _ _ (wpAny_bind (wpAny_newList ?_ (by show vs.length<=_;walk_at "o"))))))
 show wpAny _ _ _ _ _ { s with heap:=(BI s.heap vs).push (seqObj "list" vs.toArray 0) }
 rw [gz]
 exact wpAny_bind (wpAny_holding (wpAny_call_entry slot_list_sort ⟨_,at1,rfl⟩ entry_list_sort (Z1 at1 hI hz fun out ns' a1 a2 a3=>⟨_,rfl,wpAny_pure ⟨_,rfl,h out ns' a1 a2 a3⟩⟩) (args_list_sort _)))
end
section
variable {X:Cx}
theorem Zp:qI X (.builtin "sorted") (fun xs H Q=>∃ p ns,xs=[.ref p]/\SqL X.K H p (List.map V.int ns)/\ns.length<=1000/\∀ l ns',H l=none->ns'.Perm ns->ns'.Pairwise (·<=·)->Q (.ref l) (upd H l (.lst (List.map V.int ns')))):=by
 rintro pins s σ H xs us Q I r ⟨p,ns,rfl,hq,h64,q⟩
 obtain ⟨u,rfl,rx⟩:=jK r
 cases rx
 obtain ⟨its,rv,pl,hz⟩:=I.list hq
 have hlen:=rv.length
 rw [List.length_map] at hlen
 have sl:=jX
 refine wX (fun A' R r=>collect_list pl.isList r (by walk_at "o")) (xV rv) (by walk_at "o") fun out ns' a1 a2 a3=>?_
 obtain ⟨k,he⟩:=sortedAll_at s.heap its out
 refine ⟨.ref (s.heap.objs.size+1),_,I.laid (t':=s.toks) (fun _ _=>sortedAll_old) (Nat.le_succ _) (show qa X.prog X.w _ _ _ (.lst (List.map V.int ns')) from ⟨?_,out.toList,k,jA a1,by simpa [seqObj] using he⟩),rfl,q _ _ (I.hok.fresh (Nat.le_succ _)) a2 a3⟩
 rw [List.length_map,a2.length_eq];walk_at "o"
theorem wr:qI X (.builtin "sorted") (fun xs H Q=>∃ p ns,xs=[.ref p]/\SqT X.K H p (List.map V.int ns)/\ns.length<=1000/\∀ l ns',H l=none->ns'.Perm ns->ns'.Pairwise (·<=·)->Q (.ref l) (upd H l (.lst (List.map V.int ns')))):=by
 rintro pins s σ H xs us Q I r ⟨p,ns,rfl,hq,h64,q⟩
 obtain ⟨u,rfl,rx⟩:=jK r
 cases rx
 obtain ⟨its,rv,pl,hz⟩:=I.tuple hq
 have hlen:=rv.length
 rw [List.length_map] at hlen
 have sl:=jX
 refine wX (fun A' R r=>Qv pl r (by walk_at "o")) (xV rv) (by walk_at "o") fun out ns' a1 a2 a3=>?_
 obtain ⟨k,he⟩:=sortedAll_at s.heap its out
 refine ⟨.ref (s.heap.objs.size+1),_,I.laid (t':=s.toks) (fun _ _=>sortedAll_old) (Nat.le_succ _) (show qa X.prog X.w _ _ _ (.lst (List.map V.int ns')) from ⟨?_,out.toList,k,jA a1,by simpa [seqObj] using he⟩),rfl,q _ _ (I.hok.fresh (Nat.le_succ _)) a2 a3⟩
 rw [List.length_map,a2.length_eq];walk_at "o"
end
theorem xH {X:Cx}:qI X (.builtin "sorted") (fun xs H Q=>∃ p ns,xs=[.ref p]/\(SqL X.K H p (List.map V.int ns) \/ SqT X.K H p (List.map V.int ns))/\ns.length<=1000/\∀ l ns',H l=none->ns'.Perm ns->ns'.Pairwise (·<=·)->Q (.ref l) (upd H l (.lst (List.map V.int ns')))):=by
 rintro pins s σ H xs us Q I r ⟨p,ns,e,hq | hq,h64,q⟩
 ·exact Zp _ _ _ _ _ _ _ I r ⟨p,ns,e,hq,h64,q⟩
 ·exact wr _ _ _ _ _ _ _ I r ⟨p,ns,e,hq,h64,q⟩
noncomputable def vZ:List AV->MH->(List AV->Prop)->Prop:=fun xs M Q=>∃ x ns,xs=[x]/\zN x M=some (List.map (fun i=>AV.d (.int i)) ns)/\ns.length<=1000/\∀ ns',ns'.Perm ns->List.Pairwise (fun x1 x2=>x1<=x2) ns'->Q (List.map (fun i=>AV.d (.int i)) ns')
theorem yl {K:PySem.W.Frag}:Ko (fun xs H Q=>∃ p ns,xs=[V.ref p]/\(SqL K H p (List.map V.int ns) \/ SqT K H p (List.map V.int ns))/\ns.length<=1000/\∀ (l:Addr) (ns':List Int),H l=none->ns'.Perm ns->List.Pairwise (fun x1 x2=>x1<=x2) ns'->Q (V.ref l) (upd H l (HO.lst (List.map V.int ns')))) vZ:=⟨fun w r ⟨x,ns,e,h,hl,q⟩ k=>by
 subst e
 obtain ⟨v,rfl,rv⟩:=qG r
 obtain ⟨a,xs,rfl,h1,r1⟩:=yG w rv h
 rw [jo r1] at h1
 exact ⟨a,ns,rfl,h1.imp SqL.of SqT.of,hl,fun l ns' hp h2 h3=>k _ _ (q ns' h2 h3) (Zo ns') l hp⟩⟩
theorem Kk {K:PySem.W.Frag}{u:TA}{b:AA}(h:kj u b):zU (tCB (fun xs H Q=>∃ p ns,xs=[V.ref p]/\(SqL K H p (List.map V.int ns) \/ SqT K H p (List.map V.int ns))/\ns.length<=1000/\∀ (l:Addr) (ns':List Int),H l=none->ns'.Perm ns->List.Pairwise (fun x1 x2=>x1<=x2) ns'->Q (V.ref l) (upd H l (HO.lst (List.map V.int ns')))) u) (aFz (fCB vZ b)):=xZ (vk yl h)
section
variable {X:Cx}
noncomputable def KJ:V->List V->Hp->VK->Prop:=fun x vs H Q=>∃ l xs v,x=.ref l/\vs=[v]/\H l=some (.tup xs)/\xs.all j5=true/\j5 v=true/\Q (.int ((xs.countP fun y=>eqV y v:Nat))) H
theorem wU:MtR X "tuple.count" KJ:=by
 intro pins s σ H x vs v us Q I rx rv h
 obtain ⟨l,xs,i,rfl,rfl,hH,hf,hi,q⟩:=h
 cases rx
 obtain ⟨u,rfl,ru⟩:=rv.one
 obtain ⟨hl,its,r,o,e,hc,⟨n,hd⟩,hdn⟩:=(show qa X.prog X.w H s.heap l (.tup xs) from I.hok _ _ hH)
 obtain ⟨oc,od,odt,osl⟩:=o
 simp only at hc hd hdn
 subst hc hd hdn
 refine call_meets F.slot_tuple_count ⟨_,e,rfl⟩ F.entry_tuple_count (F.args_tuple_count_2 _ _) (SeqAt.tuple_countAt l its.toArray n none _ u (eqU i)) ⟨e,?_,?_⟩
 ·intro y hy
  exact vV ru hi r hf y (by simpa using hy)
 ·refine ⟨.int ((xs.countP fun y=>eqV y i:Nat)),H,I.kept (t':=s.toks+1) fun b o e=>e,⟨s.toks,?_⟩,q⟩
  show Value.int ((its.countP (eqU i):Nat):Int) s.toks=_
  rw [yO r hf]
variable {o e:Expr}{es:List Expr}{to:TE}{t:TA}{name:Str}{apos cpos:Pos}{T1 id1 T2 id2:String}{r1 r2:V->List V->Hp->VK->Prop}{K:PySem.W.Frag}
noncomputable def Gm (K:PySem.W.Frag)(T1 T2:String)(r1 r2:V->List V->Hp->VK->Prop)(to:TE)(t:TA):TE:=fun σ H Q=>to σ H fun x H1=>(tyV K T1 x H1/\t σ H1 fun xs H2=>r1 x xs H2 Q) \/ (tyV K T2 x H1/\t σ H1 fun xs H2=>r2 x xs H2 Q)
theorem V4 (hK:X.K=K)(pa1:PlainAttrs T1)(slot1:Slot T1 name id1)(hty1:typeOf (.builtin id1)=pure (.type "method_descriptor"))(hm1:MtR X id1 r1)(pa2:PlainAttrs T2)(slot2:Slot T2 name id2)(hty2:typeOf (.builtin id2)=pure (.type "method_descriptor"))(hm2:MtR X id2 r2)(ho:PE X o to)(ha:PA X (e :: es) t)
  (hbase:attributeBase o name X.env (eval o X.env)=eval o X.env:=by rfl)
  (hfew:((backTo cpos (starEach (e :: es) X.env)).all (fun x=>!x.1) && (backToKw cpos (keywordEach [] X.env)).all (fun x=>x.1.isSome)
   && decide ((e :: es).length+([]:List Keyword).length+(if ([]:List Keyword).isEmpty then 0 else 1)<30))=true:=by rfl)
  (hline:(apos.endLine == cpos.line)=true:=by rfl) (hs:starEach (e :: es) X.env=(false,eval e X.env) :: starEach es X.env:=by rfl) (hplain:(backTo cpos (starEach es X.env)).any (·.1)=false:=by rfl) :
  PE X (.Call (.Attribute o name apos) (e :: es) [] cpos) (Gm K T1 T2 r1 r2 to t):=by
 subst hK
 intro pins s σ H Q I h
 refine wpAny_Call_method_late hbase hfew hline rfl (thn (ho pins s σ H _ I h) fun v s1 ⟨x,H1,I1,rx,q0⟩=>?_)
 rcases q0 with ⟨ty,q1⟩ | ⟨ty,q1⟩
 ·obtain ⟨h1,h2⟩:=Kb I1 rx ty
  refine ⟨T1,id1,pa1,slot1,hty1,h1,h2,?_⟩
  have hA:=ha cpos pins s1 σ H1 _ I1 q1
  rw [hs] at hA ⊢
  refine Calls.callWith_builtin (by show (false || (backTo cpos (starEach es X.env)).any (·.1))=false;rw [hplain] <;> rfl) (Calls.evalArgs_plain ?_)
  exact thn hA fun us s2 ⟨vs,H2,I2,r2,q2⟩=>hm1 pins s2 σ H2 x vs v us Q I2 rx r2 q2
 ·obtain ⟨h1,h2⟩:=Kb I1 rx ty
  refine ⟨T2,id2,pa2,slot2,hty2,h1,h2,?_⟩
  have hA:=ha cpos pins s1 σ H1 _ I1 q1
  rw [hs] at hA ⊢
  refine Calls.callWith_builtin (by show (false || (backTo cpos (starEach es X.env)).any (·.1))=false;rw [hplain] <;> rfl) (Calls.evalArgs_plain ?_)
  exact thn hA fun us s2 ⟨vs,H2,I2,r2,q2⟩=>hm2 pins s2 σ H2 x vs v us Q I2 rx r2 q2
theorem Yg (hc:X.calm=true):qI X (.builtin "max") (fun xs H Q=>∃ p ns,xs=[.ref p]/\SqL X.K H p (List.map V.int ns)/\0<ns.length/\∀ m:Int,m ∈ ns->(∀ a ∈ ns,a<=m)->Q (.int m) H):=by
 intro pins s σ H xs us Q I r h
 obtain ⟨p,ns,rfl,hq,hl,q⟩:=h
 obtain ⟨u,rfl,rx⟩:=jK r
 cases rx
 obtain ⟨its,rv,pl,hz⟩:=I.list hq
 obtain ⟨ps,rfl,rfl⟩:=vq rv
 rw [List.length_map] at hl
 have hL:s.heap.IsList p (intItems ps.toArray):=by
  have:=pl.isList
  unfold intItems
  simpa using this
 refine max_intList (I.ok.hd hc) hL (by simpa using hl) fun v h' tk hv hk=>?_
 obtain ⟨t,rfl⟩:=intItems_at hv
 obtain ⟨h1,h2⟩:=argBest_gt (numAt ps.toArray) (ps.toArray.size - 1)
 rw [List.size_toArray] at h1 h2 ⊢
 refine ⟨.int _,H,I.turnedL (ch:=[]) (tk:=tk) (fun b hb=>nomatch hb) (fun b o _ eb=>hk b o eb),⟨t,rfl⟩,q _ ?_ fun a ha=>?_⟩
 ·rw [WN (by walk_at "o"),qe (by rw [List.length_map];walk_at "o")]
  exact List.getElem_mem _
 ·obtain ⟨j,hj⟩:=List.getElem?_of_mem ha
  have hj':j<ps.length:=by have:=(List.getElem?_eq_some_iff.mp hj).1;rwa [List.length_map] at this
  have:=h2 j (by walk_at "o")
  rw [WN hj',List.getD_eq_getElem?_getD,hj] at this
  exact this
theorem JZ (hK:X.K=K)(hc:X.calm=true):qI X (.builtin "max") (fun xs H Q=>∃ p ns,xs=[.ref p]/\SqL K H p (List.map V.int ns)/\0<ns.length/\∀ m:Int,m ∈ ns->(∀ a ∈ ns,a<=m)->Q (.int m) H):=by
 subst hK;exact Yg hc
end
theorem yp (ns:List Int)(i:Int):(ns.map V.int).countP (fun y=>eqV y (.int i))=ns.count i:=by
 rw [List.countP_map,List.count_eq_countP];rfl
noncomputable def Gp (a:AE)(b:AA):AE:=fun ρ M Q=>a ρ M fun x M1=>∃ (ns:List Int) (i:Int),zN x M1=some (ns.map fun i=>AV.d (.int i))/\b ρ M1 fun ys M2=>M1=M2/\ys=[.d (.int i)]/\Q (.d (.int (ns.count i:Nat))) M2
theorem Ws {K:PySem.W.Frag}{t:TE}{u:TA}{a:AE}{b:AA}(h1:zU t a)(h2:kj u b):zU (Gm K "list" "tuple" Zk KJ t u) (Gp a b):=
 ⟨fun w e q k=>h1.go w e q fun x M1 v H1 O1 ⟨ns,i,hs,q1⟩ k1 w1 r1=>by
  rcases qH hs with hl | ⟨l,rfl,hl⟩
  ·refine .inl ⟨?_,h2.go w1 (e.ext k1) q1 fun y M2 u H2 O2 ⟨e1,e2,q2⟩ k2 w2 r2=>?_⟩
   ·obtain ⟨a,xs,rfl,hx,_⟩:=zY w1 r1 hl
    exact .inl ⟨rfl,xs,SqL.of hx⟩
   ·subst e1 e2
    exact ww.go w2 (r1.ext k2) r2 ⟨_,_,_,_,hl,rfl,yw ns,rfl,by rw [yp];exact q2⟩ fun z M3 v3 H3 O3 q3 k3 w3 r3=>k z M3 v3 H3 O3 q3 ((k1.trans k2).trans k3) w3 r3
  ·refine .inr ⟨?_,h2.go w1 (e.ext k1) q1 fun y M2 u H2 O2 ⟨e1,e2,q2⟩ k2 w2 r2=>?_⟩
   ·obtain ⟨a,xs,rfl,hx,_⟩:=qP (l:=l.map .d) r1 rfl
    exact .inr (.inl ⟨rfl,.inl ⟨xs,.inl hx⟩⟩)
   ·subst e1 e2
    obtain ⟨u,rfl,ru⟩:=qG r2
    obtain ⟨a,xs,rfl,hx,p1⟩:=qP (l:=l.map .d) (r1.ext k2) rfl
    rw [<- hl] at p1
    rw [jo p1] at hx
    exact ⟨a,ns.map V.int,u,rfl,rfl,hx,by simp [j5],by rw [zT ru];rfl,by rw [zT ru,yp];exact k _ _ _ _ _ q2 (k1.trans k2) w2 .int⟩⟩
noncomputable def WG:List AV->MH->AK->Prop:=fun xs M Q=>∃ x ns,xs=[x]/\qb x M=some (List.map (fun i=>AV.d (.int i)) ns)/\0<ns.length/\∀ m:Int,m ∈ ns->(∀ a ∈ ns,a<=m)->Q (.d (.int m)) M
theorem WS {K:PySem.W.Frag}:we (fun xs H Q=>∃ p ns,xs=[V.ref p]/\SqL K H p (List.map V.int ns)/\0<ns.length/\∀ m:Int,m ∈ ns->(∀ a ∈ ns,a<=m)->Q (V.int m) H) WG:=⟨fun w r ⟨x,ns,e,h,h2,q⟩ k=>by
 subst e
 obtain ⟨v,rfl,rv⟩:=qG r
 obtain ⟨a,xs,rfl,h1,r1⟩:=zY w rv h
 rw [jo r1] at h1
 exact ⟨a,ns,rfl,SqL.of h1,h2,fun m hm hx=>k _ _ _ _ _ (q m hm hx) .refl w .int⟩⟩
theorem W8 {H:Hp}{O:Own}{M:MH}(w:Wf H O M){p:Addr}(hp:H p=none){xs:List V}{l:List Dat}(r:zf H O M xs (l.map .d)):zq (upd H p (.lst xs)) O M (.ref p) (.d (.lst l)):=
 have r2:=r.pure
 Rep.lst (w.fresh hp).1 zl r2.1 fun i x d e1 e2=>(r2.2 i x d e1 e2).ext (qj w hp _)
noncomputable def Dn (a:AE)(lo hi:AO):AE:=fun ρ M Q=>a ρ M fun x M1=>lo ρ M1 fun i M2=>hi ρ M2 fun j M3=>∃ l:List Dat,zN x M3=some (l.map .d)/\¬ (HT.sIx l.length 0 i=0/\HT.sIx l.length l.length j=l.length)/\∀ y,zN y M3=some ((kE l i j).map .d)->Q y M3
theorem WU {K:PySem.W.Frag}{t:TE}{tl th:TO}{a:AE}{lo hi:AO}(h1:zU t a)(h2:wt tl lo)(h3:wt th hi):zU (tSl (fun x lo hi H Q=>BF K x lo hi H Q \/ Gk K x lo hi H Q) t tl th) (Dn a lo hi):=
  ⟨fun w e q k=>h1.go w e q fun x M1 v H1 O1 q1 k1 w1 r1=>h2.go w1 (e.ext k1) q1 fun i M2 H2 O2 q2 k2 w2=>h3.go w2 (e.ext (k1.trans k2)) q2 fun j M3 H3 O3 ⟨l,hl,hn,q3⟩ k3 w3=>by
    rcases qH hl with hl | ⟨m,rfl,hm⟩
    · obtain ⟨a,xs,rfl,e1,p1⟩:=zY w3 (r1.ext (k2.trans k3)) hl
      refine .inl ⟨a,xs,rfl,SqL.of e1,fun p hp=>?_⟩
      have p2:=p1.cut i j
      rw [yo] at p2
      exact k _ _ _ _ _ (q3 (.d (.lst (kE l i j))) rfl) (((k1.trans k2).trans k3).trans (qj w3 hp _)) (ke w3 hp _) (W8 w3 hp p2)
    · obtain rfl : l = m := by
        have:=congrArg (List.map fun x=>match x with | AV.d d=>d | _=>Dat.non) hm
        simpa [List.map_map,Function.comp_def] using this
      obtain ⟨a,xs,rfl,e1,p1⟩:=qP (l:=l.map .d) (r1.ext (k2.trans k3)) rfl
      have l1:=p1.1
      rw [List.length_map] at l1
      refine .inr ⟨a,xs,rfl,SqT.of e1,by rw [l1];exact hn,fun p hp=>?_⟩
      have p2:=p1.cut i j
      rw [yo] at p2
      exact k _ _ _ _ _ (q3 (.d (.tup (kE l i j))) rfl) (((k1.trans k2).trans k3).trans (qj w3 hp _)) (ke w3 hp _) (ZO w3 hp p2)⟩
end L2
namespace L2
open PySem PySem.Spec PyProof.Rows PySem.W
section
variable {prog:Program}{w:World}{A:Around}{E:Value->Shared->Prop}{s:Shared}
theorem Bh {nm qual kx px:Str}{params:Arguments}{scope:Scope}{p1 p2 p3:Pos}{cl:List (Str × Addr)}{pm ctv uk x:Value}{f c' cell:Addr}{i:Int}{t:Tok}{Q:Value->Shared->Prop}
  (ho:s.heap.get? f=some (kla_obj nm qual params (.Subscript (.Name kx p1) (.Name px p2) p3) scope cl pm c' ctv)) (hcd:s.heap.CodeRec (.ref c') qual) (hroom:A.depth<recursionLimit) (hlim:s.heap.NoLimit)
  (hbind:bindArgs (kla_fn nm qual params (.Subscript (.Name kx p1) (.Name px p2) p3) scope cl pm (.ref c') ctv) ⟨[.int i t],[]⟩=pure [(px,.int i t)])
  (hk:scope.kind=.function) (hco:scope.isCoroutine=false) (hgen:scope.isGenerator=false) (hnc:∀ y ∈ scope.names,y.2 ≠ .cell) (hpx:scope.names.lookup px=some .local) (hkx:scope.names.lookup kx=some .free)
  (hcl:cl.lookup kx=some cell) (hcell:s.heap.IsCell cell (some uk)) (hcx:(kx == ("__classdict__":Str))=false) (hd1:(kx == ("__debug__":Str))=false) (hd2:(px == ("__debug__":Str))=false)
  (hget:∀ (A:Around) (E:Value->Shared->Prop) (s':Shared) (value:Expr) (Q:Value->Shared->Prop),(∀ b o,s.heap.get? b=some o->s'.heap.get? b=some o)->Q x s'->wpAny (model prog w) A (subscriptTail value (.Name px p2) uk (.int i t)) Q E s')
  (h:∀ h' tk,(∀ b o,s.heap.get? b=some o->h'.get? b=some o)->Q x { s with heap:=h',toks:=tk }):wpAny (model prog w) A (call (.ref f) [.int i t]) Q E s:=by
 refine wpAny_call ?_
 refine kla_callFunE hroom ho rfl hco hgen rfl hcd ?_
 rw [hbind]
 refine wpAny_pure (wpAny_newFunctionEnv hnc (fun y hy=>?_) (fun h₁ hns hsb=>?_) hk)
 ·rw [List.mem_singleton.mp hy];exact hpx
 have hk₁:∀ b o,s.heap.get? b=some o->h₁.get? b=some o:=fun b o e=>hsb.extBut b o (Nat.ne_of_lt (Heap.lt_size e)) (Heap.get?_push_of_some _ e)
 refine ⟨hlim.fresh _ hsb,?_⟩
 show codeAny _ _ (.expr _ (envX qual scope s.heap.objs.size f (.ref c') cl)) _ _
 refine kla_codeExpr (Subscript_ (wpAny_Name (wpAny_loadName_free (v:=uk) hk hkx hcl ?_ ?_ hcx) hd1))
 ·obtain ⟨oc,e1,e2⟩:=hcell
  exact ⟨oc,hk₁ _ _ e1,e2⟩
 refine wpAny_Name (wpAny_loadName_local hk hpx hns (v:=.int i t) ?_ ?_) hd2
 ·show List.lookup px [(px,Value.int i t)]=_
  simp [List.lookup]
 exact hget _ _ _ _ _ hk₁ (h _ _ hk₁)
theorem Jp {r:Addr}{a b c:Int}{t u v:Tok}{n:Nat}{Q:List Value->Shared->Prop}(hh:A.handled=none)(hr:IsRange s.heap r a b c t u v)(hsmall:Builtin.Range.small a b c=true)(hn:Builtin.Range.rangeSize a b c=n)(hlen:n<=2 ^ 24)
  (hQ:∀ h' tk (acc:Array Value),(∀ b o,s.heap.get? b=some o->h'.get? b=some o)->s.heap.objs.size<h'.objs.size->ItemsOf (fun i v=>∃ t,v=.int (a+i * c) t) acc n->Q acc.toList { s with heap:=h',toks:=tk }):wpAny (model prog w) A (collect (.ref r)) Q E s:=by
 unfold collect
 refine wpAny_bind (wpAny_runValue (codeAny_builtin F.entry_proto_collect ?_))
 rw [Around.under_plainId F.plain_proto_collect _]
 show wpAny _ A.in1 (newList [] >>= fun l=>again (.builtin "list.__iadd__" ⟨[l,.ref r],[]⟩)) _ _ s
 refine wpAny_bind (wpAny_newObj_type ?_)
 refine wpAny_pure ⟨plainId_quiet F.plain_list_iadd _,codeAny_builtin F.entry_list_iadd ?_⟩
 rw [Around.under_plainId F.plain_list_iadd _]
 have hS₁:(s.heap.push { cls:=.type "list",data:=.seq ([]:List Value).toArray }).get? s.heap.objs.size=some { cls:=.type "list",data:=.seq ([]:List Value).toArray }:=Heap.get?_push_size _ rfl
 show wpAny _ A.in1 (Builtin.List.listExtendWith (.ref s.heap.objs.size) (.ref r) (.ref s.heap.objs.size)) _ _ _
 refine wpAny_extend_range (prog:=prog) (w:=w) (R:=fun r s'=>match r with | .ok (.ret v)=>wpAny (model prog w) A (match v with | Value.ref a=>do (match (<- load a).data with | .seq xs _=>pure xs.toList | _=>unsupported "internal:collect") | _=>unsupported "internal:collect") Q E s' | .ok _=>False | .error e=>E e s') (s:={ s with heap:=s.heap.push { cls:=.type "list",data:=.seq ([]:List Value).toArray } }) hh (Heap.get?_push_of_some _ hr) hsmall hn hlen s.heap.objs.size (.ref s.heap.objs.size) 0 hS₁ fun h' tk acc' c' hk hS' hacc=>?_
 show wpAny _ A (load s.heap.objs.size >>= _) _ _ _
 refine wpAny_bind (wpAny_load hS' ?_)
 exact wpAny_pure (hQ h' tk acc' (fun b o e=>hk b o (Nat.ne_of_lt (Heap.lt_size e)) (Heap.get?_push_of_some _ e)) (Heap.lt_size hS') hacc)
noncomputable abbrev But (a:Addr)(h h':Heap):Prop:=∀ b o,b ≠ a->h.get? b=some o->h'.get? b=some o
theorem FN {a kS:Addr}{e e1 tk:Nat}{h0:Heap}{keys:Array Value}{vs:List Value}{ps kz:List Int}{P:PySem.Fin->Shared->Prop}(hb:But a s.heap h0)(na:h0.get? a=some (seqObj "list" #[] e1))(nk:h0.get? kS=some (seqObj "list" keys e))(hka:kS ≠ a)(hk0:s.heap.get? kS=none)(hk:IntsAre keys.toList kz)(hI:IntsAre vs ps)(hinc:ps.Pairwise (·<·))(hz:vs.length<=100000)(hlen:kz.length=vs.length)
  (h:∀ h' tk (out:List Value) (c:Nat) (qs:List (Int × Int)),But a s.heap h'->h'.get? a=some (seqObj "list" out.toArray c)->IntsAre out (qs.map (·.2))->qs.Perm (kz.zip ps)->qs.Pairwise (fun x y=>x.1<y.1 \/ (x.1=y.1/\x.2<=y.2))->P (.done (.ret .none)) { s with heap:=h',toks:=tk }) :
  wpAny (model prog w) A (ksk_end a false vs.toArray e1 (.ref kS) keys) P E { s with heap:=h0,toks:=tk }:=by
 have sl:=jX
 have hsz:keys.size=vs.length:=by
  have h1:=hk.length
  rw [Array.length_toList] at h1
  walk_at "o"
 have hzs:(keys.zip vs.toArray).size=vs.length:=by rw [Array.size_zip,hsz,List.size_toArray,Nat.min_self]
 have tail:∀ st:SortSt,(arrOf st).Perm (keys.zip vs.toArray)->(arrOf st).toList.Pairwise (LEr fun p=>numOf p.2)->failedOf st=none->wpAny (model prog w) A (ksk_tail a false e1 (.ref kS) st) P E { s with heap:=h0,toks:=tk }:=by
  intro st hp hs hfl
  have hsz2:(arrOf st).size=vs.length:=by rw [hp.size_eq,hzs]
  have na1:(h0.update kS (Obj.mapSeq fun _=>(#[]:Array Value))).get? a=some (seqObj "list" #[] e1):=(Heap.get?_update_ne _ _ _ _ (Ne.symm hka)).trans na
  obtain ⟨c2,hc2⟩:∃ c2,((h0.update kS (Obj.mapSeq fun _=>(#[]:Array Value))).update a (Obj.mapSeq fun _=>(arrOf st).map (·.2))).get? a=some (seqObj "list" ((arrOf st).map (·.2)) c2):=⟨_,get?_update_seq na1 fun _=>(arrOf st).map (·.2)⟩
  unfold ksk_tail
  dsimp only
  refine wpAny_bind (listUpdate_at nk rfl ?_ (by rw [hsz];walk_at "o") (Nat.zero_le _))
  refine wpAny_bind (wpAny_letGo ?_)
  refine wpAny_bind (seqEpoch_at na1 rfl ?_)
  refine wpAny_bind (listUpdate_at na1 rfl ?_ (Nat.zero_le _) (by simp only [Bool.false_eq_true,if_false,Array.size_map];walk_at "o"))
  rw [hfl]
  simp only [bne_self_eq_false,Bool.false_eq_true,if_false]
  refine wpAny_pure (h _ _ ((arrOf st).toList.map (·.2)) c2 ((arrOf st).toList.map fun p=>(numOf p.1,numOf p.2)) (fun b o hb' e'=>?_) ?_ ?_ ?_ ?_)
  ·have nb:b ≠ kS:=fun z=>by rw [z,hk0] at e';cases e'
   exact (Heap.get?_update_ne _ _ _ _ hb').trans ((Heap.get?_update_ne _ _ _ _ nb).trans (hb b o hb' e'))
  ·rw [hc2]
   congr 2
   exact (Array.toArray_toList (xs:=(arrOf st).map (·.2))).symm.trans (by rw [Array.toList_map])
  ·rw [List.map_map]
   have:((fun x:Int × Int=>x.2) ∘ fun p:Keyed=>(numOf p.1,numOf p.2))=(numOf ∘ fun p:Keyed=>p.2):=rfl
   rw [this,<- List.map_map]
   refine intsAre_map _ fun v hv=>?_
   obtain ⟨p,hp',rfl⟩:=List.mem_map.mp hv
   have hm:p ∈ keys.toList.zip vs:=by rw [<- ksk_zip];exact (Array.perm_iff_toList_perm.mp hp).mem_iff.mp hp'
   obtain ⟨x,y⟩:=p
   exact hI.all _ (List.of_mem_zip hm).2
  ·have h1:=(Array.perm_iff_toList_perm.mp hp).map fun p:Keyed=>(numOf p.1,numOf p.2)
   rw [ksk_zip] at h1
   rw [<- hk.nums,<- hI.nums,List.zip_map]
   exact h1
  ·rw [List.pairwise_map]
   exact hs
 unfold ksk_end
 dsimp only
 rw [if_neg (by decide)]
 by_cases h2:vs.toArray.size<2
 ·rw [if_pos h2,if_pos h2]
  refine wpAny_bind (wpAny_pure ?_)
  rw [StateT.run_pure]
  refine wpAny_bind (wpAny_pure ?_)
  refine tail _ (Array.Perm.refl _) ?_ rfl
  show (keys.zip vs.toArray).toList.Pairwise _
  rw [List.size_toArray] at h2
  have hl:(keys.zip vs.toArray).toList.length<2:=by rw [Array.length_toList,hzs];exact h2
  match (keys.zip vs.toArray).toList,hl with
  | [],_=>exact .nil
  | [_],_=>exact List.pairwise_singleton _ _
 ·rw [if_neg h2,if_neg h2]
  rw [List.size_toArray] at h2
  rw [ksk_kind hk (by rw [hsz];walk_at "o")]
  refine wpAny_bind (wpAny_pure ?_)
  refine wpAny_bind (wpAny_mono (yW (rk:=fun p=>numOf p.2) (a₀:=keys.zip vs.toArray) (st:=SortSt.mk' oneType' (keys.zip vs.toArray) #[] 7 none)
   (Q:=fun _ st'=>SoB (keys.zip vs.toArray) st'/\(arrOf st').toList.Pairwise (LEr fun p=>numOf p.2)) (ksk_intKeys hk) ⟨Array.Perm.refl _,rfl,rfl⟩ rfl ?_ fun st' b p=>⟨b,p⟩) ?_ fun _ _ e=>e)
  ·show (keys.zip vs.toArray).toList.Pairwise _
   rw [ksk_zip]
   have e1:(keys.toList.zip vs).map (fun p:Keyed=>numOf p.2)=ps:=by
    rw [show (fun p:Keyed=>numOf p.2)=numOf ∘ Prod.snd from rfl,<- List.map_map,List.map_snd_zip (by rw [Array.length_toList];exact Nat.le_of_eq hsz.symm),hI.nums]
   rw [<- e1,List.pairwise_map] at hinc
   exact hinc.imp fun h=>Int.le_of_lt h
  ·rintro ⟨⟨⟩,st'⟩ s' ⟨rfl,hB,hp⟩
   exact tail st' hB.perm hp hB.failed
theorem Bs {a f kS:Addr}{e1 tk:Nat}{h0:Heap}{vs:List Value}{ps kz:List Int}{P:PySem.Fin->Shared->Prop}(hb:But a s.heap h0)(na:h0.get? a=some (seqObj "list" #[] e1))(nk:h0.get? kS=some (seqObj "list" #[] 0))(hka:kS ≠ a)(hk0:s.heap.get? kS=none)(hI:IntsAre vs ps)(hinc:ps.Pairwise (·<·))(hz:vs.length<=100000)(hlen:kz.length=vs.length)
  (turn:∀ (i:Nat) (v:Value) (k:Int),vs[i]?=some v->kz[i]?=some k->∀ (h:Heap) (tk:Nat),But a s.heap h ->
   wpAny (model prog w) A (call (.ref f) [v]) (fun u s'=>∃ h' tk' t',u=.int k t'/\s'={ s with heap:=h',toks:=tk' }/\∀ b o,h.get? b=some o->h'.get? b=some o) (fun _ _=>False) { s with heap:=h,toks:=tk })
  (h:∀ h' tk (out:List Value) (c:Nat) (qs:List (Int × Int)),But a s.heap h'->h'.get? a=some (seqObj "list" out.toArray c)->IntsAre out (qs.map (·.2))->qs.Perm (kz.zip ps)->qs.Pairwise (fun x y=>x.1<y.1 \/ (x.1=y.1/\x.2<=y.2))->P (.done (.ret .none)) { s with heap:=h',toks:=tk }) :
  wpAny (model prog w) A (ksk_rest a (.ref f) false vs.toArray e1 (.ref kS)) P E { s with heap:=h0,toks:=tk }:=by
 have sl:=jX
 unfold ksk_rest
 refine wpAny_bind (wpAny_rule ?_)
 rw [List.forIn_toArray]
 refine wpAny_bind (ksk_fold (fun i s'=>∃ h' tk kA e,s'={ s with heap:=h',toks:=tk }/\But a s.heap h'/\h'.get? a=some (seqObj "list" #[] e1)/\h'.get? kS=some (seqObj "list" kA e)/\IntsAre kA.toList (kz.take i)) vs 0 _
  ⟨h0,tk,#[],0,rfl,hb,na,nk,by simpa using IntsAre.nil⟩ ?step ?done)
 case step=>
  rintro j x s' hx ⟨h',tk,kA,e,rfl,b',na',nk',hk⟩
  simp only [Nat.zero_add] at hk ⊢
  have hj:j<vs.length:=(List.getElem?_eq_some_iff.mp hx).1
  obtain ⟨k,hkj⟩:∃ k,kz[j]?=some k:=⟨_,List.getElem?_eq_getElem (by walk_at "o")⟩
  have hzA:kA.size<=vs.length:=by
   have h1:=hk.length
   rw [Array.length_toList,List.length_take] at h1
   walk_at "o"
  refine wpAny_bind (wpAny_attempt (wpAny_mono (turn j x k hx hkj h' tk b') (fun v s'' he=>?_) fun _ _ hF=>hF.elim))
  obtain ⟨g,tk2,t2,rfl,rfl,kp⟩:=he
  try dsimp only
  have nk2:=kp _ _ nk'
  have na2:=kp _ _ na'
  obtain ⟨c2,hc2⟩:∃ c2,(g.update kS (Obj.mapSeq (·.push (.int k t2)))).get? kS=some (seqObj "list" (kA.push (.int k t2)) c2):=⟨_,get?_update_seq nk2 (·.push (.int k t2))⟩
  have ek:kz.take (j+1)=kz.take j ++ [k]:=by rw [List.take_add_one,hkj];simp
  have ea:(kA.push (Value.int k t2)).toList=kA.toList ++ [Value.int k t2]:=by simp
  refine wpAny_bind (listUpdate_at nk2 rfl ?_ (by walk_at "o") (Nat.le_trans (Nat.le_of_eq (Array.size_push ..)) (by walk_at "o")))
  refine wpAny_pure ⟨rfl,_,_,kA.push (.int k t2),c2,rfl,fun b o hb' e'=>?_,(Heap.get?_update_ne _ _ _ _ (Ne.symm hka)).trans na2,hc2,by rw [ea,ek];exact ksk_snoc hk⟩
  have nb:b ≠ kS:=fun z=>by rw [z,hk0] at e';cases e'
  exact (Heap.get?_update_ne _ _ _ _ nb).trans (kp b o (b' b o hb' e'))
 case done=>
  rintro s' ⟨h',tk,kA,e,rfl,b',na',nk',hk⟩
  have hk':IntsAre kA.toList kz:=by
   have e3:kz.take (0+vs.length)=kz:=List.take_of_length_le (by walk_at "o")
   rw [e3] at hk
   exact hk
  try dsimp only
  refine wpAny_bind (listItems_at nk' rfl ?_)
  exact FN b' na' nk' hka hk0 hk' hI hinc hz hlen h
theorem A9 {a f:Addr}{n:Nat}{vs:List Value}{ps kz:List Int}{P:PySem.Fin->Shared->Prop}(ho:s.heap.get? a=some (seqObj "list" vs.toArray n))(hI:IntsAre vs ps)(hinc:ps.Pairwise (·<·))(hz:vs.length<=100000)(hlen:kz.length=vs.length)
  (turn:∀ (i:Nat) (v:Value) (k:Int),vs[i]?=some v->kz[i]?=some k->∀ (h:Heap) (tk:Nat),But a s.heap h ->
   wpAny (model prog w) A (call (.ref f) [v]) (fun u s'=>∃ h' tk' t',u=.int k t'/\s'={ s with heap:=h',toks:=tk' }/\∀ b o,h.get? b=some o->h'.get? b=some o) (fun _ _=>False) { s with heap:=h,toks:=tk })
  (h:∀ h' tk (out:List Value) (c:Nat) (qs:List (Int × Int)),But a s.heap h'->h'.get? a=some (seqObj "list" out.toArray c)->IntsAre out (qs.map (·.2))->qs.Perm (kz.zip ps)->qs.Pairwise (fun x y=>x.1<y.1 \/ (x.1=y.1/\x.2<=y.2))->P (.done (.ret .none)) { s with heap:=h',toks:=tk }) :
  wpAny (model prog w) A (ksk_tree a (.ref f) false) P E s:=by
 have sl:=jX
 have ha:a<s.heap.objs.size:=Heap.lt_size ho
 obtain ⟨e1,ho1⟩:∃ e1,(s.heap.update a (Obj.mapSeq fun _=>(#[]:Array Value))).get? a=some (seqObj "list" #[] e1):=⟨_,get?_update_seq ho fun _=>#[]⟩
 have b1:But a s.heap (s.heap.update a (Obj.mapSeq fun _=>(#[]:Array Value))):=fun b o hb e=>(Heap.get?_update_ne _ _ _ _ hb).trans e
 unfold ksk_tree
 refine wpAny_bind (listItems_at ho rfl (wpAny_bind (listUpdate_at ho rfl (wpAny_bind (seqEpoch_at ho1 rfl ?_)) (by rw [List.size_toArray];walk_at "o") (Nat.zero_le _))))
 refine wpAny_bind (wpAny_newTuple (wpAny_bind (wpAny_newList (wpAny_holding ?_) (Nat.zero_le _))) (by show vs.length<=_;walk_at "o"))
 have sz:((s.heap.update a (Obj.mapSeq fun _=>(#[]:Array Value))).push (seqObj "tuple" vs.toArray 0)).objs.size=s.heap.objs.size+1:=by rw [size_push',Heap.size_update]
 have kp:∀ b o,(s.heap.update a (Obj.mapSeq fun _=>(#[]:Array Value))).get? b=some o->(((s.heap.update a (Obj.mapSeq fun _=>(#[]:Array Value))).push (seqObj "tuple" vs.toArray 0)).push (seqObj "list" #[] 0)).get? b=some o:=fun b o e=>Heap.get?_push_of_some _ (Heap.get?_push_of_some _ e)
 show wpAny (model prog w) A (ksk_rest a (.ref f) false vs.toArray e1 (.ref ((s.heap.update a (Obj.mapSeq fun _=>(#[]:Array Value))).push (seqObj "tuple" vs.toArray 0)).objs.size)) P E { s with heap:=((s.heap.update a (Obj.mapSeq fun _=>(#[]:Array Value))).push (seqObj "tuple" vs.toArray 0)).push (seqObj "list" #[] 0) }
 refine Bs (s:=s) (tk:=s.toks) (h0:=((s.heap.update a (Obj.mapSeq fun _=>(#[]:Array Value))).push (seqObj "tuple" vs.toArray 0)).push (seqObj "list" #[] 0)) (kS:=((s.heap.update a (Obj.mapSeq fun _=>(#[]:Array Value))).push (seqObj "tuple" vs.toArray 0)).objs.size) (fun b o hb e=>kp b o (b1 b o hb e)) (kp _ _ ho1) (Heap.get?_push_size _ rfl) (by rw [sz];exact Nat.ne_of_gt (Nat.lt_succ_of_lt ha)) (Heap.get?_none_of_le (by rw [sz];exact Nat.le_succ _)) hI hinc hz hlen turn h
theorem X7 {r f:Addr}{n:Nat}{a b:Int}{t u v:Tok}{kz:List Int}{Q:Value->Shared->Prop}(hh:A.handled=none)(hr:IsRange s.heap r a b 1 t u v)(hsmall:Builtin.Range.small a b 1=true)(hn:Builtin.Range.rangeSize a b 1=n)(hz:n<=100000)(hlen:kz.length=n)
  (turn:∀ (i:Nat) (t:Tok) (k:Int),i<n->kz[i]?=some k->∀ (s':Shared),s'.gens=s.gens->s'.os=s.os->(∀ b o,s.heap.get? b=some o->s'.heap.get? b=some o) ->
   wpAny (model prog w) A.in1.in1 (call (.ref f) [.int (a+i) t]) (fun u s''=>∃ h' tk' t',u=.int k t'/\s''={ s' with heap:=h',toks:=tk' }/\∀ b o,s'.heap.get? b=some o->h'.get? b=some o) (fun _ _=>False) s')
  (h:∀ h' tk D (out:List Value) (c:Nat) (qs:List (Int × Int)),(∀ b o,s.heap.get? b=some o->h'.get? b=some o)->s.heap.objs.size<=D->h'.get? D=some (seqObj "list" out.toArray c)->IntsAre out (qs.map (·.2))->qs.Perm (kz.zip (zr a 1 n))->qs.Pairwise (fun x y=>x.1<y.1 \/ (x.1=y.1/\x.2<=y.2))->Q (.ref D) { s with heap:=h',toks:=tk }) :
  wpAny (model prog w) A (call (.builtin "sorted") [.ref r] [(Str.ofString "key",.ref f)]) Q E s:=by
 have sl:=jX
 refine call_function_entry_kw kind_sorted plain_sorted entry_sorted (ksk_s1 _ _) ?_
 unfold Builtin.«sorted»
 refine wpAny_bind (m:=checkCount "sorted" 1 1 _) (wpAny_pure ?_)
 refine wpAny_bind (Jp (A:=A.in1) hh hr hsmall hn (by walk_at "o") fun h1 tk1 acc hk1 hs1 hit=>?_)
 have hvl:acc.toList.length=n:=by rw [Array.length_toList];exact hit.1
 have hI:IntsAre acc.toList (zr a 1 n):=xV (v8 hit)
 refine wpAny_bind (wpAny_newList ?_ (by rw [hvl];walk_at "o"))
 have hoL:(h1.push (seqObj "list" acc.toList.toArray 0)).get? h1.objs.size=some (seqObj "list" acc.toList.toArray 0):=Heap.get?_push_size _ rfl
 have hk2:∀ b o,s.heap.get? b=some o->(h1.push (seqObj "list" acc.toList.toArray 0)).get? b=some o:=fun b o e=>Heap.get?_push_of_some _ (hk1 b o e)
 refine wpAny_bind (wpAny_holding (wpAny_call_entry_kw slot_list_sort ⟨_,hoL,rfl⟩ entry_list_sort ?body (ksk_l1 _ _)))
 case body=>
  show wpAny (model prog w) A.in1.in1 (Builtin.«list.sort» ⟨[.ref h1.objs.size],[(Str.ofString "key",.ref f)]⟩) _ _ _
  rw [ksk_t1]
  refine A9 (s:={ s with heap:=h1.push (seqObj "list" acc.toList.toArray 0),toks:=tk1 }) hoL hI ?_ (by rw [hvl];exact hz) (by rw [hvl];exact hlen) (fun i v k hv hk h' tk hb=>?_) fun h' tk out c qs hb hD hi hp hq=>⟨_,rfl,?_⟩
  ·unfold zr
   rw [List.pairwise_map]
   exact List.pairwise_lt_range.imp fun h=>by walk_at "o"
  ·have hi:i<n:=by have:=(List.getElem?_eq_some_iff.mp hv).1;walk_at "o"
   obtain ⟨t',rfl⟩:=hit.2 i v (by rw [<- Array.getElem?_toList];exact hv)
   rw [Int.mul_one]
   exact turn i t' k hi hk { s with heap:=h',toks:=tk } rfl rfl fun b o e=>hb b o (Nat.ne_of_lt (Nat.lt_of_lt_of_le (Heap.lt_size e) (Nat.le_of_lt hs1))) (hk2 b o e)
  ·exact wpAny_pure ⟨_,rfl,h _ _ _ out c qs (fun b o e=>hb b o (Nat.ne_of_lt (Nat.lt_of_lt_of_le (Heap.lt_size e) (Nat.le_of_lt hs1))) (hk2 b o e)) (Nat.le_of_lt hs1) hD hi hp hq⟩
end
end L2
namespace L2
open PySem PySem.Spec PyProof.Rows PySem.W
noncomputable def X4 (pos:Pos)(q:Str):Array Value->Addr->Obj->Prop:=fun ps c oc=>ps=#[rawInt pos.line,rawInt pos.col,.ref c]/\∃ vs t,oc.data=.fields vs/\vs[1]?=some (.str q t)
noncomputable def W1 (R:Array Value->Addr->Obj->Prop)(P:Addr)(H:Hp):Prop:=∃ ps,H P=some (.tbl ps)/\(ps=#[] \/ ∃ c oc u,R ps c oc/\H c=some (.frz oc u))
section
variable {X:Cx}{pins:List (Addr × Obj)}{σ:St}{H:Hp}{s:Shared}
theorem Inv.tabbed {t':Nat}{h':Heap}{P c:Addr}{ps more:Array Value}{oc:Obj}(I:Inv X pins σ H s)(hP:H P=some (.tbl ps))(hx:Heap.ExtBut P s.heap h')(hc:s.heap.objs.size<=c)(hoc:h'.get? c=some oc)(hp':h'.get? P=some (tabObj (ps ++ more))) :
  Inv X pins σ (upd (upd H P (.tbl (ps ++ more))) c (.frz oc (.own 0))) { s with heap:=h',toks:=t' }:=by
 have fc:=I.hok.fresh hc
 have ncP:P ≠ c:=zi hP fc
 have at_:∀ b,b ≠ P->b ≠ c->upd (upd H P (.tbl (ps ++ more))) c (.frz oc (.own 0)) b=H b:=fun b h1 h2=>(zk h2).trans (zk h1)
 have nP:∀ b,H b=none->b ≠ P:=fun b n z=>by rw [z,hP] at n;cases n
 have ltc:∀ b o,s.heap.get? b=some o->b ≠ c:=fun b o e=>Nat.ne_of_lt (Nat.lt_of_lt_of_le (Heap.lt_size e) hc)
 have eP:upd (upd H P (.tbl (ps ++ more))) c (.frz oc (.own 0)) P=some (.tbl (ps ++ more)):=(zk ncP).trans zl
 have ne2:∀ b u,H b=some u->(∀ qs,u ≠ .tbl qs)->upd (upd H P (.tbl (ps ++ more))) c (.frz oc (.own 0)) b=some u:=fun b u e hu=>(at_ b (fun z=>by rw [z,hP] at e;cases e;exact hu _ rfl) (zi e fc)).trans e
 refine I.un ⟨fun b o e n _ _=>hx b o (nP b n) e,fun b o e n _ _=>⟨o.slots,hx b o (nP b n) e⟩,fun b o e n _=>(at_ b (nP b n) (ltc b o e)).trans n,fun b o e _=>?_,fun b xs e=>ne2 b _ e (fun _ z=>nomatch z),fun b o u e=>ne2 b _ e (fun _ z=>nomatch z),fun b qs e=>?_⟩ fun b u e=>?_
 ·by_cases hb:b=P
  ·exact ⟨_,by rw [hb];exact hp'⟩
  ·exact ⟨o,hx b o hb e⟩
 ·by_cases hb:b=P
  ·subst hb;rw [hP] at e;cases e;exact ⟨more,eP⟩
  ·exact ⟨#[],by rw [at_ b hb (zi e fc),e];simp⟩
 ·by_cases hb:b=P
  ·subst hb;rw [eP] at e;cases e;exact hp'
  ·by_cases hb2:b=c
   ·subst hb2;rw [zl] at e;cases e;exact ⟨hoc,_,hoc⟩
   ·rw [at_ b hb hb2] at e
    refine (I.hok b u e).stay (fun d v hd r=>hx d v (fun z=>?_) r) (fun d r=>ne2 d _ r (fun _ z=>nomatch z)) fun d xs r=>ne2 d _ r (fun _ z=>nomatch z)
    rcases hd with rfl | hd
    ·exact hb z
    ·rw [z,hP] at hd;cases hd
end
section
variable {X:Cx}
noncomputable def tGS (K:PySem.W.Frag)(R:Array Value->Addr->Obj->Prop)(P:Addr)(i:Nat)(t:TA):TE:=fun σ H Q=>t σ H fun vs H1=>∃ r a n ns,vs=[.ref r]/\H1 r=some (wf r 0 (n:Nat) 1)/\σ[i]?=some (some (.ref a))/\(SqL K H1 a (List.map V.int ns) \/ SqT K H1 a (List.map V.int ns))/\ns.length=n/\n<=1000/\W1 R P H1 /\
 ∀ (H':Hp) (l:Addr) (qs:List (Int × Int)),(∀ b o,b ≠ P->H1 b=some o->H' b=some o)->H1 l=none->H' l=some (.lst ((qs.map (·.2)).map V.int))->W1 R P H'->(∀ c oc u ps,H' P=some (.tbl ps)->R ps c oc->H' c=some (.frz oc u)->H1 c=none \/ (H1 P=some (.tbl ps)/\H1 c=some (.frz oc u)))->qs.Perm (ns.zip (zr 0 1 n))->qs.Pairwise (fun x y:Int × Int=>x.1<y.1 \/ (x.1=y.1/\x.2<=y.2))->Q (.ref l) H'
theorem WH {k i:Nat}{c P:Addr}{kx px:Str}{params:Arguments}{lscope:Scope}{p pos lpos kpos p1 p2 p3:Pos}{e:Expr}{t:TA}
  (hr:qZ (k+2) X.A) (hg:Gl X "sorted") (hm:X.mg "sorted"=none) (ha:PA X [e] t) (hN:X.N[i]?=some kx) (hvis:X.env.scope.names.lookup kx=some .cell)
  (hcode:X.env.code=.ref c) (CH:CodeHd X.base c P) (BH:X.base.BuiltinsAt X.mg P) (hgP:mainGlobals ≠ P)
  (hdef:defaultsOf params X.env=([],[])) (hln:lscope.names=[(px,.local),(kx,.free)]) (hlk:lscope.kind=.function) (hlc:lscope.isCoroutine=false) (hlg:lscope.isGenerator=false)
  (hbind:∀ (nm qual:Str) (cl:List (Str × Addr)) (pm ctv:Value) (c':Addr) (v:Value),bindArgs (kla_fn nm qual params (.Subscript (.Name kx p1) (.Name px p2) p3) lscope cl pm (.ref c') ctv) ⟨[v],[]⟩=pure [(px,v)])
  (hne:px ≠ kx) (hcx:(kx == ("__classdict__":Str))=false) (hd1:(kx == ("__debug__":Str))=false) (hd2:(px == ("__debug__":Str))=false)
  (hsub:∀ o v,subscripted (.Name px p2) false o v=operate [o,v] (getItem o v))
  (he:backTo pos (starEach [e] X.env)=(false,eval e X.env) :: backTo pos (starEach [] X.env):=by rfl) (hpl:(backTo pos (starEach [e] X.env)).any (·.1)=false:=by rfl)
  (hall:(backToKw pos (keywordEach [⟨some "key",.Lambda params (.Subscript (.Name kx p1) (.Name px p2) p3) lscope lpos,kpos⟩] X.env)).all (·.1.isSome)=true:=by rfl) (hkw:(backToKw pos (keywordEach [⟨some "key",.Lambda params (.Subscript (.Name kx p1) (.Name px p2) p3) lscope lpos,kpos⟩] X.env)).any (·.1.isNone)=false:=by rfl)
  (hks:(backToKw pos (keywordEach [⟨some "key",.Lambda params (.Subscript (.Name kx p1) (.Name px p2) p3) lscope lpos,kpos⟩] X.env)).filterMap (·.1)=[Str.ofString "key"]:=by rfl) :
  PE X (.Call (.Name "sorted" p) [e] [⟨some "key",.Lambda params (.Subscript (.Name kx p1) (.Name px p2) p3) lscope lpos,kpos⟩] pos) (tGS X.K (X4 lpos (X.env.qual ++ "<lambda>")) P i t):=by
 intro pins s σ H Q I h
 refine wpAny_Call_Name_kw (kJ I hg hm yv ?_)
 refine callWith_kw (thn (ha pos pins s σ H _ I h) fun us s1 ⟨vs,H1,I1,r1,q1⟩=>?_) he hpl hall hkw
 obtain ⟨r,a,n,ns,rfl,hR,hσ,hq,hn,hz,⟨ps,hP,htab⟩,q⟩:=q1
 obtain ⟨u,rfl,ru⟩:=jK r1
 cases ru
 obtain ⟨m,hns,hloc⟩:=I1.loc
 obtain ⟨uk,ruk,hlook⟩:=hloc i kx _ hN hσ (.inr (.inl hvis))
 cases ruk
 rcases hlook with ⟨hk1,_⟩ | ⟨_,cell,hcl,hcell⟩
 ·exact absurd (hk1.symm.trans hvis) (by decide)
 rw [hks]
 have hclos:closureFor lscope X.env=pure [(kx,cell)]:=by
  unfold closureFor cellOf
  rw [hln]
  simp [hcl]
 have hPh:s1.heap.get? P=some (tabObj ps):=I1.hok P _ hP
 have C:=CH.keeps I1.bk
 have hG:=I1.mod.glob.keeps I1.bk
 have hB:s1.heap.BuiltinsAt X.mg P:=by
  obtain ⟨bm,ob,b1,b2,b3,b4,b5,b6⟩:=BH
  exact ⟨bm,ob,b1,b2,b3,b4,I1.bk _ _ b5,b6⟩
 have hRng:=I1.hok r _ hR
 obtain ⟨⟨t1,t2,t3,hrg⟩,_⟩:=hRng
 have hgt:∃ its:List Value,zu (List.map V.int ns) its/\∀ (A:Around) (E:Value->Shared->Prop) (s':Shared) (value:Expr) (i:Nat) (t:Tok) (x:Value) (Q:Value->Shared->Prop),(∀ b o,b ≠ P->s1.heap.get? b=some o->s'.heap.get? b=some o)->its[i]?=some x->Q x s'->wpAny (model X.prog X.w) A (subscriptTail value (.Name px p2) (.ref a) (.int (i:Nat) t)) Q E s':=by
  have nl:=vP
  have ss:=jX
  rcases hq with hq | hq
  ·obtain ⟨its,rv,⟨o,nn,e1,e2,e3,e4⟩,hzz⟩:=I1.list hq
   refine ⟨its,rv,fun A E s' value i t x Q hk hx hQ=>?_⟩
   have hnP:a ≠ P:=fun z=>by rw [z,hPh] at e1;cases e1;cases e2
   have hi:i<its.length:=(List.getElem?_eq_some_iff.mp hx).1
   have hle:=rv.length
   exact item_listR (PlainL.isList ⟨o,nn,hk _ _ hnP e1,e2,e3,e4⟩) (Int.natCast_nonneg _) (by walk_at "o") (by simpa using hx) hQ (hsub _ _)
  ·obtain ⟨its,rv,⟨o,e1,e2,nn,e4⟩,hzz⟩:=I1.tuple hq
   refine ⟨its,rv,fun A E s' value i t x Q hk hx hQ=>?_⟩
   have hnP:a ≠ P:=fun z=>by rw [z,hPh] at e1;cases e1;cases e2
   have hi:i<its.length:=(List.getElem?_eq_some_iff.mp hx).1
   have hle:=rv.length
   have pl:IsTup s'.heap a its.toArray:=⟨o,hk _ _ hnP e1,e2,nn,e4⟩
   exact subscriptTail_builtinR (x:=x) pl.typeIs slot_tuple_getitem.lookup (getItem_tuple (j:=i) (Q:=fun r s'=>r=x/\Q r s') pl (by walk_at "o") (by walk_at "o") (by rw [List.size_toArray,seqIndex_of (Int.natCast_nonneg _) (by walk_at "o")];simp) (by simpa using hx) ⟨rfl,hQ⟩) (hsub _ _)
 obtain ⟨its,rv,hget⟩:=hgt
 obtain ⟨oc,hoc1,hoc2⟩:=hcell
 have ncP:cell ≠ P:=fun z=>by rw [z,hPh] at hoc1;cases hoc1;cases hoc2
 have nrP:r ≠ P:=fun z=>by rw [z,hPh] at hrg;cases hrg
 have run:∀ (H2:Hp) (h2:Heap) (tk:Nat) (f c':Addr) (pm ctv:Value),Inv X pins σ H2 { s1 with heap:=h2,toks:=tk }->(∀ b o,b ≠ P->s1.heap.get? b=some o->h2.get? b=some o)->h2.get? f=some (kla_obj "<lambda>" (X.env.qual ++ "<lambda>") params (.Subscript (.Name kx p1) (.Name px p2) p3) lscope [(kx,cell)] pm c' ctv)->h2.CodeRec (.ref c') (X.env.qual ++ "<lambda>") ->
   (∀ b o,b ≠ P->H1 b=some o->H2 b=some o)->W1 (X4 lpos (X.env.qual ++ "<lambda>")) P H2->(∀ d oc u qs,H2 P=some (.tbl qs)->X4 lpos (X.env.qual ++ "<lambda>") qs d oc->H2 d=some (.frz oc u)->H1 d=none \/ (H1 P=some (.tbl qs)/\H1 d=some (.frz oc u))) ->
   wpAny (model X.prog X.w) X.A (call (.builtin "sorted") [.ref r] [("key",.ref f)]) (EP X pins σ Q) X.xe { s1 with heap:=h2,toks:=tk }:=by
  intro H2 h2 tk f c' pm ctv I2 hx hf hcr hkH hT hfr
  have ss:=jX
  have hrr:=hr.in1.in1
  refine X7 (s:={ s1 with heap:=h2,toks:=tk }) (n:=n) (kz:=ns) hr.hd (hx _ _ nrP hrg) (small_one (by walk_at "o") (by walk_at "o") (by walk_at "o") (by walk_at "o")) (by simp [Builtin.Range.rangeSize];walk_at "o") (by walk_at "o") hn (fun i t k hi hk s' hg1 hg2 hks=>?_) fun h' tk' D out cc qs hk hD hDo hI hp hpw=>?_
  ·obtain ⟨x,ex,rx⟩:=rv.get (show (List.map V.int ns)[i]?=some (.int k) by rw [List.getElem?_map,hk];rfl)
   obtain ⟨tx,rfl⟩:=rx
   have hkk:∀ b o,b ≠ P->s1.heap.get? b=some o->s'.heap.get? b=some o:=fun b o hb e=>hks b o (hx b o hb e)
   rw [Int.zero_add]
   refine Bh (uk:=.ref a) (x:=.int k tx) (cell:=cell) (cl:=[(kx,cell)]) (hks _ _ hf) (hcr.keeps hks) hrr.depth (I2.nolimit.keeps hks) (hbind _ _ _ _ _ _ _) hlk hlc hlg ?_ ?_ ?_ ?_ ⟨oc,hkk _ _ ncP hoc1,hoc2⟩ hcx hd1 hd2 (fun A E s'' value Q hk2 hQ=>hget A E s'' value i t _ Q (fun b o hb e=>hk2 b o (hkk b o hb e)) ex hQ) fun h'' tk'' hk2=>⟨h'',tk'',tx,rfl,rfl,hk2⟩
   ·rw [hln];intro y hy;simp at hy;rcases hy with rfl | rfl <;> simp
   ·rw [hln];simp [List.lookup]
   ·rw [hln];simp only [List.lookup];rw [show (kx == px)=false from beq_eq_false_iff_ne.mpr (Ne.symm hne)];simp
   ·simp [List.lookup]
  ·have hl0:H2 D=none:=I2.hok.fresh hD
   have hnP:P ≠ D:=by
    obtain ⟨ps',hP',_⟩:=hT
    exact zi hP' hl0
   refine ⟨.ref D,_,I2.laid (t':=tk') (o:=.lst ((qs.map (·.2)).map V.int)) hk hD ⟨?_,out,cc,jA hI,hDo⟩,rfl,q _ D qs (fun b o hb e=>(zk (zi (hkH b o hb e) hl0)).trans (hkH b o hb e)) ?_ zl ?_ ?_ hp hpw⟩
   ·rw [List.length_map,List.length_map,hp.length_eq,List.length_zip,hn];simp [zr];walk_at "o"
   ·cases e:H1 D with
    | none=>rfl
    | some o=>
     by_cases hb:D=P
     ·exact absurd hb.symm hnP
     ·exact (by rw [hkH D o hb e] at hl0;cases hl0)
   ·obtain ⟨ps',hP',ht'⟩:=hT
    exact ⟨ps',(zk hnP).trans hP',ht'.imp id fun ⟨c,oc,u,h1,h2⟩=>⟨c,oc,u,h1,(zk (zi h2 hl0)).trans h2⟩⟩
   ·intro d oc u ps' h1 h2 h3
    rw [zk hnP] at h1
    by_cases hb:d=D
    ·rw [hb,zl] at h3;cases h3
    ·rw [zk hb] at h3
     exact hfr d oc u ps' h1 h2 h3
 show wpAny _ _ (evalAll [do let v <- eval (.Lambda params (.Subscript (.Name kx p1) (.Name px p2) p3) lscope lpos) X.env;standAt pos;pure v]) _ _ s1
 refine wpAny_evalAll_cons (wpAny_bind ?_)
 refine kla_eval hdef ?_
 rcases htab with rfl | ⟨d,od,u,⟨rfl,vs,tt,hod,hv1⟩,hd⟩
 ·refine kla_makeFunction (mg:=X.mg) hclos I1.ok.glob hG hcode C hPh trivial rfl hgP hB fun c' ctv h' tk hx hge hlt hrec htb=>?_
  obtain ⟨_,oc',vs,tt,rfl',hoc',hod',hv1⟩:=id hrec
  cases rfl'
  have I2:=I1.tabbed (t':=tk) hP hx hge hoc' htb
  have I3:=I2.kept (h':=h'.push (kla_obj "<lambda>" (X.env.qual ++ "<lambda>") params (.Subscript (.Name kx p1) (.Name px p2) p3) lscope [(kx,cell)] ((X.mg "__name__").getD .none) c' ctv)) (t':=tk) fun b o e=>Heap.get?_push_of_some _ e
  have fc:=I1.hok.fresh hge
  have ncP':P ≠ c':=zi hP fc
  refine wpAny_bind (wpAny_standAt (wpAny_pure (wpAny_pure ?_)))
  refine run _ (h'.push _) tk _ c' _ ctv I3 (fun b o hb e=>Heap.get?_push_of_some _ (hx b o hb e)) (Heap.get?_push_size _ rfl) (hrec.push _) (fun b o hb e=>(zk (zi e fc)).trans ((zk hb).trans e)) ⟨_,(zk ncP').trans zl,.inr ⟨c',oc',_,⟨by simp,vs,tt,hod',hv1⟩,zl⟩⟩ ?_
  intro d od u qs h1 h2 h3
  rw [zk ncP',zl] at h1
  cases h1
  obtain ⟨h2,_⟩:=h2
  have:c'=d:=by simpa using h2
  exact .inl (this ▸ fc)
 ·have hdo:=(I1.hok d _ hd).1
  have hrec:s1.heap.CodeRec (.ref d) (X.env.qual ++ "<lambda>"):=⟨d,od,vs,tt,rfl,hdo,hod,hv1⟩
  have hca:codeAmong lpos (#[rawInt lpos.line,rawInt lpos.col,Value.ref d]:Array Value).toList=some (.ref d):=codeAmong_snoc (pos:=lpos) (c:=.ref d) [] trivial rfl
  refine kla_makeFunctionHit (mg:=X.mg) hclos I1.ok.glob hG hcode C hPh (TriplesOk_snoc _ _ _ [] trivial) hca hB fun ctv h' tk hk hsz=>?_
  refine wpAny_bind (wpAny_standAt (wpAny_pure (wpAny_pure ?_)))
  have I3:=I1.kept (h':=h'.push (kla_obj "<lambda>" (X.env.qual ++ "<lambda>") params (.Subscript (.Name kx p1) (.Name px p2) p3) lscope [(kx,cell)] ((X.mg "__name__").getD .none) d ctv)) (t':=tk) fun b o e=>Heap.get?_push_of_some _ (hk b o e)
  refine run _ (h'.push _) tk _ d _ ctv I3 (fun b o hb e=>Heap.get?_push_of_some _ (hk b o e)) (Heap.get?_push_size _ rfl) ((hrec.keeps hk).push _) (fun b o hb e=>e) ⟨_,hP,.inr ⟨d,od,u,⟨rfl,vs,tt,hod,hv1⟩,hd⟩⟩ fun d' od' u' qs h1 h2 h3=>.inr ⟨h1,h3⟩
end
noncomputable def aGS (pos:Pos)(qn:Str)(P:Addr)(i:Nat)(b:AA):AE:=fun ρ M Q=>b ρ M fun xs M1=>∃ (n:Nat) (x:AV) (ns:List Int),xs=[.d (.rng 0 n 1)]/\ρ[i]?=some (some x)/\zN x M1=some (ns.map fun k=>AV.d (.int k))/\ns.length=n/\n<=1000/\M1 P=some (.tb (X4 pos qn)) /\
 ∀ qs:List (Int × Int),qs.Perm (ns.zip (zr 0 1 n))->qs.Pairwise (fun x y:Int × Int=>x.1<y.1 \/ (x.1=y.1/\x.2<=y.2))->Q (.d (.lst ((qs.map (·.2)).map Dat.int))) M1
theorem DG {K:PySem.W.Frag}{pos:Pos}{qn:Str}{P:Addr}{i:Nat}{t:TA}{b:AA}(h:kj t b):zU (tGS K (X4 pos qn) P i t) (aGS pos qn P i b):=
 ⟨fun {σ H O ρ M Q Q'} w e q k=>h.go w e q fun xs M1 vs H1 O1 q1 k1 w1 r1=>by
  obtain ⟨n,x,ns,rfl,hx,hs,hn,hz,hM,q2⟩:=q1
  obtain ⟨v,rfl,rv⟩:=qG r1
  obtain ⟨a,rfl,hra⟩:∃ a,v=.ref a/\H1 a=some (wf a 0 (n:Nat) 1):=by cases rv with | rng _ e=>exact ⟨_,rfl,e⟩
  obtain ⟨u,hu,ru⟩:=(e.ext k1).get i x hx
  obtain ⟨l,xs,rfl,hl,rl⟩:=yG w1 ru hs
  rw [jo rl] at hl
  have nP:M1 P ≠ none:=by rw [hM];exact fun z=>nomatch z
  have oP:O1 P:=w1.own P nP
  obtain ⟨ps,hP,htb⟩:=w1.mo P _ hM
  refine ⟨a,l,n,ns,rfl,hra,hu,hl.imp SqL.of SqT.of,hn,hz,⟨ps,hP,htb.imp id fun ⟨c,oc,u,h1,_,h2⟩=>⟨c,oc,u,h1,h2⟩⟩,fun H' d qs hk hd0 hd hT hfr hp hpw=>?_⟩
  have kx:Ext H1 O1 M1 H' O1 M1:=⟨fun b o hb e=>⟨hk b o (fun z=>hb (z ▸ oP)) e,hb⟩,fun b hb e=>by
   obtain ⟨o,eo,_⟩:=w1.al b hb
   exact ⟨(hk b o (fun z=>nP (z ▸ e)) eo).trans eo.symm,hb,e⟩,fun _ z=>z⟩
  have w':Wf H' O1 M1:=by
   refine ⟨fun b mo e=>?_,w1.own,fun b hb=>?_⟩
   ·by_cases hb:b=P
    ·subst hb
     rw [hM] at e;cases e
     obtain ⟨ps',hP',ht'⟩:=hT
     refine ⟨ps',hP',ht'.imp id fun ⟨c,oc,u,h1,h2⟩=>⟨c,oc,u,h1,?_,h2⟩⟩
     rcases hfr c oc u ps' hP' h1 h2 with h3 | ⟨h3,h4⟩
     ·exact (w1.fresh h3).1
     ·rw [hP] at h3;cases h3
      rcases htb with rfl | ⟨c0,oc0,u0,h5,h6,_⟩
      ·exact absurd h1.1 (by simp)
      ·have:c=c0:=by have:=h1.1.symm.trans h5.1;simpa using this
       exact this ▸ h6
    ·obtain ⟨o,eo,_⟩:=w1.al b (w1.own b (by rw [e];exact fun z=>nomatch z))
     exact jq.ext kx ((hk b o hb eo).trans eo.symm) (w1.mo b mo e)
   ·by_cases hb2:b=P
    ·subst hb2
     obtain ⟨ps',hP',_⟩:=hT
     exact ⟨_,hP',fun xs z=>nomatch z⟩
    ·obtain ⟨o,eo,ho⟩:=w1.al b hb
     exact ⟨o,hk b o hb2 eo,ho⟩
  refine k _ _ _ _ _ (q2 qs hp hpw) (k1.trans kx) w' (Rep.lst (w1.fresh hd0).1 hd (by simp) fun j y z e1 e2=>?_)
  rw [List.getElem?_map] at e1 e2
  cases hj:(qs.map (·.2))[j]? with
  | none=>rw [hj] at e1;cases e1
  | some g=>rw [hj] at e1 e2;cases e1;cases e2;exact .int⟩
end L2
namespace L2
open PySem PySem.Spec PyProof.Rows PySem.W
noncomputable def AtC (K:PySem.W.Frag)(mg:Str->Option Value)(x:Str)(st:Stmt)(c:Addr):Prop:=∃ f fd,Fun K x x st f fd/\mg x=some (.ref f)/\fd.code=.ref c
theorem Fv {P:Program}{w:World}{K:PySem.W.Frag}{mg:Str->Option Value}{base:Heap}{x:Str}{st:Stmt}{c:Addr}{N ps:List Str}{k:Nat}{sp:Sp}(a:AtC K mg x st c)(S:zy N ps (zj st))
  (hb:∀ (kV doc pm:Value) (an:Option Addr) (cdv ct:Value) (us:List Value),us.length=ps.length->bindArgs (PySem.W.fnOf x x (jg st) (qq st) (zj st) .none kV doc pm an cdv ct) ⟨us,[]⟩=pure (ps.zip us))
  (len:∀ vs H Q E,sp vs H Q E->vs.length=ps.length)
  (hbody:∀ (f:Addr) (A:Around) (outer:List Env) (s:Shared) (H:Hp) (vs:List V) (Q:VK) (E:XK),qZ k (A.deeper (envOfC x (zj st) s.heap.objs.size f (.ref c)))->sp vs H Q E ->
   ∃ t,PSs (vQ CX0 P w K mg base N x (zj st) f (.ref c) A outer s H E).nox (qq st) t/\t { nx:=fun _ H'=>Q .non H',rt:=Q } (jb N vs) H):Df P w K mg base x ps (k+1) sp:=by
 obtain ⟨f,fd,F,m,hc⟩:=a
 obtain ⟨oc,od,kV,doc,pm,an,cdv,ct,osl,e,lk,hcd⟩:=id F.ex
 obtain rfl:cdv=.ref c:=by rw [e] at hc;exact hc
 refine ⟨f,fd,?_,F.binds hb,F.kp,m,oc,od,osl,lk⟩
 subst e
 refine DA lk hcd S len fun A outer s H vs Q E hr hsp=>?_
 obtain ⟨t,h,q⟩:=hbody f A outer s H vs Q E hr hsp
 exact ⟨t,h.nox,q⟩
theorem GU {P:Program}{w:World}{K:PySem.W.Frag}{mg:Str->Option Value}{base:Heap}{x:Str}{st:Stmt}{c:Addr}{N ps:List Str}{k:Nat}{a:ASp}(at_:AtC K mg x st c)(S:zy N ps (zj st))
  (hb:∀ (kV doc pm:Value) (an:Option Addr) (cdv ct:Value) (us:List Value),us.length=ps.length->bindArgs (PySem.W.fnOf x x (jg st) (qq st) (zj st) .none kV doc pm an cdv ct) ⟨us,[]⟩=pure (ps.zip us))
  (len:∀ xs M Q,a xs M Q->xs.length=ps.length)
  (hbody:∀ (f:Addr) (A:Around) (outer:List Env) (s:Shared) (H:Hp) (E:XK),qZ k (A.deeper (envOfC x (zj st) s.heap.objs.size f (.ref c))) ->
   ∃ t,PSs (vQ CX0 P w K mg base N x (zj st) f (.ref c) A outer s H E).nox (qq st) t/\∃ b,jW t b/\∀ xs M Q,a xs M Q->b M { nx:=fun _ M'=>rtA M Q (.d .non) M',rt:=rtA M Q } (qi N xs) M):Df P w K mg base x ps (k+1) (cSp a):=by
 refine Fv at_ S hb (fun vs H Q E h=>?_) (fun f A outer s H vs Q E hr h=>?_)
 ·obtain ⟨xs,M,O,Q',w,r,q,_⟩:=h
  rw [r.1];exact len xs M Q' q
 ·obtain ⟨t,ht,b,hb,hq⟩:=hbody f A outer s H E hr
  refine ⟨t,ht,?_⟩
  obtain ⟨xs,M,O,Q',w,r,q,kk⟩:=h
  refine hb.go w w (QK r N) .refl (hq xs M Q' q) ⟨fun σ H' O' ρ M' w' e' x' q'=>?_,fun v y H' O' M' w' x' r' q'=>?_,fun _ _ _ _ _ _ _ _ z=>z.elim,fun _ _ _ _ _ _ _ _ z=>z.elim⟩
  ·obtain ⟨y',M'',f,q2⟩:=q'
   obtain ⟨O'',w2,k2,r2⟩:=yz w w' x' (show zq H' O' M' .non (.d .non) from .non) f
   exact kk _ _ _ _ _ q2 k2 w2 r2
  ·obtain ⟨y',M'',f,q2⟩:=q'
   obtain ⟨O'',w2,k2,r2⟩:=yz w w' x' r' f
   exact kk _ _ _ _ _ q2 k2 w2 r2
structure wV (mg:Str->Option Value)(base:Heap)(c P:Addr):Prop where
 ch:CodeHd base c P
 bh:base.BuiltinsAt mg P
 gp:mainGlobals ≠ P
noncomputable def vU (K:PySem.W.Frag)(mg:Str->Option Value)(x:Str)(c:Addr):Prop:=∀ f fd oc od sl,mg x=some (.ref f)->K.lookup f=some ⟨oc,od,.func fd,sl⟩->fd.code=.ref c
theorem At.code {K:PySem.W.Frag}{mg:Str->Option Value}{x:Str}{st:Stmt}{c:Addr}(a:At K mg x st)(h:vU K mg x c):AtC K mg x st c:=by
 obtain ⟨f,fd,F,m⟩:=a
 obtain ⟨oc,od,kV,doc,pm,an,cdv,ct,osl,e,lk,hcd⟩:=id F.ex
 exact ⟨f,fd,F,m,h f fd oc od osl m lk⟩
noncomputable def Xe (P:Addr)(H:Hp):Prop:=H P=some (.tbl #[])/\∀ b,b ≠ P->H b=none \/ ∃ o xs,H b=some (.frz o (.lst xs))
theorem XC {P:Program}{w:World}{K:PySem.W.Frag}{mg mb:Str->Option Value}{CX:CXT}{k:Nat}{fa a c T:Addr}{fd:FuncData}{x:Str}{sp:Sp}{s₁:Shared}{vs:List Value}{ns:List Int}
  (KX:K.In s₁.heap) (hns:s₁.heap.Ns mainGlobals mg) (hb:s₁.heap.Ns builtinsNs mb) (hbb:∀ x:Str,x ≠ "__name__"->mb x=bootBuiltins x) (hlim:s₁.heap.NoLimit) (hg:s₁.gens=#[])
  (hK0:K.lookup T=none) (hTh:s₁.heap.get? T=some (tabObj #[])) (hC:CodeHd s₁.heap c T) (hB:∃ bm ob,mg "__builtins__"=some (.ref bm)/\bm ≠ builtinsNs/\s₁.heap.get? bm=some ob/\ob.cls=.type "module"/\ob.dict=some builtinsNs/\ob.data=.plain)
  (ha:s₁.heap.get? a=some { cls:=.type "list",data:=.seq vs.toArray }) (hi:IntsAre vs ns) (hl:ns.length<=sizeLine) (hr:qZ k callerA)
  (F:∀ base:Heap,K.In base->base.Ns mainGlobals mg->wV mg base c T->kC P w K mg base CX k fa fd [x] sp) (hbind:∀ (s:Shared) (u:Value),BindsTo s fd ⟨[u],[]⟩ [(x,u)])
  (hsp:∀ H:Hp,Xe T H->SqL K H a (ns.map V.int)->sp [.ref a] H (fun v _=>v=.bl true) fun _ _ _=>False)
  (hCX:∀ H e s',CX [] H s₁ (fun _ _ _=>False) e s'->False) :
  codeAny (model P w) callerA (.call (.ref fa) ⟨[.ref a],[]⟩) (fun r s'=>r=.ok (.ret (.bool true))/\OldK s₁.heap s'.heap/\s'.os=s₁.os/\AllBare s'.gens) s₁:=by
 have rv:=jA hi
 have lenV:=hi.length
 have naT:a ≠ T:=fun z=>by rw [z,hTh] at ha;cases ha
 have core:∀ H:Hp,Xe T H->SqL K H a (ns.map V.int)->HOk P w H s₁.heap->(∀ b,H b ≠ none->b=a \/ b=T)->(H a ≠ none->K.lookup a=none) ->
   codeAny (model P w) callerA (.call (.ref fa) ⟨[.ref a],[]⟩) (fun r s'=>r=.ok (.ret (.bool true))/\OldK s₁.heap s'.heap/\s'.os=s₁.os/\AllBare s'.gens) s₁:=by
  intro H hO hS hok hA hK
  have base_of:∀ {b:Addr} {o:Obj},s₁.heap.get? b=some o->H b=none->(xW s₁.heap H).get? b=some o:=fun e n=>QX e n
  have noA:∀ {b:Addr} {o:Obj} {es:Array DictEntry} {ep:Nat},s₁.heap.get? b=some o->o.data=.dict es ep->H b=none:=fun {b o es ep} e d=>by
   cases q:H b with
   | none=>rfl
   | some u=>
    rcases hA b (by rw [q];simp) with e' | e'
    ·subst e'
     rw [ha] at e;cases e
     have d':Data.seq vs.toArray _=Data.dict es ep:=d
     cases d'
    ·subst e'
     rw [hTh] at e;cases e
     have d':Data.fields #[]=Data.dict es ep:=d
     cases d'
  have nsK:∀ {b:Addr} {m:Str->Option Value},s₁.heap.Ns b m->(xW s₁.heap H).Ns b m:=fun {b m} ⟨o,es,ep,e,d,r⟩=>⟨o,es,ep,base_of e (noA e d),d,r⟩
  have hKb:K.In (xW s₁.heap H):=fun b o e=>by
   have nb:b ≠ T:=fun z=>by rw [z,hK0] at e;cases e
   refine base_of (KX b o e) ?_
   cases q:H b with
   | none=>rfl
   | some u=>
    rcases hA b (by rw [q];simp) with e' | e'
    ·subst e'
     rw [hK (by rw [q];simp)] at e;cases e
    ·exact absurd e' nb
  have hM:Mod K mg (xW s₁.heap H):=⟨hKb,nsK hns,⟨mb,nsK hb,hbb⟩,let ⟨mc,h1,h2⟩:=hlim;⟨mc,nsK h1,h2⟩⟩
  have e0:Ad P w K mg (xW s₁.heap H) callerA [] s₁ H:=⟨rfl,hM,fun b o e=>K2 e,Nat.le_of_eq (wH _ _),trivial,fun b hb=>absurd (show b ∈ ([]:List Addr) from hb) (by simp),hok,.of_eq hg⟩
  have hL:wV mg (xW s₁.heap H) c T:=by
   obtain ⟨o,vs,file,tf,flags,tg,inF,text,tt,g1,g2,g3,g4⟩:=id hC
   have hcT:c ≠ T:=g4.2.2.2.2.2.2
   have hca:c ≠ a:=fun z=>by rw [z,ha] at g1;cases g1;simp at g2
   have free:∀ b,b ≠ a->b ≠ T->H b=none:=fun b h1 h2=>by
    cases q:H b with
    | none=>rfl
    | some u=>exact ((hA b (by rw [q];simp)).elim h1 h2).elim
   obtain ⟨bm,ob,b1,b2,b3,b4,b5,b6⟩:=hB
   have nba:bm ≠ a:=fun z=>by rw [z,ha] at b3;cases b3;simp at b4
   have nbT:bm ≠ T:=fun z=>by rw [z,hTh] at b3;cases b3;cases b4
   obtain ⟨go,ges,gep,ge,gd,gr⟩:=id hns
   have nbG:bm ≠ mainGlobals:=fun z=>by rw [z,ge] at b3;cases b3;rw [gd] at b6;cases b6
   have ngT:mainGlobals ≠ T:=fun z=>by rw [z,hTh] at ge;cases ge;cases gd
   exact ⟨⟨o,vs,file,tf,flags,tg,inF,text,tt,base_of g1 (free c hca hcT),g2,g3,g4⟩,⟨bm,ob,b1,b2,nbG,nbT,base_of b3 (free bm nba nbT),b4,b5,b6⟩,ngT⟩
  refine codeAny_mono ((F _ hKb (nsK hns) hL).run callerA [] s₁ H ⟨[.ref a],[]⟩ [.ref a] [.ref a] _ _ hr e0 (hbind s₁ (.ref a)) (.cons rfl .nil) (hsp H hO hS)) fun r s' h=>?_
  cases r with
  | error e=>exact (hCX H e s' h).elim
  | ok fl=>
   cases fl with
   | next=>exact False.elim h
   | brk=>exact False.elim h
   | cont=>exact False.elim h
   | ret u=>
    obtain ⟨v,H',os,bare,un,hok',r',q⟩:=h
    have q':v=.bl true:=q
    subst q'
    obtain rfl:u=Value.bool true:=r'
    obtain ⟨more,hm⟩:=un.tbls T _ hO.1
    have hT':s'.heap.get? T=some (tabObj (#[] ++ more)):=hok' T _ hm
    have keep:∀ b o,b ≠ T->s₁.heap.get? b=some o->s'.heap.get? b=some o:=fun b o hb e=>by
     cases q:H b with
     | none=>exact un.keep b o e q (by intro z;exact absurd (show b ∈ ([]:List Addr) from z) (by simp)) (by simp)
     | some u=>
      rcases hO.2 b hb with z | ⟨ob,xs,z⟩
      ·rw [q] at z;cases z
      ·have z2:=un.frzs b ob _ z
       obtain ⟨e1,_⟩:=hok b _ z
       obtain ⟨e2,_⟩:=hok' b _ z2
       rw [e] at e1;cases e1
       exact e2
    refine ⟨rfl,⟨fun b o e=>?_,fun b o e=>?_⟩,os,bare⟩
    ·by_cases hb:b=T
     ·subst hb
      rw [hTh] at e;cases e
      exact .inr (.inl ⟨(hC.tab hTh).isCodeTable,rfl,#[],more,rfl,hT'⟩)
     ·exact .inl (keep b o hb e)
    ·by_cases hb:b=T
     ·exact ⟨_,by rw [hb];exact hT'⟩
     ·exact ⟨o,keep b o hb e⟩
 cases hk:K.lookup a with
 | some o=>
  have e:=KX a o hk
  rw [ha] at e
  cases e
  refine core (fun b=>if b=T then some (.tbl #[]) else none) ⟨if_pos rfl,fun b hb=>.inl (if_neg hb)⟩ (.inr ⟨_,vs.toArray,_,hk,rfl,rfl,rfl,by rw [List.size_toArray,lenV];exact hl,by simpa using rv⟩) (fun b u z=>?_) (fun b z=>?_) fun z=>absurd (if_neg naT) z
  ·by_cases hb:b=T
   ·have z':=(if_pos hb).symm.trans z
    cases z'
    subst hb
    exact hTh
   ·have z':=(if_neg hb).symm.trans z
    cases z'
  ·by_cases hb:b=T
   ·exact .inr hb
   ·exact absurd (if_neg hb) z
 | none=>
  have at_a:(fun b=>if b=T then some (HO.tbl #[]) else if b=a then some (.frz { cls:=.type "list",data:=.seq vs.toArray } (.lst (ns.map V.int))) else none) a=some (.frz { cls:=.type "list",data:=.seq vs.toArray } (.lst (ns.map V.int))):=(if_neg naT).trans (if_pos rfl)
  refine core (fun b=>if b=T then some (.tbl #[]) else if b=a then some (.frz { cls:=.type "list",data:=.seq vs.toArray } (.lst (ns.map V.int))) else none) ⟨if_pos rfl,fun b hb=>?_⟩ (.inl (.inr ⟨{ cls:=.type "list",data:=.seq vs.toArray },at_a⟩)) (fun b u z=>?_) (fun b z=>?_) fun _=>hk
  ·by_cases hb2:b=a
   ·exact .inr ⟨_,_,(if_neg hb).trans (if_pos hb2)⟩
   ·exact .inl ((if_neg hb).trans (if_neg hb2))
  ·by_cases hb:b=T
   ·have z':=(if_pos hb).symm.trans z
    cases z'
    subst hb
    exact hTh
   ·by_cases hb2:b=a
    ·have z':=((if_neg hb).trans (if_pos hb2)).symm.trans z
     cases z'
     subst hb2
     exact ⟨ha,by rw [List.length_map];exact hl,vs,_,rv,ha⟩
    ·have z':=((if_neg hb).trans (if_neg hb2)).symm.trans z
     cases z'
  ·by_cases hb:b=T
   ·exact .inr hb
   ·by_cases hb2:b=a
    ·exact .inl hb2
    ·exact absurd ((if_neg hb).trans (if_neg hb2)) z
theorem YE {K:PySem.W.Frag}{h:Heap}{T:Addr}{ps:Array Value}(X:K.In h)(hK:noTabs K=true)(hT:h.get? T=some (tabObj ps)):K.lookup T=none:=by
 cases e:K.lookup T with
 | none=>rfl
 | some o=>
  have h1:=X _ _ e
  rw [hT] at h1;cases h1
  have h2:=List.all_eq_true.mp hK _ (mem_of_lookupK e)
  exact absurd (show false=true from h2) Bool.false_ne_true
theorem walk_ofT {l:PySem.W.OpenLaw}{n k:Nat}{q:Program}{loose:List Str}{XP:(Str->Option Value)->Heap->Prop}{YP:World->Heap->Prop}{d:DefRec}{K:Params->PySem.W.Frag}{CX:CXT}{sp:Addr->PySem.W.Frag->Sp}{x:Str}{gn:Str}
  (hn:l.most=some n) (hn2:n<=sizeLine) (hdf:d.params.defaults=[]) (hr:qZ k callerA)
  (hY:∀ (w:World) (h:Heap),YP w h->(K w.params).In h) (hgd:gn ∈ (recsOf q).map (·.name)) (hnt:∀ w:World,noTabs (K w.params)=true)
  (F:∀ (w:World) (mg:Str->Option Value) (fa c T:Addr) (h:Heap),(K w.params).In h->h.Ns mainGlobals mg->mg d.name=some (.ref fa)->vU (K w.params) mg gn c ->
   ∃ fd:FuncData,(∀ (s:Shared) (u:Value),BindsTo s fd ⟨[u],[]⟩ [(x,u)]) /\
    ∀ base:Heap,(K w.params).In base->base.Ns mainGlobals mg->wV mg base c T->kC l.prog w (K w.params) mg base CX k fa fd [x] (sp T (K w.params)))
  (hsp:∀ (T:Addr) (K:PySem.W.Frag) (H:Hp) (a:Addr) (ns:List Int),ns.length<=n->Xe T H->SqL K H a (ns.map V.int)->sp T K [.ref a] H (fun v _=>v=.bl true) fun _ _ _=>False)
  (hCX:∀ (H:Hp) (s:Shared) (e:Value) (s':Shared),CX [] H s (fun _ _ _=>False) e s'->False) :
  PySem.W.WalkO q loose XP YP l.row.toRowW d [] (fun f vs=>PySem.call f vs):=by
 refine Att.attach_call hn hdf fun w s₀ s₁ mg mb fa o pm cd doc a vs ns G Y ho hd hcd hmg hobj hints hlen hg=>?_
 have KX:=hY w _ Y
 obtain ⟨gd,hgm,rfl⟩:=List.mem_map.mp hgd
 obtain ⟨ga,go,gf,c,T,t1,t2,t3,t4,t5,t6⟩:=G.T.tab gd hgm
 have hca:vU (K w.params) mg gd.name c:=fun f fd oc od sl m lk=>by
  rw [t1] at m;cases m
  have:=KX _ _ lk
  rw [t2] at this;cases this
  cases t3
  exact t4
 obtain ⟨fd,hb,hF⟩:=F w mg fa c T _ KX G.T.g hmg hca
 exact XC KX G.T.g G.T.b G.T.builtins G.T.nolimit hg (YE KX (hnt w) t6.2) t6.2 (CodeHd.of t5 t6) G.T.bmain hobj hints (Nat.le_trans hlen hn2) hr hF hb (fun H hO hS=>hsp T _ H a ns hlen hO hS) fun H e s'=>hCX H s₁ e s'
end L2
namespace Ot
open PySem PySem.Spec PyProof.Rows L2
noncomputable def top (i:Nat):Stmt:=PySem.Challenge.pw_ownturn_k47_plans_of_kinds.main.body.getD i (.Pass ⟨0,0,0,0⟩)
section
variable {P:Program}{w:World}{K:PySem.W.Frag}{mg:Str->Option Value}{base:Heap}{k:Nat}
local macro_rules | `(tactic| walk_at "rd")=>`(tactic| try simp only [Vi,Fs,D9,Ky,tOp,tUn,rU,Y3,tC,tB,FY,FV,KZ,rI0,rI,Yc,QU,Eh,WV,Wn,VC,Ah,Fp,EE,tCB,YR,DI,Da,Kz,DB,Jx,Be,EB,rEq,rNe,EQ,Bl,tBM,vj,vm,Yj,Jv,Fa,Gg,Fg,BP,JO,Zk,XW,XO,tOr,Fm,We,E4,K6,V1,cxK,Wx,Dk,iLT,Dy,ZE,tSl,VV,Zl,BF,List.append_nil,
 List.getElem?_cons_zero,List.getElem?_cons_succ,Option.some.injEq,exists_eq_left',exists_eq_left,V.int.injEq,V.ref.injEq,V.bl.injEq,List.cons.injEq,and_true,true_and,and_assoc,decide_eq_true_eq,Bool.not_eq_true',decide_eq_false_iff_not,Bool.false_eq_true,if_false,if_true,reduceIte,exists_and_left,exists_and_right,List.set_cons_zero,List.set_cons_succ,List.nil_append,List.cons_append])
theorem xa {H:Hp}{a b:Addr}{o:HO}(h':H b=none)(h:H a=some o):a ≠ b:=zi h h'
theorem Q7 {H H':Hp}{l:Addr}(h:H' l=none)(e:Kp [] H H'):H l=none:=e.free h
theorem Jd {K:PySem.W.Frag}{H H':Hp}{a:Addr}{xs:List V}(h:SqL K H a xs)(e:Kp [] H H'):SqL K H' a xs:=by
 rcases h with (h | ⟨o,h⟩) | h
 ·exact .inl (.inl (e _ _ (by simp) h))
 ·exact .inl (.inr ⟨o,e _ _ (by simp) h⟩)
 ·exact .inr h
theorem hsl:100000<sizeLine:=by rw [sizeLine_eq];decide
theorem Vr {α:Type}(k:Nat)(v:α):(List.replicate k [v]).flatten=List.replicate k v:=by simp
theorem j9 (i:Int){j:Int}(h:0<j):0<=i % j/\i % j<j:=⟨Int.emod_nonneg _ (by walk_at "o"),Int.emod_lt_of_pos _ h⟩
theorem Eb {i j:Int}(h1:0<=i)(h2:i<18446744073709551616):Ww i j:=.inl ⟨by walk_at "o",by walk_at "o"⟩
theorem vA {i j:Int}(h1:0<=j)(h2:j<18446744073709551616):Ww i j:=.inr ⟨by walk_at "o",by walk_at "o"⟩
theorem b01 (c:Prop)[Decidable c]:0<=(if c then (1:Int) else 0):=by split <;> decide
theorem xq {i j:Int}(h1:0<j)(h2:j<1073741824):Ba i j:=⟨h1,h2⟩
local macro_rules | `(tactic| walk_at "ne")=>`(tactic| first | (with_reducible assumption) | exact Ne.symm (by with_reducible assumption) | exact xa (by with_reducible assumption) (by walk_at "hp") | exact Ne.symm (xa (by with_reducible assumption) (by walk_at "hp")))
local macro_rules | `(tactic| walk_at "hp")=>`(tactic| first | (with_reducible assumption) | (with_reducible exact zl) | ((with_reducible refine Eq.trans (zk ?ne) ?_);(case ne=>walk_at "ne");walk_at "hp"))
local macro_rules | `(tactic| walk_at "kp")=>`(tactic| first | (with_reducible assumption) | (with_reducible exact Kp.refl) | ((with_reducible refine Kp.trans ?_ (Kp.new _ ?h));(case h=>with_reducible assumption);walk_at "kp") | ((with_reducible refine Kp.trans ?_ (Kp.set _ ?h));(case h=>(simp;done));walk_at "kp"))
local macro_rules | `(tactic| walk_at "fr")=>`(tactic| first | (with_reducible assumption) | exact Q7 (by with_reducible assumption) (by walk_at "kp"))
local macro_rules | `(tactic| walk_at "sz")=>`(tactic| (simp only [List.length_cons,List.length_nil,List.length_map,List.length_append,List.length_replicate,List.length_take,List.length_drop,zv,Vr,Nat.zero_add,Nat.one_mul];walk_at "o"))
local macro_rules | `(tactic| walk_at "fact")=>`(tactic| first | (with_reducible assumption) | exact rfl | exact SqL.of (by walk_at "hp") | exact SqT.of (by walk_at "hp") | exact Or.inl (SqL.of (by walk_at "hp")) | exact Or.inr (SqT.of (by walk_at "hp")) | exact Or.inl (by with_reducible assumption) | exact Jd (by with_reducible assumption) (by walk_at "kp") | exact Or.inl (Jd (by with_reducible assumption) (by walk_at "kp")) | exact Exists.intro _ (SqL.of (by walk_at "hp")) | exact Exists.intro _ (Jd (by with_reducible assumption) (by walk_at "kp")) | (walk_at "hp") | decide | walk_at "o" | exact Eb (by walk_at "o") (by walk_at "o") | exact vA (by walk_at "o") (by walk_at "o") | exact xq (by walk_at "o") (by walk_at "o") | exact ⟨by walk_at "o",by walk_at "o"⟩ | (walk_at "sz") | exact ⟨by decide,by decide,by decide⟩ | exact vA (b01 _) (b01' _) | (walk_at "fr"))
local macro_rules | `(tactic| walk_at "x1")=>`(tactic| first
 | ((with_reducible refine Exists.intro ?w (And.intro ?h ?_));(case h=>walk_at "fact"))
 | ((with_reducible refine And.intro ?h ?_);(case h=>walk_at "fact"))
 | ((with_reducible refine Exists.intro ?w (Exists.intro ?w2 (And.intro ?h ?_)));(case h=>walk_at "fact")))
local macro_rules | `(tactic| walk_at "xs")=>`(tactic| repeat walk_at "x1")
local macro_rules | `(tactic| walk_at "sim1") => `(tactic| first
 | ((with_reducible apply simX_tryR exs_def);intro HX_ OX_ MX_ E_ EA_ hE_)
 | ((with_reducible apply sim_try);intro HX_ OX_ MX_ E_ EA_ hE_)
 | ((with_reducible apply sim_try0);intro HX_ OX_ MX_ E_ EA_ hE_)
 | (with_reducible first | assumption | apply WT | exact As | exact Et | exact EX | exact EY | exact DW | exact EC | exact Bq | exact YL | exact Ym | exact WD | exact AD | exact Vs | exact XT | exact Bp | exact E7 | exact B5 | exact VE | exact Vk | exact Bk | exact Ek | exact YA | exact AW | exact FE | exact Vl | exact Xt | exact B2 | exact Ab | exact BL | exact Yx | exact Jr | exact JG | exact ww | exact QN | exact YO | exact wJ | exact yl | exact WS | exact wK | apply YY | apply AZ | apply AJ | apply A6 | apply Bo | apply W3 | apply AB | apply XH | apply A8 | apply W5 | apply XX | apply VT | apply YD | apply Ga | apply D7 | apply BA | apply EI | apply A2 | apply EH | apply AN | apply Vh | apply Ar | apply Yd | apply Wp | apply YZ | apply BV | apply Fo | apply Ez | apply QE | apply WW | apply Kr | apply Bg | apply Ak | apply vk | apply XE | apply AM | apply Yw | apply D6 | apply Yk | apply Kk | apply DG | apply Ws | apply WU | apply Xy | apply Ep | apply xZ))
local macro_rules | `(tactic| walk_at "sim")=>`(tactic| repeat' walk_at "sim1")
local macro_rules | `(tactic| walk_at "ra")=>`(tactic| try simp only [vZ,aGS,Gp,WG,Dn,yU,zV,aC,aOp,aUn,ja,zQ,aCB,KW,aFz,aOw,X5,XY,aB,kB,Gy,aOr,Fu,Yq,Ve,xj,kW,Z3,FB,QP,W9,qM,yV,qV,QD,Ze,asL,DY,Gd,Gv,aiS,Gz,aiE,Bz,jI,wL,aI,aI0,aU,FM,aIx,fOp,Jn,Gj,BB,Qf,fSl,FU,Fx,Qb,Ac,bI2,Dv,VQ,fCB,Y6,B8,Yz,FL,Dt,V5,aBM,vg,Zf,V8,AL,D3,qO,FP,xO,Fh,FS,F7,GA,Gs,FT,Gw,W4,XN,Option.map_some,Wa,Vb,Y2,Yu,Jh,Ka,Vj,Jt,VP,El,Ef,Wy,JS,V2,FI,D4,Ft,Es,Zi,Ei,DP,DE,Fd,JM,ET,Fk,Fi,Fy,DN,Kf,FQ,EJ,FC,EL,JW,Ej,Av,Yb,zJ,zI,Bj,je,Dm,E3,EV,Fc,A0,A3,Bw,BJ,A7,Br,BS,xM,Qu,yA,JY,JV,J8,ZT,Vp,Ed,Fb,E8,DK,Fz,Fl,id,decide_true,decide_false,Bool.decide_eq_true,not_true_eq_false,not_false_eq_true,jz,
 List.getElem?_cons_zero,List.getElem?_cons_succ,Option.some.injEq,exists_eq_left',exists_eq_left,AV.d.injEq,AV.ref.injEq,Dat.int.injEq,Dat.bl.injEq,Dat.str.injEq,Dat.lst.injEq,Dat.tup.injEq,Dat.ty.injEq,List.cons.injEq,and_true,true_and,and_assoc,decide_eq_true_eq,Bool.not_eq_true',decide_eq_false_iff_not,Bool.false_eq_true,if_false,if_true,reduceIte,exists_and_left,exists_and_right,List.set_cons_zero,List.set_cons_succ,List.nil_append,List.cons_append,List.length_map,List.map_cons,List.map_nil,Nat.zero_le,Bool.not_true,Bool.not_false,Bool.true_eq_false,eq_self,List.length_cons,List.length_nil])
local macro_rules | `(tactic| walk_at "sk")=>`(tactic| (refine zg fun r9 hr9=>?_;walk_at "ra";refine ⟨_,rfl,_,rfl,by rw [yA];walk_at "o",?_⟩;rw [ZT,if_neg (by decide +kernel)];subst hr9))
theorem QZ (ns:List Int)(lo hi:Option Int):wk (ns.map V.int) lo hi=List.map V.int ((ns.drop (HT.sIx ns.length 0 lo)).take (HT.sIx ns.length ns.length hi - HT.sIx ns.length 0 lo)):=by
 unfold wk
 rw [List.length_map,<- List.map_drop,<- List.map_take]
theorem K4 (cs:List Int)(j:Nat)(v:Int):(cs.map V.int).set j (.int v)=(cs.set j v).map V.int:=by rw [List.map_set]
theorem jU {cs:List Int}{k:Int}(h0:0<=k)(h1:k<cs.length):ixN (cs.map V.int).length k=some k.toNat/\atI (cs.map V.int) k=some (.int (cs.getD k.toNat 0)):=by
 have hk:k.toNat<cs.length:=by walk_at "o"
 have e1:ixN (cs.map V.int).length k=some k.toNat:=by unfold ixN;rw [List.length_map,if_pos h0,if_pos h1]
 refine ⟨e1,?_⟩
 unfold atI
 rw [e1]
 show (cs.map V.int)[k.toNat]?=_
 rw [List.getElem?_map,List.getD_eq_getElem?_getD,List.getElem?_eq_getElem hk];rfl
theorem ya {ns:List Int}{i:Nat}{x:V}(h:(ns.map V.int)[i]?=some x):x=.int (ns.getD i 0)/\i<ns.length:=by
 rw [List.getElem?_map] at h
 cases e:ns[i]? with
 | none=>rw [e] at h;cases h
 | some v=>
  rw [e] at h
  cases h
  exact ⟨by rw [List.getD_eq_getElem?_getD,e];rfl,(List.getElem?_eq_some_iff.mp e).1⟩
theorem Kp.un {bs:List Addr}{p:Addr}{H H':Hp}(h:Kp (p :: bs) H H')(hp:H p=none):Kp bs H H':=fun c o n e=>h c o (by
 intro z
 rcases List.mem_cons.mp z with z | z
 ·subst z;rw [hp] at e;cases e
 ·exact n z) e
theorem ZX {K:PySem.W.Frag}{H H':Hp}{a:Addr}{xs:List V}(h:SqL K H a xs \/ SqT K H a xs)(e:Kp [] H H'):SqL K H' a xs \/ SqT K H' a xs:=h.imp (fun z=>D8 z e) (fun z=>EG z e)
noncomputable def rfs (rs:List (Addr × List Int)):List V:=rs.map fun r=>V.ref r.1
noncomputable abbrev Jf:Stmt:=top 22
theorem KG:zy ["_law_box_here","_law_many","_law_once","_law_found"] ["_law_box_here","_law_many"] (zj Jf):=⟨rfl,rfl,rfl,by decide +kernel,rfl,by decide +kernel,by decide +kernel⟩
noncomputable def J3:Sp:=fun vs H Q _=>∃ (b:Addr) (many:Int) (N:Nat),vs=[.ref b,.int many]/\Bx H b N/\N<1000000000/\0<many/\many<1073741824/\∀ r H',Kp [b] H H'->Bx H' b (N+1)->0<=r->r<many->Q (.int r) H'
theorem BZ (a:At K mg "_law_take" Jf)(B:Blt mg):Df P w K mg base "_law_take" ["_law_box_here","_law_many"] 1 J3:=by
 refine kP (k:=0) a KG (fun _ _ _ _ _ _=>Pn2_ fun _ _=>rfl) (fun vs H Q E h=>?_) (fun f cdv A outer s H vs Q E hr h=>?_)
 ·obtain ⟨b,m,N,rfl,_⟩:=h;rfl
 obtain ⟨b,m,N,rfl,⟨x,y,z,hb,hx,hy,hy',hz,hz'⟩,hN,hm,hm',q⟩:=h
 have sc:=KG
 refine ⟨_,(zc (qu (zE KU (zG qt (pv 0) zd (fun _ _=>rfl)) zd (zz _)) (zc (jO (zn Qi rfl B.divmod Xu (za (zG qt (pv 0) zd (fun _ _=>rfl)) (za (pv 1) zb))) (jk (K:=K) 2 rfl rfl (zM (jr (pv 0) zd qg) (zM (zp (i:=3) sc.nd rfl (by first | exact Or.inl rfl | exact Or.inr rfl)) jj))))
  (zh (zA (pv 3)))) zK)
  (zc (jO (zm qc (zG qt (pv 0) zd (fun _ _=>rfl)) zd) (jr (pv 0) zd qg))
  (zc (zt (i:=2) sc.nd rfl (by first | exact Or.inl rfl | exact Or.inr rfl) (zm qC (zm j8 (zm qc (zG qt (pv 0) zd (fun _ _=>rfl)) (zm j8 zd (zG qt (pv 0) zd (fun _ _=>rfl)))) (zm qc zd (zG qt (pv 0) zd (fun _ _=>rfl)))) zd))
  (zc (jO (zm qC (zm qc (zm j8 (pv 2) (zm qc (zm qC (pv 2) zd) zd)) (zG qt (pv 0) zd (fun _ _=>rfl))) zd) (jr (pv 0) zd qg))
  (zh (zA (zm qC (zm jS (zm qC (zm j8 (zG qt (pv 0) zd (fun _ _=>rfl)) (zm qc (zm qC (zG qt (pv 0) zd (fun _ _=>rfl)) zd) zd)) zd) zd) (pv 1)))))))),?_⟩
 rw [show jb ["_law_box_here","_law_many","_law_once","_law_found"] [V.ref b,V.int m]=[some (.ref b),some (.int m),none,none] from rfl]
 walk_at "rd"
 walk_at "xs"
 refine VH (fun c=>?_) (fun c=>?_)
 ·walk_at "xs"
  refine fun p hp=>?_
  walk_at "xs"
  refine q _ _ ((Kp.new _ hp).trans (Kp.set _ (by simp))) ⟨_,_,_,zl,Int.ediv_nonneg hx (by walk_at "o"),hy,hy',hz,by walk_at "o"⟩ (j9 x hm).1 (j9 x hm).2
 ·walk_at "xs"
  refine q _ _ ((Kp.set _ (by simp)).trans (Kp.set _ (by simp))) ⟨_,_,_,zl,hx,?_,?_,?_,?_⟩ (j9 _ hm).1 (j9 _ hm).2
  ·exact (j9 _ (by decide)).1
  ·exact Int.lt_trans (j9 _ (by decide)).2 (by decide)
  ·walk_at "o"
  ·walk_at "o"
noncomputable abbrev WO:Stmt:=top 21
theorem W6:zy ["_law_script","_law_k","_law_cell"] ["_law_script","_law_k"] (zj WO):=⟨rfl,rfl,rfl,by decide +kernel,rfl,by decide +kernel,by decide +kernel⟩
noncomputable def Dg:Sp:=fun vs H Q _=>∃ (a:Addr) (k:Int) (cs:List Int),vs=[.ref a,.int k]/\H a=some (il cs)/\0<=k/\k<=1000/\cs.length<=1000/\∀ p H',Kp [] H H'->H p=none->Bx H' p 0->Q (.ref p) H'
theorem Au {cs:List Int}{k:Int}(h0:0<=k):∃ c:Int,atI (cs.map V.int ++ List.replicate (k+1).toNat (V.int 0)) k=some (.int c):=by
 have e:cs.map V.int ++ List.replicate (k+1).toNat (V.int 0)=(cs ++ List.replicate (k+1).toNat 0).map V.int:=by simp
 have ek:k=((k.toNat:Nat):Int):=by walk_at "o"
 have hk:k.toNat<(cs ++ List.replicate (k+1).toNat (0:Int)).length:=by rw [List.length_append,List.length_replicate];walk_at "o"
 refine ⟨(cs ++ List.replicate (k+1).toNat 0)[k.toNat],?_⟩
 rw [e]
 have q:atI ((cs ++ List.replicate (k+1).toNat (0:Int)).map V.int) ((k.toNat:Nat):Int)=some (.int (cs ++ List.replicate (k+1).toNat 0)[k.toNat]):=Bm (by rw [List.getElem?_map,List.getElem?_eq_getElem hk] <;> rfl)
 rw [<- ek] at q
 exact q
theorem FH (a:At K mg "_law_box" WO)(B:Blt mg):Df P w K mg base "_law_box" ["_law_script","_law_k"] 1 Dg:=by
 refine kP (k:=0) a W6 (fun _ _ _ _ _ _=>Pn2_ fun _ _=>rfl) (fun vs H Q E h=>?_) (fun f cdv A outer s H vs Q E hr h=>?_)
 ·obtain ⟨a,k,cs,rfl,_⟩:=h;rfl
 obtain ⟨a,k,cs,rfl,ha,hk,hk',hcs,q⟩:=h
 have sc:=W6
 have hsl:=hsl
 refine ⟨_,(zc (zt (i:=2) sc.nd rfl (by first | exact Or.inl rfl | exact Or.inr rfl) (zG qt (zm jC (pv 0) (zm wd (zR (za zd zb)) (zm qc (pv 1) zd))) (pv 1) (fun _ _=>rfl)))
  (zh (zA (zR (za (zm j8 (zn Qd rfl B.abs Vu (za (pv 2) zb)) (zS jB rfl B.int xU (za (ji Ge (zn Qd rfl B.abs Vu (za (pv 2) zb)) (zm EN zd zd) (zz _)) zb))) (za (zm qC (zm j8 (zm qc (zm qc (zm qC (pv 2) zd) (zm j8 zd (pv 1))) zd) zd) zd) (za zd zb))))))),?_⟩
 rw [show jb ["_law_script","_law_k","_law_cell"] [V.ref a,V.int k]=[some (.ref a),some (.int k),none] from rfl]
 walk_at "rd"
 walk_at "xs"
 intro p1 hp1
 walk_at "xs"
 intro p2 hp2
 walk_at "xs"
 intro p3 hp3
 simp only [Vr] at hp3 ⊢
 obtain ⟨c,hc⟩:=Au (cs:=cs) hk
 walk_at "xs"
 intro p4 hp4
 refine q _ _ (by walk_at "kp") (by walk_at "fr") ⟨_,_,_,zl,?_,?_,?_,?_,?_⟩
 ·exact Int.mul_nonneg (by split <;> walk_at "o") (b01 _)
 ·exact (j9 _ (by decide)).1
 ·exact Int.lt_trans (j9 _ (by decide)).2 (by decide)
 ·decide
 ·decide
noncomputable abbrev v6:Stmt:=top 23
theorem wv:zy ["_law_script","_law_many","_law_cells","_law_k","_law_cell"] ["_law_script","_law_many"] (zj v6):=⟨rfl,rfl,rfl,by decide +kernel,rfl,by decide +kernel,by decide +kernel⟩
noncomputable def ZW (K:PySem.W.Frag):Sp:=fun vs H Q _=>∃ (a:Addr) (m:Int) (ns:List Int),vs=[.ref a,.int m]/\SqL K H a (ns.map V.int)/\0<m/\m<=60/\ns.length<=63/\∀ p H' cs,Kp [] H H'->H p=none->H' p=some (il cs)->cs.length<=1000->Q (.ref p) H'
theorem XZ (a:At K mg "_law_folded" v6)(B:Blt mg):Df P w K mg base "_law_folded" ["_law_script","_law_many"] 1 (ZW K):=by
 refine kP (k:=0) a wv (fun _ _ _ _ _ _=>Pn2_ fun _ _=>rfl) (fun vs H Q E h=>?_) (fun f cdv A outer s H vs Q E hr h=>?_)
 ·obtain ⟨a,k,cs,rfl,_⟩:=h;rfl
 obtain ⟨a,m,ns,rfl,ha,hm,hm',hns,q⟩:=h
 obtain ⟨M,rfl⟩:∃ M:Nat,m=M:=⟨m.toNat,by walk_at "o"⟩
 have sc:=wv
 have hsl:=hsl
 refine ⟨_,(zc (zt (i:=2) sc.nd rfl (by first | exact Or.inl rfl | exact Or.inr rfl) (zS kl rfl B.list jh (za (jp jR (pv 0) ki (qf (pv 1))) zb)))
  (zc (jf PassesOwn.never rfl (Bi rfl B.enumerate (za (jp jR (pv 0) (qf (pv 1)) (qf zd)) zb)) (jk (K:=K) 2 rfl rfl (zM (zp (i:=3) sc.nd rfl (by first | exact Or.inl rfl | exact Or.inr rfl)) (zM (zp (i:=4) sc.nd rfl (by first | exact Or.inl rfl | exact Or.inr rfl)) jj))) (zh (jO (zm qc (zG qt (pv 2) (zm qC (pv 3) (pv 1)) (fun _ _=>rfl)) (zm j8 (pv 4) (zm qc (pv 3) zd))) (jr (pv 2) (zm qC (pv 3) (pv 1)) qg))))
  (zh (zA (pv 2))))),?_⟩
 rw [show jb ["_law_script","_law_many","_law_cells","_law_k","_law_cell"] [V.ref a,V.int M]=[some (.ref a),some (.int M),none,none,none] from rfl]
 walk_at "rd"
 walk_at "xs"
 intro p1 hp1
 rw [QZ]
 walk_at "xs"
 intro p2 hp2
 walk_at "xs"
 intro p3 hp3
 rw [QZ]
 have e63:(63:Int)=((63:Nat):Int):=rfl
 simp only [HT.sIx_none,HT.sIx_nat,e63,List.drop_zero,Nat.sub_zero] at hp2 hp3 ⊢
 walk_at "xs"
 generalize hc0:ns.take (min M ns.length)=c0 at hp2 hp3 ⊢
 generalize hd0:(ns.drop (min M ns.length)).take (min 63 ns.length - min M ns.length)=d0 at hp2 hp3 ⊢
 have lc:c0.length=min M ns.length:=by rw [<- hc0,List.length_take];walk_at "o"
 have ld:d0.length<=ns.length - M:=by rw [<- hd0,List.length_take,List.length_drop];walk_at "o"
 have n23:p2 ≠ p3:=by walk_at "ne"
 refine Bf (xs:=d0.map V.int) (fun i τ H'=>∃ u v cs,τ=[some (.ref a),some (.int M),some (.ref p2),u,v]/\Kp [p2] (upd (upd (upd H p1 (HO.lst (List.map V.int c0))) p2 (HO.lst (List.map V.int c0))) p3 (HO.lst (List.map V.int d0))) H'/\H' p2=some (il cs)/\cs.length=c0.length) ?_ ?_ ?_ ?_
 ·exact ⟨none,none,c0,rfl,Kp.refl,by walk_at "hp",rfl⟩
 ·rintro i τ H' _ ⟨u,v,cs,rfl,kp,_⟩
  exact SqL.of (kp _ _ (by simp [Ne.symm n23]) (by walk_at "hp"))
 ·rintro i x pp τ H' hx hpp ⟨u,v,cs,rfl,kp,hcs,hl⟩
  obtain ⟨rfl,hi⟩:=ya hx
  have b1:=j9 (i:Int) hm
  obtain ⟨g1,g2⟩:=jU (cs:=cs) (k:=(i:Int) % (M:Int)) b1.1 (by walk_at "o")
  have hcs':upd H' pp (HO.tup [V.int i,V.int (d0.getD i 0)]) p2=some (il cs):=by walk_at "hp"
  walk_at "rd"
  walk_at "xs"
  refine ⟨(kp.trans (Kp.new _ hpp)).trans (Kp.set _ (by simp)),_,zl.trans (congrArg some (congrArg HO.lst (K4 _ _ _))),by rw [List.length_set];exact hl⟩
 ·rintro τ H' ⟨u,v,cs,rfl,kp,hcs,hl⟩
  walk_at "rd"
  refine q _ _ cs (fun c o hc hh=>kp c o ?_ ((((Kp.new _ hp1).trans (Kp.new _ hp2)).trans (Kp.new _ hp3)) c o hc hh)) (by walk_at "fr") hcs (by walk_at "o")
  have:c ≠ p2:=xa (Q7 hp2 (Kp.new _ hp1)) hh
  simpa using this
noncomputable abbrev QG:List Int:=[0,1,2,3,4,5,6,7,4,5,6,7]
noncomputable abbrev vK:Stmt:=top 24
theorem wY:zy ["_law_box_here","_law_most","_law_few"] ["_law_box_here","_law_most"] (zj vK):=⟨rfl,rfl,rfl,by decide +kernel,rfl,by decide +kernel,by decide +kernel⟩
noncomputable def Qe:Sp:=fun vs H Q _=>∃ (b:Addr) (m:Int) (N:Nat),vs=[.ref b,.int m]/\Bx H b N/\N<100000000/\24<=m/\m<=1000/\∀ r H',Kp [b] H H'->Bx H' b (N+10)->0<=r->r<=m->Q (.int r) H'
theorem XU (a:At K mg "_law_length" vK)(B:Blt mg)(D_law_take:Df P w K mg base "_law_take" ["_law_box_here","_law_many"] 1 J3):Df P w K mg base "_law_length" ["_law_box_here","_law_most"] 2 Qe:=by
 refine kP (k:=1) a wY (fun _ _ _ _ _ _=>Pn2_ fun _ _=>rfl) (fun vs H Q E h=>?_) (fun f cdv A outer s H vs Q E hr h=>?_)
 ·obtain ⟨a,k,cs,rfl,_⟩:=h;rfl
 obtain ⟨b,m,N,rfl,hb,hN,hm,hm',q⟩:=h
 have sc:=wY
 have hsl:=hsl
 refine' ⟨_,zc (qu (zE Dl (zO D_law_take hr rfl (za (pv 0) (za zd zb))) zd (zz _)) (zh (zA (zm kh (pv 1) (zO D_law_take hr rfl (za (pv 0) (za (zn (wz rfl) rfl B.max JQ (za zd (za (zm jS (pv 1) zd) zb))) zb)))))) zK) (zc _ _),?_⟩
 rotate_left 2
 ·refine' zt (i:=2) _ _ _ _ _ _
  rotate_left 1
  ·exact sc.nd
  ·rfl
  ·first | exact Or.inl rfl | exact Or.inr rfl
  ·refine' zG _ _ _ _
   rotate_left 3
   ·exact qt
   ·refine' zR _
    rotate_left 1
    refine' Kl (is:=[0,1,2,3,4,5,6,7,4,5,6,7]) _
    rfl
   ·exact (zO D_law_take hr rfl (za (pv 0) (za zd zb)))
   ·exact (fun _ _=>rfl)
  ·rfl
  ·first | exact .inl rfl | exact .inr rfl | assumption
 ·refine' zh _
  rotate_left 1
  refine' zA _
  rotate_left 1
  refine' zG _ _ _ _
  rotate_left 3
  ·exact qt
  ·refine' zR _
   rotate_left 1
   refine' za _ _ _
   rotate_left 2
   ·exact pv 2
   ·exact (za (zm qc zd (zO D_law_take hr rfl (za (pv 0) (za zd zb)))) zb)
   ·rfl
  ·exact (zS jB rfl B.int xU (za (ji Dl (zO D_law_take hr rfl (za (pv 0) (za zd zb))) zd (zz _)) zb))
  ·exact (fun _ _=>rfl)
 rw [show jb ["_law_box_here","_law_most","_law_few"] [V.ref b,V.int m]=[some (.ref b),some (.int m),none] from rfl]
 walk_at "rd"
 refine ⟨b,16,N,rfl,hb,by walk_at "o",by decide,by decide,fun r1 H1 k1 b1 l1 u1=>⟨rfl,?_⟩⟩
 walk_at "rd"
 refine VH (fun c=>?_) (fun c=>?_)
 ·walk_at "xs"
  refine ⟨b,_,_,rfl,b1,by walk_at "o",by split <;> walk_at "o",by split <;> walk_at "o",fun r2 H2 k2 b2 l2 u2=>⟨_,rfl,?_⟩⟩
  refine q _ _ (k1.trans k2) (b2.mono (by walk_at "o")) ?_ ?_
  ·split at u2 <;> walk_at "o"
  ·walk_at "o"
 ·walk_at "xs"
  intro p1 hp1
  refine ⟨b,12,_,rfl,b1.new hp1,by walk_at "o",by decide,by decide,fun r2 H2 k2 b2 l2 u2=>?_⟩
  have hne:p1 ≠ b:=by obtain ⟨_,_,_,h,_⟩:=b1;exact Ne.symm (zi h hp1)
  have h2:=k2 p1 _ (by simpa using hne) zl
  obtain ⟨e1,e2⟩:=jU (cs:=QG) (k:=r2) l2 (by simpa using u2)
  refine ⟨_,_,rfl,SqL.of h2,_,e2,b,17,_,rfl,b2,by walk_at "o",by decide,by decide,fun r3 H3 k3 b3 l3 u3=>?_⟩
  have hv:0<=QG.getD r2.toNat 0/\QG.getD r2.toNat 0<=(24:Int):=by
   have:∀ j:Nat,0<=QG.getD j 0/\QG.getD j 0<=(24:Int):=by
    intro j
    by_cases hj:j<12
    ·have hd:∀ j:Nat,j<12->0<=QG.getD j 0/\QG.getD j 0<=(24:Int):=by decide
     exact hd j hj
    ·have e:QG.getD j (0:Int)=0:=by rw [List.getD_eq_getElem?_getD,List.getElem?_eq_none (by simpa using hj)];rfl
     rw [e];decide
   exact this _
  refine ⟨_,rfl,by show 2<=sizeLine;decide,fun p2 hp2=>?_⟩
  refine ⟨b,6,_,rfl,b3.new hp2,by walk_at "o",by decide,by decide,fun r4 H4 k4 b4 l4 u4=>⟨rfl,?_⟩⟩
  have hne2:p2 ≠ b:=by obtain ⟨_,_,_,h,_⟩:=b3;exact Ne.symm (zi h hp2)
  have h4:=k4 p2 _ (by simpa using hne2) zl
  have fin:∀ r,0<=r->r<=24->Q (.int r) H4:=fun r g1 g2=>by
   refine q r H4 ?_ (b4.mono (by walk_at "o")) g1 (by walk_at "o")
   exact (((k1.trans (Kp.new _ hp1)).trans k2).trans k3).trans ((Kp.new _ hp2).trans k4)
  by_cases c4:r4=0
  ·subst c4
   exact ⟨_,SqL.of h4,_,rfl,fin _ (by walk_at "o") (by walk_at "o")⟩
  ·rw [if_neg (fun z=>c4 (V.int.inj z))]
   exact ⟨_,SqL.of h4,_,rfl,fin _ hv.1 hv.2⟩
inductive De where
 | swap (a b:Nat) | take (p:Nat) | move (p g:Nat) | lay (g:Nat)
noncomputable abbrev ES:=List (Option Int) × Option Int
inductive DoE:De->ES->ES->Prop
 | swap {a b:Nat} {row:List (Option Int)} {h:Option Int} {x y:Int}:a ≠ b->row[a]?=some (some x)->row[b]?=some (some y)->DoE (.swap a b) (row,h) ((row.set a (some y)).set b (some x),h)
 | take {p:Nat} {row:List (Option Int)} {x:Int}:row[p]?=some (some x)->DoE (.take p) (row,none) (row.set p none,some x)
 | move {p g:Nat} {row:List (Option Int)} {h:Option Int} {x:Int}:row[p]?=some (some x)->row[g]?=some none->DoE (.move p g) (row,h) ((row.set p none).set g (some x),h)
 | lay {g:Nat} {row:List (Option Int)} {x:Int}:row[g]?=some none->DoE (.lay g) (row,some x) (row.set g (some x),none)
inductive jG:List De->ES->ES->Prop
 | nil {s:ES}:jG [] s s
 | cons {d:De} {l:List De} {s t u:ES}:DoE d s t->jG l t u->jG (d :: l) s u
theorem jG.append {a b:List De}{s t u:ES}(h1:jG a s t)(h2:jG b t u):jG (a ++ b) s u:=by
 induction h1 with
 | nil=>exact h2
 | cons d _ ih=>exact .cons d (ih h2)
noncomputable def yX:Dd->De
 | .take p=>.take p
 | .move p g=>.move p g
 | .lay g=>.lay g
theorem Gr:MR rNe:=fun _ _ _ _ _ hq ⟨e,h⟩=>⟨e,hq _ _ h⟩
theorem vL {ss:List Bool}{i:Nat}(h:i<ss.length):ixN (ss.map V.bl).length (i:Int)=some i/\atI (ss.map V.bl) (i:Int)=some (.bl (ss.getD i false)):=by
 have e1:ixN (ss.map V.bl).length (i:Int)=some i:=by unfold ixN;rw [List.length_map,if_pos (by walk_at "o"),if_pos (by walk_at "o"),Int.toNat_natCast]
 refine ⟨e1,?_⟩
 unfold atI
 rw [e1]
 show (ss.map V.bl)[i]?=_
 rw [List.getElem?_map,List.getD_eq_getElem?_getD,List.getElem?_eq_getElem h];rfl
theorem wZ {ss:List Bool}{i j:Nat}{v:Bool}(h:i<ss.length):(ss.set i v).getD j false=if j=i then v else ss.getD j false:=by
 rw [List.getD_eq_getElem?_getD,List.getD_eq_getElem?_getD,List.getElem?_set]
 by_cases e:i=j
 ·subst e;rw [if_pos rfl,if_pos h,if_pos rfl];rfl
 ·rw [if_neg e,if_neg (fun z=>e z.symm)]
noncomputable abbrev xh:Stmt:=top 8
theorem yd:zy ["order","first","ring","place"] ["order","first"] (zj xh):=⟨rfl,rfl,rfl,by decide +kernel,rfl,by decide +kernel,by decide +kernel⟩
noncomputable def vx (K:PySem.W.Frag):Sp:=fun vs H Q _=>∃ (a:Addr) (n:Nat) (os:List Int) (p:Int),vs=[.ref a,.int p]/\(SqL K H a (os.map V.int) \/ SqT K H a (os.map V.int))/\zB n os/\n<=1000/\0<=p/\p<n/\∀ t H',Kp [] H H'->H t=none->H' t=some (il (zH os p))->Q (.ref t) H'
theorem Zu (a:At K mg "ring_from" xh)(B:Blt mg):Df P w K mg base "ring_from" ["order","first"] 1 (vx K):=by
  refine kP (k:=0) a yd (fun _ _ _ _ _ _=>Pn2_ fun _ _=>rfl) (fun vs H Q E h=>?_) (fun f cdv A outer s H vs Q E hr h=>?_)
  · obtain ⟨a,_,_,_,rfl,_⟩:=h;rfl
  obtain ⟨a,n,os,p,rfl,ha,ho,hn,p0,p1,q⟩:=h
  have sc:=yd
  have hsl:=hsl
  have ol:=ho.1
  obtain ⟨M,hM,hMn⟩:=kT ho p0 p1
  refine ⟨_,(zc (zt (i:=2) sc.nd rfl (by first | exact Or.inl rfl | exact Or.inr rfl) (zR (za (pv 1) zb)))
    (zc (zt (i:=3) sc.nd rfl (by first | exact Or.inl rfl | exact Or.inr rfl) (zG qB (pv 0) (pv 1) (fun _ _=>rfl)))
    (zc (Qy PassesOwn.never (zE Gq (pv 3) (pv 1) (zz _)) (zc (qK (jN PySem.F.plainAttrs_list PySem.F.slot_list_append PySem.F.type_list_append qD (pv 2) (za (pv 3) zb)))
    (zh (zt (i:=3) sc.nd rfl (by first | exact Or.inl rfl | exact Or.inr rfl) (zG qB (pv 0) (pv 3) (fun _ _=>rfl))))))
    (zh (zA (pv 2)))))),?_⟩
  rw [show jb ["order","first","ring","place"] [V.ref a,V.int p]=[some (.ref a),some (.int p),none,none] from rfl]
  walk_at "rd"
  obtain ⟨e1,e2⟩:=jU (cs:=os) (k:=p) p0 (by walk_at "o")
  refine ⟨by show 1<=sizeLine;decide,fun t ht=>⟨_,ZX ha (Kp.new _ ht),_,e2,?_⟩⟩
  refine YF (fun τ H'=>∃ (j:Nat),τ=[some (.ref a),some (.int p),some (.ref t),some (.int (itn os j p))]/\Kp [t] (upd H t (.lst [.int p])) H'/\H' t=some (il (itl os p j))/\1<=j/\j<=M/\∀ i,1<=i->i<j->itn os i p ≠ p)
    (fun _ H'=>match H' t with | some (.lst xs)=>M+1 - xs.length | _=>0) ?_ ?_ (B7 (GE Gr WA WA))
  · exact ⟨1,rfl,Kp.refl,zl,Nat.le_refl _,hM.1,fun i h1 h2=>by walk_at "o"⟩
  · rintro τ H' ⟨j,rfl,kp,hH,j1,jM,hj⟩
    have bd:=qm ho p0 p1 j
    have k0:=Kp.drop1 ht kp
    walk_at "rd"
    refine ⟨rfl,VH (fun c=>?_) (fun c=>?_)⟩
    · have jM' : j < M := by
        rcases Nat.lt_or_ge j M with z | z
        · exact z
        · have e:j=M:=by walk_at "o"
          subst e
          exact absurd hM.2.1 c
      obtain ⟨g1,g2⟩:=jU (cs:=os) (k:=itn os j p) bd.1 (by walk_at "o")
      have k1:Kp [] H (upd H' t (HO.lst (List.map V.int (itl os p j) ++ [V.int (itn os j p)]))):=Kp.drop1 ht (kp.trans (Kp.set _ (by simp)))
      refine ⟨.inl ⟨rfl,_,SqL.of hH⟩,_,hH,by rw [List.length_map,qz];walk_at "o",_,ZX ha k1,_,g2,⟨j+1,rfl,kp.trans (Kp.set _ (by simp)),?_,by walk_at "o",by walk_at "o",fun i h1 h2=>?_⟩,?_⟩
      · rw [Z5]
        exact zl.trans (congrArg some (congrArg HO.lst (by rw [List.map_append];rfl)))
      · by_cases e:i=j
        · subst e;exact c
        · exact hj i h1 (by walk_at "o")
      · rw [zl,hH]
        show M+1 - (List.map V.int (itl os p j) ++ [V.int (itn os j p)]).length<M+1 - (List.map V.int (itl os p j)).length
        rw [List.length_append,List.length_map,qz]
        show M+1 - (j+1)<M+1 - j
        walk_at "o"
    · have hw:jV os p j:=⟨j1,by by_cases z:itn os j p=p;exact z;exact absurd z c,hj⟩
      refine q _ _ k0 ht ?_
      unfold zH
      rw [hw.per]
      exact hH
noncomputable abbrev ZF:Stmt:=top 9
theorem Qm:zy ["order","seen","found","first","ring","place"] ["order"] (zj ZF):=⟨rfl,rfl,rfl,by decide +kernel,rfl,by decide +kernel,by decide +kernel⟩
noncomputable def K8 (K:PySem.W.Frag):Sp:=fun vs H Q _=>∃ (a:Addr) (n:Nat) (os:List Int),vs=[.ref a]/\(SqL K H a (os.map V.int) \/ SqT K H a (os.map V.int))/\zB n os/\n<=1000 /\
 ∀ p H' rs,Kp [] H H'->H p=none->H' p=some (.lst (rfs rs))->(∀ r ∈ rs,H r.1=none/\r.1 ≠ p/\H' r.1=some (il r.2))->rs.map (·.2)=zo os n->Q (.ref p) H'
theorem Vg (a:At K mg "rings" ZF)(B:Blt mg)(D_ring_from:Df P w K mg base "ring_from" ["order","first"] 1 (vx K)):Df P w K mg base "rings" ["order"] 2 (K8 K):=by
 refine kP (k:=1) a Qm (fun _ _ _ _ _ _=>Pn1_ fun _=>rfl) (fun vs H Q E h=>?_) (fun f cdv A outer s H vs Q E hr h=>?_)
 ·obtain ⟨a,_,_,rfl,_⟩:=h;rfl
 obtain ⟨a,n,os,rfl,ha,ho,hn,q⟩:=h
 have sc:=Qm
 have hsl:=hsl
 have ol:=ho.1
 refine ⟨_,(zc (zt (i:=1) sc.nd rfl (by first | exact Or.inl rfl | exact Or.inr rfl) (zm wd (zR (za yh zb)) (zn zw rfl B.len qN (za (pv 0) zb))))
  (zc (zt (i:=2) sc.nd rfl (by first | exact Or.inl rfl | exact Or.inr rfl) (zR zb))
  (zc (jf PassesOwn.never rfl (qS rfl B.range (za (zn zw rfl B.len qN (za (pv 0) zb)) zb)) (zp (i:=3) sc.nd rfl (by first | exact Or.inl rfl | exact Or.inr rfl)) (zh (qu (wc (kc (zG qt (pv 1) (pv 3) (fun _ _=>rfl)) (fun _=>rfl))) (zc (zt (i:=4) sc.nd rfl (by first | exact Or.inl rfl | exact Or.inr rfl) (zO D_ring_from hr rfl (za (pv 0) (za (pv 3) zb))))
  (zc (jf PassesOwn.never rfl (BM (pv 4)) (zp (i:=5) sc.nd rfl (by first | exact Or.inl rfl | exact Or.inr rfl)) (zh (jO yh (jr (pv 1) (pv 5) qg))))
  (zh (qu (zE KU (zn zw rfl B.len qN (za (pv 4) zb)) zd (zz _)) (zh (qK (jN PySem.F.plainAttrs_list PySem.F.slot_list_append PySem.F.type_list_append qD (pv 2) (za (pv 4) zb)))) zK)))) zK)))
  (zh (zA (pv 2)))))),?_⟩
 rw [show jb ["order","seen","found","first","ring","place"] [V.ref a]=[some (.ref a),none,none,none,none,none] from rfl]
 walk_at "rd"
 refine ⟨by show 1<=sizeLine;decide,fun pz hpz=>⟨_,ZX ha (Kp.new _ hpz),_,zl,?_⟩⟩
 rw [List.length_map,ol,Int.toNat_natCast,Vr]
 refine ⟨by walk_at "o",by walk_at "o",by show 1 * n<=sizeLine;walk_at "o",fun ps hps=>?_⟩
 refine ⟨Nat.zero_le _,fun pf hpf=>?_⟩
 have kH:=((Kp.new (bs:=[]) (HO.lst [V.bl false]) hpz).trans (Kp.new (HO.lst (List.replicate n (V.bl false))) hps)).trans (Kp.new (HO.lst []) hpf)
 have nps:H ps=none:=(Kp.new (bs:=[]) _ hpz).free hps
 have npf:H pf=none:=((Kp.new (bs:=[]) _ hpz).trans (Kp.new _ hps)).free hpf
 have hps0:=(Kp.new (bs:=[]) (HO.lst []) hpf) ps _ (by simp) (zl (H:=upd H pz (HO.lst [V.bl false])) (o:=HO.lst (List.replicate n (V.bl false))))
 have hpf0:=zl (H:=upd (upd H pz (HO.lst [V.bl false])) ps (HO.lst (List.replicate n (V.bl false)))) (a:=pf) (o:=HO.lst [])
 have nsf:ps ≠ pf:=zi zl hpf
 generalize upd (upd (upd H pz (HO.lst [V.bl false])) ps (HO.lst (List.replicate n (V.bl false)))) pf (HO.lst [])=H0 at *
 refine ⟨_,ZX ha kH,?_⟩
 rw [List.length_map,ol]
 refine ⟨by walk_at "o",by walk_at "o",?_⟩
 rw [Int.toNat_natCast]
 refine VU (fun i τ G=>∃ (x3 x4 x5:Option V) (ss:List Bool) (rs:List (Addr × List Int)),τ=[some (.ref a),some (.ref ps),some (.ref pf),x3,x4,x5]/\Kp [ps,pf] H0 G/\G ps=some (.lst (ss.map V.bl))/\ss.length=n/\(∀ x:Nat,x<n->(ss.getD x false=true ↔ zZ os i (x:Int)))/\G pf=some (.lst (rfs rs))/\(∀ r ∈ rs,H r.1=none/\r.1 ≠ pf/\r.1 ≠ ps/\G r.1=some (il r.2))/\rs.map (·.2)=zo os i) ?_ ?_ ?_
 ·refine ⟨none,none,none,List.replicate n false,[],rfl,Kp.refl,by rw [List.map_replicate];exact hps0,by simp,fun x hx=>?_,hpf0,fun r hr=>(nomatch hr),rfl⟩
  constructor
  ·intro z
   rw [List.getD_eq_getElem?_getD,List.getElem?_replicate,if_pos hx] at z
   cases z
  ·rintro ⟨q,hq,_⟩;walk_at "o"
 ·rintro i τ G hi ⟨x3,x4,x5,ss,rs,rfl,kG,gs,ls,hs,gf,hr,er⟩
  have kHG:Kp [] H G:=Kp.un (Kp.un ((kH.mono (by simp)).trans kG) nps) npf
  obtain ⟨s1,s2⟩:=vL (ss:=ss) (i:=i) (by walk_at "o")
  have lrs:rs.length<=i:=by
   have:=vF os i
   rw [<- er,List.length_map] at this
   exact this
  rw [Int.zero_add]
  walk_at "rd"
  refine ⟨_,SqL.of gs,_,s2,_,rfl,VH (fun c=>?_) (fun c=>?_)⟩
  ·have hns:¬ zZ os i (i:Int):=by rw [<- hs i hi,c];simp
   refine ⟨a,n,os,i,rfl,ZX ha kHG,ho,hn,by walk_at "o",by walk_at "o",fun t G1 k1 ht h1=>?_⟩
   have gs1:=k1 _ _ (by simp) gs
   have gf1:=k1 _ _ (by simp) gf
   obtain ⟨M,hM,hMn⟩:=kT ho (p:=(i:Int)) (by walk_at "o") (by walk_at "o")
   have hrl:(zH os (i:Int)).length=M:=by unfold zH;rw [qz,hM.per]
   have nts:t ≠ ps:=Ne.symm (zi gs ht)
   have ntf:t ≠ pf:=Ne.symm (zi gf ht)
   refine ⟨t,rfl,⟨_,SqL.of h1⟩,?_⟩
   refine B1 (xs:=(zH os (i:Int)).map V.int) (fun j τ G'=>∃ (x5:Option V) (ss':List Bool),τ=[some (.ref a),some (.ref ps),some (.ref pf),some (.int (i:Int)),some (.ref t),x5]/\Kp [ps] G1 G'/\G' ps=some (.lst (ss'.map V.bl))/\ss'.length=n/\∀ x:Nat,x<n->(ss'.getD x false=true ↔ zZ os i (x:Int) \/ (x:Int) ∈ (zH os (i:Int)).take j)) ?_ ?_ ?_ ?_
   ·exact ⟨x5,ss,rfl,Kp.refl,gs1,ls,fun x hx=>by rw [hs x hx];simp⟩
   ·rintro j τ G' _ ⟨_,ss',rfl,kp,_⟩
    exact SqL.of (kp _ _ (by simpa using nts) h1)
   ·rintro j x τ G' hx ⟨y5,ss',rfl,kp,gs',ls',hs'⟩
    obtain ⟨rfl,hj⟩:=ya hx
    have hm:(zH os (i:Int)).getD j 0 ∈ zH os (i:Int):=by rw [qe hj];exact List.getElem_mem hj
    have hb:0<=(zH os (i:Int)).getD j 0/\(zH os (i:Int)).getD j 0<(n:Int):=by
     obtain ⟨k,_,e⟩:=qd.mp hm
     rw [<- e]
     exact qm ho (by walk_at "o") (by walk_at "o") k
    have htk:(zH os (i:Int)).take (j+1)=(zH os (i:Int)).take j ++ [(zH os (i:Int)).getD j 0]:=by
     rw [qe hj];exact (List.take_append_getElem hj).symm
    generalize (zH os (i:Int)).getD j 0=v at *
    obtain ⟨vn,rfl⟩:∃ vn:Nat,v=vn:=⟨v.toNat,by walk_at "o"⟩
    obtain ⟨g1,g2⟩:=vL (ss:=ss') (i:=vn) (by walk_at "o")
    walk_at "rd"
    refine ⟨_,gs',vn,g1,kp.trans (Kp.set _ (by simp)),ss'.set vn true,zl.trans (congrArg some (congrArg HO.lst (by rw [List.map_set]))),by rw [List.length_set];exact ls',fun x hx=>?_⟩
    rw [wZ (by walk_at "o"),htk,List.mem_append,List.mem_singleton]
    by_cases e:x=vn
    ·subst e;rw [if_pos rfl];simp
    ·have e':¬ ((x:Int)=(vn:Int)):=by walk_at "o"
     rw [if_neg e,hs' x hx]
     simp [e']
   ·rintro τ G' ⟨y5,ss',rfl,kp,gs',ls',hs'⟩
    rw [List.length_map,List.take_length] at hs'
    have h1':=kp _ _ (by simpa using nts) h1
    have gf':=kp _ _ (by simpa using Ne.symm nsf) gf1
    have hs'':∀ x:Nat,x<n->(ss'.getD x false=true ↔ zZ os (i+1) (x:Int)):=fun x hx=>by
     rw [hs' x hx,zZ.succ,Rch.mem_ring hM]
     unfold zH
     rw [hM.per]
    have kp2:Kp [ps,pf] H0 G':=(kG.trans (k1.mono (by simp))).trans (kp.mono (by simp))
    have hr':∀ r ∈ rs,H r.1=none/\r.1 ≠ pf/\r.1 ≠ ps/\G' r.1=some (il r.2):=fun r hr0=>by
     obtain ⟨z1,z2,z3,z4⟩:=hr r hr0
     exact ⟨z1,z2,z3,kp _ _ (by simpa using z3) (k1 _ _ (by simp) z4)⟩
    have hL:yY os i:=qX.mpr hns
    walk_at "rd"
    refine ⟨_,.inl (SqL.of h1'),VH (fun c1=>?_) (fun c1=>?_)⟩
    ·have hpe:1<per os (i:Int):=by rw [hM.per];rw [List.length_map,hrl] at c1;walk_at "o"
     refine ⟨.inl ⟨rfl,_,SqL.of gf'⟩,_,gf',by unfold rfs;rw [List.length_map];walk_at "o",⟨_,rfl⟩,kp2.trans (Kp.set _ (by simp)),ss',(zk nsf).trans gs',ls',hs'',rs ++ [(t,zH os (i:Int))],?_,fun r hr0=>?_,?_⟩
     ·refine zl.trans (congrArg some (congrArg HO.lst ?_))
      unfold rfs;rw [List.map_append];rfl
     ·rcases List.mem_append.mp hr0 with z | z
      ·obtain ⟨z1,z2,z3,z4⟩:=hr' r z
       exact ⟨z1,z2,z3,(zk z2).trans z4⟩
      ·rw [List.mem_singleton.mp z]
       exact ⟨kHG.free ht,ntf,nts,(zk ntf).trans h1'⟩
     ·show _=zo os i ++ _
      rw [if_pos ⟨hL,hpe⟩,List.map_append,er]
      rfl
    ·have hpe:¬ 1<per os (i:Int):=by rw [hM.per];rw [List.length_map,hrl] at c1;walk_at "o"
     refine ⟨⟨_,rfl⟩,kp2,ss',gs',ls',hs'',rs,gf',hr',?_⟩
     show _=zo os i ++ _
     rw [if_neg (fun z=>hpe z.2),List.append_nil,er]
  ·have hsi:zZ os i (i:Int):=(hs i hi).mp (by cases z:ss.getD i false with | true=>rfl | false=>exact absurd z c)
   refine ⟨kG,ss,gs,ls,fun x hx=>by rw [hs x hx,zZ.step ho hi hsi],rs,gf,hr,?_⟩
   show _=zo os i ++ _
   rw [if_neg (fun z=>qX.mp z.1 hsi),List.append_nil,er]
 ·rintro τ G ⟨x3,x4,x5,ss,rs,rfl,kG,gs,ls,hs,gf,hr,er⟩
  have kHG:Kp [] H G:=Kp.un (Kp.un ((kH.mono (by simp)).trans kG) nps) npf
  walk_at "rd"
  exact q _ _ rs kHG npf gf (fun r hr0=>⟨(hr r hr0).1,(hr r hr0).2.1,(hr r hr0).2.2.2⟩) er
noncomputable def DC:ASp:=fun xs M Q=>∃ (b:Addr) (many:Int) (N:Nat),xs=[.ref b,.d (.int many)]/\BxM M b N/\N<1000000000/\0<many/\many<1073741824/\∀ r M',BxS M M' b (N+1)->0<=r->r<many->Q (.d (.int r)) M'
theorem Ay (vs:List V)(H:Hp)(Q:VK)(E:XK)(h:cSp DC vs H Q E):J3 vs H Q E:=by
 obtain ⟨xs,M,O,Q',w,r,⟨b,many,N,rfl,hb,h1,h2,h3,q⟩,k⟩:=h
 obtain ⟨v,u,rfl,rv,ru⟩:=xJ r
 rw [zT ru,rv.1]
 refine ⟨b,many,N,rfl,hb.bx w,h1,h2,h3,fun r H' kp hb' r0 r1=>?_⟩
 obtain ⟨M',s,e,w'⟩:=Yv w hb kp hb'
 exact k _ _ _ _ _ (q r M' s r0 r1) e w' .int
noncomputable def GC:ASp:=fun xs M Q=>∃ (x:AV) (k:Int) (cs:List Int),xs=[x,.d (.int k)]/\qb x M=some (cs.map fun i=>.d (.int i))/\0<=k/\k<=1000/\cs.length<=1000/\∀ p o,M p=none->BxM (mup M p o) p 0->Q (.ref p) (mup M p o)
theorem Ec (vs:List V)(H:Hp)(Q:VK)(E:XK)(h:cSp GC vs H Q E):Dg vs H Q E:=by
 obtain ⟨xs,M,O,Q',w,r,⟨x,n,cs,rfl,hx,h1,h2,h3,q⟩,k⟩:=h
 obtain ⟨v,u,rfl,rv,ru⟩:=xJ r
 rw [zT ru]
 obtain ⟨a,rfl,ha⟩:=VA w rv hx
 refine ⟨a,n,cs,rfl,ha,h1,h2,h3,fun p H' kp hp hb'=>?_⟩
 obtain ⟨x',y',z',g1,g2⟩:=hb'
 obtain ⟨e1,w1⟩:=JB w kp
 have fr:=w.fresh hp
 have e2:=Ext.owned (O':=Xo O p) (p:=p) w ⟨fun a o h e=>⟨(e1.fix a o h e).1,fun z=>z.elim (zi e hp) h⟩,fun a h e=>⟨(e1.prv a h e).1,.inr h,e⟩,fun _ h=>h⟩ hp (.lst ([x',y',z'].map fun i=>.d (.int i)))
 refine k _ _ _ _ _ (q p _ fr.2 ⟨x',y',z',ze,g2⟩) e2 (Qs (O:=Xo O p) (xs:=[V.int x',V.int y',V.int z']) ⟨fun a o h=>?_,fun a h=>.inr (w1.own a h),fun a h=>?_⟩ (.inl rfl) fr.2 g1 (Zo [x',y',z'])) ⟨rfl,by rw [ze];exact fun z=>nomatch z⟩
 ·have e3:Ext H O M H' (Xo O p) M:=⟨fun a o h e=>⟨(e1.fix a o h e).1,fun z=>z.elim (zi e hp) h⟩,fun a h e=>⟨(e1.prv a h e).1,.inr h,e⟩,fun _ h=>h⟩
  refine jq.ext e3 ?_ (w.mo a o h)
  obtain ⟨u,hu,_⟩:=w.al a (w.own a (jT h))
  rw [hu];exact kp a u (by simp) hu
 ·rcases h with rfl | h
  ·exact ⟨_,g1,fun xs z=>nomatch z⟩
  ·exact w1.al a h
noncomputable def KS (K:PySem.W.Frag):ASp:=fun xs M Q=>∃ (m:Int) (ns:List Int),xs=[.d (.scr K ns),.d (.int m)]/\0<m/\m<=60/\ns.length<=63/\∀ cs:List Int,cs.length<=1000->Q (.d (.lst (cs.map .int))) M
theorem XB (vs:List V)(H:Hp)(Q:VK)(E:XK)(h:cSp (KS K) vs H Q E):ZW K vs H Q E:=by
 obtain ⟨xs,M,O,Q',w,r,⟨m,ns,rfl,h1,h2,h3,q⟩,k⟩:=h
 obtain ⟨v,u,rfl,rv,ru⟩:=xJ r
 rw [zT ru]
 obtain ⟨a,rfl,ha⟩:=Aq rv
 refine ⟨a,m,ns,rfl,ha,h1,h2,h3,fun p H' cs kp hp hc lc=>?_⟩
 obtain ⟨e1,w1⟩:=JB w kp
 exact k _ _ _ _ _ (q cs lc) e1 w1 (Ja (w.fresh hp).1 hc)
noncomputable def Kv:ASp:=fun xs M Q=>∃ (b:Addr) (m:Int) (N:Nat),xs=[.ref b,.d (.int m)]/\BxM M b N/\N<100000000/\24<=m/\m<=1000/\∀ r M',BxS M M' b (N+10)->0<=r->r<=m->Q (.d (.int r)) M'
theorem X1 (vs:List V)(H:Hp)(Q:VK)(E:XK)(h:cSp Kv vs H Q E):Qe vs H Q E:=by
 obtain ⟨xs,M,O,Q',w,r,⟨b,many,N,rfl,hb,h1,h2,h3,q⟩,k⟩:=h
 obtain ⟨v,u,rfl,rv,ru⟩:=xJ r
 rw [zT ru,rv.1]
 refine ⟨b,many,N,rfl,hb.bx w,h1,h2,h3,fun r H' kp hb' r0 r1=>?_⟩
 obtain ⟨M',s,e,w'⟩:=Yv w hb kp hb'
 exact k _ _ _ _ _ (q r M' s r0 r1) e w' .int
noncomputable def Y7:ASp:=fun xs M Q=>∃ (x:AV) (n:Nat) (os:List Int),xs=[x]/\zN x M=some (os.map fun i=>.d (.int i))/\zB n os/\n<=1000/\Q (.d (.lst ((zo os n).map ilD))) M
theorem VO (vs:List V)(H:Hp)(Q:VK)(E:XK)(h:cSp Y7 vs H Q E):K8 K vs H Q E:=by
 obtain ⟨xs,M,O,Q',w,r,⟨x,n,os,rfl,hx,ho,hn,q⟩,k⟩:=h
 obtain ⟨v,rfl,rv⟩:=qG r
 obtain ⟨a,rfl,ha⟩:=VD w rv hx
 refine ⟨a,n,os,rfl,ha.elim (fun h=>.inl (SqL.of h)) (fun h=>.inr (SqT.of h)),ho,hn,fun p H' rs kp hp h1 h2 er=>?_⟩
 obtain ⟨e1,w1⟩:=JB w kp
 refine k _ _ _ _ _ q e1 w1 (Rep.lst (w.fresh hp).1 h1 (by rw [<- er];unfold rfs;simp) fun i x d i1 i2=>?_)
 rw [<- er] at i2
 unfold rfs at i1
 rw [List.getElem?_map] at i1 i2
 rw [List.getElem?_map] at i2
 cases e:rs[i]? with
 | none=>rw [e] at i1;cases i1
 | some y=>
  rw [e] at i1 i2
  cases i1;cases i2
  have:=h2 y (List.mem_of_getElem? e)
  exact Ja (w.fresh this.1).1 this.2.2
noncomputable abbrev Tst (c:AT)(ρ:ASt)(M:MH)(b:Bool):Prop:=∀ Q,Q b M->c ρ M Q
theorem jP {c:AT}{ρ:ASt}{M:MH}{b b':Bool}(h:Tst c ρ M b)(e:b=b'):Tst c ρ M b':=e ▸ h
theorem GL {c d:AT}{ρ:ASt}{M:MH}(h:Tst c ρ M false):Tst (Gy c d) ρ M false:=fun Q q=>h _ (by rw [if_neg (fun z=>nomatch z)];exact q)
theorem vt {c d:AT}{ρ:ASt}{M:MH}{b:Bool}(h:Tst c ρ M false)(h':Tst d ρ M b):Tst (aOr c d) ρ M b:=fun Q q=>h _ (by rw [if_neg (fun z=>nomatch z)];exact h' _ q)
theorem FD {c d:AT}{ρ:ASt}{M:MH}(h:Tst c ρ M true):Tst (aOr c d) ρ M true:=fun Q q=>h _ (by rw [if_pos rfl];exact q)
theorem qY {c:AT}{t r:AS}{B:MH}{D:jw}{ρ:ASt}{M:MH}(h:Tst c ρ M false)(k:r B D ρ M):kW (QP c t xj) r B D ρ M:=h _ (by rw [if_neg (fun z=>nomatch z)];exact k)
theorem Wd {c:AT}{e:AE}{r:AS}{B:MH}{D:jw}{ρ:ASt}{M:MH}(h:Tst c ρ M true)(k:e ρ M D.rt):kW (QP c (FB e) xj) r B D ρ M:=h _ (by rw [if_pos rfl];exact k)
theorem ZV {c:AT}{t:AS}{B:MH}{D:jw}{ρ:ASt}{M:MH}(h:Tst c ρ M false)(k:D.nx ρ M):QP c t xj B D ρ M:=h _ (by rw [if_neg (fun z=>nomatch z)];exact k)
theorem AY {w:Dat}{ps:List Dat}:atI (AV.d w :: ps.map AV.d) 0=some (.d w):=by
 unfold atI
 rw [jD (by walk_at "o") (by rw [List.length_cons];walk_at "o")]
 rfl
theorem tW {i:Nat}{w w':Str}{ps:List Dat}{ρ:ASt}{M:MH}(hρ:ρ[i]?=some (some (.d (.tup (.str w :: ps))))):Tst (aB (aOp (Qb id) (aOp (aIx zN) (zV i) (aC (.int 0))) (aC (.str w')))) ρ M (decide (w=w')):=fun Q q=>by
 refine ⟨_,hρ,_,0,.d (.str w),rfl,rfl,AY,_,_,rfl,rfl,by rw [yA];walk_at "o",by rw [yA];walk_at "o",_,rfl,?_⟩
 rw [ZT]
 exact q
theorem tIN {i:Nat}{x:AV}{ρ:ASt}{M:MH}(hρ:ρ[i]?=some (some x)):Tst (aB (aOp (FM id) (zV i) (aC .non))) ρ M (xi x):=fun Q q=>⟨_,hρ,rfl,_,rfl,q⟩
theorem tNt {c:AT}{ρ:ASt}{M:MH}{b:Bool}(h:Tst c ρ M b):Tst (Fu c) ρ M (!b):=fun Q q=>h _ q
theorem DT {i:Nat}{x:AV}{t c:String}{b:Bool}{ρ:ASt}{M:MH}(h:ρ[i]?=some (some x))(ht:tyA x M=some t)(hb:isT t c=some b):Tst (aB (aCB B8 (zQ (zV i) (zQ (aC (.ty c)) ja)))) ρ M b:=fun Q q=>⟨_,h,_,_,_,_,rfl,ht,hb,_,rfl,q⟩
theorem Z0 {c:AT}{t r:AS}{B:MH}{D:jw}{ρ:ASt}{M:MH}(h:Tst c ρ M true)(k:t B { D with nx:=r B D } ρ M):kW (QP c t xj) r B D ρ M:=h _ (by rw [if_pos rfl];exact k)
noncomputable abbrev Val (e:AE)(ρ:ASt)(M:MH)(v:AV):Prop:=∀ Q:AK,Q v M->e ρ M Q
theorem vB {e:AE}{ρ:ASt}{M:MH}{b:Bool}(h:Val e ρ M (.d (.bl b))):Tst (aB e) ρ M b:=fun Q q=>h _ ⟨_,rfl,q⟩
theorem yj {i:Nat}{x:AV}{t c:String}{b:Bool}{ρ:ASt}{M:MH}(h:ρ[i]?=some (some x))(ht:tyA x M=some t)(hb:isT t c=some b):Val (aCB B8 (zQ (zV i) (zQ (aC (.ty c)) ja))) ρ M (.d (.bl b)):=fun Q q=>⟨_,h,_,_,_,_,rfl,ht,hb,q⟩
theorem X6 {a e:AE}{f:Bool->Bool}{ρ:ASt}{M:MH}{b c:Bool}(h:Val a ρ M (.d (.bl b)))(h':Val e ρ M (.d (.bl c))):Val (aOp (Qb f) a e) ρ M (.d (.bl (f (decide (b=c))))):=fun Q q=>h _ (h' _ ⟨_,_,rfl,rfl,by rw [Qu];walk_at "o",by rw [Qu];walk_at "o",by rw [JV];exact q⟩)
theorem F9 {a e:AE}{f:Bool->Bool}{ρ:ASt}{M:MH}{b c:Int}(h:Val a ρ M (.d (.int b)))(h':Val e ρ M (.d (.int c))):Val (aOp (Qb f) a e) ρ M (.d (.bl (f (decide (b=c))))):=fun Q q=>h _ (h' _ ⟨_,_,rfl,rfl,by rw [xM];walk_at "o",by rw [xM];walk_at "o",by rw [J8];exact q⟩)
theorem BW {i j:Nat}{f:Bool->Bool}{ρ:ASt}{M:MH}{x y:AV}{d d':Dat}{b:Bool}(hi:ρ[i]?=some (some x))(hj:ρ[j]?=some (some y))(hx:kD x M=some d)(hy:kD y M=some d')(h1:dp d<=40)(h2:dp d'<=40)(e:f (eqD d d')=b):Val (aOp (Qb f) (zV i) (zV j)) ρ M (.d (.bl b)):=fun Q q=>⟨_,hi,_,hj,_,_,hx,hy,h1,h2,by rw [e];exact q⟩
theorem AR {i:Nat}{ρ:ASt}{M:MH}{x:AV}{l:List AV}(hi:ρ[i]?=some (some x))(hx:zN x M=some l):Val (aCB Ac (zQ (zV i) ja)) ρ M (.d (.int (l.length:Nat))):=fun Q q=>⟨_,hi,_,_,rfl,hx,q⟩
theorem kQ {a e:AE}{ρ:ASt}{M:MH}{Q:AK}(h:Val a ρ M (.d (.bl true)))(k:e ρ M Q):Yq a e ρ M Q:=h _ ⟨_,rfl,by rw [if_pos rfl];exact k⟩
theorem yS {e:AE}{ρ:ASt}{M:MH}{b b':Bool}(h:Val e ρ M (.d (.bl b)))(q:b=b'):Val e ρ M (.d (.bl b')):=q ▸ h
theorem ZZ {i:Nat}{x:AV}{t c c':String}{b:Bool}{ρ:ASt}{M:MH}(h:ρ[i]?=some (some x))(ht:tyA x M=some t)(hb:va t [c,c']=some b)(hs:2<=sizeLine):Tst (aB (aCB Yz (zQ (zV i) (zQ (XY (zQ (aC (.ty c)) (zQ (aC (.ty c')) ja))) ja)))) ρ M b:=fun Q q=>⟨_,h,hs,_,rfl,_,_,_,_,_,rfl,rfl,ht,hb,_,rfl,q⟩
noncomputable abbrev vw:Stmt:=top 26
theorem ZJ:zy ["_law_found","_law_due","_law_one","_law_other"] ["_law_found","_law_due"] (zj vw):=⟨rfl,rfl,rfl,by decide +kernel,rfl,by decide +kernel,by decide +kernel⟩
noncomputable def vE (n:Nat):ASp:=fun xs M Q=>∃ (x y:AV) (d:Dat),xs=[x,y]/\kD x M=some d/\kD y M=some d/\jy n d/\n<=30/\Q (.d (.bl true)) M
noncomputable def aNo:ASp:=fun _ _ _=>False
theorem YU {x y:AV}{M:MH}{l:List Dat}{n:Nat}{sp:ASp}(hsp:∀ xs M Q,vE n xs M Q->sp xs M Q){N:List AV->ASt->MH->Prop}(hl:l.length<=100000)(hd:∀ d ∈ l,jy n d)(hn:n<=30){u v:Option AV}(hN:N (l.map fun _=>AV.d (.bl true)) [] M)(hN':∀ acc ρ ρ' M,N acc ρ M->N acc ρ' M) :
  wm (QD 2 (qV (qM 2) (qV (qM 3) yV))) kB (jI (KW sp (zQ (zV 2) (zQ (zV 3) ja)))) (fun M'=>qb x M'=qb x M/\qb y M'=qb y M) N (wl l l) [] [some x,some y,u,v] M:=by
 have e:(wl l l).map (fun _=>AV.d (.bl true))=l.map fun _=>AV.d (.bl true):=by
  rw [List.map_const',List.map_const',jE,Nat.min_self]
 refine E2 (fun (o:Option AV × Option AV)=>[some x,some y,o.1,o.2]) (fun _=>.d (.bl true)) ⟨(u,v),rfl⟩ ⟨rfl,rfl⟩ (by rw [jE,Nat.min_self];exact hl) (fun o z Q hz q=>?_) fun o=>by rw [e];exact hN' _ _ _ _ hN
 obtain ⟨i,hi⟩:=List.getElem?_of_mem hz
 obtain ⟨d,d',h1,h2,rfl⟩:=kX hi
 rw [h1] at h2;cases h2
 walk_at "ra"
 exact hsp _ _ _ ⟨_,_,d,rfl,rfl,rfl,hd d (List.mem_of_getElem? h1),hn,q (some (.d d),some (.d d))⟩
theorem Vf {l:List Dat}:∃ bs:List Bool,(l.map fun _=>Dat.bl true)=bs.map Dat.bl/\(l.map fun _=>AV.d (Dat.bl true))=bs.map (fun b=>AV.d (.bl b))/\bs.all id=true:=⟨l.map fun _=>true,by rw [List.map_map];rfl,by rw [List.map_map];rfl,by simp⟩
theorem KN {x y:AV}{M:MH}{l:List Dat}{n:Nat}{sp:ASp}{Q:AK}(hxy:(qb x M=some (l.map AV.d)/\qb y M=some (l.map AV.d)) \/ (x=.d (.tup l)/\y=.d (.tup l)/\l.length<=l.length))(hsp:∀ xs M Q,vE n xs M Q->sp xs M Q)(hl:l.length<=100000)(hd:∀ d ∈ l,jy n d)(hn:n<=30)(q:Q (.d (.bl true)) M) :
  aCB (FL fun bs=>bs.all id) (zQ (aFz (wL [2,3] (Bz (zQ (zV 0) (zQ (zV 1) ja))) (QD 2 (qV (qM 2) (qV (qM 3) yV))) kB (jI (KW sp (zQ (zV 2) (zQ (zV 3) ja)))))) ja) [some x,some y,none,none] M Q:=by
 walk_at "ra"
 refine ⟨l,l,hxy,YU (n:=n) (sp:=sp) hsp hl hd hn ?_ (fun _ _ _ _ z=>z)⟩
 obtain ⟨bs,b1,b2,b3⟩:=Vf (l:=l)
 refine ⟨l.map fun _=>.bl true,?_,bs,by rw [List.map_map];exact b2,?_⟩
 ·rw [<- zJ (l.map fun _=>Dat.bl true),List.map_map];rfl
 ·rw [b3];exact q
theorem FX (a:At K mg "_law_same" vw):Df P w K mg base "_law_same" ["_law_found","_law_due"] 1 (cSp aNo):=
 kP (k:=0) a ZJ (fun _ _ _ _ _ _=>Pn2_ fun _ _=>rfl) (fun vs H Q E h=>by obtain ⟨_,_,_,_,_,_,h,_⟩:=h;exact h.elim) (fun f cdv A outer s H vs Q E hr h=>by obtain ⟨_,_,_,_,_,_,h,_⟩:=h;exact h.elim)
theorem Xj (a:At K mg "_law_same" vw)(B:Blt mg)(Ball:mg "all"=none){kk:Nat}(n:Nat){sp:ASp}(hsp:∀ xs M Q,1<=n->vE (n - 1) xs M Q->sp xs M Q)(D_law_same:Df P w K mg base "_law_same" ["_law_found","_law_due"] kk (cSp sp)):Df P w K mg base "_law_same" ["_law_found","_law_due"] (kk+1) (cSp (vE n)):=by
 refine dfA (k:=kk) a ZJ (fun _ _ _ _ _ _=>Pn2_ fun _ _=>rfl) (fun xs M Q h=>?_) (fun f cdv A outer s H E hr=>?_)
 ·obtain ⟨_,_,_,rfl,_⟩:=h;rfl
 have sc:=ZJ
 have hsl:=hsl
 have hs2:2<=sizeLine:=by walk_at "o"
 refine ⟨_,(zc (qu (kc (zn w6 rfl B.isinstance zD (za (pv 1) (za (qU (za (qA (v:=.ty "list") rfl B.list jh rfl) (za (qA (v:=.ty "tuple") rfl B.tuple kK rfl) zb))) zb))) (fun _=>rfl)) (zc (qu (PW.pt (Qq (wc (kc (zn w6 rfl B.isinstance zD (za (pv 0) (za (qU (za (qA (v:=.ty "list") rfl B.list jh rfl) (za (qA (v:=.ty "tuple") rfl B.tuple kK rfl) zb))) zb))) (fun _=>rfl))) (vD (zE (yB hr.units) (zn qJ rfl B.isinstance zD (za (pv 0) (za (qA (v:=.ty "list") rfl B.list jh rfl) zb))) (zn qJ rfl B.isinstance zD (za (pv 1) (za (qA (v:=.ty "list") rfl B.list jh rfl) zb))) (zz _))))) (zh (zA yh)) zK)
  (zh (zA (Zt (ji (qw hr.units) (zn zw rfl B.len qN (za (pv 0) zb)) (zn zw rfl B.len qN (za (pv 1) zb)) (zz _)) (JJ (zn (Yl rfl) rfl Ball Fq (za (qr (ts:=[2,3]) rfl rfl (vH rfl B.zip (za (pv 0) (za (pv 1) zb))) (fun _ _ _ _=>(jk (K:=K) 2 rfl rfl (zM (zp (i:=2) sc.nd rfl (by first | exact Or.inl rfl | exact Or.inr rfl)) (zM (zp (i:=3) sc.nd rfl (by first | exact Or.inl rfl | exact Or.inr rfl)) jj)))) (fun _ _ _ _=>qk) (fun _ _ _ _=>(zO D_law_same hr rfl (za (pv 2) (za (pv 3) zb))))) zb))))))) zK)
  (zc (qu (PW.pt (Qq (zE WK (pv 1) vv (zz _)) (vD (kc (zn qJ rfl B.isinstance zD (za (pv 1) (za (qA (v:=.ty "str") rfl B.str Jy rfl) zb))) (fun _=>rfl))))) (zh (zA (Zt (ji (qw hr.units) (zn qJ rfl B.isinstance zD (za (pv 0) (za (qA (v:=.ty "str") rfl B.str Jy rfl) zb))) (zn qJ rfl B.isinstance zD (za (pv 1) (za (qA (v:=.ty "str") rfl B.str Jy rfl) zb))) (zz _)) (JJ (ji (qw hr.units) (pv 0) (pv 1) (zz _)))))) zK)
  (zh (zA (Zt (zn qJ rfl B.isinstance zD (za (pv 0) (za (qA (v:=.ty "int") rfl B.int xU rfl) zb))) (Zt (ji (qw hr.units) (zn qJ rfl B.isinstance zD (za (pv 0) (za (qA (v:=.ty "bool") rfl B.bool Km rfl) zb))) (zn qJ rfl B.isinstance zD (za (pv 1) (za (qA (v:=.ty "bool") rfl B.bool Km rfl) zb))) (zz _)) (JJ (ji (qw hr.units) (pv 0) (pv 1) (zz _))))))))),?_⟩
 refine ex2 (by walk_at "sim") ?_
 rintro xs M Q ⟨x,y,d,rfl,hx,hy,hd,hn,q⟩
 rw [show qi ["_law_found","_law_due","_law_one","_law_other"] [x,y]=[some x,some y,none,none] from rfl]
 have fin:=Dh (M0:=M) Fr.refl (.bl true)
 cases d with
 | non=>
  obtain rfl:=qv hx (fun _ z=>nomatch z);obtain rfl:=qv hy (fun _ z=>nomatch z)
  exact qY (ZZ rfl rfl Yu hs2) (Wd (FD (jP (tIN rfl) rfl)) (kQ (yS (X6 (yj rfl rfl JM) (yj rfl rfl JM)) rfl) (BW rfl rfl rfl rfl (by rw [JY];walk_at "o") (by rw [JY];walk_at "o") Vp _ ⟨_,_,fin,q⟩)))
 | bl b=>
  obtain rfl:=qv hx (fun _ z=>nomatch z);obtain rfl:=qv hy (fun _ z=>nomatch z)
  exact qY (ZZ rfl rfl Vb hs2) (qY (vt (jP (tIN rfl) rfl) (DT rfl rfl V2)) (kQ (yj rfl rfl Wy) (kQ (yS (X6 (yj rfl rfl JS) (yj rfl rfl JS)) rfl) (BW rfl rfl rfl rfl (by rw [Qu];walk_at "o") (by rw [Qu];walk_at "o") (by rw [JV];exact decide_eq_true rfl) _ ⟨_,_,fin,q⟩))))
 | int i=>
  obtain rfl:=qv hx (fun _ z=>nomatch z);obtain rfl:=qv hy (fun _ z=>nomatch z)
  exact qY (ZZ rfl rfl Wa hs2) (qY (vt (jP (tIN rfl) rfl) (DT rfl rfl VP)) (kQ (yj rfl rfl Vj) (kQ (yS (X6 (yj rfl rfl Jt) (yj rfl rfl Jt)) rfl) (BW rfl rfl rfl rfl (by rw [xM];walk_at "o") (by rw [xM];walk_at "o") (by rw [J8];exact decide_eq_true rfl) _ ⟨_,_,fin,q⟩))))
 | str i=>
  obtain rfl:=qv hx (fun _ z=>nomatch z);obtain rfl:=qv hy (fun _ z=>nomatch z)
  exact qY (ZZ rfl rfl Y2 hs2) (Wd (vt (jP (tIN rfl) rfl) (DT rfl rfl Zi)) (kQ (yS (X6 (yj rfl rfl Zi) (yj rfl rfl Zi)) rfl) (BW rfl rfl rfl rfl (by rw [yA];walk_at "o") (by rw [yA];walk_at "o") (by rw [ZT];exact decide_eq_true rfl) _ ⟨_,_,fin,q⟩)))
 | tup l=>
  obtain rfl:=qv hx (fun _ z=>nomatch z)
  obtain rfl:=qv hy (fun _ z=>nomatch z)
  cases n with
  | zero=>exact hd.no_t.elim
  | succ n=>
   obtain ⟨hl,hd'⟩:=hd.tup
   refine Z0 (ZZ rfl rfl Ka hs2) (qY (vt (jP (tNt (ZZ rfl rfl Ka hs2)) rfl) (vB (yS (X6 (yj rfl rfl JW) (yj rfl rfl JW)) rfl))) (kQ (yS (F9 (AR rfl rfl) (AR rfl rfl)) (decide_eq_true rfl)) ?_))
   exact KN (x:=.d (.tup l)) (y:=.d (.tup l)) (.inr ⟨rfl,rfl,Nat.le_refl _⟩) (fun xs M Q h=>hsp xs M Q (by walk_at "o") h) hl hd' (by walk_at "o") ⟨_,_,fin,q⟩
 | lst l=>
  obtain ⟨x1,x2,x3,x4⟩:=QJ hx
  obtain ⟨y1,y2,y3,y4⟩:=QJ hy
  cases n with
  | zero=>exact hd.no_l.elim
  | succ n=>
   obtain ⟨hl,hd'⟩:=hd.lst
   refine Z0 (ZZ rfl y3 Jh hs2) (qY (vt (jP (tNt (ZZ rfl x3 Jh hs2)) rfl) (vB (yS (X6 (yj rfl x3 Kf) (yj rfl y3 Kf)) rfl))) (kQ (yS (F9 (AR rfl x2) (AR rfl y2)) (decide_eq_true rfl)) ?_))
   exact KN (.inl ⟨x1,y1⟩) (fun xs M Q h=>hsp xs M Q (by walk_at "o") h) hl hd' (by walk_at "o") ⟨_,_,fin,q⟩
 | ty t=>have:=hd.1;rw [dp] at this;walk_at "o"
 | rng _ _ _=>have:=hd.1;rw [dp] at this;walk_at "o"
 | scr _ _=>have:=hd.1;rw [dp] at this;walk_at "o"
theorem Qo (a:At K mg "_law_same" vw)(B:Blt mg)(Ball:mg "all"=none):∀ n,Df P w K mg base "_law_same" ["_law_found","_law_due"] (n+2) (cSp (vE n))
 | 0=>Xj a B Ball 0 (sp:=aNo) (fun _ _ _ h=>absurd h (by walk_at "o")) (FX a)
 | n+1=>Xj a B Ball (n+1) (sp:=vE n) (fun _ _ _ _ h=>h) (Qo a B Ball n)
noncomputable def deD:De->Dat
 | .swap a b=>.tup [.str (Str.ofString "swap"),.int (a:Int),.int (b:Int)]
 | .take p=>.tup [.str (Str.ofString "take"),.int (p:Int)]
 | .move p g=>.tup [.str (Str.ofString "move"),.int (p:Int),.int (g:Int)]
 | .lay g=>.tup [.str (Str.ofString "lay"),.int (g:Int)]
theorem Q0 {n:Nat}{os:List Int}(h:zB n os){r:List Int}:∀ {i:Nat},i<=n->r ∈ zo os i->∀ x ∈ r,0<=x/\x<(n:Int)
 | 0,_,hr=>by simp [zo] at hr
 | i+1,hi,hr=>by
  unfold zo at hr
  rcases List.mem_append.mp hr with z | z
  ·exact Q0 h (by walk_at "o") z
  ·by_cases c:yY os i/\1<per os (i:Int)
   ·rw [if_pos c] at z
    rw [List.mem_singleton.mp z]
    intro x hx
    obtain ⟨k,_,e⟩:=qd.mp hx
    rw [<- e]
    exact qm h (by walk_at "o") (by walk_at "o") k
   ·rw [if_neg c] at z;cases z
theorem WM {n:Nat}{os:List Int}(h:zB n os){r:List Int}(hr:r ∈ zo os n):∀ x ∈ r,0<=x:=fun x hx=>(Q0 h (Nat.le_refl n) hr x hx).1
theorem yt {α β:Type}(f:α->List β)(l:List α)(i:Nat):(((l.take i).map f).flatten).length<=((l.map f).flatten).length:=by
 have e:(l.map f).flatten=((l.take i).map f).flatten ++ ((l.drop i).map f).flatten:=by
  rw [<- List.flatten_append,<- List.map_append,List.take_append_drop]
 rw [e,List.length_append];walk_at "o"
theorem xn {α β:Type}{f:α->List β}{g:α->Nat}:∀ (rs:List α),(∀ r ∈ rs,(f r).length=g r)->((rs.map f).flatten).length=(rs.map g).sum
 | [],_=>rfl
 | r :: rs,h=>by
  rw [List.map_cons,List.flatten_cons,List.length_append,xn rs fun x hx=>h x (by simp [hx]),h r (by simp)];rfl
theorem vo:∀ (ps:List Nat) (g:Nat),(mvP g ps).length=ps.length
 | [],_=>rfl
 | p :: ps,g=>by show (mvP p ps).length+1=_;rw [vo ps p];rfl
theorem X0 {c:List Nat}(h:1<=c.length):(qQ c).length=c.length+1:=by
 unfold qQ
 rw [List.length_append,List.length_cons,vo,List.length_reverse,List.length_drop]
 show _+1+1=_
 walk_at "o"
theorem Qk:∀ (rs:List (List Int)),(rs.map fun r=>r.length+1).sum=y9 rs+rs.length
 | []=>rfl
 | r :: rs=>by
  have:=Qk rs
  unfold y9 at *
  simp only [List.map_cons,List.sum_cons,List.length_cons] at *
  walk_at "o"
theorem Q9:∀ (rs:List (List Int)),(∀ r ∈ rs,1<=r.length)->(rs.map fun r=>r.length - 1).sum+rs.length=y9 rs
 | [],_=>rfl
 | r :: rs,h=>by
  have:=Q9 rs fun x hx=>h x (by simp [hx])
  have h1:=h r (by simp)
  unfold y9 at *
  simp only [List.map_cons,List.sum_cons,List.length_cons] at *
  walk_at "o"
theorem YJ (os:List Int)(n:Nat):YS os n<=n:=by
 have:=List.length_filter_le (fun (i:Nat)=>!decide (os.getD i 0=(i:Int))) (List.range n)
 rw [List.length_range] at this
 exact this
theorem xL {n:Nat}{os:List Int}(h:zB n os):(jJ os n).length=YS os n+(zo os n).length:=by
 unfold jJ
 rw [xn (g:=fun r=>r.length+1),Qk,Qp h]
 intro r hr
 have:=ka h (Nat.le_refl n) hr
 rw [X0 (by rw [List.length_map];walk_at "o"),List.length_map]
theorem yK {n:Nat}{os:List Int}(h:zB n os):(jc os n).length+(zo os n).length=YS os n:=by
 unfold jc
 rw [xn (g:=fun r=>r.length - 1),Q9,Qp h]
 ·intro r hr
  have:=ka h (Nat.le_refl n) hr;walk_at "o"
 ·intro r _
  unfold zW
  rw [List.length_map,List.length_drop,List.length_map]
noncomputable abbrev ko:Stmt:=top 11
theorem xG:zy ["ring","deeds","goal","place"] ["ring"] (zj ko):=⟨rfl,rfl,rfl,by decide +kernel,rfl,by decide +kernel,by decide +kernel⟩
noncomputable def ddD (d:Dd):Dat:=deD (yX d)
noncomputable def vX:ASp:=fun xs M Q=>∃ r:List Int,xs=[.d (ilD r)]/\(∀ x ∈ r,0<=x)/\1<=r.length/\r.length<=1000/\Q (.d (.lst ((qQ (r.map Int.toNat)).map ddD))) M
theorem Q2:∀ (ps:List Nat) (g p:Nat),mvP g (ps ++ [p])=mvP g ps ++ [.move p (ps.getLastD g)]
 | [],_,_=>rfl
 | q :: ps,g,p=>by
  show Dd.move q g :: mvP q (ps ++ [p])=_
  rw [Q2 ps q p,show (q :: ps).getLastD g=ps.getLastD q by simp [List.getLastD_eq_getLast?,List.getLast?_cons]];rfl
theorem Zb {ps:List Nat}{g p:Nat}:(ps ++ [p]).getLastD g=p:=by simp [List.getLastD_eq_getLast?]
theorem wg (a:At K mg "round_ring" ko)(B:Blt mg):Df P w K mg base "round_ring" ["ring"] 1 (cSp vX):=by
 refine dfA (k:=0) a xG (fun _ _ _ _ _ _=>Pn1_ fun _=>rfl) (fun xs M Q h=>?_) (fun f cdv A outer s H E hr=>?_)
 ·obtain ⟨_,rfl,_⟩:=h;rfl
 have sc:=xG
 have hsl:=hsl
 refine ⟨_,(zc (zt (i:=1) sc.nd rfl (by first | exact Or.inl rfl | exact Or.inr rfl) (jt (zR (za (qU (za jZ (za (zG qB (pv 0) zd (fun _ _=>rfl)) zb))) zb))))
  (zc (zt (i:=2) sc.nd rfl (by first | exact Or.inl rfl | exact Or.inr rfl) (zG qB (pv 0) zd (fun _ _=>rfl)))
  (zc (jf PassesOwn.never rfl (jd (wx (pv 0) ki (qf zd) (qf (YM Jq zd)))) (zp (i:=3) sc.nd rfl (by first | exact Or.inl rfl | exact Or.inr rfl)) (zc (qK (jN PySem.F.plainAttrs_list PySem.F.slot_list_append PySem.F.type_list_append qD (pv 1) (za (qU (za jZ (za (pv 3) (za (pv 2) zb)))) zb)))
  (zh (zt (i:=2) sc.nd rfl (by first | exact Or.inl rfl | exact Or.inr rfl) (pv 3)))))
  (zc (qK (jN PySem.F.plainAttrs_list PySem.F.slot_list_append PySem.F.type_list_append qD (pv 1) (za (qU (za jZ (za (pv 2) zb))) zb)))
  (zh (zA (pv 1))))))),?_⟩
 refine ex2 (by walk_at "sim") ?_
 rintro xs M Q ⟨r,rfl,hr0,hc1,hc2,q⟩
 rw [show qi ["ring","deeds","goal","place"] [.d (ilD r)]=[some (.d (ilD r)),none,none,none] from rfl]
 walk_at "ra"
 have h0:=QB (ns:=r) (i:=0) (by walk_at "o") (by walk_at "o")
 rw [Int.toNat_zero] at h0
 rw [h0]
 walk_at "ra"
 have hg0:0<=r.getD 0 0:=by rw [List.getD_eq_getElem?_getD,List.getElem?_eq_getElem (by walk_at "o")];exact hr0 _ (List.getElem_mem _)
 refine ⟨by walk_at "o",by walk_at "o",fun p hp _=>⟨by decide,?_⟩⟩
 rw [ZG,wI]
 walk_at "ra"
 have hps:∀ i x,((r.drop 1).reverse.map fun i=>AV.d (.int i))[i]?=some x->∃ y:Nat,((r.map Int.toNat).drop 1).reverse[i]?=some y/\x=AV.d (.int (y:Int)):=fun i x hx=>by
  rw [List.getElem?_map] at hx
  rw [<- List.map_drop,<- List.map_reverse]
  cases e:(r.drop 1).reverse[i]? with
  | none=>rw [e] at hx;cases hx
  | some z=>
   rw [e] at hx
   cases hx
   have:z ∈ r:=List.mem_of_mem_drop (List.mem_reverse.mp (List.mem_of_getElem? e))
   exact ⟨z.toNat,by rw [List.getElem?_map,e];rfl,by rw [Int.toNat_of_nonneg (hr0 z this)]⟩
 generalize hps':((r.map Int.toNat).drop 1).reverse=ps at hps
 have lps:((r.drop 1).reverse.map fun i=>AV.d (.int i)).length=ps.length:=by rw [<- hps'];simp
 have lps2:ps.length<=1000:=by rw [<- hps'];simp;walk_at "o"
 have e0:(r.map Int.toNat).getD 0 0=(r.getD 0 0).toNat:=by
  rw [List.getD_eq_getElem?_getD,List.getElem?_map,List.getD_eq_getElem?_getD]
  cases r[0]? <;> rfl
 generalize (r.drop 1).reverse.map (fun i=>AV.d (.int i))=its at hps lps
 refine ⟨fun i ρ M'=>∃ u,ρ=[some (.d (ilD r)),some (.ref p),some (.d (.int ((ps.take i).getLastD (r.getD 0 0).toNat:Nat))),u]/\M'=mup M p (.lst (((Dd.take (r.getD 0 0).toNat :: mvP (r.getD 0 0).toNat (ps.take i)).map ddD).map .d)),⟨none,?_,?_⟩,?_,?_⟩
 ·show _=[_,_,some (AV.d (.int ((r.getD 0 0).toNat:Int))),_]
  rw [Int.toNat_of_nonneg hg0]
 ·show _=mup M p (.lst [.d (.tup [.str (Str.ofString "take"),.int ((r.getD 0 0).toNat:Int)])])
  rw [Int.toNat_of_nonneg hg0]
 ·rintro i x ρ M' hx ⟨u,rfl,rfl⟩
  obtain ⟨y,hy,rfl⟩:=hps i x hx
  have tk:ps.take (i+1)=ps.take i ++ [y]:=by rw [List.take_add_one,hy];rfl
  have hi:=(List.getElem?_eq_some_iff.mp hy).1
  walk_at "ra"
  refine ⟨⟨_,qo ze⟩,by walk_at "o",_,ze,?_,?_⟩
  ·simp only [List.length_map,List.length_cons,vo,List.length_take];walk_at "o"
  ·refine ⟨by rw [tk,Zb],?_⟩
   rw [tk,Q2,List.map_append,List.map_append];rfl
 ·rintro ρ M' ⟨u,rfl,rfl⟩
  rw [lps,List.take_length]
  walk_at "ra"
  refine ⟨⟨_,qo ze⟩,by walk_at "o",_,ze,?_,?_⟩
  ·simp only [List.length_map,List.length_cons,vo];walk_at "o"
  ·refine ⟨_,_,jx (Fr.refl.mup hp _) hp ze (ds:=(qQ (r.map Int.toNat)).map ddD) ?_,q⟩
   rw [<- zJ,qQ,e0,hps',List.map_append,List.map_append];rfl
theorem Ex {τ:Type}(R:τ->ASt)(f:Nat->Int){ag:AG}{ae:AE}{G:MH->Prop}{N:List AV->ASt->MH->Prop}{n:Nat}{ρ:ASt}{M:MH}(h0:∃ o,ρ=R o)(hG:G M)(hl:n<=100000)
  (hs:∀ (o:τ) (i:Nat) (Q:AV->ASt->MH->Prop),i<n->(∀ o',Q (.d (.int (f i))) (R o') M)->ag (.d (.int (i:Int))) (R o) M fun ρ2 M2=>ae ρ2 M2 fun y M3=>Q y ρ2 M3) (hN:∀ o,N (((List.range n).map f).map fun i=>AV.d (.int i)) (R o) M):wm ag kB (jI ae) G N (QH 0 1 n) [] ρ M:=by
 refine KR R (fun i=>.d (.int (f i))) h0 hG (by rw [j7];exact hl) (fun o i x Q hx q=>?_) fun o=>?_
 ·obtain ⟨hi,rfl⟩:=jH hx
  rw [Int.zero_add,Int.mul_one]
  exact hs o i Q hi q
 ·rw [j7]
  have:=hN o
  rw [List.map_map] at this
  exact this
theorem vf (ns:List Int):dp (ilD ns)<=40:=by
 have:∀ ns:List Int,dps (ns.map .int)<=0:=fun ns=>ZH fun d hd=>by obtain ⟨i,_,rfl⟩:=List.mem_map.mp hd;simp [dp]
 rw [dp];have:=this ns;walk_at "o"
noncomputable def qR (n:Nat)(k:Int):List Int:=(List.range n).map fun (i:Nat)=>((i:Int)+k) % (n:Int)
theorem xv (n:Nat)(k:Int):(qR n k).length=n:=by simp [qR]
theorem qT {n:Nat}{k:Int}{i:Nat}(h:i<n):(qR n k).getD i 0=((i:Int)+k) % (n:Int):=by
 rw [qe (by rw [xv];exact h)];simp [qR]
theorem xt (n:Nat)(k:Int):zB n (qR n k):=by
 refine Z4 (xv n k) (fun i hi=>?_) (fun i j hi hj e=>?_)
 ·rw [qT hi]
  exact ⟨Int.emod_nonneg _ (by walk_at "o"),Int.emod_lt_of_pos _ (by walk_at "o")⟩
 ·rw [qT hi,qT hj] at e
  have d:(((i:Int)+k) - ((j:Int)+k)) % (n:Int)=0:=by
   rw [Int.sub_emod,e,Int.sub_self,Int.zero_emod]
  rw [show ((i:Int)+k) - ((j:Int)+k)=(i:Int) - j by walk_at "o"] at d
  obtain ⟨c,hc⟩:=Int.dvd_of_emod_eq_zero d
  have h1:(i:Int) - j<n:=by walk_at "o"
  have h2:-(n:Int)<(i:Int) - j:=by walk_at "o"
  have hn:(0:Int)<n:=by walk_at "o"
  have c0:c=0:=by
   rcases Int.lt_trichotomy c 0 with z | z | z
   ·exfalso
    have:(n:Int) * c<=(n:Int) * (-1):=Int.mul_le_mul_of_nonneg_left (by walk_at "o") (by walk_at "o")
    walk_at "o"
   ·exact z
   ·exfalso
    have:(n:Int) * 1<=(n:Int) * c:=Int.mul_le_mul_of_nonneg_left (by walk_at "o") (by walk_at "o")
    walk_at "o"
  subst c0
  walk_at "o"
noncomputable def Dc:ASp:=fun xs M Q=>∃ (n:Nat) (k:Int),xs=[.d (.int n),.d (.int k)]/\n<=2000/\Q (.d (ilD (qR n k))) M
noncomputable abbrev JE:Stmt:=top 13
theorem KF:zy ["n","k","place"] ["n","k"] (zj JE):=⟨rfl,rfl,rfl,by decide +kernel,rfl,by decide +kernel,by decide +kernel⟩
theorem AQ (a:At K mg "roll_order" JE)(B:Blt mg):Df P w K mg base "roll_order" ["n","k"] 1 (cSp Dc):=by
 refine dfA (k:=0) a KF (fun _ _ _ _ _ _=>Pn2_ fun _ _=>rfl) (fun xs M Q h=>?_) (fun f cdv A outer s H E hr=>?_)
 ·obtain ⟨_,_,rfl,_⟩:=h;rfl
 have sc:=KF
 have hsl:=hsl
 refine ⟨_,(zh (zA (qr (ts:=[2]) rfl rfl (qS rfl B.range (za (pv 0) zb)) (fun _ _ _ _=>(zp (i:=2) sc.nd rfl (by first | exact Or.inl rfl | exact Or.inr rfl))) (fun _ _ _ _=>qk) (fun _ _ _ _=>(zm qC (zm qc (pv 2) (pv 1)) (pv 0)))))),?_⟩
 refine ex2 (by walk_at "sim") ?_
 rintro xs M Q ⟨n,k,rfl,hn,q⟩
 rw [show qi ["n","k","place"] [.d (.int n),.d (.int k)]=[some (.d (.int n)),some (.d (.int k)),none] from rfl]
 walk_at "ra"
 refine ⟨by walk_at "o",by walk_at "o",?_⟩
 rw [Int.toNat_natCast]
 refine Ex (fun o=>[some (.d (.int n)),some (.d (.int k)),o]) (fun i=>((i:Int)+k) % (n:Int)) ⟨_,rfl⟩ trivial (by walk_at "o") (fun o i Q hi q=>?_) fun o=>⟨_,zI _,ZN Fr.refl q⟩
 walk_at "ra"
 exact ⟨by walk_at "o",q _⟩
theorem ZM {a b:List Int}(h:a.length=b.length)(g:∀ x,x<a.length->a.getD x 0=b.getD x 0):a=b:=by
 refine List.ext_getElem h fun i h1 h2=>?_
 have:=g i h1
 rwa [List.getD_eq_getElem?_getD,List.getElem?_eq_getElem h1,List.getD_eq_getElem?_getD,List.getElem?_eq_getElem h2] at this
noncomputable abbrev rlb (f:Int->Int)(s:ES):ES:=(s.1.map (Option.map f),s.2.map f)
theorem DoE.rlb (f:Int->Int){d:De}{s t:ES}(h:DoE d s t):DoE d (rlb f s) (rlb f t):=by
 have g:∀ {row:List (Option Int)} {p:Nat} {v:Option Int},row[p]?=some v->(row.map (Option.map f))[p]?=some (v.map f):=fun e=>by rw [List.getElem?_map,e];rfl
 cases h with
 | swap ne h1 h2=>unfold Ot.rlb;rw [List.map_set,List.map_set];exact .swap ne (g h1) (g h2)
 | take h1=>unfold Ot.rlb;rw [List.map_set];exact .take (g h1)
 | move h1 h2=>unfold Ot.rlb;rw [List.map_set,List.map_set];exact .move (g h1) (g h2)
 | lay h1=>unfold Ot.rlb;rw [List.map_set];exact .lay (g h1)
theorem jG.rlb (f:Int->Int){l:List De}{s t:ES}(h:jG l s t):jG l (rlb f s) (rlb f t):=by
 induction h with
 | nil=>exact .nil
 | cons d _ ih=>exact .cons (d.rlb f) ih
theorem Xg (f:Int->Int)(T:List Int):rlb f (T.map some,none)=((T.map f).map some,none):=by
 unfold rlb
 simp only [List.map_map]
 rfl
theorem Kw (n:Nat)(f:Int->Int){T:List Int}(hT:T.length=n)(h:∀ i:Nat,i<n->f (i:Int)=T.getD i 0):(zr 0 1 n).map f=T:=by
 refine ZM (by rw [List.length_map,zv,hT]) fun x hx=>?_
 rw [List.length_map,zv] at hx
 rw [List.getD_eq_getElem?_getD,List.getElem?_map]
 have e:(zr 0 1 n)[x]?=some (x:Int):=by
  have h1:=j4 n hx
  rw [List.getD_eq_getElem?_getD,List.getElem?_eq_getElem (by rw [zv];exact hx)] at h1
  rw [List.getElem?_eq_getElem (by rw [zv];exact hx)]
  exact congrArg some h1
 rw [e]
 exact h x hx
theorem WF {T:List Int}(f:Int->Int){x:Nat}(h:x<T.length):(T.map f).getD x 0=f (T.getD x 0):=by
 rw [List.getD_eq_getElem?_getD,List.getElem?_map,List.getElem?_eq_getElem h,List.getD_eq_getElem?_getD,List.getElem?_eq_getElem h];rfl
noncomputable def De.sh (k:Nat):De->De
 | .swap a b=>.swap (a+k) (b+k)
 | .take p=>.take (p+k)
 | .move p g=>.move (p+k) (g+k)
 | .lay g=>.lay (g+k)
theorem DoE.ctx {k:Nat}{A B:List (Option Int)}(hA:A.length=k){d:De}{s t:ES}(h:DoE d s t):DoE (d.sh k) (A ++ s.1 ++ B,s.2) (A ++ t.1 ++ B,t.2):=by
 have g:∀ {row:List (Option Int)} {p:Nat} {v:Option Int},row[p]?=some v->(A ++ row ++ B)[p+k]?=some v:=fun {row p v} e=>by
  have:=(List.getElem?_eq_some_iff.mp e).1
  rw [List.append_assoc,List.getElem?_append_right (by walk_at "o"),List.getElem?_append_left (by walk_at "o"),show p+k - A.length=p by walk_at "o"];exact e
 have st:∀ {row:List (Option Int)} {p:Nat} (v:Option Int),p<row.length->A ++ row.set p v ++ B=(A ++ row ++ B).set (p+k) v:=fun {row p} v e=>by
  rw [List.append_assoc A row B,List.set_append_right _ _ (by walk_at "o"),show p+k - A.length=p by walk_at "o",List.set_append_left _ _ e,List.append_assoc]
 have lt:∀ {row:List (Option Int)} {p:Nat} {v:Option Int},row[p]?=some v->p<row.length:=fun e=>(List.getElem?_eq_some_iff.mp e).1
 cases h with
 | swap ne h1 h2=>dsimp only;rw [st _ (by rw [List.length_set];exact lt h2),st _ (lt h1)];exact .swap (by walk_at "o") (g h1) (g h2)
 | take h1=>dsimp only;rw [st _ (lt h1)];exact .take (g h1)
 | move h1 h2=>dsimp only;rw [st _ (by rw [List.length_set];exact lt h2),st _ (lt h1)];exact .move (g h1) (g h2)
 | lay h1=>dsimp only;rw [st _ (lt h1)];exact .lay (g h1)
theorem jG.ctx {k:Nat}{A B:List (Option Int)}(hA:A.length=k){l:List De}{s t:ES}(h:jG l s t):jG (l.map (De.sh k)) (A ++ s.1 ++ B,s.2) (A ++ t.1 ++ B,t.2):=by
 induction h with
 | nil=>exact .nil
 | cons d _ ih=>exact .cons (d.ctx hA) ih
theorem Wi (b:Nat){r:List Nat}(h:1<=r.length):(qQ (r.map (·+b))).map yX=((qQ r).map yX).map (De.sh b):=by
 have mv:∀ (ps:List Nat) (g:Nat),(mvP (g+b) (ps.map (·+b))).map yX=((mvP g ps).map yX).map (De.sh b):=by
  intro ps
  induction ps with
  | nil=>intro g;rfl
  | cons p ps ih=>intro g;show De.move (p+b) (g+b) :: _=_;rw [ih p];rfl
 have gl:∀ (l:List Nat) (a:Nat),(l.map (·+b)).getLastD (a+b)=l.getLastD a+b:=fun l a=>by
  rw [List.getLastD_eq_getLast?,List.getLastD_eq_getLast?,List.getLast?_map]
  cases l.getLast? <;> rfl
 cases r with
 | nil=>simp at h
 | cons a l=>
  unfold qQ
  rw [List.map_append,List.map_append,List.map_append]
  congr 1
  ·show De.take (a+b) :: ((mvP (a+b) (l.map (·+b)).reverse)).map yX=De.take (a+b) :: ((mvP a l.reverse).map yX).map (De.sh b)
   rw [<- List.map_reverse,mv]
  ·show [De.lay ((l.map (·+b)).reverse.getLastD (a+b))]=[De.lay (l.reverse.getLastD a+b)]
   rw [<- List.map_reverse,gl]
noncomputable def jF (b:Nat)(r:List Int):List Dat:=(((qQ (r.map Int.toNat)).map yX).map (De.sh b)).map deD
theorem xy (b:Nat)(os:List Int)(n:Nat):((zo os n).map (jF b)).flatten=(((jJ os n).map yX).map (De.sh b)).map deD:=by
 unfold jJ
 rw [List.map_flatten,List.map_flatten,List.map_flatten,List.map_map,List.map_map,List.map_map];rfl
theorem Q3 (b:Nat){r:List Int}(h:1<=r.length)(h0:∀ x ∈ r,0<=x):(qQ ((r.map fun p=>(b:Int)+p).map Int.toNat)).map ddD=jF b r:=by
 unfold jF
 rw [show (r.map fun p=>(b:Int)+p).map Int.toNat=(r.map Int.toNat).map (·+b) by
  rw [List.map_map,List.map_map]
  exact List.map_congr_left fun x hx=>by have:=h0 x hx;show ((b:Int)+x).toNat=x.toNat+b;walk_at "o"]
 rw [<- Wi b (by rw [List.length_map];exact h),List.map_map (g:=deD)]
 rfl
theorem Vq {p:Addr}{M:MH}{l:List AV}(h:zN (.ref p) M=some l):qb (.ref p) M=some l:=(qH h).elim id fun ⟨_,z,_⟩=>nomatch z
noncomputable def JD:ASp:=fun xs M Q=>∃ (b m e:Nat),xs=[.d (.int b),.d (.int m),.d (.int e)]/\b<=m/\m<=e/\e<=1000/\Q (.d (.lst ((((jJ (qR (e - b) ((e:Int) - m)) (e - b)).map yX).map (De.sh b)).map deD))) M
noncomputable abbrev Zs:Stmt:=top 14
theorem QA:zy ["begin","middle","end","plan","ring","place"] ["begin","middle","end"] (zj Zs):=⟨rfl,rfl,rfl,by decide +kernel,rfl,by decide +kernel,by decide +kernel⟩
theorem YH (a:At K mg "exchange_plan" Zs)(B:Blt mg)(D_rings:Df P w K mg base "rings" ["order"] 2 (cSp Y7))(D_roll_order:Df P w K mg base "roll_order" ["n","k"] 2 (cSp Dc))(D_round_ring:Df P w K mg base "round_ring" ["ring"] 2 (cSp vX)):Df P w K mg base "exchange_plan" ["begin","middle","end"] 3 (cSp JD):=by
 refine dfA (k:=2) a QA (fun _ _ _ _ _ _=>Pn3_ fun _ _ _=>rfl) (fun xs M Q h=>?_) (fun f cdv A outer s H E hr=>?_)
 ·obtain ⟨_,_,_,rfl,_⟩:=h;rfl
 have sc:=QA
 have hsl:=hsl
 refine ⟨_,(zc (zt (i:=3) sc.nd rfl (by first | exact Or.inl rfl | exact Or.inr rfl) (jt (zR zb)))
  (zc (jf PassesOwn.never rfl (jd (zO D_rings hr rfl (za (zO D_roll_order hr rfl (za (zm kh (pv 2) (pv 0)) (za (zm kh (pv 2) (pv 1)) zb))) zb))) (zp (i:=4) sc.nd rfl (by first | exact Or.inl rfl | exact Or.inr rfl)) (zh (qK (jN PySem.F.plainAttrs_list PySem.F.slot_list_extend PySem.F.type_list_extend yD (pv 3) (za (zO D_round_ring hr rfl (za (qr (ts:=[5]) rfl rfl (jd (pv 4)) (fun _ _ _ _=>(zp (i:=5) sc.nd rfl (by first | exact Or.inl rfl | exact Or.inr rfl))) (fun _ _ _ _=>qk) (fun _ _ _ _=>(zm qc (pv 0) (pv 5)))) zb)) zb)))))
  (zh (zA (pv 3))))),?_⟩
 refine ex2 (by walk_at "sim") ?_
 rintro xs M Q ⟨b,m,e,rfl,h1,h2,h3,q⟩
 rw [show qi ["begin","middle","end","plan","ring","place"] [.d (.int b),.d (.int m),.d (.int e)]=[some (.d (.int b)),some (.d (.int m)),some (.d (.int e)),none,none,none] from rfl]
 refine zg fun r hr0=>?_
 walk_at "ra"
 intro p hp _
 have ro:=xt (e - b) ((e:Int) - m)
 have er:((e:Int) - b)=((e - b:Nat):Int):=by walk_at "o"
 subst hr0
 refine zg fun r hr0=>?_
 walk_at "ra"
 refine ⟨e - b,_,by rw [er],by walk_at "o",_,e - b,_,rfl,by rw [xO,je],ro,by walk_at "o",_,rfl,?_⟩
 rw [List.map_map]
 generalize hos:qR (e - b) ((e:Int) - m)=os at *
 have tot:((((zo os (e - b)).map (jF b)).flatten)).length<=2000:=by
  rw [xy,List.length_map,List.length_map,List.length_map,xL ro]
  have:=YJ os (e - b)
  have:=yK ro
  walk_at "o"
 refine ⟨fun i ρ M'=>∃ u v,ρ=[some (.d (.int b)),some (.d (.int m)),some (.d (.int e)),some (.ref p),u,v]/\M'=mup M p (.lst ((((zo os (e - b)).take i).map (jF b)).flatten.map .d)),⟨none,none,rfl,rfl⟩,?_,?_⟩
 ·rintro i y ρ M' hy ⟨u,v,rfl,rfl⟩
  rw [List.getElem?_map] at hy
  cases e1:(zo os (e - b))[i]? with
  | none=>rw [e1] at hy;cases hy
  | some rg=>
   rw [e1] at hy
   cases hy
   have hm:=List.mem_of_getElem? e1
   have hl:=ka ro (Nat.le_refl _) hm
   have hnn:=WM ro hm
   refine ⟨by show zN _ _=_;rw [xO,List.map_map],?_⟩
   walk_at "ra"
   have pre:=yt (jF b) (zo os (e - b)) i
   have pre2:=yt (jF b) (zo os (e - b)) (i+1)
   have tk:(zo os (e - b)).take (i+1)=(zo os (e - b)).take i ++ [rg]:=by rw [List.take_add_one,e1];rfl
   rw [tk,List.map_append,List.flatten_append,List.map_cons,List.map_nil,List.flatten_cons,List.flatten_nil,List.append_nil] at pre2 ⊢
   have sr:∀ M:MH,zN ((AV.d ∘ ilD) rg) M=some (rg.map fun i=>AV.d (.int i)):=fun M=>by show zN (.d (ilD rg)) M=_;rw [xO,je]
   refine ⟨⟨_,Vq (zX ze)⟩,_,sr _,?_⟩
   refine kg (fun o=>[some (.d (.int b)),some (.d (.int m)),some (.d (.int e)),some (.ref p),some ((AV.d ∘ ilD) rg),o]) _ (fun k=>.d (.int ((b:Int)+k))) rg ⟨_,rfl⟩ (sr _) (by walk_at "o") (fun o k Q hk q=>?_) fun o=>?_
   ·walk_at "ra"
    exact q _
   ·rw [xg (fun k:Int=>Dat.int ((b:Int)+k))]
    refine ⟨_,rfl,rg.map (fun k=>(b:Int)+k),by show _=[AV.d (Dat.lst ((rg.map fun k=>(b:Int)+k).map Dat.int))];rw [List.map_map];rfl,(fun x hx=>?_),by rw [List.length_map];walk_at "o",by rw [List.length_map];walk_at "o",?_⟩
    ·obtain ⟨k,hk,rfl⟩:=List.mem_map.mp hx
     have:=hnn k hk
     walk_at "o"
    ·rw [Q3 b (by walk_at "o") hnn]
     rw [List.length_append] at pre2
     exact ⟨_,ze,_,qO _ _,by simp only [List.length_map];walk_at "o",by rw [jz,List.map_append]⟩
 ·rintro ρ M' ⟨u,v,rfl,rfl⟩
  refine ⟨by show zN _ _=_;rw [xO,List.map_map],?_⟩
  rw [List.length_map,List.take_length,xy]
  subst hr0
  walk_at "ra"
  exact ⟨_,_,jx (Fr.refl.mup hp _) hp ze (zJ _),q⟩
theorem Zv {b:Addr}{M0 M:MH}{N c n:Nat}{most:Int}(R:Option AV->ASt)(j:Nat){o0:Option AV}{ae:AE}{Nx:List AV->ASt->MH->Prop}(hR:∀ o x,(R o).set j (some x)=R (some x))(sb:SB M0 M b N)(hn:n<=1000)
  (turn:∀ (k:Nat) (M1:MH) (N1:Nat) (Q:AK),k<n->N1<=N+c * n->SB M0 M1 b N1->(∀ r M2,SB M0 M2 b (N1+c)->0<=r->r<most->Q (.d (.int r)) M2)->ae (R (some (.d (.int k)))) M1 Q)
  (fin:∀ (ks:List Int) o M1,ks.length=n->(∀ k ∈ ks,0<=k/\k<most)->SB M0 M1 b (N+c * n)->Nx (ks.map fun i=>.d (.int i)) (R o) M1):wm (qM j) kB (jI ae) (fun _=>True) Nx (QH 0 1 n) [] (R o0) M:=by
 have hsl:100000<sizeLine:=by rw [sizeLine_eq];decide
 refine ⟨fun i acc ρ M1=>i<=n/\SB M0 M1 b (N+c * i)/\(∃ o,ρ=R o)/\∃ ks:List Int,acc=(ks.map fun i=>.d (.int i))/\ks.length=i/\∀ k ∈ ks,0<=k/\k<most,⟨Nat.zero_le _,sb,⟨_,rfl⟩,[],rfl,rfl,fun _ h=>nomatch h⟩,?_,?_⟩
 ·rintro i x acc ρ M1 hx ⟨hi,s1,⟨o,rfl⟩,ks,rfl,hl,hk⟩
  obtain ⟨h1,rfl⟩:=jH hx
  refine ⟨trivial,?_⟩
  dsimp only [qM,kB]
  rw [hR,Int.zero_add,Int.mul_one,if_pos rfl]
  unfold jI
  refine turn i M1 _ _ h1 (Nat.add_le_add_left (Nat.mul_le_mul_left _ hi) _) s1 fun r M2 s2 r0 r1=>⟨by rw [List.length_map];walk_at "o",h1,by rw [Nat.mul_succ,<- Nat.add_assoc];exact s2,⟨_,rfl⟩,ks ++ [r],by rw [List.map_append];rfl,by rw [List.length_append,hl];rfl,fun k hk'=>?_⟩
  rcases List.mem_append.mp hk' with z | z
  ·exact hk k z
  ·rw [List.mem_singleton.mp z];exact ⟨r0,r1⟩
 ·rintro acc ρ M1 ⟨_,s1,⟨o,rfl⟩,ks,rfl,hl,hk⟩
  rw [j7] at hl s1
  exact ⟨trivial,fin ks o M1 hl hk s1⟩
noncomputable def Wm:ASp:=fun xs M Q=>∃ (b:Addr) (n:Nat) (most:Int) (N:Nat),xs=[.ref b,.d (.int n),.d (.int most)]/\BxM M b N/\N<10000000/\n<=1000/\0<most/\most<=100/\∀ (ks:List Int) M',BxS M M' b (N+10000)->ks.length=n->(∀ k ∈ ks,0<=k/\k<most)->Q (.d (ilD ks)) M'
noncomputable abbrev ZR:Stmt:=top 25
theorem Q6:zy ["_law_box_here","_law_n","_law_most","_law_way","_law_some","_law_kinds_here","_law_k"] ["_law_box_here","_law_n","_law_most"] (zj ZR):=⟨rfl,rfl,rfl,by decide +kernel,rfl,by decide +kernel,by decide +kernel⟩
theorem WZ (a:At K mg "_law_kinds" ZR)(B:Blt mg)(D_law_take:Df P w K mg base "_law_take" ["_law_box_here","_law_many"] 1 (cSp DC)):Df P w K mg base "_law_kinds" ["_law_box_here","_law_n","_law_most"] 2 (cSp Wm):=by
 refine dfA (k:=1) a Q6 (fun _ _ _ _ _ _=>Pn3_ fun _ _ _=>rfl) (fun xs M Q h=>?_) (fun f cdv A outer s H E hr=>?_)
 ·obtain ⟨_,_,_,_,rfl,_⟩:=h;rfl
 have sc:=Q6
 have hsl:=hsl
 refine ⟨_,(zc (zt (i:=3) sc.nd rfl (by first | exact Or.inl rfl | exact Or.inr rfl) (zO D_law_take hr rfl (za (pv 0) (za zd zb))))
  (zc (zt (i:=4) sc.nd rfl (by first | exact Or.inl rfl | exact Or.inr rfl) (qr (ts:=[6]) rfl rfl (qS rfl B.range (za zd zb)) (fun _ _ _ _=>(zp (i:=6) sc.nd rfl (by first | exact Or.inl rfl | exact Or.inr rfl))) (fun _ _ _ _=>qk) (fun _ _ _ _=>(zO D_law_take hr rfl (za (pv 0) (za (pv 2) zb))))))
  (zc (yq (j:=5) rfl sc.nd rfl (by first | exact Or.inl rfl | exact Or.inr rfl) (ts:=[6]) rfl (qS rfl B.range (za (pv 1) zb)) (fun _ _ _ _=>(zp (i:=6) sc.nd rfl (by first | exact Or.inl rfl | exact Or.inr rfl))) (fun _ _ _ _=>qk) (fun _ _ _ _=>(zG (yI (K:=K) rfl) (zR (za (zO D_law_take hr rfl (za (pv 0) (za (pv 2) zb))) (za (zG (yI (K:=K) rfl) (pv 4) (zO D_law_take hr rfl (za (pv 0) (za zd zb))) (fun _ _=>rfl)) zb))) (zS jB rfl B.int xU (za (ji (qw hr.units) (pv 3) zd (zz _)) zb)) (fun _ _=>rfl))))
  (zc (qu (zE (qw hr.units) (pv 3) zd (zz _)) (zh (yq (j:=5) rfl sc.nd rfl (by first | exact Or.inl rfl | exact Or.inr rfl) (ts:=[6]) rfl (qS rfl B.range (za (pv 1) zb)) (fun _ _ _ _=>(zp (i:=6) sc.nd rfl (by first | exact Or.inl rfl | exact Or.inr rfl))) (fun _ _ _ _=>qk) (fun _ _ _ _=>(zG (yI (K:=K) rfl) (pv 4) (zS jB rfl B.int xU (za (ji (qw hr.units) (zO D_law_take hr rfl (za (pv 0) (za zd zb))) zd (zz _)) zb)) (fun _ _=>rfl))))) zK)
  (zc (qu (zE (qw hr.units) (pv 3) zd (zz _)) (zh (zt (i:=5) sc.nd rfl (by first | exact Or.inl rfl | exact Or.inr rfl) (zn xH rfl B.sorted yv (za (pv 5) zb)))) zK)
  (zc (qu (zE (qw hr.units) (pv 3) zd (zz _)) (zh (zt (i:=5) sc.nd rfl (by first | exact Or.inl rfl | exact Or.inr rfl) (Yo (zn xH rfl B.sorted yv (za (pv 5) zb)) (qf (YM Jq zd))))) zK)
  (zc (qu (zE (qw hr.units) (pv 3) zd (zz _)) (zh (yq (j:=5) rfl sc.nd rfl (by first | exact Or.inl rfl | exact Or.inr rfl) (ts:=[6]) rfl (qS rfl B.range (za (pv 1) zb)) (fun _ _ _ _=>(zp (i:=6) sc.nd rfl (by first | exact Or.inl rfl | exact Or.inr rfl))) (fun _ _ _ _=>qk) (fun _ _ _ _=>(zG (yI (K:=K) rfl) (pv 4) (zm qC (pv 6) zd) (fun _ _=>rfl))))) zK)
  (zh (zA (pv 5)))))))))),?_⟩
 refine ex2 (by walk_at "sim") ?_
 rintro xs M Q ⟨b,n,most,N,rfl,bx,hN,hn,m0,m1,q⟩
 rw [show qi ["_law_box_here","_law_n","_law_most","_law_way","_law_some","_law_kinds_here","_law_k"] [.ref b,.d (.int n),.d (.int most)]=[some (.ref b),some (.d (.int n)),some (.d (.int most)),none,none,none,none] from rfl]
 have sb:=SB.refl bx
 refine zg fun r hr0=>?_
 walk_at "ra"
 refine ⟨b,6,_,rfl,sb.bx,by walk_at "o",by walk_at "o",by walk_at "o",fun way M1 s1 a1 a2=>?_⟩
 have sb:=sb.go s1
 subst hr0
 refine zg fun r hr0=>?_
 walk_at "ra"
 refine ⟨by walk_at "o",by walk_at "o",?_⟩
 refine Zv (c:=1) (most:=most) (fun o=>[some (.ref b),some (.d (.int n)),some (.d (.int most)),some (.d (.int way)),none,none,o]) 6 (fun _ _=>rfl) sb (by decide) (fun k M1 N1 Q hk hN1 s1 q=>?_) fun so o M2 ls hs sb=>?_
 ·walk_at "ra"
  exact ⟨b,most,_,rfl,s1.bx,by walk_at "o",by walk_at "o",by walk_at "o",fun r M2 s2 r0 r1=>q r M2 (s1.go s2) r0 r1⟩
 refine ⟨_,zI _,?_⟩
 subst hr0
 refine zg fun r hr0=>?_
 walk_at "ra"
 rw [Int.toNat_natCast]
 refine ⟨by walk_at "o",by walk_at "o",?_⟩
 have sg:∀ x,0<=x->x<(3:Int)->∃ y,atI ((so.map Dat.int).map AV.d) x=some (.d (.int y))/\0<=y/\y<most:=fun x x0 x1=>by
  have hx:x.toNat<so.length:=by rw [ls];walk_at "o"
  refine ⟨so[x.toNat],?_,hs _ (List.getElem_mem hx)⟩
  unfold atI
  rw [jD x0 (by rw [List.length_map,List.length_map,ls];walk_at "o")]
  show ((so.map Dat.int).map AV.d)[x.toNat]?=_
  rw [List.getElem?_map,List.getElem?_map,List.getElem?_eq_getElem hx];rfl
 refine Zv (c:=2) (most:=most) (fun o=>[some (.ref b),some (.d (.int n)),some (.d (.int most)),some (.d (.int way)),some (.d (.lst (so.map .int))),none,o]) 6 (fun _ _=>rfl) sb (by walk_at "o") (fun k M1 N1 Q hk hN1 s1 q=>?_) fun ks o M2 lk hk sb=>?_
 ·walk_at "ra"
  refine ⟨b,most,_,rfl,s1.bx,by walk_at "o",by walk_at "o",by walk_at "o",fun r M2 s2 r0 r1=>⟨b,3,_,rfl,(s1.go s2).bx,by walk_at "o",by walk_at "o",by walk_at "o",fun i M3 s3 i0 i1=>?_⟩⟩
  have s4:=(s1.go s2).go s3
  obtain ⟨y,hy,y0,y1⟩:=sg i i0 i1
  refine ⟨_,rfl,_,by rw [<- je];exact hy,by walk_at "o",_,rfl,?_⟩
  by_cases c:way=1
  ·rw [if_pos c]
   exact ⟨_,rfl,q y M3 (s4.mono (by walk_at "o")) y0 y1⟩
  ·rw [if_neg c]
   exact ⟨_,rfl,q r M3 (s4.mono (by walk_at "o")) r0 r1⟩
 refine ⟨_,zI _,?_⟩
 subst hr0
 refine zg fun r hr0=>?_
 have nx:∀ (ks:List Int) (M2:MH),ks.length=n->(∀ k ∈ ks,0<=k/\k<most)->SB M M2 b (N+9000)->r M { nx:=fun x M'=>rtA M Q (AV.d Dat.non) M',rt:=rtA M Q } [some (.ref b),some (.d (.int n)),some (.d (.int most)),some (.d (.int way)),some (.d (.lst (so.map .int))),some (.d (.lst (ks.map .int))),none] M2:=by
  intro ks M2 lk hk sb
  subst hr0
  refine zg fun r hr0=>?_
  have nx:∀ (ks:List Int) (M2:MH),ks.length=n->(∀ k ∈ ks,0<=k/\k<most)->SB M M2 b (N+9000)->r M { nx:=fun x M'=>rtA M Q (AV.d Dat.non) M',rt:=rtA M Q } [some (.ref b),some (.d (.int n)),some (.d (.int most)),some (.d (.int way)),some (.d (.lst (so.map .int))),some (.d (.lst (ks.map .int))),none] M2:=by
   intro ks M2 lk hk sb
   subst hr0
   refine zg fun r hr0=>?_
   have nx:∀ (ks:List Int) (M2:MH),ks.length=n->(∀ k ∈ ks,0<=k/\k<most)->SB M M2 b (N+9000)->r M { nx:=fun x M'=>rtA M Q (AV.d Dat.non) M',rt:=rtA M Q } [some (.ref b),some (.d (.int n)),some (.d (.int most)),some (.d (.int way)),some (.d (.lst (so.map .int))),some (.d (.lst (ks.map .int))),none] M2:=by
    intro ks M2 lk hk sb
    subst hr0
    refine zg fun r hr0=>?_
    have nx:∀ (ks:List Int) (M2:MH),ks.length=n->(∀ k ∈ ks,0<=k/\k<most)->SB M M2 b (N+9000)->r M { nx:=fun x M'=>rtA M Q (AV.d Dat.non) M',rt:=rtA M Q } [some (.ref b),some (.d (.int n)),some (.d (.int most)),some (.d (.int way)),some (.d (.lst (so.map .int))),some (.d (.lst (ks.map .int))),none] M2:=by
     intro ks M2 lk hk sb
     subst hr0
     walk_at "ra"
     exact (sb.mono (N':=N+10000) (by walk_at "o")).rt fun M' s=>q ks M' s lk hk
    walk_at "ra"
    split
    ·rw [Int.toNat_natCast]
     refine ⟨by walk_at "o",by walk_at "o",?_⟩
     refine Zv (c:=0) (most:=most) (fun o=>[some (.ref b),some (.d (.int n)),some (.d (.int most)),some (.d (.int way)),some (.d (.lst (so.map .int))),some (.d (.lst (ks.map .int))),o]) 6 (fun _ _=>rfl) sb (by walk_at "o") (fun k M1 N1 Q hk hN1 s1 q=>?_) fun ks o M2 lk hk sb=>⟨_,zI _,nx ks M2 lk hk (sb.mono (by walk_at "o"))⟩
     walk_at "ra"
     obtain ⟨y,hy,y0,y1⟩:=sg ((k:Int) % 3) (by walk_at "o") (by walk_at "o")
     exact ⟨by decide,_,by rw [<- je];exact hy,q y M1 s1 y0 y1⟩
    ·exact nx ks M2 lk hk sb
   walk_at "ra"
   split
   ·refine ⟨ks,rfl,by walk_at "o",fun ns hp _=>.inl ?_⟩
    rw [<- List.map_reverse]
    exact nx _ M2 (by rw [List.length_reverse,hp.length_eq,lk]) (fun k h=>hk k (hp.mem_iff.mp (List.mem_reverse.mp h))) sb
   ·exact nx ks M2 lk hk sb
  walk_at "ra"
  split
  ·exact ⟨ks,rfl,by walk_at "o",fun ns hp _=>nx _ M2 (by rw [hp.length_eq,lk]) (fun k h=>hk k (hp.mem_iff.mp h)) sb⟩
  ·exact nx ks M2 lk hk sb
 walk_at "ra"
 rw [Int.toNat_natCast]
 split
 ·refine ⟨by walk_at "o",by walk_at "o",?_⟩
  refine Zv (c:=1) (most:=most) (fun o=>[some (.ref b),some (.d (.int n)),some (.d (.int most)),some (.d (.int way)),some (.d (.lst (so.map .int))),some (.d (.lst (ks.map .int))),o]) 6 (fun _ _=>rfl) sb (by walk_at "o") (fun k M1 N1 Q hk hN1 s1 q=>?_) fun ks o M2 lk hk sb=>?_
  ·walk_at "ra"
   refine ⟨b,8,_,rfl,s1.bx,by walk_at "o",by walk_at "o",by walk_at "o",fun r M2 s2 r0 r1=>?_⟩
   show ∃ a,_
   refine ⟨_,rfl,by rw [xM];walk_at "o",?_⟩
   obtain ⟨y,hy,y0,y1⟩:=sg (if eqD (.int r) (.int 0)=true then 1 else 0) (by split <;> walk_at "o") (by split <;> walk_at "o")
   exact ⟨_,by rw [<- je];exact hy,q y M2 (s1.go s2) y0 y1⟩
  ·exact ⟨_,zI _,nx ks M2 lk hk (sb.mono (by walk_at "o"))⟩
 ·exact nx ks M2 lk hk (sb.mono (by walk_at "o"))
theorem wF (n:Nat):qR n 0=zr 0 1 n:=by
 refine ZM (by rw [xv,zv]) fun x hx=>?_
 rw [xv] at hx
 rw [qT hx,j4 n hx,Int.add_zero,Int.emod_eq_of_lt (by walk_at "o") (by walk_at "o")]
theorem XS (n:Nat):qR n (n:Int)=zr 0 1 n:=by
 rw [<- wF]
 unfold qR
 exact List.map_congr_left fun x _=>by rw [Int.add_emod_right,Int.add_zero]
noncomputable def xpl (b m e:Nat):List De:=((jJ (qR (e - b) ((e:Int) - m)) (e - b)).map yX).map (De.sh b)
theorem Xf {b m e:Nat}(h1:b<=m)(h2:m<=e)(h:b=m \/ m=e):xpl b m e=[]:=by
 unfold xpl jJ
 have:zo (qR (e - b) ((e:Int) - m)) (e - b)=[]:=by
  rcases h with h | h
  ·rw [show ((e:Int) - m)=((e - b:Nat):Int) by walk_at "o",XS];exact xN _ _ (Nat.le_refl _)
  ·rw [show ((e:Int) - m)=0 by walk_at "o",wF];exact xN _ _ (Nat.le_refl _)
 rw [this];rfl
theorem Wg {n k i m:Nat}(hi:i<n)(k0:0<k)(k1:k<n)(h:jV (qR n (k:Int)) (i:Int) m):1<m:=by
 have h1:=h.1
 rcases Nat.lt_or_ge 1 m with c | c
 ·exact c
 ·have e:m=1:=by walk_at "o"
  subst e
  have:=h.2.1
  have e:(qR n (k:Int)).getD (i:Int).toNat 0=(i:Int):=this
  rw [Int.toNat_natCast,qT hi] at e
  exfalso
  by_cases c:i+k<n
  ·rw [Int.emod_eq_of_lt (by walk_at "o") (by walk_at "o")] at e;walk_at "o"
  ·rw [show (i:Int)+k=((i+k - n:Nat):Int)+(n:Int) * 1 by walk_at "o",Int.add_mul_emod_self_left,Int.emod_eq_of_lt (by walk_at "o") (by walk_at "o")] at e;walk_at "o"
theorem YC {l:List Dd}{s t:RS}(h:Dos l s t):jG (l.map yX) (s.1,s.2.1) (t.1,t.2.1):=by
 induction h with
 | nil=>exact .nil
 | cons d _ ih=>
  refine .cons ?_ ih
  cases d with
  | take h=>exact .take h
  | move h g=>exact .move h g
  | lay h=>exact .lay h
theorem Fj {A U V W:List Int}:jG (xpl A.length (A ++ U).length (A ++ U ++ V).length) ((A ++ U ++ V ++ W).map some,none) ((A ++ V ++ U ++ W).map some,none):=by
 unfold xpl
 have e1:(A ++ U ++ V).length - A.length=U.length+V.length:=by simp only [List.length_append];walk_at "o"
 have e2:(((A ++ U ++ V).length:Nat):Int) - ((A ++ U).length:Nat)=(V.length:Int):=by simp only [List.length_append];walk_at "o"
 rw [e1,e2]
 generalize hn:U.length+V.length=n
 have ho:=xt n (V.length:Int)
 have d:=YC (Q5 ho (List.replicate n 0) n (Nat.le_refl n))
 have g:=fun (t:Nat) (ht:t<n)=>VZ ho ht
 have lT:(swR (zr 0 1 n) (jc (qR n (V.length:Int)) n)).length=n:=by rw [xw,zv]
 generalize swR (zr 0 1 n) (jc (qR n (V.length:Int)) n)=T at *
 have d2:=d.rlb fun x=>(U ++ V).getD x.toNat 0
 rw [Xg,Xg,Kw n _ (T:=U ++ V) (by rw [List.length_append];exact hn) fun i hi=>by rw [Int.toNat_natCast]] at d2
 have eT:T.map (fun x=>(U ++ V).getD x.toNat 0)=V ++ U:=by
  refine ZM (by rw [List.length_map,lT,List.length_append];walk_at "o") fun x hx=>?_
  rw [List.length_map,lT] at hx
  rw [WF _ (by walk_at "o")]
  by_cases c:x<V.length
  ·have:=g (U.length+x) (by walk_at "o")
   rw [qT (by walk_at "o"),show ((U.length+x:Nat):Int)+V.length=(x:Int)+(n:Int) * 1 by walk_at "o",Int.add_mul_emod_self_left,Int.emod_eq_of_lt (by walk_at "o") (by walk_at "o"),Int.toNat_natCast] at this
   rw [this,Int.toNat_natCast,List.getD_eq_getElem?_getD,List.getElem?_append_right (by walk_at "o"),List.getD_eq_getElem?_getD,List.getElem?_append_left c,Nat.add_sub_cancel_left]
  ·have:=g (x - V.length) (by walk_at "o")
   rw [qT (by walk_at "o"),show ((x - V.length:Nat):Int)+V.length=(x:Int) by walk_at "o",Int.emod_eq_of_lt (by walk_at "o") (by walk_at "o"),Int.toNat_natCast] at this
   rw [this,Int.toNat_natCast,List.getD_eq_getElem?_getD,List.getElem?_append_left (by walk_at "o"),List.getD_eq_getElem?_getD,List.getElem?_append_right (by walk_at "o")]
 rw [eT] at d2
 have d3:=d2.ctx (k:=A.length) (A:=A.map some) (B:=W.map some) (by rw [List.length_map])
 dsimp only at d3
 rw [<- List.map_append,<- List.map_append,<- List.map_append,<- List.map_append,<- List.append_assoc,<- List.append_assoc] at d3
 exact d3
theorem vG (p:Int->Bool):∀ l:List Int,(l.filter p).length+(l.filter fun x=>!p x).length=l.length
 | []=>rfl
 | x :: l=>by
  have ih:=vG p l
  by_cases c:p x=true
  ·rw [List.filter_cons_of_pos c,List.filter_cons_of_neg (by simp [c]),List.length_cons,List.length_cons];walk_at "o"
  ·rw [List.filter_cons_of_neg c,List.filter_cons_of_pos (by simpa using c),List.length_cons,List.length_cons];walk_at "o"
noncomputable def prt (ms:List Int):Nat->Nat->Nat->List De
 | 0,_,_=>[]
 | f+1,b,e=>if e - b<2 then [] else
  let m:=b+(e - b) / 2
  prt ms f b m ++ prt ms f m e ++ xpl (b+(((ms.drop b).take (m - b)).count 0)) m (m+(((ms.drop m).take (e - m)).count 0))
theorem J7 (ms:List Int)(hm:∀ x ∈ ms,x=0 \/ x=1):∀ (f b e:Nat) (A B C:List Int),e - b<=2 ^ f->A.length=b->(A ++ B).length=e->(B.map fun x=>ms.getD x.toNat 0)=(ms.drop b).take (e - b) ->
  jG (prt ms f b e) ((A ++ B ++ C).map some,none) ((A ++ (B.filter (fun x=>ms.getD x.toNat 0 == 0) ++ B.filter (fun x=>!(ms.getD x.toNat 0 == 0))) ++ C).map some,none)
 | f,b,e,A,B,C,hf,hA,hB,hk=>by
  have hl:B.length=e - b:=by rw [List.length_append] at hB;walk_at "o"
  have small:B.length<2->B.filter (fun x=>ms.getD x.toNat 0 == 0) ++ B.filter (fun x=>!(ms.getD x.toNat 0 == 0))=B:=fun h=>by
   match B,h with
   | [],_=>rfl
   | [x],_=>
    by_cases c:(ms.getD x.toNat 0 == 0)=true
    ·rw [List.filter_cons_of_pos (by exact c),List.filter_cons_of_neg (by simp only [c];decide)];rfl
    ·rw [List.filter_cons_of_neg (by exact c),List.filter_cons_of_pos (by simpa using c)];rfl
  cases f with
  | zero=>
   rw [small (by rw [hl];simp at hf;walk_at "o")]
   exact .nil
  | succ f=>
   unfold prt
   by_cases c:e - b<2
   ·rw [if_pos c,small (by walk_at "o")];exact .nil
   ·rw [if_neg c]
    dsimp only
    have hp:2 ^ (f+1)=2 * 2 ^ f:=by rw [Nat.pow_succ,Nat.mul_comm]
    have hh:(e - b) / 2<=e - b:=Nat.div_le_self _ _
    obtain ⟨m,hm0⟩:∃ m,m=b+(e - b) / 2:=⟨_,rfl⟩
    rw [<- hm0]
    obtain ⟨L,R,rfl,hL⟩:∃ L R,B=L ++ R/\L.length=m - b:=⟨B.take (m - b),B.drop (m - b),(List.take_append_drop _ _).symm,by rw [List.length_take];walk_at "o"⟩
    have hR:R.length=e - m:=by rw [List.length_append] at hl;walk_at "o"
    have kL:(L.map fun x=>ms.getD x.toNat 0)=(ms.drop b).take (m - b):=by
     have:=congrArg (List.take (m - b)) hk
     rwa [List.map_append,List.take_append_of_le_length (by rw [List.length_map];walk_at "o"),List.take_of_length_le (by rw [List.length_map];walk_at "o"),List.take_take,Nat.min_eq_left (by walk_at "o")] at this
    have kR:(R.map fun x=>ms.getD x.toNat 0)=(ms.drop m).take (e - m):=by
     have:=congrArg (List.drop (m - b)) hk
     rwa [List.map_append,List.drop_append_of_le_length (by rw [List.length_map];walk_at "o"),List.drop_of_length_le (by rw [List.length_map];walk_at "o"),List.nil_append,List.drop_take,List.drop_drop,show b+(m - b)=m by walk_at "o",show e - b - (m - b)=e - m by walk_at "o"] at this
    have cnt:∀ l:List Int,(l.map fun x=>ms.getD x.toNat 0).count 0=(l.filter (fun x=>ms.getD x.toNat 0 == 0)).length:=fun l=>by
     rw [List.count_eq_countP,List.countP_map,List.countP_eq_length_filter];rfl
    rw [<- kL,<- kR,cnt,cnt]
    have d1:=J7 ms hm f b m A L (R ++ C) (by walk_at "o") hA (by rw [List.length_append];walk_at "o") kL
    generalize hL0:L.filter (fun x=>ms.getD x.toNat 0 == 0)=L0 at *
    generalize hL1:L.filter (fun x=>!(ms.getD x.toNat 0 == 0))=L1 at *
    have lL:L0.length+L1.length=L.length:=by
     rw [<- hL0,<- hL1]
     exact vG (fun x=>ms.getD x.toNat 0 == 0) L
    have d2:=J7 ms hm f m e (A ++ (L0 ++ L1)) R C (by walk_at "o") (by rw [List.length_append,List.length_append];walk_at "o") (by simp only [List.length_append] at hB ⊢;walk_at "o") kR
    rw [List.filter_append,List.filter_append,hL0,hL1]
    generalize hR0:R.filter (fun x=>ms.getD x.toNat 0 == 0)=R0 at *
    generalize hR1:R.filter (fun x=>!(ms.getD x.toNat 0 == 0))=R1 at *
    have d3:=Fj (A:=A ++ L0) (U:=L1) (V:=R0) (W:=R1 ++ C)
    rw [show (A ++ L0).length=b+L0.length by rw [List.length_append,hA],show (A ++ L0 ++ L1).length=m by simp only [List.length_append];walk_at "o",show (A ++ L0 ++ L1 ++ R0).length=m+R0.length by simp only [List.length_append];walk_at "o"] at d3
    simp only [List.append_assoc] at d1 d2 d3 ⊢
    exact d1.append (d2.append d3)
theorem Z2 {n:Nat}{os:List Int}(h:zB n os){p:Int}(p0:0<=p)(p1:p<n){M j k:Nat}(hM:jV os p M)(hj:j<=M)(hk:k<j)(e:itn os k p=itn os j p):j=M:=by
 have e2:itn os (j - k) p=p:=by
  have b:=qm h p0 p1 (j - k)
  refine (vi h p0 p1 b.1 b.2 k ?_).symm
  rw [<- jQ,show k+(j - k)=j by walk_at "o"]
  exact e
 rcases Nat.lt_or_ge (j - k) M with z | z
 ·exact absurd e2 (hM.2.2 (j - k) (by walk_at "o") z)
 ·walk_at "o"
theorem X9 (os:List Int){i n:Nat}(h:i<=n):∃ l,zo os n=zo os i ++ l:=by
 induction n with
 | zero=>exact ⟨[],by rw [show i=0 by walk_at "o",List.append_nil]⟩
 | succ n ih=>
  rcases Nat.lt_or_ge i (n+1) with c | c
  ·obtain ⟨l,e⟩:=ih (by walk_at "o")
   exact ⟨_,by show zo os n ++ _=_;rw [e,List.append_assoc]⟩
  ·exact ⟨[],by rw [show i=n+1 by walk_at "o",List.append_nil]⟩
theorem F3 {c:AT}{t:AS}{B:MH}{D:jw}{ρ:ASt}{M:MH}(h:Tst c ρ M true)(k:t B D ρ M):QP c t xj B D ρ M:=h _ (by rw [if_pos rfl];exact k)
theorem Vc:∀ (ps:List Nat) (g:Nat),mvP g ps=(List.range ps.length).map fun i=>.move (ps.getD i 0) ((g :: ps).getD i 0)
 | [],_=>rfl
 | p :: ps,g=>by
  rw [mvP,Vc ps p,List.length_cons,List.range_succ_eq_map,List.map_cons,List.map_map]
  rfl
theorem ZY (l:List Nat):pur (l.map fun x:Nat=>AV.d (.int x))=some (l.map fun x:Nat=>Dat.int x):=xg _ l
theorem YQ {B M2:MH}{D:jw}{pp pr:Addr}{pl:List Dat}{c0 c1:Nat}{cs:List Nat}{a0 a1 a2 a3 a4 a5 a7 a9:AV}{a10 a11 a12:Option AV}(h1:M2 pp=some (.lst (pl.map .d)))(h2:M2 pr=some (.lst ((c0 :: c1 :: cs).map fun x:Nat=>.d (.int x))))(ne:pr ≠ pp)(l1:pl.length<=10000)(l2:cs.length<=1000)
  (q:∀ u v w,D.nx [some a0,some a1,some a2,some a3,some a4,some a5,some (.ref pp),some a7,some (.ref pr),some a9,u,v,w] (mup M2 pp (.lst ((pl ++ (qQ (c0 :: c1 :: cs)).map ddD).map .d)))) :
  QP (aB (aOp (Qb not) (zV 8) (aFz (X5 ja))))
   (kW
    (DY
     (aFz (Fx (zV 8) BB (Qf (aC (Dat.int 0))) (Qf (aUn (aU fun i=>Dat.int (-i)) (aC (Dat.int 1))))))
     (qM 10))
    (kW
     (Z3
      (aBM vg (zV 6)
       (zQ
        (XY
         (zQ (aC (Dat.str (Str.ofString "take"))) (zQ (aOp (aIx zN) (zV 8) (aC (Dat.int 0))) ja)))
        ja)))
     (kW
      (Z3
       (aBM Zf (zV 6)
        (zQ
         (aFz
          (wL [11,12]
           (Bz
            (zQ (aFz (fOp Jn (aFz (fSl (zV 8) BB (Qf (aC (Dat.int 1))))) (zV 10)))
             (zQ (zV 10) ja)))
           (QD 2 (qV (qM 11) (qV (qM 12) yV))) kB
           (jI
            (XY (zQ (aC (Dat.str (Str.ofString "move"))) (zQ (zV 12) (zQ (zV 11) ja)))))))
         ja)))
      (Z3
       (aBM vg (zV 6)
        (zQ
         (XY
          (zQ (aC (Dat.str (Str.ofString "lay"))) (zQ (aOp (aIx zN) (zV 8) (aC (Dat.int 1))) ja)))
         ja))))))
   xj B D [some a0,some a1,some a2,some a3,some a4,some a5,some (.ref pp),some a7,some (.ref pr),some a9,a10,a11,a12] M2:=by
 have hsl:=hsl
 have h3:kD (.ref pr) M2=some (.lst ((c0 :: c1 :: cs).map fun x:Nat=>Dat.int x)):=yg h2 (ZY _)
 have dpl:dp (.lst ((c0 :: c1 :: cs).map fun x:Nat=>Dat.int x))<=40:=by
  have:=vf ((c0 :: c1 :: cs).map fun x:Nat=>(x:Int))
  rw [show ilD ((c0 :: c1 :: cs).map fun x:Nat=>(x:Int))=.lst (((c0 :: c1 :: cs).map fun x:Nat=>(x:Int)).map .int) from rfl,List.map_map] at this
  exact this
 refine F3 (fun Q q=>?_) ?_
 ·walk_at "ra"
  refine ⟨_,h3,dpl,by rw [dp];decide,?_⟩
  rw [show eqD (.lst ((c0 :: c1 :: cs).map fun x:Nat=>Dat.int x)) (.lst [])=false by simp [eqD,xR]]
  exact q
 refine zg fun r hr0=>?_
 walk_at "ra"
 have eb:slA ((c0 :: c1 :: cs).map fun x:Nat=>AV.d (.int x)) none (some 0) (some (-1))=(c1 :: cs).reverse.map fun x:Nat=>AV.d (.int x):=by
  have:=wI ((c0 :: c1 :: cs).map fun x:Nat=>(x:Int))
  rw [show ((c0 :: c1 :: cs).map fun x:Nat=>AV.d (.int x))=((c0 :: c1 :: cs).map fun x:Nat=>(x:Int)).map fun i=>AV.d (.int i) by rw [List.map_map];rfl,ZG,this,<- List.map_drop,<- List.map_reverse,List.map_map]
  rfl
 refine ⟨_,qo h2,by decide,_,by rw [eb];exact ZY _,?_⟩
 subst hr0
 refine zg fun r hr0=>?_
 walk_at "ra"
 have at0:∀ (i:Nat) (c:Nat),(c0 :: c1 :: cs)[i]?=some c->atI ((c0 :: c1 :: cs).map fun x:Nat=>AV.d (.int x)) (i:Int)=some (.d (.int c)):=fun i c h=>by
  have:=(List.getElem?_eq_some_iff.mp h).1
  unfold atI
  rw [jD (by walk_at "o") (by rw [List.length_map];walk_at "o")]
  show ((c0 :: c1 :: cs).map fun x:Nat=>AV.d (.int x))[(i:Int).toNat]?=_
  rw [Int.toNat_natCast,List.getElem?_map,h];rfl
 refine ⟨⟨_,qo h1⟩,_,zX h2,.d (.int c0),at0 0 c0 rfl,by walk_at "o",_,rfl,_,h1,by rw [List.length_map];walk_at "o",?_⟩
 have g1:mup M2 pp (.lst (pl.map .d ++ [.d (.tup [.str (Str.ofString "take"),.int c0])])) pp=some (.lst (pl.map .d ++ [.d (.tup [.str (Str.ofString "take"),.int c0])])):=ze
 have g2:mup M2 pp (.lst (pl.map .d ++ [.d (.tup [.str (Str.ofString "take"),.int c0])])) pr=some (.lst ((c0 :: c1 :: cs).map fun x:Nat=>.d (.int x))):=(zC ne).trans h2
 subst hr0
 refine zg fun r hr0=>?_
 walk_at "ra"
 refine ⟨⟨_,qo g1⟩,_,qo g2,[.int c0],rfl,?_⟩
 generalize ho:(c1 :: cs).reverse=os at *
 have lo:os.length=cs.length+1:=by rw [<- ho,List.length_reverse,List.length_cons]
 refine ⟨by simp only [List.length_map,List.length_cons,List.length_nil];walk_at "o",_,by rw [<- List.map_append];exact zJ _,_,_,.inl ⟨rfl,rfl⟩,?_⟩
 have ez:([Dat.int (c0:Int)] ++ os.map fun x:Nat=>Dat.int x)=(c0 :: os).map fun x:Nat=>Dat.int x:=rfl
 rw [ez]
 have lz:(wl ((c0 :: os).map fun x:Nat=>Dat.int x) (os.map fun x:Nat=>Dat.int x)).length=os.length:=by rw [jE,List.length_map,List.length_map,List.length_cons];walk_at "o"
 refine KR (fun (o:Option AV × Option AV)=>[some a0,some a1,some a2,some a3,some a4,some a5,some (AV.ref pp),some a7,some (AV.ref pr),some a9,some (AV.d (Dat.lst (os.map fun x:Nat=>Dat.int x))),o.1,o.2]) (fun i=>.d (ddD (.move (os.getD i 0) ((c0 :: os).getD i 0)))) ⟨(none,none),rfl⟩ trivial (by walk_at "o") (fun o i x Q hx q=>?_) fun o=>?_
 ·obtain ⟨d,d',e1,e2,rfl⟩:=kX hx
  rw [List.getElem?_map] at e1 e2
  obtain ⟨u,hu,rfl⟩:=Option.map_eq_some_iff.mp e1
  obtain ⟨v,hv,rfl⟩:=Option.map_eq_some_iff.mp e2
  have eu:(c0 :: os).getD i 0=u:=by rw [List.getD_eq_getElem?_getD,hu];rfl
  have ev:os.getD i 0=v:=by rw [List.getD_eq_getElem?_getD,hv];rfl
  rw [eu,ev] at q
  walk_at "ra"
  exact ⟨by walk_at "o",q (_,_)⟩
 ·rw [lz]
  refine ⟨_,xg _ _,_,g1,by simp only [List.length_append,List.length_map,List.length_range,List.length_cons,List.length_nil];walk_at "o",?_⟩
  rw [jz]
  have g3:∀ l:List AV,mup M2 pp (.lst l) pp=some (.lst l):=fun l=>ze
  have g4:∀ l:List AV,mup M2 pp (.lst l) pr=some (.lst ((c0 :: c1 :: cs).map fun x:Nat=>.d (.int x))):=fun l=>(zC ne).trans h2
  subst hr0
  walk_at "ra"
  refine ⟨⟨_,qo (g3 _)⟩,_,zX (g4 _),.d (.int c1),at0 1 c1 rfl,by walk_at "o",_,rfl,_,g3 _,by simp only [List.length_append,List.length_map,List.length_range,List.length_cons,List.length_nil];walk_at "o",?_⟩
  have er:(pl ++ (qQ (c0 :: c1 :: cs)).map ddD).map AV.d=pl.map AV.d ++ [AV.d (.tup [.str (Str.ofString "take"),.int c0])] ++ ((List.range os.length).map fun i=>ddD (.move (os.getD i 0) ((c0 :: os).getD i 0))).map AV.d ++ [AV.d (.tup [.str (Str.ofString "lay"),.int c1])]:=by
   have e1:qQ (c0 :: c1 :: cs)=.take c0 :: mvP c0 os ++ [.lay c1]:=by
    unfold qQ
    show Dd.take c0 :: mvP c0 (c1 :: cs).reverse ++ [Dd.lay ((c1 :: cs).reverse.getLastD c0)]=_
    rw [ho,<- ho,List.reverse_cons,Zb]
   rw [e1,Vc,List.map_append,List.map_append,List.map_append,List.map_cons,List.map_cons]
   simp only [List.append_assoc,List.cons_append,List.nil_append,List.map_map]
   rfl
  have:=q (some (.d (.lst (os.map fun x:Nat=>Dat.int x)))) a11 a12
  rw [er] at this
  exact this
noncomputable def aLX:ASp:=fun xs M Q=>∃ (b m e:Nat),xs=[.d (.int b),.d (.int m),.d (.int e)]/\b<=m/\m<=e/\e<=1000/\Q (.d (.lst ((xpl b m e).map deD))) M
noncomputable abbrev EK:Stmt:=top 27
theorem Dx:zy ["_law_begin","_law_middle","_law_end","_law_first","_law_many","_law_by","_law_plan","_law_seen","_law_ring","_law_here","_law_others","_law_goal","_law_place"] ["_law_begin","_law_middle","_law_end"] (zj EK):=⟨rfl,rfl,rfl,by decide +kernel,rfl,by decide +kernel,by decide +kernel⟩
theorem F0 (a:At K mg "_law_exchange" EK)(B:Blt mg):Df P w K mg base "_law_exchange" ["_law_begin","_law_middle","_law_end"] 1 (cSp aLX):=by
  refine dfA (k:=0) a Dx (fun _ _ _ _ _ _=>Pn3_ fun _ _ _=>rfl) (fun xs M Q h=>?_) (fun f cdv A outer s H E hr=>?_)
  · obtain ⟨_,_,_,rfl,_⟩:=h;rfl
  have sc:=Dx
  have hsl:=hsl
  refine ⟨_,(zc (vY (i:=4) (j:=5) rfl sc.nd rfl rfl (by decide) rfl rfl (za (zm kh (pv 2) (pv 0)) (za (zm kh (pv 2) (pv 1)) zb)) rfl)
    (zc (vY (i:=6) (j:=7) rfl sc.nd rfl rfl (by decide) rfl rfl (za (jt (zR zb)) (za (jt (zm wd (zR (za yh zb)) (pv 4))) zb)) rfl)
    (zc (jf PassesOwn.never rfl (qS rfl B.range (za (zm j8 (pv 4) (zS jB rfl B.int xU (za (VN QF QF (pv 0) (pv 1) (pv 2)) zb))) zb)) (zp (i:=3) sc.nd rfl (by first | exact Or.inl rfl | exact Or.inr rfl)) (zc (vY (i:=8) (j:=9) rfl sc.nd rfl rfl (by decide) rfl rfl (za (jt (zR zb)) (za (pv 3) zb)) rfl)
    (zc (Qy PassesOwn.never (wc (kc (zG qB (pv 7) (pv 9) (fun _ _=>rfl)) (fun _=>rfl))) (zc (jO yh (jr (pv 7) (pv 9) qg))
    (zc (qK (jN PySem.F.plainAttrs_list PySem.F.slot_list_append PySem.F.type_list_append qD (pv 8) (za (zm qc (pv 0) (pv 9)) zb)))
    (zh (zt (i:=9) sc.nd rfl (by first | exact Or.inl rfl | exact Or.inr rfl) (zm qC (zm qc (pv 9) (pv 5)) (pv 4)))))))
    (zh (qu (zE (yB hr.units) (pv 8) (zR zb) (zz _)) (zc (zt (i:=10) sc.nd rfl (by first | exact Or.inl rfl | exact Or.inr rfl) (wx (pv 8) ki (qf zd) (qf (YM Jq zd))))
    (zc (qK (jN PySem.F.plainAttrs_list PySem.F.slot_list_append PySem.F.type_list_append qD (pv 6) (za (qU (za jZ (za (zG qB (pv 8) zd (fun _ _=>rfl)) zb))) zb)))
    (zc (qK (jN PySem.F.plainAttrs_list PySem.F.slot_list_extend PySem.F.type_list_extend yD (pv 6) (za (qr (ts:=[11,12]) rfl rfl (vH rfl B.zip (za (zm jC (jp jR (pv 8) ki (qf zd)) (pv 10)) (za (pv 10) zb))) (fun _ _ _ _=>(jk (K:=K) 2 rfl rfl (zM (zp (i:=11) sc.nd rfl (by first | exact Or.inl rfl | exact Or.inr rfl)) (zM (zp (i:=12) sc.nd rfl (by first | exact Or.inl rfl | exact Or.inr rfl)) jj)))) (fun _ _ _ _=>qk) (fun _ _ _ _=>(qU (za jZ (za (pv 12) (za (pv 11) zb)))))) zb)))
    (zh (qK (jN PySem.F.plainAttrs_list PySem.F.slot_list_append PySem.F.type_list_append qD (pv 6) (za (qU (za jZ (za (zG qB (pv 8) zd (fun _ _=>rfl)) zb))) zb))))))) zK)))))
    (zh (zA (pv 6)))))),?_⟩
  refine ex2 (by walk_at "sim") ?_
  rintro xs M Q ⟨b,m,e,rfl,h1,h2,h3,q⟩
  rw [show qi ["_law_begin","_law_middle","_law_end","_law_first","_law_many","_law_by","_law_plan","_law_seen","_law_ring","_law_here","_law_others","_law_goal","_law_place"] [.d (.int b),.d (.int m),.d (.int e)]=[some (.d (.int b)),some (.d (.int m)),some (.d (.int e)),none,none,none,none,none,none,none,none,none,none] from rfl]
  refine zg fun r hr0=>?_
  walk_at "ra"
  subst hr0
  refine zg fun r hr0=>?_
  walk_at "ra"
  intro pp hpp _
  obtain ⟨n,hn⟩:∃ n,n=e - b:=⟨_,rfl⟩
  have en:((e:Int) - b)=(n:Int):=by walk_at "o"
  rw [en,Int.toNat_natCast]
  refine ⟨by walk_at "o",by walk_at "o",by walk_at "o",by walk_at "o",fun ps hps _=>?_⟩
  have nsp:ps ≠ pp:=fun z=>by rw [z,ze] at hps;cases hps
  rw [zC nsp] at hps
  obtain ⟨k,hk⟩:∃ k:Nat,((e:Int) - m)=(k:Int):=⟨e - m,by walk_at "o"⟩
  rw [hk]
  have e0:(List.replicate n [AV.d (.bl false)]).flatten=(List.replicate n false).map fun b=>AV.d (.bl b):=by
    rw [List.map_replicate]
    clear hn en
    induction n with
    | zero=>rfl
    | succ n ih=>rw [List.replicate_succ,List.flatten_cons,ih,List.replicate_succ];rfl
  rw [e0]
  have f0:Fr M (mup (mup M pp (.lst [])) ps (.lst ((List.replicate n false).map fun b=>AV.d (.bl b)))):=(Fr.refl.mup hpp _).mup hps _
  have g1:mup (mup M pp (.lst [])) ps (.lst ((List.replicate n false).map fun b=>AV.d (.bl b))) pp=some (.lst []):=by rw [zC (Ne.symm nsp),ze]
  have g2:mup (mup M pp (.lst [])) ps (.lst ((List.replicate n false).map fun b=>AV.d (.bl b))) ps=some (.lst ((List.replicate n false).map fun b=>AV.d (.bl b))):=ze
  generalize mup (mup M pp (.lst [])) ps (.lst ((List.replicate n false).map fun b=>AV.d (.bl b)))=M0 at *
  have ho:=xt n (k:Int)
  have hx:(xpl b m e).map deD=((zo (qR n (k:Int)) n).map (jF b)).flatten:=by
    rw [xy];unfold xpl;rw [<- hn,hk]
  generalize hos:qR n (k:Int)=os at *
  subst hr0
  refine zg fun r hr0=>?_
  walk_at "ra"
  have nil0:((zo os n).map (jF b)).flatten=[]->rtA M Q (.ref pp) M0:=fun z=>by
    refine ⟨_,_,jx f0 hpp g1 rfl,?_⟩
    rw [hx,z] at q;exact q
  by_cases c1:(b:Int)<m
  · rw [if_pos c1]
    by_cases c2:(m:Int)<e
    · rw [if_pos c2,Int.mul_one,Int.toNat_natCast]
      refine ⟨vA (by walk_at "o") (by walk_at "o"),by walk_at "o",by walk_at "o",?_⟩
      refine ⟨fun i ρ M'=>(∃ u v w x y z,ρ=[some (.d (.int b)),some (.d (.int m)),some (.d (.int e)),u,some (.d (.int n)),some (.d (.int k)),some (.ref pp),some (.ref ps),v,w,x,y,z])/\Fr M M'/\M' pp=some (.lst ((((zo os i).map (jF b)).flatten).map .d))/\∃ ss:List Bool,M' ps=some (.lst (ss.map fun b=>.d (.bl b)))/\ss.length=n/\∀ x:Nat,x<n->(ss.getD x false=true ↔ zZ os i (x:Int)),⟨⟨_,_,_,_,_,_,rfl⟩,f0,g1,_,g2,by rw [List.length_replicate],fun x hx=>?_⟩,?_,?_⟩
      · constructor
        · intro z
          rw [List.getD_eq_getElem?_getD,List.getElem?_replicate,if_pos hx] at z
          cases z
        · rintro ⟨q,hq,_⟩;walk_at "o"
      · rintro i y ρ M1 hy ⟨⟨u,v,w,x,y,z,rfl⟩,f1,hp1,ss,hs1,ls,hss⟩
        obtain ⟨hi,rfl⟩:=jH hy
        obtain ⟨L,hL,hLn⟩:=kT ho (p:=(i:Int)) (by walk_at "o") (by walk_at "o")
        have L1:1<L:=Wg hi (by walk_at "o":0<k) (by walk_at "o") (by rw [hos];exact hL)
        refine ⟨trivial,?_⟩
        rw [Int.zero_add,Int.mul_one]
        show kW _ _ _ _ _ _
        refine zg fun r2 hr2=>?_
        walk_at "ra"
        intro pr hpr _
        have nrp:pr ≠ pp:=fun z=>by rw [z,hp1] at hpr;cases hpr
        have nrs:pr ≠ ps:=fun z=>by rw [z,hs1] at hpr;cases hpr
        have hr0':=f1.non hpr
        subst hr2
        refine zg fun r2 hr2=>?_
        show kW _ _ _ _ _ _
        unfold kW
        refine ⟨fun t ρ M'=>∃ j,t=L - j/\j<=L/\ρ=[some (.d (.int b)),some (.d (.int m)),some (.d (.int e)),some (.d (.int i)),some (.d (.int n)),some (.d (.int k)),some (.ref pp),some (.ref ps),some (.ref pr),some (.d (.int (itn os j (i:Int)))),x,y,z]/\Fr M M'/\M' pp=some (.lst ((((zo os i).map (jF b)).flatten).map .d))/\M' pr=some (.lst ((itl os (i:Int) j).map fun p=>.d (.int ((b:Int)+p))))/\(1<=j->¬ zZ os i (i:Int))/\∃ ss:List Bool,M' ps=some (.lst (ss.map fun b=>.d (.bl b)))/\ss.length=n/\∀ x:Nat,x<n->(ss.getD x false=true ↔ zZ os i (x:Int) \/ ∃ t,t<j/\itn os t (i:Int)=(x:Int)),
          ⟨_,0,rfl,Nat.zero_le _,rfl,f1.mup hr0' _,by rw [zC (Ne.symm nrp)];exact hp1,by rw [ze];rfl,fun z=>by walk_at "o",ss,by rw [zC (Ne.symm nrs)];exact hs1,ls,fun x hx=>by rw [hss x hx];simp⟩,?_⟩
        rintro t ρ M2 ⟨j,rfl,jL,rfl,f2,hp2,hr2',hns,ss,hs2,ls,hss⟩
        have bd:=qm ho (p:=(i:Int)) (by walk_at "o") (by walk_at "o") j
        obtain ⟨vn,hvn⟩:∃ vn:Nat,itn os j (i:Int)=vn:=⟨(itn os j (i:Int)).toNat,by walk_at "o"⟩
        have hv:=hss vn (by walk_at "o")
        have sat:atI (ss.map fun b=>AV.d (.bl b)) (vn:Int)=some (.d (.bl (ss.getD vn false))):=by
          unfold atI
          rw [jD (by walk_at "o") (by rw [List.length_map];walk_at "o")]
          show (ss.map fun b=>AV.d (.bl b))[(vn:Int).toNat]?=_
          rw [Int.toNat_natCast,List.getElem?_map,List.getD_eq_getElem?_getD,List.getElem?_eq_getElem (by walk_at "o")];rfl
        rw [hvn]
        walk_at "ra"
        refine ⟨_,zX hs2,_,sat,_,rfl,?_⟩
        cases hb:ss.getD vn false with
        | false=>
          rw [if_pos rfl]
          have hno:¬ (zZ os i (vn:Int) \/ ∃ t,t<j/\itn os t (i:Int)=(vn:Int)):=by rw [<- hv,hb];simp
          have jL':j<L:=by
            rcases Nat.lt_or_ge j L with z | z
            · exact z
            · have ej:j=L:=by walk_at "o"
              subst ej
              exact absurd (.inr ⟨0,hL.1,by show (i:Int)=vn;rw [<- hvn,hL.2.1]⟩) hno
          have f3:Fr M (mup M2 ps (.lst ((ss.map fun b=>AV.d (.bl b)).set vn (.d (.bl true))))):=f2.mup hps _
          walk_at "ra"
          refine ⟨_,hs2,vn,by rw [jD (by walk_at "o") (by rw [List.length_map];walk_at "o"),Int.toNat_natCast],⟨_,qo ((zC nrs).trans hr2')⟩,_,(zC nrs).trans hr2',by rw [List.length_map,qz];walk_at "o",by walk_at "o",L - (j+1),by walk_at "o",j+1,rfl,by walk_at "o",?_,f3.mup hr0' _,?_,?_,fun _=>?_,ss.set vn true,?_,by rw [List.length_set];exact ls,fun x hx=>?_⟩
          · show _=os.getD (itn os j (i:Int)).toNat 0
            rw [hvn,Int.toNat_natCast,<- hos,qT (by walk_at "o")]
          · rw [zC (Ne.symm nrp),zC (Ne.symm nsp)];exact hp2
          · rw [ze,Z5,List.map_append,hvn];rfl
          · intro z
            rcases Nat.eq_zero_or_pos j with z0 | z0
            · subst z0
              exact hno (.inl (by rw [<- hvn];exact z))
            · exact hns z0 z
          · rw [zC (Ne.symm nrs),ze,List.map_set]
          · rw [wZ (by walk_at "o")]
            by_cases e:x=vn
            · subst e
              rw [if_pos rfl]
              simp only [true_iff]
              exact .inr ⟨j,by walk_at "o",hvn⟩
            · rw [if_neg e,hss x hx]
              constructor
              · rintro (z | ⟨t,ht,et⟩)
                · exact .inl z
                · exact .inr ⟨t,by walk_at "o",et⟩
              · rintro (z | ⟨t,ht,et⟩)
                · exact .inl z
                · rcases Nat.lt_or_ge t j with z | z
                  · exact .inr ⟨t,z,et⟩
                  · have:t=j:=by walk_at "o"
                    subst this
                    rw [hvn] at et
                    exact absurd (by walk_at "o") e
        | true=>
          rw [if_neg (by decide)]
          have hyes:=hv.mp hb
          subst hr2
          by_cases c0:zZ os i (i:Int)
          · have j0 : j = 0 := by
              rcases Nat.eq_zero_or_pos j with z | z
              · exact z
              · exact absurd c0 (hns z)
            subst j0
            refine ZV (fun Q q=>?_) ⟨⟨_,_,_,_,_,_,rfl⟩,f2,?_,ss,hs2,ls,fun x hx=>?_⟩
            · walk_at "ra"
              refine ⟨_,yg hr2' rfl,by rw [dp];decide,by rw [dp];decide,?_⟩
              rw [show eqD (.lst []) (.lst [])=true by simp [eqD,xR]]
              exact q
            · rw [hp2]
              rw [show zo os (i+1)=zo os i from by
                show zo os i ++ _=_
                rw [if_neg (fun z=>(qX.mp z.1) c0),List.append_nil]]
            · rw [hss x hx,zZ.step ho hi c0]
              simp
          · have jL2 : j = L := by
              rcases hyes with z | ⟨t,ht,et⟩
              · exact absurd z (zZ.apart ho hi c0 ⟨j,hvn⟩)
              · exact Z2 ho (by walk_at "o") (by walk_at "o") hL jL ht (et.trans hvn.symm)
            subst jL2
            have el:(itl os (i:Int) j).map (fun p=>AV.d (.int ((b:Int)+p)))=((itl os (i:Int) j).map fun p=>b+p.toNat).map fun x:Nat=>AV.d (.int x):=by
              rw [List.map_map]
              refine List.map_congr_left fun p hp=>?_
              obtain ⟨t,_,rfl⟩:=qd.mp hp
              have:=qm ho (p:=(i:Int)) (by walk_at "o") (by walk_at "o") t
              show AV.d (.int ((b:Int)+itn os t i))=AV.d (.int ((b+(itn os t i).toNat:Nat):Int))
              congr 2;walk_at "o"
            have er:zo os (i+1)=zo os i ++ [itl os (i:Int) j]:=by
              show zo os i ++ _=_
              rw [if_pos ⟨qX.mpr c0,by rw [hL.per];exact L1⟩]
              unfold zH
              rw [hL.per]
            have eg:jF b (itl os (i:Int) j)=(qQ ((itl os (i:Int) j).map fun p=>b+p.toNat)).map ddD:=by
              rw [<- Q3 b (by rw [qz];walk_at "o") (fun x hx=>by
                obtain ⟨t,_,rfl⟩:=qd.mp hx
                exact (qm ho (p:=(i:Int)) (by walk_at "o") (by walk_at "o") t).1),List.map_map]
              congr 2
              refine List.map_congr_left fun p hp=>?_
              obtain ⟨t,_,rfl⟩:=qd.mp hp
              have:=qm ho (p:=(i:Int)) (by walk_at "o") (by walk_at "o") t
              show ((b:Int)+itn os t i).toNat=b+(itn os t i).toNat
              walk_at "o"
            have hlen:((itl os (i:Int) j).map fun p=>b+p.toNat).length=j:=by rw [List.length_map,qz]
            rw [el] at hr2'
            have tot:((zo os i).map (jF b)).flatten.length<=10000:=by
              obtain ⟨l,el⟩:=X9 os (Nat.le_of_lt hi)
              have t1:((zo os n).map (jF b)).flatten.length<=10000:=by
                rw [xy,List.length_map,List.length_map,List.length_map,xL ho]
                have:=YJ os n
                have:=yK ho
                walk_at "o"
              rw [el,List.map_append,List.flatten_append,List.length_append] at t1
              walk_at "o"
            generalize (itl os (i:Int) j).map (fun p=>b+p.toNat)=rn at *
            match rn,hlen with
            | [],z=>exact absurd z (by simp;walk_at "o")
            | [_],z=>exact absurd z (by simp;walk_at "o")
            | c0 :: c1 :: cs,z=>
              refine YQ hp2 hr2' nrp tot (by simp only [List.length_cons] at z;walk_at "o") fun u v w=>⟨⟨_,_,_,_,_,_,rfl⟩,f2.mup hpp _,?_,ss,(zC nsp).trans hs2,ls,fun x hx=>?_⟩
              · rw [ze,er,List.map_append (f:=jF b),List.flatten_append,List.map_cons,List.map_nil,List.flatten_cons,List.flatten_nil,List.append_nil,eg]
              · rw [hss x hx,zZ.succ,Rch.mem_ring hL,qd]
      · rintro ρ M1 ⟨⟨u,v,w,x,y,z,rfl⟩,f1,hp1,_⟩
        rw [j7] at hp1
        refine ⟨trivial,?_⟩
        subst hr0
        walk_at "ra"
        refine ⟨_,_,jx f1 hpp hp1 (zJ _),?_⟩
        rw [<- hx];exact q
    · rw [if_neg c2,Int.mul_zero]
      refine ⟨vA (by walk_at "o") (by walk_at "o"),by walk_at "o",by walk_at "o",fun _ ρ M'=>ρ=_/\M'=M0,⟨rfl,rfl⟩,(fun i x ρ M' hx=>absurd (jH hx).1 (Nat.not_lt_zero _)),?_⟩
      rintro ρ M' ⟨rfl,rfl⟩
      refine ⟨trivial,?_⟩
      subst hr0
      walk_at "ra"
      exact nil0 (by rw [<- hx,Xf h1 h2 (.inr (by walk_at "o"))];rfl)
  · rw [if_neg c1,Int.mul_zero]
    refine ⟨vA (by walk_at "o") (by walk_at "o"),by walk_at "o",by walk_at "o",fun _ ρ M'=>ρ=_/\M'=M0,⟨rfl,rfl⟩,(fun i x ρ M' hx=>absurd (jH hx).1 (Nat.not_lt_zero _)),?_⟩
    rintro ρ M' ⟨rfl,rfl⟩
    refine ⟨trivial,?_⟩
    subst hr0
    walk_at "ra"
    exact nil0 (by rw [<- hx,Xf h1 h2 (.inl (by walk_at "o"))];rfl)
theorem Qg (b m e:Nat):(xpl b m e).length<=2 * (e - b):=by
 unfold xpl
 have ro:=xt (e - b) ((e:Int) - m)
 rw [List.length_map,List.length_map,xL ro]
 have:=YJ (qR (e - b) ((e:Int) - m)) (e - b)
 have:=yK ro
 walk_at "o"
theorem Xb {b m e:Nat}(h:e<=1000):(xpl b m e).length<=2000:=by have:=Qg b m e;walk_at "o"
theorem Zg (ms:List Int):∀ (f b e:Nat),b<=e->(prt ms f b e).length<=2 * (f * (e - b))
 | 0,_,_,_=>by simp [prt]
 | f+1,b,e,hb=>by
  unfold prt
  split
  ·simp
  ·dsimp only
   obtain ⟨m,hm⟩:∃ m,m=b+(e - b) / 2:=⟨_,rfl⟩
   rw [<- hm]
   have h1:b<=m:=by walk_at "o"
   have h2:m<=e:=by walk_at "o"
   clear hm
   have l1:=Zg ms f b m h1
   have l2:=Zg ms f m e h2
   have k2:=List.count_le_length (a:=(0:Int)) (l:=(ms.drop m).take (e - m))
   rw [List.length_take] at k2
   have l3:=Qg (b+((ms.drop b).take (m - b)).count 0) m (m+((ms.drop m).take (e - m)).count 0)
   generalize ((ms.drop b).take (m - b)).count 0=c1 at *
   generalize ((ms.drop m).take (e - m)).count 0=c2 at *
   have e1:f * (m - b)+f * (e - m)=f * (e - b):=by rw [<- Nat.mul_add];congr 1;walk_at "o"
   rw [List.length_append,List.length_append,Nat.succ_mul f (e - b)]
   generalize f * (m - b)=q1 at *
   generalize f * (e - m)=q2 at *
   generalize f * (e - b)=q3 at *
   have l4:2 * (m+c2 - (b+c1))<=2 * (e - b):=by walk_at "o"
   walk_at "o"
theorem kr (ms:List Int)(f b e:Nat)(hf:f<=9)(h:ms.length<=1000)(he:e<=ms.length)(hb:b<=e):(prt ms f b e).length<=18000:=by
 have h1:=Zg ms f b e hb
 have h2:f * (e - b)<=9 * 1000:=Nat.mul_le_mul hf (by walk_at "o")
 walk_at "o"
noncomputable def vT (f:Nat):ASp:=fun xs M Q=>∃ (x:AV) (b e:Nat) (ms:List Int),xs=[x,.d (.int b),.d (.int e)]/\qb x M=some (ms.map fun i=>.d (.int i))/\f<=9/\e - b<=2 ^ f/\b<=e/\e<=ms.length/\ms.length<=1000/\Q (.d (.lst ((prt ms f b e).map deD))) M
theorem Q4 {α:Type}(xs:List α){b m:Nat}(h:b<=m)(h2:m<=xs.length):kE xs (some (b:Int)) (some (m:Int))=(xs.drop b).take (m - b):=by
 unfold kE
 rw [HT.sIx_nat,HT.sIx_nat,Nat.min_eq_left h2,Nat.min_eq_left (Nat.le_trans h h2)]
theorem QV (ns:List Int){b m:Nat}(h:b<=m)(h2:m<=ns.length):pur (kE (ns.map fun i=>AV.d (.int i)) (some (b:Int)) (some (m:Int)))=some (((ns.drop b).take (m - b)).map .int):=by
 rw [yo,Q4 _ h h2,zI]
noncomputable abbrev yn:Stmt:=top 28
theorem v7:zy ["_law_marks","_law_begin","_law_end","_law_middle","_law_behind_here","_law_plan"] ["_law_marks","_law_begin","_law_end"] (zj yn):=⟨rfl,rfl,rfl,by decide +kernel,rfl,by decide +kernel,by decide +kernel⟩
theorem Q8 (a:At K mg "_law_part" yn)(B:Blt mg){kk:Nat}(F:Nat){sp:ASp}(hsp:∀ xs M Q,1<=F->vT (F - 1) xs M Q->sp xs M Q)(D_law_part:Df P w K mg base "_law_part" ["_law_marks","_law_begin","_law_end"] kk (cSp sp))(D_law_exchange:Df P w K mg base "_law_exchange" ["_law_begin","_law_middle","_law_end"] kk (cSp aLX)):Df P w K mg base "_law_part" ["_law_marks","_law_begin","_law_end"] (kk+1) (cSp (vT F)):=by
 refine dfA (k:=kk) a v7 (fun _ _ _ _ _ _=>Pn3_ fun _ _ _=>rfl) (fun xs M Q h=>?_) (fun f cdv A outer s H E hr=>?_)
 ·obtain ⟨_,_,_,_,rfl,_⟩:=h;rfl
 have sc:=v7
 have hsl:=hsl
 have hse:=sizeLine_eq
 refine ⟨_,(zc (qu (zE QF (zm kh (pv 2) (pv 1)) zd (zz _)) (zh (zA (zR zb))) zK)
  (zc (zt (i:=3) sc.nd rfl (by first | exact Or.inl rfl | exact Or.inr rfl) (zm qc (pv 1) (zm jS (zm kh (pv 2) (pv 1)) zd)))
  (zc (zt (i:=4) sc.nd rfl (by first | exact Or.inl rfl | exact Or.inr rfl) (zm qc (pv 1) (jN PySem.F.plainAttrs_list PySem.F.slot_list_count PySem.F.type_list_count xm (jp jR (pv 0) (qf (pv 1)) (qf (pv 3))) (za zd zb))))
  (zc (zt (i:=5) sc.nd rfl (by first | exact Or.inl rfl | exact Or.inr rfl) (zm jC (zO D_law_part hr rfl (za (pv 0) (za (pv 1) (za (pv 3) zb)))) (zO D_law_part hr rfl (za (pv 0) (za (pv 3) (za (pv 2) zb))))))
  (zh (zA (zm jC (pv 5) (zO D_law_exchange hr rfl (za (pv 4) (za (pv 3) (za (zm qc (pv 3) (jN PySem.F.plainAttrs_list PySem.F.slot_list_count PySem.F.type_list_count xm (jp jR (pv 0) (qf (pv 3)) (qf (pv 2))) (za zd zb))) zb))))))))))),?_⟩
 refine ex2 (by walk_at "sim") ?_
 rintro xs M Q ⟨x,b,e,ms,rfl,hx,hf,h1,h2,h3,h4,q⟩
 rw [show qi ["_law_marks","_law_begin","_law_end","_law_middle","_law_behind_here","_law_plan"] [x,.d (.int b),.d (.int e)]=[some x,some (.d (.int b)),some (.d (.int e)),none,none,none] from rfl]
 refine zg fun r hr0=>?_
 walk_at "ra"
 split
 ·rename_i c
  refine ZN Fr.refl ?_
  have ep:prt ms F b e=[]:=by
   cases F with
   | zero=>rfl
   | succ F=>unfold prt;rw [if_pos (by walk_at "o")]
  rw [ep] at q
  exact q
 ·rename_i c
  cases F with
  | zero=>exfalso;simp at h1;walk_at "o"
  | succ F=>
   have hp:2 ^ (F+1)=2 * 2 ^ F:=by rw [Nat.pow_succ,Nat.mul_comm]
   have p12:2 ^ F<=2 ^ 8:=Nat.pow_le_pow_right (by decide) (by walk_at "o")
   obtain ⟨m,hm⟩:∃ m,m=b+(e - b) / 2:=⟨_,rfl⟩
   have em:(b:Int)+((e:Int) - b) / 2=(m:Int):=by walk_at "o"
   have l1:=kr ms F b m (by walk_at "o") (by walk_at "o") (by walk_at "o") (by walk_at "o")
   have l2:=kr ms F m e (by walk_at "o") (by walk_at "o") (by walk_at "o") (by walk_at "o")
   have k1:=List.count_le_length (a:=(0:Int)) (l:=(ms.drop b).take (m - b))
   have k2:=List.count_le_length (a:=(0:Int)) (l:=(ms.drop m).take (e - m))
   rw [List.length_take] at k1 k2
   have l3:=Xb (b:=b+((ms.drop b).take (m - b)).count 0) (m:=m) (e:=m+((ms.drop m).take (e - m)).count 0) (by walk_at "o")
   have ep:prt ms (F+1) b e=prt ms F b m ++ prt ms F m e ++ xpl (b+((ms.drop b).take (m - b)).count 0) m (m+((ms.drop m).take (e - m)).count 0):=by
    show (if e - b<2 then [] else _)=_
    rw [if_neg (by walk_at "o"),hm]
   rw [ep] at q
   subst hr0
   refine zg fun r hr0=>?_
   walk_at "ra"
   refine ⟨by first | exact xq (by walk_at "o") (by walk_at "o") | walk_at "o",?_⟩
   rw [em]
   subst hr0
   refine zg fun r hr0=>?_
   walk_at "ra"
   refine ⟨_,hx,_,QV ms (by walk_at "o") (by walk_at "o"),⟨_,rfl⟩,_,xK _,_,rfl,?_⟩
   rw [yp]
   subst hr0
   refine zg fun r hr0=>?_
   walk_at "ra"
   refine hsp _ _ _ (by walk_at "o") ⟨x,b,m,ms,rfl,hx,by walk_at "o",by show _<=2 ^ F;walk_at "o",by walk_at "o",by walk_at "o",h4,?_⟩
   refine hsp _ _ _ (by walk_at "o") ⟨x,m,e,ms,rfl,hx,by walk_at "o",by show _<=2 ^ F;walk_at "o",by walk_at "o",by walk_at "o",h4,?_⟩
   refine ⟨_,qO _ _,_,qO _ _,by rw [List.length_map,List.length_map,List.length_map,List.length_map];show _+(prt ms F m e).length<=_;show (prt ms F b m).length+_<=_;walk_at "o",(prt ms F b m ++ prt ms F m e).map deD,by rw [<- List.map_append,<- List.map_append];exact zJ _,?_⟩
   subst hr0
   walk_at "ra"
   refine ⟨_,hx,_,QV ms (by walk_at "o") (by walk_at "o"),⟨_,rfl⟩,_,xK _,_,rfl,?_⟩
   rw [yp]
   refine ⟨b+((ms.drop b).take (m - b)).count 0,m,m+((ms.drop m).take (e - m)).count 0,by push_cast;rfl,by walk_at "o",by walk_at "o",by walk_at "o",?_⟩
   refine ⟨_,qO _ _,by simp only [List.length_map,List.length_append];walk_at "o",_,by rw [<- List.map_append,<- List.map_append];exact zJ _,ZN Fr.refl q⟩
theorem XD (a:At K mg "_law_part" yn):Df P w K mg base "_law_part" ["_law_marks","_law_begin","_law_end"] 1 (cSp aNo):=
 kP (k:=0) a v7 (fun _ _ _ _ _ _=>Pn3_ fun _ _ _=>rfl) (fun vs H Q E h=>by obtain ⟨_,_,_,_,_,_,h,_⟩:=h;exact h.elim) (fun f cdv A outer s H vs Q E hr h=>by obtain ⟨_,_,_,_,_,_,h,_⟩:=h;exact h.elim)
theorem wW (a:At K mg "_law_part" yn)(B:Blt mg)(D:Df P w K mg base "_law_exchange" ["_law_begin","_law_middle","_law_end"] 1 (cSp aLX)):∀ n,Df P w K mg base "_law_part" ["_law_marks","_law_begin","_law_end"] (n+2) (cSp (vT n))
 | 0=>Q8 a B 0 (sp:=aNo) (fun _ _ _ h=>absurd h (by walk_at "o")) (XD a) D
 | n+1=>Q8 a B (n+1) (sp:=vT n) (fun _ _ _ _ h=>h) (wW a B D n) (D.mono (by walk_at "o"))
noncomputable def aPS (f:Nat):ASp:=fun xs M Q=>∃ (x:AV) (b e:Nat) (ms:List Int),xs=[x,.d (.int b),.d (.int e)]/\zN x M=some (ms.map fun i=>.d (.int i))/\f<=9/\e - b<=2 ^ f/\b<=e/\e<=ms.length/\ms.length<=1000/\Q (.d (.lst ((prt ms f b e).map deD))) M
noncomputable def Bc (f:Nat):ASp:=fun xs M Q=>∃ (x:AV) (b e:Nat) (ms:List Int),xs=[x,.d (.int b),.d (.int e)]/\zN x M=some (ms.map fun i=>.d (.int i))/\f<=9/\e - b<=2 ^ f/\b<=e/\e<=ms.length/\ms.length<=1000/\∀ p,M p=none->Q (.ref p) (mup M p (.lst (((prt ms f b e).map deD).map .d)))
noncomputable abbrev QL:Stmt:=top 17
theorem JK:zy ["marks","begin","end","middle","plan","ones_from","noughts_to"] ["marks","begin","end"] (zj QL):=⟨rfl,rfl,rfl,by decide +kernel,rfl,by decide +kernel,by decide +kernel⟩
theorem Vw (a:At K mg "part_stretch" QL)(B:Blt mg){kk:Nat}(F:Nat){sp:ASp}(hsp:∀ xs M Q,1<=F->aPS (F - 1) xs M Q->sp xs M Q)(D_part_stretch:Df P w K mg base "part_stretch" ["marks","begin","end"] kk (cSp sp))(D_exchange_plan:Df P w K mg base "exchange_plan" ["begin","middle","end"] kk (cSp JD)):Df P w K mg base "part_stretch" ["marks","begin","end"] (kk+1) (cSp (Bc F)):=by
 refine dfA (k:=kk) a JK (fun _ _ _ _ _ _=>Pn3_ fun _ _ _=>rfl) (fun xs M Q h=>?_) (fun f cdv A outer s H E hr=>?_)
 ·obtain ⟨_,_,_,_,rfl,_⟩:=h;rfl
 have sc:=JK
 have hsl:=hsl
 have hse:=sizeLine_eq
 refine ⟨_,(zc (qu (zE QF (zm kh (pv 2) (pv 1)) zd (zz _)) (zh (zA (jt (zR zb)))) zK)
  (zc (zt (i:=3) sc.nd rfl (by first | exact Or.inl rfl | exact Or.inr rfl) (zm qc (pv 1) (zm jS (zm kh (pv 2) (pv 1)) zd)))
  (zc (zt (i:=4) sc.nd rfl (by first | exact Or.inl rfl | exact Or.inr rfl) (zm jC (zO D_part_stretch hr rfl (za (pv 0) (za (pv 1) (za (pv 3) zb)))) (zO D_part_stretch hr rfl (za (pv 0) (za (pv 3) (za (pv 2) zb))))))
  (zc (zt (i:=5) sc.nd rfl (by first | exact Or.inl rfl | exact Or.inr rfl) (zm qc (pv 1) (V4 (K:=K) rfl PySem.F.plainAttrs_list PySem.F.slot_list_count PySem.F.type_list_count xm PySem.F.plainAttrs_tuple PySem.F.slot_tuple_count PySem.F.type_tuple_count wU (jp (jR.or W7) (pv 0) (qf (pv 1)) (qf (pv 3))) (za zd zb))))
  (zc (zt (i:=6) sc.nd rfl (by first | exact Or.inl rfl | exact Or.inr rfl) (zm qc (pv 3) (V4 (K:=K) rfl PySem.F.plainAttrs_list PySem.F.slot_list_count PySem.F.type_list_count xm PySem.F.plainAttrs_tuple PySem.F.slot_tuple_count PySem.F.type_tuple_count wU (jp (jR.or W7) (pv 0) (qf (pv 3)) (qf (pv 2))) (za zd zb))))
  (zh (zA (jt (zm jC (pv 4) (zO D_exchange_plan hr rfl (za (pv 5) (za (pv 3) (za (pv 6) zb))))))))))))),?_⟩
 refine ex2 (by walk_at "sim") ?_
 rintro xs M Q ⟨x,b,e,ms,rfl,hx,hf,h1,h2,h3,h4,q⟩
 rw [show qi ["marks","begin","end","middle","plan","ones_from","noughts_to"] [x,.d (.int b),.d (.int e)]=[some x,some (.d (.int b)),some (.d (.int e)),none,none,none,none] from rfl]
 refine zg fun r hr0=>?_
 walk_at "ra"
 split
 ·rename_i c
  have ep:prt ms F b e=[]:=by
   cases F with
   | zero=>rfl
   | succ F=>unfold prt;rw [if_pos (by walk_at "o")]
  rw [ep] at q
  intro p hp _
  exact ⟨_,_,xu (Fr.refl.mup hp _) hp ze rfl,q p hp⟩
 ·rename_i c
  cases F with
  | zero=>exfalso;simp at h1;walk_at "o"
  | succ F=>
   have hp:2 ^ (F+1)=2 * 2 ^ F:=by rw [Nat.pow_succ,Nat.mul_comm]
   have p12:2 ^ F<=2 ^ 8:=Nat.pow_le_pow_right (by decide) (by walk_at "o")
   obtain ⟨m,hm⟩:∃ m,m=b+(e - b) / 2:=⟨_,rfl⟩
   have em:(b:Int)+((e:Int) - b) / 2=(m:Int):=by walk_at "o"
   have l1:=kr ms F b m (by walk_at "o") (by walk_at "o") (by walk_at "o") (by walk_at "o")
   have l2:=kr ms F m e (by walk_at "o") (by walk_at "o") (by walk_at "o") (by walk_at "o")
   have k1:=List.count_le_length (a:=(0:Int)) (l:=(ms.drop b).take (m - b))
   have k2:=List.count_le_length (a:=(0:Int)) (l:=(ms.drop m).take (e - m))
   rw [List.length_take] at k1 k2
   have l3:=Xb (b:=b+((ms.drop b).take (m - b)).count 0) (m:=m) (e:=m+((ms.drop m).take (e - m)).count 0) (by walk_at "o")
   have ep:prt ms (F+1) b e=prt ms F b m ++ prt ms F m e ++ xpl (b+((ms.drop b).take (m - b)).count 0) m (m+((ms.drop m).take (e - m)).count 0):=by
    show (if e - b<2 then [] else _)=_
    rw [if_neg (by walk_at "o"),hm]
   rw [ep] at q
   subst hr0
   refine zg fun r hr0=>?_
   walk_at "ra"
   refine ⟨by first | exact xq (by walk_at "o") (by walk_at "o") | walk_at "o",?_⟩
   rw [em]
   subst hr0
   refine zg fun r hr0=>?_
   walk_at "ra"
   refine hsp _ _ _ (by walk_at "o") ⟨x,b,m,ms,rfl,hx,by walk_at "o",by show _<=2 ^ F;walk_at "o",by walk_at "o",by walk_at "o",h4,?_⟩
   refine hsp _ _ _ (by walk_at "o") ⟨x,m,e,ms,rfl,hx,by walk_at "o",by show _<=2 ^ F;walk_at "o",by walk_at "o",by walk_at "o",h4,?_⟩
   refine ⟨_,qO _ _,_,qO _ _,by rw [List.length_map,List.length_map,List.length_map,List.length_map];show _+(prt ms F m e).length<=_;show (prt ms F b m).length+_<=_;walk_at "o",(prt ms F b m ++ prt ms F m e).map deD,by rw [<- List.map_append,<- List.map_append];exact zJ _,?_⟩
   subst hr0
   refine zg fun r hr0=>?_
   walk_at "ra"
   have cut:∀ {u v:Nat},u<=v->v<=ms.length->(u ≠ 0 \/ v ≠ ms.length)->∀ (Q:AV->Prop),(∀ y,zN y M=some (((ms.drop u).take (v - u)).map fun i=>AV.d (.int i))->Q y)->∃ l:List Dat,zN x M=some (l.map AV.d)/\¬ (HT.sIx l.length 0 (some (u:Int))=0/\HT.sIx l.length l.length (some (v:Int))=l.length)/\∀ y,zN y M=some ((kE l (some (u:Int)) (some (v:Int))).map AV.d)->Q y:=fun {u v} h1 h2 h3 Q hq=>by
    refine ⟨ms.map .int,by rw [je];exact hx,?_,fun y hy=>hq y ?_⟩
    ·rw [HT.sIx_nat,HT.sIx_nat,List.length_map];walk_at "o"
    ·rw [hy,yo,Q4 _ h1 h2,je]
   refine cut (u:=b) (v:=m) (by walk_at "o") (by walk_at "o") (.inr (by walk_at "o")) _ fun y hy=>⟨_,hy,?_⟩
   subst hr0
   refine zg fun r hr0=>?_
   walk_at "ra"
   refine cut (u:=m) (v:=e) (by walk_at "o") (by walk_at "o") (.inl (by walk_at "o")) _ fun y hy=>⟨_,hy,?_⟩
   subst hr0
   walk_at "ra"
   refine ⟨b+((ms.drop b).take (m - b)).count 0,m,m+((ms.drop m).take (e - m)).count 0,by push_cast;rfl,by walk_at "o",by walk_at "o",by walk_at "o",?_⟩
   refine ⟨_,qO _ _,by show _+(((xpl (b+((ms.drop b).take (m - b)).count 0) m (m+((ms.drop m).take (e - m)).count 0)).map deD).map AV.d).length<=_;simp only [List.length_map,List.length_append];walk_at "o",fun p hp _=>?_⟩
   refine ⟨_,_,xu (Fr.refl.mup hp _) hp ze (ds:=(prt ms F b m ++ prt ms F m e ++ xpl (b+((ms.drop b).take (m - b)).count 0) m (m+((ms.drop m).take (e - m)).count 0)).map deD) ?_,?_⟩
   ·rw [<- List.map_append,zJ,List.map_append (f:=deD) (l₂:=xpl _ _ _)];rfl
   ·have:=q p hp
    rw [List.map_append,List.map_append] at this
    exact this
theorem EF (f:Nat)(vs:List V)(H:Hp)(Q:VK)(E:XK):cSp (aPS f) vs H Q E->cSp (Bc f) vs H Q E:=Ks (fun xs M Q ⟨x,b,e,ms,h0,h1,h2,h3,h4,h5,h6,q⟩=>⟨x,b,e,ms,h0,h1,h2,h3,h4,h5,h6,fun p hp=>⟨_,_,jx (Fr.refl.mup hp _) hp ze (zJ _),q⟩⟩) vs H Q E
theorem Ax (a:At K mg "part_stretch" QL):Df P w K mg base "part_stretch" ["marks","begin","end"] 3 (cSp aNo):=
 kP (k:=2) a JK (fun _ _ _ _ _ _=>Pn3_ fun _ _ _=>rfl) (fun vs H Q E h=>by obtain ⟨_,_,_,_,_,_,h,_⟩:=h;exact h.elim) (fun f cdv A outer s H vs Q E hr h=>by obtain ⟨_,_,_,_,_,_,h,_⟩:=h;exact h.elim)
theorem KO (a:At K mg "part_stretch" QL)(B:Blt mg)(D:Df P w K mg base "exchange_plan" ["begin","middle","end"] 3 (cSp JD)):∀ n,Df P w K mg base "part_stretch" ["marks","begin","end"] (n+4) (cSp (Bc n))
 | 0=>Vw a B 0 (sp:=aNo) (fun _ _ _ h=>absurd h (by walk_at "o")) (Ax a) D
 | n+1=>Vw a B (n+1) (sp:=aPS n) (fun _ _ _ _ h=>h) ((KO a B D n).imp' (EF n)) (D.mono (by walk_at "o"))
noncomputable def GD:ASp:=fun xs M Q=>∃ (x:AV) (ms:List Int),xs=[x]/\zN x M=some (ms.map fun i=>.d (.int i))/\ms.length<=256/\∀ p,M p=none->Q (.ref p) (mup M p (.lst (((prt ms 8 0 ms.length).map deD).map .d)))
noncomputable def aPP:ASp:=fun xs M Q=>∃ (x:AV) (ms:List Int),xs=[x]/\zN x M=some (ms.map fun i=>.d (.int i))/\ms.length<=256/\Q (.d (.lst ((prt ms 8 0 ms.length).map deD))) M
theorem Gu (vs:List V)(H:Hp)(Q:VK)(E:XK):cSp aPP vs H Q E->cSp GD vs H Q E:=Ks (fun xs M Q ⟨x,ms,h0,h1,h2,q⟩=>⟨x,ms,h0,h1,h2,fun p hp=>⟨_,_,jx (Fr.refl.mup hp _) hp ze (zJ _),q⟩⟩) vs H Q E
noncomputable abbrev Wr:Stmt:=top 18
theorem YK:zy ["marks"] ["marks"] (zj Wr):=⟨rfl,rfl,rfl,by decide +kernel,rfl,by decide +kernel,by decide +kernel⟩
theorem ER (a:At K mg "part_plan" Wr)(B:Blt mg)(D_part_stretch_o:Df P w K mg base "part_stretch" ["marks","begin","end"] 12 (cSp (Bc 8))):Df P w K mg base "part_plan" ["marks"] 13 (cSp GD):=by
 refine dfA (k:=12) a YK (fun _ _ _ _ _ _=>Pn1_ fun _=>rfl) (fun xs M Q h=>?_) (fun f cdv A outer s H E hr=>?_)
 ·obtain ⟨_,_,rfl,_⟩:=h;rfl
 have sc:=YK
 have hsl:=hsl
 refine ⟨_,(zh (zA (zO D_part_stretch_o hr rfl (za (pv 0) (za zd (za (zn zw rfl B.len qN (za (pv 0) zb)) zb)))))),?_⟩
 refine ex2 (by walk_at "sim") ?_
 rintro xs M Q ⟨x,ms,rfl,hx,hl,q⟩
 rw [show qi ["marks"] [x]=[some x] from rfl]
 walk_at "ra"
 refine ⟨_,hx,x,0,ms.length,ms,by rw [List.length_map];rfl,hx,by walk_at "o",by walk_at "o",by walk_at "o",by walk_at "o",by walk_at "o",fun p hp=>?_⟩
 exact ⟨_,_,xu (Fr.refl.mup hp _) hp ze (zJ _),q p hp⟩
noncomputable def cB:Option Int->Dat
 | none=>.lst []
 | some x=>.lst [.int x]
noncomputable def DO:De->Prop
 | .swap _ _=>False
 | _=>True
theorem yQ {R:List (Option Int)}{p:Nat}{c:Option Int}(h:R[p]?=some c):ixN ((R.map cB).map AV.d).length (p:Int)=some p/\atI ((R.map cB).map AV.d) (p:Int)=some (.d (cB c)):=by
 have hp:=(List.getElem?_eq_some_iff.mp h).1
 have e:ixN ((R.map cB).map AV.d).length (p:Int)=some p:=by rw [jD (by walk_at "o") (by rw [List.length_map,List.length_map];walk_at "o"),Int.toNat_natCast]
 refine ⟨e,?_⟩
 unfold atI
 rw [e]
 show ((R.map cB).map AV.d)[p]?=_
 rw [List.getElem?_map,List.getElem?_map,h];rfl
theorem wD {w:Str}{p:Int}{l:List Dat}:atI (((Dat.str w :: .int p :: l)).map AV.d) 1=some (.d (.int p)):=by
 unfold atI
 rw [jD (by walk_at "o") (by simp only [List.length_map,List.length_cons];walk_at "o")]
 rfl
theorem Dp {w:Str}{p g:Int}{l:List Dat}:atI (((Dat.str w :: .int p :: .int g :: l)).map AV.d) 2=some (.d (.int g)):=by
 unfold atI
 rw [jD (by walk_at "o") (by simp only [List.length_map,List.length_cons];walk_at "o")]
 rfl
theorem ZI (R:List (Option Int))(p:Nat)(c:Option Int):((R.map cB).map AV.d).set p (.d (cB c))=((R.set p c).map cB).map AV.d:=by rw [List.map_set,List.map_set]
theorem Vn {B M':MH}{D:jw}{pr:Addr}{R:List (Option Int)}{x0:Int}{p:Nat}{a0 a1 v w:Option AV}(hM:M' pr=some (.lst ((R.map cB).map .d)))(g1:R[p]?=some (some x0))
  (k:D.nx [a0,a1,some (.d (deD (.take p))),some (.ref pr),some (.d (cB (some x0))),v,w] (mup M' pr (.lst (((R.set p none).map cB).map .d)))) :
  yU (zQ (aFz (X5 ja)) (zQ (aFz (fOp Jn (zV 4) (aOp (aIx zN) (zV 3) (aOp (aIx zN) (zV 2) (aC (Dat.int 1)))))) ja)) 2 (qV (Ze (zV 3) (aOp (aIx zN) (zV 2) (aC (Dat.int 1))) asL) (qV (qM 4) yV)) B D [a0,a1,some (.d (deD (.take p))),some (.ref pr),some (.d (cB none)),v,w] M':=by
 have hsl:=hsl
 unfold yU deD
 walk_at "ra"
 refine ⟨_,wD (l:=[]),_,zX hM,_,rfl,_,(yQ g1).2,_,qO _ _,_,qO _ _,by simp only [List.length_map,List.length_cons,List.length_nil];walk_at "o",_,rfl,by walk_at "o",_,wD (l:=[]),_,_,rfl,hM,_,(yQ g1).1,?_⟩
 rw [show AV.d (.lst [])=AV.d (cB none) from rfl,ZI]
 exact k
theorem BX {B M':MH}{D:jw}{pr:Addr}{R:List (Option Int)}{x0:Int}{p:Nat}{a0 a1 v w:Option AV}(hM:M' pr=some (.lst ((R.map cB).map .d)))(g1:R[p]?=some none)
  (k:D.nx [a0,a1,some (.d (deD (.lay p))),some (.ref pr),some (.d (cB none)),v,w] (mup M' pr (.lst (((R.set p (some x0)).map cB).map .d)))) :
  yU (zQ (aFz (fOp Jn (aOp (aIx zN) (zV 3) (aOp (aIx zN) (zV 2) (aC (Dat.int 1)))) (zV 4))) (zQ (aFz (X5 ja)) ja)) 2 (qV (Ze (zV 3) (aOp (aIx zN) (zV 2) (aC (Dat.int 1))) asL) (qV (qM 4) yV)) B D [a0,a1,some (.d (deD (.lay p))),some (.ref pr),some (.d (cB (some x0))),v,w] M':=by
 have hsl:=hsl
 unfold yU deD
 walk_at "ra"
 refine ⟨_,wD (l:=[]),_,zX hM,_,rfl,_,(yQ g1).2,_,qO _ _,_,qO _ _,by simp only [List.length_map,List.length_cons,List.length_nil];walk_at "o",_,rfl,by walk_at "o",_,wD (l:=[]),_,_,rfl,hM,_,(yQ g1).1,?_⟩
 rw [show AV.d (.lst [Dat.int x0])=AV.d (cB (some x0)) from rfl,ZI]
 exact k
theorem Y4 {B M':MH}{D:jw}{pr:Addr}{R:List (Option Int)}{x0:Int}{p g:Nat}{a0 a1 h v w:Option AV}(hM:M' pr=some (.lst ((R.map cB).map .d)))(g1:R[p]?=some (some x0))(g2:R[g]?=some none)
  (k:D.nx [a0,a1,some (.d (deD (.move p g))),some (.ref pr),h,v,w] (mup M' pr (.lst ((((R.set p none).set g (some x0)).map cB).map .d)))) :
  yU (zQ (aFz (X5 ja)) (zQ (aFz (fOp Jn (aOp (aIx zN) (zV 3) (aOp (aIx zN) (zV 2) (aC (Dat.int 2)))) (aOp (aIx zN) (zV 3) (aOp (aIx zN) (zV 2) (aC (Dat.int 1)))))) ja)) 2 (qV (Ze (zV 3) (aOp (aIx zN) (zV 2) (aC (Dat.int 1))) asL) (qV (Ze (zV 3) (aOp (aIx zN) (zV 2) (aC (Dat.int 2))) asL) yV)) B D [a0,a1,some (.d (deD (.move p g))),some (.ref pr),h,v,w] M':=by
 have hsl:=hsl
 have g3:(R.set p none)[g]?=some none:=by
  rw [List.getElem?_set]
  split
  ·split
   ·rfl
   ·rename_i c1 c2;exact absurd (List.getElem?_eq_some_iff.mp g1).1 c2
  ·exact g2
 unfold yU deD
 walk_at "ra"
 refine ⟨_,Dp (l:=[]),_,zX hM,_,rfl,_,(yQ g2).2,_,wD (l:=[.int g]),_,zX hM,_,rfl,_,(yQ g1).2,_,qO _ _,_,qO _ _,by simp only [List.length_map,List.length_cons,List.length_nil];walk_at "o",_,rfl,by walk_at "o",_,wD (l:=[.int g]),_,_,rfl,hM,_,(yQ g1).1,_,Dp (l:=[]),?_⟩
 rw [show AV.d (.lst [])=AV.d (cB none) from rfl,ZI]
 refine ⟨_,_,rfl,ze,_,(yQ g3).1,?_⟩
 rw [show AV.d (.lst [Dat.int x0])=AV.d (cB (some x0)) from rfl,ZI]
 exact k
theorem ZD {M' : MH}{pr : Addr}{R : List (Option Int)}{h : Option Int}{a0 a1 a2 v w : Option AV}(hM : M' pr = some (.lst ((R.map cB).map .d)))(h0 : 0 < R.length)(hl : R.length <= 1000) :
    Tst (aOr (aB (aOp (aI0 fun i j => Dat.bl (decide (j < i))) (aCB Ac (zQ (zV 4) ja)) (aC (Dat.int 1))))
                (aB
                  (aOp (aI0 fun i j=>Dat.bl (decide (j<i)))
                    (aCB WG
                      (zQ (aFz (wL [5] (aiS (zV 3)) (qM 5) kB (jI (aCB Ac (zQ (zV 5) ja)))))
                        ja))
                    (aC (Dat.int 1))))) [a0,a1,a2,some (.ref pr),some (.d (cB h)),v,w] M' false:=fun Q q=>by
  have lc:∀ c:Option Int,∃ l,zN (.d (cB c)) M'=some l/\(l.length:Int)<=1:=fun c=>by
    cases c with
    | none=>exact ⟨_,rfl,by decide⟩
    | some x=>exact ⟨_,rfl,Int.le_refl 1⟩
  walk_at "ra"
  obtain ⟨l,e1,e2⟩:=lc h
  refine ⟨_,e1,?_⟩
  rw [if_neg (by walk_at "o")]
  refine ⟨_,zX hM,?_⟩
  rw [List.map_map]
  refine kg (fun o=>[a0,a1,a2,some (.ref pr),some (.d (cB h)),o,w]) _ (fun c=>.d (.int (if c.isSome=true then 1 else 0))) R ⟨_,rfl⟩ (by rw [<- List.map_map];exact zX hM) (by walk_at "o") (fun o c Q hc q=>?_) fun o=>?_
  · walk_at "ra"
    cases c with
    | none=>exact ⟨_,rfl,q _⟩
    | some x=>exact ⟨_,rfl,q _⟩
  · refine ⟨_,xg _ _,R.map fun c=>if c.isSome=true then 1 else 0,by rw [List.map_map,List.map_map];rfl,by rw [List.length_map];exact h0,fun m hm _=>?_⟩
    obtain ⟨c,_,rfl⟩:=List.mem_map.mp hm
    rw [decide_eq_false (by split <;> walk_at "o")]
    exact q
theorem xQ {α τ:Type}(R:τ->ASt)(g f:α->AV)(p:α->Bool)(xs:List α){ag:AG}{at_:AT}{ae:AE}{G:MH->Prop}{N:List AV->ASt->MH->Prop}{ρ:ASt}{M:MH}(h0:∃ o,ρ=R o)(hG:G M)(hl:xs.length<=100000)
  (hs:∀ (o:τ) (x:α) (Q:Option AV->ASt->MH->Prop),x ∈ xs->(∀ o',Q (if p x then some (f x) else none) (R o') M)->ag (g x) (R o) M fun ρ2 M2=>at_ ρ2 M2 fun b M3=>if b=true then ae ρ2 M3 fun y M4=>Q (some y) ρ2 M4 else Q none ρ2 M3)
  (hN:∀ o,N ((xs.filter p).map f) (R o) M):wm ag at_ (jI ae) G N (xs.map g) [] ρ M:=by
 have hsl:100000<sizeLine:=by rw [sizeLine_eq];decide
 refine ⟨fun i acc ρ' M'=>i<=xs.length/\acc=((xs.take i).filter p).map f/\M'=M/\∃ o,ρ'=R o,⟨Nat.zero_le _,rfl,rfl,h0⟩,?_,?_⟩
 ·rintro i z acc ρ' M' hx ⟨hi,rfl,rfl,o,rfl⟩
  rw [List.getElem?_map] at hx
  cases e0:xs[i]? with
  | none=>rw [e0] at hx;cases hx
  | some x=>
   rw [e0] at hx
   cases hx
   have hil:=(List.getElem?_eq_some_iff.mp e0).1
   have tk:xs.take (i+1)=xs.take i ++ [x]:=by rw [List.take_add_one,e0];rfl
   have hlen:(((xs.take i).filter p).map f).length<=i:=by
    rw [List.length_map]
    exact Nat.le_trans (List.length_filter_le _ _) (by rw [List.length_take];walk_at "o")
   refine ⟨hG,?_⟩
   refine hs o x (fun y ρ2 M3=>match y with | some y=>(((xs.take i).filter p).map f).length<sizeLine/\(i+1<=xs.length/\((xs.take i).filter p).map f ++ [y]=((xs.take (i+1)).filter p).map f/\M3=M'/\∃ o,ρ2=R o) | none=>i+1<=xs.length/\((xs.take i).filter p).map f=((xs.take (i+1)).filter p).map f/\M3=M'/\∃ o,ρ2=R o) (List.mem_of_getElem? e0) fun o'=>?_
   rw [tk,List.filter_append]
   cases e:p x with
   | true=>rw [if_pos rfl];exact ⟨by walk_at "o",hil,by rw [List.filter_cons_of_pos e,List.map_append];rfl,rfl,o',rfl⟩
   | false=>rw [if_neg (by decide)];exact ⟨hil,by rw [List.filter_cons_of_neg (by rw [e];decide),List.filter_nil,List.append_nil],rfl,o',rfl⟩
 ·rintro acc ρ' M' ⟨_,rfl,rfl,o,rfl⟩
  rw [List.length_map,List.take_length]
  exact ⟨hG,hN o⟩
noncomputable def F8:ASp:=fun xs M Q=>∃ (y:AV) (ts T:List Int) (ds:List De),xs=[.d (ilD ts),y]/\zN y M=some ((ds.map deD).map .d)/\jG ds (ts.map some,none) (T.map some,none)/\(∀ d ∈ ds,DO d)/\ts.length<=1000/\ds.length<=10000000/\Q (.d (ilD T)) M
noncomputable abbrev VG:Stmt:=top 29
theorem Y1:zy ["_law_things","_law_plan","_law_deed","_law_row","_law_hand","_law_some","_law_one"] ["_law_things","_law_plan"] (zj VG):=⟨rfl,rfl,rfl,by decide +kernel,rfl,by decide +kernel,by decide +kernel⟩
theorem FO (a:At K mg "_law_behind" VG)(B:Blt mg):Df P w K mg base "_law_behind" ["_law_things","_law_plan"] 1 (cSp F8):=by
 refine dfA (k:=0) a Y1 (fun _ _ _ _ _ _=>Pn2_ fun _ _=>rfl) (fun xs M Q h=>?_) (fun f cdv A outer s H E hr=>?_)
 ·obtain ⟨_,_,_,_,rfl,_⟩:=h;rfl
 have sc:=Y1
 have hsl:=hsl
 refine ⟨_,(zc (vY (i:=3) (j:=4) rfl sc.nd rfl rfl (by decide) rfl rfl (za (jt (qr (ts:=[6]) rfl rfl (jd (pv 0)) (fun _ _ _ _=>(zp (i:=6) sc.nd rfl (by first | exact Or.inl rfl | exact Or.inr rfl))) (fun _ _ _ _=>qk) (fun _ _ _ _=>(zR (za (pv 6) zb))))) (za (zR zb) zb)) rfl)
  (zc (jf PassesOwn.never rfl (jd (pv 1)) (zp (i:=2) sc.nd rfl (by first | exact Or.inl rfl | exact Or.inr rfl)) (zc (qu (zE (qw hr.units) (zG qB (pv 2) zd (fun _ _=>rfl)) jZ (zz _)) (zh (jO (qU (za (zR zb) (za (zm jC (pv 4) (zG qB (pv 3) (zG qB (pv 2) zd (fun _ _=>rfl)) (fun _ _=>rfl))) zb))) (jk (K:=K) 2 rfl rfl (zM (jr (pv 3) (zG qB (pv 2) zd (fun _ _=>rfl)) qg) (zM (zp (i:=4) sc.nd rfl (by first | exact Or.inl rfl | exact Or.inr rfl)) jj))))) zK)
  (zc (qu (zE (qw hr.units) (zG qB (pv 2) zd (fun _ _=>rfl)) jZ (zz _)) (zh (jO (qU (za (zR zb) (za (zm jC (zG qB (pv 3) (zG qB (pv 2) zd (fun _ _=>rfl)) (fun _ _=>rfl)) (zG qB (pv 3) (zG qB (pv 2) zd (fun _ _=>rfl)) (fun _ _=>rfl))) zb))) (jk (K:=K) 2 rfl rfl (zM (jr (pv 3) (zG qB (pv 2) zd (fun _ _=>rfl)) qg) (zM (jr (pv 3) (zG qB (pv 2) zd (fun _ _=>rfl)) qg) jj))))) zK)
  (zc (qu (zE (qw hr.units) (zG qB (pv 2) zd (fun _ _=>rfl)) jZ (zz _)) (zh (jO (qU (za (zm jC (zG qB (pv 3) (zG qB (pv 2) zd (fun _ _=>rfl)) (fun _ _=>rfl)) (pv 4)) (za (zR zb) zb))) (jk (K:=K) 2 rfl rfl (zM (jr (pv 3) (zG qB (pv 2) zd (fun _ _=>rfl)) qg) (zM (zp (i:=4) sc.nd rfl (by first | exact Or.inl rfl | exact Or.inr rfl)) jj))))) zK)
  (zh (qu (PW.pt (Qq (zE KU (zn zw rfl B.len qN (za (pv 4) zb)) zd (zz _)) (vD (zE KU (zn (JZ (K:=K) rfl rfl) rfl B.max JQ (za (qr (ts:=[5]) rfl rfl (jd (pv 3)) (fun _ _ _ _=>(zp (i:=5) sc.nd rfl (by first | exact Or.inl rfl | exact Or.inr rfl))) (fun _ _ _ _=>qk) (fun _ _ _ _=>(zn (wj (K:=K) rfl) rfl B.len qN (za (pv 5) zb)))) zb)) zd (zz _))))) (zh (zA vv)) zK))))))
  (zc (qu (zE (yB hr.units) (qr (ts:=[5]) rfl rfl (jd (pv 3)) (fun _ _ _ _=>(zp (i:=5) sc.nd rfl (by first | exact Or.inl rfl | exact Or.inr rfl))) (fun _ _ _ _=>vb (zE (qw hr.units) (pv 5) (zR zb) (zz _))) (fun _ _ _ _=>(pv 5))) (zR zb) (zz _)) (zh (zA vv)) zK)
  (zh (zA (qr (ts:=[5]) rfl rfl (jd (pv 3)) (fun _ _ _ _=>(zp (i:=5) sc.nd rfl (by first | exact Or.inl rfl | exact Or.inr rfl))) (fun _ _ _ _=>qk) (fun _ _ _ _=>(zG (yI (K:=K) rfl) (pv 5) zd (fun _ _=>rfl))))))))),?_⟩
 refine ex2 (by walk_at "sim") ?_
 rintro xs M Q ⟨y,ts,T,ds,rfl,hy,hd,hns,hl,hld,q⟩
 rw [show qi ["_law_things","_law_plan","_law_deed","_law_row","_law_hand","_law_some","_law_one"] [.d (ilD ts),y]=[some (.d (ilD ts)),some y,none,none,none,none,none] from rfl]
 refine zg fun r hr0=>?_
 walk_at "ra"
 refine kg (fun o=>[some (.d (ilD ts)),some y,none,none,none,none,o]) _ (fun t=>.d (cB (some t))) ts ⟨none,rfl⟩ trivial (by walk_at "o") (fun o t Q ht q=>?_) fun o pr hpr _=>?_
 ·walk_at "ra"
  exact ⟨by walk_at "o",q _⟩
 have e0:(ts.map fun t=>AV.d (cB (some t)))=((ts.map some).map cB).map AV.d:=by rw [List.map_map,List.map_map];rfl
 rw [e0]
 subst hr0
 refine zg fun r hr0=>?_
 walk_at "ra"
 have sy:∀ o,zN y (mup M pr o)=some ((ds.map deD).map .d):=fun o=>Ys hy hpr o
 refine ⟨_,sy _,?_⟩
 refine ⟨fun i ρ M'=>∃ (R:List (Option Int)) (h:Option Int) (u v w:Option AV),jG (ds.drop i) (R,h) (T.map some,none)/\R.length=ts.length/\ρ=[some (.d (ilD ts)),some y,u,some (.ref pr),some (.d (cB h)),v,w]/\M'=mup M pr (.lst ((R.map cB).map .d)),⟨ts.map some,none,_,_,_,hd,by rw [List.length_map],rfl,rfl⟩,?_,?_⟩
 ·rintro i x ρ M' hx ⟨R,h,u,v,w,hD,hR,rfl,rfl⟩
  rw [List.getElem?_map,List.getElem?_map] at hx
  obtain ⟨dd,hdd,rfl⟩:=Option.map_eq_some_iff.mp hx
  obtain ⟨d,hdi,rfl⟩:=Option.map_eq_some_iff.mp hdd
  have hil:=(List.getElem?_eq_some_iff.mp hdi).1
  have hdr:ds.drop i=d :: ds.drop (i+1):=by rw [List.drop_eq_getElem_cons hil,(List.getElem?_eq_some_iff.mp hdi).2]
  rw [hdr] at hD
  have nsw:=hns d (List.mem_of_getElem? hdi)
  refine ⟨by first | exact sy _ | trivial,?_⟩
  cases hD with
  | @cons _ _ _ t _ h1 h2=>
  show kW _ _ _ _ _ _
  cases h1 with
  | swap=>exact nsw.elim
  | @take p row x0 g1=>
   have hp:=(List.getElem?_eq_some_iff.mp g1).1
   refine Z0 (jP (tW (i:=2) rfl) (by decide)) (Vn ze g1 ?_)
   rw [jz]
   refine qY (jP (tW (i:=2) rfl) (by decide)) (qY (jP (tW (i:=2) rfl) (by decide)) (ZV (ZD ze (by rw [List.length_set];walk_at "o") (by rw [List.length_set];walk_at "o")) ?_))
   exact ⟨_,_,_,_,_,h2,by rw [List.length_set];exact hR,rfl,rfl⟩
  | @move p g row h0 x0 g1 g2=>
   have hp:=(List.getElem?_eq_some_iff.mp g1).1
   refine qY (jP (tW (i:=2) rfl) (by decide)) (Z0 (jP (tW (i:=2) rfl) (by decide)) (Y4 ze g1 g2 ?_))
   rw [jz]
   refine qY (jP (tW (i:=2) rfl) (by decide)) (ZV (ZD ze (by rw [List.length_set,List.length_set];walk_at "o") (by rw [List.length_set,List.length_set];walk_at "o")) ?_)
   exact ⟨_,_,_,_,_,h2,by rw [List.length_set,List.length_set];exact hR,rfl,rfl⟩
  | @lay g row x0 g1=>
   have hp:=(List.getElem?_eq_some_iff.mp g1).1
   refine qY (jP (tW (i:=2) rfl) (by decide)) (qY (jP (tW (i:=2) rfl) (by decide)) (Z0 (jP (tW (i:=2) rfl) (by decide)) (BX ze g1 ?_)))
   rw [jz]
   refine ZV (ZD ze (by rw [List.length_set];walk_at "o") (by rw [List.length_set];walk_at "o")) ?_
   exact ⟨_,_,_,_,_,h2,by rw [List.length_set];exact hR,rfl,rfl⟩
 ·rintro ρ M' ⟨R,h,u,v,w,hD,hR,rfl,rfl⟩
  rw [List.length_map,List.length_map,List.drop_length] at hD
  cases hD
  refine ⟨by first | exact sy _ | trivial,?_⟩
  subst hr0
  walk_at "ra"
  have er:((T.map some).map cB).map AV.d=T.map fun t=>AV.d (cB (some t)):=by rw [List.map_map,List.map_map];rfl
  rw [er]
  have lT:T.length<=1000:=by rw [List.length_map] at hR;walk_at "o"
  refine ⟨_,zX ze,?_⟩
  refine xQ (fun o=>[some (.d (ilD ts)),some y,u,some (.ref pr),some (.d (cB none)),o,w]) _ (fun t=>.d (cB (some t))) (fun _=>false) T ⟨_,rfl⟩ (zX ze) (by walk_at "o") (fun o t Q ht q=>?_) fun o=>?_
  ·walk_at "ra"
   refine ⟨Nat.le_trans (vf [t]) (by decide),by rw [dp];decide,?_⟩
   rw [if_neg (by simp [cB,eqD,xR])]
   exact q _
  rw [show T.filter (fun _=>false)=[] by simp]
  refine ⟨[],rfl,by rw [dp];decide,by rw [dp];decide,?_⟩
  rw [if_neg (by simp [eqD,xR])]
  refine ⟨_,zX ze,?_⟩
  refine kg (fun o=>[some (.d (ilD ts)),some y,u,some (.ref pr),some (.d (cB none)),o,w]) _ (fun t=>.d (.int t)) T ⟨_,rfl⟩ (zX ze) (by walk_at "o") (fun o t Q ht q=>?_) fun o=>?_
  ·walk_at "ra"
   exact ⟨_,rfl,_,rfl,q _⟩
  ·exact ⟨_,zI _,ZN (Fr.refl.mup hpr _) q⟩
noncomputable def Bt:Dat->Option (List Dat)
 | .lst l=>some l
 | .tup l=>some l
 | _=>none
theorem D2 {d:Dat}{l:List Dat}(h:Bt d=some l)(M:MH):zN (.d d) M=some (l.map .d):=by
 cases d with
 | lst m=>cases h;rfl
 | tup m=>cases h;rfl
 | _=>cases h
theorem vW {d:Dat}{os:List Int}(h:Bt d=some (os.map .int))(M:MH):zN (.d d) M=some (os.map fun i=>.d (.int i)):=by rw [D2 h,je]
noncomputable def Y8:ASp:=fun xs M Q=>∃ (dx:Dat) (n:Nat) (os:List Int),xs=[.d dx]/\Bt dx=some (os.map .int)/\zB n os/\n<=2000/\∀ bs p,qF os bs->M p=none->Q (.ref p) (mup M p (.lst (bs.map fun i=>AV.d (.int i))))
noncomputable abbrev Zr:Stmt:=top 6
theorem QT:zy ["order","back","place","goal"] ["order"] (zj Zr):=⟨rfl,rfl,rfl,by decide +kernel,rfl,by decide +kernel,by decide +kernel⟩
theorem V7 (a:At K mg "back_of" Zr)(B:Blt mg):Df P w K mg base "back_of" ["order"] 1 (cSp Y8):=by
 refine dfA (k:=0) a QT (fun _ _ _ _ _ _=>Pn1_ fun _=>rfl) (fun xs M Q h=>?_) (fun f cdv A outer s H E hr=>?_)
 ·obtain ⟨_,_,_,rfl,_⟩:=h;rfl
 have sc:=QT
 have hsl:=hsl
 refine ⟨_,(zc (zt (i:=1) sc.nd rfl (by first | exact Or.inl rfl | exact Or.inr rfl) (jt (zm wd (zR (za zd zb)) (zn zw rfl B.len qN (za (pv 0) zb)))))
  (zc (jf PassesOwn.never rfl (wA rfl B.enumerate (za (pv 0) zb)) (jk (K:=K) 2 rfl rfl (zM (zp (i:=2) sc.nd rfl (by first | exact Or.inl rfl | exact Or.inr rfl)) (zM (zp (i:=3) sc.nd rfl (by first | exact Or.inl rfl | exact Or.inr rfl)) jj))) (zh (jO (pv 2) (jr (pv 1) (pv 3) qg))))
  (zh (zA (pv 1))))),?_⟩
 refine ex2 (by walk_at "sim") ?_
 rintro xs M Q ⟨dx,n,os,rfl,hx,ho,hn,q⟩
 rw [show qi ["order","back","place","goal"] [.d dx]=[some (.d dx),none,none,none] from rfl]
 have h1:=ho.1
 refine zg fun r hr0=>?_
 walk_at "ra"
 refine ⟨by walk_at "o",_,vW hx M,by rw [List.length_map];walk_at "o",by rw [List.length_map];walk_at "o",by rw [List.length_map];walk_at "o",fun p hp _=>?_⟩
 rw [List.length_map,h1,Int.toNat_natCast,Vr]
 have hp1:=ze (M:=M) (a:=p) (o:=.lst (List.replicate n (AV.d (.int 0))))
 have f1:=(Fr.refl (M:=M)).mup hp (.lst (List.replicate n (AV.d (.int 0))))
 subst hr0
 refine zg fun r hr0=>?_
 walk_at "ra"
 refine ⟨_,vW hx _,_,zI _,?_⟩
 refine ⟨fun i ρ M'=>∃ u v bs,ρ=[some (.d dx),some (.ref p),u,v]/\M'=mup M p (.lst (bs.map fun i=>AV.d (.int i)))/\bs.length=n/\∀ j,j<i->bs.getD (os.getD j 0).toNat 0=(j:Int),⟨none,none,List.replicate n 0,rfl,by rw [List.map_replicate],by simp,fun j hj=>nomatch hj⟩,?_,?_⟩
 ·rintro i y ρ M' hy ⟨u,v,bs,rfl,rfl,lb,hj⟩
  refine ⟨vW hx _,?_⟩
  obtain ⟨d,hd,rfl⟩:=xB hy
  rw [List.getElem?_map] at hd
  cases e:os[i]? with
  | none=>rw [e] at hd;cases hd
  | some k=>
   rw [e] at hd
   cases hd
   have hi:=(List.getElem?_eq_some_iff.mp e).1
   have hk:os.getD i 0=k:=by rw [List.getD_eq_getElem?_getD,e];rfl
   have kb:=ho.2.2 k (List.mem_of_getElem? e)
   walk_at "ra"
   refine ⟨_,ze,k.toNat,by rw [List.length_map,jD kb.1 (by walk_at "o")],bs.set k.toNat (i:Int),?_,by rw [List.length_set];exact lb,fun j hj'=>?_⟩
   ·rw [List.map_set]
   ·rw [wa (by walk_at "o")]
    by_cases c:j=i
    ·subst c;rw [hk,if_pos rfl]
    ·rw [if_neg,hj j (by walk_at "o")]
     intro z
     have gj:=ho.getD (i:=j) (by walk_at "o")
     exact c (ho.inj (by walk_at "o") (by walk_at "o") (by rw [hk];walk_at "o"))
 ·rintro ρ M' ⟨u,v,bs,rfl,rfl,lb,hj⟩
  refine ⟨vW hx _,?_⟩
  subst hr0
  walk_at "ra"
  refine ⟨_,_,xu (Fr.refl.mup hp _) hp ze (zI _),q bs p ⟨by walk_at "o",fun i hi=>hj i ?_⟩ hp⟩
  simp only [j6,List.length_map]
  exact hi
noncomputable def glN (ks:List Int)(i:Nat):Nat:=(ks.filter fun x=>decide (x<ks.getD i 0)).length+(ks.take i).count (ks.getD i 0)
noncomputable def gl (ks:List Int):List Int:=(List.range ks.length).map fun i=>((glN ks i:Nat):Int)
theorem xT (ks:List Int):(gl ks).length=ks.length:=by unfold gl;rw [List.length_map,List.length_range]
theorem FA {ks:List Int}{i:Nat}(h:i<ks.length):(gl ks).getD i 0=(glN ks i:Nat):=by
 unfold gl
 rw [List.getD_eq_getElem?_getD,List.getElem?_map,List.getElem?_range h];rfl
noncomputable def ltX (x y:Int × Int):Bool:=decide (x.1<y.1) || (decide (x.1=y.1) && decide (x.2<y.2))
theorem Yr {qs:List (Int × Int)}(h:qs.Pairwise fun x y=>ltX x y=true){j:Nat}{z:Int × Int}(hj:qs[j]?=some z):qs.countP (fun x=>ltX x z)=j:=by
 induction qs generalizing j with
 | nil=>cases hj
 | cons a r ih=>
  obtain ⟨h1,h2⟩:=List.pairwise_cons.mp h
  cases j with
  | zero=>
   cases hj
   rw [List.countP_cons_of_neg (by unfold ltX;simp),List.countP_eq_zero]
   intro x hx
   have:=h1 x hx
   unfold ltX at this ⊢
   simp at this ⊢
   walk_at "o"
  | succ j=>
   have hj':r[j]?=some z:=hj
   have hz:=h1 z (List.mem_of_getElem? hj')
   rw [List.countP_cons_of_pos (p:=fun x=>ltX x z) hz,ih h2 hj']
theorem Xk (v:Int):∀ (ks:List Int) (a:Int) (i:Nat),i<=ks.length->(ks.zip (zr a 1 ks.length)).countP (fun x=>ltX x (v,a+i))=(ks.filter fun x=>decide (x<v)).length+(ks.take i).count v
 | [],a,i,_=>by simp
 | k :: r,a,i,h=>by
  have e:zr a 1 (k :: r).length=a :: zr (a+1) 1 r.length:=by
   show zr a 1 (r.length+1)=_
   unfold zr
   rw [List.range_succ_eq_map,List.map_cons,List.map_map]
   congr 1
   ·simp
   ·refine List.map_congr_left fun x _=>?_
    simp only [Function.comp_apply];push_cast;walk_at "o"
  rw [e,List.zip_cons_cons]
  cases i with
  | zero=>
   have h0:∀ (l:List Int) (b:Int),a<b->(l.zip (zr b 1 l.length)).countP (fun x=>ltX x (v,a+((0:Nat):Int)))=(l.filter fun x=>decide (x<v)).length:=by
    intro l
    induction l with
    | nil=>intro b _;simp
    | cons y l ih=>
     intro b hb
     have e:zr b 1 (y :: l).length=b :: zr (b+1) 1 l.length:=by
      show zr b 1 (l.length+1)=_
      unfold zr
      rw [List.range_succ_eq_map,List.map_cons,List.map_map]
      congr 1
      ·simp
      ·refine List.map_congr_left fun x _=>?_
       simp only [Function.comp_apply];push_cast;walk_at "o"
     rw [e,List.zip_cons_cons]
     have ih':=ih (b+1) (by walk_at "o")
     by_cases c:y<v
     ·rw [List.countP_cons_of_pos (by unfold ltX;simp [c]),List.filter_cons_of_pos (by simpa using c),ih'];rfl
     ·rw [List.countP_cons_of_neg (by unfold ltX;simp;walk_at "o"),List.filter_cons_of_neg (by simpa using c),ih']
   have h1:=h0 r (a+1) (by walk_at "o")
   rw [List.take_zero,List.count_nil]
   by_cases c:k<v
   ·rw [List.countP_cons_of_pos (by unfold ltX;simp [c]),List.filter_cons_of_pos (by simpa using c),h1];rfl
   ·rw [List.countP_cons_of_neg (by unfold ltX;simp;walk_at "o"),List.filter_cons_of_neg (by simpa using c),h1];rfl
  | succ i=>
   have ih:=Xk v r (a+1) i (by simpa using h)
   rw [show a+((i+1:Nat):Int)=a+1+(i:Int) by walk_at "o"]
   rw [List.take_succ_cons,List.count_cons]
   by_cases c:k<v
   ·rw [List.countP_cons_of_pos (by unfold ltX;simp [c]),List.filter_cons_of_pos (by simpa using c),ih,if_neg (by simp;walk_at "o"),List.length_cons];walk_at "o"
   ·by_cases c2:k=v
    ·rw [List.countP_cons_of_pos (by unfold ltX;simp [c2];walk_at "o"),List.filter_cons_of_neg (by simpa using c),ih,if_pos (by simpa using c2)];walk_at "o"
    ·rw [List.countP_cons_of_neg (by unfold ltX;simp;walk_at "o"),List.filter_cons_of_neg (by simpa using c),ih,if_neg (by simpa using c2),Nat.add_zero]
theorem AX {ks:List Int}{z:Int × Int}(h:z ∈ ks.zip (zr 0 1 ks.length)):∃ i:Nat,i<ks.length/\z=(ks.getD i 0,(i:Int)):=by
 obtain ⟨i,hi⟩:=List.mem_iff_getElem?.mp h
 rw [List.getElem?_zip_eq_some] at hi
 obtain ⟨h1,h2⟩:=hi
 have hl:=(List.getElem?_eq_some_iff.mp h1).1
 refine ⟨i,hl,?_⟩
 have e2:z.2=(i:Int):=by
  unfold zr at h2
  rw [List.getElem?_map,List.getElem?_range hl] at h2
  have:=Option.some.inj h2
  rw [<- this];simp
 have e1:z.1=ks.getD i 0:=by rw [List.getD_eq_getElem?_getD,h1];rfl
 rw [<- e1,<- e2]
theorem JT {ks : List Int}{qs : List (Int × Int)}(hp : qs.Perm (ks.zip (zr 0 1 ks.length)))(hw : qs.Pairwise fun x y : Int × Int => x.1 < y.1 \/ (x.1 = y.1 /\ x.2 <= y.2)) :
    zB ks.length (qs.map (·.2))/\∀ bs,qF (qs.map (·.2)) bs->bs=gl ks:=by
  have pm:(qs.map (·.2)).Perm (zr 0 1 ks.length):=by
    have:=hp.map (·.2)
    rwa [List.map_snd_zip (by rw [zv];exact Nat.le_refl _)] at this
  have rn:(zr 0 1 ks.length).Nodup:=by
    unfold zr
    rw [List.nodup_iff_pairwise_ne,List.pairwise_map]
    exact List.pairwise_lt_range.imp fun h=>by walk_at "o"
  have nd:(qs.map (·.2)).Nodup:=pm.nodup_iff.mpr rn
  have ho:zB ks.length (qs.map (·.2)):=⟨by rw [pm.length_eq,zv],nd,fun x hx=>by
    have:=pm.mem_iff.mp hx
    unfold zr at this
    obtain ⟨i,hi,rfl⟩:=List.mem_map.mp this
    have:=List.mem_range.mp hi
    walk_at "o"⟩
  refine ⟨ho,fun bs hb=>?_⟩
  have hs:qs.Pairwise fun x y=>ltX x y=true:=by
    have nd':qs.Pairwise fun x y=>x.2 ≠ y.2:=by
      have:=List.nodup_iff_pairwise_ne.mp nd
      rwa [List.pairwise_map] at this
    refine (hw.and nd').imp fun ⟨h1,h2⟩=>?_
    unfold ltX
    simp
    walk_at "o"
  have lq:qs.length=ks.length:=by rw [hp.length_eq,List.length_zip,zv,Nat.min_self]
  have lb:bs.length=ks.length:=by have:=hb.1;rw [List.length_map] at this;walk_at "o"
  refine List.ext_getElem? fun i=>?_
  by_cases hi:i<ks.length
  · obtain ⟨j, hj⟩ := List.mem_iff_getElem?.mp (pm.mem_iff.mpr (show (i : Int) ∈ zr 0 1 ks.length by
      unfold zr
      exact List.mem_map.mpr ⟨i,List.mem_range.mpr hi,by simp⟩))
    rw [List.getElem?_map] at hj
    cases hq:qs[j]? with
    | none=>rw [hq] at hj;cases hj
    | some z=>
      rw [hq] at hj
      have z2:z.2=(i:Int):=Option.some.inj hj
      have hjl:=(List.getElem?_eq_some_iff.mp hq).1
      obtain ⟨i',hi',ez⟩:=AX (hp.mem_iff.mp (List.mem_of_getElem? hq))
      have:i'=i:=by rw [ez] at z2;have:((i':Nat):Int)=(i:Int):=z2;walk_at "o"
      subst this
      have c1:=Yr hs hq
      have c2:=Xk (ks.getD i' 0) ks 0 i' (by walk_at "o")
      rw [Int.zero_add] at c2
      rw [hp.countP_eq,ez,c2] at c1
      have b1:=hb.2 j (by rw [List.length_map];exact hjl)
      rw [List.getD_eq_getElem?_getD (l:=qs.map _),List.getElem?_map,hq] at b1
      have e3:((Option.map (fun x:Int × Int=>x.2) (some z)).getD 0).toNat=i':=by
        show z.2.toNat=i'
        rw [z2];walk_at "o"
      rw [e3] at b1
      rw [List.getElem?_eq_getElem (by walk_at "o"),List.getElem?_eq_getElem (by rw [xT];walk_at "o")]
      have g1:=FA hi'
      rw [List.getD_eq_getElem?_getD,List.getElem?_eq_getElem (by walk_at "o")] at b1
      rw [List.getD_eq_getElem?_getD,List.getElem?_eq_getElem (by rw [xT];walk_at "o")] at g1
      have b2:bs[i']=(j:Int):=b1
      have g2:(gl ks)[i']'(by rw [xT];walk_at "o")=(glN ks i':Nat):=g1
      rw [b2,g2]
      unfold glN
      rw [c1]
  · rw [List.getElem?_eq_none (by walk_at "o"),List.getElem?_eq_none (by rw [xT];walk_at "o")]
noncomputable def Gf (R:Array Value->Addr->Obj->Prop)(T:Addr):ASp:=fun xs M Q=>∃ (x:AV) (ks:List Int),xs=[x]/\zN x M=some (ks.map fun i=>.d (.int i))/\ks.length<=1000/\M T=some (.tb R)/\∀ p,M p=none->Q (.ref p) (mup M p (.lst ((gl ks).map fun i=>AV.d (.int i))))
noncomputable abbrev Wz:Stmt:=top 16
theorem Vv:zy ["kinds","row"] ["kinds"] (zj Wz):=⟨rfl,rfl,rfl,by decide +kernel,rfl,by decide +kernel,by decide +kernel⟩
noncomputable abbrev RG:Array Value->Addr->Obj->Prop:=X4 (⟨63,40,63,66⟩:Pos) ((("gather_order":Str) ++ ".<locals>.") ++ "<lambda>")
theorem EM {c T:Addr}(a:AtC K mg "gather_order" Wz c)(B:Blt mg)(L:wV mg base c T)(D_back_of:Df P w K mg base "back_of" ["order"] 1 (cSp Y8)):Df P w K mg base "gather_order" ["kinds"] 4 (cSp (Gf RG T)):=by
 refine GU (k:=3) a Vv (fun _ _ _ _ _ _=>Pn1_ fun _=>rfl) (fun xs M Q h=>?_) (fun f A outer s H E hr=>?_)
 ·obtain ⟨_,_,rfl,_⟩:=h;rfl
 have sc:=Vv
 have hsl:=hsl
 refine ⟨_,(zc (zt (i:=1) sc.nd rfl (by first | exact Or.inl rfl | exact Or.inr rfl) (WH (i:=0) (k:=1) (P:=T) hr rfl B.sorted (za (zS xf rfl B.range vM (za (zn zw rfl B.len qN (za (pv 0) zb)) zb)) zb) rfl rfl rfl L.ch L.bh L.gp rfl rfl rfl rfl rfl (fun _ _ _ _ _ _ _=>rfl) (by decide) (by decide) (by decide) (by decide) (fun _ _=>rfl)))
  (zh (zA (zO D_back_of (hr.mono (by decide)) rfl (za (pv 1) zb))))),?_⟩
 refine ex2 (by walk_at "sim") ?_
 rintro xs M Q ⟨x,ks,rfl,hx,hn,hT,q⟩
 rw [show qi ["kinds","row"] [x]=[some x,none] from rfl]
 refine zg fun r hr0=>?_
 walk_at "ra"
 refine ⟨_,hx,ks.length,by rw [List.length_map],ks,hx,rfl,hn,hT,fun qs hp hw=>?_⟩
 obtain ⟨ho,hb⟩:=JT hp hw
 subst hr0
 walk_at "ra"
 refine ⟨_,ks.length,qs.map (·.2),rfl,rfl,ho,by walk_at "o",fun bs p h1 h2=>?_⟩
 rw [hb bs h1]
 exact ⟨_,_,xu (Fr.refl.mup h2 _) h2 ze (zI _),q p h2⟩
noncomputable def F4:Dat->Bool
 | .non=>true | .bl _=>true | .int _=>true | .str _=>true
 | _=>false
noncomputable def Gb:ASp:=fun _ _ _=>False
noncomputable def Aa:ASp:=fun xs M Q=>∃ d:Dat,xs=[.d d]/\F4 d=true/\Q (.d d) M
noncomputable abbrev vd:Stmt:=top 4
theorem v0:zy ["thing","part"] ["thing"] (zj vd):=⟨rfl,rfl,rfl,by decide +kernel,rfl,by decide +kernel,by decide +kernel⟩
theorem Wc (a:At K mg "own_copy" vd)(B:Blt mg)(D_own_copy:Df P w K mg base "own_copy" ["thing"] 1 (cSp Gb)):Df P w K mg base "own_copy" ["thing"] 2 (cSp Aa):=by
 refine dfA (k:=1) a v0 (fun _ _ _ _ _ _=>Pn1_ fun _=>rfl) (fun xs M Q h=>?_) (fun f cdv A outer s H E hr=>?_)
 ·obtain ⟨_,rfl,_⟩:=h;rfl
 have sc:=v0
 have hsl:=hsl
 refine ⟨_,(zc (qu (kc (zn qJ rfl B.isinstance zD (za (pv 0) (za (qA (v:=.ty "list") rfl B.list jh rfl) zb))) (fun _=>rfl)) (zh (zA (qr (ts:=[1]) rfl rfl (jd (pv 0)) (fun _ _ _ _=>(zp (i:=1) sc.nd rfl (by first | exact Or.inl rfl | exact Or.inr rfl))) (fun _ _ _ _=>qk) (fun _ _ _ _=>(zO D_own_copy hr rfl (za (pv 1) zb)))))) zK)
  (zc (qu (kc (zn qJ rfl B.isinstance zD (za (pv 0) (za (qA (v:=.ty "tuple") rfl B.tuple kK rfl) zb))) (fun _=>rfl)) (zh (zA (zS xF rfl B.tuple kK (za (qr (ts:=[1]) rfl rfl (jd (pv 0)) (fun _ _ _ _=>(zp (i:=1) sc.nd rfl (by first | exact Or.inl rfl | exact Or.inr rfl))) (fun _ _ _ _=>qk) (fun _ _ _ _=>(zO D_own_copy hr rfl (za (pv 1) zb)))) zb)))) zK)
  (zh (zA (pv 0))))),?_⟩
 refine ex2 (by walk_at "sim") ?_
 rintro xs M Q ⟨d,rfl,hd,q⟩
 rw [show qi ["thing","part"] [.d d]=[some (.d d),none] from rfl]
 cases d with
 | non=>walk_at "ra";exact ZN Fr.refl q
 | bl b=>walk_at "ra";exact ZN Fr.refl q
 | int b=>walk_at "ra";exact ZN Fr.refl q
 | str b=>walk_at "ra";exact ZN Fr.refl q
 | _=>cases hd
theorem Xq (a:At K mg "own_copy" vd):Df P w K mg base "own_copy" ["thing"] 1 (cSp Gb):=
 kP (k:=0) a v0 (fun _ _ _ _ _ _=>Pn1_ fun _=>rfl) (fun vs H Q E h=>by obtain ⟨_,_,_,_,_,_,h,_⟩:=h;exact h.elim) (fun f cdv A outer s H vs Q E hr h=>by obtain ⟨_,_,_,_,_,_,h,_⟩:=h;exact h.elim)
noncomputable def YI (ts:List Dat)(os:List Int)(rs:List Dat):Prop:=rs.length=os.length/\∀ i,i<os.length->rs[(os.getD i 0).toNat]?=ts[i]?
noncomputable def Ds:ASp:=fun xs M Q=>∃ (n:Nat) (ts:List Dat) (os:List Int),xs=[.d (.lst ts),.d (ilD os)]/\ts.length=n/\(∀ t ∈ ts,F4 t=true)/\zB n os/\n<=1000/\∀ rs,YI ts os rs->Q (.d (.lst rs)) M
noncomputable def oDD:Option Dat->Dat
 | none=>.non
 | some d=>d
noncomputable abbrev Wk:Stmt:=top 5
theorem WL:zy ["things","order","row","place","thing"] ["things","order"] (zj Wk):=⟨rfl,rfl,rfl,by decide +kernel,rfl,by decide +kernel,by decide +kernel⟩
theorem EZ (a:At K mg "put" Wk)(B:Blt mg)(D_own_copy:Df P w K mg base "own_copy" ["thing"] 2 (cSp Aa)):Df P w K mg base "put" ["things","order"] 3 (cSp Ds):=by
 refine dfA (k:=2) a WL (fun _ _ _ _ _ _=>Pn2_ fun _ _=>rfl) (fun xs M Q h=>?_) (fun f cdv A outer s H E hr=>?_)
 ·obtain ⟨_,_,_,rfl,_⟩:=h;rfl
 have sc:=WL
 have hsl:=hsl
 refine ⟨_,(zc (qu (zE (yB hr.units) (zn zw rfl B.len qN (za (pv 0) zb)) (zn zw rfl B.len qN (za (pv 1) zb)) (zz _)) (zh YX) zK)
  (zc (zt (i:=2) sc.nd rfl (by first | exact Or.inl rfl | exact Or.inr rfl) (jt (zm wd (zR (za vv zb)) (zn zw rfl B.len qN (za (pv 1) zb)))))
  (zc (jf PassesOwn.never rfl (vH rfl B.zip (za (pv 1) (za (pv 0) zb))) (jk (K:=K) 2 rfl rfl (zM (zp (i:=3) sc.nd rfl (by first | exact Or.inl rfl | exact Or.inr rfl)) (zM (zp (i:=4) sc.nd rfl (by first | exact Or.inl rfl | exact Or.inr rfl)) jj))) (zh (jO (zO D_own_copy hr rfl (za (pv 4) zb)) (jr (pv 2) (pv 3) qg))))
  (zh (zA (pv 2)))))),?_⟩
 refine ex2 (by walk_at "sim") ?_
 rintro xs M Q ⟨n,ts,os,rfl,tl,tf,ho,hn,q⟩
 rw [show qi ["things","order","row","place","thing"] [.d (.lst ts),.d (ilD os)]=[some (.d (.lst ts)),some (.d (ilD os)),none,none,none] from rfl]
 have ol:=ho.1
 refine zg fun r hr0=>?_
 walk_at "ra"
 rw [if_neg (by walk_at "o")]
 subst hr0
 refine zg fun r hr0=>?_
 walk_at "ra"
 refine ⟨by walk_at "o",by walk_at "o",by walk_at "o",by walk_at "o",fun p hp _=>?_⟩
 rw [ol,Int.toNat_natCast,Vr]
 subst hr0
 refine zg fun r hr0=>?_
 walk_at "ra"
 refine ⟨os.map .int,ts,.inl ⟨(je os).symm,rfl⟩,?_⟩
 refine ⟨fun i ρ M'=>∃ u v cs,ρ=[some (.d (.lst ts)),some (.d (ilD os)),some (.ref p),u,v]/\M'=mup M p (.lst (cs.map fun c=>AV.d (oDD c)))/\cs.length=n/\∀ j,j<i->cs[(os.getD j 0).toNat]?=some ts[j]?,⟨none,none,List.replicate n none,rfl,by rw [List.map_replicate];rfl,by simp,fun j hj=>nomatch hj⟩,?_,?_⟩
 ·rintro i y ρ M' hy ⟨u,v,cs,rfl,rfl,lc,hj⟩
  refine ⟨trivial,?_⟩
  obtain ⟨d,e,h1,h2,rfl⟩:=kX hy
  rw [List.getElem?_map] at h1
  cases e1:os[i]? with
  | none=>rw [e1] at h1;cases h1
  | some k=>
   rw [e1] at h1
   cases h1
   have hi:=(List.getElem?_eq_some_iff.mp e1).1
   have hk:os.getD i 0=k:=by rw [List.getD_eq_getElem?_getD,e1];rfl
   have kb:=ho.2.2 k (List.mem_of_getElem? e1)
   walk_at "ra"
   refine ⟨_,rfl,tf e (List.mem_of_getElem? h2),_,ze,k.toNat,by rw [List.length_map,jD kb.1 (by walk_at "o")],cs.set k.toNat (some e),by rw [jz,List.map_set];rfl,by rw [List.length_set];exact lc,fun j hj'=>?_⟩
   rw [List.getElem?_set]
   by_cases c:j=i
   ·subst c;rw [hk,if_pos rfl,if_pos (by walk_at "o"),h2]
   ·rw [if_neg,hj j (by walk_at "o")]
    intro z
    have gj:=ho.getD (i:=j) (by walk_at "o")
    exact c (ho.inj (by walk_at "o") (by walk_at "o") (by rw [hk];walk_at "o"))
 ·rintro ρ M' ⟨u,v,cs,rfl,rfl,lc,hj⟩
  refine ⟨trivial,?_⟩
  rw [jE,List.length_map] at hj
  subst hr0
  walk_at "ra"
  refine ⟨_,_,jx (Fr.refl.mup hp _) hp ze (ds:=cs.map oDD) (xg _ _),q _ ⟨by rw [List.length_map];walk_at "o",fun i hi=>?_⟩⟩
  have:=hj i (by walk_at "o")
  rw [List.getElem?_map,this]
  have:i<ts.length:=by walk_at "o"
  rw [List.getElem?_eq_getElem this];rfl
theorem DoE.ren (f:Int->Int){d:De}{s t:ES}(h:DoE d s t):DoE d (s.1.map (Option.map f),s.2.map f) (t.1.map (Option.map f),t.2.map f):=by
 cases h with
 | swap ne h1 h2=>simp only [List.map_set,Option.map_some];exact .swap ne (by rw [List.getElem?_map,h1];rfl) (by rw [List.getElem?_map,h2];rfl)
 | take h1=>simp only [List.map_set,Option.map_some,Option.map_none];exact .take (by rw [List.getElem?_map,h1];rfl)
 | move h1 h2=>simp only [List.map_set,Option.map_some,Option.map_none];exact .move (by rw [List.getElem?_map,h1];rfl) (by rw [List.getElem?_map,h2];rfl)
 | lay h1=>simp only [List.map_set,Option.map_some,Option.map_none];exact .lay (by rw [List.getElem?_map,h1];rfl)
theorem jG.ren (f:Int->Int){l:List De}{s t:ES}(h:jG l s t):jG l (s.1.map (Option.map f),s.2.map f) (t.1.map (Option.map f),t.2.map f):=by
 induction h with
 | nil=>exact .nil
 | cons d _ ih=>exact .cons (d.ren f) ih
noncomputable def spl (p:Int->Int)(l:List Int):List Int:=l.filter (fun x=>decide (p x=0)) ++ l.filter (fun x=>decide (p x=1))
theorem Zw (f p:Int->Int)(l:List Int):(spl (fun x=>p (f x)) l).map f=spl p (l.map f):=by
 unfold spl
 rw [List.map_append,List.filter_map,List.filter_map];rfl
theorem vI {p:Int->Int}{l:List Int}(h:∀ x ∈ l,p x=0 \/ p x=1):(spl p l).Perm l:=by
 have e:l.filter (fun x=>decide (p x=1))=l.filter (fun x=>!decide (p x=0)):=List.filter_congr fun x hx=>by
  rcases h x hx with z | z <;> simp [z]
 unfold spl
 rw [e]
 exact List.filter_append_perm _ _
theorem ym (row:List Int):(zr 0 1 row.length).map (fun x=>row.getD x.toNat 0)=row:=Kw row.length _ rfl fun i _=>by rw [Int.toNat_natCast]
theorem GR {y:Int}(h:y=0 \/ y=1):(!(y == 0))=decide (y=1):=by rcases h with rfl | rfl <;> rfl
theorem BU {row:List Int}{g:Int->Int}{n:Nat}(hn:row.length=n)(h2:n<=256)(hg:∀ x ∈ row,g x=0 \/ g x=1):jG (prt (row.map g) 8 0 n) (row.map some,none) ((spl g row).map some,none):=by
 have l1:(row.map g).length=n:=by rw [List.length_map];exact hn
 have h:=J7 (row.map g) (fun x hx=>by obtain ⟨y,hy,rfl⟩:=List.mem_map.mp hx;exact hg y hy) 8 0 n [] (zr 0 1 n) [] (by walk_at "o") rfl (by rw [List.nil_append,zv]) (by
  rw [List.drop_zero,List.take_of_length_le (by walk_at "o")]
  have:=ym (row.map g)
  rw [l1] at this
  exact this)
 rw [List.nil_append,List.append_nil,List.nil_append,List.append_nil] at h
 have h3:=h.ren fun x=>row.getD x.toNat 0
 have mm:∀ l:List Int,(l.map some).map (Option.map fun x:Int=>row.getD x.toNat 0)=(l.map fun x:Int=>row.getD x.toNat 0).map some:=fun l=>by rw [List.map_map,List.map_map];rfl
 simp only [mm,Option.map_none] at h3
 have rg:=ym row
 rw [hn] at rg
 rw [rg] at h3
 have gd:∀ x ∈ zr 0 1 n,(row.map g).getD x.toNat 0=g (row.getD x.toNat 0):=fun x hx=>by
  unfold zr at hx
  obtain ⟨i,hi,rfl⟩:=List.mem_map.mp hx
  have hi:=List.mem_range.mp hi
  have e:((0:Int)+(i:Int) * 1).toNat=i:=by walk_at "o"
  rw [e,List.getD_eq_getElem?_getD,List.getElem?_map,List.getD_eq_getElem?_getD,List.getElem?_eq_getElem (by walk_at "o")];rfl
 have mem:∀ x ∈ zr 0 1 n,row.getD x.toNat 0 ∈ row:=fun x hx=>by
  unfold zr at hx
  obtain ⟨i,hi,rfl⟩:=List.mem_map.mp hx
  have hi:=List.mem_range.mp hi
  have e:((0:Int)+(i:Int) * 1).toNat=i:=by walk_at "o"
  rw [e,List.getD_eq_getElem?_getD,List.getElem?_eq_getElem (by walk_at "o")];exact List.getElem_mem _
 have e3:((zr 0 1 n).filter (fun x=>(row.map g).getD x.toNat 0 == 0) ++ (zr 0 1 n).filter (fun x=>!((row.map g).getD x.toNat 0 == 0))).map (fun x:Int=>row.getD x.toNat 0)=spl g row:=by
  have e4:spl g row=(spl (fun x=>g (row.getD x.toNat 0)) (zr 0 1 n)).map fun x:Int=>row.getD x.toNat 0:=by
   rw [Zw (fun x:Int=>row.getD x.toNat 0) g,rg]
  rw [e4]
  unfold spl
  congr 2
  ·exact List.filter_congr fun x hx=>by rw [gd x hx];rfl
  ·refine List.filter_congr fun x hx=>?_
   rw [gd x hx]
   exact GR (hg _ (mem x hx))
 rw [e3] at h3
 exact h3
noncomputable def pw:Nat->Int
 | 0=>1 | 1=>2 | 2=>4 | _=>8
noncomputable def bit (i:Nat)(k:Int):Int:=k / pw i % 2
theorem Xl (i:Nat)(k:Int):bit i k=0 \/ bit i k=1:=by unfold bit;walk_at "o"
noncomputable def qy (ks:List Int):Nat->List Int
 | 0=>ks
 | i+1=>spl (bit i) (qy ks i)
noncomputable def kAt (ks:List Int)(x:Int):Int:=ks.getD x.toNat 0
noncomputable def yf (ks:List Int):Nat->List Int
 | 0=>zr 0 1 ks.length
 | i+1=>spl (fun x=>bit i (kAt ks x)) (yf ks i)
noncomputable def jv (ks:List Int):Nat->List De
 | 0=>[]
 | i+1=>jv ks i ++ prt ((qy ks i).map (bit i)) 8 0 ks.length
theorem Ku (ks:List Int):∀ i,qy ks i=(yf ks i).map (kAt ks)
 | 0=>(ym ks).symm
 | i+1=>by
  show spl (bit i) (qy ks i)=(spl (fun x=>bit i (kAt ks x)) (yf ks i)).map (kAt ks)
  rw [Ku ks i,Zw (kAt ks) (bit i)]
theorem vC (ks:List Int):∀ i,(yf ks i).Perm (zr 0 1 ks.length)
 | 0=>.refl _
 | i+1=>(vI fun x _=>Xl i _).trans (vC ks i)
theorem yb (ks:List Int):∀ i,(qy ks i).Perm ks
 | 0=>.refl _
 | i+1=>(vI fun x _=>Xl i _).trans (yb ks i)
theorem K3 {ks:List Int}(h2:ks.length<=256):∀ i,jG (jv ks i) ((zr 0 1 ks.length).map some,none) ((yf ks i).map some,none)
 | 0=>.nil
 | i+1=>by
  refine (K3 h2 i).append ?_
  rw [Ku,List.map_map]
  exact BU (g:=fun x=>bit i (kAt ks x)) (by rw [(vC ks i).length_eq,zv]) h2 fun x _=>Xl i _
theorem xo {ks:List Int}(h2:ks.length<=256):∀ i,(jv ks i).length<=18000 * i
 | 0=>Nat.le_refl _
 | i+1=>by
  have h:=xo h2 i
  have hl:=(yb ks i).length_eq
  have:=kr ((qy ks i).map (bit i)) 8 0 ks.length (by walk_at "o") (by rw [List.length_map];walk_at "o") (by rw [List.length_map];walk_at "o") (by walk_at "o")
  show (jv ks i ++ _).length<=_
  rw [List.length_append];walk_at "o"
theorem K1 (ks:List Int):∀ i,i<=3->(yf ks i).Pairwise fun x y=>kAt ks x % pw i<kAt ks y % pw i \/ (kAt ks x % pw i=kAt ks y % pw i/\x<y)
 | 0,_=>by
  show (zr 0 1 ks.length).Pairwise _
  unfold zr
  rw [List.pairwise_map]
  refine List.pairwise_lt_range.imp fun h=>.inr ⟨by show _ % 1=_ % 1;walk_at "o",by walk_at "o"⟩
 | i+1,h=>by
  have ih:=K1 ks i (by walk_at "o")
  show (spl _ _).Pairwise _
  unfold spl
  have st:∀ b c:Int,bit i b=bit i c->b % pw i<c % pw i->b % pw (i+1)<c % pw (i+1):=fun b c h1 h2=>by
   unfold bit at h1
   match i,h with
   | 0,_=>simp only [pw] at h1 h2 ⊢;walk_at "o"
   | 1,_=>simp only [pw] at h1 h2 ⊢;walk_at "o"
   | 2,_=>simp only [pw] at h1 h2 ⊢;walk_at "o"
  have se:∀ b c:Int,bit i b=bit i c->b % pw i=c % pw i->b % pw (i+1)=c % pw (i+1):=fun b c h1 h2=>by
   unfold bit at h1
   match i,h with
   | 0,_=>simp only [pw] at h1 h2 ⊢;walk_at "o"
   | 1,_=>simp only [pw] at h1 h2 ⊢;walk_at "o"
   | 2,_=>simp only [pw] at h1 h2 ⊢;walk_at "o"
  have sx:∀ b c:Int,bit i b=0->bit i c=1->b % pw (i+1)<c % pw (i+1):=fun b c h1 h2=>by
   unfold bit at h1 h2
   match i,h with
   | 0,_=>simp only [pw] at h1 h2 ⊢;walk_at "o"
   | 1,_=>simp only [pw] at h1 h2 ⊢;walk_at "o"
   | 2,_=>simp only [pw] at h1 h2 ⊢;walk_at "o"
  have half:∀ v:Int,((yf ks i).filter fun x=>decide (bit i (kAt ks x)=v)).Pairwise fun x y=>kAt ks x % pw (i+1)<kAt ks y % pw (i+1) \/ (kAt ks x % pw (i+1)=kAt ks y % pw (i+1)/\x<y):=fun v=>by
   refine List.Pairwise.imp_of_mem (fun {x y} hx hy h=>?_) (ih.filter _)
   have bx:=of_decide_eq_true (List.mem_filter.mp hx).2
   have by':=of_decide_eq_true (List.mem_filter.mp hy).2
   rcases h with h | ⟨h,l⟩
   ·exact .inl (st _ _ (bx.trans by'.symm) h)
   ·exact .inr ⟨se _ _ (bx.trans by'.symm) h,l⟩
  refine List.pairwise_append.mpr ⟨half 0,half 1,fun x hx y hy=>.inl (sx _ _ (of_decide_eq_true (List.mem_filter.mp hx).2) (of_decide_eq_true (List.mem_filter.mp hy).2))⟩
theorem FZ (f:Int->Int):∀ l:List Int,(l.map f).zip l=l.map fun x=>(f x,x)
 | []=>rfl
 | a :: r=>by rw [List.map_cons,List.zip_cons_cons,FZ f r];rfl
theorem Qj {ks row:List Int}(hp:row.Perm (zr 0 1 ks.length))(hs:row.Pairwise fun x y=>kAt ks x<kAt ks y \/ (kAt ks x=kAt ks y/\x<y)):zB ks.length row/\qF row (gl ks):=by
 have e:(row.map fun x=>(kAt ks x,x)).Perm (ks.zip (zr 0 1 ks.length)):=by
  have h:=hp.map fun x=>(kAt ks x,x)
  have rg:(zr 0 1 ks.length).map (kAt ks)=ks:=ym ks
  have z:=FZ (kAt ks) (zr 0 1 ks.length)
  rw [rg] at z
  rw [z]
  exact h
 have m2:(row.map fun x=>(kAt ks x,x)).map (·.2)=row:=by rw [List.map_map];exact List.map_id' row
 have ok:=JT e (by rw [List.pairwise_map];exact hs.imp fun h=>h.imp id fun h=>⟨h.1,by show _<=_;walk_at "o"⟩)
 rw [m2] at ok
 refine ⟨ok.1,?_⟩
 obtain ⟨bs,hb⟩:=KM ok.1
 rw [<- ok.2 bs hb]
 exact hb
theorem Yh {ks:List Int}(hk:∀ k ∈ ks,0<=k/\k<8):zB ks.length (yf ks 3)/\qF (yf ks 3) (gl ks):=by
 have kb:∀ x,0<=kAt ks x/\kAt ks x<8:=fun x=>by
  unfold kAt
  rw [List.getD_eq_getElem?_getD]
  cases e:ks[x.toNat]? with
  | none=>exact ⟨by decide,by decide⟩
  | some k=>exact hk k (List.mem_of_getElem? e)
 refine Qj (vC ks 3) ((K1 ks 3 (by walk_at "o")).imp fun {x y} h=>?_)
 have:=kb x
 have:=kb y
 simp only [pw] at h
 walk_at "o"
noncomputable def Du (R:Array Value->Addr->Obj->Prop)(T:Addr):ASp:=fun xs M Q=>∃ (x:AV) (ks:List Int),xs=[x]/\zN x M=some (ks.map fun i=>.d (.int i))/\ks.length<=1000/\M T=some (.tb R)/\Q (.d (ilD (gl ks))) M
theorem AC {R:Array Value->Addr->Obj->Prop}{T:Addr}(vs:List V)(H:Hp)(Q:VK)(E:XK)(h:cSp (Du R T) vs H Q E):cSp (Gf R T) vs H Q E:=by
 obtain ⟨xs,M,O,Q',w,r,⟨x,ks,rfl,h1,h2,h3,q⟩,kk⟩:=h
 refine ⟨[x],M,O,fun y M'=>∃ p,M p=none/\y=.ref p/\M'=mup M p (.lst ((gl ks).map fun i=>AV.d (.int i))),w,r,⟨x,ks,rfl,h1,h2,h3,fun p hp=>⟨p,hp,rfl,rfl⟩⟩,?_⟩
 rintro y M' v H' O' ⟨p,hp,rfl,rfl⟩ x' w' r'
 obtain ⟨O'',w2,k2,r2⟩:=yz w w' x' r' (jx (Fr.refl.mup hp _) hp ze (zI _))
 exact kk _ _ _ _ _ q k2 w2 r2
theorem Yf (i:Nat):0<pw i/\pw i<1073741824:=by
 match i with
 | 0=>exact ⟨by decide,by decide⟩
 | 1=>exact ⟨by decide,by decide⟩
 | 2=>exact ⟨by decide,by decide⟩
 | _+3=>exact ⟨show (0:Int)<8 by decide,show (8:Int)<1073741824 by decide⟩
theorem Eg (ks:List Int):zB ks.length (gl ks):=by
 obtain ⟨qs,hp,hw⟩:∃ qs:List (Int × Int),qs.Perm (ks.zip (zr 0 1 ks.length))/\qs.Pairwise fun x y:Int × Int=>x.1<y.1 \/ (x.1=y.1/\x.2<=y.2):=by
  refine ⟨(ks.zip (zr 0 1 ks.length)).mergeSort fun x y=>decide (x.1<y.1 \/ (x.1=y.1/\x.2<=y.2)),List.mergeSort_perm _ _,?_⟩
  have:=List.pairwise_mergeSort (le:=fun x y:Int × Int=>decide (x.1<y.1 \/ (x.1=y.1/\x.2<=y.2))) (fun a b c h1 h2=>by simp at h1 h2 ⊢;walk_at "o") (fun a b=>by simp;walk_at "o") (ks.zip (zr 0 1 ks.length))
  exact this.imp fun h=>of_decide_eq_true h
 obtain ⟨ho,hb⟩:=JT hp hw
 obtain ⟨bs,h⟩:=KM ho
 rw [<- hb bs h]
 exact h.ord ho
theorem Bb {row ms:List Int}{g:Int->Int}(hm:ms=row.map g)(hg:∀ x ∈ row,g x=0 \/ g x=1){rs:List Dat}(h:YI (row.map .int) (gl ms) rs):rs=(spl g row).map .int:=by
 have lm:ms.length=row.length:=by rw [hm,List.length_map]
 have hs:(spl (kAt ms) (zr 0 1 ms.length)).Pairwise fun x y=>kAt ms x<kAt ms y \/ (kAt ms x=kAt ms y/\x<y):=by
  have ri:(zr 0 1 ms.length).Pairwise fun x y=>x<y:=by
   unfold zr
   rw [List.pairwise_map]
   exact List.pairwise_lt_range.imp fun h=>by walk_at "o"
  unfold spl
  have half:∀ v:Int,((zr 0 1 ms.length).filter fun x=>decide (kAt ms x=v)).Pairwise fun x y=>kAt ms x<kAt ms y \/ (kAt ms x=kAt ms y/\x<y):=fun v=>by
   refine List.Pairwise.imp_of_mem (fun {x y} hx hy h=>?_) (ri.filter _)
   have bx:=of_decide_eq_true (List.mem_filter.mp hx).2
   have by':=of_decide_eq_true (List.mem_filter.mp hy).2
   exact .inr ⟨bx.trans by'.symm,h⟩
  refine List.pairwise_append.mpr ⟨half 0,half 1,fun x hx y hy=>.inl ?_⟩
  rw [of_decide_eq_true (List.mem_filter.mp hx).2,of_decide_eq_true (List.mem_filter.mp hy).2];decide
 have rg:∀ l:List Int,(zr 0 1 l.length).map (kAt l)=l:=fun l=>ym l
 have k01:∀ x ∈ zr 0 1 ms.length,kAt ms x=0 \/ kAt ms x=1:=fun x hx=>by
  have:kAt ms x ∈ ms:=by
   have h1:=List.mem_map_of_mem (f:=kAt ms) hx
   rwa [rg] at h1
  rw [hm] at this
  obtain ⟨y,hy,e⟩:=List.mem_map.mp this
  rw [hm,<- e];exact hg y hy
 obtain ⟨ho,hb⟩:=Qj (vI k01) hs
 have e1:(spl (kAt ms) (zr 0 1 ms.length)).map (kAt row)=spl g row:=by
  have e2:spl (kAt ms) (zr 0 1 ms.length)=spl (fun x=>g (kAt row x)) (zr 0 1 ms.length):=by
   have cg:∀ x ∈ zr 0 1 ms.length,kAt ms x=g (kAt row x):=fun x hx=>by
    unfold zr at hx
    obtain ⟨i,hi,rfl⟩:=List.mem_map.mp hx
    have hi:=List.mem_range.mp hi
    have e:((0:Int)+(i:Int) * 1).toNat=i:=by walk_at "o"
    unfold kAt
    rw [e,hm,List.getD_eq_getElem?_getD,List.getElem?_map,List.getD_eq_getElem?_getD,List.getElem?_eq_getElem (by walk_at "o")];rfl
   unfold spl
   congr 1 <;> exact List.filter_congr fun x hx=>by rw [cg x hx]
  rw [e2,Zw (kAt row) g,lm,rg]
 rw [<- e1]
 have l1:=ho.1
 have l2:=h.1
 rw [xT] at l2
 refine List.ext_getElem? fun j=>?_
 by_cases hj:j<ms.length
 ·have b1:=hb.2 j (by walk_at "o")
  have hx:(spl (kAt ms) (zr 0 1 ms.length))[j]?=some ((spl (kAt ms) (zr 0 1 ms.length)).getD j 0):=by rw [List.getD_eq_getElem?_getD,List.getElem?_eq_getElem (by walk_at "o")];rfl
  have gx:=ho.getD hj
  have p1:=h.2 ((spl (kAt ms) (zr 0 1 ms.length)).getD j 0).toNat (by rw [xT];walk_at "o")
  rw [b1,Int.toNat_natCast] at p1
  rw [p1,List.getElem?_map,List.getElem?_map,List.getElem?_map,hx,List.getElem?_eq_getElem (by walk_at "o")]
  show some (Dat.int _)=some (Dat.int (row.getD _ 0))
  rw [List.getD_eq_getElem?_getD (l:=row),List.getElem?_eq_getElem (by walk_at "o")];rfl
 ·rw [List.getElem?_eq_none (by walk_at "o"),List.getElem?_eq_none (by rw [List.length_map,List.length_map];walk_at "o")]
noncomputable def aGP (R:Array Value->Addr->Obj->Prop)(T:Addr):ASp:=fun xs M Q=>∃ (dx:Dat) (ks:List Int),xs=[.d dx]/\Bt dx=some (ks.map .int)/\ks.length<=256/\M T=some (.tb R)/\∀ p,M p=none->Q (.ref p) (mup M p (.lst (((jv ks 3).map deD).map .d)))
noncomputable abbrev Ae:Stmt:=top 19
theorem YW:zy ["kinds","plan","row","worth","marks","kind"] ["kinds"] (zj Ae):=⟨rfl,rfl,rfl,by decide +kernel,rfl,by decide +kernel,by decide +kernel⟩
theorem DM {T:Addr}(a:At K mg "gather_plan" Ae)(B:Blt mg)(D_part_plan:Df P w K mg base "part_plan" ["marks"] 13 (cSp aPP))(D_put:Df P w K mg base "put" ["things","order"] 13 (cSp Ds))(D_gather_order:Df P w K mg base "gather_order" ["kinds"] 13 (cSp (Du RG T))):Df P w K mg base "gather_plan" ["kinds"] 14 (cSp (aGP RG T)):=by
 refine dfA (k:=13) a YW (fun _ _ _ _ _ _=>Pn1_ fun _=>rfl) (fun xs M Q h=>?_) (fun f cdv A outer s H E hr=>?_)
 ·obtain ⟨_,_,rfl,_⟩:=h;rfl
 have sc:=YW
 have hsl:=hsl
 refine ⟨_,(zc (zt (i:=1) sc.nd rfl (by first | exact Or.inl rfl | exact Or.inr rfl) (jt (zR zb)))
  (zc (zt (i:=2) sc.nd rfl (by first | exact Or.inl rfl | exact Or.inr rfl) (zS kl rfl B.list jh (za (pv 0) zb)))
  (zc (jf PassesOwn.never rfl (jd (qU (za zd (za zd (za zd zb))))) (zp (i:=3) sc.nd rfl (by first | exact Or.inl rfl | exact Or.inr rfl)) (zc (yq (j:=4) rfl sc.nd rfl (by first | exact Or.inl rfl | exact Or.inr rfl) (ts:=[5]) rfl (jd (pv 2)) (fun _ _ _ _=>(zp (i:=5) sc.nd rfl (by first | exact Or.inl rfl | exact Or.inr rfl))) (fun _ _ _ _=>qk) (fun _ _ _ _=>(zm qC (zm jS (pv 5) (pv 3)) zd)))
  (zc (qK (jN PySem.F.plainAttrs_list PySem.F.slot_list_extend PySem.F.type_list_extend yD (pv 1) (za (zO D_part_plan hr rfl (za (pv 4) zb)) zb)))
  (zh (zt (i:=2) sc.nd rfl (by first | exact Or.inl rfl | exact Or.inr rfl) (zO D_put hr rfl (za (pv 2) (za (zO D_gather_order hr rfl (za (pv 4) zb)) zb))))))))
  (zh (zA (pv 1)))))),?_⟩
 refine ex2 (by walk_at "sim") ?_
 rintro xs M Q ⟨dx,ks,rfl,hx,hn,hT,q⟩
 rw [show qi ["kinds","plan","row","worth","marks","kind"] [.d dx]=[some (.d dx),none,none,none,none,none] from rfl]
 refine zg fun r hr0=>?_
 walk_at "ra"
 intro p hp _
 have nT:∀ o,mup M p o T=some (.tb RG):=fun o=>(zC (fun z=>by rw [z,hp] at hT;cases hT)).trans hT
 subst hr0
 refine zg fun r hr0=>?_
 walk_at "ra"
 refine ⟨_,vW hx _,_,zI _,?_⟩
 subst hr0
 refine zg fun r hr0=>?_
 walk_at "ra"
 have tp:∀ {i:Nat} {y:AV},[AV.d (.int 1),AV.d (.int 2),AV.d (.int 4)][i]?=some y->i<3/\y=.d (.int (pw i)):=fun {i y} h=>by
  match i,h with
  | 0,h=>cases h;exact ⟨by walk_at "o",rfl⟩
  | 1,h=>cases h;exact ⟨by walk_at "o",rfl⟩
  | 2,h=>cases h;exact ⟨by walk_at "o",rfl⟩
 refine ⟨by walk_at "o",fun i ρ M'=>∃ u v z,ρ=[some (.d dx),some (.ref p),some (.d (ilD (qy ks i))),u,v,z]/\M'=mup M p (.lst (((jv ks i).map deD).map .d)),⟨_,_,_,rfl,rfl⟩,?_,?_⟩
 ·rintro i y ρ M' hy ⟨u,v,z,rfl,rfl⟩
  obtain ⟨hi,rfl⟩:=tp hy
  refine ⟨trivial,?_⟩
  show kW _ _ _ _ _ _
  refine zg fun r2 hr2=>?_
  walk_at "ra"
  have ln:=(yb ks i).length_eq
  have ln2:((qy ks i).map (bit i)).length=ks.length:=by rw [List.length_map];exact ln
  have pl:=xo hn i
  have pl2:=kr ((qy ks i).map (bit i)) 8 0 ks.length (by walk_at "o") (by walk_at "o") (by walk_at "o") (by walk_at "o")
  refine kg (fun o=>[some (AV.d dx),some (AV.ref p),some (AV.d (ilD (qy ks i))),some (AV.d (.int (pw i))),v,o]) (fun x:Int=>AV.d (.int x)) (fun x=>AV.d (.int (bit i x))) (qy ks i) ⟨_,rfl⟩ trivial (by walk_at "o") (fun o x Q hx q=>?_) fun o=>?_
  ·walk_at "ra"
   exact ⟨xq (Yf i).1 (Yf i).2,by walk_at "o",q _⟩
  ·have e:(qy ks i).map (fun x=>AV.d (.int (bit i x)))=((qy ks i).map (bit i)).map fun i=>AV.d (.int i):=by rw [List.map_map];rfl
   rw [e]
   refine ⟨_,zI _,?_⟩
   subst hr2
   refine zg fun r2 hr2=>?_
   walk_at "ra"
   refine ⟨⟨_,qo ze⟩,_,(qy ks i).map (bit i),rfl,by rw [xO,je],by walk_at "o",?_⟩
   rw [ln2]
   refine ⟨_,ze,_,rfl,by simp only [List.length_map];walk_at "o",?_⟩
   have pe:(((jv ks i).map deD).map AV.d) ++ (((prt ((qy ks i).map (bit i)) 8 0 ks.length).map deD).map AV.d)=((jv ks (i+1)).map deD).map AV.d:=by
    rw [<- List.map_append,<- List.map_append];rfl
   rw [jz,pe]
   subst hr2
   walk_at "ra"
   refine ⟨_,(qy ks i).map (bit i),rfl,by rw [xO,je],by walk_at "o",nT _,ks.length,(qy ks i).map .int,gl ((qy ks i).map (bit i)),rfl,by rw [List.length_map];exact ln,fun t ht=>?_,?_,by walk_at "o",fun rs hrs=>?_⟩
   ·obtain ⟨k,_,rfl⟩:=List.mem_map.mp ht;rfl
   ·have:=Eg ((qy ks i).map (bit i))
    rw [ln2] at this
    exact this
   ·rw [Bb rfl (fun x _=>Xl i x) hrs]
    exact ⟨rfl,⟨_,rfl⟩,rfl⟩
 ·rintro ρ M' ⟨u,v,z,rfl,rfl⟩
  refine ⟨trivial,?_⟩
  subst hr0
  walk_at "ra"
  exact ⟨_,_,xu (Fr.refl.mup hp _) hp ze (zJ _),q p hp⟩
noncomputable def WY:ASp:=fun xs M Q=>∃ ks:List Int,xs=[.d (ilD ks)]/\ks.length<=1000/\Q (.d (ilD (gl ks))) M
noncomputable abbrev ZQ:Stmt:=top 30
theorem Qn:zy ["_law_kinds_here","_law_found","_law_place","_law_kind","_law_one"] ["_law_kinds_here"] (zj ZQ):=⟨rfl,rfl,rfl,by decide +kernel,rfl,by decide +kernel,by decide +kernel⟩
theorem Y0 (a:At K mg "_law_goals" ZQ)(B:Blt mg):Df P w K mg base "_law_goals" ["_law_kinds_here"] 1 (cSp WY):=by
 refine dfA (k:=0) a Qn (fun _ _ _ _ _ _=>Pn1_ fun _=>rfl) (fun xs M Q h=>?_) (fun f cdv A outer s H E hr=>?_)
 ·obtain ⟨_,rfl,_⟩:=h;rfl
 have sc:=Qn
 have hsl:=hsl
 refine ⟨_,(zc (zt (i:=1) sc.nd rfl (by first | exact Or.inl rfl | exact Or.inr rfl) (jt (zR zb)))
  (zc (jf PassesOwn.never rfl (wA rfl B.enumerate (za (pv 0) zb)) (jk (K:=K) 2 rfl rfl (zM (zp (i:=2) sc.nd rfl (by first | exact Or.inl rfl | exact Or.inr rfl)) (zM (zp (i:=3) sc.nd rfl (by first | exact Or.inl rfl | exact Or.inr rfl)) jj))) (zh (qK (jN PySem.F.plainAttrs_list PySem.F.slot_list_append PySem.F.type_list_append qD (pv 1) (za (zm qc (zn zw rfl B.len qN (za (qr (ts:=[4]) rfl rfl (jd (pv 0)) (fun _ _ _ _=>(zp (i:=4) sc.nd rfl (by first | exact Or.inl rfl | exact Or.inr rfl))) (fun _ _ _ _=>vb (zE QF (pv 4) (pv 3) (zz _))) (fun _ _ _ _=>(pv 4))) zb)) (jN PySem.F.plainAttrs_list PySem.F.slot_list_count PySem.F.type_list_count xm (jp jR (pv 0) ki (qf (pv 2))) (za (pv 3) zb))) zb)))))
  (zh (zA (pv 1))))),?_⟩
 refine ex2 (by walk_at "sim") ?_
 rintro xs M Q ⟨ks,rfl,hn,q⟩
 rw [show qi ["_law_kinds_here","_law_found","_law_place","_law_kind","_law_one"] [.d (ilD ks)]=[some (.d (ilD ks)),none,none,none,none] from rfl]
 refine zg fun r hr0=>?_
 walk_at "ra"
 intro p hp _
 have hl:∀ M',zN (.d (ilD ks)) M'=some (ks.map fun i=>AV.d (.int i)):=fun M'=>by show some _=_;rw [je]
 subst hr0
 refine zg fun r hr0=>?_
 walk_at "ra"
 refine ⟨fun i ρ M'=>∃ u v z,ρ=[some (.d (ilD ks)),some (.ref p),u,v,z]/\M'=mup M p (.lst (((List.range i).map fun j=>((glN ks j:Nat):Int)).map fun k=>AV.d (.int k))),⟨_,_,_,rfl,rfl⟩,?_,?_⟩
 ·rintro i y ρ M' hy ⟨u,v,z,rfl,rfl⟩
  refine ⟨trivial,?_⟩
  obtain ⟨d,hd,rfl⟩:=xB hy
  rw [List.getElem?_map] at hd
  cases e:ks[i]? with
  | none=>rw [e] at hd;cases hd
  | some k=>
   rw [e] at hd
   cases hd
   have hi:=(List.getElem?_eq_some_iff.mp e).1
   have hk:ks.getD i 0=k:=by rw [List.getD_eq_getElem?_getD,e];rfl
   walk_at "ra"
   refine ⟨⟨_,qo ze⟩,?_⟩
   refine xQ (fun o=>[some (AV.d (ilD ks)),some (AV.ref p),some (AV.d (.int (i:Int))),some (AV.d (.int k)),o]) (fun x:Int=>AV.d (.int x)) (fun x:Int=>AV.d (.int x)) (fun x=>decide (x<k)) ks ⟨_,rfl⟩ trivial (by walk_at "o") (fun o x Q hx q=>?_) fun o=>?_
   ·walk_at "ra"
    by_cases c:x<k
    ·rw [if_pos c]
     have:=q (some (.d (.int x)))
     rw [if_pos (decide_eq_true c)] at this
     exact this
    ·rw [if_neg c]
     have:=q (some (.d (.int x)))
     rw [if_neg (by simpa using c)] at this
     exact this
   ·have e1:kE (ks.map fun k=>AV.d (.int k)) none (some (i:Int))=(ks.take i).map fun k=>AV.d (.int k):=by rw [BY,List.map_take]
    refine ⟨_,zI _,_,by rw [e1];exact zI _,⟨_,rfl⟩,_,xK _,_,rfl,_,ze,by simp only [List.length_map,List.length_range];walk_at "o",?_⟩
    rw [jz]
    congr 2
    rw [List.range_succ,List.map_append,List.map_append]
    congr 1
    have e2:((ks.take i).map V.int).countP (fun y=>eqV y (.int k))=(ks.take i).count k:=by
     rw [List.countP_map]
     unfold List.count
     refine List.countP_congr fun x _=>?_
     simp [eqV]
    rw [e2,List.length_map]
    unfold glN
    simp only [List.map_cons,List.map_nil]
    rw [hk,Int.natCast_add]
 ·rintro ρ M' ⟨u,v,z,rfl,rfl⟩
  refine ⟨trivial,?_⟩
  subst hr0
  walk_at "ra"
  have e:(yR (ks.map Dat.int)).length=ks.length:=by rw [j6,List.length_map]
  refine ⟨_,_,jx (Fr.refl.mup hp _) hp ze (zI _),?_⟩
  rw [e]
  exact q
noncomputable abbrev Yt:Stmt:=top 31
theorem VX:zy ["_law_script","_law_cells","_law_k","_law_box_here","_law_n","_law_kinds_here","_law_by","_law_handed","_law_found","_law_row","_law_due","_law_now","_law_marks","_law_kind","_law_goal"] ["_law_script"] (zj Yt):=⟨rfl,rfl,rfl,by decide +kernel,rfl,by decide +kernel,by decide +kernel⟩
noncomputable def ZC (T:Addr)(K:PySem.W.Frag):Sp:=fun vs H Q _=>∃ (a:Addr) (ns:List Int),vs=[.ref a]/\Xe T H/\SqL K H a (ns.map V.int)/\ns.length<=63/\∀ H',Q (.bl true) H'
noncomputable def DD (R:Array Value->Addr->Obj->Prop)(T:Addr)(K:PySem.W.Frag):ASp:=fun xs M Q=>∃ ns:List Int,xs=[.d (.scr K ns)]/\ns.length<=63/\M T=some (.tb R)/\Q (.d (.bl true)) M
theorem By (R:Array Value->Addr->Obj->Prop){T:Addr}(vs:List V)(H:Hp)(Q:VK)(E:XK)(h:ZC T K vs H Q E):cSp (DD R T K) vs H Q E:=by
 obtain ⟨a,ns,rfl,hO,ha,hn,q⟩:=h
 have rp:Rep H (fun b=>b=T) (.ref a) (.scr K ns):=by
  rcases ha with h | h
  ·refine .scr (fun z=>?_) h
   have z:a=T:=z
   rcases h with h | ⟨o,h⟩
   ·rw [z,hO.1] at h;cases h
   ·rw [z,hO.1] at h;cases h
  ·exact .scrK (.inr h)
 refine ⟨[.d (.scr K ns)],fun b=>if b=T then some (.tb R) else none,fun b=>b=T,fun x _=>x=.d (.bl true),⟨fun b o e=>?_,fun b h=>?_,fun b h=>?_⟩,.cons rp .nil,⟨ns,rfl,hn,if_pos rfl,rfl⟩,fun x M' v H' O' hx _ _ r=>?_⟩
 ·by_cases c:b=T
  ·have e':=(if_pos c).symm.trans e
   cases e'
   exact ⟨#[],by rw [c];exact hO.1,.inl rfl⟩
  ·have e':=(if_neg c).symm.trans e
   cases e'
 ·by_cases c:b=T
  ·exact c
  ·exact absurd (if_neg c) h
 ·exact ⟨.tbl #[],by rw [show b=T from h];exact hO.1,fun xs z=>nomatch z⟩
 ·subst hx
  rw [xX r]
  exact q H'
theorem vS (ms:List Int):∀ (f b e:Nat),∀ d ∈ prt ms f b e,DO d
 | 0,_,_,d,h=>nomatch h
 | f+1,b,e,d,h=>by
  unfold prt at h
  split at h
  ·cases h
  ·dsimp only at h
   rcases List.mem_append.mp h with h | h
   ·rcases List.mem_append.mp h with h | h
    ·exact vS ms f _ _ d h
    ·exact vS ms f _ _ d h
   ·unfold xpl at h
    rw [List.map_map] at h
    obtain ⟨x,_,rfl⟩:=List.mem_map.mp h
    cases x <;> trivial
theorem B6 (d:De):jy 1 (deD d):=by
 cases d <;> refine Ap (n:=0) (by simp) fun x hx=>?_ <;> simp only [List.mem_cons,List.not_mem_nil,or_false] at hx <;> rcases hx with rfl | rfl | rfl <;> first | exact Ao 0 _ | exact VY 0 _
theorem Zd (ks:List Int):∀ i,∀ d ∈ jv ks i,DO d
 | 0,d,h=>nomatch h
 | i+1,d,h=>by
  rcases List.mem_append.mp (show d ∈ jv ks i ++ _ from h) with h | h
  ·exact Zd ks i d h
  ·exact vS _ _ _ _ d h
theorem Vd {ks:List Int}(h:ks.length<=256)(i:Nat)(hi:i<=3):jy 2 (.lst ((jv ks i).map deD)):=Aj (n:=1) (by have:=xo h i;rw [List.length_map];walk_at "o") fun x hx=>by
 obtain ⟨d,_,rfl⟩:=List.mem_map.mp hx;exact B6 d
theorem DS {T : Addr}(a : At K mg "law" Yt)(B : Blt mg)(D_law_box : Df P w K mg base "_law_box" ["_law_script", "_law_k"] 19 (cSp GC))(D_law_folded : Df P w K mg base "_law_folded" ["_law_script", "_law_many"] 19 (cSp (KS K)))(D_law_length : Df P w K mg base "_law_length" ["_law_box_here", "_law_most"] 19 (cSp Kv))(D_law_kinds : Df P w K mg base "_law_kinds" ["_law_box_here", "_law_n", "_law_most"] 19 (cSp Wm))
    (D_law_part:Df P w K mg base "_law_part" ["_law_marks","_law_begin","_law_end"] 19 (cSp (vT 8))) (D_law_goals:Df P w K mg base "_law_goals" ["_law_kinds_here"] 19 (cSp WY)) (D_gather_plan_o D_gather_plan:Df P w K mg base "gather_plan" ["kinds"] 19 (cSp (aGP RG T))) (D_law_same:Df P w K mg base "_law_same" ["_law_found","_law_due"] 19 (cSp (vE 3))) (D_law_behind:Df P w K mg base "_law_behind" ["_law_things","_law_plan"] 19 (cSp F8)) :
    Df P w K mg base "law" ["_law_script"] 20 (cSp (DD RG T K)):=by
  refine dfA (k:=19) a VX (fun _ _ _ _ _ _=>Pn1_ fun _=>rfl) (fun xs M Q h=>?_) (fun f cdv A outer s H E hr=>?_)
  · obtain ⟨_,rfl,_⟩:=h;rfl
  have sc:=VX
  have hsl:=hsl
  refine ⟨_,(zc (zt (i:=1) sc.nd rfl (by first | exact Or.inl rfl | exact Or.inr rfl) (zO D_law_folded hr rfl (za (pv 0) (za zd zb))))
    (zc (jf PassesOwn.never rfl (qS rfl B.range (za (zn (wz rfl) rfl B.max JQ (za zd (za (zn zw rfl B.len qN (za (pv 1) zb)) zb))) zb)) (zp (i:=2) sc.nd rfl (by first | exact Or.inl rfl | exact Or.inr rfl)) (zc (zt (i:=3) sc.nd rfl (by first | exact Or.inl rfl | exact Or.inr rfl) (zO D_law_box hr rfl (za (pv 1) (za (pv 2) zb))))
    (zc (zt (i:=4) sc.nd rfl (by first | exact Or.inl rfl | exact Or.inr rfl) (zO D_law_length hr rfl (za (pv 3) (za (zG qB (zR (za zd (za zd zb))) (zS jB rfl B.int xU (za (ji (qw hr.units) (pv 2) zd (zz _)) zb)) (fun _ _=>rfl)) zb))))
    (zc (zt (i:=5) sc.nd rfl (by first | exact Or.inl rfl | exact Or.inr rfl) (zO D_law_kinds hr rfl (za (pv 3) (za (pv 4) (za zd zb)))))
    (zc (vY (i:=10) (j:=11) rfl sc.nd rfl rfl (by decide) rfl rfl (za (zR zb) (za (pv 5) zb)) rfl)
    (zc (jf PassesOwn.never rfl (jd (qU (za zd (za zd (za zd zb))))) (zp (i:=6) sc.nd rfl (by first | exact Or.inl rfl | exact Or.inr rfl)) (zc (yq (j:=12) rfl sc.nd rfl (by first | exact Or.inl rfl | exact Or.inr rfl) (ts:=[13]) rfl (jd (pv 11)) (fun _ _ _ _=>(zp (i:=13) sc.nd rfl (by first | exact Or.inl rfl | exact Or.inr rfl))) (fun _ _ _ _=>qk) (fun _ _ _ _=>(zm qC (zm jS (pv 13) (pv 6)) zd)))
    (zc (zt (i:=10) sc.nd rfl (by first | exact Or.inl rfl | exact Or.inr rfl) (zm jC (pv 10) (zO D_law_part hr rfl (za (pv 12) (za zd (za (pv 4) zb))))))
    (zh (zt (i:=11) sc.nd rfl (by first | exact Or.inl rfl | exact Or.inr rfl) (zm jC (qr (ts:=[13]) rfl rfl (jd (pv 11)) (fun _ _ _ _=>(zp (i:=13) sc.nd rfl (by first | exact Or.inl rfl | exact Or.inr rfl))) (fun _ _ _ _=>vb (zE (qw hr.units) (zm qC (zm jS (pv 13) (pv 6)) zd) zd (zz _))) (fun _ _ _ _=>(pv 13))) (qr (ts:=[13]) rfl rfl (jd (pv 11)) (fun _ _ _ _=>(zp (i:=13) sc.nd rfl (by first | exact Or.inl rfl | exact Or.inr rfl))) (fun _ _ _ _=>vb (zE (qw hr.units) (zm qC (zm jS (pv 13) (pv 6)) zd) zd (zz _))) (fun _ _ _ _=>(pv 13)))))))))
    (zc (zt (i:=7) sc.nd rfl (by first | exact Or.inl rfl | exact Or.inr rfl) (zS kl rfl B.list jh (za (pv 5) zb)))
    (zc (zt (i:=8) sc.nd rfl (by first | exact Or.inl rfl | exact Or.inr rfl) (zO D_gather_plan_o hr rfl (za (pv 7) zb)))
    (zc (qu (PW.pt (Qq (wc (kc (zO D_law_same hr rfl (za (pv 8) (za (pv 10) zb))) (fun _=>rfl))) (vD (zE (yB hr.units) (pv 7) (pv 5) (zz _))))) (zh (zA yh)) zK)
    (zc (zt (i:=9) sc.nd rfl (by first | exact Or.inl rfl | exact Or.inr rfl) (zO D_law_behind hr rfl (za (zS (xI rfl) rfl B.list jh (za (zS xf rfl B.range vM (za (pv 4) zb)) zb)) (za (pv 8) zb))))
    (zc (qu (PW.pt (Qq (zE WK (pv 9) vv (zz _)) (vD (zE (yB hr.units) (qr (ts:=[14]) rfl rfl (jd (zO D_law_goals hr rfl (za (pv 5) zb))) (fun _ _ _ _=>(zp (i:=14) sc.nd rfl (by first | exact Or.inl rfl | exact Or.inr rfl))) (fun _ _ _ _=>qk) (fun _ _ _ _=>(zG (yI (K:=K) rfl) (pv 9) (pv 14) (fun _ _=>rfl)))) (zS (xI rfl) rfl B.list jh (za (zS xf rfl B.range vM (za (pv 4) zb)) zb)) (zz _))))) (zh (zA yh)) zK)
    (zc (qK (jN PySem.F.plainAttrs_list PySem.F.slot_list_append PySem.F.type_list_append qD (pv 8) (za (qU (za jZ (za zd zb))) zb)))
    (zh (qu (wc (kc (zO D_law_same hr rfl (za (zO D_gather_plan hr rfl (za (zS xF rfl B.tuple kK (za (pv 5) zb)) zb)) (za (pv 10) zb))) (fun _=>rfl))) (zh (zA yh)) zK))))))))))))))
    (zh (zA yh)))),?_⟩
  refine ex2 (by walk_at "sim") ?_
  rintro xs M Q ⟨ns,rfl,hn,hT,q⟩
  rw [show qi ["_law_script","_law_cells","_law_k","_law_box_here","_law_n","_law_kinds_here","_law_by","_law_handed","_law_found","_law_row","_law_due","_law_now","_law_marks","_law_kind","_law_goal"] [.d (.scr K ns)]=[some (.d (.scr K ns)),none,none,none,none,none,none,none,none,none,none,none,none,none,none] from rfl]
  have fT:∀ {M':MH},Fr M M'->M' T=some (.tb RG):=fun f=>(f T (by rw [hT];exact fun z=>nomatch z)).trans hT
  refine zg fun r hr0=>?_
  walk_at "ra"
  refine ⟨6,ns,rfl,by walk_at "o",by walk_at "o",hn,fun cs lc=>?_⟩
  subst hr0
  refine zg fun r hr0=>?_
  walk_at "ra"
  have e2:(if (cs.length:Int) > 2 then (cs.length:Int) else 2)=((max 2 cs.length:Nat):Int):=by split <;> walk_at "o"
  rw [e2,Int.toNat_natCast]
  refine ⟨by walk_at "o",by walk_at "o",?_⟩
  refine ⟨fun i ρ M'=>(∃ x2 x3 x4 x5 x6 x7 x8 x9 x10 x11 x12 x13 x14,ρ=[some (.d (.scr K ns)),some (.d (ilD cs)),x2,x3,x4,x5,x6,x7,x8,x9,x10,x11,x12,x13,x14])/\Fr M M',⟨⟨_,_,_,_,_,_,_,_,_,_,_,_,_,rfl⟩,Fr.refl⟩,?_,?_⟩
  · rintro i y ρ M1 hy ⟨⟨x2,x3,x4,x5,x6,x7,x8,x9,x10,x11,x12,x13,x14,rfl⟩,f1⟩
    obtain ⟨hi,rfl⟩:=jH hy
    refine ⟨trivial,?_⟩
    rw [Int.zero_add,Int.mul_one]
    show kW _ _ _ _ _ _
    refine zg fun r2 hr2=>?_
    walk_at "ra"
    refine ⟨_,i,cs,rfl,Aw _ _,by walk_at "o",by walk_at "o",by walk_at "o",fun b o hb bx=>?_⟩
    have b0:=f1.non hb
    have f2:=f1.mup b0 o
    have sb:=SB.refl bx
    generalize mup M1 b o=M2 at *
    subst hr2
    refine zg fun r2 hr2=>?_
    walk_at "ra"
    have len:∃ v:Int,atI [AV.d (Dat.int 40),AV.d (Dat.int 100)] (if (i:Int)=0 then 1 else 0)=some (.d (.int v))/\24<=v/\v<=100:=by
      by_cases c:(i:Int)=0
      · exact ⟨100,by rw [if_pos c];rfl,by walk_at "o",by walk_at "o"⟩
      · exact ⟨40,by rw [if_neg c];rfl,by walk_at "o",by walk_at "o"⟩
    obtain ⟨mm,hm,m1,m2⟩:=len
    refine ⟨by walk_at "o",_,hm,b,mm,0,rfl,sb.bx,by walk_at "o",by walk_at "o",by walk_at "o",fun n M3 s3 n0 n1=>?_⟩
    have sb:=sb.go s3
    obtain ⟨n,rfl⟩:∃ k:Nat,n=k:=⟨n.toNat,by walk_at "o"⟩
    subst hr2
    refine zg fun r2 hr2=>?_
    walk_at "ra"
    refine ⟨b,n,8,_,rfl,sb.bx,by walk_at "o",by walk_at "o",by walk_at "o",by walk_at "o",fun ks M4 s4 lk hk=>?_⟩
    have sb:=sb.go s4
    have fm:=SB.frm f2 b0 sb
    have dpl:∀ ns:List Int,dp (ilD ns)<=40:=fun ns=>Nat.le_trans (vf ns) (by decide)
    clear sb s4 s3 bx
    subst hr2
    refine zg fun r2 hr2=>?_
    walk_at "ra"
    subst hr2
    refine zg fun r2 hr2=>?_
    walk_at "ra"
    refine ⟨by walk_at "o",?_⟩
    have tp:∀ {i:Nat} {y:AV},[AV.d (.int 1),AV.d (.int 2),AV.d (.int 4)][i]?=some y->i<3/\y=.d (.int (pw i)):=fun {i y} h=>by
      match i,h with
      | 0,h=>cases h;exact ⟨by walk_at "o",rfl⟩
      | 1,h=>cases h;exact ⟨by walk_at "o",rfl⟩
      | 2,h=>cases h;exact ⟨by walk_at "o",rfl⟩
    have hn2:ks.length<=256:=by walk_at "o"
    refine ⟨fun j ρ M'=>M'=M4/\∃ u6 u12 u13,ρ=[some (.d (.scr K ns)),some (.d (ilD cs)),some (.d (.int (i:Int))),some (.ref b),some (.d (.int (n:Int))),some (.d (ilD ks)),u6,x7,x8,x9,some (.d (.lst ((jv ks j).map deD))),some (.d (ilD (qy ks j))),u12,u13,x14],⟨rfl,_,_,_,rfl⟩,?_,?_⟩
    · rintro j y ρ M' hy ⟨rfl,u6,u12,u13,rfl⟩
      obtain ⟨hj,rfl⟩:=tp hy
      refine ⟨trivial,?_⟩
      have ln:=(yb ks j).length_eq
      have ln2:((qy ks j).map (bit j)).length=ks.length:=by rw [List.length_map];exact ln
      have pl:=xo hn2 j
      have pl2:=kr ((qy ks j).map (bit j)) 8 0 ks.length (by walk_at "o") (by walk_at "o") (by walk_at "o") (by walk_at "o")
      show kW _ _ _ _ _ _
      refine zg fun r3 hr3=>?_
      walk_at "ra"
      refine kg (fun o=>[some (.d (.scr K ns)),some (.d (ilD cs)),some (.d (.int (i:Int))),some (.ref b),some (.d (.int (n:Int))),some (.d (ilD ks)),some (.d (.int (pw j))),x7,x8,x9,some (.d (.lst ((jv ks j).map deD))),some (.d (ilD (qy ks j))),u12,o,x14]) (fun x:Int=>AV.d (.int x)) (fun x=>AV.d (.int (bit j x))) (qy ks j) ⟨_,rfl⟩ trivial (by walk_at "o") (fun o x Q hx q=>?_) fun o=>?_
      · walk_at "ra"
        exact ⟨xq (Yf j).1 (Yf j).2,by walk_at "o",q _⟩
      · have e:(qy ks j).map (fun x=>AV.d (.int (bit j x)))=((qy ks j).map (bit j)).map fun i=>AV.d (.int i):=by rw [List.map_map];rfl
        rw [e]
        refine ⟨_,zI _,?_⟩
        subst hr3
        refine zg fun r3 hr3=>?_
        walk_at "ra"
        refine ⟨_,0,n,(qy ks j).map (bit j),rfl,by show some _=_;rw [je],by walk_at "o",by walk_at "o",by walk_at "o",by walk_at "o",by walk_at "o",?_⟩
        rw [lk] at pl2
        refine ⟨_,rfl,by simp only [List.length_map];walk_at "o",_,by rw [<- List.map_append,<- List.map_append];exact zJ _,?_⟩
        have pe:(jv ks j ++ prt ((qy ks j).map (bit j)) 8 0 n).map deD=(jv ks (j+1)).map deD:=by rw [<- lk];rfl
        rw [pe]
        have flt:∀ (v:Int) (M':MH) (Q:List AV->ASt->MH->Prop) (a10 a12:Option AV),(∀ o,Q (((qy ks j).filter fun x=>decide (bit j x=v)).map fun i=>AV.d (.int i)) [some (.d (.scr K ns)),some (.d (ilD cs)),some (.d (.int (i:Int))),some (.ref b),some (.d (.int (n:Int))),some (.d (ilD ks)),some (.d (.int (pw j))),x7,x8,x9,a10,some (.d (ilD (qy ks j))),a12,o,x14] M')->wm (qM 13) (aB (aOp (Qb id) (aOp (aI (fun x j=>0<j) fun i j=>Dat.int (i % j)) (aOp (aI Ba fun i j=>Dat.int (i / j)) (zV 13) (zV 6)) (aC (Dat.int 2))) (aC (Dat.int v)))) (jI (zV 13)) (fun _=>True) Q ((qy ks j).map fun i=>AV.d (.int i)) [] [some (.d (.scr K ns)),some (.d (ilD cs)),some (.d (.int (i:Int))),some (.ref b),some (.d (.int (n:Int))),some (.d (ilD ks)),some (.d (.int (pw j))),x7,x8,x9,a10,some (.d (ilD (qy ks j))),a12,none,x14] M':=fun v M' Q a10 a12 hq=>by
          refine xQ (fun o=>[some (.d (.scr K ns)),some (.d (ilD cs)),some (.d (.int (i:Int))),some (.ref b),some (.d (.int (n:Int))),some (.d (ilD ks)),some (.d (.int (pw j))),x7,x8,x9,a10,some (.d (ilD (qy ks j))),a12,o,x14]) (fun x:Int=>AV.d (.int x)) (fun x:Int=>AV.d (.int x)) (fun x=>decide (bit j x=v)) (qy ks j) ⟨_,rfl⟩ trivial (by walk_at "o") (fun o x Q hx q=>?_) fun o=>hq o
          walk_at "ra"
          refine ⟨xq (Yf j).1 (Yf j).2,by walk_at "o",?_⟩
          have q':=q (some (.d (.int x)))
          by_cases c:bit j x=v
          · rw [if_pos (show x / pw j % 2=v from c)]
            rw [if_pos (decide_eq_true c)] at q'
            exact q'
          · rw [if_neg (show ¬ x / pw j % 2=v from c)]
            rw [if_neg (by simpa using c)] at q'
            exact q'
        subst hr3
        walk_at "ra"
        refine flt 0 _ _ _ _ fun o=>⟨_,zI _,flt 1 _ _ _ _ fun o=>⟨_,zI _,?_⟩⟩
        have l0:=List.length_filter_le (fun x=>decide (bit j x=0)) (qy ks j)
        have l1:=List.length_filter_le (fun x=>decide (bit j x=1)) (qy ks j)
        refine ⟨by rw [List.length_map,List.length_map];walk_at "o",_,by rw [<- List.map_append,<- List.map_append];exact zJ _,rfl,rfl,_,rfl⟩
    · rintro ρ M' ⟨rfl,u6,u12,u13,rfl⟩
      refine ⟨trivial,?_⟩
      rw [show [AV.d (Dat.int 1),AV.d (Dat.int 2),AV.d (Dat.int 4)].length=3 from rfl]
      dsimp only
      subst hr2
      refine zg fun r2 hr2=>?_
      walk_at "ra"
      subst hr2
      refine zg fun r2 hr2=>?_
      walk_at "ra"
      refine ⟨_,ks,rfl,rfl,hn2,fT fm,fun p hp=>?_⟩
      have p0:=fm.non hp
      have pd:=K3 hn2 3
      have pn:=Zd ks 3
      have pl:=xo hn2 3
      have fp:=Vd hn2 3 (by walk_at "o")
      have rb:=Yh hk
      rw [lk] at pd
      generalize hds:jv ks 3=ds at *
      have sq:zN (.ref p) (mup M' p (.lst ((ds.map deD).map .d)))=some ((ds.map deD).map .d):=zX ze
      have dq:kD (.ref p) (mup M' p (.lst ((ds.map deD).map .d)))=some (.lst (ds.map deD)):=yg ze (zJ _)
      subst hr2
      refine zg fun r2 hr2=>?_
      walk_at "ra"
      refine ⟨_,_,_,rfl,dq,rfl,fp.mono (by walk_at "o"),by walk_at "o",?_⟩
      refine ⟨_,rfl,?_⟩
      have eqs:∀ ns:List Int,¬ (eqD (.lst (ns.map .int)) (ilD ns)=false):=fun ns h=>by rw [show Dat.lst (ns.map .int)=ilD ns from rfl,Qx (Nat.lt_of_le_of_lt (dpl ns) (by decide))] at h;cases h
      rw [if_neg (by decide)]
      refine ⟨dpl _,dpl _,?_⟩
      rw [if_neg (eqs _)]
      subst hr2
      refine zg fun r2 hr2=>?_
      walk_at "ra"
      refine ⟨_,_,_,rfl,small_one (by walk_at "o") (by walk_at "o") (by walk_at "o") (by walk_at "o"),n,by rw [rangeSize_one];split <;> walk_at "o",by walk_at "o",?_⟩
      refine ⟨_,_,yf ks 3,ds,rfl,sq,pd,pn,by rw [zv];walk_at "o",by walk_at "o",?_⟩
      subst hr2
      refine zg fun r2 hr2=>?_
      walk_at "ra"
      have go:=rb.2.ord rb.1
      have gr:=(rb.2.symm rb.1).right go
      rw [lk] at rb go gr
      refine ⟨ks,rfl,by walk_at "o",(gl ks).map fun i=>AV.d (.int i),by show some _=_;rw [je],?_⟩
      refine kg (fun o=>[some (.d (.scr K ns)),some (.d (ilD cs)),some (.d (.int (i:Int))),some (.ref b),some (.d (.int (n:Int))),some (.d (ilD ks)),u6,some (.d (ilD ks)),some (.ref p),some (.d (ilD (yf ks 3))),some (.d (.lst (ds.map deD))),some (.d (ilD (qy ks 3))),u12,u13,o]) (fun x:Int=>AV.d (.int x)) (fun x=>AV.d (.int ((yf ks 3).getD x.toNat 0))) (gl ks) ⟨_,rfl⟩ (by show some _=_;rw [je]) (by rw [xT];walk_at "o") (fun o x Q hx q=>?_) fun o=>?_
      · have xb:=go.2.2 x hx
        have rl:=rb.1.1
        walk_at "ra"
        exact ⟨_,QB (ns:=yf ks 3) (i:=x) xb.1 (by walk_at "o"),q _⟩
      · have e : (gl ks).map (fun x => AV.d (.int ((yf ks 3).getD x.toNat 0))) = (zr 0 1 n).map fun i => AV.d (.int i) := by
          rw [<- gr];unfold aft;rw [List.map_map];rfl
        rw [e]
        refine ⟨_,zI _,_,_,_,rfl,small_one (by walk_at "o") (by walk_at "o") (by walk_at "o") (by walk_at "o"),n,by rw [rangeSize_one];split <;> walk_at "o",by walk_at "o",dpl _,dpl _,?_⟩
        rw [if_neg (eqs _)]
        subst hr2
        refine zg fun r2 hr2=>?_
        walk_at "ra"
        refine ⟨⟨_,qo ze⟩,by walk_at "o",_,ze,by rw [List.length_map,List.length_map];walk_at "o",?_⟩
        have f6:=fm.mup p0 (.lst ((ds.map deD).map .d ++ [AV.d (.tup [.str (Str.ofString "take"),.int 0])]))
        generalize mup M' p (.lst ((ds.map deD).map .d ++ [AV.d (.tup [.str (Str.ofString "take"),.int 0])]))=M6 at *
        subst hr2
        walk_at "ra"
        refine ⟨_,ks,rfl,rfl,hn2,fT f6,fun p2 hp2=>?_⟩
        rw [hds]
        have p20:=f6.non hp2
        have dq2:kD (.ref p2) (mup M6 p2 (.lst ((ds.map deD).map .d)))=some (.lst (ds.map deD)):=yg ze (zJ _)
        refine ⟨_,_,_,rfl,dq2,rfl,fp.mono (by walk_at "o"),by walk_at "o",_,rfl,?_⟩
        rw [if_neg (by decide)]
        have f7:=f6.mup p20 (.lst ((ds.map deD).map .d))
        first | exact f7 | exact ⟨rfl,f7⟩ | exact ⟨⟨_,rfl⟩,f7⟩ | (refine ⟨?_,f7⟩;simp)
  · rintro ρ M1 ⟨⟨x2,x3,x4,x5,x6,x7,x8,x9,x10,x11,x12,x13,x14,rfl⟩,f1⟩
    refine ⟨trivial,?_⟩
    subst hr0
    walk_at "ra"
    exact ZN f1 q
end
theorem all_mk {l:PySem.W.OpenLaw}{w:World}{K:PySem.W.Frag}{h:Heap}{mg:Str->Option Value}{fa c T:Addr}(X:K.In h)(G:h.Ns mainGlobals mg)(hfa:mg "law"=some (.ref fa))(hc:vU K mg "gather_order" c)(a:At K mg "law" Yt)(B:Blt mg)(Ball:mg "all"=none)
  (a__law_take:At K mg "_law_take" Jf) (a__law_box:At K mg "_law_box" WO) (a__law_folded:At K mg "_law_folded" v6) (a__law_length:At K mg "_law_length" vK) (a__law_kinds:At K mg "_law_kinds" ZR) (a__law_same:At K mg "_law_same" vw) (a__law_exchange:At K mg "_law_exchange" EK) (a__law_part:At K mg "_law_part" yn) (a__law_behind:At K mg "_law_behind" VG) (a__law_goals:At K mg "_law_goals" ZQ) (a_ring_from:At K mg "ring_from" xh) (a_rings:At K mg "rings" ZF) (a_round_ring:At K mg "round_ring" ko) (a_roll_order:At K mg "roll_order" JE) (a_exchange_plan:At K mg "exchange_plan" Zs) (a_part_stretch:At K mg "part_stretch" QL) (a_part_plan:At K mg "part_plan" Wr) (a_back_of:At K mg "back_of" Zr) (a_gather_order:At K mg "gather_order" Wz) (a_own_copy:At K mg "own_copy" vd) (a_put:At K mg "put" Wk) (a_gather_plan:At K mg "gather_plan" Ae)
 :∃ fd:FuncData,(∀ (s:Shared) (v:Value),BindsTo s fd ⟨[v],[]⟩ [("_law_script",v)])/\∀ base:Heap,K.In base->base.Ns mainGlobals mg->wV mg base c T->kC l.prog w K mg base CX0 20 fa fd ["_law_script"] (ZC T K):=by
 obtain ⟨f,fd,F,m⟩:=id a
 obtain rfl:fa=f:=by rw [hfa] at m;cases m;rfl
 obtain ⟨oc,od,kV,doc,pm,an,cdv,ct,osl,e,lk,hcd⟩:=F.ex
 refine ⟨fd,fun s v=>?_,fun base _ _ hL=>?_⟩
 ·subst e;exact .of_eq rfl
 ·have T0:=BZ (P:=l.prog) (w:=w) (base:=base) a__law_take B
  have tk:=T0.imp' Ay
  have gt:=EM (P:=l.prog) (w:=w) (base:=base) (a_gather_order.code hc) B hL (V7 a_back_of B)
  have rg:=(Vg (P:=l.prog) (w:=w) (base:=base) a_rings B (Zu a_ring_from B)).imp' VO
  have xp:=YH (P:=l.prog) (w:=w) (base:=base) a_exchange_plan B rg ((AQ a_roll_order B).mono (by decide)) ((wg a_round_ring B).mono (by decide))
  have ps:=KO (P:=l.prog) (w:=w) (base:=base) a_part_stretch B xp 8
  have pp:=ER (P:=l.prog) (w:=w) (base:=base) a_part_plan B ps
  have pq:=pp.imp' Gu
  have lp:=wW (P:=l.prog) (w:=w) (base:=base) a__law_part B (F0 a__law_exchange B) 8
  have pt:=EZ (P:=l.prog) (w:=w) (base:=base) a_put B (Wc a_own_copy B (Xq a_own_copy))
  have gp:=DM (P:=l.prog) (w:=w) (base:=base) (T:=T) a_gather_plan B pq (pt.mono (by decide)) ((gt.imp' AC).mono (by decide))
  have L:=DS (P:=l.prog) (w:=w) (base:=base) a B (((FH a__law_box B).imp' Ec).mono (by decide)) (((XZ a__law_folded B).imp' XB).mono (by decide)) (((XU a__law_length B T0).imp' X1).mono (by decide)) ((WZ a__law_kinds B tk).mono (by decide)) (lp.mono (by decide)) ((Y0 a__law_goals B).mono (by decide)) (gp.mono (by decide)) (gp.mono (by decide)) ((Qo a__law_same B Ball 3).mono (by decide)) ((FO a__law_behind B).mono (by decide))
  exact (L.imp' (By RG (K:=K))).fn m lk
theorem walk {l:PySem.W.OpenLaw}{q:Program}{loose:List Str}{XP:(Str->Option Value)->Heap->Prop}{YP:World->Heap->Prop}{d:DefRec}{K:Params->PySem.W.Frag}(hn:l.most=some 63)(hdf:d.params.defaults=[])
  (hY:∀ (w:World) (h:Heap),YP w h->(K w.params).In h) (hgd:("gather_order":Str) ∈ (recsOf q).map (·.name)) (hnt:∀ w:World,PySem.W.noTabs (K w.params)=true)
  (F:∀ (w:World) (mg:Str->Option Value) (fa c T:Addr) (h:Heap),(K w.params).In h->h.Ns mainGlobals mg->mg d.name=some (.ref fa)->vU (K w.params) mg "gather_order" c ->
   ∃ fd:FuncData,(∀ (s:Shared) (u:Value),BindsTo s fd ⟨[u],[]⟩ [("_law_script",u)])/\∀ base:Heap,(K w.params).In base->base.Ns mainGlobals mg->wV mg base c T->kC l.prog w (K w.params) mg base CX0 20 fa fd ["_law_script"] (ZC T (K w.params))) :
  PySem.W.WalkO q loose XP YP l.row.toRowW d [] (fun f vs=>PySem.call f vs):=
 L2.walk_ofT (n:=63) (k:=20) (x:="_law_script") (CX:=CX0) (sp:=ZC) (gn:="gather_order") hn (by decide) hdf ⟨rfl,rfl,by decide,by decide⟩ hY hgd hnt F (fun _ _ _ a ns hl hO hS=>⟨a,ns,rfl,hO,hS,hl,fun _=>rfl⟩) fun _ _ _ _ z=>z
end Ot
theorem PySem.W.Fast.te11445122489254200957:True:=trivial
theorem PySem.W.Fast.te7148776746392600670:True:=trivial
theorem PySem.W.Fast.te10174640721743434964:True:=trivial
namespace PySem.W.Fast
def tw9764935325301920294:=()
def tw1061707482195881504:=()
def tw2926259539843420321:=()
def tw14220637298253535440:=()
def tw7422537756012489375:=()
def tw15597211503511658549:=()
def tw3186196922160734716:=()
def tw9050717937446666735:=()
def tw15036934700770582947:=()
def tw6501921214661441989:=()
def tw14362252206491511481:=()
def tw5369785356787597487:=()
def tw16604091303612389445:=()
def tw8556346912905057438:=()
def tw18030653782201115269:=()
def tw1731385764060937874:=()
def tw17163682145270569256:=()
def tw15733149651136196035:=()
def tw13502463504861660579:=()
def tw17018639055335570521:=()
def tw9513875584504434910:=()
def tw6463698171473107825:=()
def tw6901421939980438827:=()
def tw9982179656596631454:=()
def tw10925128334791106147:=()
def tw13627608366306345940:=()
def tw6925463452875567307:=()
def tw4826486869576443542:=()
def tw14749859322374995686:=()
def tw5316934963306081904:=()
def tw7697163317591928718:=()
def tw9919700067919798229:=()
def tw15929349376958116708:=()
def tw10172314287981926621:=()
def tw6374263344378200200:=()
def tw13962327546688043206:=()
def tw17067597722043926476:=()
def tw11663764295854665751:=()
def tw5845663242330631395:=()
def tw6272562735798931777:=()
def tw5312670496808096505:=()
def tw923024089074065704:=()
def tw1114118806167729863:=()
def tw11109172292597286812:=()
def tw631436936586228808:=()
def tw6328840897515635176:=()
def tw14833462500873287413:=()
def tw8398969103964546147:=()
def tw9287261786420154989:=()
def tw12551064779989205690:=()
def tw10138071141690352966:=()
def tw15816457892033155918:=()
def tw964858742747347999:=()
def tw8484749187835875774:=()
def tw9688956064965573611:=()
def tw8345502997104159291:=()
def tw4557359812235961874:=()
def tw16401343863139458513:=()
def tw15191812019091334320:=()
def tw14457719991863536395:=()
def tw5178484119197562263:=()
def tw15883110278889336264:=()
def tw4168968409504301381:=()
def tw1880651175761168223:=()
def tw14058708426373249855:=()
def tw14086029651343177875:=()
def tw15477495451015478507:=()
def tw10468626778767728717:=()
def tw1379666553253403102:=()
def tw5166185794221619925:=()
def tw10133687014917567070:=()
def tw7459760250560897174:=()
def tw6273663777397501120:=()
def tw4946914045290155347:=()
def tw2465459079413322518:=()
def tw3572275134617671042:=()
def tw16293255992969688460:=()
def tw17591817265713026712:=()
def tw12412218564042328861:=()
def tw7164050285516996650:=()
def tw9401499005922244098:=()
def tw4776206653174015092:=()
def tw1298787358137004549:=()
def tw1431947533762973190:=()
def tw14933051573897353196:=()
def tw12982411900830305299:=()
def tw5032838232564855233:=()
def tw8194789437573772384:=()
def tw13179934506110232886:=()
def tw7766757062107192429:=()
def tw6718488822630040528:=()
def tw7142632376123265041:=()
def tw5613468349707887947:=()
def tw15932686553102946634:=()
def tw5769106673284149642:=()
def tw18206251439045989253:=()
def tw6608904902048181090:=()
def tw11673396966534643844:=()
def tw10670832215613984461:=()
def tw9933411860839050077:=()
def tw17927648449459360929:=()
def tw4393777016087477774:=()
def tw8324863010400102279:=()
def tw1563312130890035528:=()
def tw7318285195930767049:=()
def tw6737014442874065633:=()
def tw5077063561304175897:=()
def tw15483263319935158792:=()
def tw10456602646835922277:=()
def tw279804738871868210:=()
def tw14425489091673454987:=()
def tw4036741902499163552:=()
def tw8882176441400764443:=()
def tw18425467944285603268:=()
def tw5549000328033461260:=()
def tw10524800189249302717:=()
def tw15181169589692551820:=()
def tw9311759160926111530:=()
def tw10411922731436167922:=()
def tw18053419833772586709:=()
def tw15003656595361399953:=()
def tw16304176670241846974:=()
def tw7272014315449550762:=()
def tw2221531551462893371:=()
def tw17180913447405867847:=()
def tw5562371494424709883:=()
def tw17913023403783475333:=()
def tw7943955518339969859:=()
def tw16965380223650548210:=()
def tw15678674776777731290:=()
def tw7562177869990088875:=()
def tw4192827153114586594:=()
def tw14307956809398481912:=()
def tw15927893585088151538:=()
def tw9058015740368598995:=()
def tw6126504515290826071:=()
def tw10876381969932946529:=()
def tw2888228833225253390:=()
def tw748471571762207773:=()
def tw7006987526462402623:=()
def tw13595771551296610406:=()
def tw12396152892219359170:=()
def tw623951979842308544:=()
def tw17554364511178855822:=()
def tw17993475183768514019:=()
def tw12436665796207090715:=()
def tw1971847154497569824:=()
def tw16924744489541164111:=()
def tw4173289329281586176:=()
def tw5363580224425056575:=()
def tw7335551529259333043:=()
def tw13540247552359199381:=()
def tw2541465540398214102:=()
def tw1876425382542736393:=()
def tw14634941980726674437:=()
def tw4432781793766171702:=()
def tw16579262793661299100:=()
def tw8901546453886866517:=()
def tw11954005494588145916:=()
def tw15988669886102897626:=()
def tw10535146329872922843:=()
def tw14131521929475687413:=()
def tw15648207407144732053:=()
def tw1001758100767484691:=()
end PySem.W.Fast
open PySem PySem.W PyProof.Rows
set_option maxRecDepth 100000 in
set_option maxHeartbeats 0 in
theorem PySem.Challenge.cw_ownturn_k47_plans_of_kinds_holds : PySem.Challenge.rw_ownturn_k47_plans_of_kinds.Holds := by
 w_on; o_law; k_head; (case hw => w_witness2)
 k_fill
 refine Ot.walk (l := PySem.Challenge.rw_ownturn_k47_plans_of_kinds) rfl rfl (fun w h Y => PySem.W.km_in_of Y) (by decide +kernel) (fun w => by rfl) ?F
 case F =>
  intro w mg fa c T h KX G hmg hc
  refine' Ot.all_mk KX G hmg hc (L2.at_mk KX G ?a0 ?l0 ?c0 ?k0) (L2.blt_mk KX G ?z1 ?z2 ?z3 ?z4 ?z5 ?z6 ?z7 ?z8 ?z9 ?z10 ?z11 ?z12 ?z13 ?z14 ?z15 ?z16) (PySem.W.mg_none_of KX G ?zall) (L2.at_mk KX G ?a1 ?l1 ?c1 ?k1) (L2.at_mk KX G ?a2 ?l2 ?c2 ?k2) (L2.at_mk KX G ?a3 ?l3 ?c3 ?k3) (L2.at_mk KX G ?a4 ?l4 ?c4 ?k4) (L2.at_mk KX G ?a5 ?l5 ?c5 ?k5) (L2.at_mk KX G ?a6 ?l6 ?c6 ?k6) (L2.at_mk KX G ?a7 ?l7 ?c7 ?k7) (L2.at_mk KX G ?a8 ?l8 ?c8 ?k8) (L2.at_mk KX G ?a9 ?l9 ?c9 ?k9) (L2.at_mk KX G ?a10 ?l10 ?c10 ?k10) (L2.at_mk KX G ?a11 ?l11 ?c11 ?k11) (L2.at_mk KX G ?a12 ?l12 ?c12 ?k12) (L2.at_mk KX G ?a13 ?l13 ?c13 ?k13) (L2.at_mk KX G ?a14 ?l14 ?c14 ?k14) (L2.at_mk KX G ?a15 ?l15 ?c15 ?k15) (L2.at_mk KX G ?a16 ?l16 ?c16 ?k16) (L2.at_mk KX G ?a17 ?l17 ?c17 ?k17) (L2.at_mk KX G ?a18 ?l18 ?c18 ?k18) (L2.at_mk KX G ?a19 ?l19 ?c19 ?k19) (L2.at_mk KX G ?a20 ?l20 ?c20 ?k20) (L2.at_mk KX G ?a21 ?l21 ?c21 ?k21) (L2.at_mk KX G ?a22 ?l22 ?c22 ?k22)
  (case a0 => k_is); (case l0 => k_is); (case c0 => k_is); (case k0 => k_is)
  (case a1 => k_is); (case l1 => k_is); (case c1 => k_is); (case k1 => k_is)
  (case a2 => k_is); (case l2 => k_is); (case c2 => k_is); (case k2 => k_is)
  (case a3 => k_is); (case l3 => k_is); (case c3 => k_is); (case k3 => k_is)
  (case a4 => k_is); (case l4 => k_is); (case c4 => k_is); (case k4 => k_is)
  (case a5 => k_is); (case l5 => k_is); (case c5 => k_is); (case k5 => k_is)
  (case a6 => k_is); (case l6 => k_is); (case c6 => k_is); (case k6 => k_is)
  (case a7 => k_is); (case l7 => k_is); (case c7 => k_is); (case k7 => k_is)
  (case a8 => k_is); (case l8 => k_is); (case c8 => k_is); (case k8 => k_is)
  (case a9 => k_is); (case l9 => k_is); (case c9 => k_is); (case k9 => k_is)
  (case a10 => k_is); (case l10 => k_is); (case c10 => k_is); (case k10 => k_is)
  (case a11 => k_is); (case l11 => k_is); (case c11 => k_is); (case k11 => k_is)
  (case a12 => k_is); (case l12 => k_is); (case c12 => k_is); (case k12 => k_is)
  (case a13 => k_is); (case l13 => k_is); (case c13 => k_is); (case k13 => k_is)
  (case a14 => k_is); (case l14 => k_is); (case c14 => k_is); (case k14 => k_is)
  (case a15 => k_is); (case l15 => k_is); (case c15 => k_is); (case k15 => k_is)
  (case a16 => k_is); (case l16 => k_is); (case c16 => k_is); (case k16 => k_is)
  (case a17 => k_is); (case l17 => k_is); (case c17 => k_is); (case k17 => k_is)
  (case a18 => k_is); (case l18 => k_is); (case c18 => k_is); (case k18 => k_is)
  (case a19 => k_is); (case l19 => k_is); (case c19 => k_is); (case k19 => k_is)
  (case a20 => k_is); (case l20 => k_is); (case c20 => k_is); (case k20 => k_is)
  (case a21 => k_is); (case l21 => k_is); (case c21 => k_is); (case k21 => k_is)
  (case a22 => k_is); (case l22 => k_is); (case c22 => k_is); (case k22 => k_is)
  (case zall => k_is)
  (case z1 => k_is)
  (case z2 => k_is)
  (case z3 => k_is)
  (case z4 => k_is)
  (case z5 => k_is)
  (case z6 => k_is)
  (case z7 => k_is)
  (case z8 => k_is)
  (case z9 => k_is)
  (case z10 => k_is)
  (case z11 => k_is)
  (case z12 => k_is)
  (case z13 => k_is)
  (case z14 => k_is)
  (case z15 => k_is)
  (case z16 => k_is)
