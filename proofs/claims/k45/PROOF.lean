import PyProof.Rows.All
import Wide.All
import OpenK.AllK
import Wide.FinOn
import Lean
import PyProof.EqAt
import PyProof.EqKinds
import PyProof.TupleCall
import Lean
import KE.KLam
import KE.KSortKey
import PyProof.ExcInit
import PyProof.ExcClass3
import PyProof.InstStoreFacts
import KE.KIsAll
import KE.KTryMore
import PyProof.ExcBaseAll.ValueError
import PyProof.ExcArgsOwn
import KE.RegKIsAll
import KE.RegKTryMore
import PyProof.RulesAs
import PySem.Challenge.RW_ownturn_k45_kinds_gathered
set_option compiler.extract_closed false
set_option Elab.async false
set_option linter.all false
set_option maxRecDepth 100000
namespace L2
open PySem PySem.Spec PyProof.Rows
noncomputable abbrev Key:=Sum Int Str
noncomputable def X1:Key->Value->Bool
 | .inl k,v=>Value.isInt k v
 | .inr x,v=>Value.isStrOf x v
noncomputable def W2 (w:World):Key->Int
 | .inl k=>hashInt k
 | .inr x=>hashStr w x
theorem zy:∀ {k:Key} {v:Value},X1 k v=true->(∃ i t,k=Sum.inl i/\v=Value.int i t) \/ (∃ x t,k=Sum.inr x/\v=Value.str x t)
 | .inl i,v,h=>by
  obtain ⟨t,e⟩:=Value.isInt_shape (k:=i) (v:=v) h
  exact .inl ⟨i,t,rfl,e⟩
 | .inr x,v,h=>by
  obtain ⟨t,e⟩:=Value.isStrOf_shape (x:=x) (v:=v) h
  exact .inr ⟨x,t,rfl,e⟩
theorem V7 (a b:Int):decide ((Sum.inl a:Key)=Sum.inl b)=(a == b):=by
 by_cases e:a=b
 ·subst e;simp
 ·have h:¬ (Sum.inl a:Key)=Sum.inl b:=fun q=>e (Sum.inl.inj q)
  rw [decide_eq_false h]
  exact (beq_eq_false_iff_ne.mpr e).symm
theorem Vt (a b:Str):decide ((Sum.inr a:Key)=Sum.inr b)=decide (a=b):=by
 by_cases e:a=b
 ·subst e;simp
 ·have h:¬ (Sum.inr a:Key)=Sum.inr b:=fun q=>e (Sum.inr.inj q)
  rw [decide_eq_false h,decide_eq_false e]
theorem Yv (a:Int)(b:Str):decide ((Sum.inl a:Key)=Sum.inr b)=false:=decide_eq_false (fun q=>nomatch q)
theorem Y7 (a:Str)(b:Int):decide ((Sum.inr a:Key)=Sum.inl b)=false:=decide_eq_false (fun q=>nomatch q)
noncomputable def kj (prog:Program)(w:World):PySem.KeyKind prog w Key where
 is:=X1
 hash:=W2 w
 inj:=fun v a b ha hb=>by
  rcases zy ha with ⟨i,t,rfl,rfl⟩ | ⟨x,t,rfl,rfl⟩
  ·rcases zy hb with ⟨j,u,rfl,e⟩ | ⟨y,u,rfl,e⟩
   ·injection e with e1 _;rw [e1]
   ·exact nomatch e
  ·rcases zy hb with ⟨j,u,rfl,e⟩ | ⟨y,u,rfl,e⟩
   ·exact nomatch e
   ·injection e with e1 _;rw [e1]
 byValue:=fun k v h=>by
  rcases zy h with ⟨i,t,rfl,rfl⟩ | ⟨x,t,rfl,rfl⟩ <;> rfl
 pyHash:=fun hv h=>by
  rcases zy hv with ⟨i,t,rfl,rfl⟩ | ⟨x,t,rfl,rfl⟩
  ·exact wpAny_pyHash_int h
  ·exact wpAny_pyHash_str h
 eqBool:=fun hu hv h=>by
  rcases zy hu with ⟨i,t,rfl,rfl⟩ | ⟨x,t,rfl,rfl⟩
  ·rcases zy hv with ⟨j,u,rfl,rfl⟩ | ⟨y,u,rfl,rfl⟩
   ·rw [V7] at h;exact wpAny_eqBool_int h
   ·rw [Yv] at h;exact SeqAt.EqAt.int_str i t y u _ _ _ _ h
  ·rcases zy hv with ⟨j,u,rfl,rfl⟩ | ⟨y,u,rfl,rfl⟩
   ·rw [Y7] at h;exact SeqAt.EqAt.str_int x t j u _ _ _ _ h
   ·rw [Vt] at h;exact wpAny_eqBool_str h
 «strs»:=fun k x t v h=>by
  rcases zy h with ⟨i,u,rfl,e⟩ | ⟨y,u,rfl,e⟩
  ·exact nomatch e
  ·injection e with e1 _
   subst e1
   cases v <;> rfl
inductive V where
 | non | bl (b:Bool) | int (i:Int) | str (x:Str) | byt (b:Array UInt8) | flt (b:UInt64) | ref (a:Addr) | ty (n:String)
 deriving DecidableEq
noncomputable def zp:V->Value->Prop
 | .non,u=>u=Value.none
 | .bl b,u=>u=Value.bool b
 | .int i,u=>∃ t,u=Value.int i t
 | .str x,u=>∃ t,u=Value.str x t
 | .byt b,u=>∃ t,u=Value.bytes b t
 | .flt b,u=>∃ t,u=Value.float b t
 | .ref a,u=>u=Value.ref a
 | .ty n,u=>u=Value.type n
noncomputable abbrev zl:List V->List Value->Prop:=Paired zp
theorem zl.length {xs:List V}{us:List Value}(r:zl xs us):xs.length=us.length:=Paired.length r
theorem zl.get:∀ {xs:List V} {us:List Value} {i:Nat} {x:V},zl xs us->xs[i]?=some x->∃ u,us[i]?=some u/\zp x u
 | _,_,_,_,.nil,e=>by simp at e
 | _,_,0,_,.cons r _,e=>by simp at e;subst e;exact ⟨_,rfl,r⟩
 | _,_,i+1,x,.cons _ t,e=>by
  obtain ⟨u,h1,h2⟩:=zl.get (i:=i) (x:=x) t (by simpa using e)
  exact ⟨u,by simpa using h1,h2⟩
theorem zl.set {x:V}{u:Value}(r:zp x u):∀ {xs:List V} {us:List Value} (i:Nat),zl xs us->zl (xs.set i x) (us.set i u)
 | _,_,_,.nil=>.nil
 | _,_,0,.cons _ t=>.cons r t
 | _,_,i+1,.cons q t=>.cons q (zl.set r i t)
theorem zl.append:∀ {xs ys:List V} {us ws:List Value},zl xs us->zl ys ws->zl (xs ++ ys) (us ++ ws)
 | _,_,_,_,.nil,s=>s
 | _,_,_,_,.cons r t,s=>.cons r (zl.append t s)
theorem zl.take:∀ {xs:List V} {us:List Value} (n:Nat),zl xs us->zl (xs.take n) (us.take n)
 | _,_,0,_=>.nil
 | _,_,_+1,.nil=>.nil
 | _,_,n+1,.cons r t=>.cons r (zl.take n t)
theorem zl.drop:∀ {xs:List V} {us:List Value} (n:Nat),zl xs us->zl (xs.drop n) (us.drop n)
 | _,_,0,r=>r
 | _,_,_+1,.nil=>.nil
 | _,_,n+1,.cons _ t=>zl.drop n t
noncomputable def Vr:Option V->Option Value->Prop
 | some v,some u=>zp v u
 | none,none=>True
 | _,_=>False
noncomputable def KV {κ:Type}:List (κ × V)->List (κ × Value)->Prop:=Paired fun (p:κ × V) (q:κ × Value)=>p.1=q.1/\zp p.2 q.2
noncomputable def kV:Key->V
 | .inl i=>.int i
 | .inr x=>.str x
inductive HO where
  | lst (xs:List V)
  | tup (xs:List V)
  | dK (kvs:List (Key × V)) | dT (kvs:List (List Key × V))
  | set (S:Int->Bool) (n:Nat)
  | ins (C dx:Addr) (fs:List (Str × V))
  | own (x:Addr)
  | xd (fs:List (Str × V))
  | met (f x:Addr)
  | rng (lo hi:Int)
  | frz (o:Obj) (u:HO)
  | tbl (ps:Array Value)
  | ext (φ:Heap->Prop)
noncomputable abbrev Hp:=Addr->Option HO
noncomputable def upd (H:Hp)(a:Addr)(o:HO):Hp:=fun b=>if b=a then some o else H b
theorem zi {H:Hp}{a:Addr}{o:HO}:upd H a o a=some o:=by unfold upd;rw [if_pos rfl]
theorem zf {H:Hp}{a b:Addr}{o:HO}(h:b ≠ a):upd H a o b=H b:=by unfold upd;rw [if_neg h]
theorem wZ {H:Hp}{a b:Addr}{o u:HO}(h:H a=some o)(h':H b=some u)(d:o ≠ u):a ≠ b:=by
 intro e;subst e;rw [h] at h';exact d (Option.some.inj h')
theorem ze {H:Hp}{a b:Addr}{o:HO}(h:H a=some o)(h':H b=none):a ≠ b:=by
 intro e;subst e;rw [h] at h';cases h'
noncomputable def xK (h:Heap)(a:Addr)(items:Array Value):Prop:=∃ o,h.get? a=some o/\o.cls=.type "tuple"/\(∃ n,o.data=.seq items n)/\o.dict=none
theorem xK.is {h:Heap}{a:Addr}{items:Array Value}(x:xK h a items):IsTup h a items:=let ⟨o,e,c,n,_⟩:=x;⟨o,e,c,n⟩
theorem xK.lt {h:Heap}{a:Addr}{items:Array Value}(x:xK h a items):a<h.objs.size:=x.is.lt
theorem xK.new (h:Heap)(items:Array Value):xK (h.push { cls:=.type "tuple",data:=.seq items }) h.objs.size items:=⟨_,Heap.get?_push_size _ rfl,rfl,⟨_,rfl⟩,rfl⟩
section
variable (P:Program)(w:World)
noncomputable def zx (H:Hp)(h:Heap)(a:Addr):HO->Prop
  | .lst xs=>xs.length<=sizeLine/\∃ (its:List Value) (n:Nat),zl xs its/\h.get? a=some { cls:=.type "list",data:=.seq its.toArray n }
  | .tup xs=>xs.length<=sizeLine/\∃ its:List Value,zl xs its/\xK h a its.toArray
  | .dK kvs=>kvs.length<=sizeLine/\(a == sysModules)=false/\∃ vs,KV kvs vs/\h.DictOf (kj P w) a vs
  | .dT kvs => kvs.length <= sizeLine /\ (a == sysModules) = false /\ ∃ xs : List (List Key × Addr × Value),
      Paired (fun (p:List Key × V) (q:List Key × Addr × Value)=>p.1=q.1/\H q.2.1=some (.tup (p.1.map kV))/\zp p.2 q.2.2) kvs xs /\
      ∃ o es ep,h.get? a=some o/\o.ExactDict/\o.data=.dict es ep/\es.toList=xs.map (entryOfKey (tupleKind (kj P w)))/\(xs.map (·.1)).Nodup
  | .set S n=>h.SetOf (intKind P w) a S n
  | .ins C dx fs => H dx = some (.own a) /\ fs.length <= 1000 /\ dx ≠ a /\ h.get? a = some (PySem.W.instObj C dx) /\
      ∃ mA,h.Ns1 dx mA/\(∀ f,Vr (fs.lookup f) (mA f))/\PySem.Within mA (fs.map (·.1))
  | .own _=>∃ o,h.get? a=some o
  | .xd fs=>∃ mA,h.Ns1 a mA/\∀ f,Vr (fs.lookup f) (mA f)
  | .rng lo hi=>∃ t u v,h.get? a=some { cls:=.type "range",data:=.fields #[.int lo t,.int hi u,.int 1 v] }
  | .frz o u=>h.get? a=some o/\zx H h a u
  | .tbl ps=>h.get? a=some { cls:=.none,data:=.fields ps }
  | .met f x=>h.get? a=some (PySem.W.methodObj (.ref f) (.ref x))
  | .ext φ=>φ h/\(∃ o,h.get? a=some o)/\∀ h1 h2:Heap,φ h1->(∀ o,h1.get? a=some o->h2.get? a=some o)->φ h2
noncomputable def HOk (H:Hp)(h:Heap):Prop:=∀ a o,H a=some o->zx P w H h a o
end
section
variable {P:Program}{w:World}{H H':Hp}{h h':Heap}{a:Addr}{o:HO}
theorem zx.lt (x:zx P w H h a o):a<h.objs.size:=by
 cases o with
 | lst xs=>obtain ⟨_,_,_,_,e⟩:=x;exact Heap.lt_size e
 | tup xs=>obtain ⟨_,_,_,p⟩:=x;exact p.lt
 | dK kvs=>obtain ⟨_,_,_,_,o,_,_,e,_⟩:=x;exact Heap.lt_size e
 | dT kvs=>obtain ⟨_,_,_,_,o,_,_,e,_⟩:=x;exact Heap.lt_size e
 | set S n=>obtain ⟨o,_,_,_,e,_⟩:=x;exact Heap.lt_size e
 | ins C dx fs=>obtain ⟨_,_,_,e,_⟩:=x;exact Heap.lt_size e
 | own y=>obtain ⟨_,e⟩:=x;exact Heap.lt_size e
 | xd fs=>obtain ⟨_,⟨_,_,_,e,_⟩,_⟩:=x;exact Heap.lt_size e
 | rng lo hi=>obtain ⟨_,_,_,e⟩:=x;exact Heap.lt_size e
 | frz ob u=>obtain ⟨e,_⟩:=x;exact Heap.lt_size e
 | tbl ps=>exact Heap.lt_size (show h.get? a=some _ from x)
 | met f y=>exact Heap.lt_size (show h.get? a=some _ from x)
 | ext φ=>obtain ⟨_,⟨_,e⟩,_⟩:=x;exact Heap.lt_size e
theorem Paired.mapP {α β:Type}{F G:α->β->Prop}:∀ {l₁:List α} {l₂:List β},Paired F l₁ l₂->(∀ a b,F a b->G a b)->Paired G l₁ l₂
 | _,_,.nil,_=>.nil
 | _,_,.cons r t,f=>.cons (f _ _ r) (Paired.mapP t f)
theorem zx.stay (x:zx P w H h a o)(k:∀ b u,(b=a \/ H b=some (.own a))->h.get? b=some u->h'.get? b=some u)
  (ho:∀ b,H b=some (.own a)->H' b=some (.own a)) (ht:∀ b xs,H b=some (.tup xs)->H' b=some (.tup xs)):zx P w H' h' a o:=by
 induction o with
 | lst xs=>obtain ⟨z,its,n,r,e⟩:=x;exact ⟨z,its,n,r,k _ _ (.inl rfl) e⟩
 | tup xs=>obtain ⟨z,its,r,ob,e,c⟩:=x;exact ⟨z,its,r,ob,k _ _ (.inl rfl) e,c⟩
 | dK kvs=>obtain ⟨z,y,vs,r,ob,es,ep,e,c⟩:=x;exact ⟨z,y,vs,r,ob,es,ep,k _ _ (.inl rfl) e,c⟩
 | dT kvs=>
  obtain ⟨z,y,xs,r,ob,es,ep,e,c⟩:=x
  exact ⟨z,y,xs,Paired.mapP r fun p q z=>⟨z.1,ht _ _ z.2.1,z.2.2⟩,ob,es,ep,k _ _ (.inl rfl) e,c⟩
 | set S n=>obtain ⟨ob,es,ep,t,e,c⟩:=x;exact ⟨ob,es,ep,t,k _ _ (.inl rfl) e,c⟩
 | ins C dx fs=>
  obtain ⟨d,z,ne,e,mA,⟨od,es,ep,e2,c⟩,r⟩:=x
  exact ⟨ho _ d,z,ne,k _ _ (.inl rfl) e,mA,⟨od,es,ep,k _ _ (.inr d) e2,c⟩,r⟩
 | own y=>obtain ⟨ob,e⟩:=x;exact ⟨ob,k _ _ (.inl rfl) e⟩
 | xd fs=>obtain ⟨mA,⟨od,es,ep,e,c⟩,r⟩:=x;exact ⟨mA,⟨od,es,ep,k _ _ (.inl rfl) e,c⟩,r⟩
 | rng lo hi=>obtain ⟨t,u,v,e⟩:=x;exact ⟨t,u,v,k _ _ (.inl rfl) e⟩
 | frz ob u ih=>obtain ⟨e,q⟩:=x;exact ⟨k _ _ (.inl rfl) e,ih q⟩
 | tbl ps=>
  have e:h.get? a=some { cls:=.none,data:=.fields ps }:=x
  show h'.get? a=some { cls:=.none,data:=.fields ps }
  exact k a _ (.inl rfl) e
 | met f y=>
  have e:h.get? a=some (PySem.W.methodObj (.ref f) (.ref y)):=x
  show h'.get? a=some (PySem.W.methodObj (.ref f) (.ref y))
  exact k a _ (.inl rfl) e
 | ext φ=>obtain ⟨p,⟨o,e⟩,st⟩:=x;exact ⟨st _ _ p fun o q=>k _ _ (.inl rfl) q,⟨o,k _ _ (.inl rfl) e⟩,st⟩
theorem HOk.lt (x:HOk P w H h)(e:H a=some o):a<h.objs.size:=(x a o e).lt
theorem HOk.fresh (x:HOk P w H h)(e:h.objs.size<=a):H a=none:=by
 cases q:H a with
 | none=>rfl
 | some u=>exact absurd (Nat.lt_of_lt_of_le (x.lt q) e) (Nat.lt_irrefl _)
theorem HOk.kept (x:HOk P w H h)(k:∀ b u,h.get? b=some u->h'.get? b=some u):HOk P w H h':=fun a o e=>
 (x a o e).stay (fun b u _ q=>k b u q) (fun _ q=>q) fun _ _ q=>q
theorem HOk.laid (x:HOk P w H h)(k:∀ b u,h.get? b=some u->h'.get? b=some u)(hp:h.objs.size<=a)(new:zx P w (upd H a o) h' a o):HOk P w (upd H a o) h':=fun b u e=>by
 have hn:=x.fresh hp
 by_cases hb:b=a
 ·subst hb;rw [zi] at e;cases e;exact new
 ·rw [zf hb] at e
  exact (x b u e).stay (fun c v _ q=>k c v q) (fun c q=>by rw [zf (ze q hn)];exact q) fun c xs q=>by rw [zf (ze q hn)];exact q
end
noncomputable def Rd (H:Hp)(a:Addr)(u:HO):Prop:=H a=some u \/ ∃ o,H a=some (.frz o u)
theorem Rd.ok {P:Program}{w:World}{H:Hp}{h:Heap}{a:Addr}{u:HO}(r:Rd H a u)(x:HOk P w H h):zx P w H h a u:=by
 rcases r with r | ⟨o,r⟩
 ·exact x a u r
 ·obtain ⟨_,q⟩:=x a _ r
  exact q
noncomputable def Mut:Option HO->Prop
 | some (.lst _)=>True
 | some (.dK _)=>True
 | some (.dT _)=>True
 | some (.set _ _)=>True
 | some (.ins _ _ _)=>True
 | some (.ext _)=>True
 | _=>False
section
variable {P:Program}{w:World}{H:Hp}{h h':Heap}{x e:Addr}{o':HO}
theorem HOk.write (ok : HOk P w H h)(mu : Mut (H x))(he : e = x \/ H e = some (.own x))(k : ∀ b u, b ≠ e -> h.get? b = some u -> h'.get? b = some u)(heo : ∃ u, h'.get? e = some u)
    (new:zx P w (upd H x o') h' x o'):HOk P w (upd H x o') h':=fun b u q=>by
  have nown:∀ c y,H c=some (.own y)->c ≠ x:=fun c y r z=>by subst z;rw [r] at mu;exact mu
  have ntup:∀ c xs,H c=some (.tup xs)->c ≠ x:=fun c xs r z=>by subst z;rw [r] at mu;exact mu
  by_cases hb:b=x
  · subst hb;rw [zi] at q;cases q;exact new
  · rw [zf hb] at q
    by_cases hbe:b=e
    · have q' : H b = some (.own x) := by
        rcases he with z | z
        · exact absurd (hbe.trans z) hb
        · rw [hbe];exact z
      rw [q] at q';cases q'
      obtain ⟨v,hv⟩:=heo
      exact ⟨v,by rw [hbe];exact hv⟩
    · refine (ok b u q).stay (fun c v hc r=>k c v ?_ r) (fun c r=>by rw [zf (nown c b r)];exact r) fun c xs r=>by rw [zf (ntup c xs r)];exact r
      rcases hc with rfl | hc
      · exact hbe
      · rintro rfl
        rcases he with z | z
        · exact nown c b hc z
        · rw [hc] at z;cases z;exact hb rfl
end
structure Un (fs ex:List Addr)(H H':Hp)(h h':Heap):Prop where
 keep:∀ b o,h.get? b=some o->H b=none->b ∉ fs->b ∉ ex->h'.get? b=some o
 slot:∀ b o,h.get? b=some o->H b=none->b ∈ fs->b ∉ ex->∃ sl,h'.get? b=some { o with slots:=sl }
 free:∀ b o,h.get? b=some o->H b=none->b ∉ ex->H' b=none
 there:∀ b o,h.get? b=some o->b ∉ ex->∃ o',h'.get? b=some o'
 tups:∀ b xs,H b=some (.tup xs)->H' b=some (.tup xs)
 frzs:∀ b o u,H b=some (.frz o u)->H' b=some (.frz o u)
 tbls:∀ b ps,H b=some (.tbl ps)->∃ more,H' b=some (.tbl (ps ++ more))
section
variable {fs fs' ex ex':List Addr}{H H1 H2:Hp}{h h1 h2 h':Heap}{a x e:Addr}{o:HO}
theorem Un.any (u:Un fs ex H H1 h h1){b:Addr}{ob:Obj}(q:h.get? b=some ob)(n:H b=none)(hx:b ∉ ex):∃ sl,h1.get? b=some { ob with slots:=sl }:=by
 by_cases hb:b ∈ fs
 ·exact u.slot b ob q n hb hx
 ·exact ⟨ob.slots,u.keep b ob q n hb hx⟩
theorem Un.kept (k:∀ b u,h.get? b=some u->h'.get? b=some u):Un fs ex H H h h':=
 ⟨fun b ob q _ _ _=>k b ob q,fun b ob q _ _ _=>⟨ob.slots,k b ob q⟩,fun _ _ _ n _=>n,fun b ob q _=>⟨ob,k b ob q⟩,fun _ _ q=>q,fun _ _ _ q=>q,fun _ ps q=>⟨#[],by rw [q];simp⟩⟩
theorem Un.refl:Un fs ex H H h h:=Un.kept fun _ _ q=>q
theorem Un.laid (k:∀ b u,h.get? b=some u->h'.get? b=some u)(hp:h.objs.size<=a)(hn:H a=none):Un fs ex H (upd H a o) h h' where
 keep:=fun b u q _ _ _=>k b u q
 slot:=fun b u q _ _ _=>⟨u.slots,k b u q⟩
 free:=fun b u q n _=>by rw [zf (Nat.ne_of_lt (Nat.lt_of_lt_of_le (Heap.lt_size q) hp))];exact n
 there:=fun b u q _=>⟨u,k b u q⟩
 tups:=fun b xs q=>by rw [zf (ze q hn)];exact q
 frzs:=fun b u xs q=>by rw [zf (ze q hn)];exact q
 tbls:=fun b ps q=>⟨#[],by rw [zf (ze q hn),q];simp⟩
theorem Un.write (mu:Mut (H x))(he:e=x \/ H e=some (.own x))(k:∀ b u,b ≠ e->h.get? b=some u->h'.get? b=some u)(heo:∃ u,h'.get? e=some u):Un fs ex H (upd H x o) h h':=by
 have hx:∀ b,H b=none->b ≠ x:=fun b n z=>by subst z;rw [n] at mu;exact mu
 have hb:∀ b,H b=none->b ≠ e:=fun b n z=>by
  subst z
  rcases he with r | r
  ·exact hx b n r
  ·rw [n] at r;cases r
 have hm:∀ b u,H b=some u->¬ Mut (some u)->b ≠ x:=fun b u q nm z=>by subst z;rw [q] at mu;exact nm mu
 refine ⟨fun b u q n _ _=>k b u (hb b n) q,fun b u q n _ _=>⟨u.slots,k b u (hb b n) q⟩,fun b u q n _=>by rw [zf (hx b n)];exact n,fun b u q _=>?_,
  fun b xs q=>by rw [zf (hm b _ q fun z=>z)];exact q,fun b u xs q=>by rw [zf (hm b _ q fun z=>z)];exact q,fun b ps q=>⟨#[],by rw [zf (hm b _ q fun z=>z),q];simp⟩⟩
 by_cases hbe:b=e
 ·subst hbe;exact heo
 ·exact ⟨u,k b u hbe q⟩
end
noncomputable def trk (h:Heap)(H:Hp):List Addr:=(List.range h.objs.size).filter fun a=>(H a).isSome
noncomputable def jz (h:Heap)(H:Hp):Heap:=PySem.W.hideAll h (trk h H)
theorem xw (h:Heap)(H:Hp):(jz h H).objs.size=h.objs.size:=PySem.W.hideAll_size _ _
theorem vg {h:Heap}{H:Hp}{b:Addr}{o:Obj}(e:h.get? b=some o)(n:H b=none):(jz h H).get? b=some o:=
 PySem.W.hideAll_get _ e fun hm=>by
  have q:(H b).isSome=true:=(List.mem_filter.mp hm).2
  rw [n] at q;simp at q
theorem Zb {h:Heap}{H:Hp}{b:Addr}{o:Obj}(e:(jz h H).get? b=some o):h.get? b=some o/\H b=none:=by
 have e':h.get? b=some o:=PySem.W.of_hideAll (trk h H) e
 refine ⟨e',?_⟩
 cases q:H b with
 | none=>rfl
 | some x=>
  have hm:b ∈ trk h H:=List.mem_filter.mpr ⟨List.mem_range.mpr (Heap.lt_size e'),by simp [q]⟩
  have z:(jz h H).get? b=none:=PySem.W.hideAll_none (trk h H) hm
  rw [z] at e;cases e
noncomputable def KG (g h:Heap)(L:Addr):List (Addr × Obj):=(List.range h.objs.size).filterMap fun a=>if a=L \/ (g.get? a).isSome=true then none else (h.get? a).map fun o=>(a,o)
noncomputable def zm (g h:Heap)(L d:Addr):List (Addr × Obj):=(KG g h L).filter fun p=>decide (p.1 ≠ d)
structure Mod (K:PySem.W.Frag)(mg:Str->Option Value)(base:Heap):Prop where
 kin:K.In base
 glob:base.Ns mainGlobals mg
 blt:∃ mb,base.Ns builtinsNs mb/\∀ x:Str,x ≠ "__name__"->mb x=bootBuiltins x
 nolimit:base.NoLimit
structure Cx where
 prog:Program
 w:World
 K:PySem.W.Frag
 mg:Str->Option Value
 base:Heap
 A:Around
 N:List Str
 s₀:Shared
 H₀:Hp
 env:Env
 outer:List Env
 stack:List Env
 ex:List Addr
 fn:Str->Bool
 calm:Bool
 pn:List (Addr × Obj)
 xe:Value->Shared->Prop
noncomputable def frs (l:List Env):List Addr:=l.filterMap (·.frame)
noncomputable abbrev Cx.fs (X:Cx):List Addr:=frs X.outer
noncomputable def Vis (sc:Scope)(x:Str):Prop:=sc.names.lookup x=some .local \/ sc.names.lookup x=some .cell \/ sc.names.lookup x=some .free
noncomputable def Loc (sc:Scope)(x:Str):Prop:=sc.names.lookup x=some .local \/ sc.names.lookup x=some .cell
noncomputable def Ab (env:Env)(h:Heap)(m:Str->Option Value)(x:Str)(u:Value):Prop:=
 (env.kindOf x=some .local/\m x=some u) \/ ((env.kindOf x=some .cell \/ env.kindOf x=some .free)/\∃ c,env.cells.lookup x=some c/\h.IsCell c (some u))
structure Cx.Ok (X:Cx):Prop where
 mod:Mod X.K X.mg X.base
 kind:X.env.scope.kind=.function
 glob:X.env.globals=mainGlobals
 blt:X.env.builtins=builtinsNs
 above:X.s₀.heap.objs.size<=X.env.locals
 inj:∀ x y c,X.env.cells.lookup x=some c->X.env.cells.lookup y=some c->x=y
 has:∀ x,(X.env.kindOf x=some .cell \/ X.env.kindOf x=some .free)->∃ c,X.env.cells.lookup x=some c
 cab:∀ x c,X.fn x=true->X.env.cells.lookup x=some c->X.s₀.heap.objs.size<=c
 hd:X.calm=true->X.A.handled=none
 frames:X.A.frames=some X.stack
 stk:X.stack=X.outer \/ (X.stack=X.env :: X.outer/\X.env.frame=some X.env.locals)
 exf:∀ b ∈ X.ex,b ≠ X.env.locals/\∀ x c,X.env.cells.lookup x=some c->c ≠ b
 bs:∀ b o,X.base.get? b=some o->X.s₀.heap.get? b=some o/\X.H₀ b=none
 bsz:X.base.objs.size<=X.s₀.heap.objs.size
 noex:∀ b o,X.base.get? b=some o->b ∉ X.ex
 exfs:∀ b ∈ X.ex,b ∉ X.fs
 funs:X.s₀.heap.FunFrames X.base X.outer
 frf:∀ b ∈ X.fs,X.H₀ b=none
structure Inv (X:Cx)(pins:List (Addr × Obj))(σ:List (Option V))(H:Hp)(s:Shared):Prop where
 ok:X.Ok
 os:s.os=X.s₀.os
 bare:AllBare s.gens
 base:Un X.fs X.ex X.H₀ H X.s₀.heap s.heap
 loc:∃ m,s.heap.Ns X.env.locals m/\∀ (i:Nat) (x:Str) (v:V),X.N[i]?=some x->σ[i]?=some (some v)->Vis X.env.scope x->∃ u,zp v u/\Ab X.env s.heap m x u
 cell:∀ x c,X.env.cells.lookup x=some c->∃ v,s.heap.IsCell c v
 free:H X.env.locals=none
 freeC:∀ x c,X.env.cells.lookup x=some c->H c=none
 pin:∀ p ∈ X.pn ++ pins,s.heap.get? p.1=some p.2/\H p.1=none/\p.1 ≠ X.env.locals/\p.1 ∉ X.fs/\∀ v,p.2.data ≠ .cell v
 hok:HOk X.prog X.w H s.heap
 len:σ.length=X.N.length
section
variable {X:Cx}{pins:List (Addr × Obj)}{σ:List (Option V)}{H H':Hp}{s:Shared}{h':Heap}
theorem Cx.Ok.nofr (ok:X.Ok){b:Addr}{o:Obj}(e:X.base.get? b=some o):b ∉ X.fs:=fun hb=>by
 have:=(ok.funs.mem hb).1
 rw [e] at this;cases this
theorem Inv.bs (I:Inv X pins σ H s):∀ b o,X.base.get? b=some o->s.heap.get? b=some o/\H b=none:=fun b o e=>
 ⟨I.base.keep b o (I.ok.bs b o e).1 (I.ok.bs b o e).2 (I.ok.nofr e) (I.ok.noex b o e),I.base.free b o (I.ok.bs b o e).1 (I.ok.bs b o e).2 (I.ok.noex b o e)⟩
theorem Inv.bk (I:Inv X pins σ H s):∀ b o,X.base.get? b=some o->s.heap.get? b=some o:=fun b o e=>(I.bs b o e).1
theorem Inv.mod (I:Inv X pins σ H s):Mod X.K X.mg X.base:=I.ok.mod
theorem Inv.kIn (I:Inv X pins σ H s):X.K.In s.heap:=I.ok.mod.kin.keeps I.bk
theorem Inv.nolimit (I:Inv X pins σ H s):s.heap.NoLimit:=I.ok.mod.nolimit.keeps I.bk
theorem Inv.lt (I:Inv X pins σ H s):X.env.locals<s.heap.objs.size:=let ⟨_,hn,_⟩:=I.loc;hn.lt
theorem Inv.sz (I:Inv X pins σ H s):X.s₀.heap.objs.size<=s.heap.objs.size:=Nat.le_trans I.ok.above (Nat.le_of_lt I.lt)
theorem Inv.nofs (I:Inv X pins σ H s){a:Addr}(h:s.heap.objs.size<=a):a ∉ X.fs:=fun hb=>by
 obtain ⟨_,o,ho,_⟩:=I.ok.funs.mem hb
 exact absurd (Nat.lt_of_lt_of_le (Heap.lt_size ho) (Nat.le_trans I.sz h)) (Nat.lt_irrefl _)
theorem Inv.cne (I:Inv X pins σ H s):∀ x c,X.env.cells.lookup x=some c->c ≠ X.env.locals:=fun x c e z=>by
 obtain ⟨v,o,ho,hd⟩:=I.cell x c e
 obtain ⟨m,⟨o',es,ep,ho',hd',_⟩,_⟩:=I.loc
 rw [z,ho'] at ho;cases ho;rw [hd'] at hd;cases hd
theorem Inv.funs (I:Inv X pins σ H s):s.heap.FunFrames X.base X.outer:=by
 have all:∀ (l:List Env),(∀ b ∈ frs l,b ∈ X.fs)->X.s₀.heap.FunFrames X.base l->s.heap.FunFrames X.base l:=by
  intro l
  induction l with
  | nil=>intro _ _;trivial
  | cons env r ih=>
   intro hs hl
   obtain ⟨hk,⟨L,o,hf,hn,ho,hd⟩,hr⟩:=hl
   have hL:L ∈ X.fs:=hs L (by unfold frs;rw [List.filterMap_cons,hf];exact List.mem_cons_self)
   obtain ⟨sl,e⟩:=I.base.slot L o ho (I.ok.frf L hL) hL fun z=>I.ok.exfs L z hL
   exact ⟨hk,⟨L,_,hf,hn,e,hd⟩,ih (fun b hb=>hs b (by unfold frs;rw [List.filterMap_cons,hf];exact List.mem_cons_of_mem _ hb)) hr⟩
 exact all X.outer (fun _ hb=>hb) I.ok.funs
theorem Inv.stack (I:Inv X pins σ H s):s.heap.FunFrames X.base X.stack:=by
 rcases I.ok.stk with e | ⟨e,hf⟩
 ·rw [e];exact I.funs
 ·rw [e]
  obtain ⟨m,hn,_⟩:=I.loc
  refine .cons (by rw [I.ok.kind];decide) hf hn ?_ I.funs
  exact Heap.get?_none_of_le (Nat.le_trans I.ok.bsz I.ok.above)
theorem Inv.stkSub (I:Inv X pins σ H s):∀ b ∈ frs X.stack,b ∈ X.env.locals :: X.fs:=fun b hb=>by
 rcases I.ok.stk with e | ⟨e,hf⟩
 ·rw [e] at hb;exact List.mem_cons_of_mem _ hb
 ·rw [e] at hb
  unfold frs at hb
  rw [List.filterMap_cons,hf] at hb
  exact hb
theorem Inv.stkFree (I:Inv X pins σ H s):∀ b ∈ frs X.stack,H b=none:=fun b hb=>by
 rcases List.mem_cons.mp (I.stkSub b hb) with e | hb
 ·rw [e];exact I.free
 ·obtain ⟨_,o,ho,_⟩:=I.ok.funs.mem hb
  exact I.base.free b o ho (I.ok.frf b hb) fun z=>I.ok.exfs b z hb
theorem Inv.step {g':Array GenState}{t':Nat}{d':Drawn}{ch:List Addr}(I:Inv X pins σ H s)
  (hch:∀ b ∈ ch,(b ∈ X.ex \/ X.s₀.heap.objs.size<=b)/\b ≠ X.env.locals/\(∀ x c,X.env.cells.lookup x=some c->c ≠ b)/\∀ p ∈ X.pn ++ pins,p.1 ≠ b)
  (keep:∀ b o,b ≠ X.env.locals->b ∉ X.fs->b ∉ ch->s.heap.get? b=some o->H b=none->h'.get? b=some o)
  (slot:∀ b o,b ≠ X.env.locals->b ∈ X.fs->b ∉ ch->s.heap.get? b=some o->H b=none->∃ sl,h'.get? b=some { o with slots:=sl }) (free:∀ b o,b ∉ ch->s.heap.get? b=some o->H b=none->H' b=none)
  (there:∀ b o,b ∉ ch->s.heap.get? b=some o->∃ o',h'.get? b=some o')
  (tups:∀ b xs,H b=some (.tup xs)->H' b=some (.tup xs)) (frzs:∀ b o u,H b=some (.frz o u)->H' b=some (.frz o u)) (tbls:∀ b ps,H b=some (.tbl ps)->∃ more,H' b=some (.tbl (ps ++ more)))
  (ns:∀ m,s.heap.Ns X.env.locals m->h'.Ns X.env.locals m) (hok:HOk X.prog X.w H' h') (hg:AllBare g') :
  Inv X pins σ H' { s with heap:=h',gens:=g',drawn:=d',toks:=t' }:=by
 have neL:∀ b o,X.s₀.heap.get? b=some o->b ≠ X.env.locals:=fun b o e=>Nat.ne_of_lt (Nat.lt_of_lt_of_le (Heap.lt_size e) I.ok.above)
 have neC:∀ b o,X.s₀.heap.get? b=some o->b ∉ X.ex->b ∉ ch:=fun b o e hx hb=>by
  rcases (hch b hb).1 with z | z
  ·exact hx z
  ·exact absurd (Nat.lt_of_lt_of_le (Heap.lt_size e) z) (Nat.lt_irrefl _)
 have cellK:∀ x c,X.env.cells.lookup x=some c->∀ v,s.heap.IsCell c v->h'.IsCell c v:=fun x c e v ⟨o,ho,hd⟩=>by
  have nch:c ∉ ch:=fun z=>(hch c z).2.2.1 x c e rfl
  by_cases hc:c ∈ X.fs
  ·obtain ⟨sl,q⟩:=slot c o (I.cne x c e) hc nch ho (I.freeC x c e)
   exact ⟨_,q,hd⟩
  ·exact ⟨o,keep c o (I.cne x c e) hc nch ho (I.freeC x c e),hd⟩
 refine ⟨I.ok,I.os,hg,⟨fun b o e n hb hx=>?_,fun b o e n hb hx=>?_,fun b o e n hx=>?_,fun b o e hx=>?_,fun b xs e=>tups b xs (I.base.tups b xs e),fun b o xs e=>frzs b o xs (I.base.frzs b o xs e),fun b ps e=>?_⟩,?_,fun x c e=>?_,?_,fun x c e=>?_,fun p hp=>?_,hok,I.len⟩
 ·exact keep b o (neL b o e) hb (neC b o e hx) (I.base.keep b o e n hb hx) (I.base.free b o e n hx)
 ·obtain ⟨sl,e1⟩:=I.base.slot b o e n hb hx
  obtain ⟨sl',e2⟩:=slot b _ (neL b o e) hb (neC b o e hx) e1 (I.base.free b o e n hx)
  exact ⟨sl',e2⟩
 ·obtain ⟨o',e1⟩:=I.base.there b o e hx
  exact free b o' (neC b o e hx) e1 (I.base.free b o e n hx)
 ·obtain ⟨o',e1⟩:=I.base.there b o e hx
  exact there b o' (neC b o e hx) e1
 ·obtain ⟨m1,e1⟩:=I.base.tbls b ps e
  obtain ⟨m2,e2⟩:=tbls b _ e1
  exact ⟨m1 ++ m2,by rw [e2,Array.append_assoc]⟩
 ·obtain ⟨m,hn,hl⟩:=I.loc
  refine ⟨m,ns m hn,fun i x v e1 e2 e3=>?_⟩
  obtain ⟨u,r,l⟩:=hl i x v e1 e2 e3
  refine ⟨u,r,?_⟩
  rcases l with l | ⟨k,c,e,z⟩
  ·exact .inl l
  ·exact .inr ⟨k,c,e,cellK x c e _ z⟩
 ·obtain ⟨v,z⟩:=I.cell x c e
  exact ⟨v,cellK x c e v z⟩
 ·obtain ⟨m,⟨o,_,_,ho,_⟩,_⟩:=I.loc
  exact free _ o (fun z=>(hch _ z).2.1 rfl) ho I.free
 ·obtain ⟨v,o,ho,hd⟩:=I.cell x c e
  exact free c o (fun z=>(hch c z).2.2.1 x c e rfl) ho (I.freeC x c e)
 ·obtain ⟨e,n,ne,nf,d⟩:=I.pin p hp
  have nch:p.1 ∉ ch:=fun z=>(hch p.1 z).2.2.2 p hp rfl
  exact ⟨keep p.1 p.2 ne nf nch e n,free p.1 p.2 nch e n,ne,nf,d⟩
theorem Inv.un {t':Nat}(I:Inv X pins σ H s)(u:Un X.fs [] H H' s.heap h')(hok:HOk X.prog X.w H' h'):Inv X pins σ H' { s with heap:=h',toks:=t' }:=by
 obtain ⟨m,⟨o,es,ep,ho,r⟩,_⟩:=id I.loc
 obtain ⟨sl,hL⟩:=u.any ho I.free (by simp)
 exact I.step (g':=s.gens) (d':=s.drawn) (ch:=[]) (fun _ z=>nomatch z) (fun b o _ hb _ e n=>u.keep b o e n hb (by simp)) (fun b o _ hb _ e n=>u.slot b o e n hb (by simp)) (fun b o _ e n=>u.free b o e n (by simp)) (fun b o _ e=>u.there b o e (by simp)) u.tups u.frzs u.tbls (fun m' hm=>by
  obtain ⟨o',es',ep',ho',r'⟩:=hm
  rw [ho] at ho';cases ho'
  exact ⟨_,es',ep',hL,r'⟩) hok I.bare
theorem Inv.call {g':Array GenState}{t':Nat}{d':Drawn}{ch:List Addr}(I:Inv X pins σ H s)(u:Un (frs X.stack) ch H H' s.heap h')(hok:HOk X.prog X.w H' h')(hg:AllBare g')
  (hch:∀ b ∈ ch,(b ∈ X.ex \/ X.s₀.heap.objs.size<=b)/\b ≠ X.env.locals/\(∀ x c,X.env.cells.lookup x=some c->c ≠ b)/\∀ p ∈ X.pn ++ pins,p.1 ≠ b) :
  Inv X pins σ H' { s with heap:=h',gens:=g',drawn:=d',toks:=t' }:=by
 obtain ⟨m,⟨o,es,ep,ho,r⟩,_⟩:=id I.loc
 obtain ⟨sl,hL⟩:=u.any ho I.free fun z=>(hch _ z).2.1 rfl
 exact I.step (ch:=ch) hch (fun b o hL hb hc e n=>u.keep b o e n (fun z=>(List.mem_cons.mp (I.stkSub b z)).elim hL hb) hc) (fun b o _ _ hc e n=>u.any e n hc) (fun b o hc e n=>u.free b o e n hc) (fun b o hc e=>u.there b o e hc) u.tups u.frzs u.tbls (fun m' hm=>by
  obtain ⟨o',es',ep',ho',r'⟩:=hm
  rw [ho] at ho';cases ho'
  exact ⟨_,es',ep',hL,r'⟩) hok hg
theorem Inv.turned {t':Nat}{it:Addr}(I:Inv X pins σ H s)(k:∀ b o,b ≠ it->s.heap.get? b=some o->h'.get? b=some o)(hn:H it=none)(hL:it ≠ X.env.locals)
  (h1:it ∈ X.ex \/ X.s₀.heap.objs.size<=it) (h2:∀ x c,X.env.cells.lookup x=some c->c ≠ it) (h3:∀ p ∈ X.pn ++ pins,p.1 ≠ it):Inv X pins σ H { s with heap:=h',toks:=t' }:=by
 have nit:∀ b u,H b=some u->b ≠ it:=fun b u e z=>by rw [z,hn] at e;cases e
 refine I.step (g':=s.gens) (d':=s.drawn) (ch:=[it]) (fun b hb=>?_) (fun b o _ _ hc e _=>k b o (fun z=>hc (by simp [z])) e) (fun b o _ _ hc e _=>⟨o.slots,k b o (fun z=>hc (by simp [z])) e⟩) (fun _ _ _ _ n=>n)
  (fun b o hc e=>⟨o,k b o (fun z=>hc (by simp [z])) e⟩) (fun _ _ e=>e) (fun _ _ _ e=>e) (fun b ps e=>⟨#[],by rw [e];simp⟩) (fun m hm=>?_) (fun b u e=>?_) I.bare
 ·have e:b=it:=by simpa using hb
  subst e
  exact ⟨h1,hL,h2,h3⟩
 ·obtain ⟨o,es,ep,ho,r⟩:=hm
  exact ⟨o,es,ep,k _ o (Ne.symm hL) ho,r⟩
 ·refine (I.hok b u e).stay (fun c v hc q=>k c v ?_ q) (fun _ q=>q) fun _ _ q=>q
  rcases hc with z | z
  ·rw [z];exact nit b u e
  ·exact nit c _ z
theorem Inv.tok (I:Inv X pins σ H s)(t:Nat):Inv X pins σ H { s with toks:=t }:=I.un (h':=s.heap) (t':=t) Un.refl I.hok
theorem Inv.kept {t':Nat}(I:Inv X pins σ H s)(k:∀ b u,s.heap.get? b=some u->h'.get? b=some u):Inv X pins σ H { s with heap:=h',toks:=t' }:=I.un (Un.kept k) (I.hok.kept k)
theorem Inv.laid {a:Addr}{o:HO}{t':Nat}(I:Inv X pins σ H s)(k:∀ b u,s.heap.get? b=some u->h'.get? b=some u)(hp:s.heap.objs.size<=a)(new:zx X.prog X.w (upd H a o) h' a o) :
  Inv X pins σ (upd H a o) { s with heap:=h',toks:=t' }:=I.un (Un.laid k hp (I.hok.fresh hp)) (I.hok.laid k hp new)
theorem Inv.write {x e:Addr}{o:HO}{t':Nat}(I:Inv X pins σ H s)(mu:Mut (H x))(he:e=x \/ H e=some (.own x))(k:∀ b u,b ≠ e->s.heap.get? b=some u->h'.get? b=some u)(heo:∃ u,h'.get? e=some u)
  (new:zx X.prog X.w (upd H x o) h' x o):Inv X pins σ (upd H x o) { s with heap:=h',toks:=t' }:=I.un (Un.write mu he k heo) (I.hok.write mu he k heo new)
theorem Inv.pins_of {pins':List (Addr × Obj)}(I:Inv X pins σ H s)(h:∀ p ∈ pins',s.heap.get? p.1=some p.2/\H p.1=none/\p.1 ≠ X.env.locals/\p.1 ∉ X.fs/\∀ v,p.2.data ≠ .cell v):Inv X pins' σ H s:=
 ⟨I.ok,I.os,I.bare,I.base,I.loc,I.cell,I.free,I.freeC,fun p hp=>(List.mem_append.mp hp).elim (fun z=>I.pin p (List.mem_append_left _ z)) (h p),I.hok,I.len⟩
theorem yX {N:List Str}(hN:N.Nodup){i j:Nat}{x:Str}(a:N[i]?=some x)(b:N[j]?=some x):i=j:=by
 obtain ⟨h1,e1⟩:=List.getElem?_eq_some_iff.mp a
 obtain ⟨h2,e2⟩:=List.getElem?_eq_some_iff.mp b
 exact (List.getElem_inj hN).mp (e1.trans e2.symm)
theorem xp {M : Model}{A : Around}{E : Value -> Shared -> Prop}{i : Nat}{x : Str}{v : V}{u : Value}{Q : Unit -> Shared -> Prop}(I : Inv X pins σ H s)(hN : X.N.Nodup)(hi : X.N[i]? = some x)(hx : Loc X.env.scope x)(r : zp v u)
    (h:∀ s',Inv X pins (σ.set i (some v)) H s'->(∃ a,Heap.SameBut a s.heap s'.heap/\(a=X.env.locals \/ X.env.cells.lookup x=some a))->Q () s') (hf:X.fn x=true \/ X.env.scope.names.lookup x=some .local:=by first | exact .inl rfl | exact .inr rfl | assumption):wpAny M A (storeName X.env x u) Q E s:=by
  obtain ⟨m,hn,hl⟩:=id I.loc
  have hcls:(X.env.scope.kind == .class || (X.env.scope.kind == .module && X.env.locals != X.env.globals))=false:=by rw [I.ok.kind];rfl
  have hiσ:i<σ.length:=by rw [I.len];exact (List.getElem?_eq_some_iff.mp hi).1
  have cne:=I.cne
  have tracked:∀ {a:Addr} {h':Heap},(∃ o,s.heap.get? a=some o/\H a=none)->Heap.SameBut a s.heap h'->HOk X.prog X.w H h':=fun {a h'} ha hs b ob e=>by
    obtain ⟨_,_,hfree⟩:=ha
    refine (I.hok b ob e).stay (fun c w' hc q=>(hs.2 c ?_).trans q) (fun _ q=>q) fun _ _ q=>q
    rintro rfl
    rcases hc with rfl | hc
    · rw [hfree] at e;cases e
    · rw [hfree] at hc;cases hc
  rcases hx with hk | hk
  · refine wpAny_storeName_local hk hn (fun h' hn' hs=>?_) hcls
    obtain ⟨oL,_,_,hoL,_⟩:=id hn
    refine h _ ⟨I.ok,I.os,I.bare,⟨fun b o e n hb hx=>?_,fun b o e n hb hx=>?_,I.base.free,fun b o e hx=>?_,I.base.tups,I.base.frzs,I.base.tbls⟩,⟨_,hn',fun j y v' e1 e2 e3=>?_⟩,fun y c e=>?_,I.free,I.freeC,fun p hp=>?_,tracked ⟨oL,hoL,I.free⟩ hs,by simpa using I.len⟩ ⟨_,hs,.inl rfl⟩
    · exact (hs.2 b (Nat.ne_of_lt (Nat.lt_of_lt_of_le (Heap.lt_size e) I.ok.above))).trans (I.base.keep b o e n hb hx)
    · obtain ⟨sl,e1⟩:=I.base.slot b o e n hb hx
      exact ⟨sl,(hs.2 b (Nat.ne_of_lt (Nat.lt_of_lt_of_le (Heap.lt_size e) I.ok.above))).trans e1⟩
    · obtain ⟨o',e1⟩:=I.base.there b o e hx
      exact ⟨o',(hs.2 b (Nat.ne_of_lt (Nat.lt_of_lt_of_le (Heap.lt_size e) I.ok.above))).trans e1⟩
    · by_cases hj:j=i
      · subst hj
        rw [hi] at e1;cases e1
        rw [List.getElem?_set_self hiσ] at e2
        cases e2
        exact ⟨u,r,.inl ⟨hk,by simp⟩⟩
      · rw [List.getElem?_set_ne (Ne.symm hj)] at e2
        obtain ⟨u',r',q⟩:=hl j y v' e1 e2 e3
        refine ⟨u',r',?_⟩
        rcases q with ⟨k,e⟩ | ⟨k,c,e,z⟩
        · refine .inl ⟨k,?_⟩
          have:y ≠ x:=fun e=>hj (yX hN e1 (e ▸ hi))
          simp [this,e]
        · exact .inr ⟨k,c,e,z.sameBut hs (cne y c e)⟩
    · obtain ⟨w',z⟩:=I.cell y c e
      exact ⟨w',z.sameBut hs (cne y c e)⟩
    · obtain ⟨e,n,ne,nf,d⟩:=I.pin p hp
      exact ⟨(hs.2 p.1 ne).trans e,n,ne,nf,d⟩
  · have hfn : X.fn x = true := by
      rcases hf with z | z
      · exact z
      · rw [z] at hk;cases hk
    obtain ⟨c,hc⟩:=I.ok.has x (.inl hk)
    obtain ⟨w',z⟩:=I.cell x c hc
    refine wpAny_storeName_cell I.ok.kind hk hc z (fun h' hc' hs=>?_)
    obtain ⟨oc,hoc,hocd⟩:=id z
    refine h { s with heap:=h' } ⟨I.ok,I.os,I.bare,⟨fun b o e n hb hx=>?_,fun b o e n hb hx=>?_,I.base.free,fun b o e hx=>?_,I.base.tups,I.base.frzs,I.base.tbls⟩,⟨m,hn.sameBut hs (Ne.symm (cne x c hc)),fun j y v' e1 e2 e3=>?_⟩,fun y c' e=>?_,I.free,I.freeC,fun p hp=>?_,tracked ⟨oc,hoc,I.freeC x c hc⟩ hs,by simpa using I.len⟩ ⟨c,hs,.inr hc⟩
    · exact (hs.2 b (Nat.ne_of_lt (Nat.lt_of_lt_of_le (Heap.lt_size e) (I.ok.cab x c hfn hc)))).trans (I.base.keep b o e n hb hx)
    · obtain ⟨sl,e1⟩:=I.base.slot b o e n hb hx
      exact ⟨sl,(hs.2 b (Nat.ne_of_lt (Nat.lt_of_lt_of_le (Heap.lt_size e) (I.ok.cab x c hfn hc)))).trans e1⟩
    · obtain ⟨o',e1⟩:=I.base.there b o e hx
      exact ⟨o',(hs.2 b (Nat.ne_of_lt (Nat.lt_of_lt_of_le (Heap.lt_size e) (I.ok.cab x c hfn hc)))).trans e1⟩
    · by_cases hj:j=i
      · subst hj
        rw [hi] at e1;cases e1
        rw [List.getElem?_set_self hiσ] at e2
        cases e2
        exact ⟨u,r,.inr ⟨.inl hk,c,hc,hc'⟩⟩
      · rw [List.getElem?_set_ne (Ne.symm hj)] at e2
        obtain ⟨u',r',q⟩:=hl j y v' e1 e2 e3
        refine ⟨u',r',?_⟩
        rcases q with q | ⟨k,c',e,z'⟩
        · exact .inl q
        · refine .inr ⟨k,c',e,z'.sameBut hs ?_⟩
          rintro rfl
          exact hj (yX hN e1 (I.ok.inj _ _ _ e hc ▸ hi))
    · by_cases hcc:c'=c
      · subst hcc;exact ⟨_,hc'⟩
      · obtain ⟨w2,z2⟩:=I.cell y c' e
        exact ⟨w2,z2.sameBut hs hcc⟩
    · obtain ⟨e,n,ne,nf,d⟩:=I.pin p hp
      refine ⟨(hs.2 p.1 ?_).trans e,n,ne,nf,d⟩
      intro q
      rw [q,hoc] at e
      have q':oc=p.2:=Option.some.inj e
      exact d w' (by rw [<- q'];exact hocd)
theorem yx {M:Model}{A:Around}{E:Value->Shared->Prop}{i:Nat}{x:Str}{v:V}{u:Value}{Q:Unit->Shared->Prop}(I:Inv X pins σ H s)(hN:X.N.Nodup)(hi:X.N[i]?=some x)(hx:Loc X.env.scope x)(r:zp v u)
  (h:∀ s',Inv X pins (σ.set i (some v)) H s'->Q () s') (hf:X.fn x=true \/ X.env.scope.names.lookup x=some .local:=by first | exact .inl rfl | exact .inr rfl | assumption):wpAny M A (storeName X.env x u) Q E s:=
 xp I hN hi hx r (fun s' I' _=>h s' I') hf
theorem Inv.call' {s':Shared}{ch:List Addr}(I:Inv X pins σ H s)(ho:s'.os=s.os)(u:Un (frs X.stack) ch H H' s.heap s'.heap)(hok:HOk X.prog X.w H' s'.heap)(hg:AllBare s'.gens)
  (hch:∀ b ∈ ch,(b ∈ X.ex \/ X.s₀.heap.objs.size<=b)/\b ≠ X.env.locals/\(∀ x c,X.env.cells.lookup x=some c->c ≠ b)/\∀ p ∈ X.pn ++ pins,p.1 ≠ b):Inv X pins σ H' s':=by
 obtain ⟨h',g',d',t',o'⟩:=s'
 have e:o'=s.os:=ho
 subst e
 exact I.call (g':=g') (t':=t') (d':=d') u hok hg hch
end
noncomputable abbrev XK:=Value->Option Addr->Hp->Prop
noncomputable abbrev St:=List (Option V)
noncomputable abbrev VK:=V->Hp->Prop
noncomputable abbrev TE:=St->Hp->VK->Prop
noncomputable abbrev TT:=St->Hp->(Bool->Hp->Prop)->Prop
noncomputable abbrev TA:=St->Hp->(List V->Hp->Prop)->Prop
structure jR where
 nx:St->Hp->Prop
 rt:VK
 bk:St->Hp->Prop:=fun _ _=>False
 ct:St->Hp->Prop:=fun _ _=>False
noncomputable abbrev TS:=jR->St->Hp->Prop
noncomputable def EP (X:Cx)(pins:List (Addr × Obj))(σ:St)(Q:VK)(u:Value)(s':Shared):Prop:=∃ v H',Inv X pins σ H' s'/\zp v u/\Q v H'
noncomputable def TP (X:Cx)(pins:List (Addr × Obj))(σ:St)(Q:Bool->Hp->Prop)(b:Bool)(s':Shared):Prop:=∃ H',Inv X pins σ H' s'/\Q b H'
noncomputable def AP (X:Cx)(pins:List (Addr × Obj))(σ:St)(Q:List V->Hp->Prop)(us:List Value)(s':Shared):Prop:=∃ vs H',Inv X pins σ H' s'/\zl vs us/\Q vs H'
noncomputable def SP (X:Cx)(pins:List (Addr × Obj))(D:jR)(f:Flow)(s':Shared):Prop:=
 match f with
 | .next=>∃ σ' H',Inv X pins σ' H' s'/\D.nx σ' H'
 | .brk=>∃ σ' H',Inv X pins σ' H' s'/\D.bk σ' H'
 | .cont=>∃ σ' H',Inv X pins σ' H' s'/\D.ct σ' H'
 | .ret u=>∃ v σ' H',Inv X pins σ' H' s'/\zp v u/\D.rt v H'
noncomputable def PE (X:Cx)(e:Expr)(t:TE):Prop:=
 ∀ (pins:List (Addr × Obj)) (s:Shared) (σ:St) (H:Hp) (Q:VK),Inv X pins σ H s->t σ H Q->wpAny (model X.prog X.w) X.A (eval e X.env) (EP X pins σ Q) X.xe s
noncomputable def PT (X:Cx)(e:Expr)(t:TT):Prop:=
 ∀ (pins:List (Addr × Obj)) (s:Shared) (σ:St) (H:Hp) (Q:Bool->Hp->Prop),Inv X pins σ H s->t σ H Q->wpAny (model X.prog X.w) X.A (isTrue e X.env (eval e X.env)) (TP X pins σ Q) X.xe s
noncomputable def PW (X:Cx)(e:Expr)(t:TT):Prop:=
 ∀ (whole:Sem Value) (pins:List (Addr × Obj)) (s:Shared) (σ:St) (H:Hp) (Q:Bool->Hp->Prop),Inv X pins σ H s->t σ H Q->wpAny (model X.prog X.w) X.A (isTrue e X.env whole) (TP X pins σ Q) X.xe s
theorem PW.pt {X:Cx}{e:Expr}{t:TT}(h:PW X e t):PT X e t:=h _
noncomputable def PA (X:Cx)(es:List Expr)(t:TA):Prop:=
 ∀ (pos:Pos) (pins:List (Addr × Obj)) (s:Shared) (σ:St) (H:Hp) (Q:List V->Hp->Prop),Inv X pins σ H s->t σ H Q->wpAny (model X.prog X.w) X.A (spliced (backTo pos (starEach es X.env))) (AP X pins σ Q) X.xe s
noncomputable def PS (X:Cx)(st:Stmt)(t:TS):Prop:=
 ∀ (pins:List (Addr × Obj)) (s:Shared) (σ:St) (H:Hp) (D:jR),Inv X pins σ H s->t D σ H->wpAny (model X.prog X.w) X.A (exec st X.env) (SP X pins D) X.xe s
noncomputable def PSs (X:Cx)(st:List Stmt)(t:TS):Prop:=
 ∀ (pins:List (Addr × Obj)) (s:Shared) (σ:St) (H:Hp) (D:jR),Inv X pins σ H s->t D σ H->wpAny (model X.prog X.w) X.A (execs st X.env) (SP X pins D) X.xe s
theorem thn {α:Type}{t:Sem α}{Q Q':α->Shared->Prop}{M:Model}{A:Around}{E:Value->Shared->Prop}{s:Shared}(h:wpAny M A t Q E s)(hQ:∀ a s,Q a s->Q' a s):wpAny M A t Q' E s:=wpAny_mono h hQ fun _ _ x=>x
section
variable {X:Cx}
theorem bin {a b:Expr}{ta tb:TE}(ha:PE X a ta)(hb:PE X b tb){pins:List (Addr × Obj)}{s:Shared}{σ:St}{H:Hp}{R:V->V->Hp->Prop}(I:Inv X pins σ H s)(h:ta σ H fun x H1=>tb σ H1 fun y H2=>R x y H2)
  {α:Type} {Q:α->Shared->Prop} {f:Value->Value->Sem α}
  (hf:∀ v u s2 x y H2,Inv X pins σ H2 s2->zp x v->zp y u->R x y H2->wpAny (model X.prog X.w) X.A (f v u) Q X.xe s2) :
  wpAny (model X.prog X.w) X.A (eval a X.env) (fun v s₁=>wpAny (model X.prog X.w) X.A (eval b X.env) (fun u s₂=>wpAny (model X.prog X.w) X.A (f v u) Q X.xe s₂) X.xe s₁) X.xe s:=by
 refine thn (ha pins s σ H _ I h) fun v s1 ⟨x,H1,I1,r1,q1⟩=>?_
 refine thn (hb pins s1 σ H1 _ I1 q1) fun u s2 ⟨y,H2,I2,r2,q2⟩=>?_
 exact hf v u s2 x y H2 I2 r1 r2 q2
noncomputable def XF (i:Nat):TE:=fun σ H Q=>∃ v,σ[i]?=some (some v)/\Q v H
noncomputable def tC (v:V):TE:=fun _ H Q=>Q v H
theorem Vd {i:Nat}{x:Str}{pos:Pos}(hN:X.N[i]?=some x)(hv:Vis X.env.scope x)(hd:(x == ("__debug__":Str))=false:=by decide)(hcd:(x == ("__classdict__":Str))=false:=by decide):PE X (.Name x pos) (XF i):=by
 intro pins s σ H Q I h
 obtain ⟨v,e,h⟩:=h
 obtain ⟨m,hn,hl⟩:=I.loc
 obtain ⟨u,r,l⟩:=hl i x v hN e hv
 have fin:EP X pins σ Q u s:=⟨v,H,I,r,h⟩
 rcases l with ⟨hk,hm⟩ | ⟨hk,c,hc,hcell⟩
 ·exact wpAny_Name (wpAny_loadName_local I.ok.kind hk hn hm fin) hd
 ·rcases hk with hk | hk
  ·exact wpAny_Name (wpAny_loadName_cell I.ok.kind hk hc hcell fin) hd
  ·exact wpAny_Name (wpAny_loadName_free I.ok.kind hk hc hcell fin hcd) hd
theorem zd {i j pos}:PE X (.Constant (.int i) j pos) (tC (.int i)):=fun _ _ _ H _ I h=>wpAny_Constant_int ⟨.int i,H,I.tok _,⟨_,rfl⟩,h⟩
theorem Zk {b j pos}:PE X (.Constant (.bool b) j pos) (tC (.bl b)):=fun _ _ _ H _ I h=>Constant_bool ⟨.bl b,H,I,rfl,h⟩
theorem Yp {j pos}:PE X (.Constant .none j pos) (tC .non):=fun _ _ _ H _ I h=>Constant_none ⟨.non,H,I,rfl,h⟩
noncomputable def Gl (X:Cx)(x:Str):Prop:=X.env.kindOf x=some .globalImplicit
theorem XR {E:Value->Shared->Prop}{pins:List (Addr × Obj)}{s:Shared}{σ:St}{H:Hp}{x:Str}{u:Value}{pos:Pos}{Q:Value->Shared->Prop}(I:Inv X pins σ H s)(hg:Gl X x)(hm:X.mg x=some u)(h:Q u s)
  (hd:(x == ("__debug__":Str))=false:=by decide):wpAny (model X.prog X.w) X.A (eval (.Name x pos) X.env) Q E s:=
 Calls.Name_function_global I.ok.kind hg (Calls.loadGlobal_global (by rw [I.ok.glob];exact I.mod.glob.keeps I.bk) hm h) hd
theorem qY {E:Value->Shared->Prop}{pins:List (Addr × Obj)}{s:Shared}{σ:St}{H:Hp}{x:Str}{u:Value}{pos:Pos}{Q:Value->Shared->Prop}(I:Inv X pins σ H s)(hg:Gl X x)(hm:X.mg x=none)(hv:bootBuiltins x=some u)(h:Q u s)
  (hn:x ≠ "__name__":=by decide) (hd:(x == ("__debug__":Str))=false:=by decide):wpAny (model X.prog X.w) X.A (eval (.Name x pos) X.env) Q E s:=by
 obtain ⟨mb,h1,h2⟩:=I.mod.blt
 exact Calls.Name_function_global I.ok.kind hg (Calls.loadGlobal_builtin (by rw [I.ok.glob];exact I.mod.glob.keeps I.bk) hm (by rw [I.ok.blt];exact h1.keeps I.bk) ((h2 x hn).trans hv) h) hd
theorem zW {x:Str}{v:V}{u:Value}{pos:Pos}(hg:Gl X x)(hm:X.mg x=none)(hv:bootBuiltins x=some u)(r:zp v u)(hn:x ≠ "__name__":=by decide)(hd:(x == ("__debug__":Str))=false:=by decide):PE X (.Name x pos) (tC v):=
 fun _ _ _ H _ I h=>qY I hg hm hv ⟨v,H,I,r,h⟩ hn hd
variable {a b:Expr}{ta tb:TE}{pos:Pos}
noncomputable def PC (X:Cx)(op:CmpOp)(a b:Expr)(t:TE):Prop:=
 ∀ (pins:List (Addr × Obj)) (s:Shared) (σ:St) (H:Hp) (Q:VK),Inv X pins σ H s->t σ H Q ->
  wpAny (model X.prog X.w) X.A (eval a X.env) (fun v s₁=>wpAny (model X.prog X.w) X.A (eval b X.env) (fun u s₂=>wpAny (model X.prog X.w) X.A (compareOp op v u) (EP X pins σ Q) X.xe s₂) X.xe s₁) X.xe s
theorem Q3 (b:Expr){op:CmpOp}(h:op ≠ .In)(h2:op ≠ .NotIn):behindInMarks op b=false:=by
 have e1:(op == CmpOp.In)=false:=by cases op <;> first | rfl | exact absurd rfl h
 have e2:(op == CmpOp.NotIn)=false:=by cases op <;> first | rfl | exact absurd rfl h2
 cases b <;> simp [behindInMarks,e1,e2]
noncomputable def tB (t:TE):TT:=fun σ H Q=>t σ H fun x H1=>∃ c,x=.bl c/\Q c H1
theorem W4 {op:CmpOp}{t:TE}(h:PC X op a b t)(h1:behindInMarks op b=false:=by first | exact Q3 _ (by decide) (by decide) | rfl):PT X (.Compare a [op] [b] pos) (tB t):=by
 intro pins s σ H Q I hw
 refine wpAny_isTrue_Compare1 (thn (h pins s σ H _ I hw) fun v s1 h1=>thn h1 fun u s2 h2=>thn h2 fun c s3 ⟨x,H1,I1,r1,q1⟩=>?_) h1
 obtain ⟨d,rfl,q⟩:=q1
 cases r1
 exact wpAny_truthy_bool ⟨H1,I1,q⟩
theorem kU {e:Expr}{t:TE}(h:PE X e t)(he:∀ whole,isTrue e X.env whole=(do let v <- whole;standAt e.pos;holding [v] (truthy v)):=by intro _;rfl):PT X e (tB t):=by
 intro pins s σ H Q I hw
 refine isTrue_plain (thn (h pins s σ H _ I hw) fun v s1 ⟨x,H1,I1,r1,q1⟩=>?_) (he _)
 obtain ⟨d,rfl,q⟩:=q1
 cases r1
 exact wpAny_truthy_bool ⟨H1,I1,q⟩
variable {tA tB':TT}{zm:List Expr}
noncomputable def tOr (t u:TT):TT:=fun σ H Q=>t σ H fun c H1=>if c=true then Q true H1 else u σ H1 Q
noncomputable def V6 (t:TT):TT:=fun σ H Q=>t σ H fun c H1=>Q (!c) H1
theorem wv (ha:PT X a tA):PW X (.BoolOp .Or [a] pos) tA:=by
 intro wh pins s σ H Q I h
 refine isTrue_or (thn (ha pins s σ H Q I h) fun c s1 e=>?_)
 cases c with
 | false=>exact isTrue_or_nil e
 | true=>exact e
theorem KB (ha:PT X a tA)(hb:PW X (.BoolOp .Or (b :: zm) pos) tB'):PW X (.BoolOp .Or (a :: b :: zm) pos) (tOr tA tB'):=by
 intro wh pins s σ H Q I h
 refine isTrue_or (thn (ha pins s σ H _ I h) fun c s1 ⟨H1,I1,q1⟩=>?_)
 cases c with
 | true=>exact ⟨H1,I1,q1⟩
 | false=>exact hb wh pins s1 σ H1 Q I1 q1
theorem vL (ha:PT X a tA):PT X (.UnaryOp .Not a pos) (V6 tA):=by
 intro pins s σ H Q I h
 exact isTrue_not (ha pins s σ H (fun c H1=>Q (!c) H1) I h)
noncomputable def Jl (ta tb:TE):TE:=fun σ H Q=>ta σ H fun x H1=>∃ c,x=.bl c/\if c=true then tb σ H1 Q else Q (.bl false) H1
theorem vH {op}{t:TE}(h:PE X a t):PE X (.BoolOp op [a] pos) t:=fun pins s σ H Q I hw=>BoolOp_one (h pins s σ H Q I hw)
theorem xW (ha:PE X a ta)(hb:PE X (.BoolOp .And (b :: zm) pos) tb):PE X (.BoolOp .And (a :: b :: zm) pos) (Jl ta tb):=by
 intro pins s σ H Q I h
 refine BoolOp_and (thn (ha pins s σ H _ I h) fun v s1 ⟨x,H1,I1,r1,q1⟩=>?_)
 obtain ⟨c,rfl,q1⟩:=q1
 cases r1
 refine wpAny_truthy_bool ?_
 cases c with
 | true=>exact hb pins s1 σ H1 Q I1 q1
 | false=>exact ⟨.bl false,H1,I1,rfl,q1⟩
end
noncomputable def SqL (K:PySem.W.Frag)(H:Hp)(a:Addr)(xs:List V):Prop:=
 Rd H a (.lst xs) \/
  ∃ (o:Obj) (its:Array Value) (n:Nat),K.lookup a=some o/\o.cls=.type "list"/\o.dict=none/\o.data=.seq its n/\its.size<=sizeLine/\zl xs its.toList
noncomputable def SqT (K:PySem.W.Frag)(H:Hp)(a:Addr)(xs:List V):Prop:=
 Rd H a (.tup xs) \/
  ∃ (o:Obj) (its:Array Value) (n:Nat),K.lookup a=some o/\o.cls=.type "tuple"/\o.data=.seq its n/\its.size<=sizeLine/\zl xs its.toList
noncomputable def W0:Value->Option V
 | .none=>some .non
 | .bool b=>some (.bl b)
 | .int i _=>some (.int i)
 | .str x _=>some (.str x)
 | .bytes b _=>some (.byt b)
 | .float b _=>some (.flt b)
 | .ref a=>some (.ref a)
 | .type n=>some (.ty n)
 | _=>none
theorem zp.abs {x:V}{u:Value}(r:zp x u):W0 u=some x:=by
 cases x with
 | non=>cases r;rfl
 | bl _=>cases r;rfl
 | int _=>obtain ⟨t,rfl⟩:=r;rfl
 | str _=>obtain ⟨t,rfl⟩:=r;rfl
 | byt _=>obtain ⟨t,rfl⟩:=r;rfl
 | flt _=>obtain ⟨t,rfl⟩:=r;rfl
 | ref _=>cases r;rfl
 | ty _=>cases r;rfl
theorem zp.inj {x y:V}{u:Value}(r:zp x u)(q:zp y u):x=y:=Option.some.inj (r.abs.symm.trans q.abs)
theorem zl.inj:∀ {xs ys:List V} {us:List Value},zl xs us->zl ys us->xs=ys
 | _,_,_,.nil,.nil=>rfl
 | _,_,_,.cons r t,.cons r' t'=>by rw [r.inj r',zl.inj t t']
section
variable {X:Cx}{pins:List (Addr × Obj)}{σ:St}{H:Hp}{s:Shared}{a:Addr}{xs ys:List V}
theorem SqL.of {K:PySem.W.Frag}(h:H a=some (.lst xs)):SqL K H a xs:=.inl (.inl h)
theorem SqT.of {K:PySem.W.Frag}(h:H a=some (.tup xs)):SqT K H a xs:=.inl (.inl h)
theorem Inv.list (I:Inv X pins σ H s)(h:SqL X.K H a xs):∃ its:List Value,zl xs its/\PlainL s.heap a its.toArray/\xs.length<=sizeLine:=by
 rcases h with h | ⟨o,its,n,hk,hc,hd,hs,hz,r⟩
 ·obtain ⟨z,its,n,r,e⟩:=h.ok I.hok
  exact ⟨its,r,⟨_,n,e,rfl,rfl,rfl⟩,z⟩
 ·refine ⟨its.toList,r,⟨o,n,I.kIn a o hk,hc,hd,by simpa using hs⟩,?_⟩
  have e:=r.length
  simp only [Array.length_toList] at e
  omega
theorem Inv.tuple (I:Inv X pins σ H s)(h:SqT X.K H a xs):∃ its:List Value,zl xs its/\IsTup s.heap a its.toArray/\xs.length<=sizeLine:=by
 rcases h with h | ⟨o,its,n,hk,hc,hs,hz,r⟩
 ·obtain ⟨z,its,r,p⟩:=h.ok I.hok
  exact ⟨its,r,p.is,z⟩
 ·refine ⟨its.toList,r,⟨o,I.kIn a o hk,hc,n,by simpa using hs⟩,?_⟩
  have e:=r.length
  simp only [Array.length_toList] at e
  omega
theorem Inv.list_inj (I:Inv X pins σ H s)(h:SqL X.K H a xs)(h':SqL X.K H a ys):xs=ys:=by
 obtain ⟨its,r,⟨o,n,e,_,_,d⟩,_⟩:=I.list h
 obtain ⟨its',r',⟨o',n',e',_,_,d'⟩,_⟩:=I.list h'
 rw [e] at e';cases e'
 rw [d] at d'
 injection d' with d1 _
 have:its=its':=by simpa using congrArg Array.toList d1
 subst this
 exact r.inj r'
theorem Inv.tuple_inj (I:Inv X pins σ H s)(h:SqT X.K H a xs)(h':SqT X.K H a ys):xs=ys:=by
 obtain ⟨its,r,⟨o,e,_,n,d⟩,_⟩:=I.tuple h
 obtain ⟨its',r',⟨o',e',_,n',d'⟩,_⟩:=I.tuple h'
 rw [e] at e';cases e'
 rw [d] at d'
 injection d' with d1 _
 have:its=its':=by simpa using congrArg Array.toList d1
 subst this
 exact r.inj r'
end
noncomputable abbrev Cx.wish (X:Cx)(E:Value->Shared->Prop):Cx:={ X with xe:=E }
noncomputable abbrev Cx.nox (X:Cx):Cx:=X.wish fun _ _=>False
theorem Cx.Ok.wish {X:Cx}(ok:X.Ok)(E:Value->Shared->Prop):(X.wish E).Ok:=
 ⟨ok.mod,ok.kind,ok.glob,ok.blt,ok.above,ok.inj,ok.has,ok.cab,ok.hd,ok.frames,ok.stk,ok.exf,ok.bs,ok.bsz,ok.noex,ok.exfs,ok.funs,ok.frf⟩
theorem Cx.Ok.unwish {X:Cx}{E:Value->Shared->Prop}(ok:(X.wish E).Ok):X.Ok:=
 ⟨ok.mod,ok.kind,ok.glob,ok.blt,ok.above,ok.inj,ok.has,ok.cab,ok.hd,ok.frames,ok.stk,ok.exf,ok.bs,ok.bsz,ok.noex,ok.exfs,ok.funs,ok.frf⟩
section
variable {X:Cx}{pins:List (Addr × Obj)}{σ:St}{H:Hp}{s:Shared}{E:Value->Shared->Prop}
theorem Inv.wish (I:Inv X pins σ H s)(E:Value->Shared->Prop):Inv (X.wish E) pins σ H s:=⟨I.ok.wish E,I.os,I.bare,I.base,I.loc,I.cell,I.free,I.freeC,I.pin,I.hok,I.len⟩
theorem Inv.unwish (I:Inv (X.wish E) pins σ H s):Inv X pins σ H s:=⟨I.ok.unwish,I.os,I.bare,I.base,I.loc,I.cell,I.free,I.freeC,I.pin,I.hok,I.len⟩
theorem SP.unwish {D:jR}{f:Flow}{s':Shared}(h:SP (X.wish E) pins D f s'):SP X pins D f s':=by
 cases f with
 | next=>obtain ⟨σ',H',I,q⟩:=h;exact ⟨σ',H',I.unwish,q⟩
 | brk=>obtain ⟨σ',H',I,q⟩:=h;exact ⟨σ',H',I.unwish,q⟩
 | cont=>obtain ⟨σ',H',I,q⟩:=h;exact ⟨σ',H',I.unwish,q⟩
 | ret u=>obtain ⟨v,σ',H',I,r,q⟩:=h;exact ⟨v,σ',H',I.unwish,r,q⟩
theorem PSs.nox {st:List Stmt}{t:TS}(h:PSs X.nox st t):PSs X st t:=fun pins s σ H D I hw=>
 wpAny_mono (h pins s σ H D (I.wish _) hw) (fun _ _ q=>q.unwish) fun _ _ z=>False.elim z
end
section
variable {X:Cx}{st:Stmt}{zm:List Stmt}{t u:TS}{e:Expr}{te:TE}{pos:Pos}
noncomputable def J3:TS:=fun D σ H=>D.nx σ H
noncomputable def Wk (t u:TS):TS:=fun D σ H=>t { D with nx:=u D } σ H
theorem zX:PSs X [] J3:=fun _ _ σ H _ I h=>wpAny_execs_nil ⟨σ,H,I,h⟩
theorem zh (h1:PS X st t)(h2:PSs X zm u):PSs X (st :: zm) (Wk t u):=by
 intro pins s σ H D I h
 refine wpAny_execs_cons (thn (h1 pins s σ H { D with nx:=u D } I h) fun f s1 q=>?_)
 cases f with
 | next=>
  obtain ⟨σ',H',I',q⟩:=q
  exact h2 pins s1 σ' H' D I' q
 | ret v=>exact q
 | brk=>exact q
 | cont=>exact q
theorem zq (h1:PS X st t):PSs X [st] t:=by
 intro pins s σ H D I h
 refine wpAny_execs_cons (thn (h1 pins s σ H D I h) fun f s1 q=>?_)
 cases f with
 | next=>exact wpAny_execs_nil q
 | ret v=>exact q
 | brk=>exact q
 | cont=>exact q
theorem Inv.quiet {pins:List (Addr × Obj)}{σ:St}{H:Hp}{s:Shared}(I:Inv X pins σ H s):interactive X.env=false:=by simp [interactive,I.ok.kind]
noncomputable def QU (te:TE):TS:=fun D σ H=>te σ H fun _ H1=>D.nx σ H1
theorem Zg (he:PE X e te)(hs:swapsWith e none pos.line X.env=pure false:=by rfl):PS X (.Expr e pos) (QU te):=by
 intro pins s σ H D I h
 exact wpAny_Expr_any (thn (he pins s σ H _ I h) fun v s1 ⟨x,H1,I1,r1,q1⟩=>⟨σ,H1,I1,q1⟩) I.quiet hs
noncomputable def YZ (te:TE):TS:=fun D σ H=>te σ H D.rt
theorem zN (he:PE X e te):PS X (.Return (some e) pos) (YZ te):=by
 intro pins s σ H D I h
 exact wpAny_Return_some (thn (he pins s σ H _ I h) fun v s1 ⟨x,H1,I1,r1,q1⟩=>⟨x,σ,H1,I1,r1,q1⟩)
noncomputable def VJ (c:TT)(t u:TS):TS:=fun D σ H=>c σ H fun b H1=>if b=true then t D σ H1 else u D σ H1
theorem qX {c:Expr}{a b:List Stmt}{tc:TT}(hc:PT X c tc)(ha:PSs X a t)(hb:PSs X b u):PS X (.If c a b pos) (VJ tc t u):=by
 intro pins s σ H D I h
 refine wpAny_If (thn (hc pins s σ H _ I h) fun d s1 ⟨H1,I1,q1⟩=>?_)
 cases d with
 | true=>exact ha pins s1 σ H1 D I1 q1
 | false=>exact hb pins s1 σ H1 D I1 q1
end
noncomputable abbrev TG:=V->St->Hp->(St->Hp->Prop)->Prop
noncomputable abbrev TGs:=List V->St->Hp->(St->Hp->Prop)->Prop
noncomputable def PG (X:Cx)(target:Expr)(t:TG):Prop:=
 ∀ (pins:List (Addr × Obj)) (s:Shared) (σ:St) (H:Hp) (v:V) (u:Value) (Q:St->Hp->Prop),Inv X pins σ H s->zp v u->t v σ H Q ->
  wpAny (model X.prog X.w) X.A (assign target X.env u) (fun _ s'=>∃ σ' H',Inv X pins σ' H' s'/\Q σ' H') X.xe s
noncomputable def PGs (X:Cx)(ts:List Expr)(t:TGs):Prop:=
 ∀ (pins:List (Addr × Obj)) (s:Shared) (σ:St) (H:Hp) (vs:List V) (us:List Value) (Q:St->Hp->Prop),Inv X pins σ H s->zl vs us->t vs σ H Q ->
  wpAny (model X.prog X.w) X.A (assignInOrder ((assignEach ts X.env).map (·.2)) us) (fun _ s'=>∃ σ' H',Inv X pins σ' H' s'/\Q σ' H') X.xe s
noncomputable abbrev QY:=V->V->V->Hp->(Hp->Prop)->Prop
noncomputable def YK (X:Cx)(t:QY):Prop:=
 ∀ (pins:List (Addr × Obj)) (s:Shared) (σ:St) (H:Hp) (o i v:V) (ov iv u:Value) (Q:Hp->Prop),Inv X pins σ H s->zp o ov->zp i iv->zp v u->t o i v H Q ->
  wpAny (model X.prog X.w) X.A (setItem ov iv u) (fun _ s'=>∃ H',Inv X pins σ H' s'/\Q H') X.xe s
noncomputable abbrev TIp:=V->V->Hp->VK->Prop
section
variable {X:Cx}{pos:Pos}
noncomputable def yW (i:Nat):TG:=fun v σ H Q=>Q (σ.set i (some v)) H
theorem zH {i:Nat}{x:Str}(hN:X.N.Nodup)(hi:X.N[i]?=some x)(hx:Loc X.env.scope x)(hf:X.fn x=true \/ X.env.scope.names.lookup x=some .local:=by first | exact .inl rfl | exact .inr rfl | assumption):PG X (.Name x pos) (yW i):=by
 intro pins s σ H v u Q I r h
 exact wpAny_assign_Name (yx I hN hi hx r (fun s' I'=>⟨_,H,I',h⟩) hf)
noncomputable def VP:TGs:=fun vs σ H Q=>vs=[]/\Q σ H
noncomputable def Jw (t:TG)(u:TGs):TGs:=fun vs σ H Q=>∃ v r,vs=v :: r/\t v σ H fun σ' H'=>u r σ' H' Q
theorem jK:PGs X [] VP:=by
 intro pins s σ H vs us Q I r h
 obtain ⟨e,h⟩:=h
 subst e
 cases r
 exact assignInOrder_nil ⟨σ,H,I,h⟩
theorem zT {e:Expr}{es:List Expr}{t:TG}{u:TGs}(h1:PG X e t)(h2:PGs X es u)
  (hs:(assignEach (e :: es) X.env).map (·.2)=assign e X.env :: (assignEach es X.env).map (·.2):=by rfl):PGs X (e :: es) (Jw t u):=by
 intro pins s σ H vs us Q I r h
 obtain ⟨v,vr,e1,h⟩:=h
 subst e1
 cases r with
 | cons r rr=>
  rw [hs]
  refine assignInOrder_cons (thn (h1 pins s σ H _ _ _ I r h) fun _ s1 ⟨σ1,H1,I1,q1⟩=>?_)
  exact h2 pins s1 σ1 H1 _ _ Q I1 rr q1
noncomputable def KF (K:PySem.W.Frag)(n:Nat)(t:TGs):TG:=fun v σ H Q=>∃ a xs,v=.ref a/\SqT K H a xs/\xs.length=n/\t xs σ H Q
theorem YS {es:List Expr}{k:Nat}{t:TGs}{n:Nat}(hc:X.calm=true)(h:PGs X es t)
  (hn:(assignEach es X.env).length=n:=by rfl) (hst:(assignEach es X.env).findIdx? (·.1)=none:=by rfl):PG X (.Tuple es k pos) (KF X.K n t):=by
 intro pins s σ H v u Q I r hw
 obtain ⟨a,xs,e1,hq,hl,hw⟩:=hw
 subst e1
 cases r
 obtain ⟨its,rv,ht,hz⟩:=I.tuple hq
 refine assign_Tuple_tuple (I.ok.hd hc) ht (by simp [hn,<- hl,rv.length]) hst fun h' hx=>?_
 have I1:Inv X pins σ H { s with heap:=h' }:=I.kept (t':=s.toks) fun b o e=>hx b o (Nat.ne_of_lt (Heap.lt_size e)) e
 exact h pins _ σ H xs _ Q I1 (by simpa using rv) hw
noncomputable def We (to ti:TE)(t:QY):TG:=fun v σ H Q=>to σ H fun o H1=>ti σ H1 fun i H2=>t o i v H2 fun H3=>Q σ H3
theorem kH {o i:Expr}{to ti:TE}{t:QY}(ho:PE X o to)(hi:PE X i ti)(hs:YK X t)
  (ha:∀ v,assign (.Subscript o i pos) X.env v=(do
   let ov <- holding [v] (eval o X.env)
   let iv <- holding [v,ov] (eval i X.env)
   standAt pos
   holding [v,ov,iv] (setItem ov iv v)
   release [v,ov,iv] []):=by intro _;rfl):PG X (.Subscript o i pos) (We to ti t):=by
 intro pins s σ H v u Q I r h
 rw [ha]
 refine wpAny_bind (wpAny_holding (thn (ho pins s σ H _ I h) fun ov s1 ⟨x,H1,I1,r1,q1⟩=>?_))
 refine wpAny_bind (wpAny_holding (thn (hi pins s1 σ H1 _ I1 q1) fun iv s2 ⟨y,H2,I2,r2,q2⟩=>?_))
 refine wpAny_bind (wpAny_standAt (wpAny_bind (wpAny_holding (thn (hs pins s2 σ H2 x y v ov iv u _ I2 r1 r2 r q2) fun _ s3 ⟨H3,I3,q3⟩=>?_))))
 exact wpAny_release ⟨σ,H3,I3,q3⟩
noncomputable def JN (te:TE)(g:TG):TS:=fun D σ H=>te σ H fun x H1=>g x σ H1 D.nx
theorem ko {tg e:Expr}{te:TE}{g:TG}(he:PE X e te)(hg:PG X tg g)(hs:swapsWithSole [tg] e pos.line X.env=pure false:=by rfl)(hw:swappedStores [tg] e X.env=pure none:=by rfl)
  (h1:(assignEach [tg] X.env).map (·.2)=[assign tg X.env]:=by rfl):PS X (.Assign [tg] e pos) (JN te g):=by
 intro pins s σ H D I h
 refine wpAny_Assign_stores (thn (he pins s σ H _ I h) fun v s1 ⟨x,H1,I1,r1,q1⟩=>?_) hs hw
 rw [h1]
 exact thn (hg pins s1 σ H1 x v _ I1 r1 q1) fun _ s2 q=>q
theorem zK {i:Nat}{x:Str}{e:Expr}{te:TE}{pos':Pos}(hN:X.N.Nodup)(hi:X.N[i]?=some x)(hx:Loc X.env.scope x)(he:PE X e te)(hs:swapsWith e (some (.Name x pos')) pos.line X.env=pure false:=by rfl)(hf:X.fn x=true \/ X.env.scope.names.lookup x=some .local:=by first | exact .inl rfl | exact .inr rfl | assumption) :
  PS X (.Assign [.Name x pos'] e pos) (JN te (yW i)):=by
 intro pins s σ H D I h
 refine wpAny_Assign_Name (thn (he pins s σ H _ I h) fun v s1 ⟨y,H1,I1,r1,q1⟩=>?_) hs
 exact yx I1 hN hi hx r1 (fun s2 I2=>⟨_,H1,I2,q1⟩) hf
end
section
variable {X:Cx}{pos:Pos}
end
structure It where
 go:Nat->Hp->Prop
 yld:Nat->Hp->V->Hp->Prop
 stop:Nat->Hp->Prop
noncomputable def kf (X:Cx)(pins:List (Addr × Obj))(H:Hp)(b:Addr):Prop:=
 H b=none/\b ≠ X.env.locals/\b ∉ X.fs/\(b ∈ X.ex \/ X.s₀.heap.objs.size<=b)/\(∀ x c,X.env.cells.lookup x=some c->c ≠ b)/\∀ p ∈ X.pn ++ pins,p.1 ≠ b
theorem Inv.fpOk {X:Cx}{pins:List (Addr × Obj)}{σ:St}{H H':Hp}{s:Shared}{b:Addr}(I:Inv X pins σ H s)(hb:s.heap.objs.size<=b)(hn:H' b=none):kf X pins H' b:=by
 refine ⟨hn,Nat.ne_of_gt (Nat.lt_of_lt_of_le I.lt hb),I.nofs hb,.inr (Nat.le_trans I.sz hb),fun x c e z=>?_,fun p hp z=>?_⟩
 ·obtain ⟨v,q⟩:=I.cell x c e
  exact absurd (Nat.lt_of_lt_of_le q.lt (by rw [z];exact hb)) (Nat.lt_irrefl _)
 ·exact absurd (Nat.lt_of_lt_of_le (Heap.lt_size (I.pin p hp).1) (by rw [z];exact hb)) (Nat.lt_irrefl _)
structure yA (P:Program)(w:World)(K:PySem.W.Frag)(tg:Expr)(J:It)(fp:List Addr)(it:Addr)(tn:Nat->Heap->Prop):Prop where
 mem:it ∈ fp
 obj:∀ i h,tn i h->∀ b ∈ fp,∃ o,h.get? b=some o/\∀ v,o.data ≠ .cell v
 keep:∀ i h h',tn i h->(∀ b ∈ fp,∀ o,h.get? b=some o->h'.get? b=some o)->tn i h'
 item:∀ (X:Cx),X.prog=P->X.w=w->X.K=K->X.calm=true->∀ (i:Nat) (pins:List (Addr × Obj)) (s:Shared) (σ:St) (H:Hp) (E:Value->Shared->Prop),Inv X pins σ H s->(∀ b ∈ fp,kf X pins H b)->tn i s.heap->J.go i H ->
  wpAny (model P w) X.A (pyNext (.ref it)) (fun r s1=>∃ u,r=some u /\
   wpAny (model P w) X.A (letOwnedTupleGo tg (.ref it) u) (fun _ s2=>∃ x H',Inv X pins σ H' s2/\zp x u/\J.yld i H x H'/\tn (i+1) s2.heap/\∀ b ∈ fp,H' b=none) E s1) E s
 done:∀ (X:Cx),X.prog=P->X.w=w->X.K=K->X.calm=true->∀ (i:Nat) (pins:List (Addr × Obj)) (s:Shared) (σ:St) (H:Hp) (E:Value->Shared->Prop),Inv X pins σ H s->(∀ b ∈ fp,kf X pins H b)->tn i s.heap->J.stop i H ->
  wpAny (model P w) X.A (pyNext (.ref it)) (fun r s1=>r=none/\Inv X pins σ H s1) E s
 self:∀ (A:Around) (i:Nat) (s:Shared) (Q:Value->Shared->Prop) (E:Value->Shared->Prop),tn i s.heap->Q (.ref it) s->wpAny (model P w) A (pyIter (.ref it)) Q E s
noncomputable abbrev TI:=St->Hp->(It->Hp->Prop)->Prop
noncomputable def PIE (X:Cx)(pins:List (Addr × Obj))(σ:St)(tg:Expr)(R:It->Hp->Prop)(itv:Value)(s2:Shared):Prop:=
 ∃ (it:Addr) (fp:List Addr) (tn:Nat->Heap->Prop) (J:It) (H':Hp),itv=.ref it/\Inv X pins σ H' s2/\yA X.prog X.w X.K tg J fp it tn/\tn 0 s2.heap/\(∀ b ∈ fp,kf X pins H' b)/\R J H'
noncomputable def PI (X:Cx)(tg iter:Expr)(wi:TI):Prop:=
 ∀ (pins:List (Addr × Obj)) (s:Shared) (σ:St) (H:Hp) (R:It->Hp->Prop),Inv X pins σ H s->wi σ H R ->
  wpAny (model X.prog X.w) X.A (eval iter X.env) (fun v s1=>wpAny (model X.prog X.w) X.A (pyIter v) (PIE X pins σ tg R) X.xe s1) X.xe s
theorem Ki {M : Model}{A : Around}{E : Value -> Shared -> Prop}{s : Shared}{tg : Expr}{it : Addr}{u : Value}{o : Obj}{n : String}{vs : Array Value}{Q : Unit -> Shared -> Prop}(ho : s.heap.get? it = some o)(hc : o.cls = .type n)(hd : o.data = .fields vs)
    (hn:["enumerate","zip","dict_itemiterator","dict_reverseitemiterator","odict_iterator","itertools.zip_longest","itertools.pairwise"].contains n=false) (hQ:Q () s):wpAny M A (letOwnedTupleGo tg (.ref it) u) Q E s:=by
  unfold letOwnedTupleGo
  cases tg <;> first
    | exact wpAny_pure hQ
    | (cases u <;> first
        | exact wpAny_pure hQ
        | (refine wpAny_bind (wpAny_load ho ?_)
           rw [hc,hd]
           show wpAny M A (if (["enumerate","zip","dict_itemiterator","dict_reverseitemiterator","odict_iterator","itertools.zip_longest","itertools.pairwise"].contains n && vs[0]? == some (rawInt _))=true then _ else _) Q E s
           rw [if_neg (by intro h;rw [hn,Bool.false_and] at h;cases h)]
           exact wpAny_pure hQ))
noncomputable def Itl (K:PySem.W.Frag)(a:Addr):It:=
 ⟨fun i H=>∃ xs x,SqL K H a xs/\xs[i]?=some x,fun i H x H'=>H'=H/\∀ xs,SqL K H a xs->xs[i]?=some x,fun i H=>∃ xs,SqL K H a xs/\xs.length<=i⟩
noncomputable def Itt (K:PySem.W.Frag)(a:Addr):It:=
 ⟨fun i H=>∃ xs x,SqT K H a xs/\xs[i]?=some x,fun i H x H'=>H'=H/\∀ xs,SqT K H a xs->xs[i]?=some x,fun i H=>∃ xs,SqT K H a xs/\xs.length<=i⟩
noncomputable def Itr (lo:Int)(n:Nat):It:=⟨fun i _=>i<n,fun i H x H'=>H'=H/\x=.int (lo+i),fun i _=>n<=i⟩
theorem Zy {P:Program}{w:World}{K:PySem.W.Frag}{tg:Expr}(a it:Addr):yA P w K tg (Itl K a) [it] it (fun i h=>h.IsListIter it a i) where
 mem:=by simp
 obj:=fun i h st b hb=>by
  have e:b=it:=by simpa using hb
  subst e
  obtain ⟨o,e,c,d⟩:=st
  exact ⟨o,e,fun v z=>by rw [d] at z;cases z⟩
 keep:=fun i h h' st k=>st.at fun o e=>k it (by simp) o e
 item:=by
  intro X hP hw hK hc i pins s σ H E I hf st hg
  subst hP hw hK
  obtain ⟨xs,x,hq,hx⟩:=hg
  obtain ⟨its,rv,p,hz⟩:=I.list hq
  obtain ⟨u,hu,ru⟩:=rv.get hx
  obtain ⟨f0,f1,f2,f3,f4,f5⟩:=hf it (by simp)
  refine wpAny_pyNext_list_item st p.isList (x:=u) (by simpa using hu) fun h' st' sb=>?_
  have I1:Inv X pins σ H { s with heap:=h' }:=I.turned (t':=s.toks) (fun b o hb e=>(sb.2 b hb).trans e) f0 f1 f3 f4 f5
  obtain ⟨o,e,c,d⟩:=id st'
  exact ⟨u,rfl,Ki (s:={ s with heap:=h' }) e c d (by decide) ⟨x,H,I1,ru,⟨rfl,fun ys hy=>by rw [I.list_inj hy hq];exact hx⟩,st',fun b hb=>(hf b hb).1⟩⟩
 done:=by
  intro X hP hw hK hc i pins s σ H E I hf st hg
  subst hP hw hK
  obtain ⟨xs,hq,hx⟩:=hg
  obtain ⟨its,rv,p,hz⟩:=I.list hq
  obtain ⟨f0,f1,f2,f3,f4,f5⟩:=hf it (by simp)
  have hl:=rv.length
  exact wpAny_pyNext_list_end (I.ok.hd hc) st p.isList (by simp;omega) fun h' eb=>⟨rfl,I.turned (t':=s.toks) (fun b o hb e=>eb b o hb e) f0 f1 f3 f4 f5⟩
 self:=fun _ _ _ _ _ st h=>wpAny_pyIter_listiter st h
theorem vY {P:Program}{w:World}{K:PySem.W.Frag}{tg:Expr}(a it:Addr):yA P w K tg (Itt K a) [it] it (fun i h=>h.IsTupleIter it a i) where
 mem:=by simp
 obj:=fun i h st b hb=>by
  have e:b=it:=by simpa using hb
  subst e
  obtain ⟨o,e,c,d⟩:=st
  exact ⟨o,e,fun v z=>by rw [d] at z;cases z⟩
 keep:=fun i h h' st k=>st.at fun o e=>k it (by simp) o e
 item:=by
  intro X hP hw hK hc i pins s σ H E I hf st hg
  subst hP hw hK
  obtain ⟨xs,x,hq,hx⟩:=hg
  obtain ⟨its,rv,p,hz⟩:=I.tuple hq
  obtain ⟨u,hu,ru⟩:=rv.get hx
  obtain ⟨f0,f1,f2,f3,f4,f5⟩:=hf it (by simp)
  refine wpAny_pyNext_tuple_item st (show s.heap.IsTuple a its.toArray from p) (x:=u) (by simpa using hu) fun h' st' sb=>?_
  have I1:Inv X pins σ H { s with heap:=h' }:=I.turned (t':=s.toks) (fun b o hb e=>(sb.2 b hb).trans e) f0 f1 f3 f4 f5
  obtain ⟨o,e,c,d⟩:=id st'
  exact ⟨u,rfl,Ki (s:={ s with heap:=h' }) e c d (by decide) ⟨x,H,I1,ru,⟨rfl,fun ys hy=>by rw [I.tuple_inj hy hq];exact hx⟩,st',fun b hb=>(hf b hb).1⟩⟩
 done:=by
  intro X hP hw hK hc i pins s σ H E I hf st hg
  subst hP hw hK
  obtain ⟨xs,hq,hx⟩:=hg
  obtain ⟨its,rv,p,hz⟩:=I.tuple hq
  obtain ⟨f0,f1,f2,f3,f4,f5⟩:=hf it (by simp)
  have hl:=rv.length
  exact wpAny_pyNext_tuple_end (I.ok.hd hc) st (show s.heap.IsTuple a its.toArray from p) (by simp;omega) fun h' eb=>⟨rfl,I.turned (t':=s.toks) (fun b o hb e=>eb b o hb e) f0 f1 f3 f4 f5⟩
 self:=fun _ _ _ _ _ st h=>wpAny_pyIter_tupleiter st h
theorem vC {P:Program}{w:World}{K:PySem.W.Frag}{tg:Expr}(it:Addr)(lo:Int)(n:Nat):yA P w K tg (Itr lo n) [it] it (fun i h=>IsRangeIter h it (lo+(i:Nat) * 1) ((n:Int) - (i:Nat)) 1) where
 mem:=by simp
 obj:=fun i h st b hb=>by
  have e:b=it:=by simpa using hb
  subst e
  exact ⟨_,st,fun v z=>by
   have z':Data.fields _=Data.cell v:=z
   cases z'⟩
 keep:=fun i h h' st k=>k it (by simp) _ st
 item:=by
  intro X hP hw hK hc i pins s σ H E I hf st hg
  subst hP hw hK
  obtain ⟨f0,f1,f2,f3,f4,f5⟩:=hf it (by simp)
  have W:=Walks.range (prog:=X.prog) (w:=X.w) (I.ok.hd hc) it lo 1 n
  refine W.item i s _ _ hg st fun v h' tk hv st' kk=>?_
  obtain ⟨t,rfl⟩:=hv
  have I1:Inv X pins σ H { s with heap:=h',toks:=tk }:=I.turned (fun b o hb e=>kk b o (by simpa using hb) e) f0 f1 f3 f4 f5
  refine ⟨_,rfl,Ki (s:={ s with heap:=h',toks:=tk }) (n:="range_iterator") st' rfl rfl (by decide) ⟨.int (lo+i),H,I1,⟨t,?_⟩,⟨rfl,rfl⟩,st',fun b hb=>(hf b hb).1⟩⟩
  rw [Int.mul_one]
 done:=by
  intro X hP hw hK hc i pins s σ H E I hf st hg
  subst hP hw hK
  obtain ⟨f0,f1,f2,f3,f4,f5⟩:=hf it (by simp)
  exact wpAny_pyNext_range_end (I.ok.hd hc) st (by have:n<=i:=hg;omega) fun h' eb=>⟨rfl,I.turned (t':=s.toks) (fun b o hb e=>eb b o hb e) f0 f1 f3 f4 f5⟩
 self:=fun _ _ _ _ _ st h=>wpAny_pyIter_rangeiter st h
section
variable {X:Cx}{tg:Expr}
theorem QQ {pins:List (Addr × Obj)}{σ:St}{H:Hp}{s:Shared}{R:It->Hp->Prop}{E:Value->Shared->Prop}{lo hi:Int}{t u v:Tok}{tk:Nat}(I:Inv X pins σ H s)(h1:-(2 ^ 62)<=lo)(h2:lo<2 ^ 62)(h3:-(2 ^ 62)<=hi)(h4:hi<2 ^ 62)
  (q:R (Itr lo (hi - lo).toNat) H):wpAny (model X.prog X.w) X.A (pyIter (.ref s.heap.objs.size)) (PIE X pins σ tg R) E { s with heap:=s.heap.push { cls:=.type "range",data:=.fields #[.int lo t,.int hi u,.int 1 v] },toks:=tk }:=by
 refine wpAny_pyIter_range (IsRange.new ..) (small_one h1 h2 h3 h4) ?_
 have I1:Inv X pins σ H { s with heap:=s.heap.push { cls:=.type "range",data:=.fields #[.int lo t,.int hi u,.int 1 v] },toks:=tk }:=I.kept fun b o e=>Heap.get?_push_of_some _ e
 refine ⟨(s.heap.push { cls:=.type "range",data:=.fields #[.int lo t,.int hi u,.int 1 v] }).objs.size,[(s.heap.push { cls:=.type "range",data:=.fields #[.int lo t,.int hi u,.int 1 v] }).objs.size],_,_,H,rfl,
  I1.kept (t':=tk) fun b o e=>Heap.get?_push_of_some _ e,vC _ lo (hi - lo).toNat,?_,fun b hb=>?_,q⟩
 ·have e1:lo+((0:Nat):Int) * 1=lo:=by simp
  have e2:(((hi - lo).toNat:Nat):Int) - ((0:Nat):Int)=Builtin.Range.rangeSize lo hi 1:=by rw [rangeSize_one];split <;> omega
  show IsRangeIter _ _ (lo+((0:Nat):Int) * 1) ((((hi - lo).toNat:Nat):Int) - ((0:Nat):Int)) 1
  rw [e1,e2]
  exact Heap.get?_push_size _ rfl
 ·have e:b=(s.heap.push { cls:=.type "range",data:=.fields #[.int lo t,.int hi u,.int 1 v] }).objs.size:=by simpa using hb
  subst e
  exact I1.fpOk (Nat.le_refl _) (I1.hok.fresh (Nat.le_refl _))
noncomputable def Ql (ta:TA):TI:=fun σ H R=>ta σ H fun vs H1=>∃ j:Int,vs=[.int j]/\-(2 ^ 62)<=j/\j<2 ^ 62/\R (Itr 0 j.toNat) H1
theorem qD {a:Expr}{ta:TA}{p pos:Pos}(hg:Gl X "range")(hm:X.mg "range"=none)(ha:PA X [a] ta)(hs:starEach [a] X.env=[(false,eval a X.env)]:=by rfl):PI X tg (.Call (.Name "range" p) [a] [] pos) (Ql ta):=by
 intro pins s σ H R I h
 refine Call_ (qY I hg hm boot_range (PyProof.Rows.callWith_type1 (thn (ha pos pins s σ H _ I h) fun us s1 ⟨vs,H1,I1,r1,q1⟩=>?_) hs rfl))
 obtain ⟨j,e,q1,q2,q⟩:=q1
 subst e
 cases r1 with
 | cons r rr=>
  cases rr
  obtain ⟨t,rfl⟩:=r
  exact call_range_1 (QQ I1 (by omega) (by omega) q1 q2 (by simpa using q))
noncomputable def Vh (wi:TI)(g:TG)(tb:TS):TS:=fun D σ H=>wi σ H fun J H1=>∃ W:Nat->Nat->St->Hp->Prop,(∃ m,W 0 m σ H1)/\∀ i m σ H,W i m σ H ->
 (J.stop i H/\D.nx σ H) \/ (J.go i H/\∃ N:St->Hp->Prop,(∀ σ' H',N σ' H'->∃ m',m'<m/\W (i+1) m' σ' H')/\∀ x H',J.yld i H x H'->g x σ H' fun σ2 H2=>tb { D with nx:=N,ct:=N,bk:=D.nx } σ2 H2)
noncomputable def kR (fp:List Addr)(h:Heap):List (Addr × Obj):=fp.filterMap fun b=>(h.get? b).map fun o=>(b,o)
theorem qL {fp:List Addr}{h:Heap}{b:Addr}{o:Obj}(hb:b ∈ fp)(e:h.get? b=some o):(b,o) ∈ kR fp h:=List.mem_filterMap.mpr ⟨b,hb,by rw [e];rfl⟩
theorem ZQ {fp:List Addr}{h:Heap}{p:Addr × Obj}(hp:p ∈ kR fp h):p.1 ∈ fp/\h.get? p.1=some p.2:=by
 obtain ⟨b,hb,e⟩:=List.mem_filterMap.mp hp
 cases q:h.get? b with
 | none=>rw [q] at e;cases e
 | some o=>
  rw [q] at e
  have e':(b,o)=p:=Option.some.inj e
  subst e'
  exact ⟨hb,q⟩
theorem Inv.pinned {pins:List (Addr × Obj)}{σ:St}{H:Hp}{s:Shared}{fp:List Addr}(I:Inv X pins σ H s)(hf:∀ b ∈ fp,kf X pins H b)(ho:∀ b ∈ fp,∃ o,s.heap.get? b=some o/\∀ v,o.data ≠ .cell v):Inv X (pins ++ kR fp s.heap) σ H s:=
 I.pins_of fun p hp=>(List.mem_append.mp hp).elim (fun z=>I.pin p (List.mem_append_right _ z)) fun z=>by
  obtain ⟨hb,e⟩:=ZQ z
  obtain ⟨f0,f1,f2,_⟩:=hf p.1 hb
  obtain ⟨o,e',d⟩:=ho p.1 hb
  rw [e] at e';cases e'
  exact ⟨e,f0,f1,f2,d⟩
theorem Inv.unpinned {pins pl:List (Addr × Obj)}{σ:St}{H:Hp}{s:Shared}(I:Inv X (pins ++ pl) σ H s):Inv X pins σ H s:=I.pins_of fun p hp=>I.pin p (List.mem_append_right _ (List.mem_append_left _ hp))
theorem yf {iter:Expr}{body:List Stmt}{wi:TI}{g:TG}{tb:TS}{pos:Pos}(hp:PassesOwn (model X.prog X.w) X.A X.env X.xe)(hc:X.calm=true)(hi:PI X tg iter wi)(hg:PG X tg g)(hb:PSs X body tb)
  (hs:∀ x,foldedSetIterable iter X.env x=pure x:=by intro _;rfl):PS X (.For tg iter body [] pos) (Vh wi g tb):=by
 intro pins s σ H D I h
 refine wpAny_For (thn (hi pins s σ H _ I h) fun v s1 h1=>thn h1 fun itv s2 h2=>?_) hs
 obtain ⟨it,fp,tn,J,H2,e,I2,T,st2,f2,W,⟨m0,w0⟩,turn⟩:=h2
 subst e
 have stat:∀ {H':Hp},(∀ b ∈ fp,H' b=none)->∀ b ∈ fp,kf X pins H' b:=fun hn b hb=>⟨hn b hb,(f2 b hb).2⟩
 refine codeAny_forLoop_any (fun n s'=>∃ i σ' H',Inv X pins σ' H' s'/\tn i s'.heap/\(∀ b ∈ fp,H' b=none)/\W i n σ' H') ?_ m0 ⟨0,σ,H2,I2,st2,fun b hb=>(f2 b hb).1,w0⟩
 rintro n s3 ⟨i,σ3,H3,I3,st3,fr3,w3⟩
 rcases turn i n σ3 H3 w3 with ⟨stop,qn⟩ | ⟨go,N,hN,step⟩
 ·refine wpAny_passesOwn hp (thn (T.done X rfl rfl rfl hc i pins s3 σ3 H3 X.xe I3 (stat fr3) st3 stop) fun r s4 ⟨hr,I4⟩=>?_)
  subst hr
  exact wpAny_execs_nil ⟨σ3,H3,I4,qn⟩
 ·refine wpAny_passesOwn hp (thn (T.item X rfl rfl rfl hc i pins s3 σ3 H3 X.xe I3 (stat fr3) st3 go) fun r s4 ⟨u,hr,h4⟩=>?_)
  subst hr
  refine wpAny_passesOwn hp (thn h4 fun _ s5 ⟨x,H5,I5,r5,y5,st5,fr5⟩=>?_)
  have I5':=I5.pinned (stat fr5) (T.obj _ _ st5)
  refine wpAny_passesOwn hp (thn (hg _ s5 σ3 H5 x u _ I5' r5 (step x H5 y5)) fun _ s6 ⟨σ6,H6,I6,q6⟩=>?_)
  refine wpAny_passesOwn hp (thn (hb _ s6 σ6 H6 _ I6 q6) fun f s7 q7=>?_)
  have again:∀ {σ7:St} {H7:Hp},Inv X (pins ++ kR fp s5.heap) σ7 H7 s7->N σ7 H7->∃ m,m<n/\∃ i σ' H',Inv X pins σ' H' s7/\tn i s7.heap/\(∀ b ∈ fp,H' b=none)/\W i m σ' H':=fun {σ7 H7} I7 n7=>by
   obtain ⟨m',hm,w7⟩:=hN σ7 H7 n7
   refine ⟨m',hm,i+1,σ7,H7,I7.unpinned,T.keep _ _ _ st5 fun b hb o e=>(I7.pin (b,o) (List.mem_append_right _ (List.mem_append_right _ (qL hb e)))).1,fun b hb=>?_,w7⟩
   obtain ⟨o,e,d⟩:=T.obj _ _ st5 b hb
   exact (I7.pin (b,o) (List.mem_append_right _ (List.mem_append_right _ (qL hb e)))).2.1
  cases f with
  | next=>obtain ⟨σ7,H7,I7,n7⟩:=q7;exact again I7 n7
  | cont=>obtain ⟨σ7,H7,I7,n7⟩:=q7;exact again I7 n7
  | brk=>obtain ⟨σ7,H7,I7,q7⟩:=q7;exact ⟨σ7,H7,I7.unpinned,q7⟩
  | ret v=>obtain ⟨x7,σ7,H7,I7,r7,q7⟩:=q7;exact ⟨x7,σ7,H7,I7.unpinned,r7,q7⟩
end
noncomputable abbrev R2:=V->V->Hp->VK->Prop
noncomputable def OpR (X:Cx)(f:Value->Value->Sem Value)(r:R2):Prop:=
 ∀ (pins:List (Addr × Obj)) (s:Shared) (σ:St) (H:Hp) (x y:V) (v u:Value) (Q:VK),Inv X pins σ H s->zp x v->zp y u->r x y H Q ->
  wpAny (model X.prog X.w) X.A (f v u) (EP X pins σ Q) X.xe s
noncomputable def UnR (X:Cx)(f:Value->Sem Value)(r:V->Hp->VK->Prop):Prop:=
 ∀ (pins:List (Addr × Obj)) (s:Shared) (σ:St) (H:Hp) (x:V) (v:Value) (Q:VK),Inv X pins σ H s->zp x v->r x H Q ->
  wpAny (model X.prog X.w) X.A (f v) (EP X pins σ Q) X.xe s
noncomputable def qi (X:Cx)(f:Value)(r:List V->Hp->VK->Prop):Prop:=
 ∀ (pins:List (Addr × Obj)) (s:Shared) (σ:St) (H:Hp) (xs:List V) (us:List Value) (Q:VK),Inv X pins σ H s->zl xs us->r xs H Q ->
  wpAny (model X.prog X.w) X.A (call f us) (EP X pins σ Q) X.xe s
noncomputable def tOp (r:R2)(ta tb:TE):TE:=fun σ H Q=>ta σ H fun x H1=>tb σ H1 fun y H2=>r x y H2 Q
noncomputable def tUn (r:V->Hp->VK->Prop)(ta:TE):TE:=fun σ H Q=>ta σ H fun x H1=>r x H1 Q
noncomputable def rI (C:Int->Int->Prop)(g:Int->Int->V):R2:=fun x y H Q=>∃ i j,x=.int i/\y=.int j/\C i j/\Q (g i j) H
noncomputable def rI0 (g:Int->Int->V):R2:=fun x y H Q=>∃ i j,x=.int i/\y=.int j/\Q (g i j) H
noncomputable def rU (g:Int->V):V->Hp->VK->Prop:=fun x H Q=>∃ i,x=.int i/\Q (g i) H
section
variable {X:Cx}{a b c:Expr}{ta tb tc:TE}{pos:Pos}
theorem YW (ha:PE X a ta)(hb:PE X b tb){pins:List (Addr × Obj)}{s:Shared}{σ:St}{H:Hp}{R:V->V->Hp->Prop}(I:Inv X pins σ H s)
  (h:ta σ H fun x H1=>tb σ H1 fun y H2=>R x y H2) {Q:Value->Shared->Prop} {f:Value->Value->Sem Value}
  (hf:∀ v u s2 x y H2,Inv X pins σ H2 s2->zp x v->zp y u->R x y H2->wpAny (model X.prog X.w) X.A (f v u) Q X.xe s2) :
  wpAny (model X.prog X.w) X.A (eval a X.env) (fun v s₁=>wpAny (model X.prog X.w) X.A (eval b X.env) (fun u s₂=>wpAny (model X.prog X.w) X.A (f v u) Q X.xe s₂) X.xe s₁) X.xe s:=by
 refine thn (ha pins s σ H _ I h) fun v s1 ⟨x,H1,I1,r1,q1⟩=>?_
 refine thn (hb pins s1 σ H1 _ I1 q1) fun u s2 ⟨y,H2,I2,r2,q2⟩=>?_
 exact hf v u s2 x y H2 I2 r1 r2 q2
theorem zt {op:Operator}{r:R2}(ho:OpR X (binaryOp op) r)(ha:PE X a ta)(hb:PE X b tb):PE X (.BinOp a op b pos) (tOp r ta tb):=by
 intro pins s σ H Q I h
 exact wpAny_BinOp (YW ha hb I h fun v u s2 x y H2 I2 rx ry q=>ho pins s2 σ H2 x y v u Q I2 rx ry q)
theorem Wt {op:UnaryOp}{r:V->Hp->VK->Prop}(ho:UnR X (unaryOp op) r)(ha:PE X a ta):PE X (.UnaryOp op a pos) (tUn r ta):=by
 intro pins s σ H Q I h
 exact UnaryOp_ (thn (ha pins s σ H _ I h) fun v s1 ⟨x,H1,I1,r1,q1⟩=>ho pins s1 σ H1 x v Q I1 r1 q1)
theorem opI {f:Value->Value->Sem Value}{C:Int->Int->Prop}{g:Int->Int->Int}
  (rule:∀ (i j:Int) (t u:Tok) (s:Shared) (Q:Value->Shared->Prop) (E:Value->Shared->Prop),C i j->Q (.int (g i j) s.toks) { s with toks:=s.toks+1 }->wpAny (model X.prog X.w) X.A (f (.int i t) (.int j u)) Q E s) :
  OpR X f (rI C fun i j=>.int (g i j)):=by
 intro pins s σ H x y v u Q I rx ry h
 obtain ⟨i,j,rfl,rfl,hc,q⟩:=h
 obtain ⟨t,rfl⟩:=rx
 obtain ⟨t',rfl⟩:=ry
 exact rule i j t t' s _ _ hc ⟨.int (g i j),H,I.tok _,⟨_,rfl⟩,q⟩
theorem Wo {f:Value->Value->Sem Value}{g:Int->Int->Int}
  (rule:∀ (i j:Int) (t u:Tok) (s:Shared) (Q:Value->Shared->Prop) (E:Value->Shared->Prop),Q (.int (g i j) s.toks) { s with toks:=s.toks+1 }->wpAny (model X.prog X.w) X.A (f (.int i t) (.int j u)) Q E s) :
  OpR X f (rI0 fun i j=>.int (g i j)):=by
 intro pins s σ H x y v u Q I rx ry h
 obtain ⟨i,j,rfl,rfl,q⟩:=h
 obtain ⟨t,rfl⟩:=rx
 obtain ⟨t',rfl⟩:=ry
 exact rule i j t t' s _ _ ⟨.int (g i j),H,I.tok _,⟨_,rfl⟩,q⟩
theorem Y0 {f:Value->Value->Sem Value}{g:Int->Int->Bool}
  (rule:∀ (i j:Int) (t u:Tok) (s:Shared) (Q:Value->Shared->Prop) (E:Value->Shared->Prop),Q (.bool (g i j)) s->wpAny (model X.prog X.w) X.A (f (.int i t) (.int j u)) Q E s) :
  OpR X f (rI0 fun i j=>.bl (g i j)):=by
 intro pins s σ H x y v u Q I rx ry h
 obtain ⟨i,j,rfl,rfl,q⟩:=h
 obtain ⟨t,rfl⟩:=rx
 obtain ⟨t',rfl⟩:=ry
 exact rule i j t t' s _ _ ⟨.bl (g i j),H,I,rfl,q⟩
noncomputable def YD (i j:Int):Prop:=0<j/\j<1073741824
noncomputable def W5 (i j:Int):Prop:=0<=j/\j<=1000000/\i.natAbs<2 ^ 64
noncomputable def JL (i j:Int):Prop:=(-(2 ^ 64)<i/\i<2 ^ 64) \/ (-(2 ^ 64)<j/\j<2 ^ 64)
theorem JL.ok {i j:Int}(h:JL i j):IntMulOk i j:=by
 rcases h with ⟨h1,h2⟩ | ⟨h1,h2⟩
 ·exact .of_left (intBits_le_64 h1 h2)
 ·exact .of_right (intBits_le_64 h1 h2)
theorem qb:OpR X (binaryOp .Add) (rI0 fun i j=>.int (i+j)):=Wo fun _ _ _ _ _ _ _ q=>add_int q
theorem YT:OpR X (binaryOp .Sub) (rI0 fun i j=>.int (i - j)):=Wo fun _ _ _ _ _ _ _ q=>sub_int q
theorem qQ:OpR X (binaryOp .Mult) (rI JL fun i j=>.int (i * j)):=opI fun _ _ _ _ _ _ _ hc q=>mul_int q hc.ok
theorem Zq:OpR X (binaryOp .FloorDiv) (rI YD fun i j=>.int (i / j)):=opI fun i j _ _ _ _ _ hc q=>by
 have h1:(0:Int)<j:=hc.1
 have h2:j<1073741824:=hc.2
 exact floordiv_int (by omega) (by rw [Int.fdiv_eq_ediv_of_nonneg i (by omega)];exact q) (.inl (PyProof.noPylong_small (by omega)))
theorem qt:OpR X (binaryOp .Mod) (rI (fun _ j=>0<j) fun i j=>.int (i % j)):=opI fun i j _ _ _ _ _ hc q=>by
 have h1:(0:Int)<j:=hc
 exact mod_int' (by omega) (by rw [Int.fmod_eq_emod_of_nonneg i (by omega)];exact q)
theorem YI:OpR X (binaryOp .Pow) (rI W5 fun i j=>.int (i ^ j.toNat)):=opI fun _ _ _ _ _ _ _ hc q=>pow_int_small hc.1 hc.2.1 hc.2.2 q
theorem unI {f:Value->Sem Value}{g:Int->Int}
  (rule:∀ (i:Int) (t:Tok) (s:Shared) (Q:Value->Shared->Prop) (E:Value->Shared->Prop),Q (.int (g i) s.toks) { s with toks:=s.toks+1 }->wpAny (model X.prog X.w) X.A (f (.int i t)) Q E s) :
  UnR X f (rU fun i=>.int (g i)):=by
 intro pins s σ H x v Q I rx h
 obtain ⟨i,rfl,q⟩:=h
 obtain ⟨t,rfl⟩:=rx
 exact rule i t s _ _ ⟨.int (g i),H,I.tok _,⟨_,rfl⟩,q⟩
theorem Vz:UnR X (unaryOp .USub) (rU fun i=>.int (-i)):=unI fun _ _ _ _ _ q=>neg_int q
end
noncomputable def Aa:V->V->Bool
 | .non,.non=>true | .non,.int _=>true | .int _,.non=>true | .non,.bl _=>true | .bl _,.non=>true | .non,.str _=>true | .str _,.non=>true
 | .int _,.int _=>true | .bl _,.bl _=>true | .str _,.str _=>true | .byt _,.byt _=>true
 | .int _,.str _=>true | .str _,.int _=>true | .bl _,.str _=>true | .str _,.bl _=>true
 | _,_=>false
noncomputable def rEq:R2:=fun x y H Q=>Aa x y=true/\Q (.bl (decide (x=y))) H
theorem Xs {i j:Int}:decide (V.int i=V.int j)=(i == j):=by
 rw [Bool.eq_iff_iff]
 simp
theorem Vm {i j:Bool}:decide (V.bl i=V.bl j)=(i == j):=by
 rw [Bool.eq_iff_iff]
 simp
theorem KN {i j:Str}:decide (V.str i=V.str j)=(i == j):=by
 rw [Bool.eq_iff_iff]
 simp
theorem KL {i j:Array UInt8}:decide (V.byt i=V.byt j)=(i.toList == j.toList):=by
 rw [Bool.eq_iff_iff]
 cases i
 cases j
 simp
section
variable {X:Cx}{a b c:Expr}{ta tb tc:TE}{pos:Pos}
theorem zS {pins:List (Addr × Obj)}{σ:St}{H:Hp}{s:Shared}{Q:VK}{k k':Bool}(I:Inv X pins σ H s)(q:Q (.bl k) H)(e:k=k'):EP X pins σ Q (.bool k') s:=by
 subst e
 exact ⟨.bl k,H,I,rfl,q⟩
theorem X6:OpR X (compareOp .Eq) rEq:=by
 intro pins s σ H x y v u Q I rx ry h
 obtain ⟨hs,q⟩:=h
 cases x with
 | non=>
  cases rx
  cases y with
  | non=>cases ry;exact PySem.EqNone.eq_none_none (zS I q (by simp))
  | bl j=>cases ry;exact PySem.EqNone.eq_none_bool (zS I q (by simp))
  | int j=>obtain ⟨t',rfl⟩:=ry;exact PySem.EqNone.eq_none_int (zS I q (by simp))
  | str j=>obtain ⟨t',rfl⟩:=ry;exact PySem.EqNone.eq_none_str (zS I q (by simp))
  | _=>exact absurd (show false=true from hs) Bool.false_ne_true
 | bl i=>
  cases rx
  cases y with
  | non=>cases ry;exact PySem.EqNone.eq_bool_none (zS I q (by simp))
  | bl j=>cases ry;exact eq_bool (zS I q Vm)
  | str j=>obtain ⟨t',rfl⟩:=ry;exact PySem.EqMixed.eq_bool_str (zS I q (by simp))
  | _=>exact absurd (show false=true from hs) Bool.false_ne_true
 | int i=>
  obtain ⟨t,rfl⟩:=rx
  cases y with
  | non=>cases ry;exact PySem.EqNone.eq_int_none (zS I q (by simp))
  | int j=>obtain ⟨t',rfl⟩:=ry;exact eq_int (zS I q Xs)
  | str j=>obtain ⟨t',rfl⟩:=ry;exact PySem.EqMixed.eq_int_str (zS I q (by simp))
  | _=>exact absurd (show false=true from hs) Bool.false_ne_true
 | str i=>
  obtain ⟨t,rfl⟩:=rx
  cases y with
  | non=>cases ry;exact PySem.EqNone.eq_str_none (zS I q (by simp))
  | bl j=>cases ry;exact PySem.EqMixed.eq_str_bool (zS I q (by simp))
  | int j=>obtain ⟨t',rfl⟩:=ry;exact PySem.EqMixed.eq_str_int (zS I q (by simp))
  | str j=>obtain ⟨t',rfl⟩:=ry;exact eq_str (zS I q KN)
  | _=>exact absurd (show false=true from hs) Bool.false_ne_true
 | byt i=>
  obtain ⟨t,rfl⟩:=rx
  cases y with
  | byt j=>obtain ⟨t',rfl⟩:=ry;exact PySem.W.eq_bytes (zS I q KL)
  | _=>exact absurd (show false=true from hs) Bool.false_ne_true
 | _=>cases y <;> exact absurd (show false=true from hs) Bool.false_ne_true
theorem WQ:OpR X (compareOp .Lt) (rI0 fun i j=>.bl (decide (i<j))):=Y0 fun _ _ _ _ _ _ _ q=>lt_int q
theorem WU:OpR X (compareOp .Gt) (rI0 fun i j=>.bl (decide (j<i))):=Y0 fun _ _ _ _ _ _ _ q=>gt_int q
theorem WY:OpR X (compareOp .GtE) (rI0 fun i j=>.bl (decide (j<=i))):=Y0 fun _ _ _ _ _ _ _ q=>ge_int q
theorem Y3:OpR X (compareOp .Is) (fun x y H Q=>y=.non/\Q (.bl (decide (x=.non))) H):=by
 intro pins s σ H x y v u Q I rx ry h
 obtain ⟨rfl,q⟩:=h
 cases ry
 refine is_none_gen (zS I q ?_)
 cases x <;> first
  | (cases rx;rfl)
  | (obtain ⟨t,rfl⟩:=rx;rfl)
theorem zC (b:Expr){op:CmpOp}(h:op ≠ .In:=by decide)(h2:op ≠ .NotIn:=by decide):behindInMarks op b=false:=by
 have e1:(op == CmpOp.In)=false:=by cases op <;> first | rfl | exact absurd rfl h
 have e2:(op == CmpOp.NotIn)=false:=by cases op <;> first | rfl | exact absurd rfl h2
 cases b <;> simp [behindInMarks,e1,e2]
theorem qd {op:CmpOp}{r:R2}(ho:OpR X (compareOp op) r)(ha:PE X a ta)(hb:PE X b tb)(hm:behindInMarks op b=false):PE X (.Compare a [op] [b] pos) (tOp r ta tb):=by
 intro pins s σ H Q I h
 exact wpAny_Compare1 (YW ha hb I h fun v u s2 x y H2 I2 rx ry q=>ho pins s2 σ H2 x y v u Q I2 rx ry q) hm
noncomputable def Kk (t:TE):TT:=fun σ H Q=>t σ H fun x H'=>∃ k,x=.bl k/\Q k H'
theorem qc {op:CmpOp}{r:R2}(ho:OpR X (compareOp op) r)(ha:PE X a ta)(hb:PE X b tb)(hm:behindInMarks op b=false):PT X (.Compare a [op] [b] pos) (Kk (tOp r ta tb)):=by
 intro pins s σ H Q I h
 refine wpAny_isTrue_Compare1 (thn (ha pins s σ H _ I h) fun v s1 ⟨x,H1,I1,r1,q1⟩=>thn (hb pins s1 σ H1 _ I1 q1) fun u s2 ⟨y,H2,I2,r2,q2⟩=>
  thn (ho pins s2 σ H2 x y v u _ I2 r1 r2 q2) fun c s3 ⟨z,H3,I3,r3,k,e,q3⟩=>?_) hm
 subst e
 cases r3
 exact wpAny_truthy_bool ⟨H3,I3,q3⟩
theorem kZ:(sizeLine:Nat)<2 ^ 63:=by rw [sizeLine_eq];decide
theorem qB {x:V}{us:List Value}(r:zl [x] us):∃ u,us=[u]/\zp x u:=by
 cases r with
 | cons r1 r2=>cases r2;exact ⟨_,rfl,r1⟩
theorem yF {x y:V}{us:List Value}(r:zl [x,y] us):∃ u w',us=[u,w']/\zp x u/\zp y w':=by
 cases r with
 | cons r1 r2=>
  cases r2 with
  | cons r3 r4=>cases r4;exact ⟨_,_,rfl,r1,r3⟩
theorem yL:qi X (.builtin "abs") (fun xs H Q=>∃ i,xs=[.int i]/\Q (.int (if i<0 then -i else i)) H):=by
 intro pins s σ H xs us Q I r h
 obtain ⟨i,rfl,q⟩:=h
 obtain ⟨u,rfl,t,rfl⟩:=qB r
 exact call_abs_int fun u tk=>⟨.int (if i<0 then -i else i),H,I.tok _,⟨_,rfl⟩,q⟩
theorem xG (hc:X.calm=true):qi X (.builtin "max") (fun xs H Q=>∃ i j,xs=[.int i,.int j]/\Q (.int (if j > i then j else i)) H):=by
 intro pins s σ H xs us Q I r h
 obtain ⟨i,j,rfl,q⟩:=h
 obtain ⟨u,w',rfl,⟨t,rfl⟩,⟨t',rfl⟩⟩:=yF r
 refine max_two_ints (I.ok.hd hc) fun h' tk k=>⟨_,H,I.kept k,?_,q⟩
 by_cases hj:j > i
 ·rw [if_pos hj,if_pos hj];exact ⟨_,rfl⟩
 ·rw [if_neg hj,if_neg hj];exact ⟨_,rfl⟩
theorem ZC:qi X (.type "int") (fun xs H Q=>(∃ i,xs=[.int i]/\Q (.int i) H) \/ ∃ k,xs=[.bl k]/\Q (.int (if k then 1 else 0)) H):=by
 intro pins s σ H xs us Q I r h
 rcases h with ⟨i,rfl,q⟩ | ⟨k,rfl,q⟩
 ·obtain ⟨u,rfl,t,rfl⟩:=qB r
  exact call_int_int ⟨.int i,H,I,⟨_,rfl⟩,q⟩
 ·obtain ⟨u,rfl,r1⟩:=qB r
  cases r1
  exact call_int_bool ⟨.int (if k then 1 else 0),H,I.tok _,⟨_,rfl⟩,q⟩
theorem yM:qi X (.builtin "divmod") (fun xs H Q=>∃ i j,xs=[.int i,.int j]/\YD i j/\∀ p,H p=none->Q (.ref p) (upd H p (.tup [.int (i / j),.int (i % j)]))):=by
 intro pins s σ H xs us Q I r h
 obtain ⟨i,j,rfl,⟨h1,h2⟩,q⟩:=h
 obtain ⟨u,w',rfl,⟨t,rfl⟩,⟨t',rfl⟩⟩:=yF r
 refine divmod_int (by omega) ?_ (.inl (PyProof.noPylong_small (by omega)))
 rw [Int.fdiv_eq_ediv_of_nonneg i (by omega),Int.fmod_eq_emod_of_nonneg i (by omega)]
 have hn:H s.heap.objs.size=none:=I.hok.fresh (Nat.le_refl _)
 refine ⟨.ref s.heap.objs.size,_,?_,rfl,q _ hn⟩
 refine I.laid (fun b o e=>Heap.get?_push_of_some _ e) (Nat.le_refl _) ⟨by simp only [List.length_cons,List.length_nil];rw [sizeLine_eq];decide,[.int (i / j) s.toks,.int (i % j) (s.toks+1)],.cons ⟨_,rfl⟩ (.cons ⟨_,rfl⟩ .nil),?_⟩
 exact ⟨_,Heap.get?_push_size s.heap rfl,rfl,⟨0,rfl⟩,rfl⟩
end
structure JS (h:Heap)(x dx C:Addr)(mA:Str->Option Value):Prop where
 obj:h.get? x=some (PySem.W.instObj C dx)
 ns:h.Ns1 dx mA
 ne:dx ≠ x
theorem ZK {h:Heap}{dx:Addr}{mA:Str->Option Value}(n:h.Ns1 dx mA):∃ od,h.get? dx=some od/\∀ name,PySem.W.lookIn name od=some (mA name):=by
 obtain ⟨o,es,ep,ho,hd,hk,_,hm⟩:=n
 refine ⟨o,ho,fun name=>?_⟩
 have e:=hm name
 unfold nsFind findBy at e
 rw [<- Array.find?_toList] at e
 unfold PySem.W.lookIn
 rw [hd]
 dsimp only
 split
 ·rename_i y q
  rw [q] at e
  exact congrArg some e
 ·rename_i q
  rw [q] at e
  have a:es.toList.any (·.refKey)=false:=by
   rw [List.any_eq_false]
   intro y hy
   obtain ⟨z,t,hkey⟩:=hk y (Array.mem_toList_iff.mp hy)
   simp [DictEntry.refKey,hkey]
  have a':¬ es.toList.any (·.refKey)=true:=by rw [a];exact Bool.false_ne_true
  rw [if_neg a']
  exact congrArg some e
theorem JS.look {h:Heap}{x dx C:Addr}{mA:Str->Option Value}(I:JS h x dx C mA):∃ od,PySem.W.InstAt h x (PySem.W.instObj C dx) C (some od)/\∀ name,PySem.W.lookIn name od=some (mA name):=
 let ⟨od,ho,hl⟩:=ZK I.ns
 ⟨od,⟨I.obj,rfl,rfl,ho⟩,hl⟩
section
variable {prog:Program}{w:World}{A:Around}{E:Value->Shared->Prop}{s:Shared}{K:PySem.W.Frag}{x dx C f:Addr}{mA:Str->Option Value}{name:Str}{v:Value}
theorem Za {ns:List Str}{Q:Unit->Shared->Prop}(X:K.In s.heap)(I:JS s.heap x dx C mA)
  (hs:PySem.W.findIn K (.ref C) "__setattr__"=some (some (.builtin "object.__setattr__"))) (hp:PySem.W.plainOver K C=true) (ht:PySem.W.takerIn K C name=some none) (hh:PySem.W.hasDictIn K C=true)
  (hw:PySem.Within mA ns) (hsz:ns.length<=sizeLine)
  (h:∀ h',JS h' x dx C (fun y=>if y=name then some v else mA y)->Heap.SameBut dx s.heap h'->Q () { s with heap:=h',toks:=s.toks+2 }) :
  wpAny (model prog w) A (setAttr (.ref x) name v) Q E s:=by
 obtain ⟨od,J,hl⟩:=I.look
 refine PySem.W.set_plain X J hs (PySem.W.osa_open (s:={ s with toks:=s.toks+1 }) (r:=none) X J hp ht fun b=>?_)
 obtain ⟨cd,hc,hd'⟩:=PySem.W.any_some hh
 have hx:s.heap.get? x=some ⟨.ref C,some dx,.plain,#[]⟩:=I.obj
 refine wpAny_bind (wpAny_pure (wpAny_bind (wpAny_bind (wpAny_loadPart hx (wpAny_bind (PySem.W.Looks.here (s:={ s with toks:=s.toks+1 }) (PySem.W.looks_clsIn X hc) ?_))))))
 rw [hd']
 refine wpAny_pure (a:=some dx) (wpAny_bind (wpAny_pure (wpAny_bind ?_)))
 refine wpAny_nsSet1 (s:={ s with toks:=s.toks+1 }) I.ns fun h' hn2 hs2=>?_
 obtain ⟨oD,esD,epD,hoD,hdD,hcD⟩:=hn2.count (PySem.Within.cons name v hw)
 refine wpAny_bind (wpAny_lookBehind hoD (by rw [hdD];exact pastItsLine_dict (Nat.le_trans hcD (by rw [List.length_cons];omega))) ?_)
 exact wpAny_pure (h _ ⟨(hs2.2 _ (Ne.symm I.ne)).trans I.obj,hn2,I.ne⟩ hs2)
end
section
variable {P:Program}{w:World}{H H':Hp}{h h':Heap}{a C dx:Addr}{fs fs':List (Str × V)}
theorem XO (hok:HOk P w H h)(e:H a=some (.ins C dx fs)):∃ mA,JS h a dx C mA/\(∀ f,Vr (fs.lookup f) (mA f))/\PySem.Within mA (fs.map (·.1))/\fs.length<=1000/\H dx=some (.own a):=by
 obtain ⟨d,z,ne,ob,mA,n,r,q⟩:=(show zx P w H h a (.ins C dx fs) from hok a _ e)
 exact ⟨mA,⟨ob,n,ne⟩,r,q,z,d⟩
end
structure Cls (K:PySem.W.Frag)(C:Addr):Prop where
 pg:PySem.W.plainGet K C Str.empty=true
 hd:PySem.W.hasDictIn K C=true
 po:PySem.W.plainOver K C=true
 sa:PySem.W.findIn K (.ref C) "__setattr__"=some (some (.builtin "object.__setattr__"))
theorem Cls.get {K:PySem.W.Frag}{C:Addr}(c:Cls K C)(f:Str):PySem.W.plainGet K C f=true:=c.pg
structure Con (K:PySem.W.Frag)(C:Addr)(f:Str)(v:V)(u:Value):Prop where
 at_:PySem.W.findIn K (.ref C) f=some (some u)
 rel:zp v u
 get:PySem.W.specialIn K u "__get__"=some none
 cp:PySem.W.copiedNames.contains f=false
structure Ai (K:PySem.W.Frag)(C:Addr)(m:Str)(f:Addr):Prop where
 at_:PySem.W.findIn K (.ref C) m=some (some (.ref f))
 fn:PySem.W.isFn K (.ref f)=true
 kp:PySem.W.keepIn K (.ref f)=true
section
variable {X:Cx}{pins:List (Addr × Obj)}{σ:St}{H:Hp}{s:Shared}{a C dx:Addr}{fs:List (Str × V)}{f:Str}{v:V}{A:Around}{E:Value->Shared->Prop}
end
section
variable {X:Cx}{o e value:Expr}{f:Str}{pos pos' tpos:Pos}{ta tv:TE}
end
section
variable {X:Cx}{pins:List (Addr × Obj)}{σ:St}{H:Hp}{s:Shared}{A:Around}{E:Value->Shared->Prop}{Q:Value->Shared->Prop}{c:Value}{b:Bool}
inductive qZ (K:PySem.W.Frag) (H:Hp):V->Value->Prop where
  | non:qZ K H .non (.type "NoneType")
  | bl (x:Bool):qZ K H (.bl x) (.type "bool")
  | int (i:Int):qZ K H (.int i) (.type "int")
  | str (x:Str):qZ K H (.str x) (.type "str")
  | flt (x:UInt64):qZ K H (.flt x) (.type "float")
  | lst {a:Addr} {xs:List V} (e:H a=some (.lst xs)):qZ K H (.ref a) (.type "list")
  | frz {a:Addr} {o:Obj} {xs:List V} (e:H a=some (.frz o (.lst xs))):qZ K H (.ref a) (.type "list")
  | tup {a:Addr} {xs:List V} (e:H a=some (.tup xs)):qZ K H (.ref a) (.type "tuple")
  | dK {a:Addr} {kvs:List (Key × V)} (e:H a=some (.dK kvs)):qZ K H (.ref a) (.type "dict")
  | dT {a:Addr} {kvs:List (List Key × V)} (e:H a=some (.dT kvs)):qZ K H (.ref a) (.type "dict")
  | ins {a C dx : Addr} {fs : List (Str × V)} (e : H a = some (.ins C dx fs)) (cl : Cls K C) (ha : PySem.W.findIn K (.ref C) "__class__" = some (some (.builtin "object.__class__")))
      (hn:PySem.W.specialIn K (.builtin "object.__class__") "__get__"=some (some (.builtin "getset_descriptor.__get__"))) (htk:PySem.W.takesIn K (.builtin "object.__class__")=some true)
      (hm:PySem.W.mroIn K C (.type "object")=some true):qZ K H (.ref a) (.ref C)
theorem ZG {x:V}{u t:Value}(I:Inv X pins σ H s)(rx:zp x u)(ty:qZ X.K H x t)(e:PySem.W.kitOne X.K t c=some b)(h:∀ tk,Q (.bool b) { s with toks:=tk }) :
  wpAny (model X.prog X.w) A (call (.builtin "isinstance") [u,c]) Q E s:=by
 cases ty with
 | non=>cases (show u=Value.none from rx);exact PySem.W.kia_one PySem.W.kitx_none I.kIn True.intro e (fun z=>nomatch z) h
 | bl y=>cases (show u=Value.bool y from rx);exact PySem.W.kia_one PySem.W.kitx_bool I.kIn True.intro e (fun z=>nomatch z) h
 | int i=>obtain ⟨t,q⟩:=(show ∃ t,u=Value.int i t from rx);cases q;exact PySem.W.kia_one PySem.W.kitx_int I.kIn True.intro e (fun z=>nomatch z) h
 | str y=>obtain ⟨t,q⟩:=(show ∃ t,u=Value.str y t from rx);cases q;exact PySem.W.kia_one PySem.W.kitx_str I.kIn True.intro e (fun z=>nomatch z) h
 | flt y=>obtain ⟨t,q⟩:=(show ∃ t,u=Value.float y t from rx);cases q;exact PySem.W.kia_one PySem.W.kitx_float I.kIn True.intro e (fun z=>nomatch z) h
 | @lst a xs ea=>
  cases (show u=Value.ref a from rx)
  obtain ⟨_,_,n,_,h1⟩:=(show zx X.prog X.w H s.heap a (.lst xs) from I.hok a _ ea)
  exact PySem.W.kia_one PySem.W.kitx_list I.kIn ⟨_,h1,rfl⟩ e (fun z=>nomatch z) h
 | @frz a ob xs ea=>
  cases (show u=Value.ref a from rx)
  obtain ⟨_,_,_,n,_,h1⟩:=(show zx X.prog X.w H s.heap a (.frz ob (.lst xs)) from I.hok a _ ea)
  exact PySem.W.kia_one PySem.W.kitx_list I.kIn ⟨_,h1,rfl⟩ e (fun z=>nomatch z) h
 | @tup a xs ea=>
  cases (show u=Value.ref a from rx)
  obtain ⟨_,_,_,p⟩:=(show zx X.prog X.w H s.heap a (.tup xs) from I.hok a _ ea)
  obtain ⟨o,h1,h2,_⟩:=p
  exact PySem.W.kia_one PySem.W.kitx_tuple I.kIn ⟨o,h1,h2⟩ e (fun z=>nomatch z) h
 | @dK a kvs ea=>
  cases (show u=Value.ref a from rx)
  obtain ⟨_,_,vs,_,p⟩:=(show zx X.prog X.w H s.heap a (.dK kvs) from I.hok a _ ea)
  obtain ⟨o,es,ep,h1,h2,_⟩:=p
  exact PySem.W.kia_one PySem.W.kitx_dict I.kIn ⟨o,h1,h2.1⟩ e (fun z=>nomatch z) h
 | @dT a kvs ea=>
  cases (show u=Value.ref a from rx)
  obtain ⟨_,_,xs,_,o,es,ep,h1,h2,_⟩:=(show zx X.prog X.w H s.heap a (.dT kvs) from I.hok a _ ea)
  exact PySem.W.kia_one PySem.W.kitx_dict I.kIn ⟨o,h1,h2.1⟩ e (fun z=>nomatch z) h
 | @ins a C dx fs ea cl ha hn htk hm=>
  cases (show u=Value.ref a from rx)
  obtain ⟨mA,O,_⟩:=XO I.hok ea
  obtain ⟨od,J,_⟩:=O.look
  exact PySem.W.kia_one (PySem.W.kitx_own (cl.get _) cl.hd ha hn htk hm) I.kIn J e (fun z=>nomatch z) h
end
structure z0 (k:Nat)(A:Around):Prop where
 hd:A.handled=none
 gd:A.guards=some []
 dp:A.depth+3 * k+5<recursionLimit
 un:A.units+16 * k+200<cLine
theorem z0.mono {j k:Nat}{A:Around}(r:z0 k A)(h:j<=k):z0 j A:=⟨r.hd,r.gd,by have:=r.dp;omega,by have:=r.un;omega⟩
theorem z0.deeper {k:Nat}{A:Around}(r:z0 (k+1) A)(env:Env):z0 k (A.deeper env):=
 ⟨r.hd,r.gd,by have:=r.dp;show A.depth+1+3 * k+5<_;omega,by have:=r.un;show A.units+3+16 * k+200<_;omega⟩
theorem z0.in1 {k:Nat}{A:Around}(r:z0 (k+1) A):z0 k A.in1:=
 ⟨r.hd,r.gd,by have:=r.dp;show A.depth+3 * k+5<_;omega,by have:=r.un;show A.units+1+16 * k+200<_;omega⟩
theorem z0.depth {k:Nat}{A:Around}(r:z0 k A):A.depth<recursionLimit:=by have:=r.dp;omega
theorem z0.units {k:Nat}{A:Around}(r:z0 k A):A.units+64<cLine:=by have:=r.un;omega
noncomputable def Yx:TA:=fun _ H Q=>Q [] H
noncomputable def JV (ta:TE)(tr:TA):TA:=fun σ H Q=>ta σ H fun x H1=>tr σ H1 fun xs H2=>Q (x :: xs) H2
section
variable {X:Cx}{e:Expr}{es:List Expr}{te:TE}{t:TA}{pos:Pos}
theorem zc:PA X [] Yx:=fun _ _ _ _ H Q I h=>Calls.spliced_nil ⟨[],H,I,.nil,h⟩
theorem za (ha:PE X e te)(hr:PA X es t)(hs:starEach (e :: es) X.env=(false,eval e X.env) :: starEach es X.env:=by rfl):PA X (e :: es) (JV te t):=by
 intro pos pins s σ H Q I h
 rw [hs]
 show wpAny _ _ (spliced ((false,eval e X.env) :: backTo pos (starEach es X.env))) _ _ s
 refine Calls.spliced_cons (thn (ha pins s σ H _ I h) fun u s1 ⟨x,H1,I1,r1,q1⟩=>?_)
 exact thn (hr pos pins s1 σ H1 _ I1 q1) fun us s2 ⟨xs,H2,I2,r2,q2⟩=>⟨x :: xs,H2,I2,.cons r1 r2,q2⟩
noncomputable def Y9 (t:TA):TE:=fun σ H Q=>t σ H fun xs H1=>xs.length<=sizeLine/\∀ p,H1 p=none->Q (.ref p) (upd H1 p (.tup xs))
noncomputable def VB (t:TA):TE:=fun σ H Q=>t σ H fun xs H1=>xs.length<=sizeLine/\∀ p,H1 p=none->Q (.ref p) (upd H1 p (.lst xs))
theorem J8 {x1}(h:PA X es t):PE X (.Tuple es x1 pos) (Y9 t):=by
 intro pins s σ H Q I hq
 refine wpAny_Tuple_spliced (thn (h pos pins s σ H _ I hq) fun us s1 ⟨xs,H1,I1,r,z,q⟩=>⟨by rw [<- r.length];exact z,?_⟩)
 have hf:H1 s1.heap.objs.size=none:=I1.hok.fresh (Nat.le_refl _)
 refine ⟨.ref s1.heap.objs.size,upd H1 s1.heap.objs.size (.tup xs),I1.laid (t':=s1.toks) (fun b u e=>Heap.get?_push_of_some _ e) (Nat.le_refl _) ?_,rfl,q _ hf⟩
 exact ⟨z,us,r,⟨_,Heap.get?_push_size _ rfl,rfl,⟨_,rfl⟩,rfl⟩⟩
theorem qH (h:PA X es t):PE X (.List es pos) (VB t):=by
 intro pins s σ H Q I hq
 refine wpAny_List_spliced (thn (h pos pins s σ H _ I hq) fun us s1 ⟨xs,H1,I1,r,z,q⟩=>⟨by rw [<- r.length];exact z,?_⟩)
 have hf:H1 s1.heap.objs.size=none:=I1.hok.fresh (Nat.le_refl _)
 refine ⟨.ref s1.heap.objs.size,upd H1 s1.heap.objs.size (.lst xs),I1.laid (t':=s1.toks) (fun b u e=>Heap.get?_push_of_some _ e) (Nat.le_refl _) ?_,rfl,q _ hf⟩
 exact ⟨z,us,0,r,Heap.get?_push_size _ rfl⟩
end
noncomputable abbrev Sp:=List V->Hp->VK->XK->Prop
noncomputable abbrev CXT:=List Env->Hp->Shared->XK->Value->Shared->Prop
structure Ji (P:Program)(w:World)(K:PySem.W.Frag)(mg:Str->Option Value)(base:Heap)(A:Around)(outer:List Env)(s:Shared)(H:Hp):Prop where
 frames:A.frames=some outer
 mod:Mod K mg base
 bs:∀ b o,base.get? b=some o->s.heap.get? b=some o/\H b=none
 bsz:base.objs.size<=s.heap.objs.size
 funs:s.heap.FunFrames base outer
 frf:∀ b ∈ frs outer,H b=none
 hok:HOk P w H s.heap
 bare:AllBare s.gens
noncomputable def CE (outer:List Env)(P:Program)(w:World)(H:Hp)(s:Shared)(Q:VK)(u:Value)(s':Shared):Prop:=
 ∃ v H',s'.os=s.os/\AllBare s'.gens/\Un (frs outer) [] H H' s.heap s'.heap/\HOk P w H' s'.heap/\zp v u/\Q v H'
noncomputable def CR (CX:CXT)(outer:List Env)(P:Program)(w:World)(H:Hp)(s:Shared)(Q:VK)(E:XK)(r:Result)(s':Shared):Prop:=
 match r with
 | .ok (.ret u)=>CE outer P w H s Q u s'
 | .ok _=>False
 | .error e=>CX outer H s E e s'
structure qN (P:Program)(w:World)(K:PySem.W.Frag)(mg:Str->Option Value)(base:Heap)(CX:CXT)(k:Nat)(f:Addr)(fd:FuncData)(ps:List Str)(sp:Sp):Prop where
 len:∀ vs H Q E,sp vs H Q E->vs.length=ps.length
 run:∀ (A:Around) (outer:List Env) (s:Shared) (H:Hp) (args:Args) (us:List Value) (vs:List V) (Q:VK) (E:XK),z0 k A->Ji P w K mg base A outer s H->BindsTo s fd args (ps.zip us)->zl vs us->sp vs H Q E ->
  codeAny (model P w) A (.call (.ref f) args) (CR CX outer P w H s Q E) s
theorem qN.mono {P:Program}{w:World}{K:PySem.W.Frag}{mg:Str->Option Value}{base:Heap}{CX:CXT}{j k:Nat}{f:Addr}{fd:FuncData}{ps:List Str}{sp:Sp}(F:qN P w K mg base CX j f fd ps sp)(h:j<=k) :
  qN P w K mg base CX k f fd ps sp:=⟨F.len,fun A outer s H args us vs Q E hr=>F.run A outer s H args us vs Q E (hr.mono h)⟩
theorem qN.imp {P:Program}{w:World}{K:PySem.W.Frag}{mg:Str->Option Value}{base:Heap}{CX:CXT}{k:Nat}{f:Addr}{fd:FuncData}{ps:List Str}{sp sp':Sp}(F:qN P w K mg base CX k f fd ps sp)
  (h:∀ vs H Q E,sp' vs H Q E->sp vs H Q E):qN P w K mg base CX k f fd ps sp':=
 ⟨fun vs H Q E q=>F.len vs H Q E (h _ _ _ _ q),fun A outer s H args us vs Q E hr he hb hv hs=>F.run A outer s H args us vs Q E hr he hb hv (h _ _ _ _ hs)⟩
section
variable {X:Cx}{pins:List (Addr × Obj)}{σ:St}{H:Hp}{s s':Shared}
theorem Inv.env0 (I:Inv X pins σ H s):Ji X.prog X.w X.K X.mg X.base X.A X.stack s H:=
 ⟨I.ok.frames,I.ok.mod,I.bs,Nat.le_trans I.ok.bsz I.sz,I.stack,I.stkFree,I.hok,I.bare⟩
theorem Inv.after {Q:VK}{u:Value}(I:Inv X pins σ H s)(h:CE X.stack X.prog X.w H s Q u s'):EP X pins σ Q u s':=by
 obtain ⟨v,H',os,bare,un,hok,r,q⟩:=h
 obtain ⟨hh,g,d,t,os'⟩:=s'
 obtain rfl:os'=s.os:=os
 exact ⟨v,H',I.call (h':=hh) (g':=g) (d':=d) (t':=t) (ch:=[]) un hok bare (fun b z=>absurd z (by simp)),r,q⟩
end
noncomputable def Zr (sp:Sp)(dvs:List V)(E:XK)(t:TA):TE:=fun σ H Q=>t σ H fun vs H1=>sp (vs ++ dvs) H1 Q E
noncomputable def xi (K:PySem.W.Frag)(fd:FuncData)(ps:List Str)(ds:List Value):Prop:=
 ∀ (s:Shared) (us:List Value),K.In s.heap->(us ++ ds).length=ps.length->BindsTo s fd ⟨us,[]⟩ (ps.zip (us ++ ds))
theorem xi.all {K:PySem.W.Frag}{fd:FuncData}{ps:List Str}(h:∀ us:List Value,us.length=ps.length->bindArgs fd ⟨us,[]⟩=pure (ps.zip us)):xi K fd ps []:=fun s us _ hl=>by
 rw [List.append_nil] at hl ⊢
 exact .of_eq (h us hl)
noncomputable def v9 (CX:CXT)(X:Cx)(E:XK):Prop:=∀ (pins:List (Addr × Obj)) (σ:St) (H:Hp) (s:Shared) (e:Value) (s':Shared),Inv X pins σ H s->CX X.stack H s E e s'->X.xe e s'
section
variable {X:Cx}{CX:CXT}{k:Nat}{f C:Addr}{fd:FuncData}{ps:List Str}{sp:Sp}{dvs:List V}{ds:List Value}{E:XK}{x m:Str}{p pos apos:Pos}{e o:Expr}{es:List Expr}{ta:TE}{t:TA}
theorem YR {pins:List (Addr × Obj)}{σ:St}{H:Hp}{s:Shared}{Q:VK}{us:List Value}{vs:List V}(F:qN X.prog X.w X.K X.mg X.base CX k f fd ps sp)(hr:z0 k X.A)(hb:xi X.K fd ps ds)(hd:zl dvs ds)(hx:v9 CX X E)
  (I:Inv X pins σ H s) (r:zl vs us) (h:sp (vs ++ dvs) H Q E):wpAny (model X.prog X.w) X.A (call (.ref f) us) (EP X pins σ Q) X.xe s:=by
 have r2:zl (vs ++ dvs) (us ++ ds):=r.append hd
 have hl:(us ++ ds).length=ps.length:=by rw [<- r2.length];exact F.len _ _ _ _ h
 refine wpAny_call (codeAny_mono (F.run X.A X.stack s H ⟨us,[]⟩ (us ++ ds) (vs ++ dvs) Q E hr I.env0 (hb s us I.kIn hl) r2 h) fun r s' hq=>?_)
 cases r with
 | error e=>exact hx pins σ H s e s' I hq
 | ok fl=>
  cases fl with
  | ret u=>exact I.after hq
  | next=>exact False.elim hq
  | brk=>exact False.elim hq
  | cont=>exact False.elim hq
theorem XQ (F:qN X.prog X.w X.K X.mg X.base CX k f fd ps sp)(hr:z0 k X.A)(hg:Gl X x)(hm:X.mg x=some (.ref f))(hk:PySem.W.keepIn X.K (.ref f)=true)(hb:xi X.K fd ps ds)(hd:zl dvs ds)(hx:v9 CX X E)
  (ha:PA X (e :: es) t) (hdb:(x == ("__debug__":Str))=false:=by decide) (he:starEach (e :: es) X.env=(false,eval e X.env) :: starEach es X.env:=by rfl) (hpl:(backTo pos (starEach es X.env)).any (·.1)=false:=by rfl) :
  PE X (.Call (.Name x p) (e :: es) [] pos) (Zr sp dvs E t):=by
 intro pins s σ H Q I h
 refine wpAny_Call_Name_kw (XR I hg hm ?_ hdb)
 refine PySem.W.callWith_K (h₀:=X.base) I.ok.mod.kin hk (thn (ha pos pins s σ H _ I h) fun us s1 ⟨vs,H1,I1,r,q⟩=>⟨I1.kIn,?_⟩) he hpl
 exact YR F hr hb hd hx I1 r q
structure Mk (K:PySem.W.Frag)(C f:Addr):Prop where
 makes:PySem.W.makesIn K C=true
 init:PySem.W.findIn K (.ref C) "__init__"=some (some (.ref f))
 fn:PySem.W.isFn K (.ref f)=true
 kp:PySem.W.keepIn K (.ref C)=true
end
section
variable {X:Cx}{CX:CXT}{k:Nat}{f C:Addr}{fd:FuncData}{ps ks:List Str}{sp:Sp}{E:XK}{x m:Str}{p pos apos kpos:Pos}{e o:Expr}{es:List Expr}{kws:List Keyword}{te ta:TE}{t tk:TA}{nm:Option Str}
structure W7 (K:PySem.W.Frag)(fd:FuncData)(ps ks:List Str)(g:List Value->List Value->List Value)(gV:List V->List V->List V):Prop where
 to:∀ (s:Shared) (us ws:List Value),K.In s.heap->(g us ws).length=ps.length->BindsTo s fd ⟨us,ks.zip ws⟩ (ps.zip (g us ws))
 rel:∀ {vs:List V} {us:List Value} {zs:List V} {ws:List Value},zl vs us->zl zs ws->zl (gV vs zs) (g us ws)
variable {g:List Value->List Value->List Value}{gV:List V->List V->List V}
end
structure zw (N P:List Str)(sc:Scope):Prop where
 kind:sc.kind=.function
 co:sc.isCoroutine=false
 gen:sc.isGenerator=false
 nd:N.Nodup
 pre:N.take P.length=P
 par:∀ x ∈ P,sc.names.lookup x=some .local \/ sc.names.lookup x=some .cell
 nofree:∀ y ∈ sc.names,y.2 ≠ .free
theorem xv {kindOf:Str->Option NameKind}{x:Str}:∀ {binds:List (Str × Value)} {m:Str->Option Value},(∀ v,(x,v) ∉ binds)->bindL kindOf binds m x=m x
 | [],_,_=>rfl
 | (n,v) :: r,m,h=>by
  unfold bindL
  rw [xv fun w hw=>h w (List.mem_cons_of_mem _ hw)]
  split
  ·have:x ≠ n:=by rintro rfl;exact h v List.mem_cons_self
   simp [this]
  ·rfl
theorem xF {kindOf:Str->Option NameKind}{x:Str}:∀ {binds:List (Str × Value)} {m:Str->Option Value},(∀ v,(x,v) ∉ binds)->bindC kindOf binds m x=m x
 | [],_,_=>rfl
 | (n,v) :: r,m,h=>by
  unfold bindC
  rw [xF fun w hw=>h w (List.mem_cons_of_mem _ hw)]
  split
  ·rfl
  ·have:x ≠ n:=by rintro rfl;exact h v List.mem_cons_self
   simp [this]
theorem xm {kindOf:Str->Option NameKind}{x:Str}{v:Value}:∀ {P:List Str} {vs:List Value} {i:Nat} {m:Str->Option Value},P.Nodup->P[i]?=some x->vs[i]?=some v->kindOf x=some .local ->
  bindL kindOf (P.zip vs) m x=some v
 | [],_,_,_,_,h,_,_=>by simp at h
 | _ :: _,[],_,_,_,_,h,_=>by simp at h
 | p :: P,w :: vs,0,m,nd,h1,h2,hk=>by
  simp at h1 h2;subst h1;subst h2
  show bindL kindOf ((p,w) :: P.zip vs) m p=_
  unfold bindL
  rw [xv fun v hv=>(List.nodup_cons.mp nd).1 (List.of_mem_zip hv).1,if_pos hk]
  simp
 | p :: P,w :: vs,i+1,m,nd,h1,h2,hk=>by
  show bindL kindOf ((p,w) :: P.zip vs) m x=_
  unfold bindL
  exact xm (i:=i) (List.nodup_cons.mp nd).2 (by simpa using h1) (by simpa using h2) hk
theorem xn {kindOf:Str->Option NameKind}{x:Str}{v:Value}:∀ {P:List Str} {vs:List Value} {i:Nat} {m:Str->Option Value},P.Nodup->P[i]?=some x->vs[i]?=some v->kindOf x ≠ some .local ->
  bindC kindOf (P.zip vs) m x=some v
 | [],_,_,_,_,h,_,_=>by simp at h
 | _ :: _,[],_,_,_,_,h,_=>by simp at h
 | p :: P,w :: vs,0,m,nd,h1,h2,hk=>by
  simp at h1 h2;subst h1;subst h2
  show bindC kindOf ((p,w) :: P.zip vs) m p=_
  unfold bindC
  rw [xF fun v hv=>(List.nodup_cons.mp nd).1 (List.of_mem_zip hv).1,if_neg hk]
  simp
 | p :: P,w :: vs,i+1,m,nd,h1,h2,hk=>by
  show bindC kindOf ((p,w) :: P.zip vs) m x=_
  unfold bindC
  exact xn (i:=i) (List.nodup_cons.mp nd).2 (by simpa using h1) (by simpa using h2) hk
noncomputable def qp (N:List Str)(vs:List V):St:=vs.map some ++ List.replicate (N.length - vs.length) none
noncomputable def kC (CX:CXT)(P:Program)(w:World)(K:PySem.W.Frag)(mg:Str->Option Value)(base:Heap)(N:List Str)(qual:Str)(scope:Scope)(f:Addr)(cd:Value)(A:Around)(outer:List Env)(s:Shared)(H:Hp)(E:XK):Cx where
 prog:=P
 w:=w
 K:=K
 mg:=mg
 base:=base
 A:=A.deeper (envOfC qual scope s.heap.objs.size f cd)
 N:=N
 s₀:=s
 H₀:=H
 env:=envOfC qual scope s.heap.objs.size f cd
 outer:=outer
 stack:=envOfC qual scope s.heap.objs.size f cd :: outer
 ex:=[]
 calm:=true
 fn:=fun _=>true
 pn:=[]
 xe:=fun e s'=>wpAny (model P w) (A.deeper (envOfC qual scope s.heap.objs.size f cd)) (leaving (envOfC qual scope s.heap.objs.size f cd) e) (fun _ s''=>CX outer H s E e s'') (fun e' s''=>CX outer H s E e' s'') s'
theorem yN {sc:Scope}{n:Nat}{x:Str}(h:sc.names.lookup x=some .cell):∃ c,(cellsFrom n sc.names []).lookup x=some c:=by
 have q:=PySem.W.cellsFrom_some sc.names n [] (.inl h)
 exact Option.isSome_iff_exists.mp q
theorem Z4 {CX : CXT}{P : Program}{w : World}{K : PySem.W.Frag}{mg : Str -> Option Value}{base : Heap}{N ps : List Str}{qual : Str}{scope : Scope}{f : Addr}{cd : Value}{A : Around}{outer : List Env}{s s1 : Shared}{H : Hp}{E : XK}{us : List Value}{vs : List V}
    (S:zw N ps scope) (hd:A.handled=none) (e0:Ji P w K mg base A outer s H) (hl:vs.length=ps.length) (r:zl vs us)
    (x:InCallC s s.heap.objs.size (bindL (envOfC qual scope s.heap.objs.size f cd).kindOf (ps.zip us) fun _=>none) (cellsFrom (s.heap.objs.size+1) scope.names []) (bindC (envOfC qual scope s.heap.objs.size f cd).kindOf (ps.zip us) fun _=>none) s1) :
    Inv (kC CX P w K mg base N qual scope f cd A outer s H E) [] (qp N vs) H s1:=by
  have hpl:ps.length<=N.length:=by have:=congrArg List.length S.pre;rw [List.length_take] at this;omega
  obtain ⟨h1,tk,rfl,hk⟩:=x.done
  have noA:∀ b:Addr,b ∉ (kC CX P w K mg base N qual scope f cd A outer s H E).ex:=fun b z=>absurd (show b ∈ ([]:List Addr) from z) (by simp)
  refine ⟨⟨e0.mod,S.kind,rfl,rfl,Nat.le_refl _,fun y z c h1 h2=>?_,fun y hy=>?_,fun y c _ h=>?_,fun _=>hd,Around.frames_deeper e0.frames,.inr ⟨rfl,rfl⟩,fun b z=>absurd z (noA b),e0.bs,e0.bsz,fun b _ _=>noA b,fun b z=>absurd z (noA b),e0.funs,e0.frf⟩,
    rfl,e0.bare,Un.kept hk,⟨_,x.toInCall.ns,fun i y v h1 h2 h3=>?_⟩,fun y c h=>⟨_,x.cell y c h⟩,e0.hok.fresh (Nat.le_refl _),fun y c h=>?_,fun p hp=>absurd (show p ∈ ([]:List (Addr × Obj)) from hp) (by simp),e0.hok.kept hk,?_⟩
  · exact name_of_addr x.apart (PySem.mem_of_lookup h1) (PySem.mem_of_lookup h2)
  · have hy:scope.names.lookup y=some .cell \/ scope.names.lookup y=some .free:=hy
    rcases hy with hy | hy
    · exact yN hy
    · exact absurd rfl (S.nofree _ (PySem.mem_of_lookup hy))
  · exact Nat.le_of_lt (x.above y c (PySem.mem_of_lookup h))
  · have hi : i < vs.length := by
      unfold qp at h2
      by_cases hi:i<vs.length
      · exact hi
      · rw [List.getElem?_append_right (by simpa using hi)] at h2
        rw [List.getElem?_replicate] at h2
        split at h2 <;> cases h2
    have ha:vs[i]?=some v:=by
      unfold qp at h2
      rw [List.getElem?_append_left (by simpa using hi),List.getElem?_map] at h2
      cases e:vs[i]? with
      | none=>rw [e] at h2;cases h2
      | some a=>rw [e] at h2;cases h2;rfl
    obtain ⟨u,hu,rv⟩:=r.get ha
    have hp:ps[i]?=some y:=by
      rw [<- S.pre,List.getElem?_take_of_lt (by omega)];exact h1
    have ndP:ps.Nodup:=by rw [<- S.pre];exact S.nd.sublist (List.take_sublist _ _)
    refine ⟨u,rv,?_⟩
    rcases S.par y (List.mem_of_getElem? hp) with k | k
    · exact .inl ⟨k,xm ndP hp hu k⟩
    · obtain ⟨c,e⟩:=yN (n:=s.heap.objs.size+1) k
      refine .inr ⟨.inl k,c,e,?_⟩
      have q:=x.cell y c e
      rw [xn ndP hp hu (by show scope.names.lookup y ≠ _;rw [k];decide)] at q
      exact q
  · exact e0.hok.fresh (Nat.le_of_lt (x.above y c (PySem.mem_of_lookup h)))
  · unfold qp
    show _=N.length
    rw [List.length_append,List.length_map,List.length_replicate]
    omega
theorem Ya {CX:CXT}{P:Program}{w:World}{K:PySem.W.Frag}{mg:Str->Option Value}{base:Heap}{k:Nat}{f:Addr}{name qual:Str}{params:Arguments}{body:List Stmt}{scope:Scope}{dV kV doc pm cdv ct oc:Value}{an od:Option Addr}
  {osl:Array (Option Value)} {N ps:List Str} {sp:Sp} (lk:K.lookup f=some ⟨oc,od,.func (PySem.W.fnOf name qual params body scope dV kV doc pm an cdv ct),osl⟩) (hcd:PySem.W.codeIn K cdv qual=true) (S:zw N ps scope)
  (len:∀ vs H Q E,sp vs H Q E->vs.length=ps.length)
  (hbody:∀ (A:Around) (outer:List Env) (s:Shared) (H:Hp) (vs:List V) (Q:VK) (E:XK),z0 k (A.deeper (envOfC qual scope s.heap.objs.size f cdv))->sp vs H Q E ->
   ∃ t,PSs (kC CX P w K mg base N qual scope f cdv A outer s H E) body t/\t { nx:=fun _ H'=>Q .non H',rt:=Q } (qp N vs) H) :
  qN P w K mg base CX (k+1) f (PySem.W.fnOf name qual params body scope dV kV doc pm an cdv ct) ps sp:=by
 refine ⟨len,fun A outer s H args us vs Q E hr e0 hb r hsp=>?_⟩
 have hl:=len _ _ _ _ hsp
 have KX:K.In s.heap:=e0.mod.kin.keeps fun b o e=>(e0.bs b o e).1
 have lim:s.heap.NoLimit:=e0.mod.nolimit.keeps fun b o e=>(e0.bs b o e).1
 have hkind:∀ y ∈ ps.zip us,scope.names.lookup y.1=some .local \/ (scope.names.lookup y.1=some .cell/\((cellsFrom (s.heap.objs.size+1) scope.names []).lookup y.1).isSome=true):=fun ⟨n,v⟩ hy=>by
  rcases S.par n (List.of_mem_zip hy).1 with q | q
  ·exact .inl q
  ·exact .inr ⟨q,PySem.W.cellsFrom_some _ _ _ (.inl q)⟩
 refine codeAny_call_function hr.depth (KX _ _ lk) rfl S.co S.gen rfl (PySem.W.codeRec_of KX hcd) (hb _ _ _ _ ?_)
 refine wpAny_newFunctionEnv_cells S.kind hkind fun env he s1 x=>?_
 subst he
 refine ⟨lim.keeps x.toInCall.keep,codeAny_func ?_⟩
 obtain ⟨t,ht,hq⟩:=hbody A outer s H vs Q E (hr.deeper _) hsp
 have I:Inv (kC CX P w K mg base N qual scope f cdv A outer s H E) [] (qp N vs) H s1:=Z4 S hr.hd e0 hl r x
 refine wpAny_mono (ht [] s1 (qp N vs) H _ I hq) (fun fl s' hs=>?_) fun e s' hs=>hs
 have fin:∀ {σ':St} {H':Hp} {v:V} {u:Value},Inv (kC CX P w K mg base N qual scope f cdv A outer s H E) [] σ' H' s'->zp v u->Q v H'->CE outer P w H s Q u s':=
  fun {σ' H' v u} J rv q=>⟨v,H',J.os,J.bare,J.base,J.hok,rv,q⟩
 cases fl with
 | ret u=>
  obtain ⟨v,σ',H',J,rv,q⟩:=hs
  exact fin J rv q
 | next=>
  obtain ⟨σ',H',J,q⟩:=hs
  exact fin (v:=V.non) (u:=Value.none) J rfl q
 | brk=>
  obtain ⟨_,_,_,q⟩:=hs
  exact False.elim q
 | cont=>
  obtain ⟨_,_,_,q⟩:=hs
  exact False.elim q
section
variable {X:Cx}{x:Str}{p pos:Pos}{e:Expr}{es:List Expr}{t:TA}{id T:String}{r:List V->Hp->VK->Prop}
noncomputable def tCB (r:List V->Hp->VK->Prop)(t:TA):TE:=fun σ H Q=>t σ H fun vs H1=>r vs H1 Q
theorem zn (hc:qi X (.builtin id) r)(hg:Gl X x)(hm:X.mg x=none)(hv:bootBuiltins x=some (.builtin id))(ha:PA X (e :: es) t)(hn:x ≠ "__name__":=by decide)(hdb:(x == ("__debug__":Str))=false:=by decide)
  (he:starEach (e :: es) X.env=(false,eval e X.env) :: starEach es X.env:=by rfl) (hpl:(backTo pos (starEach es X.env)).any (·.1)=false:=by rfl):PE X (.Call (.Name x p) (e :: es) [] pos) (tCB r t):=by
 intro pins s σ H Q I h
 refine wpAny_Call_Name_kw (qY I hg hm hv ?_ hn hdb)
 exact PyProof.Rows.callWith_builtin1 (thn (ha pos pins s σ H _ I h) fun us s1 ⟨vs,H1,I1,r1,q1⟩=>hc pins s1 σ H1 vs us Q I1 r1 q1) he hpl
theorem zQ (hc:qi X (.type T) r)(hg:Gl X x)(hm:X.mg x=none)(hv:bootBuiltins x=some (.type T))(ha:PA X (e :: es) t)(hn:x ≠ "__name__":=by decide)(hdb:(x == ("__debug__":Str))=false:=by decide)
  (he:starEach (e :: es) X.env=(false,eval e X.env) :: starEach es X.env:=by rfl) (hpl:(backTo pos (starEach es X.env)).any (·.1)=false:=by rfl):PE X (.Call (.Name x p) (e :: es) [] pos) (tCB r t):=by
 intro pins s σ H Q I h
 refine wpAny_Call_Name_kw (qY I hg hm hv ?_ hn hdb)
 exact PyProof.Rows.callWith_type1 (thn (ha pos pins s σ H _ I h) fun us s1 ⟨vs,H1,I1,r1,q1⟩=>hc pins s1 σ H1 vs us Q I1 r1 q1) he hpl
end
end L2
namespace HT
open PySem PyProof.Rows
section
open PySem.SeqAt
open PySem.AutoSeq1 (wpAny_loadPart')
open PySem.MeetsSeq PySem.MeetsSeq2 PySem.MeetsSeq3
end
section
variable {prog:Program}{w:World}{A:Around}{E:Value->Shared->Prop}{s:Shared}
noncomputable def sIx (n d:Nat):Option Int->Nat
 | none=>d
 | some v=>if v<0 then (v+(n:Int)).toNat else min v.toNat n
theorem sIx_none (n d:Nat):sIx n d none=d:=rfl
theorem sIx_nat (n d k:Nat):sIx n d (some (k:Int))=min k n:=by
 show (if (k:Int)<0 then ((k:Int)+(n:Int)).toNat else min (k:Int).toNat n)=min k n
 rw [if_neg (by omega),Int.toNat_natCast]
theorem slicePart_ {v:Value}{o:Option Int}{Q:Option Int->Shared->Prop}(p:IsPart v o)(h:Q o s):wpAny (model prog w) A (Builtin.Slice.slicePartIndex v) Q E s:=by
 cases p with
 | none=>exact slicePart_none h
 | int i t=>exact slicePart_int h
end
end HT
namespace L2
open PySem PySem.Spec PyProof.Rows
noncomputable abbrev TO:=St->Hp->(Option Int->Hp->Prop)->Prop
noncomputable def PO (X:Cx)(e:Option Expr)(t:TO):Prop:=
 ∀ (pins:List (Addr × Obj)) (s:Shared) (σ:St) (H:Hp) (Q:Option Int->Hp->Prop),Inv X pins σ H s->t σ H Q ->
  wpAny (model X.prog X.w) X.A (evalPart e X.env) (fun u s'=>∃ o H',Inv X pins σ H' s'/\IsPart u o/\Q o H') X.xe s
noncomputable def yb:TO:=fun _ H Q=>Q none H
noncomputable def Ku (t:TE):TO:=fun σ H Q=>t σ H fun x H1=>∃ i,x=.int i/\Q (some i) H1
theorem jw {ns:List Int}:∀ {us:List Value},zl (ns.map V.int) us->IntsAre us ns:=by
 induction ns with
 | nil=>intro us r;rw [List.map_nil] at r;cases r;exact .nil
 | cons n ns ih=>
  intro us r
  rw [List.map_cons] at r
  cases r with
  | cons r1 r2=>
   obtain ⟨t,e⟩:=r1
   subst e
   exact .cons n t (ih r2)
section
variable {X:Cx}{e:Expr}{te:TE}{lo hi:Option Expr}{tl th:TO}{pos p2:Pos}
theorem kh:PO X none yb:=by
 intro pins s σ H Q I h
 rw [evalPart_none]
 exact wpAny_pure ⟨none,H,I,.none,h⟩
theorem jB (h:PE X e te):PO X (some e) (Ku te):=by
 intro pins s σ H Q I hw
 rw [evalPart_some]
 refine thn (h pins s σ H _ I hw) fun u s1 ⟨x,H1,I1,r1,q1⟩=>?_
 obtain ⟨i,rfl,q⟩:=q1
 obtain ⟨t,rfl⟩:=r1
 exact ⟨some i,H1,I1,.int i t,q⟩
noncomputable def SlR (X:Cx)(r:V->Option Int->Option Int->Hp->VK->Prop):Prop:=
 ∀ (pins:List (Addr × Obj)) (s:Shared) (σ:St) (H:Hp) (x:V) (v vl vu:Value) (lo hi:Option Int) (sl:Addr) (Q:VK),Inv X pins σ H s->zp x v->s.heap.IsSliceOf sl vl vu .none->IsPart vl lo->IsPart vu hi->r x lo hi H Q ->
  ∃ T id,typeLookup (.type T) "__getitem__"=pure (some (.builtin id))/\s.TypeIs v T/\wpAny (model X.prog X.w) X.A (getItem v (.ref sl)) (EP X pins σ Q) X.xe s
noncomputable def tSl (r:V->Option Int->Option Int->Hp->VK->Prop)(te:TE)(tl th:TO):TE:=fun σ H Q=>te σ H fun x H1=>tl σ H1 fun l H2=>th σ H2 fun u H3=>r x l u H3 Q
theorem kW {r:V->Option Int->Option Int->Hp->VK->Prop}(hr:SlR X r)(he:PE X e te)(hl:PO X lo tl)(hu:PO X hi th):PE X (.Subscript e (.Slice lo hi none p2) pos) (tSl r te tl th):=by
 intro pins s σ H Q I h
 refine Subscript_ (thn (he pins s σ H _ I h) fun v s1 ⟨x,H1,I1,r1,q1⟩=>?_)
 refine wpAny_Slice (thn (hl pins s1 σ H1 _ I1 q1) fun vl s2 ⟨l,H2,I2,pl,q2⟩=>thn (hu pins s2 σ H2 _ I2 q2) fun vu s3 ⟨u,H3,I3,pu,q3⟩=>?_)
 rw [evalPart_none]
 refine wpAny_pure ?_
 have I4:Inv X pins σ H3 { s3 with heap:=s3.heap.push { cls:=.type "slice",data:=.fields #[vl,vu,.none] } }:=I3.kept (t':=s3.toks) fun b ob q=>Heap.get?_push_of_some _ q
 obtain ⟨T,id,hT,ht,hg⟩:=hr pins { s3 with heap:=s3.heap.push { cls:=.type "slice",data:=.fields #[vl,vu,.none] } } σ H3 x v vl vu l u s3.heap.objs.size Q I4 r1 (Heap.IsSliceOf.new ..) pl pu q3
 show wpAny (model X.prog X.w) X.A (subscriptTail e (.Slice lo hi none p2) v (.ref s3.heap.objs.size)) (EP X pins σ Q) X.xe { s3 with heap:=s3.heap.push { cls:=.type "slice",data:=.fields #[vl,vu,.none] } }
 exact tail_any (ops:=[.ref s3.heap.objs.size,v]) ht hT hg (by with_unfolding_all rfl)
noncomputable def yO (xs:List V)(lo hi:Option Int):List V:=(xs.drop (HT.sIx xs.length 0 lo)).take (HT.sIx xs.length xs.length hi - HT.sIx xs.length 0 lo)
theorem yq (xs:List V)(lo hi:Option Int):(yO xs lo hi).length<=xs.length:=by
 unfold yO
 rw [List.length_take,List.length_drop]
 omega
end
noncomputable def ixN (n:Nat)(i:Int):Option Nat:=if 0<=i then (if i<n then some i.toNat else none) else if -(n:Int)<=i then some (i+n).toNat else none
noncomputable def atI {α:Type}(xs:List α)(i:Int):Option α:=(ixN xs.length i).bind fun j=>xs[j]?
theorem Zl {n:Nat}{i:Int}{j:Nat}(h:ixN n i=some j):seqIndex? i n=some j/\j<n/\-(n:Int)<=i/\i<n:=by
 unfold ixN at h
 by_cases h0:0<=i
 ·rw [if_pos h0] at h
  by_cases h1:i<n
  ·rw [if_pos h1] at h
   have e:i.toNat=j:=Option.some.inj h
   exact ⟨by rw [seqIndex_of h0 h1,e],by omega,by omega,h1⟩
  ·rw [if_neg h1] at h;cases h
 ·rw [if_neg h0] at h
  by_cases h1:-(n:Int)<=i
  ·rw [if_pos h1] at h
   have e:(i+n).toNat=j:=Option.some.inj h
   exact ⟨by rw [seqIndex_neg (by omega) h1,e],by omega,h1,by omega⟩
  ·rw [if_neg h1] at h;cases h
theorem Zi {α:Type}{xs:List α}{i:Int}{v:α}(h:atI xs i=some v):∃ j,seqIndex? i xs.length=some j/\xs[j]?=some v/\j<xs.length/\-(xs.length:Int)<=i/\i<xs.length:=by
 unfold atI at h
 cases e:ixN xs.length i with
 | none=>rw [e] at h;cases h
 | some j=>
  rw [e] at h
  obtain ⟨h1,h2,h3,h4⟩:=Zl e
  exact ⟨j,h1,h,h2,h3,h4⟩
theorem K1 {α:Type}{xs:List α}{j:Nat}{v:α}(h:xs[j]?=some v):atI xs (j:Int)=some v:=by
 have hj:j<xs.length:=(List.getElem?_eq_some_iff.mp h).1
 have e:ixN xs.length (j:Int)=some j:=by
  unfold ixN
  rw [if_pos (by omega),if_pos (by omega)];simp
 unfold atI;rw [e];exact h
noncomputable def Xj (b:Expr):Prop:=∀ o i,subscripted b false o i=operate [o,i] (getItem o i)
noncomputable def IxR (X:Cx)(r:R2):Prop:=
 ∀ (value slice:Expr) (pins:List (Addr × Obj)) (s:Shared) (σ:St) (H:Hp) (x y:V) (v u:Value) (Q:VK),Inv X pins σ H s->zp x v->zp y u->r x y H Q ->
  subscripted slice false v u=operate [v,u] (getItem v u)->wpAny (model X.prog X.w) X.A (subscriptTail value slice v u) (EP X pins σ Q) X.xe s
noncomputable def MtR (X:Cx)(id:String)(r:V->List V->Hp->VK->Prop):Prop:=
 ∀ (pins:List (Addr × Obj)) (s:Shared) (σ:St) (H:Hp) (x:V) (xs:List V) (v:Value) (us:List Value) (Q:VK),Inv X pins σ H s->zp x v->zl xs us->r x xs H Q ->
  wpAny (model X.prog X.w) X.A (call (.builtin id) (v :: us)) (EP X pins σ Q) X.xe s
section
variable {X:Cx}{a b:Expr}{ta tb:TE}{pos:Pos}
theorem zY {r:R2}(hr:IxR X r)(ha:PE X a ta)(hb:PE X b tb)(hs:Xj b):PE X (.Subscript a b pos) (tOp r ta tb):=by
 intro pins s σ H Q I h
 exact Subscript_ (YW ha hb I h fun v u s2 x y H2 I2 rx ry q=>hr a b pins s2 σ H2 x y v u Q I2 rx ry q (hs _ _))
noncomputable def Wu (K:PySem.W.Frag):R2:=fun x y H Q=>∃ p xs i v,x=.ref p/\y=.int i/\SqL K H p xs/\atI xs i=some v/\Q v H
noncomputable def WN (K:PySem.W.Frag):R2:=fun x y H Q=>∃ p xs i v,x=.ref p/\y=.int i/\SqT K H p xs/\atI xs i=some v/\Q v H
theorem zL:IxR X (Wu X.K):=by
  intro value slice pins s σ H x y v u Q I rx ry h hs
  obtain ⟨p,xs,i,z,rfl,rfl,hq,he,q⟩:=h
  cases rx
  obtain ⟨t,rfl⟩:=ry
  obtain ⟨its,r,pl,hz⟩:=I.list hq
  obtain ⟨j,h1,h2,h3,h4,h5⟩:=Zi he
  obtain ⟨w,ew,rw'⟩:=r.get h2
  have hl:=r.length
  have hn:=kZ
  have fin:EP X pins σ Q w s:=⟨z,H,I,rw',q⟩
  by_cases h0:0<=i
  · have hj : i.toNat = j := by
      rw [seqIndex_of h0 h5] at h1
      exact Option.some.inj h1
    exact item_listR pl.isList h0 (by omega) (by rw [hj];simpa using ew) fin hs
  · have hj : (i + (its.toArray.size : Int)).toNat = j := by
      rw [seqIndex_neg (by omega) h4] at h1
      rw [List.size_toArray,<- hl]
      exact Option.some.inj h1
    exact subscriptTail_builtinR (x:=w) pl.isList.typeIs slot_list_getitem.lookup
      (wpAny_getItem_list_neg (Q:=fun r s'=>r=w/\EP X pins σ Q r s') pl.isList (by omega) (by rw [List.size_toArray] <;> omega) (by omega) (by rw [hj];simpa using ew) ⟨rfl,fin⟩) hs
theorem Yu:IxR X (WN X.K):=by
 intro value slice pins s σ H x y v u Q I rx ry h hs
 obtain ⟨p,xs,i,z,rfl,rfl,hq,he,q⟩:=h
 cases rx
 obtain ⟨t,rfl⟩:=ry
 obtain ⟨its,r,pl,hz⟩:=I.tuple hq
 obtain ⟨j,h1,h2,h3,h4,h5⟩:=Zi he
 obtain ⟨w,ew,rw'⟩:=r.get h2
 have hl:=r.length
 have hn:=kZ
 have fin:EP X pins σ Q w s:=⟨z,H,I,rw',q⟩
 exact subscriptTail_builtinR (x:=w) pl.typeIs slot_tuple_getitem.lookup
  (getItem_tuple (j:=j) (Q:=fun r s'=>r=w/\EP X pins σ Q r s') pl (by omega) (by omega) (by rw [List.size_toArray,<- hl];exact h1) (by simpa using ew) ⟨rfl,fin⟩) hs
theorem vU (its:List Value)(n j:Nat)(u:Value):Obj.mapSeq (·.setIfInBounds j u) { cls:=.type "list",data:=.seq its.toArray n }={ cls:=.type "list",data:=.seq (its.set j u).toArray n }:=by
 simp [Obj.mapSeq]
theorem Inv.lst {pins:List (Addr × Obj)}{σ:St}{H:Hp}{s:Shared}{p:Addr}{xs:List V}(I:Inv X pins σ H s)(h:H p=some (.lst xs)) :
  ∃ (its:List Value) (n:Nat),zl xs its/\s.heap.get? p=some { cls:=.type "list",data:=.seq its.toArray n }/\xs.length<=sizeLine:=by
 obtain ⟨z,its,n,r,e⟩:=I.hok p _ h
 exact ⟨its,n,r,e,z⟩
theorem Inv.lstUpd {pins:List (Addr × Obj)}{σ:St}{H:Hp}{s:Shared}{p:Addr}{xs ys:List V}{its its':List Value}{n n':Nat}{f:Obj->Obj}(I:Inv X pins σ H s)(h:H p=some (.lst xs))
  (ho:s.heap.get? p=some { cls:=.type "list",data:=.seq its.toArray n }) (hf:f { cls:=.type "list",data:=.seq its.toArray n }={ cls:=.type "list",data:=.seq its'.toArray n' }) (r:zl ys its') (hz:ys.length<=sizeLine) (t:Nat) :
  Inv X pins σ (upd H p (.lst ys)) { s with heap:=s.heap.update p f,toks:=t }:=by
 have e:(s.heap.update p f).get? p=some { cls:=.type "list",data:=.seq its'.toArray n' }:=by
  rw [Heap.get?_update_self f ho (by rw [hf] <;> rfl),hf]
 refine I.write (x:=p) (e:=p) (by rw [h];trivial) (.inl rfl) (fun b u hb q=>(Heap.get?_update_other _ _ (Ne.symm hb)).trans q) ⟨_,e⟩ ?_
 exact ⟨hz,its',n',r,e⟩
noncomputable def X3:V->V->V->Hp->(Hp->Prop)->Prop:=fun o i v H Q=>∃ p xs k j,o=.ref p/\i=.int k/\H p=some (.lst xs)/\ixN xs.length k=some j/\Q (upd H p (.lst (xs.set j v)))
theorem J9:YK X X3:=by
  intro pins s σ H o i v ov iv u Q I ro ri rv h
  obtain ⟨p,xs,k,j,rfl,rfl,hp,hj,q⟩:=h
  cases ro
  obtain ⟨t,rfl⟩:=ri
  obtain ⟨its,n,r,ho,hz⟩:=I.lst hp
  obtain ⟨h1,h2,h3,h4⟩:=Zl hj
  have hl:=r.length
  have hn:=kZ
  have I':Inv X pins σ (upd H p (.lst (xs.set j v))) { s with heap:=s.heap.update p (Obj.mapSeq (·.setIfInBounds j u)) }:=
    I.lstUpd hp ho (vU its n j u) (r.set rv j) (by rw [List.length_set];exact hz) s.toks
  by_cases h0:0<=k
  · have hk : k.toNat = j := by
      rw [seqIndex_of h0 h4] at h1
      exact Option.some.inj h1
    exact PySem.W.ki_setAt ho h0 (by omega) (by rw [List.size_toArray,<- hl];exact h4) (by rw [hk];exact ⟨_,I',q⟩)
  · have hk : (k + (its.toArray.size : Int)).toNat = j := by
      rw [seqIndex_neg (by omega) h3] at h1
      rw [List.size_toArray,<- hl]
      exact Option.some.inj h1
    exact PySem.W.ki_setBack ho (by omega) (by rw [List.size_toArray,<- hl];exact h3) (by omega) (by rw [hk];exact ⟨_,I',q⟩)
theorem xU (lo hi:Option Int)(n:Nat):(sliceBounds lo hi none n).1=((HT.sIx n 0 lo:Nat):Int)/\(sliceBounds lo hi none n).2.1=((HT.sIx n n hi:Nat):Int)/\(sliceBounds lo hi none n).2.2=1:=by
 refine ⟨?_,?_,rfl⟩
 ·cases lo with
  | none=>simp [sliceBounds,HT.sIx]
  | some i=>
   simp only [sliceBounds,HT.sIx,Option.getD_none,show (1:Int) > 0 by decide,if_true]
   by_cases h:i<0
   ·simp only [h,if_true] <;> omega
   ·simp only [h,if_false] <;> omega
 ·cases hi with
  | none=>simp [sliceBounds,HT.sIx]
  | some i=>
   simp only [sliceBounds,HT.sIx,Option.getD_none,show (1:Int) > 0 by decide,if_true]
   by_cases h:i<0
   ·simp only [h,if_true] <;> omega
   ·simp only [h,if_false] <;> omega
theorem xb (its:List Value)(lo hi:Option Int):slicePick its.toArray lo hi none=((its.drop (HT.sIx its.length 0 lo)).take (HT.sIx its.length its.length hi - HT.sIx its.length 0 lo)).toArray:=by
 obtain ⟨h1,h2,h3⟩:=xU lo hi its.toArray.size
 unfold slicePick
 rw [h1,h2,h3]
 simp only [sliceRange_one,pick_run,List.size_toArray] <;> rfl
noncomputable def YM (K:PySem.W.Frag):V->Option Int->Option Int->Hp->VK->Prop:=fun x lo hi H Q=>∃ a xs,x=.ref a/\SqL K H a xs/\∀ p,H p=none->Q (.ref p) (upd H p (.lst (yO xs lo hi)))
theorem xO:SlR X (YM X.K):=by
 intro pins s σ H x v vl vu lo hi sl Q I rx hs pl pu h
 obtain ⟨a,xs,rfl,hx,q⟩:=h
 cases rx
 obtain ⟨its,r,ht,hz⟩:=I.list hx
 have hlen:=r.length
 refine ⟨"list",_,slot_list_getitem.lookup,ht.isList.typeIs,?_⟩
 refine wpAny_getItem_list_slice ht.isList hs pl pu .none (by simp) ?_ (by rw [List.size_toArray] <;> omega)
 rw [xb,<- hlen]
 refine ⟨.ref s.heap.objs.size,_,I.laid (t':=s.toks) (o:=.lst (yO xs lo hi)) (fun b ob q=>Heap.get?_push_of_some _ q) (Nat.le_refl _) ?_,rfl,q _ (I.hok.fresh (Nat.le_refl _))⟩
 exact ⟨Nat.le_trans (yq xs lo hi) hz,_,0,(r.drop (HT.sIx xs.length 0 lo)).take (HT.sIx xs.length xs.length hi - HT.sIx xs.length 0 lo),Heap.get?_push_size _ rfl⟩
noncomputable def jv:V->Bool
 | .non=>true
 | .bl _=>true
 | .int _=>true
 | .str _=>true
 | _=>false
noncomputable def eqV:V->V->Bool
 | .non,.non=>true
 | .bl a,.bl b=>a == b
 | .bl a,.int b=>(if a then 1 else 0) == b
 | .int a,.bl b=>a == (if b then 1 else 0)
 | .int a,.int b=>a == b
 | .str a,.str b=>a == b
 | _,_=>false
theorem Wi {A:Around}{s:Shared}{y x:V}{u v:Value}(ry:zp y u)(rx:zp x v)(fy:jv y=true)(fx:jv x=true):SeqAt.EqAt A s u v (eqV y x):=by
 cases y with
 | non=>
  cases ry
  cases x with
  | non=>cases rx;exact SeqAt.EqAt.same _
  | bl b=>cases rx;exact SeqAt.EqAt.none_bool b
  | int b=>obtain ⟨t,rfl⟩:=rx;exact SeqAt.EqAt.none_int b t
  | str b=>obtain ⟨t,rfl⟩:=rx;exact SeqAt.EqAt.none_str b t
  | _=>exact absurd (show false=true from fx) Bool.false_ne_true
 | bl a=>
  cases ry
  cases x with
  | non=>cases rx;exact SeqAt.EqAt.bool_none a
  | bl b=>cases rx;exact SeqAt.EqAt.bool_bool a b
  | int b=>obtain ⟨t,rfl⟩:=rx;exact SeqAt.EqAt.bool_int a b t
  | str b=>obtain ⟨t,rfl⟩:=rx;exact SeqAt.EqAt.bool_str a b t
  | _=>exact absurd (show false=true from fx) Bool.false_ne_true
 | int a=>
  obtain ⟨t',rfl⟩:=ry
  cases x with
  | non=>cases rx;exact SeqAt.EqAt.int_none a t'
  | bl b=>cases rx;exact SeqAt.EqAt.int_bool a t' b
  | int b=>obtain ⟨t,rfl⟩:=rx;exact SeqAt.EqAt.int_int a t' b t
  | str b=>obtain ⟨t,rfl⟩:=rx;exact SeqAt.EqAt.int_str a t' b t
  | _=>exact absurd (show false=true from fx) Bool.false_ne_true
 | str a=>
  obtain ⟨t',rfl⟩:=ry
  cases x with
  | non=>cases rx;exact SeqAt.EqAt.str_none a t'
  | bl b=>cases rx;exact SeqAt.EqAt.str_bool a t' b
  | int b=>obtain ⟨t,rfl⟩:=rx;exact SeqAt.EqAt.str_int a t' b t
  | str b=>obtain ⟨t,rfl⟩:=rx;exact SeqAt.EqAt.str_str a t' b t
  | _=>exact absurd (show false=true from fx) Bool.false_ne_true
 | _=>exact absurd (show false=true from fy) Bool.false_ne_true
noncomputable def eqU (x:V)(u:Value):Bool:=match u with
 | .none=>eqV .non x
 | .bool b=>eqV (.bl b) x
 | .int i _=>eqV (.int i) x
 | .str z _=>eqV (.str z) x
 | _=>false
theorem QA {x y:V}{u:Value}(r:zp y u)(f:jv y=true):eqU x u=eqV y x:=by
 cases y with
 | non=>cases r;rfl
 | bl b=>cases r;rfl
 | int i=>obtain ⟨t,rfl⟩:=r;rfl
 | str z=>obtain ⟨t,rfl⟩:=r;rfl
 | _=>exact absurd (show false=true from f) Bool.false_ne_true
theorem vc {A:Around}{s:Shared}{x:V}{v:Value}(rx:zp x v)(fx:jv x=true):∀ {xs:List V} {us:List Value},zl xs us->xs.all jv=true->∀ u ∈ us,SeqAt.EqAt A s u v (eqU x u)
 | _,_,.nil,_=>fun u hu=>by cases hu
 | y :: xs,u :: us,.cons r t,f=>fun u' hu=>by
  rw [List.all_cons,Bool.and_eq_true] at f
  rcases List.mem_cons.mp hu with rfl | hu
  ·rw [QA r f.1];exact Wi r rx f.1 fx
  ·exact vc rx fx t f.2 u' hu
theorem zP:qi X (.builtin "len") (fun xs H Q=>∃ p ys,xs=[.ref p]/\(SqL X.K H p ys \/ SqT X.K H p ys)/\Q (.int ys.length) H):=by
 intro pins s σ H xs us Q I r h
 obtain ⟨p,ys,rfl,hq,q⟩:=h
 obtain ⟨u,rfl,rx⟩:=qB r
 cases rx
 have hn:=kZ
 rcases hq with hq | hq
 ·obtain ⟨its,r',pl,hz⟩:=I.list hq
  have hlen:=r'.length
  exact Calls.call_len_list pl.isList (by simp only [List.size_toArray] <;> omega) ⟨.int ys.length,H,I.tok _,⟨s.toks+1,by rw [List.size_toArray,hlen]⟩,q⟩
 ·obtain ⟨its,r',pl,hz⟩:=I.tuple hq
  have hlen:=r'.length
  exact len_tuple pl (by simp only [List.size_toArray] <;> omega) ⟨.int ys.length,H,I.tok _,⟨s.toks+1,by rw [List.size_toArray,hlen]⟩,q⟩
theorem jE:qi X (.type "list") (fun xs H Q=>∃ p ys,xs=[.ref p]/\(SqL X.K H p ys \/ SqT X.K H p ys)/\∀ l,H l=none->Q (.ref l) (upd H l (.lst ys))):=by
 intro pins s σ H xs us Q I r h
 obtain ⟨p,ys,rfl,hq,q⟩:=h
 obtain ⟨u,rfl,rx⟩:=qB r
 cases rx
 have fin:∀ (its:List Value),zl ys its->ys.length<=sizeLine->∀ (h':Heap) (c':Nat),(∀ b o',s.heap.get? b=some o'->h'.get? b=some o') ->
   h'.get? s.heap.objs.size=some { cls:=.type "list",dict:=none,data:=.seq its.toArray c',slots:=#[] }->EP X pins σ Q (.ref s.heap.objs.size) { s with heap:=h' }:=fun its r' hz h' c' kp e=>
  ⟨.ref s.heap.objs.size,_,I.laid (t':=s.toks) kp (Nat.le_refl _) (show zx X.prog X.w _ h' _ (.lst ys) from ⟨hz,its,c',r',e⟩),rfl,q _ (I.hok.fresh (Nat.le_refl _))⟩
 rcases hq with hq | hq
 ·obtain ⟨its,r',pl,hz⟩:=I.list hq
  have hlen:=r'.length
  obtain ⟨o,ho,hc,n,hd⟩:=pl.isList
  exact call_list_seq p (.inl rfl) ho hc hd (fun h' c' kp e=>fin its r' hz h' c' kp e) (by simp only [List.size_toArray] <;> omega)
 ·obtain ⟨its,r',pl,hz⟩:=I.tuple hq
  have hlen:=r'.length
  obtain ⟨o,ho,hc,n,hd⟩:=pl
  exact call_list_seq p (.inr rfl) ho hc hd (fun h' c' kp e=>fin its r' hz h' c' kp e) (by simp only [List.size_toArray] <;> omega)
theorem xc:qi X (.type "tuple") (fun xs H Q=>∃ p ys,xs=[.ref p]/\((SqL X.K H p ys/\∀ l,H l=none->Q (.ref l) (upd H l (.tup ys))) \/ (SqT X.K H p ys/\Q (.ref p) H))):=by
 intro pins s σ H xs us Q I r h
 obtain ⟨p,ys,rfl,h⟩:=h
 obtain ⟨u,rfl,rx⟩:=qB r
 cases rx
 rcases h with ⟨hq,q⟩ | ⟨hq,q⟩
 ·obtain ⟨its,r',pl,hz⟩:=I.list hq
  have hlen:=r'.length
  refine call_tuple_list pl.isList (fun h' kp=>?_) (by simp only [List.size_toArray] <;> omega)
  have I1:Inv X pins σ H { s with heap:=h' }:=I.kept (t':=s.toks) kp
  have I2:Inv X pins σ (upd H h'.objs.size (.tup ys)) { s with heap:=h'.push { cls:=.type "tuple",data:=.seq its.toArray } }:=
   I1.laid (t':=s.toks) (fun b o e=>Heap.get?_push_of_some _ e) (Nat.le_refl _) (show zx X.prog X.w _ _ _ (.tup ys) from ⟨hz,its,r',xK.new _ _⟩)
  exact ⟨.ref h'.objs.size,_,I2,rfl,q _ (I1.hok.fresh (Nat.le_refl _))⟩
 ·obtain ⟨its,r',pl,hz⟩:=I.tuple hq
  exact call_tuple_same pl ⟨.ref p,H,I,rfl,q⟩
noncomputable def tyV (K:PySem.W.Frag)(T:String)(x:V)(H:Hp):Prop:=match x with
  | .str _=>T="str"
  | .int _=>T="int"
  | .ref p => (T = "list" /\ ∃ xs, SqL K H p xs) \/ (T = "tuple" /\ ((∃ xs, Rd H p (.tup xs)) \/ ∃ o, K.lookup p = some o /\ o.cls = .type "tuple" /\ o.dict = none)) \/
      (T="dict"/\((∃ kvs,H p=some (.dK kvs)) \/ ∃ kvs,H p=some (.dT kvs))) \/ (T="set"/\∃ S n,H p=some (.set S n))
  | _=>False
theorem VE {pins : List (Addr × Obj)}{σ : St}{H : Hp}{s : Shared}{T : String}{x : V}{v : Value}(I : Inv X pins σ H s)(r : zp x v)(ty : tyV X.K T x H) :
    s.TypeIs v T/\∀ a,v=.ref a->∃ ob,s.heap.get? a=some ob/\ob.dict=none:=by
  cases x with
  | str z=>
    obtain ⟨t,rfl⟩:=r
    cases (show T="str" from ty)
    exact ⟨typeIs_str s z t,fun _ e=>nomatch e⟩
  | int i=>
    obtain ⟨t,rfl⟩:=r
    cases (show T="int" from ty)
    exact ⟨typeIs_int s i t,fun _ e=>nomatch e⟩
  | ref p=>
    cases r
    rcases ty with ⟨rfl,xs,hq⟩ | ⟨rfl,⟨xs,hx⟩ | ⟨o,hk,hc,hd⟩⟩ | ⟨rfl,hk⟩ | ⟨rfl,S,n,hk⟩
    · obtain ⟨its,_,pl,_⟩:=I.list hq
      refine ⟨pl.isList.typeIs,fun a e=>?_⟩
      cases e
      obtain ⟨o,n,e,c,hd,_⟩:=pl
      exact ⟨o,e,hd⟩
    · obtain ⟨_,its,_,o,e,c,_,hd⟩:=hx.ok I.hok
      refine ⟨⟨o,e,c⟩,fun a e2=>?_⟩
      cases e2
      exact ⟨o,e,hd⟩
    · refine ⟨⟨o,I.kIn p o hk,hc⟩,fun a e=>?_⟩
      cases e
      exact ⟨o,I.kIn _ o hk,hd⟩
    · have z : ∃ o, s.heap.get? p = some o /\ o.ExactDict := by
        rcases hk with ⟨kvs,hk⟩ | ⟨kvs,hk⟩
        · obtain ⟨_,_,_,_,o,_,_,e,ex,_⟩:=I.hok p _ hk
          exact ⟨o,e,ex⟩
        · obtain ⟨_,_,_,_,o,_,_,e,ex,_⟩:=I.hok p _ hk
          exact ⟨o,e,ex⟩
      obtain ⟨o,e,ex⟩:=z
      refine ⟨⟨o,e,ex.1⟩,fun a e2=>?_⟩
      cases e2
      exact ⟨o,e,ex.2.1⟩
    · obtain ⟨o,_,_,_,e,ex,_⟩:=I.hok p _ hk
      refine ⟨⟨o,e,ex.1⟩,fun a e2=>?_⟩
      cases e2
      exact ⟨o,e,ex.2.1⟩
  | _=>exact False.elim ty
noncomputable def tBM (K:PySem.W.Frag)(T:String)(r:V->List V->Hp->VK->Prop)(to:TE)(t:TA):TE:=fun σ H Q=>to σ H fun x H1=>tyV K T x H1/\t σ H1 fun xs H2=>r x xs H2 Q
variable {o e:Expr}{es:List Expr}{to:TE}{t:TA}{name:Str}{apos cpos:Pos}{T id:String}{r:V->List V->Hp->VK->Prop}
theorem QH (pa:PlainAttrs T)(slot:Slot T name id)(hty:typeOf (.builtin id)=pure (.type "method_descriptor"))(hm:MtR X id r)(ho:PE X o to)(ha:PA X (e :: es) t)
  (hbase:attributeBase o name X.env (eval o X.env)=eval o X.env:=by rfl)
  (hfew:((backTo cpos (starEach (e :: es) X.env)).all (fun x=>!x.1) && (backToKw cpos (keywordEach [] X.env)).all (fun x=>x.1.isSome)
   && decide ((e :: es).length+([]:List Keyword).length+(if ([]:List Keyword).isEmpty then 0 else 1)<30))=true:=by rfl)
  (hline:(apos.endLine == cpos.line)=true:=by rfl) (hs:starEach (e :: es) X.env=(false,eval e X.env) :: starEach es X.env:=by rfl) (hplain:(backTo cpos (starEach es X.env)).any (·.1)=false:=by rfl) :
  PE X (.Call (.Attribute o name apos) (e :: es) [] cpos) (tBM X.K T r to t):=by
 intro pins s σ H Q I h
 refine wpAny_Call_method_late hbase hfew hline rfl (thn (ho pins s σ H _ I h) fun v s1 ⟨x,H1,I1,r1,ty,q1⟩=>?_)
 obtain ⟨h1,h2⟩:=VE I1 r1 ty
 refine ⟨T,id,pa,slot,hty,h1,h2,?_⟩
 have hA:=ha cpos pins s1 σ H1 _ I1 q1
 rw [hs] at hA ⊢
 refine Calls.callWith_builtin (by show (false || (backTo cpos (starEach es X.env)).any (·.1))=false;rw [hplain] <;> rfl) (Calls.evalArgs_plain ?_)
 exact thn hA fun us s2 ⟨vs,H2,I2,r2,q2⟩=>hm pins s2 σ H2 x vs v us Q I2 r1 r2 q2
/- xs.append(e),list.index on a module's tuple .. are MtR facts of 06m -/
end
noncomputable def MtM (X:Cx)(id:String)(r:V->List V->Hp->VK->Prop):Prop:=
 ∀ (pins:List (Addr × Obj)) (s:Shared) (σ:St) (H:Hp) (x:V) (xs:List V) (v:Value) (us:List Value) (Q:VK),Inv X pins σ H s->zp x v->zl xs us->r x xs H Q ->
  wpAny (model X.prog X.w) X.A (call (.builtin id) (v :: us)) (EP X pins σ Q) X.xe s
theorem zl.one:∀ {x:V} {us:List Value},zl [x] us->∃ u,us=[u]/\zp x u
 | _,_,.cons r .nil=>⟨_,rfl,r⟩
theorem zl.dropLast {xs:List V}{us:List Value}(h:zl xs us):zl xs.dropLast us.dropLast:=by
 induction h with
 | nil=>exact .nil
 | cons r t ih=>
  cases t with
  | nil=>exact .nil
  | cons q t'=>exact .cons r ih
theorem zl.rep {xs:List V}{us:List Value}(h:zl xs us):∀ k:Nat,zl (List.replicate k xs).flatten (List.replicate k us).flatten
 | 0=>.nil
 | k+1=>by
  rw [List.replicate_succ,List.replicate_succ,List.flatten_cons,List.flatten_cons]
  exact zl.append h (zl.rep h k)
theorem xf (its:List Value):∀ (k:Nat) (acc:List Value),
  List.foldl (fun x1 x2=>x1 ++ x2) acc.toArray (List.replicate k its.toArray)=(acc ++ (List.replicate k its).flatten).toArray
 | 0,acc=>by simp
 | k+1,acc=>by
  have e:acc.toArray ++ its.toArray=(acc ++ its).toArray:=by simp
  have e2:(acc ++ its) ++ (List.replicate k its).flatten=acc ++ (List.replicate (k+1) its).flatten:=by
   rw [List.replicate_succ,List.flatten_cons,List.append_assoc]
  rw [<- e2,<- xf its k (acc ++ its),<- e,List.replicate_succ,List.foldl_cons]
section
variable {X:Cx}{pins:List (Addr × Obj)}{σ:St}{H:Hp}{s:Shared}{l b:Addr}{xs ys zs:List V}
theorem Inv.lset {its its':List Value}{n:Nat}{f:Array Value->Array Value}{t':Nat}(I:Inv X pins σ H s)(hH:H l=some (.lst xs))
  (e:s.heap.get? l=some { cls:=.type "list",data:=.seq its.toArray n }) (hf:f its.toArray=its'.toArray) (hv:zl ys its') (hz:ys.length<=sizeLine) :
  Inv X pins σ (upd H l (.lst ys)) { s with heap:=s.heap.update l (Obj.mapSeq f),toks:=t' }:=by
 have q:=PySem.IsL.update e f
 rw [hf] at q
 refine I.write (x:=l) (e:=l) (by rw [hH];exact trivial) (.inl rfl) (fun b' u hb hu=>(Heap.get?_update_other s.heap (Obj.mapSeq f) (Ne.symm hb)).trans hu) ⟨_,q⟩ ?_
 exact ⟨hz,its',_,hv,q⟩
theorem Inv.lnew {its:List Value}{t':Nat}(I:Inv X pins σ H s)(hv:zl ys its)(hz:ys.length<=sizeLine) :
  Inv X pins σ (upd H s.heap.objs.size (.lst ys)) { s with heap:=s.heap.push { cls:=.type "list",data:=.seq its.toArray },toks:=t' }:=
 I.laid (fun _ _ q=>Heap.get?_push_of_some _ q) (Nat.le_refl _) ⟨hz,its,0,hv,Heap.get?_push_size _ rfl⟩
theorem Inv.fresh (I:Inv X pins σ H s):H s.heap.objs.size=none:=I.hok.fresh (Nat.le_refl _)
theorem Inv.lstM (I:Inv X pins σ H s)(hH:H l=some (.lst xs)):xs.length<=sizeLine/\∃ (its:List Value) (n:Nat),zl xs its/\xs.length=its.length/\s.heap.get? l=some { cls:=.type "list",data:=.seq its.toArray n }:=by
 obtain ⟨z,its,n,r,e⟩:=I.hok l _ hH
 exact ⟨z,its,n,r,r.length,e⟩
theorem yZ {n:Nat}(h:n<=sizeLine):Builtin.List.listTooLong n=false:=by
 unfold Builtin.List.listTooLong
 exact decide_eq_false (by omega)
end
section
variable {X:Cx}
noncomputable def kl:V->List V->Hp->VK->Prop:=fun x vs H Q=>∃ l xs y,x=.ref l/\vs=[y]/\H l=some (.lst xs)/\xs.length<sizeLine/\Q .non (upd H l (.lst (xs ++ [y])))
theorem xt:MtM X "list.append" kl:=by
 intro pins s σ H x vs v us Q I rx rv h
 obtain ⟨l,xs,y,rfl,rfl,hH,hz,q⟩:=h
 cases rx
 obtain ⟨u,rfl,ru⟩:=rv.one
 obtain ⟨z,its,n,r,hl,e⟩:=I.lstM hH
 refine call_meets F.slot_list_append ⟨_,e,rfl⟩ F.entry_list_append (F.args_list_append_2 _ _) (PySem.list_append l its.toArray n u (by rw [List.size_toArray];omega)) ⟨e,?_⟩
 refine ⟨.non,_,I.lset (its':=its ++ [u]) hH e (by simp) (r.append (.cons ru .nil)) ?_,rfl,q⟩
 rw [List.length_append,List.length_singleton]
 omega
noncomputable def Zh:V->List V->Hp->VK->Prop:=fun x vs H Q=>∃ l b xs zs,x=.ref l/\vs=[.ref b]/\H l=some (.lst xs)/\H b=some (.lst zs)/\xs.length+zs.length<=sizeLine/\Q .non (upd H l (.lst (xs ++ zs)))
theorem Wl:MtM X "list.extend" Zh:=by
 intro pins s σ H x vs v us Q I rx rv h
 obtain ⟨l,b,xs,zs,rfl,rfl,hH,hB,hz,q⟩:=h
 cases rx
 obtain ⟨u,rfl,ru⟩:=rv.one
 cases ru
 obtain ⟨z,its,n,r,hl,e⟩:=I.lstM hH
 obtain ⟨z2,its2,n2,r2,hl2,e2⟩:=I.lstM hB
 have hsz:its.toArray.size+its2.toArray.size<=sizeLine:=by rw [List.size_toArray,List.size_toArray];omega
 have hlong:¬ (!its.toArray.isEmpty && Builtin.List.listTooLong (its.toArray.size+its2.toArray.size))=true:=by
  rw [yZ hsz,Bool.and_false]
  exact Bool.false_ne_true
 refine call_meets F.slot_list_extend ⟨_,e,rfl⟩ F.entry_list_extend (F.args_list_extend_2 _ _)
  (AutoSeq1.list_extend_list_list_0 l its.toArray n b its2.toArray n2 hlong (by rw [List.size_toArray];omega) (by omega)) ⟨e,e2,?_⟩
 refine ⟨.non,_,I.lset (its':=its ++ its2) hH e (by simp) (r.append r2) ?_,rfl,q⟩
 rw [List.length_append]
 omega
noncomputable def WF:R2:=fun x y H Q=>∃ l b xs zs,x=.ref l/\y=.ref b/\H l=some (.lst xs)/\H b=some (.lst zs)/\xs.length+zs.length<=sizeLine/\∀ p,H p=none->Q (.ref p) (upd H p (.lst (xs ++ zs)))
theorem Vv:OpR X (binaryOp .Add) WF:=by
 intro pins s σ H x y v u Q I rx ry h
 obtain ⟨l,b,xs,zs,rfl,rfl,hH,hB,hz,q⟩:=h
 cases rx
 cases ry
 obtain ⟨z,its,n,r,hl,e⟩:=I.lstM hH
 obtain ⟨z2,its2,n2,r2,hl2,e2⟩:=I.lstM hB
 refine PySem.P.add_list e e2 ?_ (by rw [List.size_toArray,List.size_toArray];omega)
 have ea:its.toArray ++ its2.toArray=(its ++ its2).toArray:=by simp
 rw [ea]
 exact ⟨.ref _,_,I.lnew (t':=s.toks) (r.append r2) (by rw [List.length_append];omega),rfl,q _ I.fresh⟩
noncomputable def Vx:R2:=fun x y H Q=>∃ l k xs,x=.ref l/\y=.int k/\H l=some (.lst xs)/\-(2 ^ 63)<=k/\k<2 ^ 63/\xs.length * k.toNat<=sizeLine /\
 ∀ p,H p=none->Q (.ref p) (upd H p (.lst (List.replicate k.toNat xs).flatten))
theorem K4 {α:Type}(xs:List α)(k:Nat):(List.replicate k xs).flatten.length=k * xs.length:=by
 induction k with
 | zero=>simp
 | succ k ih=>rw [List.replicate_succ,List.flatten_cons,List.length_append,ih,Nat.succ_mul,Nat.add_comm]
theorem Qm:OpR X (binaryOp .Mult) Vx:=by
 intro pins s σ H x y v u Q I rx ry h
 obtain ⟨l,k,xs,rfl,rfl,hH,h1,h2,hz,q⟩:=h
 cases rx
 obtain ⟨t,rfl⟩:=ry
 obtain ⟨z,its,n,r,hl,e⟩:=I.lstM hH
 have hlen:its.toArray.size * k.toNat<=sizeLine:=by rw [List.size_toArray,<- hl];exact hz
 have hcap:¬ its.toArray.size * k.toNat > (2 ^ 63 - 1) / 8:=by
  have:(sizeLine:Nat)<=(2 ^ 63 - 1) / 8:=by decide
  omega
 have hfit:¬ (!Builtin.List.listFitsIndex k)=true:=by
  rw [fitsIndex_both h1 h2]
  exact Bool.false_ne_true
 have hlong:¬ Builtin.List.listTooLong (its.toArray.size * k.toNat)=true:=by
  rw [yZ hlen]
  exact Bool.false_ne_true
 have hnew:List.foldl (fun x1 x2=>x1 ++ x2) #[] (List.replicate (if its.toArray.isEmpty=true then 0 else k.toNat) its.toArray)=(List.replicate k.toNat its).flatten.toArray:=by
  have f0:∀ m:Nat,List.foldl (fun x1 x2=>x1 ++ x2) #[] (List.replicate m its.toArray)=(List.replicate m its).flatten.toArray:=fun m=>by
   have:=xf its m []
   rw [List.nil_append] at this
   exact this
  rw [f0]
  cases its with
  | nil=>simp
  | cons a r'=>rw [if_neg (by simp)]
 refine wpAny_binaryOp_repeat_ref (T:="list") (U:="int") (by decide) ⟨_,e,rfl⟩ (fun s'=>typeIs_int s' k t) noFill_list_mul F.fills_int_mul F.slot_int_rmul repeat_list F.slot_int_index.lookup
  (call_meets F.slot_int_rmul (typeIs_int s k t) F.entry_int_rmul (F.args_int_rmul_2 _ _) (int___rmul___int_list k t l its.toArray n)
   ⟨e,rfl,⟨_,e,rfl⟩,call_meets F.slot_list_mul ⟨_,e,rfl⟩ F.entry_list_mul (F.args_list_mul_2 _ _) (AutoListH.list___mul___list_int_3 l its.toArray n k t hfit hcap hlong) ⟨e,?_⟩⟩)
 rw [hnew]
 exact ⟨.ref _,_,I.lnew (t':=s.toks) (r.rep k.toNat) (by rw [K4,Nat.mul_comm];exact hz),rfl,q _ I.fresh⟩
end
section
variable {prog:Program}{w:World}{A:Around}{E:Value->Shared->Prop}{s:Shared}
end
section
variable {X:Cx}
end
end L2
namespace Att
open PySem PySem.W PySem.Calls PyProof.Rows
theorem kc {P:Params}{h:Heap}:∀ (ns:List Int) (vs:List Value),WellAll P h vs (ns.map WData.int)->IntsAre vs ns:=by
 intro ns
 induction ns with
 | nil=>
  intro vs w
  rw [List.map_nil] at w
  cases w
  exact .nil
 | cons n ns ih=>
  intro vs w
  rw [List.map_cons] at w
  cases w with
  | cons a b=>
   cases a
   exact .cons _ _ (ih _ b)
theorem ZV {l:OpenLaw}{n:Nat}(hn:l.most=some n){P:Params}{h:Heap}{args:List WData}{vals:List Value}
  (hpre:l.row.toRowW.claim.pre args=true) (hwl:WellAll P h vals args) :
  ∃ a vs ns,vals=[Value.ref a]/\args=[WData.list (ns.map WData.int)]/\h.get? a=some { cls:=.type "list",data:=.seq vs.toArray }/\IntsAre vs ns/\ns.length<=n:=by
 have hsh:WShape.hasAll [] args [.list .int]=true:=(pre_splitW hpre).1
 have hc:l.pre.holds [] { args:=args }=true:=(pre_splitW hpre).2
 obtain ⟨d,r,rfl,h1,h2⟩:=hasAllW_cons hsh
 obtain rfl:=hasAllW_nil h2
 obtain ⟨xs,rfl,h3⟩:=hasW_list h1
 obtain ⟨ns,rfl⟩:=items_int h3
 have hlen:ns.length<=n:=by
  unfold OpenLaw.pre at hc
  have h4:(WTm.not (.lt (.lit (.int (n:Int))) (.len (.arg 0)))).holds [] { args:=[.list (ns.map .int)] }=true:=by
   have h4:=(holds_andW hc).1
   rw [hn] at h4
   exact h4
  have h5:=condW_of h4 (w_not (w_lt w_lit (w_len_list (w_arg rfl))))
  rw [List.length_map] at h5
  refine Nat.le_of_not_lt fun q=>?_
  have q':(n:Int)<((ns.length:Nat):Int):=by omega
  first
   | (rw [decide_eq_true q'] at h5;exact absurd h5 (by decide))
   | (simp at h5;omega)
 cases hwl with
 | cons w1 w2=>
  cases w2
  cases w1 with
  | list ho hall=>exact ⟨_,_,ns,rfl,rfl,ho,kc ns _ hall,hlen⟩
theorem ZA (l:OpenLaw)(args:List WData):l.row.toRowW.claim.post args (.bool true) args=true:=
 postW_of (r:=l.row.toRowW) (X:=(true == true))
  (show WShape.has [] (.bool true) .bool=true by first | rfl | decide | simp [WShape.has,WShape.arms,WShape.armsAll])
  (show (WTm.eq .res (.lit (.bool true))).value [] { args:=args,res:=some (.bool true),after:=args }=some (.bool (true == true)) from w_eq_bool (w_res rfl) w_lit) rfl
theorem attach_call {l:OpenLaw}{n:Nat}{q:Program}{loose:List Str}{XP:(Str->Option Value)->Heap->Prop}{YP:World->Heap->Prop}{d:DefRec}
  (hn:l.most=some n) (hdf:d.params.defaults=[])
  (call:∀ (w:World) (s₀ s₁:Shared) (mg mb:Str->Option Value) (fa:Addr) (o:Obj) (pm cd doc:Value) (a:Addr) (vs:List Value) (ns:List Int),
   Ground q loose [] XP w s₀ mg mb s₁.heap->YP w s₁.heap ->
   s₁.heap.get? fa=some o->o.data=.func (docDef d.name d.params d.body d.scope pm cd doc)->s₁.heap.CodeRec cd d.name->mg d.name=some (.ref fa) ->
   s₁.heap.get? a=some { cls:=.type "list",data:=.seq vs.toArray }->IntsAre vs ns->ns.length<=n->s₁.gens=#[] ->
   codeAny (model l.prog w) callerA (.call (.ref fa) ⟨[.ref a],[]⟩) (fun r s'=>r=.ok (.ret (.bool true))/\OldK s₁.heap s'.heap/\s'.os=s₁.os/\AllBare s'.gens) s₁) :
  WalkO q loose XP YP l.row.toRowW d [] (fun f vs=>PySem.call f vs):=by
 intro w s₀ s₁ mg mb G Y fa o pm cd doc dV kV ho hd hcd hD hmg hg args vals as hpre hlay hrd hwl hlo
 obtain rfl:dV=.none:=Dflts.none hD hdf
 obtain rfl:kV=.none:=Dflts.noKw hD
 obtain ⟨a,vs,ns,rfl,rfl,hobj,hints,hlen⟩:=ZV hn hpre hwl
 refine enter_call (codeAny_mono (call w s₀ s₁ mg mb fa o pm cd doc a vs ns G Y ho (fd_plain hd) hcd hmg hobj hints hlen hg) fun r s' hq=>?_)
 obtain ⟨rfl,h2,h3,h4⟩:=hq
 exact ⟨.inl ⟨.bool true,.bool true,[],rfl,fun _=>rfl,.bool true,ZA l _,fun _=>⟨List.Pairwise.nil,fun _ hm=>(nomatch hm)⟩⟩,h2,h3,h4⟩
section
variable {prog:Program}{w:World}{A:Around}{E:Value->Shared->Prop}{s:Shared}{K:Frag}
noncomputable def Ag (h:Heap)(L d:Addr):List (Addr × Obj):=(List.range h.objs.size).filterMap fun a=>if a=L \/ a=d then none else (h.get? a).map fun o=>(a,o)
end
end Att
namespace L2
open PySem PySem.Spec PyProof.Rows
theorem qq:∀ {vs:List Value} {ns:List Int},IntsAre vs ns->zl (ns.map V.int) vs
 | _,_,.nil=>.nil
 | _,_,.cons n t h=>.cons ⟨t,rfl⟩ (qq h)
noncomputable def YC (H:Hp):Prop:=∀ b,H b=none \/ ∃ o xs,H b=some (.frz o (.lst xs))
theorem Q6 {P:Program}{w:World}{K:PySem.W.Frag}{mg mb:Str->Option Value}{CX:CXT}{k:Nat}{fa a:Addr}{fd:FuncData}{x:Str}{sp:Sp}{s₁:Shared}{vs:List Value}{ns:List Int}
  (KX:K.In s₁.heap) (hns:s₁.heap.Ns mainGlobals mg) (hb:s₁.heap.Ns builtinsNs mb) (hbb:∀ x:Str,x ≠ "__name__"->mb x=bootBuiltins x) (hlim:s₁.heap.NoLimit) (hg:s₁.gens=#[])
  (ha:s₁.heap.get? a=some { cls:=.type "list",data:=.seq vs.toArray }) (hi:IntsAre vs ns) (hl:ns.length<=sizeLine) (hr:z0 k callerA)
  (F:∀ base:Heap,K.In base->base.Ns mainGlobals mg->qN P w K mg base CX k fa fd [x] sp) (hbind:∀ (s:Shared) (u:Value),BindsTo s fd ⟨[u],[]⟩ [(x,u)])
  (hsp:∀ H:Hp,YC H->SqL K H a (ns.map V.int)->sp [.ref a] H (fun v _=>v=.bl true) fun _ _ _=>False)
  (hCX:∀ H e s',CX [] H s₁ (fun _ _ _=>False) e s'->False) :
  codeAny (model P w) callerA (.call (.ref fa) ⟨[.ref a],[]⟩) (fun r s'=>r=.ok (.ret (.bool true))/\OldK s₁.heap s'.heap/\s'.os=s₁.os/\AllBare s'.gens) s₁:=by
 have rv:=qq hi
 have lenV:=hi.length
 have core:∀ H:Hp,YC H->SqL K H a (ns.map V.int)->HOk P w H s₁.heap->(∀ b,H b ≠ none->b=a)->(H a ≠ none->K.lookup a=none) ->
   codeAny (model P w) callerA (.call (.ref fa) ⟨[.ref a],[]⟩) (fun r s'=>r=.ok (.ret (.bool true))/\OldK s₁.heap s'.heap/\s'.os=s₁.os/\AllBare s'.gens) s₁:=by
  intro H hO hS hok hA hK
  have base_of:∀ {b:Addr} {o:Obj},s₁.heap.get? b=some o->H b=none->(jz s₁.heap H).get? b=some o:=fun e n=>vg e n
  have noA:∀ {b:Addr} {o:Obj} {es:Array DictEntry} {ep:Nat},s₁.heap.get? b=some o->o.data=.dict es ep->H b=none:=fun {b o es ep} e d=>by
   cases q:H b with
   | none=>rfl
   | some u=>
    have e':b=a:=hA b (by rw [q];simp)
    subst e'
    rw [ha] at e;cases e
    have d':Data.seq vs.toArray _=Data.dict es ep:=d
    cases d'
  have nsK:∀ {b:Addr} {m:Str->Option Value},s₁.heap.Ns b m->(jz s₁.heap H).Ns b m:=fun {b m} ⟨o,es,ep,e,d,r⟩=>⟨o,es,ep,base_of e (noA e d),d,r⟩
  have hKb:K.In (jz s₁.heap H):=fun b o e=>base_of (KX b o e) (by
   cases q:H b with
   | none=>rfl
   | some u=>
    have e':b=a:=hA b (by rw [q];simp)
    subst e'
    rw [hK (by rw [q];simp)] at e;cases e)
  have hM:Mod K mg (jz s₁.heap H):=⟨hKb,nsK hns,⟨mb,nsK hb,hbb⟩,let ⟨mc,h1,h2⟩:=hlim;⟨mc,nsK h1,h2⟩⟩
  have e0:Ji P w K mg (jz s₁.heap H) callerA [] s₁ H:=⟨rfl,hM,fun b o e=>Zb e,Nat.le_of_eq (xw _ _),trivial,fun b hb=>absurd (show b ∈ ([]:List Addr) from hb) (by simp),hok,.of_eq hg⟩
  refine codeAny_mono ((F _ hKb (nsK hns)).run callerA [] s₁ H ⟨[.ref a],[]⟩ [.ref a] [.ref a] _ _ hr e0 (hbind s₁ (.ref a)) (.cons rfl .nil) (hsp H hO hS)) fun r s' h=>?_
  cases r with
  | error e=>exact (hCX H e s' h).elim
  | ok fl=>
   cases fl with
   | next=>exact False.elim h
   | brk=>exact False.elim h
   | cont=>exact False.elim h
   | ret u=>
    obtain ⟨v,H',os,bare,un,hok',r',q⟩:=h
    have q':v=.bl true:=q
    subst q'
    obtain rfl:u=Value.bool true:=r'
    refine ⟨rfl,OldK.of_keep fun b o e=>?_,os,bare⟩
    cases q:H b with
    | none=>exact un.keep b o e q (by intro z;exact absurd (show b ∈ ([]:List Addr) from z) (by simp)) (by simp)
    | some u=>
     rcases hO b with z | ⟨ob,xs,z⟩
     ·rw [q] at z;cases z
     ·have z2:=un.frzs b ob _ z
      obtain ⟨e1,_⟩:=hok b _ z
      obtain ⟨e2,_⟩:=hok' b _ z2
      rw [e] at e1;cases e1
      exact e2
 cases hk:K.lookup a with
 | some o=>
  have e:=KX a o hk
  rw [ha] at e
  cases e
  refine core (fun _=>none) (fun _=>.inl rfl) (.inr ⟨_,vs.toArray,_,hk,rfl,rfl,rfl,by rw [List.size_toArray,lenV];exact hl,by simpa using rv⟩) (fun b u z=>by have z':(none:Option HO)=some u:=z;cases z') (fun b z=>absurd rfl z) fun z=>absurd rfl z
 | none=>
  refine core (fun b=>if b=a then some (.frz { cls:=.type "list",data:=.seq vs.toArray } (.lst (ns.map V.int))) else none) (fun b=>?_) (.inl (.inr ⟨{ cls:=.type "list",data:=.seq vs.toArray },if_pos rfl⟩)) (fun b u z=>?_) (fun b z=>?_) fun _=>hk
  ·by_cases hb:b=a
   ·exact .inr ⟨_,_,if_pos hb⟩
   ·exact .inl (if_neg hb)
  ·by_cases hb:b=a
   ·have z':=(if_pos hb).symm.trans z
    cases z'
    subst hb
    exact ⟨ha,by rw [List.length_map];exact hl,vs,_,rv,ha⟩
   ·have z':=(if_neg hb).symm.trans z
    cases z'
  ·by_cases hb:b=a
   ·exact hb
   ·exact absurd (if_neg hb) z
noncomputable abbrev KOf {K:PySem.W.Frag}{h:Heap}(_:K.In h):PySem.W.Frag:=K
theorem walk_of {l:PySem.W.OpenLaw}{n k:Nat}{q:Program}{loose:List Str}{XP:(Str->Option Value)->Heap->Prop}{YP:World->Heap->Prop}{d:DefRec}{K:Params->PySem.W.Frag}{CX:World->CXT}{sp:World->Sp}{x:Str}
  (hn:l.most=some n) (hn2:n<=sizeLine) (hdf:d.params.defaults=[]) (hr:z0 k callerA)
  (hY:∀ (w:World) (h:Heap),YP w h->(K w.params).In h)
  (F:∀ (w:World) (mg:Str->Option Value) (fa:Addr) (h:Heap),(K w.params).In h->h.Ns mainGlobals mg->mg d.name=some (.ref fa) ->
   ∃ fd:FuncData,(∀ (s:Shared) (u:Value),BindsTo s fd ⟨[u],[]⟩ [(x,u)]) /\
    ∀ base:Heap,(K w.params).In base->base.Ns mainGlobals mg->qN l.prog w (K w.params) mg base (CX w) k fa fd [x] (sp w))
  (hsp:∀ (w:World) (H:Hp) (a:Addr) (ns:List Int),ns.length<=n->YC H->SqL (K w.params) H a (ns.map V.int)->sp w [.ref a] H (fun v _=>v=.bl true) fun _ _ _=>False)
  (hCX:∀ (w:World) (H:Hp) (s:Shared) (e:Value) (s':Shared),CX w [] H s (fun _ _ _=>False) e s'->False) :
  PySem.W.WalkO q loose XP YP l.row.toRowW d [] (fun f vs=>PySem.call f vs):=by
 refine Att.attach_call hn hdf fun w s₀ s₁ mg mb fa o pm cd doc a vs ns G Y ho hd hcd hmg hobj hints hlen hg=>?_
 have KX:=hY w _ Y
 obtain ⟨fd,hb,hF⟩:=F w mg fa _ KX G.T.g hmg
 exact Q6 KX G.T.g G.T.b G.T.builtins G.T.nolimit hg hobj hints (Nat.le_trans hlen hn2) hr hF hb (fun H hO hS=>hsp w H a ns hlen hO hS) fun H e s'=>hCX w H s₁ e s'
end L2
/- THE LAST THEOREM (shape;LID,My.* are yours):
   My.Adr: a structure of the addresses that your layer names (classes,functions);My.Txt K t: a structure (Prop) of the equations over K;
   My.txt_mk:{K} {implicit addresses ..} (e1:nsIn K mainGlobals "law"=some (some (.ref f))) (e2:K.lookup f=some ⟨oc,od,.func (fnOf "law" "law" params body scope dV kV doc pm an cdv ct),sl⟩) (e3:codeIn K cdv "law"=true) ..:∃ t,My.Txt K t
set_option maxRecDepth 100000 in
set_option maxHeartbeats 0 in
theorem PySem.Challenge.cw_LID_holds:PySem.Challenge.rw_LID.Holds:=by
 w_on;o_law;k_head;(case hw=>w_witness2)
 k_fill
 refine L2.walk_of (l:=PySem.Challenge.rw_LID) (n:=63) (k:=40) (x:="script") (CX:=fun w=>..) (sp:=fun _=>My.sp_law) rfl (by decide) rfl ⟨rfl,by decide,by decide⟩ (fun w h Y=>PySem.W.kIn_of Y) ?F ?S ?C
 case F=>
  intro w mg fa h KX G hmg
  have T:∃ t,My.Txt (L2.KOf KX) t:=by
   dsimp only [L2.KOf]                          -- K must stand as «<heap const> w.params» for k_is
   refine' My.txt_mk ?e1 ?e2 ?e3 ..
   (case e1=>PySem.W.k_is)                    -- in the order: a name->its address->its object->its parts
   (case e2=>PySem.W.k_is)
   ..
  obtain ⟨t,T⟩:=T
  have e0:=hmg.symm.trans (PySem.W.mg_of KX G T.law)
  cases e0                                       -- fa is the law's own address
  exact ⟨_,fun s u=>.of_eq rfl,fun base kb nb=>My.law_fn T kb nb⟩     -- if «.of_eq rfl» comes too early: refine' ⟨_,?b,fun base kb nb=>My.law_fn T kb nb⟩;exact fun s u=>.of_eq rfl
 case S=>exact fun w H a ns hl hO hS=>..
 case C=>exact ..
(the tactic k_is has no namespace: write k_is) -/
namespace L2
open PySem PySem.Spec PyProof.Rows
noncomputable def qe (s:Stmt):Arguments:=match s with
 | .FunctionDef _ a _ _ _ _ _ _ _ _=>a
 | _=>{ posonlyargs:=[],args:=[],vararg:=none,kwonlyargs:=[],kw_defaults:=[],kwarg:=none,defaults:=[] }
noncomputable def zG (s:Stmt):List Stmt:=match s with
 | .FunctionDef _ _ b _ _ _ _ _ _ _=>b
 | _=>[]
noncomputable def zg (s:Stmt):Scope:=match s with
 | .FunctionDef _ _ _ _ _ _ sc _ _ _=>sc
 | _=>{ kind:=.function,names:=[],isGenerator:=false,isCoroutine:=false }
noncomputable abbrev CX0:CXT:=fun _ _ _ _ _ _=>False
noncomputable abbrev E0:XK:=fun _ _ _=>False
theorem Wv {X:Cx}:v9 CX0 X E0:=fun _ _ _ _ _ _ _ h=>h.elim
structure Fun (K:PySem.W.Frag)(x qual:Str)(st:Stmt)(f:Addr)(fd:FuncData):Prop where
 ex:∃ (oc:Value) (od:Option Addr) (kV doc pm:Value) (an:Option Addr) (cdv ct:Value) (osl:Array (Option Value)),
  fd=PySem.W.fnOf x qual (qe st) (zG st) (zg st) .none kV doc pm an cdv ct/\K.lookup f=some ⟨oc,od,.func fd,osl⟩/\PySem.W.codeIn K cdv qual=true
 kp:PySem.W.keepIn K (.ref f)=true
section
variable {P:Program}{w:World}{K:PySem.W.Frag}{mg:Str->Option Value}{base:Heap}
theorem Fun.ok {x qual:Str}{st:Stmt}{f:Addr}{fd:FuncData}{N ps:List Str}{k:Nat}{sp:Sp}(F:Fun K x qual st f fd)(S:zw N ps (zg st))(len:∀ vs H Q E,sp vs H Q E->vs.length=ps.length)
  (hbody:∀ (cdv:Value) (A:Around) (outer:List Env) (s:Shared) (H:Hp) (vs:List V) (Q:VK) (E:XK),z0 k (A.deeper (envOfC qual (zg st) s.heap.objs.size f cdv))->sp vs H Q E ->
   ∃ t,PSs (kC CX0 P w K mg base N qual (zg st) f cdv A outer s H E).nox (zG st) t/\t { nx:=fun _ H'=>Q .non H',rt:=Q } (qp N vs) H):qN P w K mg base CX0 (k+1) f fd ps sp:=by
 obtain ⟨oc,od,kV,doc,pm,an,cdv,ct,osl,rfl,lk,hcd⟩:=F.ex
 refine Ya lk hcd S len fun A outer s H vs Q E hr hsp=>?_
 obtain ⟨t,h,q⟩:=hbody cdv A outer s H vs Q E hr hsp
 exact ⟨t,h.nox,q⟩
theorem Fun.binds {x qual:Str}{st:Stmt}{f:Addr}{fd:FuncData}{ps:List Str}(F:Fun K x qual st f fd)
  (h:∀ (kV doc pm:Value) (an:Option Addr) (cdv ct:Value) (us:List Value),us.length=ps.length->bindArgs (PySem.W.fnOf x qual (qe st) (zG st) (zg st) .none kV doc pm an cdv ct) ⟨us,[]⟩=pure (ps.zip us)):xi K fd ps []:=by
 obtain ⟨oc,od,kV,doc,pm,an,cdv,ct,osl,rfl,lk,hcd⟩:=F.ex
 exact .all (h kV doc pm an cdv ct)
theorem Qt {x qual:Str}{st:Stmt}{f:Addr}{oc:Value}{od an:Option Addr}{osl:Array (Option Value)}{kV doc pm cdv ct:Value}(l:K.lookup f=some ⟨oc,od,.func (PySem.W.fnOf x qual (qe st) (zG st) (zg st) .none kV doc pm an cdv ct),osl⟩)
  (c:PySem.W.codeIn K cdv qual=true) (k:PySem.W.keepIn K (.ref f)=true):Fun K x qual st f (PySem.W.fnOf x qual (qe st) (zG st) (zg st) .none kV doc pm an cdv ct):=⟨⟨oc,od,kV,doc,pm,an,cdv,ct,osl,rfl,l,c⟩,k⟩
end
section
variable {X:Cx}
theorem pv (i:Nat){x:Str}{pos:Pos}(hN:X.N[i]?=some x:=by rfl)(hv:Vis X.env.scope x:=by first | exact Or.inl rfl | exact Or.inr (Or.inl rfl) | exact Or.inr (Or.inr rfl))(hd:(x == ("__debug__":Str))=false:=by decide)
  (hcd:(x == ("__classdict__":Str))=false:=by decide):PE X (.Name x pos) (XF i):=Vd hN hv hd hcd
end
theorem Ww {c A B:Prop}[Decidable c](h1:c->A)(h2:¬ c->B):if c then A else B:=by
 by_cases h:c
 ·rw [if_pos h]
  exact h1 h
 ·rw [if_neg h]
  exact h2 h
section
variable {κ:Type}[DecidableEq κ]
end
section
variable {P:Program}{w:World}{H:Hp}{h:Heap}{a:Addr}
end
section
variable {X:Cx}{pins:List (Addr × Obj)}{σ:St}{H:Hp}{s:Shared}{a:Addr}{y v:V}{u r:Value}{o:Option V}{A:Around}{E:Value->Shared->Prop}
end
section
variable {X:Cx}{pins:List (Addr × Obj)}{σ:St}{H:Hp}{s:Shared}{a:Addr}{kvs:List (Key × V)}{k:Key}{u:Value}{A:Around}{E:Value->Shared->Prop}
end
section
variable {X:Cx}{o i e value:Expr}{pos pos' tpos:Pos}{td ty tv:TE}
end
section
variable {X:Cx}{pos:Pos}
end
structure M1 (X:Cx)(o:Expr)(m:Str)(apos:Pos)(e:Expr)(cpos:Pos):Prop where
 base:attributeBase o m X.env (eval o X.env)=eval o X.env
 few:((backTo cpos (starEach [e] X.env)).all (fun x=>!x.1) && (backToKw cpos (keywordEach [] X.env)).all (fun x=>x.1.isSome)
  && decide (([e]:List Expr).length+([]:List Keyword).length+(if ([]:List Keyword).isEmpty then 0 else 1)<30))=true
 line:(apos.endLine == cpos.line)=true
 trees:backTo cpos (starEach [e] X.env)=[(false,eval e X.env)]
structure M2 (X:Cx)(o:Expr)(m:Str)(apos:Pos)(e f:Expr)(cpos:Pos):Prop where
 base:attributeBase o m X.env (eval o X.env)=eval o X.env
 few:((backTo cpos (starEach [e,f] X.env)).all (fun x=>!x.1) && (backToKw cpos (keywordEach [] X.env)).all (fun x=>x.1.isSome)
  && decide (([e,f]:List Expr).length+([]:List Keyword).length+(if ([]:List Keyword).isEmpty then 0 else 1)<30))=true
 line:(apos.endLine == cpos.line)=true
 trees:backTo cpos (starEach [e,f] X.env)=[(false,eval e X.env),(false,eval f X.env)]
section
variable {X:Cx}{pins:List (Addr × Obj)}{σ:St}{H:Hp}{s:Shared}{a:Addr}{y d:V}{u r:Value}{o:Option V}{A:Around}{E:Value->Shared->Prop}
end
section
variable {X:Cx}{o e f:Expr}{apos cpos:Pos}{td ty tx:TE}
end
section
variable {X:Cx}{pins:List (Addr × Obj)}{σ:St}{H:Hp}{s:Shared}{a:Addr}{kvs:List (Key × V)}{A:Around}{E:Value->Shared->Prop}
end
section
variable {X:Cx}{pins:List (Addr × Obj)}{σ:St}{H:Hp}{s:Shared}{a:Addr}{y:V}{u:Value}{A:Around}{E:Value->Shared->Prop}
end
section
variable {κ:Type}[DecidableEq κ]
end
end L2
set_option Elab.async false
set_option linter.all false
set_option maxRecDepth 100000
set_option maxHeartbeats 4000000
namespace L2
open PySem PySem.Spec PyProof.Rows
noncomputable def JE (N:List Str)(ts:List Nat)(sc:Scope)(kind:Str->Option NameKind):Bool:=
 sc.kind == .function && sc.names.all (fun y=>y.2 != .cell && (y.2 != .local || sc.names.lookup y.1 == some .local) && (y.2 != .free || kind y.1 == some .cell || kind y.1 == some .free)) &&
  N.zipIdx.all (fun p=>sc.names.lookup p.1 != some .local || ts.contains p.2)
noncomputable def zZ (cells:List (Str × Addr)):List (Str × NameKind)->List (Str × Addr)->List (Str × Addr)
 | [],acc=>acc
 | (n,k) :: r,acc=>zZ cells r (if k=.free then (n,(cells.lookup n).getD 0) :: acc else acc)
theorem xR {env:Env}:∀ (names:List (Str × NameKind)) (acc:List (Str × Addr)),(∀ y ∈ names,y.2=.free->∃ c,env.cells.lookup y.1=some c) ->
  (forIn names acc fun (x:Str × NameKind) (cs:List (Str × Addr))=>(match x with | (name,kind)=>if (kind == NameKind.free)=true then (do let c <- cellOf env name;pure (ForInStep.yield ((name,c) :: cs))) else pure (ForInStep.yield cs):Sem (ForInStep (List (Str × Addr)))))=pure (zZ env.cells names acc)
 | [],acc,_=>rfl
 | (n,k) :: r,acc,h=>by
  rw [List.forIn_cons]
  by_cases hk:k=.free
  ·subst hk
   obtain ⟨c,hc⟩:=h (n,.free) List.mem_cons_self rfl
   have e1:cellOf env n=pure c:=by unfold cellOf;rw [hc]
   simp only [beq_self_eq_true,if_true,e1,pure_bind]
   rw [xR r _ fun y hy=>h y (List.mem_cons_of_mem _ hy)]
   show _=pure (zZ env.cells r (if NameKind.free=.free then _ else _))
   rw [if_pos rfl,hc];rfl
  ·have hb:(k == NameKind.free)=false:=by simpa using hk
   simp only [hb,Bool.false_eq_true,if_false,pure_bind]
   rw [xR r _ fun y hy=>h y (List.mem_cons_of_mem _ hy)]
   show _=pure (zZ env.cells r (if k=.free then _ else _))
   rw [if_neg hk]
theorem jY {cells : List (Str × Addr)} : ∀ (names : List (Str × NameKind)) (acc : List (Str × Addr)), (∀ y ∈ names, y.2 = .free -> ∃ c, cells.lookup y.1 = some c) -> (∀ x c, acc.lookup x = some c -> cells.lookup x = some c) ->
    (∀ x c,(zZ cells names acc).lookup x=some c->cells.lookup x=some c)/\(∀ x c,acc.lookup x=some c->∃ c',(zZ cells names acc).lookup x=some c')/\∀ y ∈ names,y.2=.free->∃ c,(zZ cells names acc).lookup y.1=some c
  | [],acc,_,h2=>⟨h2,fun x c e=>⟨c,e⟩,fun y hy=>nomatch hy⟩
  | (n,k) :: r,acc,h1,h2=>by
    by_cases hk:k=.free
    · subst hk
      obtain ⟨c,hc⟩:=h1 (n,.free) List.mem_cons_self rfl
      have hc:cells.lookup n=some c:=hc
      have e:zZ cells ((n,.free) :: r) acc=zZ cells r ((n,c) :: acc):=by
        show zZ cells r (if NameKind.free=.free then _ else _)=_
        rw [if_pos rfl,hc];rfl
      rw [e]
      obtain ⟨q1,q2,q3⟩:=jY (cells:=cells) r ((n,c) :: acc) (fun y hy=>h1 y (List.mem_cons_of_mem _ hy)) (fun x c' e'=>by
        rw [List.lookup_cons] at e'
        cases hx:x == n with
        | true => rw [hx] at e'; have : x = n := by simpa using hx
                  subst this;cases e';exact hc
        | false=>rw [hx] at e';exact h2 x c' e')
      refine ⟨q1,fun x c' e'=>?_,fun y hy hf=>?_⟩
      · cases hx:x == n with
        | true=>exact q2 x c (by rw [List.lookup_cons,hx])
        | false=>exact q2 x c' (by rw [List.lookup_cons,hx];exact e')
      · rcases List.mem_cons.mp hy with rfl | hy
        · exact q2 n c (by rw [List.lookup_cons,beq_self_eq_true])
        · exact q3 y hy hf
    · have e : zZ cells ((n, k) :: r) acc = zZ cells r acc := by
        show zZ cells r (if k=.free then _ else _)=_
        rw [if_neg hk]
      rw [e]
      obtain ⟨q1,q2,q3⟩:=jY (cells:=cells) r acc (fun y hy=>h1 y (List.mem_cons_of_mem _ hy)) h2
      refine ⟨q1,q2,fun y hy hf=>?_⟩
      rcases List.mem_cons.mp hy with rfl | hy
      · exact absurd hf hk
      · exact q3 y hy hf
theorem we {scope:Scope}{env:Env}(h:∀ y ∈ scope.names,y.2=.free->∃ c,env.cells.lookup y.1=some c) :
  ∃ cl,closureFor scope env=pure cl/\(∀ x c,cl.lookup x=some c->env.cells.lookup x=some c)/\∀ y ∈ scope.names,y.2=.free->∃ c,cl.lookup y.1=some c:=by
 obtain ⟨q1,_,q3⟩:=jY (cells:=env.cells) scope.names [] h (fun x c e=>nomatch e)
 refine ⟨zZ env.cells scope.names [],?_,q1,q3⟩
 unfold closureFor
 have:=xR (env:=env) scope.names [] h
 first
  | exact this
  | (simp only [bind_pure];exact this)
  | (refine Eq.trans ?_ this;simp)
theorem jG {env:Env}:∀ {names:List (Str × NameKind)} {x:Str},(names.map fun (n,k)=>if (k == NameKind.free && env.scope.kind == .function && env.kindOf n == some .cell) then (n,NameKind.cell) else (n,k)).lookup x =
  (names.lookup x).map fun k=>if (k == NameKind.free && env.scope.kind == .function && env.kindOf x == some .cell) then NameKind.cell else k
 | [],_=>rfl
 | (n,k) :: r,x=>by
  have ih:=@jG env r x
  rw [List.map_cons]
  cases hx:x == n with
  | true=>
   have e:x=n:=by simpa using hx
   subst e
   rw [List.lookup_cons (as:=r),beq_self_eq_true]
   show List.lookup x ((if (k == NameKind.free && env.scope.kind == .function && env.kindOf x == some .cell)=true then (x,NameKind.cell) else (x,k)) :: _)=some _
   by_cases hc:(k == NameKind.free && env.scope.kind == .function && env.kindOf x == some .cell)=true
   ·rw [if_pos hc,List.lookup_cons,beq_self_eq_true];dsimp only;rw [if_pos hc]
   ·rw [if_neg hc,List.lookup_cons,beq_self_eq_true];dsimp only;rw [if_neg hc]
  | false=>
   rw [List.lookup_cons (as:=r),hx]
   show List.lookup x ((if (k == NameKind.free && env.scope.kind == .function && env.kindOf n == some .cell)=true then (n,NameKind.cell) else (n,k)) :: _)=_
   by_cases hc:(k == NameKind.free && env.scope.kind == .function && env.kindOf n == some .cell)=true
   ·rw [if_pos hc,List.lookup_cons,hx];exact ih
   ·rw [if_neg hc,List.lookup_cons,hx];exact ih
noncomputable abbrev cxC (X:Cx)(scope:Scope)(cl:List (Str × Addr))(s:Shared)(H:Hp)(fp:List Addr):Cx:=
 { X with s₀:=s,H₀:=H,env:=compEnvC scope cl s.heap.objs.size X.env,outer:=X.stack,ex:=fp,fn:=fun _=>false,pn:=[],xe:=fun _ _=>False }
noncomputable def clr:List Nat->St->St
 | [],σ=>σ
 | j :: r,σ=>clr r (σ.set j none)
theorem wI:∀ (ts:List Nat) (σ:St),(clr ts σ).length=σ.length
 | [],_=>rfl
 | j :: r,σ=>by show (clr r (σ.set j none)).length=_;rw [wI r];simp
theorem y8:∀ (ts:List Nat) (σ:St) (i:Nat) (v:V),(clr ts σ)[i]?=some (some v)->i ∉ ts/\σ[i]?=some (some v)
 | [],_,_,_,h=>⟨by simp,h⟩
 | j :: r,σ,i,v,h=>by
  obtain ⟨h1,h2⟩:=y8 r (σ.set j none) i v h
  by_cases e:j=i
  ·subst e
   rw [List.getElem?_set] at h2
   simp at h2
  ·rw [List.getElem?_set_ne e] at h2
   exact ⟨by simp [h1,Ne.symm e],h2⟩
structure ScF (X:Cx)(ts:List Nat)(scope:Scope):Prop where
 kind:scope.kind=.function
 cell:∀ y ∈ scope.names,y.2 ≠ .cell
 loc:∀ y ∈ scope.names,y.2=.local->scope.names.lookup y.1=some .local
 free:∀ y ∈ scope.names,y.2=.free->X.env.kindOf y.1=some .cell \/ X.env.kindOf y.1=some .free
 ts:∀ (i:Nat) x,X.N[i]?=some x->scope.names.lookup x=some .local->i ∈ ts
theorem VC {X:Cx}{ts:List Nat}{scope:Scope}(h:JE X.N ts scope X.env.kindOf=true):ScF X ts scope:=by
  unfold JE at h
  simp only [Bool.and_eq_true,List.all_eq_true,bne_iff_ne,ne_eq,Bool.or_eq_true,beq_iff_eq] at h
  obtain ⟨⟨h1,h2⟩,h3⟩:=h
  refine ⟨h1,fun y hy=>(h2 y hy).1.1,fun y hy e=>?_,fun y hy e=>?_,fun i x e1 e2=>?_⟩
  · rcases (h2 y hy).1.2 with z | z
    · exact absurd e z
    · exact z
  · rcases (h2 y hy).2 with (z | z) | z
    · exact absurd e z
    · exact .inl z
    · exact .inr z
  · have hm : (x, i) ∈ X.N.zipIdx := by
      rw [List.mem_zipIdx_iff_getElem?];exact e1
    rcases h3 _ hm with z | z
    · exact absurd e2 z
    · simpa using z
section
variable {X:Cx}{ts:List Nat}{scope:Scope}{pins:List (Addr × Obj)}{σ:St}{H:Hp}{s:Shared}{fp:List Addr}
theorem vI (I:Inv X pins σ H s)(S:ScF X ts scope)(hf:∀ b ∈ fp,kf X pins H b)(hfl:∀ b ∈ fp,b<s.heap.objs.size){cl:List (Str × Addr)}(c1:∀ x c,cl.lookup x=some c->X.env.cells.lookup x=some c)
  (c2:∀ y ∈ scope.names,y.2=.free->∃ c,cl.lookup y.1=some c) {h1:Heap} {t1:Nat} (hns:h1.Ns s.heap.objs.size (fun x=>([]:List (Str × Value)).reverse.lookup x))
  (hk:∀ b o,s.heap.get? b=some o->h1.get? b=some o):Inv (cxC X scope cl s H fp) [] (clr ts σ) H { s with heap:=h1,toks:=t1 }:=by
 have hlk:∀ x,(relabel scope X.env).names.lookup x=(scope.names.lookup x).map fun k=>if (k == NameKind.free && X.env.scope.kind == .function && X.env.kindOf x == some .cell) then NameKind.cell else k:=fun x=>jG
 have cfree:∀ x,((relabel scope X.env).names.lookup x=some .cell \/ (relabel scope X.env).names.lookup x=some .free)->(x,NameKind.free) ∈ scope.names:=fun x hx=>by
  rw [hlk] at hx
  cases e:scope.names.lookup x with
  | none=>rw [e] at hx;rcases hx with hx | hx <;> cases hx
  | some k=>
   have hm:=mem_of_lookup_some e
   cases k with
   | free=>exact hm
   | cell=>exact absurd rfl (S.cell _ hm)
   | «local»=>rw [e] at hx;rcases hx with hx | hx <;> cases hx
   | globalExplicit=>rw [e] at hx;rcases hx with hx | hx <;> cases hx
   | globalImplicit=>rw [e] at hx;rcases hx with hx | hx <;> cases hx
 have ccell:∀ x c,cl.lookup x=some c->∃ v,s.heap.IsCell c v:=fun x c e=>I.cell x c (c1 x c e)
 have fpne:∀ b ∈ fp,b ∉ frs X.stack:=fun b hb z=>by
  obtain ⟨_,f1,f2,_⟩:=hf b hb
  rcases List.mem_cons.mp (I.stkSub b z) with e | e
  ·exact f1 e
  ·exact f2 e
 refine ⟨⟨I.ok.mod,S.kind,I.ok.glob,I.ok.blt,Nat.le_refl _,fun x y c e1 e2=>I.ok.inj x y c (c1 x c e1) (c1 y c e2),fun x hx=>c2 (x,.free) (cfree x hx) rfl,(fun x c hx=>nomatch hx),I.ok.hd,I.ok.frames,.inl rfl,fun b hb=>⟨Nat.ne_of_lt (hfl b hb),fun x c e=>(hf b hb).2.2.2.2.1 x c (c1 x c e)⟩,
  I.bs,Nat.le_trans I.ok.bsz I.sz,fun b o e hb=>?_,fpne,I.stack,I.stkFree⟩,rfl,I.bare,Un.kept hk,⟨_,hns,fun i x v e1 e2 e3=>?_⟩,fun x c e=>?_,I.hok.fresh (Nat.le_refl _),fun x c e=>I.freeC x c (c1 x c e),fun p hp=>absurd hp (by simp),I.hok.kept hk,by rw [wI];exact I.len⟩
 ·rcases (hf b hb).2.2.2.1 with z | z
  ·exact I.ok.noex b o e z
  ·exact absurd (Nat.lt_of_lt_of_le (Heap.lt_size e) (Nat.le_trans I.ok.bsz z)) (Nat.lt_irrefl _)
 ·obtain ⟨nt,e2⟩:=y8 ts σ i v e2
  have e3':(relabel scope X.env).names.lookup x=some .local \/ (relabel scope X.env).names.lookup x=some .cell \/ (relabel scope X.env).names.lookup x=some .free:=e3
  rcases e3' with z | z
  ·rw [hlk] at z
   cases e:scope.names.lookup x with
   | none=>rw [e] at z;cases z
   | some k=>
    rw [e] at z
    have z':(if (k == NameKind.free && X.env.scope.kind == .function && X.env.kindOf x == some .cell)=true then NameKind.cell else k)=.local:=Option.some.inj z
    split at z'
    ·cases z'
    ·subst z'
     exact absurd (S.ts i x e1 e) nt
  ·have hm:=cfree x z
   obtain ⟨c,hc⟩:=c2 _ hm rfl
   obtain ⟨m,hn,hl⟩:=I.loc
   have vis:Vis X.env.scope x:=by
    rcases S.free _ hm rfl with q | q
    ·exact .inr (.inl q)
    ·exact .inr (.inr q)
   obtain ⟨u,r,l⟩:=hl i x v e1 e2 vis
   refine ⟨u,r,.inr ⟨z,c,hc,?_⟩⟩
   rcases l with ⟨q,_⟩ | ⟨_,c',hc',hcell⟩
   ·rcases S.free _ hm rfl with q' | q'
    ·rw [q'] at q;cases q
    ·rw [q'] at q;cases q
   ·rw [c1 x c hc] at hc'
    cases hc'
    obtain ⟨o,ho,hd⟩:=hcell
    exact ⟨o,hk _ _ ho,hd⟩
 ·obtain ⟨v,o,ho,hd⟩:=ccell x c e
  exact ⟨v,o,hk _ _ ho,hd⟩
end
section
variable {prog:Program}{w:World}{A:Around}{R:Result->Shared->Prop}{s:Shared}
theorem jn {elt target iter : Expr}{ifs : List Expr}{scope : Scope}{pos : Pos}{it acc : Value}{env : Env}(I : Nat -> Shared -> Prop)
    (turn:∀ n s,I n s->wpAny (model prog w) A (pyNext it) (fun r s₁=>match r with
      | none=>R (.ok .next) s₁
      | some v => wpAny (model prog w) A (letOwnedTupleGo target it v) (fun _ s₀ => wpAny (model prog w) A (assign target env v) (fun _ s₂ =>
          wpAny (model prog w) A (forIn ifs true fun c r=>if r=true then do let ok <- isTrue c env (eval c env);pure (ForInStep.yield ok) else pure (ForInStep.yield r)) (fun ok s₃=>
            if ok=true then wpAny (model prog w) A (eval elt env) (fun x s₄=>
              wpAny (model prog w) A (call (.builtin "list.append") [acc,x]) (fun _ s₅=>∃ m,m<n/\I m s₅) (fun _ _=>False) s₄) (fun _ _=>False) s₃
            else ∃ m,m<n/\I m s₃) (fun _ _=>False) s₂) (fun _ _=>False) s₀) (fun _ _=>False) s₁) (fun _ _=>False) s)
    (n:Nat) (h:I n s) :
    codeAny (model prog w) A (.compLoop (.ListComp elt [⟨target,iter,ifs,0⟩] scope pos) 0 it acc env) R s:=by
  refine codeAny_loop rfl I (fun n s hI=>?_) n h
  show wpAny _ A ((compTurn (.ListComp elt [⟨target,iter,ifs,0⟩] scope pos) 0 it acc env).onRaise (fun x=>do noteFrame x env;theTreesLotGoes x)) _ _ s
  refine wpAny_noted ?_
  rw [compTurn_list]
  refine wpAny_bind (wpAny_standAt (wpAny_bind (wpAny_mono (turn n s hI) (fun r s₁ h₁=>?_) fun _ _ h'=>h'.elim)))
  cases r with
  | none=>exact wpAny_pure h₁
  | some v=>
    refine wpAny_bind (wpAny_mono h₁ (fun _ s₀ h₀=>?_) fun _ _ h'=>h'.elim)
    refine wpAny_bind (wpAny_mono h₀ (fun _ s₂ h₂=>wpAny_bind (wpAny_mono h₂ (fun ok s₃ h₃=>?_) fun _ _ h'=>h'.elim)) fun _ _ h'=>h'.elim)
    cases ok with
    | false=>exact wpAny_pure ⟨rfl,h₃⟩
    | true=>
      exact wpAny_bind (wpAny_bind (wpAny_mono h₃ (fun x s₄ h₄=>wpAny_bind (wpAny_mono h₄ (fun _ s₅ h₅=>wpAny_pure (wpAny_pure ⟨rfl,h₅⟩)) fun _ _ h'=>h'.elim)) fun _ _ h'=>h'.elim))
end
noncomputable def Kb:TT:=fun _ H Q=>Q true H
noncomputable def PIf (X:Cx)(ifs:List Expr)(t:TT):Prop:=
 ∀ (pins:List (Addr × Obj)) (s:Shared) (σ:St) (H:Hp) (Q:Bool->Hp->Prop),Inv X pins σ H s->t σ H Q ->
  wpAny (model X.prog X.w) X.A (forIn ifs true fun c r=>if r=true then do let ok <- isTrue c X.env (eval c X.env);pure (ForInStep.yield ok) else pure (ForInStep.yield r)) (TP X pins σ Q) X.xe s
theorem jL {X:Cx}:PIf X [] Kb:=fun _ _ _ H _ I h=>wpAny_tests_nil ⟨H,I,h⟩
theorem K5 {X:Cx}{c:Expr}{t:TT}(h:PT X c t):PIf X [c] t:=fun pins s σ H Q I hq=>wpAny_tests_one (h pins s σ H Q I hq)
noncomputable def yY (ts:List Nat)(wi:TI)(g:TG)(tt:TT)(te:TE):TE:=fun σ H Q=>wi σ H fun J H1=>∀ D,H1 D=none->∃ W:Nat->Nat->St->Hp->Prop,(∃ m,W 0 m (clr ts σ) (upd H1 D (.lst [])))/\∀ i m τ H2,W i m τ H2 ->
 (J.stop i H2/\Q (.ref D) H2) \/ (J.go i H2/\∃ N:St->Hp->Prop,(∀ τ' H',N τ' H'->∃ m',m'<m/\W (i+1) m' τ' H')/\∀ x H',J.yld i H2 x H'->g x τ H' fun τ2 H3=>tt τ2 H3 fun b H4=>
  if b=true then te τ2 H4 fun v H5=>∃ ys,H5 D=some (.lst ys)/\ys.length<sizeLine/\N τ2 (upd H5 D (.lst (ys ++ [v]))) else N τ2 H4)
section
variable {X:Cx}{ts:List Nat}{scope:Scope}{tg iter elt:Expr}{ifs:List Expr}{wi:TI}{g:TG}{tt:TT}{te:TE}{pos:Pos}
theorem yr (hc:X.calm=true)(hsc:JE X.N ts scope X.env.kindOf=true)(hi:PI X tg iter wi)(hg:∀ cl s H fp,PG (cxC X scope cl s H fp) tg g)(ht:∀ cl s H fp,PIf (cxC X scope cl s H fp) ifs tt)(he:∀ cl s H fp,PE (cxC X scope cl s H fp) elt te)
  {pins:List (Addr × Obj)} {s:Shared} {σ:St} {H:Hp} {Q:VK} (I:Inv X pins σ H s) (h:yY ts wi g tt te σ H Q) {use:Option (Value->Sem Unit)} {Q':Value->Shared->Prop}
  (fin:∀ (D C:Addr) (H':Hp) (s':Shared),Inv X pins σ H' s'->(∃ m,s'.heap.Ns C m)->H' C=none->C ≠ X.env.locals->(∀ x c,X.env.cells.lookup x=some c->c ≠ C)->X.s₀.heap.objs.size<=C->(∀ p ∈ X.pn ++ pins,p.1 ≠ C)->C ∉ X.fs->Q (.ref D) H' ->
   compPost (model X.prog X.w) X.A X.xe use Q' (.ref D) C (.ok .next) s')
  (hs:∀ x,foldedSetIterable iter X.env x=pure x) :
  wpAny (model X.prog X.w) X.A (comprehension (.ListComp elt [⟨tg,iter,ifs,0⟩] scope pos) scope X.env (firstIterPos [⟨tg,iter,ifs,0⟩] pos) (newList []) false (eval iter X.env) use) Q' X.xe s:=by
 have S:=VC hsc
 obtain ⟨cl,hcl,c1,c2⟩:=we (scope:=scope) (env:=X.env) fun y hy e=>I.ok.has y.1 (S.free y hy e)
 refine wpAny_comprehension_free (use:=use) rfl hs hcl S.kind S.loc ?_
 refine wpAny_mono (hi pins s σ H _ I h) (fun v s1 h1=>wpAny_mono h1 (fun itv s2 h2=>?_) fun _ _ e=>e) fun _ _ e=>e
 obtain ⟨it,fp,tn,J,H2,e,I2,T,st2,f2,q2⟩:=h2
 subst e
 have hD:H2 s2.heap.objs.size=none:=I2.hok.fresh (Nat.le_refl _)
 obtain ⟨W,⟨m0,w0⟩,turn⟩:=q2 _ hD
 refine wpAny_newObj_type (wpAny_newFunctionEnv S.cell (by intro y hy;simp at hy) (fun h₁ hns₁ hsb₁=>?_) S.kind)
 dsimp only at hns₁ hsb₁ ⊢
 generalize hh3:s2.heap.push { cls:=.type "list",dict:=none,data:=.seq ([]:List Value).toArray }=g3 at hns₁ hsb₁ ⊢
 have I3:Inv X pins σ (upd H2 s2.heap.objs.size (.lst [])) { s2 with heap:=g3 }:=by
  rw [<- hh3]
  exact I2.laid (t':=s2.toks) (fun b u e=>Heap.get?_push_of_some _ e) (Nat.le_refl _) ⟨Nat.zero_le _,[],_,.nil,Heap.get?_push_size _ rfl⟩
 have st3:tn 0 g3:=T.keep _ _ _ st2 fun b _ o e=>by rw [<- hh3];exact Heap.get?_push_of_some _ e
 have lt2:∀ b ∈ fp,b<s2.heap.objs.size:=fun b hb=>by obtain ⟨o,e,_⟩:=T.obj _ _ st2 b hb;exact Heap.lt_size e
 have hsz3:g3.objs.size=s2.heap.objs.size+1:=by rw [<- hh3,Heap.size_push]
 have f3:∀ b ∈ fp,kf X pins (upd H2 s2.heap.objs.size (.lst [])) b:=fun b hb=>⟨by rw [zf (Nat.ne_of_lt (lt2 b hb))];exact (f2 b hb).1,(f2 b hb).2⟩
 have lt3:∀ b ∈ fp,b<g3.objs.size:=fun b hb=>by rw [hsz3];exact Nat.lt_succ_of_lt (lt2 b hb)
 have old:∀ b o,g3.get? b=some o->h₁.get? b=some o:=fun b o e=>hsb₁.extBut b o (Nat.ne_of_lt (Heap.lt_size e)) (Heap.get?_push_of_some _ e)
 have hns:h₁.Ns g3.objs.size (fun x=>([]:List (Str × Value)).reverse.lookup x):=hns₁
 have I4:∀ t,Inv (cxC X scope cl { s2 with heap:=g3 } (upd H2 s2.heap.objs.size (.lst [])) fp) [] (clr ts σ) (upd H2 s2.heap.objs.size (.lst [])) { s2 with heap:=h₁,toks:=t }:=fun t=>vI I3 S f3 lt3 c1 c2 hns old
 have fpne:∀ b ∈ fp,b ∉ frs X.stack:=fun b hb z=>by
  obtain ⟨_,f1,f2,_⟩:=f3 b hb
  rcases List.mem_cons.mp (I3.stkSub b z) with e | e
  ·exact f1 e
  ·exact f2 e
 have stat:∀ {H':Hp},(∀ b ∈ fp,H' b=none)->∀ b ∈ fp,kf (cxC X scope cl { s2 with heap:=g3 } (upd H2 s2.heap.objs.size (.lst [])) fp) [] H' b:=fun hn b hb=>
  ⟨hn b hb,Nat.ne_of_lt (lt3 b hb),fpne b hb,.inl hb,fun x c e=>(f2 b hb).2.2.2.2.1 x c (c1 x c e),fun p hp=>absurd hp (by simp)⟩
 have loop:∀ t,codeAny (model X.prog X.w) X.A (.compLoop (.ListComp elt [⟨tg,iter,ifs,0⟩] scope pos) 0 (.ref it) (.ref s2.heap.objs.size) (compEnvC scope cl g3.objs.size X.env))
   (compPost (model X.prog X.w) X.A X.xe use Q' (.ref s2.heap.objs.size) g3.objs.size) { s2 with heap:=h₁,toks:=t }:=by
  intro t
  refine jn (fun n s'=>∃ i τ H',Inv (cxC X scope cl { s2 with heap:=g3 } (upd H2 s2.heap.objs.size (.lst [])) fp) [] τ H' s'/\tn i s'.heap/\(∀ b ∈ fp,H' b=none)/\W i n τ H') ?_ m0
   ⟨0,clr ts σ,_,I4 t,T.keep _ _ _ st3 fun b _ o e=>old b o e,fun b hb=>(f3 b hb).1,w0⟩
  rintro n s5 ⟨i,τ,H5,I5,st5,fr5,w5⟩
  rcases turn i n τ H5 w5 with ⟨stop,qn⟩ | ⟨go,N,hN,step⟩
  ·refine thn (T.done (cxC X scope cl { s2 with heap:=g3 } (upd H2 s2.heap.objs.size (.lst [])) fp) rfl rfl rfl hc i [] s5 τ H5 _ I5 (stat fr5) st5 stop) fun r s6 ⟨hr,I6⟩=>?_
   subst hr
   have base:Un (frs X.stack) fp (upd H2 s2.heap.objs.size (.lst [])) H5 g3 s6.heap:=I6.base
   have J6:Inv X pins σ H5 s6:=I3.call' (ch:=fp) I6.os base I6.hok I6.bare fun b hb=>⟨(f3 b hb).2.2.2.1,(f3 b hb).2.1,(f3 b hb).2.2.2.2.1,(f3 b hb).2.2.2.2.2⟩
   obtain ⟨m6,n6,_⟩:=I6.loc
   have hC:g3.get? g3.objs.size=none:=Heap.get?_none_of_le (Nat.le_refl _)
   refine fin _ g3.objs.size H5 s6 J6 ⟨m6,n6⟩ I6.free (Nat.ne_of_gt I3.lt) (fun x c e z=>?_) I3.sz (fun p hp z=>?_) (I3.nofs (Nat.le_refl _)) qn
   ·obtain ⟨v,q⟩:=I3.cell x c e
    exact absurd q.lt (by rw [z];exact Nat.lt_irrefl _)
   ·exact absurd (Heap.lt_size (I3.pin p hp).1) (by rw [z];exact Nat.lt_irrefl _)
  ·refine thn (T.item (cxC X scope cl { s2 with heap:=g3 } (upd H2 s2.heap.objs.size (.lst [])) fp) rfl rfl rfl hc i [] s5 τ H5 _ I5 (stat fr5) st5 go) fun r s6 ⟨u,hr,h6⟩=>?_
   subst hr
   refine thn h6 fun _ s7 ⟨x,H7,I7,r7,y7,st7,fr7⟩=>?_
   have I7':=I7.pinned (stat fr7) (T.obj _ _ st7)
   refine thn (hg cl { s2 with heap:=g3 } _ fp _ s7 τ H7 x u _ I7' r7 (step x H7 y7)) fun _ s8 ⟨τ8,H8,I8,q8⟩=>?_
   refine thn (ht cl { s2 with heap:=g3 } _ fp _ s8 τ8 H8 _ I8 q8) fun b s9 ⟨H9,I9,q9⟩=>?_
   have again:∀ {τ9:St} {H9:Hp} {s9:Shared},Inv (cxC X scope cl { s2 with heap:=g3 } (upd H2 s2.heap.objs.size (.lst [])) fp) ([] ++ kR fp s7.heap) τ9 H9 s9->N τ9 H9 ->
     ∃ m,m<n/\∃ i τ H',Inv (cxC X scope cl { s2 with heap:=g3 } (upd H2 s2.heap.objs.size (.lst [])) fp) [] τ H' s9/\tn i s9.heap/\(∀ b ∈ fp,H' b=none)/\W i m τ H':=fun {τ9 H9 s9} I9 n9=>by
    obtain ⟨m',hm,w9⟩:=hN _ _ n9
    refine ⟨m',hm,i+1,τ9,H9,I9.unpinned,T.keep _ _ _ st7 fun b hb o e=>(I9.pin (b,o) (List.mem_append_right _ (List.mem_append_right _ (qL hb e)))).1,fun b hb=>?_,w9⟩
    obtain ⟨o,e,d⟩:=T.obj _ _ st7 b hb
    exact (I9.pin (b,o) (List.mem_append_right _ (List.mem_append_right _ (qL hb e)))).2.1
   cases b with
   | false=>
    rw [if_neg Bool.false_ne_true] at q9 ⊢
    exact again I9 q9
   | true=>
    rw [if_pos rfl] at q9 ⊢
    refine thn (he cl { s2 with heap:=g3 } _ fp _ s9 τ8 H9 _ I9 q9) fun y s10 ⟨v,H10,I10,r10,ys,hys,hlen,n10⟩=>?_
    exact thn (xt (X:=cxC X scope cl { s2 with heap:=g3 } (upd H2 s2.heap.objs.size (.lst [])) fp) _ s10 τ8 H10 (.ref s2.heap.objs.size) [v] (.ref s2.heap.objs.size) [y] (fun _ H11=>N τ8 H11) I10 rfl (.cons r10 .nil) ⟨_,ys,v,rfl,rfl,hys,hlen,n10⟩) fun _ s11 ⟨_,H11,I11,_,n11⟩=>again I11 n11
 have LW:=loop (s2.toks+([]:List (Str × Value)).length)
 exact codeAny_compStart_list LW (T.self _ 0 _ _ _ (T.keep _ _ _ st3 fun b _ o e=>old b o e) LW)
end
section
variable {X:Cx}{ts:List Nat}{scope:Scope}{tg iter elt:Expr}{ifs:List Expr}{wi:TI}{g:TG}{tt:TT}{te:TE}{pos:Pos}
theorem xX (hc:X.calm=true)(hsc:JE X.N ts scope X.env.kindOf=true)(hi:PI X tg iter wi)(hg:∀ cl s H fp,PG (cxC X scope cl s H fp) tg g)(ht:∀ cl s H fp,PIf (cxC X scope cl s H fp) ifs tt)(he:∀ cl s H fp,PE (cxC X scope cl s H fp) elt te)
  (hs:∀ x,foldedSetIterable iter X.env x=pure x:=by intro _;rfl):PE X (.ListComp elt [⟨tg,iter,ifs,0⟩] scope pos) (yY ts wi g tt te):=by
 intro pins s σ H Q I h
 rw [eval_ListComp]
 refine yr hc hsc hi hg ht he I h (use:=none) (fun D C H' s' I' ⟨m,hn⟩ hC hL hce hsz hp hfs q=>⟨m,hn,fun h' hs'=>?_⟩) hs
 exact ⟨.ref D,H',I'.turned (t':=s'.toks) (it:=C) (fun b o hb e=>(hs'.2 b hb).trans e) hC hL (.inr hsz) hce hp,rfl,q⟩
theorem xT {j:Nat}{y:Str}{py spos:Pos}(hc:X.calm=true)(hN:X.N.Nodup)(hj:X.N[j]?=some y)(hy:Loc X.env.scope y)(hsc:JE X.N ts scope X.env.kindOf=true)(hi:PI X tg iter wi)(hg:∀ cl s H fp,PG (cxC X scope cl s H fp) tg g)(ht:∀ cl s H fp,PIf (cxC X scope cl s H fp) ifs tt)(he:∀ cl s H fp,PE (cxC X scope cl s H fp) elt te)
  (hsw:swapsWith (.ListComp elt [⟨tg,iter,ifs,0⟩] scope pos) (some (.Name y py)) spos.line X.env=pure true:=by rfl)
  (hs:∀ x,foldedSetIterable iter X.env x=pure x:=by intro _;rfl) (hf:X.fn y=true \/ X.env.scope.names.lookup y=some .local:=by first | exact .inl rfl | exact .inr rfl | assumption) :
  PS X (.Assign [.Name y py] (.ListComp elt [⟨tg,iter,ifs,0⟩] scope pos) spos) (JN (yY ts wi g tt te) (yW j)):=by
 intro pins s σ H D I h
 rw [exec_Assign_Name_used _ _ _ _ hsw]
 refine wpAny_bind (wpAny_standAt (wpAny_bind ?_))
 show wpAny _ _ (do let _ <- comprehension (.ListComp elt [⟨tg,iter,ifs,0⟩] scope pos) scope X.env _ (newList []) false (eval iter X.env) (some (assign (.Name y py) X.env))) _ _ s
 refine wpAny_bind (wpAny_mono (yr hc hsc hi hg ht he I h (use:=some (assign (.Name y py) X.env)) (Q':=fun _ s'=>SP X pins D .next s') (fun D' C H' s' I' ⟨m,hn⟩ hC hL hce hsz hp hfs q=>?_) hs) (fun _ s' hq=>wpAny_pure (wpAny_pure hq)) fun _ _ e=>e)
 show wpAny _ _ (assign (.Name y py) X.env (.ref D')) _ _ _
 refine wpAny_assign_Name (xp (v:=.ref D') I' hN hj hy rfl (fun s2 I2 ⟨a,hsb,ha⟩=>?_) hf)
 have hCa:C ≠ a:=by
  rcases ha with rfl | ha
  ·exact hL
  ·exact Ne.symm (hce y a ha)
 refine ⟨m,hn.sameBut hsb hCa,fun h' hs'=>?_⟩
 exact ⟨_,H',I2.turned (t':=s2.toks) (it:=C) (fun b o hb e=>(hs'.2 b hb).trans e) hC hL (.inr hsz) hce hp,q⟩
end
noncomputable def Ite (K:PySem.W.Frag)(a:Addr):It:=
 ⟨fun i H=>∃ xs x,SqL K H a xs/\xs[i]?=some x,fun i H y H'=>∃ p x,H p=none/\y=.ref p/\(∀ xs,SqL K H a xs->xs[i]?=some x)/\H'=upd H p (.tup [.int i,x]),fun i H=>∃ xs,SqL K H a xs/\xs.length<=i⟩
theorem xr {P:Program}{w:World}{K:PySem.W.Frag}{es:List Expr}{kt:Nat}{tp:Pos}(a e it:Addr)(hei:e ≠ it):yA P w K (.Tuple es kt tp) (Ite K a) [e,it] e (fun i h=>(∃ old,IsEnum h e it (i:Nat) old)/\h.IsListIter it a i) where
 mem:=by simp
 obj:=fun i h st b hb=>by
  obtain ⟨⟨old,he⟩,⟨o,e1,c,d⟩⟩:=st
  rcases List.mem_cons.mp hb with rfl | hb
  ·exact ⟨_,he,fun v z=>by have z':Data.fields _=Data.cell v:=z;cases z'⟩
  ·have e2:b=it:=by simpa using hb
   subst e2
   exact ⟨o,e1,fun v z=>by rw [d] at z;cases z⟩
 keep:=fun i h h' st k=>by
  obtain ⟨⟨old,he⟩,st⟩:=st
  exact ⟨⟨old,k e (by simp) _ he⟩,st.at fun o e=>k it (by simp) o e⟩
 item:=by
  intro X hP hw hK hc i pins s σ H E I hf st hg
  subst hP hw hK
  obtain ⟨⟨old,he⟩,st⟩:=st
  obtain ⟨xs,x,hq,hx⟩:=hg
  obtain ⟨its,rv,p,hz⟩:=I.list hq
  obtain ⟨u,hu,ru⟩:=rv.get hx
  have fe:=hf e (by simp)
  have fi:=hf it (by simp)
  refine wpAny_pyNext_enum_item he st p.isList (x:=u) (by simpa using hu) hei fun h1 heo hit1 ht1 hz1 hk1=>?_
  refine ⟨.ref s.heap.objs.size,rfl,wpAny_letOwnedTupleGo_enum heo fun h2 he2 hs2=>?_⟩
  replace hs2:Heap.SameBut e h1 h2:=hs2
  have elt:e<s.heap.objs.size:=Heap.lt_size he
  have hfr:H s.heap.objs.size=none:=I.hok.fresh (Nat.le_refl _)
  have ht2:h2.get? s.heap.objs.size=some { cls:=.type "tuple",data:=.seq #[.int i s.toks,u] }:=(hs2.2 _ (Nat.ne_of_gt elt)).trans ht1
  have kk:∀ b o,b ∉ [e,it]->s.heap.get? b=some o->h2.get? b=some o:=fun b o hc q=>by
   have n1:b ≠ e:=fun z=>hc (by simp [z])
   have n2:b ≠ it:=fun z=>hc (by simp [z])
   exact (hs2.2 b n1).trans (hk1 b o n1 n2 q)
  have nb:∀ c v,H c=some v->c ∉ [e,it]:=fun c v z hm=>by
   rcases List.mem_cons.mp hm with z' | z'
   ·rw [z',fe.1] at z;cases z
   ·have e2:c=it:=by simpa using z'
    rw [e2,fi.1] at z;cases z
  have I2:Inv X pins σ (upd H s.heap.objs.size (.tup [.int i,x])) { s with heap:=h2,toks:=s.toks+1 }:=by
   refine I.step (g':=s.gens) (d':=s.drawn) (ch:=[e,it]) (fun b hb=>?_) (fun b o _ _ hc q _=>kk b o hc q) (fun b o _ _ hc q _=>⟨o.slots,kk b o hc q⟩) (fun b o _ q n=>by rw [zf (Nat.ne_of_lt (Heap.lt_size q))];exact n) (fun b o hc q=>⟨o,kk b o hc q⟩)
    (fun b xs q=>by rw [zf (ze q hfr)];exact q) (fun b o u q=>by rw [zf (ze q hfr)];exact q) (fun b ps q=>⟨#[],by rw [zf (ze q hfr),q];simp⟩) (fun m hm=>?_) (fun b v q=>?_) I.bare
   ·rcases List.mem_cons.mp hb with z | hb
    ·rw [z];exact ⟨fe.2.2.2.1,fe.2.1,fe.2.2.2.2.1,fe.2.2.2.2.2⟩
    ·have e2:b=it:=by simpa using hb
     rw [e2];exact ⟨fi.2.2.2.1,fi.2.1,fi.2.2.2.2.1,fi.2.2.2.2.2⟩
   ·obtain ⟨o,es,ep,ho,r⟩:=hm
    exact ⟨o,es,ep,kk _ o (by simp [Ne.symm fe.2.1,Ne.symm fi.2.1]) ho,r⟩
   ·by_cases hb:b=s.heap.objs.size
    ·subst hb
     rw [zi] at q
     cases q
     exact ⟨by show 2<=sizeLine;decide,[.int i s.toks,u],.cons ⟨_,rfl⟩ (.cons ru .nil),_,ht2,rfl,⟨_,rfl⟩,rfl⟩
    ·rw [zf hb] at q
     refine (I.hok b v q).stay (fun c o hc q'=>kk c o ?_ q') (fun c z=>by rw [zf (ze z hfr)];exact z) fun c xs z=>by rw [zf (ze z hfr)];exact z
     rcases hc with z | z
     ·rw [z];exact nb b v q
     ·exact nb c _ z
  refine ⟨.ref s.heap.objs.size,_,I2,rfl,⟨s.heap.objs.size,x,hfr,rfl,fun ys hy=>by rw [I.list_inj hy hq];exact hx,rfl⟩,⟨⟨_,by simpa using he2⟩,hit1.extBut hs2.extBut (Ne.symm hei)⟩,fun b hb=>?_⟩
  have hlt:b<s.heap.objs.size:=by
   rcases List.mem_cons.mp hb with rfl | hb
   ·exact elt
   ·have e2:b=it:=by simpa using hb
    subst e2
    obtain ⟨o,e1,_⟩:=st
    exact Heap.lt_size e1
  rw [zf (Nat.ne_of_lt hlt)]
  exact (hf b hb).1
 done:=by
  intro X hP hw hK hc i pins s σ H E I hf st hg
  subst hP hw hK
  obtain ⟨⟨old,he⟩,st⟩:=st
  obtain ⟨xs,hq,hx⟩:=hg
  obtain ⟨its,rv,p,hz⟩:=I.list hq
  obtain ⟨f0,f1,f2,f3,f4,f5⟩:=hf it (by simp)
  have hl:=rv.length
  exact wpAny_pyNext_enum_end (I.ok.hd hc) he st p.isList (by simp;omega) fun h' eb=>⟨rfl,I.turned (t':=s.toks) (fun b o hb e=>eb b o hb e) f0 f1 f3 f4 f5⟩
 self:=fun _ _ _ _ _ st h=>by
  obtain ⟨⟨old,he⟩,_⟩:=st
  exact wpAny_pyIter_enum he h
section
variable {X:Cx}{pins:List (Addr × Obj)}{σ:St}{H:Hp}{s:Shared}
theorem Inv.yieldTup {ch:List Addr}{h2:Heap}{tk:Nat}{T:Addr}{xs:List V}{us:List Value}(I:Inv X pins σ H s)(hf:∀ b ∈ ch,kf X pins H b)(kk:∀ b o,b ∉ ch->s.heap.get? b=some o->h2.get? b=some o)(hT:s.heap.objs.size<=T)
  (ht2:h2.get? T=some { cls:=.type "tuple",data:=.seq us.toArray }) (rv:zl xs us) (hz:xs.length<=sizeLine):Inv X pins σ (upd H T (.tup xs)) { s with heap:=h2,toks:=tk }:=by
 have hfr:H T=none:=I.hok.fresh hT
 have nb:∀ c v,H c=some v->c ∉ ch:=fun c v z hm=>by rw [(hf c hm).1] at z;cases z
 refine I.step (g':=s.gens) (d':=s.drawn) (ch:=ch) (fun b hb=>⟨(hf b hb).2.2.2.1,(hf b hb).2.1,(hf b hb).2.2.2.2.1,(hf b hb).2.2.2.2.2⟩) (fun b o _ _ hc q _=>kk b o hc q) (fun b o _ _ hc q _=>⟨o.slots,kk b o hc q⟩)
  (fun b o _ q n=>by rw [zf (Nat.ne_of_lt (Nat.lt_of_lt_of_le (Heap.lt_size q) hT))];exact n) (fun b o hc q=>⟨o,kk b o hc q⟩)
  (fun b xs q=>by rw [zf (ze q hfr)];exact q) (fun b o u q=>by rw [zf (ze q hfr)];exact q) (fun b ps q=>⟨#[],by rw [zf (ze q hfr),q];simp⟩) (fun m hm=>?_) (fun b v q=>?_) I.bare
 ·obtain ⟨o,es,ep,ho,r⟩:=hm
  exact ⟨o,es,ep,kk _ o (fun z=>(hf _ z).2.1 rfl) ho,r⟩
 ·by_cases hb:b=T
  ·subst hb
   rw [zi] at q
   cases q
   exact ⟨hz,us,rv,_,ht2,rfl,⟨_,rfl⟩,rfl⟩
  ·rw [zf hb] at q
   refine (I.hok b v q).stay (fun c o hc q'=>kk c o ?_ q') (fun c z=>by rw [zf (ze z hfr)];exact z) fun c xs z=>by rw [zf (ze z hfr)];exact z
   rcases hc with z | z
   ·rw [z];exact nb b v q
   ·exact nb c _ z
theorem Inv.turnedL {ch:List Addr}{h2:Heap}{tk:Nat}(I:Inv X pins σ H s)(hf:∀ b ∈ ch,kf X pins H b)(kk:∀ b o,b ∉ ch->s.heap.get? b=some o->h2.get? b=some o):Inv X pins σ H { s with heap:=h2,toks:=tk }:=by
 have nb:∀ c v,H c=some v->c ∉ ch:=fun c v z hm=>by rw [(hf c hm).1] at z;cases z
 refine I.step (g':=s.gens) (d':=s.drawn) (ch:=ch) (fun b hb=>⟨(hf b hb).2.2.2.1,(hf b hb).2.1,(hf b hb).2.2.2.2.1,(hf b hb).2.2.2.2.2⟩) (fun b o _ _ hc q _=>kk b o hc q) (fun b o _ _ hc q _=>⟨o.slots,kk b o hc q⟩)
  (fun b o _ q n=>n) (fun b o hc q=>⟨o,kk b o hc q⟩) (fun b xs q=>q) (fun b o u q=>q) (fun b ps q=>⟨#[],by rw [q];simp⟩) (fun m hm=>?_) (fun b v q=>?_) I.bare
 ·obtain ⟨o,es,ep,ho,r⟩:=hm
  exact ⟨o,es,ep,kk _ o (fun z=>(hf _ z).2.1 rfl) ho,r⟩
 ·refine (I.hok b v q).stay (fun c o hc q'=>kk c o ?_ q') (fun c z=>z) fun c xs z=>z
  rcases hc with z | z
  ·rw [z];exact nb b v q
  ·exact nb c _ z
end
noncomputable def Itz (K:PySem.W.Frag)(a b:Addr):It:=
 ⟨fun i H=>∃ xs ys x y,SqL K H a xs/\SqL K H b ys/\xs[i]?=some x/\ys[i]?=some y,fun i H z H'=>∃ p x y,H p=none/\z=.ref p/\(∀ xs,SqL K H a xs->xs[i]?=some x)/\(∀ ys,SqL K H b ys->ys[i]?=some y)/\H'=upd H p (.tup [x,y]),
  fun i H=>∃ xs ys,SqL K H a xs/\SqL K H b ys/\(xs.length<=i \/ ys.length<=i)⟩
theorem Jh {P:Program}{w:World}{K:PySem.W.Frag}{es:List Expr}{kt:Nat}{tp:Pos}(l1 l2 z TI TO i1 i2:Addr)(D:ZipApart z TI TO i1 i2 l1 l2) :
  yA P w K (.Tuple es kt tp) (Itz K l1 l2) [z,TI,TO,i1,i2] z (fun i h=>IsZip h z TI TO .none/\IsPair h TI (.ref i1) (.ref i2)/\(∃ a b,IsPair h TO a b)/\h.IsListIter i1 l1 i/\h.IsListIter i2 l2 i) where
 mem:=by simp
 obj:=fun i h st b hb=>by
  obtain ⟨hz,hTI,⟨a,c,hTO⟩,⟨o1,e1,c1,d1⟩,⟨o2,e2,c2,d2⟩⟩:=st
  simp only [List.mem_cons,List.not_mem_nil,or_false] at hb
  rcases hb with rfl | rfl | rfl | rfl | rfl
  ·exact ⟨_,hz,fun v q=>by have q':Data.fields _=Data.cell v:=q;cases q'⟩
  ·exact ⟨_,hTI,fun v q=>by have q':Data.seq _ _=Data.cell v:=q;cases q'⟩
  ·exact ⟨_,hTO,fun v q=>by have q':Data.seq _ _=Data.cell v:=q;cases q'⟩
  ·exact ⟨o1,e1,fun v q=>by rw [d1] at q;cases q⟩
  ·exact ⟨o2,e2,fun v q=>by rw [d2] at q;cases q⟩
 keep:=fun i h h' st k=>by
  obtain ⟨hz,hTI,⟨a,c,hTO⟩,h1,h2⟩:=st
  exact ⟨k _ (by simp) _ hz,k _ (by simp) _ hTI,⟨a,c,k _ (by simp) _ hTO⟩,h1.at fun o e=>k _ (by simp) o e,h2.at fun o e=>k _ (by simp) o e⟩
 item:=by
  intro X hP hw hK hc i pins s σ H E I hf st hg
  subst hP hw hK
  obtain ⟨hz,hTI,⟨a,c,hTO⟩,h1,h2⟩:=st
  obtain ⟨xs,ys,x,y,hq1,hq2,hx,hy⟩:=hg
  obtain ⟨its1,rv1,p1,hz1⟩:=I.list hq1
  obtain ⟨its2,rv2,p2,hz2⟩:=I.list hq2
  obtain ⟨u,hu,ru⟩:=rv1.get hx
  obtain ⟨v,hv,rvv⟩:=rv2.get hy
  refine wpAny_pyNext_zip_item D hz hTI hTO h1 h2 p1.isList p2.isList (x:=u) (y:=v) (by simpa using hu) (by simpa using hv) fun g1 b1 b2 b3 b4 b5 b6 hk=>?_
  refine ⟨.ref s.heap.objs.size,rfl,wpAny_letOwnedTupleGo_zip b1 fun g2 hz2' hs2=>?_⟩
  replace hs2:Heap.SameBut z g1 g2:=hs2
  have zlt:z<s.heap.objs.size:=Heap.lt_size hz
  have I2:Inv X pins σ (upd H s.heap.objs.size (.tup [x,y])) { s with heap:=g2,toks:=s.toks }:=by
   refine I.yieldTup (us:=[u,v]) hf (fun b o hb e=>?_) (Nat.le_refl _) ((hs2.2 _ (Nat.ne_of_gt zlt)).trans b5) (.cons ru (.cons rvv .nil)) (by show 2<=sizeLine;decide)
   simp only [List.mem_cons,List.not_mem_nil,or_false,not_or] at hb
   exact (hs2.2 b hb.1).trans (hk b o hb.1 hb.2.2.1 hb.2.2.2.1 hb.2.2.2.2 e)
  refine ⟨.ref s.heap.objs.size,_,I2,rfl,⟨s.heap.objs.size,x,y,I.hok.fresh (Nat.le_refl _),rfl,fun xs' h'=>by rw [I.list_inj h' hq1];exact hx,fun ys' h'=>by rw [I.list_inj h' hq2];exact hy,rfl⟩,
   ⟨hz2',(hs2.2 _ D.TIz).trans (hk _ _ D.TIz D.TITO D.TIi1 D.TIi2 hTI),⟨_,_,(hs2.2 _ D.TOz).trans b2⟩,b3.extBut hs2.extBut D.i1z,b4.extBut hs2.extBut D.i2z⟩,fun b hb=>?_⟩
  have hlt:b<s.heap.objs.size:=by
   simp only [List.mem_cons,List.not_mem_nil,or_false] at hb
   rcases hb with rfl | rfl | rfl | rfl | rfl
   ·exact zlt
   ·exact Heap.lt_size hTI
   ·exact Heap.lt_size hTO
   ·obtain ⟨o,e,_⟩:=h1;exact Heap.lt_size e
   ·obtain ⟨o,e,_⟩:=h2;exact Heap.lt_size e
  rw [zf (Nat.ne_of_lt hlt)]
  exact (hf b hb).1
 done:=by
  intro X hP hw hK hc i pins s σ H E I hf st hg
  subst hP hw hK
  obtain ⟨hz,hTI,⟨a,c,hTO⟩,h1,h2⟩:=st
  obtain ⟨xs,ys,hq1,hq2,hend⟩:=hg
  obtain ⟨its1,rv1,p1,hz1⟩:=I.list hq1
  obtain ⟨its2,rv2,p2,hz2⟩:=I.list hq2
  have l1:=rv1.length
  have l2:=rv2.length
  refine wpAny_pyNext_zip_end (I.ok.hd hc) D hz hTI hTO h1 h2 p1.isList p2.isList (by simp;omega) fun h' hk=>⟨rfl,I.turnedL (tk:=s.toks) hf fun b o hb e=>?_⟩
  simp only [List.mem_cons,List.not_mem_nil,or_false,not_or] at hb
  exact hk b o hb.1 hb.2.2.1 hb.2.2.2.1 hb.2.2.2.2 e
 self:=fun _ _ _ _ _ st h=>wpAny_pyIter_zip st.1 h
theorem kJ:bootBuiltins "enumerate"=some (.type "enumerate"):=by decide +kernel
theorem Z2:bootBuiltins "zip"=some (.type "zip"):=by decide +kernel
section
variable {X:Cx}{es:List Expr}{kt:Nat}{tp:Pos}
noncomputable def X7 (K:PySem.W.Frag)(ta:TA):TI:=fun σ H R=>ta σ H fun vs H1=>∃ a,vs=[.ref a]/\(∃ xs,SqL K H1 a xs)/\R (Ite K a) H1
theorem Xb {e:Expr}{ta:TA}{p pos:Pos}(hg:Gl X "enumerate")(hm:X.mg "enumerate"=none)(ha:PA X [e] ta)(hs:starEach [e] X.env=[(false,eval e X.env)]:=by rfl) :
  PI X (.Tuple es kt tp) (.Call (.Name "enumerate" p) [e] [] pos) (X7 X.K ta):=by
 intro pins s σ H R I h
 refine Call_ (qY I hg hm (kJ) (PyProof.Rows.callWith_type1 (thn (ha pos pins s σ H _ I h) fun us s1 ⟨vs,H1,I1,r1,q1⟩=>?_) hs rfl))
 obtain ⟨a,e,⟨xs,hq⟩,q⟩:=q1
 subst e
 obtain ⟨u,rfl,ru⟩:=qB r1
 cases ru
 obtain ⟨its,rv,pl,hz⟩:=I1.list hq
 refine call_enumerate_list pl.isList fun h' he hit hsz hk=>wpAny_pyIter_enum he ?_
 have I2:Inv X pins σ H1 { s1 with heap:=h' }:=I1.kept (t':=s1.toks) hk
 refine ⟨s1.heap.objs.size+1,[s1.heap.objs.size+1,s1.heap.objs.size],_,_,H1,rfl,I2,xr a _ _ (Nat.succ_ne_self _),⟨⟨_,he⟩,hit⟩,fun b hb=>?_,q⟩
 have hb':s1.heap.objs.size<=b:=by
  simp only [List.mem_cons,List.not_mem_nil,or_false] at hb
  rcases hb with rfl | rfl
  ·exact Nat.le_succ _
  ·exact Nat.le_refl _
 exact I1.fpOk hb' (I1.hok.fresh hb')
end
theorem Ks {K:PySem.W.Frag}{a:Addr}{xs:List V}{g:TG}{tb:TS}{D:jR}{σ:St}{H:Hp}(Pv:Nat->St->Hp->Prop)(h0:Pv 0 σ H)(hl:∀ i σ H,i<=xs.length->Pv i σ H->SqL K H a xs)
  (hs:∀ i x p σ H,xs[i]?=some x->H p=none->Pv i σ H->g (.ref p) σ (upd H p (.tup [.int i,x])) fun σ2 H2=>tb { D with nx:=Pv (i+1),ct:=Pv (i+1),bk:=D.nx } σ2 H2) (hd:∀ σ H,Pv xs.length σ H->D.nx σ H) :
  ∃ W:Nat->Nat->St->Hp->Prop,(∃ m,W 0 m σ H)/\∀ i m σ H,W i m σ H ->
   ((Ite K a).stop i H/\D.nx σ H) \/ ((Ite K a).go i H/\∃ N:St->Hp->Prop,(∀ σ' H',N σ' H'->∃ m',m'<m/\W (i+1) m' σ' H')/\∀ x H',(Ite K a).yld i H x H'->g x σ H' fun σ2 H2=>tb { D with nx:=N,ct:=N,bk:=D.nx } σ2 H2):=by
 refine ⟨fun i m σ H=>m=xs.length - i/\i<=xs.length/\Pv i σ H,⟨xs.length,by simp,Nat.zero_le _,h0⟩,?_⟩
 rintro i m σ H ⟨rfl,hi,p⟩
 have q:=hl i σ H hi p
 by_cases hlt:i<xs.length
 ·refine .inr ⟨⟨xs,xs[i],q,by simp [hlt]⟩,Pv (i+1),fun σ' H' p'=>⟨xs.length - (i+1),by omega,rfl,hlt,p'⟩,fun x H' y=>?_⟩
  obtain ⟨pp,x',hp,rfl,y,rfl⟩:=y
  exact hs i x' pp σ _ (y xs q) hp p
 ·have e:i=xs.length:=by omega
  subst e
  exact .inl ⟨⟨xs,q,Nat.le_refl _⟩,hd σ H p⟩
noncomputable def Qe (p:Addr)(a b c:Int):HO:=.ext fun h=>∃ t u v,h.get? p=some { cls:=.type "range",data:=.fields #[.int a t,.int b u,.int c v] }
theorem Vg {P:Program}{w:World}{H:Hp}{h:Heap}{p:Addr}{a b c:Int}{t u v:Tok}(e:h.get? p=some { cls:=.type "range",data:=.fields #[.int a t,.int b u,.int c v] }):zx P w H h p (Qe p a b c):=
 ⟨⟨t,u,v,e⟩,⟨_,e⟩,fun h1 h2 ⟨t,u,v,q⟩ k=>⟨t,u,v,k _ q⟩⟩
noncomputable def zU (a c:Int)(n:Nat):List Int:=(List.range n).map fun (i:Nat)=>a+(i:Int) * c
theorem qw (a c:Int)(n:Nat):(zU a c n).length=n:=by simp [zU]
theorem vt {a c:Int}:∀ {n:Nat} {acc:Array Value},ItemsOf (fun (i:Nat) (v:Value)=>∃ t,v=Value.int (a+(i:Int) * c) t) acc n->zl ((zU a c n).map V.int) acc.toList:=by
 intro n acc ⟨hs,hi⟩
 have key:∀ (k:Nat) (l:List Value),l.length=k->(∀ (j:Nat) v,l[j]?=some v->∃ t,v=Value.int (a+(j:Int) * c) t)->zl ((zU a c k).map V.int) l:=by
  intro k
  induction k with
  | zero=>intro l hl _;cases l with
   | nil=>exact .nil
   | cons=>simp at hl
  | succ k ih=>
   intro l hl hv
   obtain ⟨l',x,rfl⟩:∃ l' x,l=l' ++ [x]:=⟨l.dropLast,l.getLast (by intro e;rw [e] at hl;simp at hl),(List.dropLast_concat_getLast _).symm⟩
   have hl':l'.length=k:=by simpa using hl
   have e:(zU a c (k+1)).map V.int=(zU a c k).map V.int ++ [.int (a+(k:Int) * c)]:=by simp [zU,List.range_succ]
   rw [e]
   refine (ih l' hl' fun j v hj=>hv j v ?_).append (.cons ?_ .nil)
   ·rw [List.getElem?_append_left (List.getElem?_eq_some_iff.mp hj).1];exact hj
   ·obtain ⟨t,rfl⟩:=hv k x (by rw [List.getElem?_append_right (by omega),hl'];simp)
    exact ⟨t,rfl⟩
 exact key n acc.toList (by simpa using hs) fun j v hj=>hi j v (by simpa using hj)
section
variable {X:Cx}
theorem yU:qi X (.type "range") (fun xs H Q=>∃ b:Int,xs=[.int b]/\∀ p,H p=none->Q (.ref p) (upd H p (Qe p 0 b 1))):=by
 intro pins s σ H xs us Q I r h
 obtain ⟨b,rfl,q⟩:=h
 obtain ⟨u,rfl,t,rfl⟩:=qB r
 refine call_range_1 ⟨.ref s.heap.objs.size,_,I.laid (fun b o e=>Heap.get?_push_of_some _ e) (Nat.le_refl _) ?_,rfl,q _ (I.hok.fresh (Nat.le_refl _))⟩
 exact Vg (Heap.get?_push_size _ rfl)
end
section
variable {X:Cx}
noncomputable def isT (t c:String):Option Bool:=if (Value.type t == Value.type c)=true then some true else if PySem.W.kitMeta c=true then (fastBuiltinMro t).map (·.contains (Value.type c)) else none
theorem Zc (K:PySem.W.Frag)(t c:String):PySem.W.kitOne K (.type t) (.type c)=isT t c:=rfl
noncomputable def ke (t:String):List String->Option Bool
 | []=>some false
 | c :: r=>match isT t c with
  | some true=>some true
  | some false=>ke t r
  | none=>none
theorem yv (K:PySem.W.Frag)(t:String):∀ cs:List String,PySem.W.kitAny K (.type t) (cs.map Value.type)=ke t cs
 | []=>rfl
 | c :: r=>by
  show (match PySem.W.kitOne K (.type t) (.type c) with | some true=>some true | some false=>PySem.W.kitAny K (.type t) (r.map Value.type) | none=>none)=_
  rw [Zc,yv K t r];rfl
theorem qh:qi X (.builtin "isinstance") (fun xs H Q=>∃ x t c b,xs=[x,.ty c]/\qZ X.K H x (.type t)/\isT t c=some b/\Q (.bl b) H):=by
 intro pins s σ H xs us Q I r h
 obtain ⟨x,t,c,b,rfl,ty,e,q⟩:=h
 obtain ⟨u,v,rfl,ru,rv⟩:=yF r
 cases rv
 exact ZG I ru ty (by rw [Zc];exact e) fun tk=>⟨.bl b,H,I.tok _,rfl,q⟩
theorem vk:∀ {cs:List String} {us:List Value},zl (cs.map V.ty) us->us=cs.map Value.type
 | [],_,.nil=>rfl
 | c :: cs,_,.cons r t=>by rw [vk t];cases r;rfl
theorem xC:qi X (.builtin "isinstance") (fun xs H Q=>∃ x t p cs b,xs=[x,.ref p]/\H p=some (.tup (List.map V.ty cs))/\qZ X.K H x (.type t)/\ke t cs=some b/\Q (.bl b) H):=by
 intro pins s σ H xs us Q I r h
 obtain ⟨x,t,p,cs,b,rfl,hp,ty,e,q⟩:=h
 obtain ⟨u,v,rfl,rx,rv⟩:=yF r
 cases rv
 obtain ⟨_,its,rt,o,ho,hc,⟨n,hd⟩,_⟩:=(show zx X.prog X.w H s.heap p (.tup (List.map V.ty cs)) from I.hok _ _ hp)
 obtain ⟨oc,od,odt,osl⟩:=o
 simp only at hc hd
 subst hc hd
 have e':PySem.W.kitAny X.K (.type t) its=some b:=by rw [vk rt,yv];exact e
 have fin:∀ tk,EP X pins σ Q (.bool b) { s with toks:=tk }:=fun tk=>⟨.bl b,H,I.tok _,rfl,q⟩
 cases ty with
 | non=>cases (show u=Value.none from rx);exact PySem.W.kia_tup PySem.W.kitx_none I.kIn True.intro ho e' (fun z=>nomatch z) fin
 | bl y=>cases (show u=Value.bool y from rx);exact PySem.W.kia_tup PySem.W.kitx_bool I.kIn True.intro ho e' (fun z=>nomatch z) fin
 | int i=>obtain ⟨t,q⟩:=(show ∃ t,u=Value.int i t from rx);cases q;exact PySem.W.kia_tup PySem.W.kitx_int I.kIn True.intro ho e' (fun z=>nomatch z) fin
 | str y=>obtain ⟨t,q⟩:=(show ∃ t,u=Value.str y t from rx);cases q;exact PySem.W.kia_tup PySem.W.kitx_str I.kIn True.intro ho e' (fun z=>nomatch z) fin
 | flt y=>obtain ⟨t,q⟩:=(show ∃ t,u=Value.float y t from rx);cases q;exact PySem.W.kia_tup PySem.W.kitx_float I.kIn True.intro ho e' (fun z=>nomatch z) fin
 | @lst a xs ea=>
  cases (show u=Value.ref a from rx)
  obtain ⟨_,_,n,_,h1⟩:=(show zx X.prog X.w H s.heap a (.lst xs) from I.hok a _ ea)
  exact PySem.W.kia_tup PySem.W.kitx_list I.kIn ⟨_,h1,rfl⟩ ho e' (fun z=>nomatch z) fin
 | @frz a ob xs ea=>
  cases (show u=Value.ref a from rx)
  obtain ⟨_,_,_,n,_,h1⟩:=(show zx X.prog X.w H s.heap a (.frz ob (.lst xs)) from I.hok a _ ea)
  exact PySem.W.kia_tup PySem.W.kitx_list I.kIn ⟨_,h1,rfl⟩ ho e' (fun z=>nomatch z) fin
 | @tup a xs ea=>
  cases (show u=Value.ref a from rx)
  obtain ⟨_,_,_,p⟩:=(show zx X.prog X.w H s.heap a (.tup xs) from I.hok a _ ea)
  obtain ⟨o,h1,h2,_⟩:=p
  exact PySem.W.kia_tup PySem.W.kitx_tuple I.kIn ⟨o,h1,h2⟩ ho e' (fun z=>nomatch z) fin
 | @dK a kvs ea=>
  cases (show u=Value.ref a from rx)
  obtain ⟨_,_,vs,_,p⟩:=(show zx X.prog X.w H s.heap a (.dK kvs) from I.hok a _ ea)
  obtain ⟨o,es,ep,h1,h2,_⟩:=p
  exact PySem.W.kia_tup PySem.W.kitx_dict I.kIn ⟨o,h1,h2.1⟩ ho e' (fun z=>nomatch z) fin
 | @dT a kvs ea=>
  cases (show u=Value.ref a from rx)
  obtain ⟨_,_,xs,_,o,es,ep,h1,h2,_⟩:=(show zx X.prog X.w H s.heap a (.dT kvs) from I.hok a _ ea)
  exact PySem.W.kia_tup PySem.W.kitx_dict I.kIn ⟨o,h1,h2.1⟩ ho e' (fun z=>nomatch z) fin
end
noncomputable def At (K:PySem.W.Frag)(mg:Str->Option Value)(x:Str)(st:Stmt):Prop:=∃ f fd,Fun K x x st f fd/\mg x=some (.ref f)
noncomputable def Df (P:Program)(w:World)(K:PySem.W.Frag)(mg:Str->Option Value)(base:Heap)(x:Str)(ps:List Str)(k:Nat)(sp:Sp):Prop:=
 ∃ f fd,qN P w K mg base CX0 k f fd ps sp/\xi K fd ps []/\PySem.W.keepIn K (.ref f)=true/\mg x=some (.ref f)/\∃ oc od osl,K.lookup f=some ⟨oc,od,.func fd,osl⟩
theorem Df.mono {P:Program}{w:World}{K:PySem.W.Frag}{mg:Str->Option Value}{base:Heap}{x:Str}{ps:List Str}{j k:Nat}{sp:Sp}(D:Df P w K mg base x ps j sp)(h:j<=k):Df P w K mg base x ps k sp:=
 let ⟨f,fd,F,r⟩:=D
 ⟨f,fd,F.mono h,r⟩
section
variable {X:Cx}{k:Nat}{x:Str}{ps:List Str}{sp:Sp}{p pos:Pos}{e:Expr}{es:List Expr}{t:TA}
theorem zR (D:Df X.prog X.w X.K X.mg X.base x ps k sp)(hr:z0 k X.A)(hg:Gl X x)(ha:PA X (e :: es) t)(hdb:(x == ("__debug__":Str))=false:=by decide)
  (he:starEach (e :: es) X.env=(false,eval e X.env) :: starEach es X.env:=by rfl) (hpl:(backTo pos (starEach es X.env)).any (·.1)=false:=by rfl):PE X (.Call (.Name x p) (e :: es) [] pos) (Zr sp [] E0 t):=by
 obtain ⟨f,fd,F,b,kp,m,_⟩:=D
 exact XQ F hr hg m kp b .nil Wv ha hdb he hpl
end
theorem xq {P:Program}{w:World}{K:PySem.W.Frag}{mg:Str->Option Value}{base:Heap}{x:Str}{st:Stmt}{N ps:List Str}{k:Nat}{sp:Sp}(a:At K mg x st)(S:zw N ps (zg st))
  (hb:∀ (kV doc pm:Value) (an:Option Addr) (cdv ct:Value) (us:List Value),us.length=ps.length->bindArgs (PySem.W.fnOf x x (qe st) (zG st) (zg st) .none kV doc pm an cdv ct) ⟨us,[]⟩=pure (ps.zip us))
  (len:∀ vs H Q E,sp vs H Q E->vs.length=ps.length)
  (hbody:∀ (f:Addr) (cdv:Value) (A:Around) (outer:List Env) (s:Shared) (H:Hp) (vs:List V) (Q:VK) (E:XK),z0 k (A.deeper (envOfC x (zg st) s.heap.objs.size f cdv))->sp vs H Q E ->
   ∃ t,PSs (kC CX0 P w K mg base N x (zg st) f cdv A outer s H E).nox (zG st) t/\t { nx:=fun _ H'=>Q .non H',rt:=Q } (qp N vs) H):Df P w K mg base x ps (k+1) sp:=by
 obtain ⟨f,fd,F,m⟩:=a
 obtain ⟨oc,od,kV,doc,pm,an,cdv,ct,osl,_,lk,_⟩:=id F.ex
 exact ⟨f,fd,F.ok S len fun cdv A outer s H vs Q E=>hbody f cdv A outer s H vs Q E,F.binds hb,F.kp,m,oc,od,osl,lk⟩
theorem at_mk {K:PySem.W.Frag}{mg:Str->Option Value}{h:Heap}{x:Str}{st:Stmt}{f:Addr}{oc:Value}{od an:Option Addr}{osl:Array (Option Value)}{kV doc pm cdv ct:Value}(X:K.In h)(G:h.Ns mainGlobals mg)(a:PySem.W.nsIn K mainGlobals x=some (some (.ref f)))
  (l:K.lookup f=some ⟨oc,od,.func (PySem.W.fnOf x x (qe st) (zG st) (zg st) .none kV doc pm an cdv ct),osl⟩) (c:PySem.W.codeIn K cdv x=true) (k:PySem.W.keepIn K (.ref f)=true):At K mg x st:=⟨f,_,Qt l c k,PySem.W.mg_of X G a⟩
theorem Df.fn {P:Program}{w:World}{K:PySem.W.Frag}{mg:Str->Option Value}{base:Heap}{x:Str}{ps:List Str}{k:Nat}{sp:Sp}{f:Addr}{fd:FuncData}{oc:Value}{od:Option Addr}{osl:Array (Option Value)}(D:Df P w K mg base x ps k sp)(m:mg x=some (.ref f))(l:K.lookup f=some ⟨oc,od,.func fd,osl⟩):qN P w K mg base CX0 k f fd ps sp:=by
 obtain ⟨f',fd',F,_,_,m',oc',od',osl',l'⟩:=D
 rw [m] at m'
 cases m'
 rw [l] at l'
 cases l'
 exact F
structure Blt (mg:Str->Option Value):Prop where
 len:mg "len"=none
 range:mg "range"=none
 list:mg "list"=none
 tuple:mg "tuple"=none
 int:mg "int"=none
 bool:mg "bool"=none
 str:mg "str"=none
 abs:mg "abs"=none
 divmod:mg "divmod"=none
 enumerate:mg "enumerate"=none
 zip:mg "zip"=none
 sorted:mg "sorted"=none
 max:mg "max"=none
 min:mg "min"=none
 isinstance:mg "isinstance"=none
 all:mg "all"=none
theorem blt_mk {K:PySem.W.Frag}{mg:Str->Option Value}{h:Heap}(X:K.In h)(G:h.Ns mainGlobals mg)(z1:PySem.W.nsIn K mainGlobals "len"=some none)(z2:PySem.W.nsIn K mainGlobals "range"=some none)(z3:PySem.W.nsIn K mainGlobals "list"=some none)(z4:PySem.W.nsIn K mainGlobals "tuple"=some none)(z5:PySem.W.nsIn K mainGlobals "int"=some none)(z6:PySem.W.nsIn K mainGlobals "bool"=some none)(z7:PySem.W.nsIn K mainGlobals "str"=some none)(z8:PySem.W.nsIn K mainGlobals "abs"=some none)
  (z9:PySem.W.nsIn K mainGlobals "divmod"=some none) (z10:PySem.W.nsIn K mainGlobals "enumerate"=some none) (z11:PySem.W.nsIn K mainGlobals "zip"=some none) (z12:PySem.W.nsIn K mainGlobals "sorted"=some none) (z13:PySem.W.nsIn K mainGlobals "max"=some none) (z14:PySem.W.nsIn K mainGlobals "min"=some none) (z15:PySem.W.nsIn K mainGlobals "isinstance"=some none) (z16:PySem.W.nsIn K mainGlobals "all"=some none):Blt mg:=
 ⟨PySem.W.mg_none_of X G z1,PySem.W.mg_none_of X G z2,PySem.W.mg_none_of X G z3,PySem.W.mg_none_of X G z4,PySem.W.mg_none_of X G z5,PySem.W.mg_none_of X G z6,PySem.W.mg_none_of X G z7,PySem.W.mg_none_of X G z8,PySem.W.mg_none_of X G z9,PySem.W.mg_none_of X G z10,PySem.W.mg_none_of X G z11,PySem.W.mg_none_of X G z12,PySem.W.mg_none_of X G z13,PySem.W.mg_none_of X G z14,PySem.W.mg_none_of X G z15,PySem.W.mg_none_of X G z16⟩
theorem zr:bootBuiltins "isinstance"=some (.builtin "isinstance"):=by decide +kernel
theorem jT:bootBuiltins "sorted"=some (.builtin "sorted"):=by decide +kernel
theorem Jf:bootBuiltins "abs"=some (.builtin "abs"):=by decide +kernel
theorem Zu:bootBuiltins "divmod"=some (.builtin "divmod"):=by decide +kernel
theorem Q7:bootBuiltins "max"=some (.builtin "max"):=by decide +kernel
theorem jO:bootBuiltins "len"=some (.builtin "len"):=by decide +kernel
theorem jg:bootBuiltins "list"=some (.type "list"):=by decide +kernel
theorem kX:bootBuiltins "tuple"=some (.type "tuple"):=by decide +kernel
theorem jU:bootBuiltins "int"=some (.type "int"):=by decide +kernel
theorem wC:bootBuiltins "bool"=some (.type "bool"):=by decide +kernel
theorem vM:bootBuiltins "str"=some (.type "str"):=by decide +kernel
theorem QR:bootBuiltins "range"=some (.type "range"):=by decide +kernel
noncomputable def Kp (bs:List Addr)(H H':Hp):Prop:=∀ c o,c ∉ bs->H c=some o->H' c=some o
theorem Kp.refl {bs:List Addr}{H:Hp}:Kp bs H H:=fun _ _ _ h=>h
theorem Kp.trans {bs:List Addr}{H H1 H2:Hp}(a:Kp bs H H1)(b:Kp bs H1 H2):Kp bs H H2:=fun c o n h=>b c o n (a c o n h)
theorem Kp.new {bs:List Addr}{H:Hp}{p:Addr}(o:HO)(h:H p=none):Kp bs H (upd H p o):=fun c u _ q=>by rw [zf (ze q h)];exact q
theorem Kp.set {bs:List Addr}{H:Hp}{p:Addr}(o:HO)(h:p ∈ bs):Kp bs H (upd H p o):=fun c u n q=>by have hne:c ≠ p:=(fun e=>n (by rw [e];exact h));rw [zf hne];exact q
theorem Kp.free {H H':Hp}(e:Kp [] H H'){l:Addr}(h:H' l=Option.none):H l=Option.none:=by
 cases q:H l with
 | none=>rfl
 | some o=>rw [e l o (by simp) q] at h;cases h
noncomputable def Bx (H:Hp)(b:Addr)(N:Nat):Prop:=∃ x y z:Int,H b=some (.lst [.int x,.int y,.int z])/\0<=x/\0<=y/\y<2147483648/\0<=z/\z<=N
noncomputable abbrev il (ns:List Int):HO:=.lst (ns.map V.int)
theorem cxK {CX:CXT}{P:Program}{w:World}{K:PySem.W.Frag}{mg:Str->Option Value}{base:Heap}{N:List Str}{qual:Str}{scope:Scope}{f:Addr}{cd:Value}{A:Around}{outer:List Env}{s:Shared}{H:Hp}{E:XK} :
  (kC CX P w K mg base N qual scope f cd A outer s H E).K=K:=rfl
noncomputable def WD (J:It)(g:TG)(tb:TS)(D:jR)(σ:St)(H:Hp):Prop:=∃ W:Nat->Nat->St->Hp->Prop,(∃ m,W 0 m σ H)/\∀ i m σ H,W i m σ H ->
 (J.stop i H/\D.nx σ H) \/ (J.go i H/\∃ N:St->Hp->Prop,(∀ σ' H',N σ' H'->∃ m',m'<m/\W (i+1) m' σ' H')/\∀ x H',J.yld i H x H'->g x σ H' fun σ2 H2=>tb { D with nx:=N,ct:=N,bk:=D.nx } σ2 H2)
theorem wR {wi:TI}{g:TG}{tb:TS}{D:jR}{σ:St}{H:Hp}:Vh wi g tb D σ H=wi σ H (fun J H1=>WD J g tb D σ H1):=rfl
noncomputable def Wn (J:It)(g:TG)(tt:TT)(te:TE)(D:Addr)(Q:VK)(τ:St)(H:Hp):Prop:=∃ W:Nat->Nat->St->Hp->Prop,(∃ m,W 0 m τ H)/\∀ i m τ H2,W i m τ H2 ->
 (J.stop i H2/\Q (.ref D) H2) \/ (J.go i H2/\∃ N:St->Hp->Prop,(∀ τ' H',N τ' H'->∃ m',m'<m/\W (i+1) m' τ' H')/\∀ x H',J.yld i H2 x H'->g x τ H' fun τ2 H3=>tt τ2 H3 fun b H4=>
  if b=true then te τ2 H4 fun v H5=>∃ ys,H5 D=some (.lst ys)/\ys.length<sizeLine/\N τ2 (upd H5 D (.lst (ys ++ [v]))) else N τ2 H4)
theorem Q5 {ts:List Nat}{wi:TI}{g:TG}{tt:TT}{te:TE}{σ:St}{H:Hp}{Q:VK} :
  yY ts wi g tt te σ H Q=wi σ H (fun J H1=>∀ D,H1 D=none->Wn J g tt te D Q (clr ts σ) (upd H1 D (.lst []))):=rfl
theorem KR {K:PySem.W.Frag}{a:Addr}{xs:List V}{g:TG}{tb:TS}{D:jR}{σ:St}{H:Hp}(Pv:Nat->St->Hp->Prop)(h0:Pv 0 σ H)(hl:∀ i σ H,i<=xs.length->Pv i σ H->SqL K H a xs)
  (hs:∀ i x p σ H,xs[i]?=some x->H p=none->Pv i σ H->g (.ref p) σ (upd H p (.tup [.int i,x])) fun σ2 H2=>tb { D with nx:=Pv (i+1),ct:=Pv (i+1),bk:=D.nx } σ2 H2) (hd:∀ σ H,Pv xs.length σ H->D.nx σ H):WD (Ite K a) g tb D σ H:=Ks Pv h0 hl hs hd
theorem Pn1_ {α:Type}{p:List α->Prop}(f:∀ a,p [a]):∀ us:List α,us.length=1->p us
 | [_],_=>f _
theorem Pn2_ {α:Type}{p:List α->Prop}(f:∀ a b,p [a,b]):∀ us:List α,us.length=2->p us
 | [_,_],_=>f _ _
theorem Pn3_ {α:Type}{p:List α->Prop}(f:∀ a b c,p [a,b,c]):∀ us:List α,us.length=3->p us
 | [_,_,_],_=>f _ _ _
theorem Pn4_ {α:Type}{p:List α->Prop}(f:∀ a b c d,p [a,b,c,d]):∀ us:List α,us.length=4->p us
 | [_,_,_,_],_=>f _ _ _ _
noncomputable def Jj_:Expr->Option Int
 | .Constant (.int i) _ _=>some i
 | _=>none
noncomputable def wq:List Expr->Option (List Int)
 | []=>some []
 | e :: r=>match Jj_ e with
  | some i=>(wq r).map (i :: ·)
  | none=>none
noncomputable def Yb (is:List Int):TA:=fun _ H Q=>Q (is.map V.int) H
theorem wF {X:Cx}:∀ {es:List Expr} {is:List Int},wq es=some is->PA X es (Yb is)
 | [],is,h=>by
  cases (show some []=some is from h)
  exact zc
 | e :: r,is,h=>by
  unfold wq at h
  split at h
  ·rename_i i hi
   obtain ⟨js,e',rfl⟩:=Option.map_eq_some_iff.mp h
   unfold Jj_ at hi
   split at hi
   ·cases hi;exact za (te:=tC (.int i)) zd (wF e')
   ·cases hi
  ·cases h
theorem qC {X:Cx}:qi X (.type "int") (fun xs H Q=>∃ k,xs=[.bl k]/\Q (.int (if k then 1 else 0)) H):=by
 intro pins s σ H xs us Q I r h
 exact ZC pins s σ H xs us Q I r (.inr h)
theorem Bx.mono {H:Hp}{b:Addr}{N M:Nat}(h:Bx H b N)(le:N<=M):Bx H b M:=let ⟨x,y,z,h1,h2,h3,h4,h5,h6⟩:=h;⟨x,y,z,h1,h2,h3,h4,h5,by omega⟩
theorem Bx.new {H:Hp}{b p:Addr}{N:Nat}{o:HO}(h:Bx H b N)(hp:H p=none):Bx (upd H p o) b N:=let ⟨x,y,z,h1,r⟩:=h;⟨x,y,z,(zf (ze h1 hp)).trans h1,r⟩
noncomputable def kN (n:Nat)(ns:List Int):Prop:=ns.length=n/\ns.Nodup/\∀ x ∈ ns,0<=x/\x<(n:Int)
theorem kN.getD {n:Nat}{ns:List Int}(h:kN n ns){i:Nat}(hi:i<n):0<=ns.getD i 0/\ns.getD i 0<n:=by
 obtain ⟨l,d,b⟩:=h
 have hi':i<ns.length:=by omega
 have e:ns.getD i 0=ns[i]:=by rw [List.getD_eq_getElem?_getD,List.getElem?_eq_getElem hi'];rfl
 rw [e]
 exact b _ (List.getElem_mem hi')
theorem wH {ns:List Int}{i:Nat}(h:i<ns.length):ns.getD i 0=ns[i]:=by rw [List.getD_eq_getElem?_getD,List.getElem?_eq_getElem h];rfl
theorem kN.inj {n:Nat}{ns:List Int}(h:kN n ns){i j:Nat}(hi:i<n)(hj:j<n)(e:ns.getD i 0=ns.getD j 0):i=j:=by
 obtain ⟨l,d,b⟩:=h
 rw [wH (by omega),wH (by omega)] at e
 exact (List.getElem_inj d).mp e
theorem JX {ns:List Int}{i j:Nat}{v:Int}(h:i<ns.length):(ns.set i v).getD j 0=if j=i then v else ns.getD j 0:=by
 rw [List.getD_eq_getElem?_getD,List.getElem?_set]
 by_cases e:i=j
 ·subst e;simp [h]
 ·rw [if_neg e,if_neg (Ne.symm e),List.getD_eq_getElem?_getD]
noncomputable def vG:V->V->V->Hp->(Hp->Prop)->Prop:=fun o i v H Q=>∃ k,i=.int k/\∃ p,o=.ref p/\∃ xs,H p=some (.lst xs)/\∃ j,ixN xs.length k=some j/\Q (upd H p (.lst (xs.set j v)))
section
variable {X:Cx}
theorem xB:MtR X "list.append" kl:=xt
theorem jM {es:List Expr}{k:Nat}{t:TGs}{pos:Pos}{K:PySem.W.Frag}(n:Nat)(h:X.K=K)(hc:X.calm=true)(hs:PGs X es t)(hn:(assignEach es X.env).length=n:=by rfl)(hst:(assignEach es X.env).findIdx? (·.1)=none:=by rfl):PG X (.Tuple es k pos) (KF K n t):=h ▸ YS hc hs hn hst
theorem qE:YK X vG:=by
 intro pins s σ H o i v ov iv u Q I ro ri rv h
 obtain ⟨k,e1,p,e2,xs,h1,j,h2,q⟩:=h
 exact J9 pins s σ H o i v ov iv u Q I ro ri rv ⟨p,xs,k,j,e2,e1,h1,h2,q⟩
end
noncomputable def Jt (os bs:List Int):Prop:=bs.length=os.length/\∀ i,i<os.length->bs.getD (os.getD i 0).toNat 0=(i:Int)
section
variable {X:Cx}
noncomputable def wG (K:PySem.W.Frag):R2:=fun x y H Q=>∃ p xs i v,x=.ref p/\y=.int i/\(SqL K H p xs \/ SqT K H p xs)/\atI xs i=some v/\Q v H
theorem JD:IxR X (wG X.K):=by
 intro value slice pins s σ H x y v u Q I rx ry h hs
 obtain ⟨p,xs,i,z,e1,e2,hq | hq,he,q⟩:=h
 ·exact zL value slice pins s σ H x y v u Q I rx ry ⟨p,xs,i,z,e1,e2,hq,he,q⟩ hs
 ·exact Yu value slice pins s σ H x y v u Q I rx ry ⟨p,xs,i,z,e1,e2,hq,he,q⟩ hs
theorem xV {K:PySem.W.Frag}(h:X.K=K):IxR X (wG K):=h ▸ JD
theorem Yq:bootBuiltins "all"=some (.builtin "all"):=by decide +kernel
theorem kK:∀ {bs:List Bool} {us:List Value},zl (bs.map V.bl) us->us=bs.map Value.bool
 | [],_,h=>by cases h;rfl
 | b :: bs,_,h=>by
  cases h with
  | cons r rs=>cases r;rw [kK rs];rfl
theorem vE (bs:List Bool):((List.range bs.length).all fun i=>(bs[i]?).getD true)=bs.all id:=by
 rw [Bool.eq_iff_iff,List.all_eq_true,List.all_eq_true]
 constructor
 ·intro h x hx
  obtain ⟨i,hi,rfl⟩:=List.getElem_of_mem hx
  have:=h i (by simpa using hi)
  simpa [List.getElem?_eq_getElem hi] using this
 ·intro h i hi
  have hi':i<bs.length:=by simpa using hi
  simpa [List.getElem?_eq_getElem hi'] using h bs[i] (List.getElem_mem hi')
theorem Z8 (hc:X.calm=true):qi X (.builtin "all") (fun xs H Q=>∃ p bs,xs=[.ref p]/\SqL X.K H p (List.map V.bl bs)/\Q (.bl (bs.all id)) H):=by
  intro pins s σ H xs us Q I r h
  obtain ⟨p,bs,rfl,hq,q⟩:=h
  obtain ⟨u,rfl,rx⟩:=qB r
  cases rx
  obtain ⟨its,rv,pl,hz⟩:=I.list hq
  have hu:=kK rv
  subst hu
  have hlt:p<s.heap.objs.size:=by obtain ⟨_,e,_⟩:=pl.isList;exact Heap.lt_size e
  refine call_all_walk (wpAny_pyIter_list pl.isList ?_)
  refine ⟨s.heap.objs.size,[s.heap.objs.size,p],[s.heap.objs.size],(bs.map Value.bool).toArray.size,_,_,fun i=>(bs[i]?).getD true,rfl,Walks.list (A:=X.A.in1) (I.ok.hd hc) _ p (Nat.ne_of_lt hlt) (bs.map Value.bool).toArray,
    ⟨⟨_,Heap.get?_push_size _ rfl,rfl,rfl⟩,pl.isList.push _⟩,fun i v s' Q' E' hP hQ=>?_,fun h' tk hk=>?_⟩
  · have hP':(bs.map Value.bool)[i]?=some v:=by simpa using hP
    rw [List.getElem?_map] at hP'
    cases e:bs[i]? with
    | none=>rw [e] at hP';cases hP'
    | some b=>
      rw [e] at hP'
      cases hP'
      simp only [e,Option.getD_some] at hQ
      exact wpAny_truthy_bool hQ
  · have e : ((List.range (bs.map Value.bool).toArray.size).all fun i => (bs[i]?).getD true) = bs.all id := by
      rw [List.size_toArray,List.length_map];exact vE bs
    rw [e]
    refine ⟨.bl (bs.all id),H,I.turnedL (ch:=[]) (tk:=tk) (fun b hb=>nomatch hb) (fun b o _ eb=>?_),rfl,q⟩
    exact hk b o (fun hm=>by rw [List.mem_singleton.mp hm] at eb;exact Nat.lt_irrefl _ (Heap.lt_size eb)) (Heap.get?_push_of_some _ eb)
end
section
variable {P:Program}{w:World}{A:Around}{E:Value->Shared->Prop}{s:Shared}{j t:Addr}{i:Nat}{its:Array Value}{Q:Value->Shared->Prop}
theorem qK {x:Value}(hj:s.heap.IsTupleIter j t i)(ht:s.heap.IsTuple t its)(hx:its[i]?=some x)(hQ:∀ h',h'.IsTupleIter j t (i+1)->Heap.SameBut j s.heap h'->Q x { s with heap:=h' }):wpAny (model P w) A (Builtin.SmallTypes.nextOf (.ref j)) Q E s:=by
 obtain ⟨o,ho,hc,hd⟩:=id hj
 obtain ⟨ot,hot,_,nt,hdt⟩:=ht
 unfold Builtin.SmallTypes.nextOf
 refine wpAny_bind (wpAny_callSpecial?_slot (name:=Str.ofString "__next__") hj.typeIs F.slot_tuple_iterator_next (wpAny_call_entry F.slot_tuple_iterator_next hj.typeIs F.entry_tuple_iterator_next ?_ (F.args_tuple_iterator_next_1 _)))
 refine wpAny_bind (m:=field (.ref j) 0) (wpAny_field ho hd (x:=.ref t) rfl ?_);show wpAny _ _ (if (Value.ref t == Value.none)=true then _ else _) _ _ s;rw [if_neg (show ¬ ((Value.ref t == Value.none)=true) from Bool.false_ne_true)]
 refine wpAny_bind (m:=field (.ref j) 1) (wpAny_field ho hd (x:=.int i 0) rfl ?_);refine wpAny_bind (m:=seqItems? (.ref t)) (wpAny_seqItems hot hdt ?_);simp only [Int.toNat_natCast,hx]
 refine wpAny_bind (wpAny_setField ho hd (by simp) (wpAny_pure ⟨x,rfl,wpAny_pure (hQ _ ⟨_,Heap.get?_update_self _ ho (Obj.isFreed_of_fields (Obj.data_mapFields hd _)),(Obj.cls_mapFields ..).trans hc,by rw [Obj.data_mapFields hd];simp [rawInt]⟩ (Heap.SameBut.update ..))⟩))
theorem qS (hh:A.handled=none)(hj:s.heap.IsTupleIter j t i)(ht:s.heap.IsTuple t its)(hx:its[i]?=none)(hE:∀ h' e,Heap.ExtBut j s.heap h'->(∃ o,h'.get? e=some o/\o.cls=.type "StopIteration")->E (.ref e) { s with heap:=h' }):wpAny (model P w) A (Builtin.SmallTypes.nextOf (.ref j)) Q E s:=by
 obtain ⟨o,ho,hc,hd⟩:=id hj
 obtain ⟨ot,hot,_,nt,hdt⟩:=ht
 unfold Builtin.SmallTypes.nextOf
 refine wpAny_bind (wpAny_callSpecial?_slot (name:=Str.ofString "__next__") hj.typeIs F.slot_tuple_iterator_next (wpAny_call_entry F.slot_tuple_iterator_next hj.typeIs F.entry_tuple_iterator_next ?_ (F.args_tuple_iterator_next_1 _)))
 refine wpAny_bind (m:=field (.ref j) 0) (wpAny_field ho hd (x:=.ref t) rfl ?_);show wpAny _ _ (if (Value.ref t == Value.none)=true then _ else _) _ _ s;rw [if_neg (show ¬ ((Value.ref t == Value.none)=true) from Bool.false_ne_true)]
 refine wpAny_bind (m:=field (.ref j) 1) (wpAny_field ho hd (x:=.int i 0) rfl ?_);refine wpAny_bind (m:=seqItems? (.ref t)) (wpAny_seqItems hot hdt ?_);simp only [Int.toNat_natCast,hx]
 refine wpAny_bind (wpAny_rule (wpAny_bind (wpAny_setField ho hd (by simp) ?_)));refine wpAny_bind (m:=newExc (.type "StopIteration") []) ?_;simp only [newExc,newTuple];refine wpAny_bind (wpAny_newObj_type ?_ (by size_fits));refine wpAny_bind (m:=firstArgMember _ _) (wpAny_of_eq (a:=Value.none) (by first | rfl | (simp only [firstArgMember];rfl)) ?_);refine wpAny_newObj_type ?_ (by size_fits);simp only [raiseNew];refine wpAny_bind (wpAny_handled ?_)
 (first | rw [show A.in1.handled=none from hh] | rw [hh]);refine wpAny_bind (wpAny_pure (wpAny_throw ?_));exact hE _ _ (((Heap.SameBut.update ..).extBut.push _).push _) ⟨_,Heap.get?_push_size _ rfl,rfl⟩
end
theorem Qc {P:Program}{w:World}{A:Around}(hh:A.handled=none)(j t:Addr)(hne:t ≠ j)(its:Array Value) :
  Draws P w A j [j,t] its.size (fun i v=>its[i]?=some v) (fun i h=>h.IsTupleIter j t i/\h.IsTuple t its) where
 live:=fun _ _ st=>let ⟨o,ho,_⟩:=st.1;⟨o,ho⟩
 frame:=fun _ _ _ st hk=>⟨st.1.at fun o e=>hk j (by simp) o e,let ⟨o,ho,r⟩:=st.2;⟨o,hk t (by simp) o ho,r⟩⟩
 item:=fun i s Q E hi st hQ=>by
  refine qK st.1 st.2 (x:=its[i]) (by simp [hi]) fun h' hit' hs'=>?_
  exact hQ _ h' s.toks (by simp [hi]) ⟨hit',let ⟨o,ho,r⟩:=st.2;⟨o,(hs'.2 t hne).trans ho,r⟩⟩ hs'
 done:=fun s Q E st hE=>qS hh st.1 st.2 (by simp) hE
open AutoSeq1 (wpAny_loadPart') in
theorem Qb (l:Addr)(its:Array Value)(n:Nat)(dct:Option Addr)(sl:Array (Option Value)) :
  Meets (Builtin.«enumerate.__new__» ⟨[.type "enumerate",.ref l],[]⟩) (fun _ R s=>s.heap.get? l=some { cls:=.type "tuple",dict:=dct,data:=.seq its n,slots:=sl }/\R (.ok (.ret (.ref (s.heap.push { cls:=.type "tuple_iterator",data:=.fields #[.ref l,.int 0 0] }).objs.size))) { s with heap:=(s.heap.push { cls:=.type "tuple_iterator",data:=.fields #[.ref l,.int 0 0] }).push { cls:=.type "enumerate",data:=.fields #[.none,.bool false,.ref s.heap.objs.size,rawInt 0,.none,.none] } }):=
 .of_wp fun prog w A R s h=>by
  obtain ⟨hp,g,d,tk,os⟩:=s
  obtain ⟨hl,h⟩:=h
  have hsub:=sub_enumerate
  have hT:Heap.IsTuple (Shared.heap ⟨hp,g,d,tk,os⟩) l its:=⟨_,hl,rfl,n,rfl⟩
  wp_walk using wpAny_loadPart' hl
  refine wpAny_stack_any fun st=>wpAny_pure ?_
  split
  ·rename_i c _ _ _ _ _
   cases (c == Value.type "enumerate")
   ·wp_walk using wpAny_loadPart' hl,wpAny_pyIter_tuple hT;exact ⟨_,rfl,h⟩
   ·wp_walk using wpAny_loadPart' hl,wpAny_pyIter_tuple hT;exact ⟨_,rfl,h⟩
  ·wp_walk using wpAny_loadPart' hl,wpAny_pyIter_tuple hT;exact ⟨_,rfl,h⟩
theorem vK {P:Program}{w:World}{A:Around}{E:Value->Shared->Prop}{s:Shared}{l:Addr}{its:Array Value}{Q:Value->Shared->Prop}(hT:s.heap.IsTuple l its)
  (h:∀ h',IsEnum h' (s.heap.objs.size+1) s.heap.objs.size 0 .none->h'.IsTupleIter s.heap.objs.size l 0->(∀ b o,s.heap.get? b=some o->h'.get? b=some o)->Q (.ref (s.heap.objs.size+1)) { s with heap:=h' }) :
  wpAny (model P w) A (call (.type "enumerate") [.ref l]) Q E s:=by
 obtain ⟨⟨c,dct,dt,sl⟩,hl,hc,n,hd⟩:=hT
 replace hc:c=.type "tuple":=hc
 replace hd:dt=.seq its n:=hd
 subst hc hd
 refine callType_new F.called_enumerate (by decide) (F.typeCall_enumerate_1 _) (F.newCall_enumerate_1 _) (fun obj=>F.args_object_init_2 obj _) F.entry_enumerate_new (Qb l its n dct sl) ⟨hl,?_⟩
 have hz:(s.heap.push { cls:=.type "tuple_iterator",data:=.fields #[.ref l,.int 0 0] }).objs.size=s.heap.objs.size+1:=Heap.size_push ..
 show _/\_
 rw [hz]
 have he:IsEnum ((s.heap.push { cls:=.type "tuple_iterator",data:=.fields #[.ref l,.int 0 0] }).push { cls:=.type "enumerate",data:=.fields #[.none,.bool false,.ref s.heap.objs.size,rawInt 0,.none,.none] }) (s.heap.objs.size+1) s.heap.objs.size 0 .none:=by
  have hg:=Heap.get?_push_size (s.heap.push { cls:=.type "tuple_iterator",data:=.fields #[.ref l,.int 0 0] }) (o:={ cls:=.type "enumerate",data:=.fields #[.none,.bool false,.ref s.heap.objs.size,rawInt 0,.none,.none] }) rfl
  rw [hz] at hg;exact hg
 exact ⟨⟨_,he,rfl⟩,h _ he ⟨_,Heap.get?_push_of_some _ (Heap.get?_push_size _ rfl),rfl,rfl⟩ fun b o x=>Heap.get?_push_of_some _ (Heap.get?_push_of_some _ x)⟩
theorem ZU {P:Program}{w:World}{A:Around}{E:Value->Shared->Prop}{s:Shared}{e j t:Addr}{i:Nat}{its:Array Value}{old:Value}{Q:Option Value->Shared->Prop}(hh:A.handled=none)
  (he:IsEnum s.heap e j i old) (hj:s.heap.IsTupleIter j t i) (ht:s.heap.IsTuple t its) (hx:its[i]?=none) (hQ:∀ h',Heap.ExtBut j s.heap h'->Q none { s with heap:=h' }):wpAny (model P w) A (pyNext (.ref e)) Q E s:=by
 have hT:s.TypeIs (.ref e) "enumerate":=⟨_,he,rfl⟩
 unfold pyNext
 refine wpAny_bind (wpAny_attempt (wpAny_callSpecial?_slot (name:=Str.ofString "__next__") hT F.slot_enumerate_next (wpAny_call_entry F.slot_enumerate_next hT F.entry_enumerate_next ?_ (F.args_enumerate_next_1 _))))
 refine wpAny_bind (m:=field (.ref e) 2) (wpAny_field he rfl (x:=.ref j) rfl ?_);refine wpAny_bind (qS hh hj ht hx fun h' x he' hx'=>?_)
 obtain ⟨o,ho,hc⟩:=hx'
 refine wpAny_bind (wpAny_isInstance (T:="StopIteration") (b:=true) ⟨o,ho,hc⟩ isSubtype_stop ?_);exact wpAny_pure (hQ _ he')
noncomputable def Wh (K:PySem.W.Frag)(a:Addr):It:=
 ⟨fun i H=>∃ xs x,SqT K H a xs/\xs[i]?=some x,fun i H y H'=>∃ p x,H p=none/\y=.ref p/\(∀ xs,SqT K H a xs->xs[i]?=some x)/\H'=upd H p (.tup [.int i,x]),fun i H=>∃ xs,SqT K H a xs/\xs.length<=i⟩
theorem vy {P:Program}{w:World}{K:PySem.W.Frag}{es:List Expr}{kt:Nat}{tp:Pos}(a e it:Addr)(hei:e ≠ it)(hea:e ≠ a)(hai:a ≠ it):yA P w K (.Tuple es kt tp) (Wh K a) [e,it] e (fun i h=>(∃ old,IsEnum h e it (i:Nat) old)/\h.IsTupleIter it a i) where
 mem:=by simp
 obj:=fun i h st b hb=>by
  obtain ⟨⟨old,he⟩,⟨o,e1,c,d⟩⟩:=st
  rcases List.mem_cons.mp hb with rfl | hb
  ·exact ⟨_,he,fun v z=>by have z':Data.fields _=Data.cell v:=z;cases z'⟩
  ·have e2:b=it:=by simpa using hb
   subst e2
   exact ⟨o,e1,fun v z=>by rw [d] at z;cases z⟩
 keep:=fun i h h' st k=>by
  obtain ⟨⟨old,he⟩,st⟩:=st
  exact ⟨⟨old,k e (by simp) _ he⟩,st.at fun o e=>k it (by simp) o e⟩
 item:=by
  intro X hP hw hK hc i pins s σ H E I hf st hg
  subst hP hw hK
  obtain ⟨⟨old,he⟩,st⟩:=st
  obtain ⟨xs,x,hq,hx⟩:=hg
  obtain ⟨its,rv,p,hz⟩:=I.tuple hq
  obtain ⟨u,hu,ru⟩:=rv.get hx
  have hlt:i<its.toArray.size:=by
   have:=(List.getElem?_eq_some_iff.mp hu).1
   simpa using this
  refine wpAny_pyNext_enum_itemD (Qc (A:=X.A.in1) (I.ok.hd hc) it a hai its.toArray) he ⟨st,p⟩ hlt hei (by simp [hei,hea]) fun x' h1 tk hP heo hit1 ht1 hz1 hk1=>?_
  have hxu:x'=u:=by
   have h1':its[i]?=some x':=by simpa using hP
   rw [hu] at h1';cases h1';rfl
  subst hxu
  refine ⟨.ref s.heap.objs.size,rfl,wpAny_letOwnedTupleGo_enum heo fun h2 he2 hs2=>?_⟩
  replace hs2:Heap.SameBut e h1 h2:=hs2
  have elt:e<s.heap.objs.size:=Heap.lt_size he
  have ht2:=(hs2.2 _ (Nat.ne_of_gt elt)).trans ht1
  have I2:Inv X pins σ (upd H s.heap.objs.size (.tup [.int i,x])) { s with heap:=h2,toks:=tk+1 }:=by
   refine I.yieldTup (us:=[.int i tk,x']) hf (fun b o hb q=>?_) (Nat.le_refl _) ht2 (.cons ⟨_,rfl⟩ (.cons ru .nil)) (by show 2<=sizeLine;decide)
   have n1:b ≠ e:=fun z=>hb (by simp [z])
   have n2:b ≠ it:=fun z=>hb (by simp [z])
   exact (hs2.2 b n1).trans (hk1 b o n1 n2 q)
  refine ⟨.ref s.heap.objs.size,_,I2,rfl,⟨s.heap.objs.size,x,I.hok.fresh (Nat.le_refl _),rfl,fun ys hy=>by rw [I.tuple_inj hy hq];exact hx,rfl⟩,⟨⟨_,by simpa using he2⟩,hit1.1.extBut hs2.extBut (Ne.symm hei)⟩,fun b hb=>?_⟩
  have hlt:b<s.heap.objs.size:=by
   rcases List.mem_cons.mp hb with rfl | hb
   ·exact elt
   ·have e2:b=it:=by simpa using hb
    subst e2
    obtain ⟨o,e1,_⟩:=st
    exact Heap.lt_size e1
  rw [zf (Nat.ne_of_lt hlt)]
  exact (hf b hb).1
 done:=by
  intro X hP hw hK hc i pins s σ H E I hf st hg
  subst hP hw hK
  obtain ⟨⟨old,he⟩,st⟩:=st
  obtain ⟨xs,hq,hx⟩:=hg
  obtain ⟨its,rv,p,hz⟩:=I.tuple hq
  obtain ⟨f0,f1,f2,f3,f4,f5⟩:=hf it (by simp)
  have hl:=rv.length
  exact ZU (I.ok.hd hc) he st p (by simp;omega) fun h' eb=>⟨rfl,I.turned (t':=s.toks) (fun b o hb e=>eb b o hb e) f0 f1 f3 f4 f5⟩
 self:=fun _ _ _ _ _ st h=>by
  obtain ⟨⟨old,he⟩,_⟩:=st
  exact wpAny_pyIter_enum he h
section
variable {X:Cx}{es:List Expr}{kt:Nat}{tp:Pos}
noncomputable def xL (K:PySem.W.Frag)(ta:TA):TI:=fun σ H R=>ta σ H fun vs H1=>∃ a,vs=[.ref a]/\(((∃ xs,SqL K H1 a xs)/\R (Ite K a) H1) \/ ((∃ xs,SqT K H1 a xs)/\R (Wh K a) H1))
theorem xA {e:Expr}{ta:TA}{p pos:Pos}(hg:Gl X "enumerate")(hm:X.mg "enumerate"=none)(ha:PA X [e] ta)(hs:starEach [e] X.env=[(false,eval e X.env)]:=by rfl) :
  PI X (.Tuple es kt tp) (.Call (.Name "enumerate" p) [e] [] pos) (xL X.K ta):=by
 intro pins s σ H R I h
 refine Call_ (qY I hg hm (kJ) (PyProof.Rows.callWith_type1 (thn (ha pos pins s σ H _ I h) fun us s1 ⟨vs,H1,I1,r1,q1⟩=>?_) hs rfl))
 obtain ⟨a,e,q⟩:=q1
 subst e
 obtain ⟨u,rfl,ru⟩:=qB r1
 cases ru
 have hb':∀ b ∈ [s1.heap.objs.size+1,s1.heap.objs.size],s1.heap.objs.size<=b:=by
  intro b hb
  simp only [List.mem_cons,List.not_mem_nil,or_false] at hb
  omega
 rcases q with ⟨⟨xs,hq⟩,q⟩ | ⟨⟨xs,hq⟩,q⟩
 ·obtain ⟨its,rv,pl,hz⟩:=I1.list hq
  refine call_enumerate_list pl.isList fun h' he hit hsz hk=>wpAny_pyIter_enum he ?_
  have I2:Inv X pins σ H1 { s1 with heap:=h' }:=I1.kept (t':=s1.toks) hk
  exact ⟨s1.heap.objs.size+1,[s1.heap.objs.size+1,s1.heap.objs.size],_,_,H1,rfl,I2,xr a _ _ (Nat.succ_ne_self _),⟨⟨_,he⟩,hit⟩,fun b hb=>I1.fpOk (hb' b hb) (I1.hok.fresh (hb' b hb)),q⟩
 ·obtain ⟨its,rv,pl,hz⟩:=I1.tuple hq
  have alt:a<s1.heap.objs.size:=by obtain ⟨o,e,_⟩:=pl;exact Heap.lt_size e
  refine vK pl fun h' he hit hk=>wpAny_pyIter_enum he ?_
  have I2:Inv X pins σ H1 { s1 with heap:=h' }:=I1.kept (t':=s1.toks) hk
  exact ⟨s1.heap.objs.size+1,[s1.heap.objs.size+1,s1.heap.objs.size],_,_,H1,rfl,I2,vy a (s1.heap.objs.size+1) s1.heap.objs.size (Nat.succ_ne_self _) (Nat.ne_of_gt (Nat.lt_succ_of_lt alt)) (Nat.ne_of_lt alt),⟨⟨_,he⟩,hit⟩,fun b hb=>I1.fpOk (hb' b hb) (I1.hok.fresh (hb' b hb)),q⟩
end
noncomputable def iLT (K:PySem.W.Frag)(tl:TE):TI:=fun σ H R=>tl σ H fun x H1=>∃ a,x=.ref a/\(((∃ xs,SqL K H1 a xs)/\R (Itl K a) H1) \/ ((∃ xs,SqT K H1 a xs)/\R (Itt K a) H1))
theorem WP {X:Cx}{tg:Expr}{l:Expr}{tl:TE}(hl:PE X l tl):PI X tg l (iLT X.K tl):=by
 intro pins s σ H R I h
 refine thn (hl pins s σ H _ I h) fun v s1 ⟨x,H1,I1,r1,q1⟩=>?_
 obtain ⟨a,e,q⟩:=q1
 subst e
 cases r1
 have fo:∀ b ∈ [s1.heap.objs.size],kf X pins H1 b:=fun b hb=>by
  have e:b=s1.heap.objs.size:=by simpa using hb
  subst e
  exact I1.fpOk (Nat.le_refl _) (I1.hok.fresh (Nat.le_refl _))
 rcases q with ⟨⟨xs,hq⟩,q⟩ | ⟨⟨xs,hq⟩,q⟩
 ·obtain ⟨its,rv,p,hz⟩:=I1.list hq
  refine wpAny_pyIter_list p.isList ?_
  exact ⟨s1.heap.objs.size,[s1.heap.objs.size],_,_,H1,rfl,I1.kept (t':=s1.toks) fun b o e=>Heap.get?_push_of_some _ e,Zy a _,⟨_,Heap.get?_push_size _ rfl,rfl,rfl⟩,fo,q⟩
 ·obtain ⟨its,rv,p,hz⟩:=I1.tuple hq
  refine wpAny_pyIter_tuple (show s1.heap.IsTuple a its.toArray from p) ?_
  exact ⟨s1.heap.objs.size,[s1.heap.objs.size],_,_,H1,rfl,I1.kept (t':=s1.toks) fun b o e=>Heap.get?_push_of_some _ e,vY a _,⟨_,Heap.get?_push_size _ rfl,rfl,rfl⟩,fo,q⟩
section
variable {X:Cx}
end
section
variable {X:Cx}
end
section
variable {prog:Program}{w:World}{A:Around}{R:Result->Shared->Prop}{s:Shared}
end
noncomputable def CL (J:It)(g:TG)(tt:TT)(tr:St->Hp->(St->Hp->Prop)->Prop)(N:St->Hp->Prop)(σ:St)(H:Hp):Prop:=∃ W:Nat->Nat->St->Hp->Prop,(∃ m,W 0 m σ H)/\∀ i m τ H2,W i m τ H2 ->
 (J.stop i H2/\N τ H2) \/ (J.go i H2/\∃ N1:St->Hp->Prop,(∀ τ' H',N1 τ' H'->∃ m',m'<m/\W (i+1) m' τ' H')/\∀ x H',J.yld i H2 x H'->g x τ H' fun τ2 H3=>tt τ2 H3 fun b H4=>
  if b=true then tr τ2 H4 N1 else N1 τ2 H4)
noncomputable abbrev TR:=St->Hp->(St->Hp->Prop)->Prop
noncomputable def ww (te:TE)(D:Addr):TR:=fun σ H N=>te σ H fun v H5=>∃ ys,H5 D=some (.lst ys)/\ys.length<sizeLine/\N σ (upd H5 D (.lst (ys ++ [v])))
noncomputable def YA (wi:TI)(g:TG)(tt:TT)(tr:Addr->TR)(D:Addr):TR:=fun σ H N=>wi σ H fun J H1=>CL J g tt (tr D) N σ H1
section
variable {C:Cx}{elt tg iter:Expr}{ifs:List Expr}{gens:List Comprehension}{scope:Scope}{pos:Pos}{d:Nat}{D:Addr}{g:TG}{tt:TT}{te:TE}{tr:TR}
end
noncomputable def QW (ts:List Nat)(wi:TI)(g:TG)(tt:TT)(tr:Addr->TR):TE:=fun σ H Q=>wi σ H fun J H1=>∀ D,H1 D=none->CL J g tt (tr D) (fun _ H2=>Q (.ref D) H2) (clr ts σ) (upd H1 D (.lst []))
section
variable {X:Cx}{ts:List Nat}{scope:Scope}{tg iter elt:Expr}{ifs:List Expr}{zm:List Comprehension}{wi:TI}{g:TG}{tt:TT}{tr:Addr->TR}{pos:Pos}
end
theorem Qg {ts:List Nat}{wi:TI}{g:TG}{tt:TT}{tr:Addr->TR}{σ:St}{H:Hp}{Q:VK} :
  QW ts wi g tt tr σ H Q=wi σ H (fun J H1=>∀ D,H1 D=none->CL J g tt (tr D) (fun _ H2=>Q (.ref D) H2) (clr ts σ) (upd H1 D (.lst []))):=rfl
theorem ZX {wi:TI}{g:TG}{tt:TT}{tr:Addr->TR}{D:Addr}{σ:St}{H:Hp}{N:St->Hp->Prop}:YA wi g tt tr D σ H N=wi σ H (fun J H1=>CL J g tt (tr D) N σ H1):=rfl
theorem ZJ {te:TE}{D:Addr}{σ:St}{H:Hp}{N:St->Hp->Prop}:ww te D σ H N=te σ H (fun v H5=>∃ ys,H5 D=some (.lst ys)/\ys.length<sizeLine/\N σ (upd H5 D (.lst (ys ++ [v])))):=rfl
section
variable {P:Program}{w:World}{A:Around}{E:Value->Shared->Prop}{it l:Addr}{items:Array Value}
end
section
variable {X:Cx}{pos:Pos}
end
noncomputable def rep (o:Nat)(G:List Int):List Int:=(List.range (o * G.length)).map fun (i:Nat)=>((i / G.length * G.length:Nat):Int)+G.getD (i % G.length) 0
section
variable {P:Program}{w:World}{A:Around}{E:Value->Shared->Prop}{s:Shared}{z TI TO i1 i2 l1 l2:Addr}{k:Nat}{xs ys:Array Value}{x y a b:Value}{Q:Option Value->Shared->Prop}
theorem ZP (D:ZipApart z TI TO i1 i2 l1 l2)(hz:IsZip s.heap z TI TO .none)(hTI:IsPair s.heap TI (.ref i1) (.ref i2))(hTO:IsPair s.heap TO a b)(h1:s.heap.IsTupleIter i1 l1 k)(h2:s.heap.IsTupleIter i2 l2 k)(p1:s.heap.IsTuple l1 xs)(p2:s.heap.IsTuple l2 ys)(hx:xs[k]?=some x)(hy:ys[k]?=some y)
  (hQ:∀ h',IsZip h' z TI TO (rawInt s.heap.objs.size)->IsPair h' TO x y->h'.IsTupleIter i1 l1 (k+1)->h'.IsTupleIter i2 l2 (k+1)->IsPair h' s.heap.objs.size x y->h'.objs.size=s.heap.objs.size+1->(∀ c o,c ≠ z->c ≠ TO->c ≠ i1->c ≠ i2->s.heap.get? c=some o->h'.get? c=some o)->Q (some (.ref s.heap.objs.size)) { s with heap:=h' }) :
  wpAny (model P w) A (pyNext (.ref z)) Q E s:=by
 have hT:s.TypeIs (.ref z) "zip":=⟨_,hz,rfl⟩
 unfold pyNext
 refine wpAny_bind (wpAny_attempt (wpAny_callSpecial?_slot (name:=Str.ofString "__next__") hT F.slot_zip_next (wpAny_call_entry F.slot_zip_next hT F.entry_zip_next ?_ (F.args_zip_next_1 _))))
 refine wpAny_bind (m:=field (.ref z) 2) (wpAny_field hz rfl (x:=.bool false) rfl ?_)
 refine wpAny_bind (m:=field (.ref z) 3) (wpAny_field hz rfl (x:=.ref TI) rfl ?_)
 refine wpAny_bind (m:=seqItems? (.ref TI)) (wpAny_seqItems hTI rfl ?_)
 refine wpAny_bind (m:=Builtin.SmallTypes.ownedTupleIsFree (.ref z)) ?_
 unfold Builtin.SmallTypes.ownedTupleIsFree
 refine wpAny_bind (wpAny_field hz rfl (x:=.none) rfl (wpAny_pure ?_))
 refine wpAny_bind (m:=rule "zip.__next__.owned-tuple-again") (wpAny_rule ?_)
 refine wpAny_bind (m:=field (.ref z) 4) (wpAny_field hz rfl (x:=.ref TO) rfl ?_)
 refine wpAny_bind (m:=setField (.ref z) 0 .ellipsis) (wpAny_setField hz rfl (by simp) ?_)
 have sb1:=Heap.SameBut.update s.heap z (Obj.mapFields fun x_1=>x_1.setIfInBounds 0 Value.ellipsis)
 have g1:(s.heap.update z (Obj.mapFields fun x_1=>x_1.setIfInBounds 0 Value.ellipsis)).get? z=some { cls:=Value.type "zip",data:=Data.fields #[.ellipsis,Value.bool false,Value.bool false,Value.ref TI,Value.ref TO] }:=Heap.get?_update_self _ hz (Obj.isFreed_of_fields (Obj.data_mapFields rfl _))
 generalize s.heap.update z (Obj.mapFields fun x_1=>x_1.setIfInBounds 0 Value.ellipsis)=h1' at *
 refine wpAny_bind ?_
 rw [show (#[Value.ref i1,Value.ref i2].toList.zipIdx:List (Value × Nat))=[(.ref i1,0),(.ref i2,1)] from rfl,List.forIn_cons]
 dsimp only
 have it1:h1'.IsTupleIter i1 l1 k:=by obtain ⟨o,ho,r⟩:=h1;exact ⟨o,(sb1.2 i1 D.i1z).trans ho,r⟩
 have tp1:h1'.IsTuple l1 xs:=by obtain ⟨o,ho,r⟩:=p1;exact ⟨o,(sb1.2 l1 D.l1z).trans ho,r⟩
 refine wpAny_bind (wpAny_bind (wpAny_onRaise ?_))
 show wpAny _ _ (Builtin.SmallTypes.nextOf (.ref i1) >>= fun v=>pure (some v)) _ _ _
 refine wpAny_bind (qK it1 tp1 hx fun h2' it2 sb2=>wpAny_pure ?_)
 dsimp only
 have gTO2:IsPair h2' TO a b:=((sb2.2 TO D.TOi1).trans (sb1.2 TO D.TOz)).trans hTO
 refine wpAny_bind (wpAny_seqItems gTO2 rfl ?_)
 dsimp only
 refine wpAny_bind (wpAny_updateSeq_pair gTO2 fun h3' g3 sb3=>?_)
 refine wpAny_bind (wpAny_letGo (wpAny_pure ?_))
 dsimp only
 have g3':IsPair h3' TO x b:=g3
 have it3:h3'.IsTupleIter i2 l2 k:=by obtain ⟨o,ho,r⟩:=h2;exact ⟨o,(((sb3.2 i2 (Ne.symm D.TOi2)).trans (sb2.2 i2 (Ne.symm D.i12))).trans (sb1.2 i2 D.i2z)).trans ho,r⟩
 have tp3:h3'.IsTuple l2 ys:=by obtain ⟨o,ho,r⟩:=p2;exact ⟨o,(((sb3.2 l2 D.l2TO).trans (sb2.2 l2 D.l2i1)).trans (sb1.2 l2 D.l2z)).trans ho,r⟩
 rw [List.forIn_cons]
 refine wpAny_bind (wpAny_bind (wpAny_onRaise ?_))
 show wpAny _ _ (Builtin.SmallTypes.nextOf (.ref i2) >>= fun v=>pure (some v)) _ _ _
 refine wpAny_bind (qK it3 tp3 hy fun h4' it4 sb4=>wpAny_pure ?_)
 dsimp only
 have gTO4:IsPair h4' TO x b:=(sb4.2 TO D.TOi2).trans g3'
 refine wpAny_bind (wpAny_seqItems gTO4 rfl ?_)
 dsimp only
 refine wpAny_bind (wpAny_updateSeq_pair gTO4 fun h5' g5 sb5=>?_)
 refine wpAny_bind (wpAny_letGo (wpAny_pure ?_))
 dsimp only
 have g5':IsPair h5' TO x y:=g5
 rw [List.forIn_nil]
 refine wpAny_pure ?_
 dsimp only
 refine wpAny_bind (wpAny_seqItems g5' rfl ?_)
 dsimp only
 have sz5:h5'.objs.size=s.heap.objs.size:=((((sb5.1).trans sb4.1).trans sb3.1).trans sb2.1).trans sb1.1
 refine wpAny_bind (wpAny_newTuple ?_ (by show 2<=sizeLine;decide))
 have gz5:h5'.get? z=some { cls:=Value.type "zip",data:=Data.fields #[.ellipsis,Value.bool false,Value.bool false,Value.ref TI,Value.ref TO] }:=((((sb5.2 z (Ne.symm D.TOz)).trans (sb4.2 z (Ne.symm D.i2z))).trans (sb3.2 z (Ne.symm D.TOz))).trans (sb2.2 z (Ne.symm D.i1z))).trans g1
 have zlt:z<h5'.objs.size:=Heap.lt_size gz5
 have g6:(h5'.push { cls:=Value.type "tuple",data:=Data.seq #[x,y] }).get? z=_:=Heap.get?_push_of_some _ gz5
 have n6:(h5'.push { cls:=Value.type "tuple",data:=Data.seq #[x,y] }).get? h5'.objs.size=some { cls:=Value.type "tuple",data:=Data.seq #[x,y] }:=Heap.get?_push_size _ rfl
 have ex6:∀ c o,h5'.get? c=some o->(h5'.push { cls:=Value.type "tuple",data:=Data.seq #[x,y] }).get? c=some o:=fun c o e=>Heap.get?_push_of_some _ e
 have sz6:(h5'.push { cls:=Value.type "tuple",data:=Data.seq #[x,y] }).objs.size=h5'.objs.size+1:=Heap.size_push ..
 show wpAny _ _ (Builtin.SmallTypes.ownedTupleHandOut (.ref z) (.ref h5'.objs.size) >>= _) _ _ { s with heap:=h5'.push { cls:=Value.type "tuple",data:=Data.seq #[x,y] } }
 generalize h5'.push { cls:=Value.type "tuple",data:=Data.seq #[x,y] }=h6' at *
 unfold Builtin.SmallTypes.ownedTupleHandOut
 refine wpAny_bind (wpAny_bind (wpAny_setField g6 rfl (by simp) (wpAny_setField (Heap.get?_update_self _ g6 (Obj.isFreed_of_fields (Obj.data_mapFields rfl _))) rfl (by simp) ?_)))
 have sb7:=Heap.SameBut.update h6' z (Obj.mapFields fun x_1=>x_1.setIfInBounds 0 (rawInt h5'.objs.size))
 have g7:(h6'.update z (Obj.mapFields fun x_1=>x_1.setIfInBounds 0 (rawInt h5'.objs.size))).get? z=some { cls:=Value.type "zip",data:=Data.fields #[rawInt h5'.objs.size,Value.bool false,Value.bool false,Value.ref TI,Value.ref TO] }:=Heap.get?_update_self _ g6 (Obj.isFreed_of_fields (Obj.data_mapFields rfl _))
 dsimp only
 generalize h6'.update z (Obj.mapFields fun x_1=>x_1.setIfInBounds 0 (rawInt h5'.objs.size))=h7' at *
 have sb8:=Heap.SameBut.update h7' z (Obj.mapFields fun x_1=>x_1.setIfInBounds 1 (Value.bool false))
 have g8:(h7'.update z (Obj.mapFields fun x_1=>x_1.setIfInBounds 1 (Value.bool false))).get? z=some { cls:=Value.type "zip",data:=Data.fields #[rawInt h5'.objs.size,Value.bool false,Value.bool false,Value.ref TI,Value.ref TO] }:=Heap.get?_update_self _ g7 (Obj.isFreed_of_fields (Obj.data_mapFields rfl _))
 generalize h7'.update z (Obj.mapFields fun x_1=>x_1.setIfInBounds 1 (Value.bool false))=h8' at *
 have far:∀ c o,c ≠ z->h6'.get? c=some o->h8'.get? c=some o:=fun c o hc e=>((sb8.2 c hc).trans (sb7.2 c hc)).trans e
 refine wpAny_pure ⟨_,rfl,wpAny_pure ?_⟩
 rw [sz5] at g8 n6 sz6 zlt ⊢
 refine hQ h8' g8 (far _ _ D.TOz (ex6 _ _ g5')) ?_ ?_ (far _ _ (Nat.ne_of_gt zlt) n6) (by rw [sb8.1,sb7.1,sz6]) fun c o c1 c2 c3 c4 e=>?_
 ·obtain ⟨o,ho,r⟩:=it2
  exact ⟨o,far _ _ D.i1z (ex6 _ _ (((sb5.2 i1 (Ne.symm D.TOi1)).trans (sb4.2 i1 D.i12)).trans ((sb3.2 i1 (Ne.symm D.TOi1)).trans ho))),r⟩
 ·obtain ⟨o,ho,r⟩:=it4
  exact ⟨o,far _ _ D.i2z (ex6 _ _ ((sb5.2 i2 (Ne.symm D.TOi2)).trans ho)),r⟩
 ·exact far _ _ c1 (ex6 _ _ ((sb5.2 c c2).trans ((sb4.2 c c4).trans ((sb3.2 c c2).trans ((sb2.2 c c3).trans ((sb1.2 c c1).trans e))))))
theorem Q4 (hh:A.handled=none)(D:ZipApart z TI TO i1 i2 l1 l2)(hz:IsZip s.heap z TI TO .none)(hTI:IsPair s.heap TI (.ref i1) (.ref i2))(h1:s.heap.IsTupleIter i1 l1 k)(p1:s.heap.IsTuple l1 xs)(hx:xs[k]?=none)
  (hQ:∀ h',(∀ c o,c ≠ z->c ≠ TO->c ≠ i1->c ≠ i2->s.heap.get? c=some o->h'.get? c=some o)->Q none { s with heap:=h' }):wpAny (model P w) A (pyNext (.ref z)) Q E s:=by
 have hT:s.TypeIs (.ref z) "zip":=⟨_,hz,rfl⟩
 unfold pyNext
 refine wpAny_bind (wpAny_attempt (wpAny_callSpecial?_slot (name:=Str.ofString "__next__") hT F.slot_zip_next (wpAny_call_entry F.slot_zip_next hT F.entry_zip_next ?_ (F.args_zip_next_1 _))))
 refine wpAny_bind (m:=field (.ref z) 2) (wpAny_field hz rfl (x:=.bool false) rfl ?_)
 refine wpAny_bind (m:=field (.ref z) 3) (wpAny_field hz rfl (x:=.ref TI) rfl ?_)
 refine wpAny_bind (m:=seqItems? (.ref TI)) (wpAny_seqItems hTI rfl ?_)
 refine wpAny_bind (m:=Builtin.SmallTypes.ownedTupleIsFree (.ref z)) ?_
 unfold Builtin.SmallTypes.ownedTupleIsFree
 refine wpAny_bind (wpAny_field hz rfl (x:=.none) rfl (wpAny_pure ?_))
 refine wpAny_bind (m:=rule "zip.__next__.owned-tuple-again") (wpAny_rule ?_)
 refine wpAny_bind (m:=field (.ref z) 4) (wpAny_field hz rfl (x:=.ref TO) rfl ?_)
 refine wpAny_bind (m:=setField (.ref z) 0 .ellipsis) (wpAny_setField hz rfl (by simp) ?_)
 have sb1:=Heap.SameBut.update s.heap z (Obj.mapFields fun x_1=>x_1.setIfInBounds 0 Value.ellipsis)
 have g1:(s.heap.update z (Obj.mapFields fun x_1=>x_1.setIfInBounds 0 Value.ellipsis)).get? z=some { cls:=Value.type "zip",data:=Data.fields #[.ellipsis,Value.bool false,Value.bool false,Value.ref TI,Value.ref TO] }:=Heap.get?_update_self _ hz (Obj.isFreed_of_fields (Obj.data_mapFields rfl _))
 generalize s.heap.update z (Obj.mapFields fun x_1=>x_1.setIfInBounds 0 Value.ellipsis)=h1' at *
 refine wpAny_bind ?_
 rw [show (#[Value.ref i1,Value.ref i2].toList.zipIdx:List (Value × Nat))=[(.ref i1,0),(.ref i2,1)] from rfl,List.forIn_cons]
 dsimp only
 have it1:h1'.IsTupleIter i1 l1 k:=by obtain ⟨o,ho,r⟩:=h1;exact ⟨o,(sb1.2 i1 D.i1z).trans ho,r⟩
 have tp1:h1'.IsTuple l1 xs:=by obtain ⟨o,ho,r⟩:=p1;exact ⟨o,(sb1.2 l1 D.l1z).trans ho,r⟩
 refine wpAny_bind (wpAny_bind (wpAny_onRaise ?_))
 show wpAny _ _ (Builtin.SmallTypes.nextOf (.ref i1) >>= fun v=>pure (some v)) _ _ _
 refine wpAny_bind (qS (by first | exact hh | (show A.in1.handled=none;exact hh)) it1 tp1 hx fun h2' e ex2 ⟨oe,hoe,hce⟩=>?_)
 have gz2:h2'.get? z=some { cls:=Value.type "zip",data:=Data.fields #[.ellipsis,Value.bool false,Value.bool false,Value.ref TI,Value.ref TO] }:=ex2 z _ (Ne.symm D.i1z) g1
 have hez:e ≠ z:=by
  intro h
  subst h
  have hoe':h2'.get? e=some oe:=hoe
  rw [gz2] at hoe'
  cases hoe'
  exact absurd (show Value.type "zip"=Value.type "StopIteration" from hce) (by decide)
 refine wpAny_setField gz2 rfl (by simp) ?_
 have sb3:=Heap.SameBut.update h2' z (Obj.mapFields fun x_1=>x_1.setIfInBounds 0 Value.none)
 dsimp only
 generalize h2'.update z (Obj.mapFields fun x_1=>x_1.setIfInBounds 0 Value.none)=h3' at *
 refine wpAny_bind (wpAny_isInstance (T:="StopIteration") (b:=true) ⟨oe,(sb3.2 e hez).trans hoe,hce⟩ isSubtype_stop ?_)
 refine wpAny_pure (hQ h3' fun c o c1 c2 c3 c4 ec=>?_)
 exact (sb3.2 c c1).trans (ex2 c o c3 ((sb1.2 c c1).trans ec))
end
open AutoSeq1 (wpAny_loadPart') in
theorem Kn (l1 l2:Addr)(xs ys:Array Value)(n1 n2:Nat)(d1 d2:Option Addr)(s1 s2:Array (Option Value)) :
  Meets (Builtin.«zip.__new__» ⟨[.type "zip",.ref l1,.ref l2],[]⟩) (fun _ R s=>s.heap.get? l1=some { cls:=.type "tuple",dict:=d1,data:=.seq xs n1,slots:=s1 }/\s.heap.get? l2=some { cls:=.type "tuple",dict:=d2,data:=.seq ys n2,slots:=s2 } /\
   ∀ g1 g2 g3 g4 g5,g1=s.heap.push { cls:=.type "tuple_iterator",data:=.fields #[.ref l1,.int 0 0] }->g2=g1.push { cls:=.type "tuple_iterator",data:=.fields #[.ref l2,.int 0 0] }->g3=g2.push { cls:=.type "tuple",data:=.seq #[.ref s.heap.objs.size,.ref g1.objs.size] }->g4=g3.push { cls:=.type "tuple",data:=.seq #[.none,.none] }->g5=g4.push { cls:=.type "zip",data:=.fields #[.none,.bool false,.bool false,.ref g2.objs.size,.ref g3.objs.size] }->R (.ok (.ret (.ref g4.objs.size))) { s with heap:=g5 }):=
 .of_wp fun prog w A R s h=>by
  obtain ⟨hp,g,d,tk,os⟩:=s
  obtain ⟨hl1,hl2,h⟩:=h
  have hT1:Heap.IsTuple (Shared.heap ⟨hp,g,d,tk,os⟩) l1 xs:=⟨_,hl1,rfl,n1,rfl⟩
  have hT2:Heap.IsTuple (hp.push { cls:=.type "tuple_iterator",data:=.fields #[.ref l1,.int 0 0] }) l2 ys:=⟨_,Heap.get?_push_of_some _ hl2,rfl,n2,rfl⟩
  have hsub:isSubtype (Value.type "zip") (Value.type "zip")=pure true:=by first | exact sub_zip | rfl
  wp_walk using wpAny_loadPart' hl1,wpAny_pyIter_tuple hT1,wpAny_pyIter_tuple hT2
  exact ⟨_,rfl,h _ _ _ _ _ rfl rfl rfl rfl rfl⟩
theorem Zv {P:Program}{w:World}{A:Around}{E:Value->Shared->Prop}{s:Shared}{l1 l2:Addr}{xs ys:Array Value}{Q:Value->Shared->Prop}(hT1:s.heap.IsTuple l1 xs)(hT2:s.heap.IsTuple l2 ys)
  (h:∀ h',IsZip h' (s.heap.objs.size+4) (s.heap.objs.size+2) (s.heap.objs.size+3) .none->IsPair h' (s.heap.objs.size+2) (.ref s.heap.objs.size) (.ref (s.heap.objs.size+1))->IsPair h' (s.heap.objs.size+3) .none .none->h'.IsTupleIter s.heap.objs.size l1 0->h'.IsTupleIter (s.heap.objs.size+1) l2 0->(∀ b o,s.heap.get? b=some o->h'.get? b=some o)->Q (.ref (s.heap.objs.size+4)) { s with heap:=h' }) :
  wpAny (model P w) A (call (.type "zip") [.ref l1,.ref l2]) Q E s:=by
 obtain ⟨⟨c1,d1,dt1,sl1⟩,hl1,hc1,n1,hd1⟩:=hT1
 replace hc1:c1=.type "tuple":=hc1
 replace hd1:dt1=.seq xs n1:=hd1
 subst hc1 hd1
 obtain ⟨⟨c2,d2,dt2,sl2⟩,hl2,hc2,n2,hd2⟩:=hT2
 replace hc2:c2=.type "tuple":=hc2
 replace hd2:dt2=.seq ys n2:=hd2
 subst hc2 hd2
 refine callType_new F.called_zip (by decide) (F.typeCall_zip_2 _ _) (F.newCall_zip_2 _ _) (fun obj=>F.args_object_init_3 obj _ _) F.entry_zip_new (Kn l1 l2 xs ys n1 n2 d1 d2 sl1 sl2) ⟨hl1,hl2,?_⟩
 intro g1 g2 g3 g4 g5 e1 e2 e3 e4 e5
 have z1:g1.objs.size=s.heap.objs.size+1:=by rw [e1,Heap.size_push]
 have z2:g2.objs.size=s.heap.objs.size+2:=by rw [e2,Heap.size_push,z1]
 have z3:g3.objs.size=s.heap.objs.size+3:=by rw [e3,Heap.size_push,z2]
 have z4:g4.objs.size=s.heap.objs.size+4:=by rw [e4,Heap.size_push,z3]
 have k1:∀ b o,s.heap.get? b=some o->g1.get? b=some o:=fun b o x=>by rw [e1];exact Heap.get?_push_of_some _ x
 have k2:∀ b o,g1.get? b=some o->g2.get? b=some o:=fun b o x=>by rw [e2];exact Heap.get?_push_of_some _ x
 have k3:∀ b o,g2.get? b=some o->g3.get? b=some o:=fun b o x=>by rw [e3];exact Heap.get?_push_of_some _ x
 have k4:∀ b o,g3.get? b=some o->g4.get? b=some o:=fun b o x=>by rw [e4];exact Heap.get?_push_of_some _ x
 have k5:∀ b o,g4.get? b=some o->g5.get? b=some o:=fun b o x=>by rw [e5];exact Heap.get?_push_of_some _ x
 have p1:g1.get? s.heap.objs.size=some { cls:=.type "tuple_iterator",data:=.fields #[.ref l1,.int 0 0] }:=by rw [e1];exact Heap.get?_push_size _ rfl
 have p2:g2.get? (s.heap.objs.size+1)=some { cls:=.type "tuple_iterator",data:=.fields #[.ref l2,.int 0 0] }:=by
  have:=Heap.get?_push_size g1 (o:={ cls:=.type "tuple_iterator",data:=.fields #[.ref l2,.int 0 0] }) rfl
  rw [z1] at this;rw [e2];exact this
 have p3:g3.get? (s.heap.objs.size+2)=some { cls:=.type "tuple",data:=.seq #[.ref s.heap.objs.size,.ref (s.heap.objs.size+1)] }:=by
  have:=Heap.get?_push_size g2 (o:={ cls:=.type "tuple",data:=.seq #[.ref s.heap.objs.size,.ref g1.objs.size] }) rfl
  rw [z2] at this;rw [e3,this,z1]
 have p4:g4.get? (s.heap.objs.size+3)=some { cls:=.type "tuple",data:=.seq #[.none,.none] }:=by
  have:=Heap.get?_push_size g3 (o:={ cls:=.type "tuple",data:=.seq #[.none,.none] }) rfl
  rw [z3] at this;rw [e4,this]
 have p5:g5.get? (s.heap.objs.size+4)=some { cls:=.type "zip",data:=.fields #[.none,.bool false,.bool false,.ref (s.heap.objs.size+2),.ref (s.heap.objs.size+3)] }:=by
  have:=Heap.get?_push_size g4 (o:={ cls:=.type "zip",data:=.fields #[.none,.bool false,.bool false,.ref g2.objs.size,.ref g3.objs.size] }) rfl
  rw [z4] at this;rw [e5,this,z2,z3]
 show _/\_
 rw [z4]
 exact ⟨⟨_,p5,rfl⟩,h _ p5 (k5 _ _ (k4 _ _ p3)) (k5 _ _ p4) ⟨_,k5 _ _ (k4 _ _ (k3 _ _ (k2 _ _ p1))),rfl,rfl⟩ ⟨_,k5 _ _ (k4 _ _ (k3 _ _ p2)),rfl,rfl⟩ fun b o x=>k5 _ _ (k4 _ _ (k3 _ _ (k2 _ _ (k1 _ _ x))))⟩
noncomputable def Vs (K:PySem.W.Frag)(a b:Addr):It:=
 ⟨fun i H=>∃ xs ys x y,SqT K H a xs/\SqT K H b ys/\xs[i]?=some x/\ys[i]?=some y,fun i H z H'=>∃ p x y,H p=none/\z=.ref p/\(∀ xs,SqT K H a xs->xs[i]?=some x)/\(∀ ys,SqT K H b ys->ys[i]?=some y)/\H'=upd H p (.tup [x,y]),
  fun i H=>∃ xs,SqT K H a xs/\xs.length<=i⟩
theorem ZN {P:Program}{w:World}{K:PySem.W.Frag}{es:List Expr}{kt:Nat}{tp:Pos}(l1 l2 z TI TO i1 i2:Addr)(D:ZipApart z TI TO i1 i2 l1 l2) :
  yA P w K (.Tuple es kt tp) (Vs K l1 l2) [z,TI,TO,i1,i2] z (fun i h=>IsZip h z TI TO .none/\IsPair h TI (.ref i1) (.ref i2)/\(∃ a b,IsPair h TO a b)/\h.IsTupleIter i1 l1 i/\h.IsTupleIter i2 l2 i) where
 mem:=by simp
 obj:=fun i h st b hb=>by
  obtain ⟨hz,hTI,⟨a,c,hTO⟩,⟨o1,e1,c1,d1⟩,⟨o2,e2,c2,d2⟩⟩:=st
  simp only [List.mem_cons,List.not_mem_nil,or_false] at hb
  rcases hb with rfl | rfl | rfl | rfl | rfl
  ·exact ⟨_,hz,fun v q=>by have q':Data.fields _=Data.cell v:=q;cases q'⟩
  ·exact ⟨_,hTI,fun v q=>by have q':Data.seq _ _=Data.cell v:=q;cases q'⟩
  ·exact ⟨_,hTO,fun v q=>by have q':Data.seq _ _=Data.cell v:=q;cases q'⟩
  ·exact ⟨o1,e1,fun v q=>by rw [d1] at q;cases q⟩
  ·exact ⟨o2,e2,fun v q=>by rw [d2] at q;cases q⟩
 keep:=fun i h h' st k=>by
  obtain ⟨hz,hTI,⟨a,c,hTO⟩,h1,h2⟩:=st
  exact ⟨k _ (by simp) _ hz,k _ (by simp) _ hTI,⟨a,c,k _ (by simp) _ hTO⟩,h1.at fun o e=>k _ (by simp) o e,h2.at fun o e=>k _ (by simp) o e⟩
 item:=by
  intro X hP hw hK hc i pins s σ H E I hf st hg
  subst hP hw hK
  obtain ⟨hz,hTI,⟨a,c,hTO⟩,h1,h2⟩:=st
  obtain ⟨xs,ys,x,y,hq1,hq2,hx,hy⟩:=hg
  obtain ⟨its1,rv1,p1,hz1⟩:=I.tuple hq1
  obtain ⟨its2,rv2,p2,hz2⟩:=I.tuple hq2
  obtain ⟨u,hu,ru⟩:=rv1.get hx
  obtain ⟨v,hv,rvv⟩:=rv2.get hy
  refine ZP D hz hTI hTO h1 h2 p1 p2 (x:=u) (y:=v) (by simpa using hu) (by simpa using hv) fun g1 b1 b2 b3 b4 b5 b6 hk=>?_
  refine ⟨.ref s.heap.objs.size,rfl,wpAny_letOwnedTupleGo_zip b1 fun g2 hz2' hs2=>?_⟩
  replace hs2:Heap.SameBut z g1 g2:=hs2
  have zlt:z<s.heap.objs.size:=Heap.lt_size hz
  have I2:Inv X pins σ (upd H s.heap.objs.size (.tup [x,y])) { s with heap:=g2,toks:=s.toks }:=by
   refine I.yieldTup (us:=[u,v]) hf (fun b o hb e=>?_) (Nat.le_refl _) ((hs2.2 _ (Nat.ne_of_gt zlt)).trans b5) (.cons ru (.cons rvv .nil)) (by show 2<=sizeLine;decide)
   simp only [List.mem_cons,List.not_mem_nil,or_false,not_or] at hb
   exact (hs2.2 b hb.1).trans (hk b o hb.1 hb.2.2.1 hb.2.2.2.1 hb.2.2.2.2 e)
  refine ⟨.ref s.heap.objs.size,_,I2,rfl,⟨s.heap.objs.size,x,y,I.hok.fresh (Nat.le_refl _),rfl,fun xs' h'=>by rw [I.tuple_inj h' hq1];exact hx,fun ys' h'=>by rw [I.tuple_inj h' hq2];exact hy,rfl⟩,
   ⟨hz2',(hs2.2 _ D.TIz).trans (hk _ _ D.TIz D.TITO D.TIi1 D.TIi2 hTI),⟨_,_,(hs2.2 _ D.TOz).trans b2⟩,b3.extBut hs2.extBut D.i1z,b4.extBut hs2.extBut D.i2z⟩,fun b hb=>?_⟩
  have hlt:b<s.heap.objs.size:=by
   simp only [List.mem_cons,List.not_mem_nil,or_false] at hb
   rcases hb with rfl | rfl | rfl | rfl | rfl
   ·exact zlt
   ·exact Heap.lt_size hTI
   ·exact Heap.lt_size hTO
   ·obtain ⟨o,e,_⟩:=h1;exact Heap.lt_size e
   ·obtain ⟨o,e,_⟩:=h2;exact Heap.lt_size e
  rw [zf (Nat.ne_of_lt hlt)]
  exact (hf b hb).1
 done:=by
  intro X hP hw hK hc i pins s σ H E I hf st hg
  subst hP hw hK
  obtain ⟨hz,hTI,⟨a,c,hTO⟩,h1,h2⟩:=st
  obtain ⟨xs,hq1,hend⟩:=hg
  obtain ⟨its1,rv1,p1,hz1⟩:=I.tuple hq1
  have l1:=rv1.length
  refine Q4 (I.ok.hd hc) D hz hTI h1 p1 (by simp;omega) fun h' hk=>⟨rfl,I.turnedL (tk:=s.toks) hf fun b o hb e=>?_⟩
  simp only [List.mem_cons,List.not_mem_nil,or_false,not_or] at hb
  exact hk b o hb.1 hb.2.2.1 hb.2.2.2.1 hb.2.2.2.2 e
 self:=fun _ _ _ _ _ st h=>wpAny_pyIter_zip st.1 h
section
variable {X:Cx}{es:List Expr}{kt:Nat}{tp:Pos}
noncomputable def wm (K:PySem.W.Frag)(ta:TA):TI:=fun σ H R=>ta σ H fun vs H1=>∃ a b,vs=[.ref a,.ref b]/\(((∃ xs,SqL K H1 a xs)/\(∃ ys,SqL K H1 b ys)/\R (Itz K a b) H1) \/ ((∃ xs,SqT K H1 a xs)/\(∃ ys,SqT K H1 b ys)/\R (Vs K a b) H1))
theorem Jn {e1 e2:Expr}{ta:TA}{p pos:Pos}(hg:Gl X "zip")(hm:X.mg "zip"=none)(ha:PA X [e1,e2] ta)(hs:starEach [e1,e2] X.env=[(false,eval e1 X.env),(false,eval e2 X.env)]:=by rfl)(hs2:starEach [e2] X.env=[(false,eval e2 X.env)]:=by rfl) :
  PI X (.Tuple es kt tp) (.Call (.Name "zip" p) [e1,e2] [] pos) (wm X.K ta):=by
 intro pins s σ H R I h
 refine Call_ (qY I hg hm Z2 (PyProof.Rows.callWith_type1 (thn (ha pos pins s σ H _ I h) fun us s1 ⟨vs,H1,I1,r1,q1⟩=>?_) (by rw [hs,hs2]) (by rw [hs2];rfl)))
 obtain ⟨a,b,e,q1⟩:=q1
 subst e
 obtain ⟨u,v,rfl,ru,rv⟩:=yF r1
 cases ru
 cases rv
 rcases q1 with ⟨⟨xs,hq1⟩,⟨ys,hq2⟩,q⟩ | ⟨⟨xs,hq1⟩,⟨ys,hq2⟩,q⟩
 ·obtain ⟨its1,rv1,p1,hz1⟩:=I1.list hq1
  obtain ⟨its2,rv2,p2,hz2⟩:=I1.list hq2
  have la:a<s1.heap.objs.size:=by obtain ⟨o,e,_⟩:=p1.isList;exact Heap.lt_size e
  have lb:b<s1.heap.objs.size:=by obtain ⟨o,e,_⟩:=p2.isList;exact Heap.lt_size e
  refine call_zip_2 p1.isList p2.isList fun h' b1 b2 b3 b4 b5 hsz hk=>wpAny_pyIter_zip b1 ?_
  have I2:Inv X pins σ H1 { s1 with heap:=h' }:=I1.kept (t':=s1.toks) hk
  refine ⟨s1.heap.objs.size+4,[s1.heap.objs.size+4,s1.heap.objs.size+2,s1.heap.objs.size+3,s1.heap.objs.size,s1.heap.objs.size+1],_,_,H1,rfl,I2,Jh a b _ _ _ _ _ (zipApart_new la lb),⟨b1,b2,⟨_,_,b3⟩,b4,b5⟩,fun c hb=>?_,q⟩
  have hb':s1.heap.objs.size<=c:=by
   simp only [List.mem_cons,List.not_mem_nil,or_false] at hb
   rcases hb with rfl | rfl | rfl | rfl | rfl <;> first | exact Nat.le_refl _ | exact Nat.le_add_right _ _
  exact I1.fpOk hb' (I1.hok.fresh hb')
 ·obtain ⟨its1,rv1,p1,hz1⟩:=I1.tuple hq1
  obtain ⟨its2,rv2,p2,hz2⟩:=I1.tuple hq2
  have la:a<s1.heap.objs.size:=by obtain ⟨o,e,_⟩:=p1;exact Heap.lt_size e
  have lb:b<s1.heap.objs.size:=by obtain ⟨o,e,_⟩:=p2;exact Heap.lt_size e
  refine Zv p1 p2 fun h' b1 b2 b3 b4 b5 hk=>wpAny_pyIter_zip b1 ?_
  have I2:Inv X pins σ H1 { s1 with heap:=h' }:=I1.kept (t':=s1.toks) hk
  refine ⟨s1.heap.objs.size+4,[s1.heap.objs.size+4,s1.heap.objs.size+2,s1.heap.objs.size+3,s1.heap.objs.size,s1.heap.objs.size+1],_,_,H1,rfl,I2,ZN a b _ _ _ _ _ (zipApart_new la lb),⟨b1,b2,⟨_,_,b3⟩,b4,b5⟩,fun c hb=>?_,q⟩
  have hb':s1.heap.objs.size<=c:=by
   simp only [List.mem_cons,List.not_mem_nil,or_false] at hb
   rcases hb with rfl | rfl | rfl | rfl | rfl <;> first | exact Nat.le_refl _ | exact Nat.le_add_right _ _
  exact I1.fpOk hb' (I1.hok.fresh hb')
end
noncomputable def slV (xs:List V)(lo hi st:Option Int):List V:=(sliceRange (sliceBounds lo hi st xs.length).1 (sliceBounds lo hi st xs.length).2.1 (sliceBounds lo hi st xs.length).2.2).filterMap fun k=>xs[k]?
theorem xu {xs:List V}{us:List Value}(r:zl xs us):∀ ks:List Nat,zl (ks.filterMap fun k=>xs[k]?) (ks.filterMap fun k=>us[k]?)
 | []=>.nil
 | k :: ks=>by
  have ih:=xu r ks
  have hl:=r.length
  by_cases h:k<xs.length
  ·have e1:xs[k]?=some xs[k]:=List.getElem?_eq_getElem h
   obtain ⟨u,hu,ru⟩:=r.get e1
   rw [List.filterMap_cons_some e1,List.filterMap_cons_some hu]
   exact .cons ru ih
  ·have e1:xs[k]?=none:=List.getElem?_eq_none (by omega)
   have e2:us[k]?=none:=List.getElem?_eq_none (by omega)
   rw [List.filterMap_cons_none e1,List.filterMap_cons_none e2]
   exact ih
section
variable {X:Cx}{e st:Expr}{te:TE}{lo hi:Option Expr}{tl th ts:TO}{p2 pos:Pos}
end
section
variable {X:Cx}
variable {o e:Expr}{es:List Expr}{to:TE}{t:TA}{name:Str}{apos cpos:Pos}{T id:String}{r:V->List V->Hp->VK->Prop}{K:PySem.W.Frag}
end
section
variable {X:Cx}{tg:Expr}
end
inductive Dd where
 | take (p:Nat) | move (p g:Nat) | lay (g:Nat)
noncomputable abbrev RS:=List (Option Int) × Option Int × List Int
noncomputable def inc (mv:List Int)(x:Int):List Int:=mv.set x.toNat (mv.getD x.toNat 0+1)
inductive Do:Dd->RS->RS->Prop
 | take {p:Nat} {row:List (Option Int)} {mv:List Int} {x:Int}:row[p]?=some (some x)->Do (.take p) (row,none,mv) (row.set p none,some x,inc mv x)
 | move {p g:Nat} {row:List (Option Int)} {h:Option Int} {mv:List Int} {x:Int}:row[p]?=some (some x)->row[g]?=some none->Do (.move p g) (row,h,mv) ((row.set p none).set g (some x),h,inc mv x)
 | lay {g:Nat} {row:List (Option Int)} {mv:List Int} {x:Int}:row[g]?=some none->Do (.lay g) (row,some x,mv) (row.set g (some x),none,inc mv x)
inductive Dos:List Dd->RS->RS->Prop
 | nil {s:RS}:Dos [] s s
 | cons {d:Dd} {l:List Dd} {s t u:RS}:Do d s t->Dos l t u->Dos (d :: l) s u
section
variable {X:Cx}{K:PySem.W.Frag}
end
section
variable {X:Cx}
end
section
variable {X:Cx}
end
theorem jX {prog:Program}{w:World}{A:Around}{E:Value->Shared->Prop}{s:Shared}{sl:Addr}{vl vu vs:Value}{n:Nat}{Q:Int × Int × Nat->Shared->Prop}(hs:s.heap.IsSliceOf sl vl vu vs)(pl:IsPart vl none)(pu:IsPart vu none)(ps:IsPart vs (some (-1)))
  (h:Q ((n:Int) - 1,-1,n) s):wpAny (model prog w) A (Builtin.Slice.sliceApplied (.ref sl) (pure (n:Int))) Q E s:=by
 obtain ⟨os,hos,hcs,hds⟩:=id hs
 unfold Builtin.Slice.sliceApplied Builtin.Slice.sliceFields
 refine wpAny_bind (wpAny_bind (wpAny_field hos hds (x:=vl) rfl (wpAny_bind (wpAny_field hos hds (x:=vu) rfl (wpAny_bind (wpAny_field hos hds (x:=vs) rfl (wpAny_pure ?_)))))))
 refine wpAny_bind (HT.slicePart_ ps ?_)
 show wpAny _ _ (if ((-1:Int) == 0)=true then _ else _) _ _ s
 rw [if_neg (by decide)]
 refine wpAny_bind (HT.slicePart_ pl (wpAny_bind (HT.slicePart_ pu (wpAny_bind (wpAny_pure ?_)))))
 show wpAny _ _ (pure ((n:Int) - 1,(-1:Int),Builtin.Slice.slicePlaces ((n:Int) - 1) (-1) (-1))) _ _ s
 have e:Builtin.Slice.slicePlaces ((n:Int) - 1) (-1) (-1)=n:=by
  unfold Builtin.Slice.slicePlaces
  rw [if_neg (by decide)]
  split
  ·rw [show - -(1:Int)=1 from rfl,Int.ediv_one];omega
  ·omega
 rw [e]
 exact wpAny_pure h
theorem JJ (xs:List Value):((List.range xs.length).filterMap fun (m:Nat)=>xs.toArray[(((xs.length:Int) - 1)+(m:Int) * -1).toNat]?)=xs.reverse:=by
 have go:∀ (ks:List Nat),(∀ k ∈ ks,k<xs.length)->(ks.filterMap fun (m:Nat)=>xs.toArray[(((xs.length:Int) - 1)+(m:Int) * -1).toNat]?)=ks.map fun k=>xs.reverse.getD k .none:=by
  intro ks
  induction ks with
  | nil=>intro _;rfl
  | cons k ks ih=>
   intro hk
   have h0:=hk k (by simp)
   have e1:(((xs.length:Int) - 1)+(k:Int) * -1).toNat=xs.length - 1 - k:=by omega
   have e2:xs.toArray[(((xs.length:Int) - 1)+(k:Int) * -1).toNat]?=some (xs.reverse.getD k .none):=by
    rw [e1,List.getElem?_toArray,List.getD_eq_getElem?_getD,List.getElem?_reverse h0,List.getElem?_eq_getElem (by omega)];rfl
   rw [List.filterMap_cons_some (f:=fun (m:Nat)=>xs.toArray[(((xs.length:Int) - 1)+(m:Int) * -1).toNat]?) e2,ih fun j hj=>hk j (by simp [hj])];rfl
 rw [go _ fun k hk=>by simpa using hk]
 refine List.ext_getElem? fun i=>?_
 rw [List.getElem?_map]
 by_cases h:i<xs.length
 ·rw [List.getElem?_range h,List.getElem?_eq_getElem (by rw [List.length_reverse];exact h)]
  show some (xs.reverse.getD i .none)=_
  rw [List.getD_eq_getElem?_getD,List.getElem?_eq_getElem (by rw [List.length_reverse];exact h)];rfl
 ·rw [List.getElem?_eq_none (by rw [List.length_range];omega),List.getElem?_eq_none (by rw [List.length_reverse];omega)];rfl
theorem jF {prog:Program}{w:World}{A:Around}{E:Value->Shared->Prop}{s:Shared}{t sl:Addr}{xs:List Value}{vl vu vs:Value}{Q:Value->Shared->Prop}(ht:IsTup s.heap t xs.toArray)(hs:s.heap.IsSliceOf sl vl vu vs)(pl:IsPart vl none)(pu:IsPart vu none)(ps:IsPart vs (some (-1)))
  (h:Q (.ref s.heap.objs.size) { s with heap:=s.heap.push { cls:=.type "tuple",data:=.seq xs.reverse.toArray } })
  (hsz:xs.length<=sizeLine):wpAny (model prog w) A (getItem (.ref t) (.ref sl)) Q E s:=by
 have htake:sizeOk (.seq xs.reverse.toArray):=by
  show xs.reverse.toArray.size<=sizeLine
  rw [List.size_toArray,List.length_reverse];exact hsz
 obtain ⟨os,hos,hcs,hds⟩:=id hs
 have hTs:s.TypeIs (.ref sl) "slice":=⟨os,hos,hcs⟩
 unfold getItem
 try with_reducible refine wpAny_holding ?_
 first | refine wpAny_bind (wpAny_pure ?_) | skip
 refine wpAny_bind (wpAny_sequenceKey ht.typeIs (by decide) ?_)
 refine wpAny_bind (wpAny_callSpecial?_slot (name:=Str.ofString "__getitem__") ht.typeIs PyProof.Rows.slot_tuple_getitem
  (wpAny_call_entry PyProof.Rows.slot_tuple_getitem ht.typeIs PyProof.Rows.entry_tuple_getitem ?_ (PyProof.Rows.args_tuple_getitem _ _)))
 show wpAny _ _ (Builtin.Tuple.tupleItemsOf (.ref t) >>= _) _ _ s
 refine wpAny_bind (tupleItemsOf_ ht ?_)
 refine wpAny_bind (wpAny_typeOf hTs ?_)
 rw [if_pos (by decide)]
 refine wpAny_bind (jX hs pl pu ps ?_)
 have hno:¬ ((((xs.toArray.size:Int) - 1) == 0 && (-1:Int) == 1 && xs.toArray.size == xs.toArray.size)=true):=by
  intro q
  rw [Bool.and_eq_true,Bool.and_eq_true] at q
  exact absurd q.1.2 (by decide)
 show wpAny _ _ (if (((xs.toArray.size:Int) - 1) == 0 && (-1:Int) == 1 && xs.toArray.size == xs.toArray.size)=true then _ else _) _ _ s
 have ep:=JJ xs
 rw [if_neg hno]
 rw [List.size_toArray]
 rw [ep]
 first
  | exact wpAny_bind (m:=Builtin.Tuple.tupleExact _) (wpAny_newObj_type (wpAny_pure ⟨_,rfl,wpAny_pure h⟩) htake)
  | exact wpAny_bind (m:=Builtin.Tuple.tupleExact _) (wpAny_newObj_type (wpAny_bind (wpAny_pure (wpAny_pure ⟨_,rfl,wpAny_pure h⟩))) htake)
  | exact wpAny_bind (wpAny_bind (m:=Builtin.Tuple.tupleExact _) (wpAny_newObj_type (wpAny_pure (wpAny_pure ⟨_,rfl,wpAny_pure h⟩)) htake))
  | exact wpAny_bind (wpAny_bind (m:=Builtin.Tuple.tupleExact _) (wpAny_newObj_type (wpAny_pure ⟨_,rfl,wpAny_pure h⟩) htake))
theorem KS (xs:List V):slV xs none none (some (-1))=xs.reverse:=by
 have hb:sliceBounds none none (some (-1)) xs.length=((xs.length:Int) - 1,-1,-1):=rfl
 unfold slV
 rw [hb]
 have key:sliceRange ((xs.length:Int) - 1) (-1) (-1)=(List.range xs.length).map fun k=>xs.length - 1 - k:=by
  unfold sliceRange
  dsimp only
  rw [if_neg (by decide)]
  have hc:((if (xs.length:Int) - 1 > -1 then ((xs.length:Int) - 1 - -1 - -1 - 1) / - -1 else 0).toNat)=xs.length:=by
   split
   ·rw [show - -(1:Int)=1 from rfl,Int.ediv_one];omega
   ·omega
  rw [hc]
  refine List.map_congr_left fun k hk=>?_
  have:k<xs.length:=by simpa using hk
  omega
 show List.filterMap (fun k=>xs[k]?) (sliceRange ((xs.length:Int) - 1) (-1) (-1))=_
 rw [key,List.filterMap_map]
 have go:∀ (ks:List Nat),(∀ k ∈ ks,k<xs.length)->List.filterMap ((fun k=>xs[k]?) ∘ fun k=>xs.length - 1 - k) ks=ks.map fun k=>xs.reverse.getD k .non:=by
  intro ks
  induction ks with
  | nil=>intro _;rfl
  | cons k ks ih=>
   intro hk
   have h0:=hk k (by simp)
   have e2:((fun k=>xs[k]?) ∘ fun k=>xs.length - 1 - k) k=some (xs.reverse.getD k .non):=by
    show xs[xs.length - 1 - k]?=_
    rw [List.getD_eq_getElem?_getD,List.getElem?_reverse h0,List.getElem?_eq_getElem (by omega)];rfl
   rw [List.filterMap_cons_some e2,ih fun j hj=>hk j (by simp [hj])];rfl
 rw [go _ fun k hk=>by simpa using hk]
 refine List.ext_getElem? fun i=>?_
 rw [List.getElem?_map]
 by_cases h:i<xs.length
 ·rw [List.getElem?_range h,List.getElem?_eq_getElem (by rw [List.length_reverse];exact h)]
  show some (xs.reverse.getD i .non)=_
  rw [List.getD_eq_getElem?_getD,List.getElem?_eq_getElem (by rw [List.length_reverse];exact h)];rfl
 ·rw [List.getElem?_eq_none (by rw [List.length_range];omega),List.getElem?_eq_none (by rw [List.length_reverse];omega)];rfl
theorem zl.rev {xs:List V}{us:List Value}(r:zl xs us):zl xs.reverse us.reverse:=by
 induction r with
 | nil=>exact .nil
 | cons h _ ih=>rw [List.reverse_cons,List.reverse_cons];exact ih.append (.cons h .nil)
noncomputable def KU (K:PySem.W.Frag):V->Hp->VK->Prop:=fun x H Q=>∃ a xs,x=.ref a/\((SqL K H a xs/\∀ p,H p=none->Q (.ref p) (upd H p (.lst xs.reverse))) \/ (SqT K H a xs/\∀ p,H p=none->Q (.ref p) (upd H p (.tup xs.reverse))))
noncomputable def Wj (K:PySem.W.Frag)(te:TE)(ts:TO):TE:=fun σ H Q=>te σ H fun x H1=>ts σ H1 fun z H2=>z=some (-1)/\KU K x H2 Q
section
variable {X:Cx}{e st:Expr}{te:TE}{ts:TO}{p2 pos:Pos}
theorem ZW (he:PE X e te)(hst:PO X (some st) ts):PE X (.Subscript e (.Slice none none (some st) p2) pos) (Wj X.K te ts):=by
 intro pins s σ H Q I h
 refine Subscript_ (thn (he pins s σ H _ I h) fun v s1 ⟨x,H1,I1,r1,q1⟩=>?_)
 refine wpAny_Slice (thn (kh pins s1 σ H1 (fun z H2=>z=none/\ts σ H2 fun z H2=>z=some (-1)/\KU X.K x H2 Q) I1 ⟨rfl,q1⟩) fun vl s2 ⟨l,H2,I2,pl,e1,q2⟩=>thn (kh pins s2 σ H2 (fun z H3=>z=none/\ts σ H3 fun z H2=>z=some (-1)/\KU X.K x H2 Q) I2 ⟨rfl,q2⟩) fun vu s3 ⟨u,H3,I3,pu,e2,q3⟩=>thn (hst pins s3 σ H3 _ I3 q3) fun vs s4 ⟨z,H4,I4,pz,e3,q4⟩=>?_)
 subst e1 e2 e3
 have I5:Inv X pins σ H4 { s4 with heap:=s4.heap.push { cls:=.type "slice",data:=.fields #[vl,vu,vs] } }:=I4.kept (t':=s4.toks) fun b ob q=>Heap.get?_push_of_some _ q
 obtain ⟨a,xs,rfl,q⟩:=q4
 cases r1
 rcases q with ⟨hx,q⟩ | ⟨hx,q⟩
 ·obtain ⟨its,r,ht,hz⟩:=I5.list hx
  have hlen:=r.length
  show wpAny (model X.prog X.w) X.A (subscriptTail e (.Slice none none (some st) p2) (.ref a) (.ref s4.heap.objs.size)) (EP X pins σ Q) X.xe { s4 with heap:=s4.heap.push { cls:=.type "slice",data:=.fields #[vl,vu,vs] } }
  refine tail_any (ops:=[.ref a,.ref s4.heap.objs.size]) ht.isList.typeIs slot_list_getitem.lookup ?_ rfl
  refine wpAny_getItem_list_slice ht.isList (Heap.IsSliceOf.new ..) pl pu pz (by decide) ?_ (by rw [List.size_toArray];omega)
  have e1:slicePick its.toArray none none (some (-1))=(List.filterMap (fun x=>its[x]?) (sliceRange (sliceBounds none none (some (-1)) xs.length).1 (sliceBounds none none (some (-1)) xs.length).2.1 (sliceBounds none none (some (-1)) xs.length).2.2)).toArray:=by
   unfold slicePick
   rw [List.size_toArray,<- hlen]
   simp only [List.getElem?_toArray]
  rw [e1]
  have rr:=xu r (sliceRange (sliceBounds none none (some (-1)) xs.length).1 (sliceBounds none none (some (-1)) xs.length).2.1 (sliceBounds none none (some (-1)) xs.length).2.2)
  have er:(List.filterMap (fun k=>xs[k]?) (sliceRange (sliceBounds none none (some (-1)) xs.length).1 (sliceBounds none none (some (-1)) xs.length).2.1 (sliceBounds none none (some (-1)) xs.length).2.2))=xs.reverse:=KS xs
  rw [er] at rr
  refine ⟨.ref _,_,I5.laid (t':=s4.toks) (o:=.lst xs.reverse) (fun b ob q=>Heap.get?_push_of_some _ q) (Nat.le_refl _) ?_,rfl,q _ (I5.hok.fresh (Nat.le_refl _))⟩
  refine ⟨?_,_,0,rr,Heap.get?_push_size _ rfl⟩
  rw [List.length_reverse];exact hz
 ·obtain ⟨its,r,ht,hz⟩:=I5.tuple hx
  show wpAny (model X.prog X.w) X.A (subscriptTail e (.Slice none none (some st) p2) (.ref a) (.ref s4.heap.objs.size)) (EP X pins σ Q) X.xe { s4 with heap:=s4.heap.push { cls:=.type "slice",data:=.fields #[vl,vu,vs] } }
  refine tail_any (ops:=[.ref a,.ref s4.heap.objs.size]) ht.typeIs PyProof.Rows.slot_tuple_getitem.lookup ?_ rfl
  refine jF ht (Heap.IsSliceOf.new ..) pl pu pz ?_ (by rw [<- r.length];exact hz)
  refine ⟨.ref _,_,I5.laid (t':=s4.toks) (o:=.tup xs.reverse) (fun b ob q=>Heap.get?_push_of_some _ q) (Nat.le_refl _) ?_,rfl,q _ (I5.hok.fresh (Nat.le_refl _))⟩
  exact ⟨by rw [List.length_reverse];exact hz,_,zl.rev r,xK.new _ _⟩
end
section
variable {X:Cx}
end
noncomputable def AtM (K:PySem.W.Frag)(C:Addr)(m qual:Str)(st:Stmt):Prop:=∃ f fd,Fun K m qual st f fd/\Ai K C m f
section
variable {X:Cx}{k:Nat}{C:Addr}{m x:Str}{ps:List Str}{sp:Sp}{p pos apos:Pos}{o e:Expr}{es:List Expr}{t:TA}{to:TE}
end
structure KD (K:PySem.W.Frag)(w:World)(a:Addr)(kvs:List (Key × V)):Prop where
 ex:∃ es ep,K.lookup a=some ⟨.type "dict",none,.dict es ep,#[]⟩/\∀ P:Program,PySem.KeysOf (kj P w) es/\∃ vs,KV kvs vs/\Pairs (kj P w) es.toList vs/\(vs.map (·.1)).Nodup
 ns:(a == sysModules)=false
section
variable {X:Cx}{e:Expr}{ty:TE}{p apos cpos:Pos}{x:Str}{a:Addr}{kvs:List (Key × V)}
end
section
variable {X:Cx}
end
theorem W6 {K:PySem.W.Frag}{C f:Addr}{m qual:Str}{st:Stmt}{oc kV dc pm cd ct:Value}{od an:Option Addr}{sl:Array (Option Value)}(a1:PySem.W.findIn K (.ref C) m=some (some (.ref f)))(i1:PySem.W.isFn K (.ref f)=true)
  (l1:K.lookup f=some ⟨oc,od,.func (PySem.W.fnOf m qual (qe st) (zG st) (zg st) .none kV dc pm an cd ct),sl⟩) (c1:PySem.W.codeIn K cd qual=true) (k1:PySem.W.keepIn K (.ref f)=true):AtM K C m qual st:=⟨f,_,Qt l1 c1 k1,⟨a1,i1,k1⟩⟩
section
variable {X:Cx}
noncomputable def wn:V->List V->Hp->VK->Prop:=fun x vs H Q=>∃ l xs v,x=.ref l/\vs=[v]/\H l=some (.lst xs)/\xs.all jv=true/\jv v=true/\Q (.int ((xs.countP fun y=>eqV y v:Nat))) H
theorem xj {x:V}:∀ {xs:List V} {us:List Value},zl xs us->xs.all jv=true->us.countP (eqU x)=xs.countP fun y=>eqV y x
 | _,_,.nil,_=>rfl
 | y :: xs,u :: us,.cons r t,f=>by
  rw [List.all_cons,Bool.and_eq_true] at f
  rw [List.countP_cons,List.countP_cons,xj t f.2,QA r f.1]
theorem Kj:MtR X "list.count" wn:=by
 intro pins s σ H x vs v us Q I rx rv h
 obtain ⟨l,xs,i,rfl,rfl,hH,hf,hi,q⟩:=h
 cases rx
 obtain ⟨u,rfl,ru⟩:=rv.one
 obtain ⟨z,its,n,r,hl,e⟩:=I.lstM hH
 refine call_meets F.slot_list_count ⟨_,e,rfl⟩ F.entry_list_count (F.args_list_count_2 _ _) (SeqAt.list_countAt l its.toArray n none _ u (eqU i)) ⟨e,?_,?_⟩
 ·intro y hy
  exact vc ru hi r hf y (by simpa using hy)
 ·refine ⟨.int ((xs.countP fun y=>eqV y i:Nat)),H,I.kept (t':=s.toks+1) fun b o e=>e,⟨s.toks,?_⟩,q⟩
  show Value.int ((its.countP (eqU i):Nat):Int) s.toks=_
  rw [xj r hf]
end
structure ScG (X:Cx)(ts:List Nat)(scope:Scope):Prop where
 kind:scope.kind=.function
 cell:∀ y ∈ scope.names,y.2=.cell->scope.names.lookup y.1=some .cell
 loc:∀ y ∈ scope.names,y.2=.local->scope.names.lookup y.1=some .local
 free:∀ y ∈ scope.names,y.2=.free->X.env.kindOf y.1=some .cell \/ X.env.kindOf y.1=some .free
 ts:∀ (i:Nat) x,X.N[i]?=some x->scope.names.lookup x=some .local \/ scope.names.lookup x=some .cell->i ∈ ts
section
variable {X:Cx}{ts:List Nat}{scope:Scope}{pins:List (Addr × Obj)}{σ:St}{H:Hp}{s:Shared}{fp:List Addr}
end
section
variable {X:Cx}{ts:List Nat}{scope:Scope}{tg iter elt:Expr}{ifs:List Expr}{wi:TI}{g:TG}{tt:TT}{te:TE}{pos:Pos}
end
section
variable {X:Cx}
end
inductive Dat where
 | non | bl (b:Bool) | int (i:Int) | str (x:Str) | ty (n:String) | lst (l:List Dat) | tup (l:List Dat) | rng (lo hi c:Int) | scr (K:PySem.W.Frag) (l:List Int)
inductive AV where
 | d (x:Dat) | ref (a:Addr)
inductive MO where
 | lst (l:List AV) | dK (kvs:List (Key × AV)) | ins (C:Addr) (fs:List (Str × AV)) | exc (C:Addr) (fs:List (Str × V)) | tb (R:Array Value->Addr->Obj->Prop)
noncomputable def Af (a C:Addr)(d:Option Addr):HO:=.ext fun h=>∃ o,h.get? a=some o/\o.cls=.ref C/\o.dict=d/\∃ vs,o.data=.fields vs
noncomputable abbrev MH:=Addr->Option MO
noncomputable abbrev ASt:=List (Option AV)
noncomputable def mup (M:MH)(a:Addr)(o:MO):MH:=fun b=>if b=a then some o else M b
theorem zk {M:MH}{a:Addr}{o:MO}:mup M a o a=some o:=if_pos rfl
theorem zz {M:MH}{a b:Addr}{o:MO}(h:b ≠ a):mup M a o b=M b:=if_neg h
theorem wY {M:MH}{a:Addr}{o u:MO}:mup (mup M a o) a u=mup M a u:=by
 funext b;unfold mup;split <;> rfl
noncomputable abbrev Own:=Addr->Prop
inductive Rep (H:Hp) (O:Own):V->Dat->Prop
 | non:Rep H O .non .non
 | bl {b:Bool}:Rep H O (.bl b) (.bl b)
 | int {i:Int}:Rep H O (.int i) (.int i)
 | str {x:Str}:Rep H O (.str x) (.str x)
 | ty {n:String}:Rep H O (.ty n) (.ty n)
 | lst {a:Addr} {xs:List V} {l:List Dat}:¬ O a->H a=some (.lst xs)->xs.length=l.length->(∀ (i:Nat) x d,xs[i]?=some x->l[i]?=some d->Rep H O x d)->Rep H O (.ref a) (.lst l)
 | tup {a:Addr} {xs:List V} {l:List Dat}:¬ O a->H a=some (.tup xs)->xs.length=l.length->(∀ (i:Nat) x d,xs[i]?=some x->l[i]?=some d->Rep H O x d)->Rep H O (.ref a) (.tup l)
 | rng {a:Addr} {lo hi c:Int}:¬ O a->H a=some (Qe a lo hi c)->Rep H O (.ref a) (.rng lo hi c)
 | scr {a:Addr} {K:PySem.W.Frag} {l:List Int}:¬ O a->Rd H a (.lst (l.map V.int))->Rep H O (.ref a) (.scr K l)
 | scrK {a:Addr} {K:PySem.W.Frag} {l:List Int}:SqL K (fun _=>none) a (l.map V.int)->Rep H O (.ref a) (.scr K l)
noncomputable def Z9 (H:Hp)(O:Own)(xs:List V)(l:List Dat):Prop:=xs.length=l.length/\∀ (i:Nat) x d,xs[i]?=some x->l[i]?=some d->Rep H O x d
noncomputable def zj (H:Hp)(O:Own)(M:MH)(v:V):AV->Prop
 | .d x=>Rep H O v x
 | .ref a=>v=.ref a/\M a ≠ none
noncomputable def zb (H:Hp)(O:Own)(M:MH)(xs:List V)(l:List AV):Prop:=xs.length=l.length/\∀ (i:Nat) x d,xs[i]?=some x->l[i]?=some d->zj H O M x d
noncomputable def yt {κ:Type}(H:Hp)(O:Own)(M:MH)(xs:List (κ × V))(l:List (κ × AV)):Prop:=xs.map (·.1)=l.map (·.1)/\zb H O M (xs.map (·.2)) (l.map (·.2))
noncomputable def qj (H:Hp)(O:Own)(M:MH)(a:Addr):MO->Prop
 | .lst l=>∃ xs,H a=some (.lst xs)/\zb H O M xs l
 | .dK kvs=>∃ xs,H a=some (.dK xs)/\yt H O M xs kvs
 | .ins C fs=>∃ dx xs,H a=some (.ins C dx xs)/\yt H O M xs fs/\O dx/\M dx=none/\H dx=some (.own a)
 | .exc C fs=>∃ d,H a=some (Af a C d)/\(d=none/\fs=[] \/ ∃ dx,d=some dx/\H dx=some (.xd fs)/\O dx/\M dx=none)
 | .tb R=>∃ ps,H a=some (.tbl ps)/\(ps=#[] \/ ∃ c oc u,R ps c oc/\¬ O c/\H c=some (.frz oc u))
structure Wf (H:Hp)(O:Own)(M:MH):Prop where
 mo:∀ a o,M a=some o->qj H O M a o
 own:∀ a,M a ≠ none->O a
 al:∀ a,O a->∃ o,H a=some o/\∀ xs,o ≠ .tup xs
theorem Wf.ne {H:Hp}{O:Own}{M:MH}(w:Wf H O M)(a:Addr)(h:O a):H a ≠ none:=by obtain ⟨o,e,_⟩:=w.al a h;rw [e];exact fun z=>nomatch z
structure Ext (H:Hp)(O:Own)(M:MH)(H':Hp)(O':Own)(M':MH):Prop where
 fix:∀ a o,¬ O a->H a=some o->H' a=some o/\¬ O' a
 prv:∀ a,O a->M a=none->H' a=H a/\O' a/\M' a=none
 mst:∀ a,M a ≠ none->M' a ≠ none
theorem Ext.refl {H:Hp}{O:Own}{M:MH}:Ext H O M H O M:=⟨fun _ _ h e=>⟨e,h⟩,fun _ h e=>⟨rfl,h,e⟩,fun _ h=>h⟩
theorem Ext.trans {H H1 H2:Hp}{O O1 O2:Own}{M M1 M2:MH}(a:Ext H O M H1 O1 M1)(b:Ext H1 O1 M1 H2 O2 M2):Ext H O M H2 O2 M2:=
 ⟨fun x o h e=>let ⟨e1,h1⟩:=a.fix x o h e;b.fix x o h1 e1,fun x h e=>by
  obtain ⟨e1,h1,n1⟩:=a.prv x h e
  obtain ⟨e2,h2,n2⟩:=b.prv x h1 n1
  exact ⟨e2.trans e1,h2,n2⟩,fun x h=>b.mst x (a.mst x h)⟩
theorem Rep.imp {H H':Hp}{O O':Own}(k:∀ a o,¬ O a->H a=some o->H' a=some o/\¬ O' a){v:V}{d:Dat}(r:Rep H O v d):Rep H' O' v d:=by
 induction r with
 | non=>exact .non
 | bl=>exact .bl
 | int=>exact .int
 | str=>exact .str
 | ty=>exact .ty
 | lst h e l _ ih=>exact .lst (k _ _ h e).2 (k _ _ h e).1 l ih
 | tup h e l _ ih=>exact .tup (k _ _ h e).2 (k _ _ h e).1 l ih
 | rng h e=>exact .rng (k _ _ h e).2 (k _ _ h e).1
 | scr h e=>
  rcases e with e | ⟨o,e⟩
  ·exact .scr (k _ _ h e).2 (.inl (k _ _ h e).1)
  ·exact .scr (k _ _ h e).2 (.inr ⟨o,(k _ _ h e).1⟩)
 | scrK h=>exact .scrK h
theorem Xf {H:Hp}{O:Own}{K:PySem.W.Frag}{v:V}{l:List Int}(r:Rep H O v (.scr K l)):∃ a,v=.ref a/\SqL K H a (l.map V.int):=by
 cases r with
 | @scr a _ _ _ h=>exact ⟨a,rfl,.inl h⟩
 | @scrK a _ _ h=>
  rcases h with (h | ⟨o,h⟩) | h
  ·cases h
  ·cases h
  ·exact ⟨a,rfl,.inr h⟩
theorem Rep.ext {H H':Hp}{O O':Own}{M M':MH}(k:Ext H O M H' O' M'){v:V}{d:Dat}(r:Rep H O v d):Rep H' O' v d:=r.imp k.fix
theorem zj.ext {H H':Hp}{O O':Own}{M M':MH}(k:Ext H O M H' O' M'){v:V}{x:AV}(r:zj H O M v x):zj H' O' M' v x:=by
 cases x with
 | d x=>exact Rep.ext k r
 | ref a=>exact ⟨r.1,k.mst a r.2⟩
theorem zb.ext {H H':Hp}{O O':Own}{M M':MH}(k:Ext H O M H' O' M'){xs:List V}{l:List AV}(r:zb H O M xs l):zb H' O' M' xs l:=⟨r.1,fun i x d e1 e2=>(r.2 i x d e1 e2).ext k⟩
theorem yt.ext {κ:Type}{H H':Hp}{O O':Own}{M M':MH}(k:Ext H O M H' O' M'){xs:List (κ × V)}{l:List (κ × AV)}(r:yt H O M xs l):yt H' O' M' xs l:=⟨r.1,r.2.ext k⟩
theorem zb.nil {H:Hp}{O:Own}{M:MH}:zb H O M [] []:=⟨rfl,fun i x d e=>by simp at e⟩
theorem zb.cons {H:Hp}{O:Own}{M:MH}{x:V}{d:AV}{xs:List V}{l:List AV}(h:zj H O M x d)(r:zb H O M xs l):zb H O M (x :: xs) (d :: l):=
 ⟨by simp [r.1],fun i y e h1 h2=>by
  cases i with
  | zero=>simp at h1 h2;subst h1 h2;exact h
  | succ i=>simp at h1 h2;exact r.2 i y e h1 h2⟩
theorem zb.head {H:Hp}{O:Own}{M:MH}{x:V}{d:AV}{xs:List V}{l:List AV}(r:zb H O M (x :: xs) (d :: l)):zj H O M x d/\zb H O M xs l:=
 ⟨r.2 0 x d rfl rfl,by have:=r.1;simpa using this,fun i y e h1 h2=>r.2 (i+1) y e (by simpa using h1) (by simpa using h2)⟩
theorem zb.nil_inv {H:Hp}{O:Own}{M:MH}{xs:List V}(r:zb H O M xs []):xs=[]:=List.length_eq_zero_iff.mp r.1
theorem zb.cons_inv {H:Hp}{O:Own}{M:MH}{xs:List V}{d:AV}{l:List AV}(r:zb H O M xs (d :: l)):∃ x r',xs=x :: r'/\zj H O M x d/\zb H O M r' l:=by
 cases xs with
 | nil=>have:=r.1;simp at this
 | cons x r'=>exact ⟨x,r',rfl,r.head⟩
theorem zb.append {H:Hp}{O:Own}{M:MH}{xs ys:List V}{l m:List AV}(a:zb H O M xs l)(b:zb H O M ys m):zb H O M (xs ++ ys) (l ++ m):=
 ⟨by rw [List.length_append,List.length_append,a.1,b.1],fun i x d h1 h2=>by
  by_cases c:i<xs.length
  ·rw [List.getElem?_append_left c] at h1
   rw [List.getElem?_append_left (by rw [<- a.1];exact c)] at h2
   exact a.2 i x d h1 h2
  ·rw [List.getElem?_append_right (by omega)] at h1
   rw [List.getElem?_append_right (by rw [<- a.1];omega),<- a.1] at h2
   exact b.2 _ x d h1 h2⟩
theorem zb.snoc {H:Hp}{O:Own}{M:MH}{xs:List V}{l:List AV}{x:V}{d:AV}(a:zb H O M xs l)(b:zj H O M x d):zb H O M (xs ++ [x]) (l ++ [d]):=a.append (.cons b .nil)
theorem zb.set {H:Hp}{O:Own}{M:MH}{xs:List V}{l:List AV}{x:V}{d:AV}(a:zb H O M xs l)(b:zj H O M x d)(j:Nat):zb H O M (xs.set j x) (l.set j d):=
 ⟨by rw [List.length_set,List.length_set,a.1],fun i y e h1 h2=>by
  rw [List.getElem?_set] at h1 h2
  by_cases c:j=i
  ·rw [if_pos c] at h1 h2
   split at h1
   ·split at h2
    ·cases h1;cases h2;exact b
    ·cases h2
   ·cases h1
  ·rw [if_neg c] at h1 h2
   exact a.2 i y e h1 h2⟩
theorem zb.get {H:Hp}{O:Own}{M:MH}{xs:List V}{l:List AV}(a:zb H O M xs l){i:Nat}{d:AV}(h:l[i]?=some d):∃ x,xs[i]?=some x/\zj H O M x d:=by
 have hi:=(List.getElem?_eq_some_iff.mp h).1
 have hx:i<xs.length:=by rw [a.1];exact hi
 exact ⟨xs[i],by simp [hx],a.2 i _ _ (by simp [hx]) h⟩
theorem zb.drop {H:Hp}{O:Own}{M:MH}{xs:List V}{l:List AV}(a:zb H O M xs l)(k:Nat):zb H O M (xs.drop k) (l.drop k):=
 ⟨by rw [List.length_drop,List.length_drop,a.1],fun i x d h1 h2=>by rw [List.getElem?_drop] at h1 h2;exact a.2 _ x d h1 h2⟩
theorem zb.take {H:Hp}{O:Own}{M:MH}{xs:List V}{l:List AV}(a:zb H O M xs l)(k:Nat):zb H O M (xs.take k) (l.take k):=
 ⟨by rw [List.length_take,List.length_take,a.1],fun i x d h1 h2=>by
  rw [List.getElem?_take] at h1 h2
  by_cases c:i<k
  ·rw [if_pos c] at h1 h2
   exact a.2 _ x d h1 h2
  ·rw [if_neg c] at h1
   cases h1⟩
theorem Z9.av {H:Hp}{O:Own}{M:MH}{xs:List V}{l:List Dat}(r:Z9 H O xs l):zb H O M xs (l.map .d):=
 ⟨by rw [List.length_map];exact r.1,fun i x d h1 h2=>by
  rw [List.getElem?_map] at h2
  cases e:l[i]? with
  | none=>rw [e] at h2;cases h2
  | some y=>rw [e] at h2;cases h2;exact r.2 i x y h1 e⟩
theorem zb.pure {H:Hp}{O:Own}{M:MH}{xs:List V}{l:List Dat}(r:zb H O M xs (l.map .d)):Z9 H O xs l:=
 ⟨by have:=r.1;rwa [List.length_map] at this,fun i x d h1 h2=>r.2 i x (.d d) h1 (by rw [List.getElem?_map,h2];rfl)⟩
theorem Wf.fresh {H:Hp}{O:Own}{M:MH}(w:Wf H O M){p:Addr}(h:H p=none):¬ O p/\M p=none:=by
 have:¬ O p:=fun z=>w.ne p z h
 exact ⟨this,by
  cases e:M p with
  | none=>rfl
  | some o=>exact absurd (w.own p (by rw [e];exact fun z=>nomatch z)) this⟩
theorem qj.ext {H H':Hp}{O O':Own}{M M':MH}(k:Ext H O M H' O' M'){a:Addr}{o:MO}(e:H' a=H a)(r:qj H O M a o):qj H' O' M' a o:=by
 cases o with
 | lst l=>obtain ⟨xs,h,r⟩:=r;exact ⟨xs,e.trans h,r.ext k⟩
 | dK l=>obtain ⟨xs,h,r⟩:=r;exact ⟨xs,e.trans h,r.ext k⟩
 | ins C fs=>obtain ⟨dx,xs,h,r,q1,q2,q3⟩:=r;obtain ⟨x1,x2,x3⟩:=k.prv dx q1 q2;exact ⟨dx,xs,e.trans h,r.ext k,x2,x3,x1.trans q3⟩
 | exc C fs=>
  obtain ⟨d,h,r⟩:=r
  refine ⟨d,e.trans h,?_⟩
  rcases r with r | ⟨dx,e1,h1,h2,h3⟩
  ·exact .inl r
  ·obtain ⟨x1,x2,x3⟩:=k.prv dx h2 h3;exact .inr ⟨dx,e1,x1.trans h1,x2,x3⟩
 | tb R=>obtain ⟨ps,h,r⟩:=r;exact ⟨ps,e.trans h,r.imp id fun ⟨c,oc,u,h1,h2,h3⟩=>⟨c,oc,u,h1,(k.fix c _ h2 h3).2,(k.fix c _ h2 h3).1⟩⟩
theorem zV {H:Hp}{O:Own}{M:MH}(w:Wf H O M){p:Addr}(h:H p=none)(o:HO):Ext H O M (upd H p o) O M:=
 ⟨fun a u ha e=>⟨by rw [zf (ze e h)];exact e,ha⟩,fun a ha e=>⟨zf (fun z=>w.ne a ha (by rw [z];exact h)),ha,e⟩,fun _ h=>h⟩
theorem jQ {H:Hp}{O:Own}{M:MH}(w:Wf H O M){p:Addr}(h:H p=none)(o:HO):Wf (upd H p o) O M:=
 ⟨fun a mo e=>qj.ext (zV w h o) (zf (fun z=>by rw [z,(w.fresh h).2] at e;cases e)) (w.mo a mo e),w.own,fun a ha=>by
  have:a ≠ p:=fun z=>w.ne a ha (by rw [z];exact h)
  rw [zf this];exact w.al a ha⟩
noncomputable def ZL (O:Own)(p:Addr):Own:=fun a=>a=p \/ O a
noncomputable def KW (O:Own)(p:Addr):Own:=fun a=>a ≠ p/\O a
theorem jJ {H:Hp}{O:Own}{M:MH}(w:Wf H O M){p:Addr}(h:M p ≠ none)(o:HO)(mo:MO):Ext H O M (upd H p o) O (mup M p mo):=
 ⟨fun a u ha e=>⟨by rw [zf (fun z=>ha (by rw [z];exact w.own p h))];exact e,ha⟩,fun a ha e=>by
  have hne:a ≠ p:=fun z=>h (by rw [<- z];exact e)
  exact ⟨zf hne,ha,by rw [zz hne];exact e⟩,fun a ha=>by
  by_cases e:a=p
  ·rw [e,zk];exact fun z=>nomatch z
  ·rw [zz e];exact ha⟩
theorem QD {H:Hp}{O:Own}{M:MH}(w:Wf H O M){p:Addr}(h:M p ≠ none){o:HO}{mo:MO}(ho:∀ xs,o ≠ .tup xs)(r:qj (upd H p o) O (mup M p mo) p mo):Wf (upd H p o) O (mup M p mo):=by
 refine ⟨fun a u e=>?_,fun a ha=>?_,fun a ha=>?_⟩
 ·by_cases c:a=p
  ·subst c;rw [zk] at e;cases e;exact r
  ·rw [zz c] at e
   exact qj.ext (jJ w h o mo) (zf c) (w.mo a u e)
 ·by_cases c:a=p
  ·subst c;exact w.own a h
  ·rw [zz c] at ha;exact w.own a ha
 ·by_cases c:a=p
  ·rw [c,zi];exact ⟨o,rfl,ho⟩
  ·rw [zf c];exact w.al a ha
theorem qf {H:Hp}{O:Own}{M:MH}(w:Wf H O M){p:Addr}(h:H p=none)(o:HO):Ext H O M (upd H p o) (ZL O p) M:=
 ⟨fun a u ha e=>⟨by rw [zf (ze e h)];exact e,fun z=>z.elim (ze e h) ha⟩,fun a ha e=>by
  have hne:a ≠ p:=fun z=>w.ne a ha (by rw [z];exact h)
  exact ⟨zf hne,.inr ha,e⟩,fun _ h=>h⟩
theorem kE {H:Hp}{O:Own}{M:MH}(w:Wf H O M){p:Addr}(h:H p=none)(o:HO)(ho:∀ xs,o ≠ .tup xs):Wf (upd H p o) (ZL O p) M:=
 ⟨fun a mo e=>qj.ext (qf w h o) (zf (fun z=>by rw [z,(w.fresh h).2] at e;cases e)) (w.mo a mo e),fun a ha=>.inr (w.own a ha),fun a ha=>by
  by_cases c:a=p
  ·rw [c,zi];exact ⟨o,rfl,ho⟩
  ·rw [zf c];exact w.al a (ha.resolve_left c)⟩
theorem ki {H:Hp}{O:Own}{p:Addr}(hO:O p)(o:HO):∀ a u,¬ O a->H a=some u->upd H p o a=some u/\¬ O a:=fun a u ha e=>⟨by rw [zf (fun z=>ha (by rw [z];exact hO))];exact e,ha⟩
theorem zj.imp {H H':Hp}{O O':Own}{M M':MH}(k:∀ a o,¬ O a->H a=some o->H' a=some o/\¬ O' a)(hm:∀ a,M a ≠ none->M' a ≠ none){v:V}{x:AV}(r:zj H O M v x):zj H' O' M' v x:=by
 cases x with
 | d x=>exact Rep.imp k r
 | ref a=>exact ⟨r.1,hm a r.2⟩
theorem zb.imp {H H':Hp}{O O':Own}{M M':MH}(k:∀ a o,¬ O a->H a=some o->H' a=some o/\¬ O' a)(hm:∀ a,M a ≠ none->M' a ≠ none){xs:List V}{l:List AV}(r:zb H O M xs l):zb H' O' M' xs l:=⟨r.1,fun i x d e1 e2=>(r.2 i x d e1 e2).imp k hm⟩
theorem qj.imp {H H':Hp}{O O':Own}{M:MH}(k:∀ a o,¬ O a->H a=some o->H' a=some o/\¬ O' a){a:Addr}{o:MO}(e:H' a=H a)(hd:∀ dx x,O dx->M dx=none->H dx=some x->((∃ b,x=.own b) \/ ∃ fs,x=.xd fs)->H' dx=some x/\O' dx)(r:qj H O M a o):qj H' O' M a o:=by
 cases o with
 | lst l=>obtain ⟨xs,h,r⟩:=r;exact ⟨xs,e.trans h,r.imp k fun _ z=>z⟩
 | dK l=>obtain ⟨xs,h,r⟩:=r;exact ⟨xs,e.trans h,r.1,r.2.imp k fun _ z=>z⟩
 | ins C fs=>obtain ⟨dx,xs,h,r,q1,q2,q3⟩:=r;exact ⟨dx,xs,e.trans h,⟨r.1,r.2.imp k fun _ z=>z⟩,(hd dx _ q1 q2 q3 (.inl ⟨_,rfl⟩)).2,q2,(hd dx _ q1 q2 q3 (.inl ⟨_,rfl⟩)).1⟩
 | exc C fs=>
  obtain ⟨d,h,r⟩:=r
  refine ⟨d,e.trans h,?_⟩
  rcases r with r | ⟨dx,e1,h1,h2,h3⟩
  ·exact .inl r
  ·obtain ⟨x1,x2⟩:=hd dx _ h2 h3 h1 (.inr ⟨_,rfl⟩);exact .inr ⟨dx,e1,x1,x2,h3⟩
 | tb R=>obtain ⟨ps,h,r⟩:=r;exact ⟨ps,e.trans h,r.imp id fun ⟨c,oc,u,h1,h2,h3⟩=>⟨c,oc,u,h1,(k c _ h2 h3).2,(k c _ h2 h3).1⟩⟩
theorem v7 {H:Hp}{O:Own}{M:MH}(w:Wf H O M){p:Addr}(hO:O p)(hM:M p=none){xs:List V}(hp:H p=some (.lst xs))(o:HO)(ho:∀ xs,o ≠ .tup xs):Wf (upd H p o) O M:=
 ⟨fun a mo e=>qj.imp (ki hO o) (zf (fun z=>by rw [z,hM] at e;cases e)) (fun dx x h1 _ h3 h4=>⟨by rw [zf (wZ h3 hp (by rcases h4 with ⟨_,rfl⟩ | ⟨_,rfl⟩ <;> exact fun z=>nomatch z))];exact h3,h1⟩) (w.mo a mo e),w.own,fun a ha=>by
  by_cases c:a=p
  ·rw [c,zi];exact ⟨o,rfl,ho⟩
  ·rw [zf c];exact w.al a ha⟩
theorem jV {H:Hp}{O:Own}(p:Addr):∀ a u,¬ O a->H a=some u->H a=some u/\¬ KW O p a:=fun a u ha e=>⟨e,fun z=>ha z.2⟩
theorem JR {H:Hp}{O:Own}{M:MH}(w:Wf H O M){p:Addr}(hM:M p=none){xs:List V}(hp:H p=some (.lst xs)):Wf H (KW O p) M:=
 ⟨fun a mo e=>qj.imp (jV p) rfl (fun dx x h1 _ h3 h4=>⟨h3,⟨wZ h3 hp (by rcases h4 with ⟨_,rfl⟩ | ⟨_,rfl⟩ <;> exact fun z=>nomatch z),h1⟩⟩) (w.mo a mo e),fun a ha=>⟨fun z=>ha (by rw [z];exact hM),w.own a ha⟩,fun a ha=>w.al a ha.2⟩
noncomputable abbrev AK:=AV->MH->Prop
noncomputable abbrev AE:=ASt->MH->AK->Prop
noncomputable abbrev AT:=ASt->MH->(Bool->MH->Prop)->Prop
noncomputable abbrev AA:=ASt->MH->(List AV->MH->Prop)->Prop
structure jr where
 nx:ASt->MH->Prop
 rt:AK
 bk:ASt->MH->Prop:=fun _ _=>False
 ct:ASt->MH->Prop:=fun _ _=>False
noncomputable abbrev AS:=MH->jr->ASt->MH->Prop
noncomputable abbrev AG:=AV->ASt->MH->(ASt->MH->Prop)->Prop
noncomputable abbrev AGs:=List AV->ASt->MH->(ASt->MH->Prop)->Prop
noncomputable abbrev AI:=ASt->MH->(List AV->(MH->Prop)->MH->Prop)->Prop
structure Er (H:Hp)(O:Own)(M:MH)(σ:St)(ρ:ASt):Prop where
 len:σ.length=ρ.length
 get:∀ (i:Nat) x,ρ[i]?=some (some x)->∃ v,σ[i]?=some (some v)/\zj H O M v x
theorem Er.ext {H H':Hp}{O O':Own}{M M':MH}{σ:St}{ρ:ASt}(e:Er H O M σ ρ)(k:Ext H O M H' O' M'):Er H' O' M' σ ρ:=⟨e.len,fun i x h=>let ⟨v,h1,h2⟩:=e.get i x h;⟨v,h1,h2.ext k⟩⟩
theorem Er.set {H:Hp}{O:Own}{M:MH}{σ:St}{ρ:ASt}(e:Er H O M σ ρ){v:V}{x:AV}(r:zj H O M v x)(j:Nat):Er H O M (σ.set j (some v)) (ρ.set j (some x)):=
 ⟨by rw [List.length_set,List.length_set,e.len],fun i y h=>by
  rw [List.getElem?_set] at h ⊢
  by_cases c:j=i
  ·rw [if_pos c] at h ⊢
   by_cases c2:j<ρ.length
   ·rw [if_pos c2] at h;rw [if_pos (by rw [e.len];exact c2)];cases h;exact ⟨v,rfl,r⟩
   ·rw [if_neg c2] at h;cases h
  ·rw [if_neg c] at h ⊢;exact e.get i y h⟩
noncomputable def XU:List Nat->ASt->ASt
 | [],σ=>σ
 | j :: r,σ=>XU r (σ.set j none)
theorem Er.clr {H:Hp}{O:Own}{M:MH}:∀ (ts:List Nat) {σ:St} {ρ:ASt},Er H O M σ ρ->Er H O M (clr ts σ) (XU ts ρ)
  | [],_,_,e=>e
  | j :: r, σ, ρ, e => Er.clr r ⟨by rw [List.length_set, List.length_set, e.len], fun i y h => by
      rw [List.getElem?_set] at h ⊢
      by_cases c:j=i
      · rw [if_pos c] at h
        split at h <;> cases h
      · rw [if_neg c] at h ⊢;exact e.get i y h⟩
structure zD (t:TE)(a:AE):Prop where
 go:∀ {σ:St} {H:Hp} {O:Own} {ρ:ASt} {M:MH} {Q:VK} {Q':AK},Wf H O M->Er H O M σ ρ->a ρ M Q'->(∀ x M' v H' O',Q' x M'->Ext H O M H' O' M'->Wf H' O' M'->zj H' O' M' v x->Q v H')->t σ H Q
structure ka (t:TT)(a:AT):Prop where
 go:∀ {σ:St} {H:Hp} {O:Own} {ρ:ASt} {M:MH} {Q:Bool->Hp->Prop} {Q':Bool->MH->Prop},Wf H O M->Er H O M σ ρ->a ρ M Q'->(∀ b M' H' O',Q' b M'->Ext H O M H' O' M'->Wf H' O' M'->Q b H')->t σ H Q
structure jx (t:TA)(a:AA):Prop where
 go:∀ {σ:St} {H:Hp} {O:Own} {ρ:ASt} {M:MH} {Q:List V->Hp->Prop} {Q':List AV->MH->Prop},Wf H O M->Er H O M σ ρ->a ρ M Q'->(∀ x M' v H' O',Q' x M'->Ext H O M H' O' M'->Wf H' O' M'->zb H' O' M' v x->Q v H')->t σ H Q
structure yC (t:TE)(a:ASt->MH->(List AV->MH->Prop)->Prop):Prop where
 go:∀ {σ:St} {H:Hp} {O:Own} {ρ:ASt} {M:MH} {Q:VK} {Q':List AV->MH->Prop},Wf H O M->Er H O M σ ρ->a ρ M Q' ->
  (∀ l M' p xs H' O',Q' l M'->Ext H O M H' O' M'->Wf H' O' M'->O' p->M' p=none->H p=none->H' p=some (.lst xs)->zb H' O' M' xs l->Q (.ref p) H')->t σ H Q
noncomputable abbrev AR2:=AV->AV->MH->AK->Prop
structure vX (r:R2)(a:AR2):Prop where
 go:∀ {x y:V} {dx dy:AV} {H:Hp} {O:Own} {M:MH} {Q:VK} {Q':AK},Wf H O M->zj H O M x dx->zj H O M y dy->a dx dy M Q'->(∀ x M' v H' O',Q' x M'->Ext H O M H' O' M'->Wf H' O' M'->zj H' O' M' v x->Q v H')->r x y H Q
structure Ws (r:V->Hp->VK->Prop)(a:AV->MH->AK->Prop):Prop where
 go:∀ {x:V} {dx:AV} {H:Hp} {O:Own} {M:MH} {Q:VK} {Q':AK},Wf H O M->zj H O M x dx->a dx M Q'->(∀ x M' v H' O',Q' x M'->Ext H O M H' O' M'->Wf H' O' M'->zj H' O' M' v x->Q v H')->r x H Q
structure yp (r:List V->Hp->VK->Prop)(a:List AV->MH->AK->Prop):Prop where
 go:∀ {vs:List V} {xs:List AV} {H:Hp} {O:Own} {M:MH} {Q:VK} {Q':AK},Wf H O M->zb H O M vs xs->a xs M Q'->(∀ x M' v H' O',Q' x M'->Ext H O M H' O' M'->Wf H' O' M'->zj H' O' M' v x->Q v H')->r vs H Q
noncomputable def jq (i:Nat):AE:=fun ρ M Q=>∃ x,ρ[i]?=some (some x)/\Q x M
noncomputable def aC (d:Dat):AE:=fun _ M Q=>Q (.d d) M
theorem Xn {i:Nat}:zD (XF i) (jq i):=⟨fun w e ⟨x,h,q⟩ k=>let ⟨v,h1,h2⟩:=e.get i x h;⟨v,h1,k _ _ _ _ _ q .refl w h2⟩⟩
theorem VL {i:Int}:zD (tC (.int i)) (aC (.int i)):=⟨fun w _ q k=>k _ _ _ _ _ q .refl w .int⟩
theorem VS {i:Bool}:zD (tC (.bl i)) (aC (.bl i)):=⟨fun w _ q k=>k _ _ _ _ _ q .refl w .bl⟩
theorem VN:zD (tC .non) (aC .non):=⟨fun w _ q k=>k _ _ _ _ _ q .refl w .non⟩
theorem VW {i:String}:zD (tC (.ty i)) (aC (.ty i)):=⟨fun w _ q k=>k _ _ _ _ _ q .refl w .ty⟩
noncomputable def aOp (r:AR2)(a b:AE):AE:=fun ρ M Q=>a ρ M fun x M1=>b ρ M1 fun y M2=>r x y M2 Q
theorem Ys {r:R2}{ra:AR2}{t u:TE}{a b:AE}(hr:vX r ra)(h1:zD t a)(h2:zD u b):zD (tOp r t u) (aOp ra a b):=
 ⟨fun w e q k=>h1.go w e q fun x M1 v H1 O1 q1 k1 w1 r1=>h2.go w1 (e.ext k1) q1 fun y M2 u H2 O2 q2 k2 w2 r2=>hr.go w2 (r1.ext k2) r2 q2 fun z M3 v3 H3 O3 q3 k3 w3 r3=>k z M3 v3 H3 O3 q3 ((k1.trans k2).trans k3) w3 r3⟩
noncomputable def aUn (r:AV->MH->AK->Prop)(a:AE):AE:=fun ρ M Q=>a ρ M fun x M1=>r x M1 Q
theorem V4 {r:V->Hp->VK->Prop}{ra:AV->MH->AK->Prop}{t:TE}{a:AE}(hr:Ws r ra)(h1:zD t a):zD (tUn r t) (aUn ra a):=
 ⟨fun w e q k=>h1.go w e q fun x M1 v H1 O1 q1 k1 w1 r1=>hr.go w1 r1 q1 fun z M3 v3 H3 O3 q3 k3 w3 r3=>k z M3 v3 H3 O3 q3 (k1.trans k3) w3 r3⟩
noncomputable def kM:AA:=fun _ M Q=>Q [] M
noncomputable def qa (a:AE)(b:AA):AA:=fun ρ M Q=>a ρ M fun x M1=>b ρ M1 fun xs M2=>Q (x :: xs) M2
theorem Xw:jx Yx kM:=⟨fun w _ q k=>k _ _ _ _ _ q .refl w .nil⟩
theorem J5 {t:TE}{u:TA}{a:AE}{b:AA}(h1:zD t a)(h2:jx u b):jx (JV t u) (qa a b):=
 ⟨fun w e q k=>h1.go w e q fun x M1 v H1 O1 q1 k1 w1 r1=>h2.go w1 (e.ext k1) q1 fun y M2 u H2 O2 q2 k2 w2 r2=>k _ _ _ _ _ q2 (k1.trans k2) w2 (.cons (r1.ext k2) r2)⟩
theorem wo {H:Hp}{O:Own}{M:MH}(is:List Int):zb H O M (is.map V.int) (is.map fun i=>.d (.int i)):=by
 induction is with
 | nil=>exact .nil
 | cons i r ih=>exact .cons .int ih
noncomputable def aCB (r:List AV->MH->AK->Prop)(b:AA):AE:=fun ρ M Q=>b ρ M fun xs M1=>r xs M1 Q
theorem VX {r:List V->Hp->VK->Prop}{ra:List AV->MH->AK->Prop}{u:TA}{b:AA}(hr:yp r ra)(h2:jx u b):zD (tCB r u) (aCB ra b):=
 ⟨fun w e q k=>h2.go w e q fun x M1 v H1 O1 q1 k1 w1 r1=>hr.go w1 r1 q1 fun z M3 v3 H3 O3 q3 k3 w3 r3=>k z M3 v3 H3 O3 q3 (k1.trans k3) w3 r3⟩
noncomputable abbrev ASp:=List AV->MH->AK->Prop
noncomputable def cSp (a:ASp):Sp:=fun vs H Q _=>∃ xs M O Q',Wf H O M/\zb H O M vs xs/\a xs M Q'/\∀ x M' v H' O',Q' x M'->Ext H O M H' O' M'->Wf H' O' M'->zj H' O' M' v x->Q v H'
noncomputable def wJ (sp:ASp)(b:AA):AE:=fun ρ M Q=>b ρ M fun xs M1=>sp xs M1 Q
theorem QT {sp:ASp}{u:TA}{b:AA}(h:jx u b):zD (Zr (cSp sp) [] E0 u) (wJ sp b):=
 ⟨fun w e q k=>h.go w e q fun x M1 v H1 O1 q1 k1 w1 r1=>⟨x,M1,O1,_,w1,by rw [List.append_nil];exact r1,q1,fun z M3 v3 H3 O3 q3 k3 w3 r3=>k z M3 v3 H3 O3 q3 (k1.trans k3) w3 r3⟩⟩
noncomputable def pur:List AV->Option (List Dat)
 | []=>some []
 | .d x :: r=>match pur r with | some l=>some (x :: l) | none=>none
 | .ref _ :: _=>none
theorem K6:pur []=some []:=rfl
theorem KA {x:Dat}{r:List AV}{l:List Dat}(h:pur r=some l):pur (.d x :: r)=some (x :: l):=by unfold pur;rw [h]
theorem qv (l:List Dat):pur (l.map .d)=some l:=by
 induction l with
 | nil=>rfl
 | cons x r ih=>exact KA ih
theorem qx:∀ {xs:List AV} {l:List Dat},pur xs=some l->xs=l.map .d
 | [],l,h=>by cases h;rfl
 | .d x :: r,l,h=>by
  unfold pur at h
  cases e:pur r with
  | none=>rw [e] at h;cases h
  | some m=>rw [e] at h;cases h;rw [qx e];rfl
 | .ref _ :: _,_,h=>by cases h
theorem Ext.shown {H H':Hp}{O O':Own}{M M':MH}{p:Addr}(w:Wf H O M)(k:Ext H O M H' O' M')(h:H p=none):Ext H O M H' (KW O' p) M':=
 ⟨fun a o ha e=>⟨(k.fix a o ha e).1,fun z=>(k.fix a o ha e).2 z.2⟩,fun a ha e=>⟨(k.prv a ha e).1,⟨fun z=>w.ne a ha (by rw [z];exact h),(k.prv a ha e).2.1⟩,(k.prv a ha e).2.2⟩,k.mst⟩
theorem Ext.owned {H H':Hp}{O O':Own}{M M':MH}{p:Addr}(w:Wf H O M)(k:Ext H O M H' O' M')(h:H p=none)(mo:MO):Ext H O M H' O' (mup M' p mo):=
 ⟨k.fix,fun a ha e=>⟨(k.prv a ha e).1,(k.prv a ha e).2.1,by rw [zz (fun z=>w.ne a ha (by rw [z];exact h))];exact (k.prv a ha e).2.2⟩,fun a ha=>by
  by_cases e:a=p
  ·rw [e,zk];exact fun z=>nomatch z
  ·rw [zz e];exact k.mst a ha⟩
theorem yK {H:Hp}{O:Own}{M:MH}{p:Addr}(w:Wf H O M)(hO:O p)(hM:M p=none){xs:List V}{l:List AV}(hp:H p=some (.lst xs))(r:zb H O M xs l):Wf H O (mup M p (.lst l)):=by
 have km:∀ a,M a ≠ none->mup M p (.lst l) a ≠ none:=fun a ha=>by
  by_cases e:a=p
  ·rw [e,zk];exact fun z=>nomatch z
  ·rw [zz e];exact ha
 refine ⟨fun a u e=>?_,fun a ha=>?_,w.al⟩
 ·by_cases c:a=p
  ·subst c;rw [zk] at e;cases e;exact ⟨xs,hp,r.imp (fun _ _ z h=>⟨h,z⟩) km⟩
  ·rw [zz c] at e
   have:=w.mo a u e
   cases u with
   | lst m=>obtain ⟨ys,h1,h2⟩:=this;exact ⟨ys,h1,h2.imp (fun _ _ z h=>⟨h,z⟩) km⟩
   | dK m=>obtain ⟨ys,h1,h2⟩:=this;exact ⟨ys,h1,h2.1,h2.2.imp (fun _ _ z h=>⟨h,z⟩) km⟩
   | ins C fs=>
    obtain ⟨dx,ys,h1,h2,h3,h4,h5⟩:=this
    exact ⟨dx,ys,h1,⟨h2.1,h2.2.imp (fun _ _ z h=>⟨h,z⟩) km⟩,h3,by rw [zz (wZ h5 hp (fun z=>nomatch z))];exact h4,h5⟩
   | exc C fs=>
    obtain ⟨d,h1,h2⟩:=this
    refine ⟨d,h1,?_⟩
    rcases h2 with h2 | ⟨dx,e1,h2,h3,h4⟩
    ·exact .inl h2
    ·exact .inr ⟨dx,e1,h2,h3,by rw [zz (wZ h2 hp (fun z=>nomatch z))];exact h4⟩
   | tb R=>exact this
 ·by_cases c:a=p
  ·rw [c];exact hO
  ·rw [zz c] at ha;exact w.own a ha
noncomputable abbrev AF:=ASt->MH->(List AV->MH->Prop)->Prop
noncomputable def aFz (a:AF):AE:=fun ρ M Q=>a ρ M fun l M'=>∃ ds,pur l=some ds/\Q (.d (.lst ds)) M'
noncomputable def aOw (a:AF):AE:=fun ρ M Q=>a ρ M fun l M'=>∀ p,M p=none->M' p=none->Q (.ref p) (mup M' p (.lst l))
noncomputable def Wp (t:TE):TE:=t
theorem QG {X:Cx}{e:Expr}{t:TE}(h:PE X e t):PE X e (Wp t):=h
theorem xM {t:TE}{a:AF}(h:yC t a):zD t (aFz a):=
 ⟨fun w e q k=>h.go w e q fun l M' p xs H' O' q1 k1 w1 o1 m1 hp hx r1=>by
  obtain ⟨ds,e1,q2⟩:=q1
  rw [qx e1] at r1
  have r2:=r1.pure
  exact k _ _ _ _ _ q2 (k1.shown w hp) (JR w1 m1 hx) (Rep.lst (fun z=>z.1 rfl) hx r2.1 fun i x d e1 e2=>(r2.2 i x d e1 e2).imp (jV p))⟩
theorem KZ {t:TE}{a:AF}(h:yC t a):zD (Wp t) (aOw a):=
 ⟨fun w e q k=>h.go w e q fun l M' p xs H' O' q1 k1 w1 o1 m1 hp hx r1=>k _ _ _ _ _ (q1 p (w.fresh hp).2 m1) (k1.owned w hp _) (yK w1 o1 m1 hx r1) ⟨rfl,by rw [zk];exact fun z=>nomatch z⟩⟩
noncomputable def WL (b:AA):AF:=fun ρ M Q=>b ρ M fun xs M1=>xs.length<=sizeLine/\Q xs M1
theorem QS {u:TA}{b:AA}(h:jx u b):yC (VB u) (WL b):=
 ⟨fun w e q k=>h.go w e q fun x M1 v H1 O1 q1 k1 w1 r1=>⟨by rw [r1.1];exact q1.1,fun p hp=>
  k x M1 p v _ _ q1.2 (k1.trans (qf w1 hp _)) (kE w1 hp _ (fun _ z=>nomatch z)) (.inl rfl) (w1.fresh hp).2 (by
   cases e0:(_:Hp) p with
   | none=>exact e0
   | some o=>
    exfalso
    rename_i H0 O0 _ M0 _ _
    by_cases c:O0 p
    ·by_cases c2:M0 p=none
     ·exact w1.ne p (k1.prv p c c2).2.1 hp
     ·exact w1.ne p (w1.own p (k1.mst p c2)) hp
    ·rw [(k1.fix p o c e0).1] at hp;cases hp) zi (r1.ext (qf w1 hp _))⟩⟩
noncomputable def YF (b:AA):AE:=fun ρ M Q=>b ρ M fun xs M1=>xs.length<=sizeLine/\∃ ds,pur xs=some ds/\Q (.d (.tup ds)) M1
theorem XE {u:TA}{b:AA}(h:jx u b):zD (Y9 u) (YF b):=
 ⟨fun w e q k=>h.go w e q fun x M1 v H1 O1 q1 k1 w1 r1=>⟨by rw [r1.1];exact q1.1,fun p hp=>by
  obtain ⟨_,ds,e1,q2⟩:=q1
  rw [qx e1] at r1
  have r2:=r1.pure
  exact k _ _ _ _ _ q2 (k1.trans (zV w1 hp _)) (jQ w1 hp _) (Rep.tup (w1.fresh hp).1 zi r2.1 fun i x d e1 e2=>(r2.2 i x d e1 e2).ext (zV w1 hp _))⟩⟩
noncomputable def aB (a:AE):AT:=fun ρ M Q=>a ρ M fun x M1=>∃ b,x=.d (.bl b)/\Q b M1
theorem j4 {H:Hp}{O:Own}{v:V}{b:Bool}(r:Rep H O v (.bl b)):v=.bl b:=by cases r;rfl
theorem zv {H:Hp}{O:Own}{v:V}{b:Int}(r:Rep H O v (.int b)):v=.int b:=by cases r;rfl
theorem Jr {H:Hp}{O:Own}{v:V}{b:String}(r:Rep H O v (.ty b)):v=.ty b:=by cases r;rfl
theorem Xr {H:Hp}{O:Own}{v:V}(r:Rep H O v .non):v=.non:=by cases r;rfl
theorem WG {t:TE}{a:AE}(h:zD t a):ka (tB t) (aB a):=⟨fun w e q k=>h.go w e q fun x M1 v H1 O1 ⟨b,e1,q1⟩ k1 w1 r1=>by
 subst e1;exact ⟨b,j4 r1,k _ _ _ _ q1 k1 w1⟩⟩
theorem QN {t:TE}{a:AE}(h:zD t a):ka (Kk t) (aB a):=⟨fun w e q k=>h.go w e q fun x M1 v H1 O1 ⟨b,e1,q1⟩ k1 w1 r1=>by
 subst e1;exact ⟨b,j4 r1,k _ _ _ _ q1 k1 w1⟩⟩
noncomputable def kG:AT:=fun _ M Q=>Q true M
theorem QX:ka Kb kG:=⟨fun w _ q k=>k _ _ _ _ q .refl w⟩
noncomputable def WS (a b:AT):AT:=fun ρ M Q=>a ρ M fun c M1=>if c=true then b ρ M1 Q else Q false M1
noncomputable def aOr (a b:AT):AT:=fun ρ M Q=>a ρ M fun c M1=>if c=true then Q true M1 else b ρ M1 Q
noncomputable def Wb (a:AT):AT:=fun ρ M Q=>a ρ M fun c M1=>Q (!c) M1
theorem VI {t u:TT}{a b:AT}(h1:ka t a)(h2:ka u b):ka (tOr t u) (aOr a b):=⟨fun w e q k=>h1.go w e q fun c M1 H1 O1 q1 k1 w1=>by
 cases c with
 | false=>exact h2.go w1 (e.ext k1) q1 fun c M2 H2 O2 q2 k2 w2=>k _ _ _ _ q2 (k1.trans k2) w2
 | true=>exact k _ _ _ _ q1 k1 w1⟩
theorem K8 {t:TT}{a:AT}(h1:ka t a):ka (V6 t) (Wb a):=⟨fun w e q k=>h1.go w e q fun c M1 H1 O1 q1 k1 w1=>k _ _ _ _ q1 k1 w1⟩
noncomputable def Jk (a b:AE):AE:=fun ρ M Q=>a ρ M fun x M1=>∃ c,x=.d (.bl c)/\if c=true then b ρ M1 Q else Q (.d (.bl false)) M1
theorem Jj {t u:TE}{a b:AE}(h1:zD t a)(h2:zD u b):zD (Jl t u) (Jk a b):=⟨fun w e q k=>h1.go w e q fun x M1 v H1 O1 ⟨c,e1,q1⟩ k1 w1 r1=>by
 subst e1
 refine ⟨c,j4 r1,?_⟩
 cases c with
 | true=>exact h2.go w1 (e.ext k1) q1 fun c M2 v2 H2 O2 q2 k2 w2 r2=>k _ _ _ _ _ q2 (k1.trans k2) w2 r2
 | false=>exact k _ _ _ _ _ q1 k1 w1 .bl⟩
structure ED (H0:Hp)(O0:Own)(M0:MH)(D:jR)(D':jr):Prop where
 nx:∀ σ H O ρ M,Wf H O M->Er H O M σ ρ->Ext H0 O0 M0 H O M->D'.nx ρ M->D.nx σ H
 rt:∀ v x H O M,Wf H O M->Ext H0 O0 M0 H O M->zj H O M v x->D'.rt x M->D.rt v H
 bk:∀ σ H O ρ M,Wf H O M->Er H O M σ ρ->Ext H0 O0 M0 H O M->D'.bk ρ M->D.bk σ H
 ct:∀ σ H O ρ M,Wf H O M->Er H O M σ ρ->Ext H0 O0 M0 H O M->D'.ct ρ M->D.ct σ H
theorem ED.tr {H0 H1:Hp}{O0 O1:Own}{M0 M1:MH}{D:jR}{D':jr}(E:ED H0 O0 M0 D D')(k:Ext H0 O0 M0 H1 O1 M1):ED H1 O1 M1 D D':=
 ⟨fun σ H O ρ M w e x q=>E.nx σ H O ρ M w e (k.trans x) q,fun v y H O M w x r q=>E.rt v y H O M w (k.trans x) r q,fun σ H O ρ M w e x q=>E.bk σ H O ρ M w e (k.trans x) q,fun σ H O ρ M w e x q=>E.ct σ H O ρ M w e (k.trans x) q⟩
structure jo (t:TS)(a:AS):Prop where
 go:∀ {H0:Hp} {O0:Own} {M0:MH} {D:jR} {D':jr} {σ:St} {H:Hp} {O:Own} {ρ:ASt} {M:MH},Wf H0 O0 M0->Wf H O M->Er H O M σ ρ->Ext H0 O0 M0 H O M->a M0 D' ρ M->ED H0 O0 M0 D D'->t D σ H
noncomputable def kI:AS:=fun _ D ρ M=>D.nx ρ M
theorem QC:jo J3 kI:=⟨fun _ w e x q E=>E.nx _ _ _ _ _ w e x q⟩
noncomputable def yQ (a b:AS):AS:=fun B D ρ M=>a B { D with nx:=b B D } ρ M
theorem KH {t u:TS}{a b:AS}(h1:jo t a)(h2:jo u b):jo (Wk t u) (yQ a b):=
 ⟨fun w0 w e x q E=>h1.go w0 w e x q ⟨fun σ H O ρ M w e x q=>h2.go w0 w e x q E,E.rt,E.bk,E.ct⟩⟩
noncomputable def X9 (a:AE):AS:=fun _ D ρ M=>a ρ M fun _ M1=>D.nx ρ M1
theorem JF {t:TE}{a:AE}(h:zD t a):jo (QU t) (X9 a):=⟨fun _ w e x q E=>h.go w e q fun y M1 v H1 O1 q1 k1 w1 r1=>E.nx _ _ _ _ _ w1 (e.ext k1) (x.trans k1) q1⟩
noncomputable def Y6 (a:AE):AS:=fun _ D ρ M=>a ρ M D.rt
theorem Xc {t:TE}{a:AE}(h:zD t a):jo (YZ t) (Y6 a):=⟨fun _ w e x q E=>h.go w e q fun y M1 v H1 O1 q1 k1 w1 r1=>E.rt _ _ _ _ _ w1 (x.trans k1) r1 q1⟩
noncomputable def JW (c:AT)(a b:AS):AS:=fun B D ρ M=>c ρ M fun k M1=>if k=true then a B D ρ M1 else b B D ρ M1
theorem XD {c:TT}{t u:TS}{ac:AT}{a b:AS}(hc:ka c ac)(h1:jo t a)(h2:jo u b):jo (VJ c t u) (JW ac a b):=
 ⟨fun w0 w e x q E=>hc.go w e q fun k M1 H1 O1 q1 k1 w1=>by
  cases k with
  | true=>exact h1.go w0 w1 (e.ext k1) (x.trans k1) q1 E
  | false=>exact h2.go w0 w1 (e.ext k1) (x.trans k1) q1 E⟩
structure yc (g:TG)(a:AG):Prop where
 go:∀ {v:V} {x:AV} {σ:St} {H:Hp} {O:Own} {ρ:ASt} {M:MH} {Q:St->Hp->Prop} {Q':ASt->MH->Prop},Wf H O M->Er H O M σ ρ->zj H O M v x->a x ρ M Q' ->
  (∀ σ' H' O' ρ' M',Q' ρ' M'->Ext H O M H' O' M'->Wf H' O' M'->Er H' O' M' σ' ρ'->Q σ' H')->g v σ H Q
structure w8 (g:TGs)(a:AGs):Prop where
 go:∀ {v:List V} {x:List AV} {σ:St} {H:Hp} {O:Own} {ρ:ASt} {M:MH} {Q:St->Hp->Prop} {Q':ASt->MH->Prop},Wf H O M->Er H O M σ ρ->zb H O M v x->a x ρ M Q' ->
  (∀ σ' H' O' ρ' M',Q' ρ' M'->Ext H O M H' O' M'->Wf H' O' M'->Er H' O' M' σ' ρ'->Q σ' H')->g v σ H Q
noncomputable def jb (i:Nat):AG:=fun x ρ M Q=>Q (ρ.set i (some x)) M
theorem ZS {i:Nat}:yc (yW i) (jb i):=⟨fun w e r q k=>k _ _ _ _ _ q .refl w (e.set r i)⟩
noncomputable def wA:AGs:=fun xs ρ M Q=>xs=[]/\Q ρ M
noncomputable def j5 (a:AG)(b:AGs):AGs:=fun xs ρ M Q=>∃ x r,xs=x :: r/\a x ρ M fun ρ' M'=>b r ρ' M' Q
theorem Qy:w8 VP wA:=⟨fun w e r q k=>by obtain ⟨e1,q⟩:=q;subst e1;exact ⟨r.nil_inv,k _ _ _ _ _ q .refl w e⟩⟩
theorem ZZ {g:TG}{u:TGs}{a:AG}{b:AGs}(h1:yc g a)(h2:w8 u b):w8 (Jw g u) (j5 a b):=⟨fun w e r q k=>by
 obtain ⟨x,r',e1,q⟩:=q;subst e1
 obtain ⟨v,vr,e2,rv,rr⟩:=r.cons_inv
 subst e2
 exact ⟨v,vr,rfl,h1.go w e rv q fun σ' H' O' ρ' M' q1 k1 w1 e1=>h2.go w1 e1 (rr.ext k1) q1 fun σ2 H2 O2 ρ2 M2 q2 k2 w2 e2=>k _ _ _ _ _ q2 (k1.trans k2) w2 e2⟩⟩
noncomputable def wU (n:Nat)(b:AGs):AG:=fun x ρ M Q=>∃ l,x=.d (.tup l)/\l.length=n/\b (l.map .d) ρ M Q
theorem JY {K:PySem.W.Frag}{n:Nat}{u:TGs}{b:AGs}(h:w8 u b):yc (KF K n u) (wU n b):=⟨fun {v x σ H O ρ M Q Q'} w e r q k=>by
 obtain ⟨l,e1,ln,q⟩:=q;subst e1
 cases (show Rep H O v (.tup l) from r) with
 | @tup a xs _ o1 h1 l1 r1=>exact ⟨a,xs,rfl,SqT.of h1,l1.trans ln,h.go w e (Z9.av ⟨l1,r1⟩) q k⟩⟩
noncomputable def zF (x:AV)(M:MH):Option (List AV):=match x with
 | .d (.lst l)=>some (l.map .d)
 | .ref a=>match M a with
  | some (.lst l)=>some l
  | _=>none
 | _=>none
noncomputable def Yl (x:AV):Option (List AV):=match x with
 | .d (.tup l)=>some (l.map .d)
 | _=>none
noncomputable def qm (x:AV)(M:MH):Option (List AV):=match x with
 | .d (.lst l)=>some (l.map .d)
 | .d (.tup l)=>some (l.map .d)
 | .ref a=>match M a with
  | some (.lst l)=>some l
  | _=>none
 | _=>none
theorem J7 (l:List Dat)(M:MH):zF (.d (.lst l)) M=some (l.map .d):=rfl
theorem VY (l:List Dat):Yl (.d (.tup l))=some (l.map .d):=rfl
theorem Kl (l:List Dat)(M:MH):qm (.d (.lst l)) M=some (l.map .d):=rfl
theorem Kv (l:List Dat)(M:MH):qm (.d (.tup l)) M=some (l.map .d):=rfl
theorem kY {a:Addr}{M:MH}{l:List AV}(h:M a=some (.lst l)):zF (.ref a) M=some l:=by unfold zF;dsimp only;rw [h]
theorem Jv {a:Addr}{M:MH}{l:List AV}(h:M a=some (.lst l)):qm (.ref a) M=some l:=by unfold qm;dsimp only;rw [h]
theorem Qz {x:AV}{M:MH}{l:List AV}(h:zF x M=some l):(∃ m,x=.d (.lst m)/\l=m.map .d) \/ ∃ a,x=.ref a/\M a=some (.lst l):=by
 cases x with
 | d x=>
  cases x with
  | lst m=>cases h;exact .inl ⟨m,rfl,rfl⟩
  | _=>cases h
 | ref a=>
  unfold zF at h
  dsimp only at h
  cases e:M a with
  | none=>rw [e] at h;cases h
  | some o=>
   rw [e] at h
   cases o with
   | lst m=>cases h;exact .inr ⟨a,rfl,e⟩
   | _=>cases h
theorem qG {x:AV}{M:MH}{l:List AV}(h:qm x M=some l):zF x M=some l \/ ∃ m,x=.d (.tup m)/\l=m.map .d:=by
 cases x with
 | d x=>
  cases x with
  | lst m=>cases h;exact .inl rfl
  | tup m=>cases h;exact .inr ⟨m,rfl,rfl⟩
  | _=>cases h
 | ref a=>exact .inl h
theorem zM {H:Hp}{O:Own}{M:MH}{v:V}{x:AV}{l:List AV}(w:Wf H O M)(r:zj H O M v x)(h:zF x M=some l):∃ a xs,v=.ref a/\H a=some (.lst xs)/\zb H O M xs l:=by
 rcases Qz h with ⟨m,rfl,rfl⟩ | ⟨a,rfl,e⟩
 ·cases (show Rep H O v (.lst m) from r) with
  | @lst a xs _ o1 h1 l1 r1=>exact ⟨a,xs,rfl,h1,Z9.av ⟨l1,r1⟩⟩
 ·obtain ⟨xs,h1,r1⟩:=w.mo a _ e
  exact ⟨a,xs,r.1,h1,r1⟩
theorem ql {H:Hp}{O:Own}{M:MH}{v:V}{x:AV}{l:List AV}(r:zj H O M v x)(h:Yl x=some l):∃ a xs,v=.ref a/\H a=some (.tup xs)/\zb H O M xs l:=by
 cases x with
 | ref a=>cases h
 | d x=>
  cases x with
  | tup m=>
   cases h
   cases (show Rep H O v (.tup m) from r) with
   | @tup a xs _ o1 h1 l1 r1=>exact ⟨a,xs,rfl,h1,Z9.av ⟨l1,r1⟩⟩
  | _=>cases h
theorem ku {H:Hp}{O:Own}{M:MH}{v:V}{x:AV}{l:List AV}(w:Wf H O M)(r:zj H O M v x)(h:qm x M=some l):∃ a xs,v=.ref a/\(H a=some (.lst xs) \/ H a=some (.tup xs))/\zb H O M xs l:=by
 rcases qG h with e | ⟨m,rfl,rfl⟩
 ·obtain ⟨a,xs,h1,h2,h3⟩:=zM w r e;exact ⟨a,xs,h1,.inl h2,h3⟩
 ·obtain ⟨a,xs,h1,h2,h3⟩:=ql (l:=m.map .d) r rfl;exact ⟨a,xs,h1,.inr h2,h3⟩
structure Qw (t:QY)(a:AV->AV->AV->MH->(MH->Prop)->Prop):Prop where
 go:∀ {o i v:V} {ao ai av:AV} {H:Hp} {O:Own} {M:MH} {Q:Hp->Prop} {Q':MH->Prop},Wf H O M->zj H O M o ao->zj H O M i ai->zj H O M v av->a ao ai av M Q'->(∀ M' H' O',Q' M'->Ext H O M H' O' M'->Wf H' O' M'->Q H')->t o i v H Q
noncomputable def Yc (a b:AE)(s:AV->AV->AV->MH->(MH->Prop)->Prop):AG:=fun x ρ M Q=>a ρ M fun o M1=>b ρ M1 fun i M2=>s o i x M2 fun M3=>Q ρ M3
theorem Je {to ti:TE}{t:QY}{a b:AE}{s:AV->AV->AV->MH->(MH->Prop)->Prop}(h1:zD to a)(h2:zD ti b)(h3:Qw t s):yc (We to ti t) (Yc a b s):=⟨fun w e r q k=>
 h1.go w e q fun x M1 v H1 O1 q1 k1 w1 r1=>h2.go w1 (e.ext k1) q1 fun y M2 u H2 O2 q2 k2 w2 r2=>h3.go w2 (r1.ext k2) r2 (r.ext (k1.trans k2)) q2 fun M3 H3 O3 q3 k3 w3=>k _ _ _ _ _ q3 ((k1.trans k2).trans k3) w3 (e.ext ((k1.trans k2).trans k3))⟩
theorem qu {M:MH}{p:Addr}{o:MO}(h:M p=some o):M p ≠ none:=by rw [h];exact fun z=>nomatch z
noncomputable def asL:AV->AV->AV->MH->(MH->Prop)->Prop:=fun o i v M Q=>∃ p l k j,o=.ref p/\i=.d (.int k)/\M p=some (.lst l)/\ixN l.length k=some j/\Q (mup M p (.lst (l.set j v)))
theorem QL:Qw vG asL:=⟨fun w ro ri rv q k=>by
 obtain ⟨p,l,n,j,rfl,rfl,hm,hj,q⟩:=q
 obtain ⟨xs,hx,rx⟩:=w.mo p _ hm
 have np:=qu hm
 refine ⟨n,zv ri,p,ro.1,xs,hx,j,by rw [rx.1];exact hj,k _ _ _ q (jJ w np _ _) (QD w np (fun _ z=>nomatch z) ⟨_,zi,(rx.set rv j).ext (jJ w np _ _)⟩)⟩⟩
noncomputable def WI (a:AE)(g:AG):AS:=fun _ D ρ M=>a ρ M fun x M1=>g x ρ M1 D.nx
theorem XA {t:TE}{g:TG}{a:AE}{ag:AG}(h:zD t a)(hg:yc g ag):jo (JN t g) (WI a ag):=⟨fun _ w e x q E=>h.go w e q fun y M1 v H1 O1 q1 k1 w1 r1=>hg.go w1 (e.ext k1) r1 q1 fun σ2 H2 O2 ρ2 M2 q2 k2 w2 e2=>E.nx _ _ _ _ _ w2 e2 ((x.trans k1).trans k2) q2⟩
structure Al (t:TIp)(a:AR2):Prop where
 go:∀ {x y:V} {dx dy:AV} {H:Hp} {O:Own} {M:MH} {Q:VK} {Q':AK},Wf H O M->zj H O M x dx->zj H O M y dy->a dx dy M Q'->(∀ x M' v H' O',Q' x M'->Ext H O M H' O' M'->Wf H' O' M'->zj H' O' M' v x->Q v H')->t x y H Q
noncomputable def jZ (J:It)(H:Hp)(O:Own)(M:MH)(l:List AV)(G:MH->Prop):Prop:=
 ∀ (H':Hp) (O':Own) (M':MH),(∀ a o,¬ O a->H a=some o->H' a=some o/\¬ O' a)->(∀ a,M a ≠ none->M' a ≠ none)->Wf H' O' M'->G M'->∀ i:Nat,(i=l.length->J.stop i H') /\
  ∀ y,l[i]?=some y->J.go i H'/\∀ x H'',J.yld i H' x H''->Ext H' O' M' H'' O' M'/\Wf H'' O' M'/\zj H'' O' M' x y
structure vV (wi:TI)(ai:AI):Prop where
 go:∀ {σ:St} {H:Hp} {O:Own} {ρ:ASt} {M:MH} {R:It->Hp->Prop} {R':List AV->(MH->Prop)->MH->Prop},Wf H O M->Er H O M σ ρ->ai ρ M R'->(∀ l G M' J H' O',R' l G M'->Ext H O M H' O' M'->Wf H' O' M'->jZ J H' O' M' l G->R J H')->wi σ H R
noncomputable def Wq (ag:AG)(ab:AS)(B:MH)(D:jr)(G:MH->Prop)(l:List AV)(ρ:ASt)(M:MH):Prop:=
 ∃ Pv:Nat->ASt->MH->Prop,Pv 0 ρ M/\(∀ i x ρ M,l[i]?=some x->Pv i ρ M->G M/\ag x ρ M fun ρ' M'=>ab B { D with nx:=Pv (i+1),ct:=Pv (i+1),bk:=D.nx } ρ' M')/\∀ ρ M,Pv l.length ρ M->G M/\D.nx ρ M
noncomputable def WV (ai:AI)(ag:AG)(ab:AS):AS:=fun _ D ρ M=>ai ρ M fun l G M1=>Wq ag ab M1 D G l ρ M1
theorem XJ {wi:TI}{g:TG}{t:TS}{ai:AI}{ag:AG}{ab:AS}(hi:vV wi ai)(hg:yc g ag)(hb:jo t ab):jo (Vh wi g t) (WV ai ag ab):=⟨fun {H0 O0 M0 D D' σ H O ρ M} w0 w e x q E=>by
 rw [wR]
 refine hi.go w e q fun l G M1 J H1 O1 q1 k1 w1 hj=>?_
 have E1:=E.tr (x.trans k1)
 obtain ⟨Pv,p0,ps,pd⟩:=q1
 refine ⟨fun i m σ H=>m=l.length - i/\i<=l.length/\∃ O ρ M,Wf H O M/\Er H O M σ ρ/\Ext H1 O1 M1 H O M/\Pv i ρ M,⟨l.length,by simp,Nat.zero_le _,O1,ρ,M1,w1,e.ext k1,.refl,p0⟩,?_⟩
 rintro i m σ H ⟨rfl,hi,O,ρ,M,w,e,x,hf⟩
 by_cases hil:i<l.length
 ·have hy:l[i]?=some l[i]:=List.getElem?_eq_getElem hil
  obtain ⟨hG,q2⟩:=ps i l[i] ρ M hy hf
  obtain ⟨j1,j2⟩:=(hj H O M x.fix x.mst w hG i).2 l[i] hy
  refine .inr ⟨j1,fun σ' H'=>∃ O ρ M,Wf H' O M/\Er H' O M σ' ρ/\Ext H1 O1 M1 H' O M/\Pv (i+1) ρ M,fun σ' H' z=>⟨l.length - (i+1),by omega,rfl,hil,z⟩,fun v H' hv=>?_⟩
  obtain ⟨k2,w2,r2⟩:=j2 v H' hv
  refine hg.go w2 (e.ext k2) r2 q2 fun σ3 H3 O3 ρ3 M3 q3 k3 w3 e3=>?_
  exact hb.go w1 w3 e3 ((x.trans k2).trans k3) q3 ⟨fun σ H O ρ M w e x q=>⟨O,ρ,M,w,e,x,q⟩,E1.rt,E1.nx,fun σ H O ρ M w e x q=>⟨O,ρ,M,w,e,x,q⟩⟩
 ·have e0:i=l.length:=by omega
  subst e0
  obtain ⟨hG,q2⟩:=pd ρ M hf
  exact .inl ⟨(hj H O M x.fix x.mst w hG l.length).1 rfl,E1.nx _ _ _ _ _ w e x q2⟩⟩
theorem jD {H H1:Hp}{O O1:Own}{M M1:MH}(w1:Wf H1 O1 M1)(k1:Ext H O M H1 O1 M1){p:Addr}(hp:H1 p=none):H p=none:=by
 cases e0:H p with
 | none=>rfl
 | some o=>
  exfalso
  by_cases c:O p
  ·by_cases c2:M p=none
   ·exact w1.ne p (k1.prv p c c2).2.1 hp
   ·exact w1.ne p (w1.own p (k1.mst p c2)) hp
  ·rw [(k1.fix p o c e0).1] at hp;cases hp
theorem Z5 {K:PySem.W.Frag}{H:Hp}{O:Own}{M:MH}{a:Addr}{x:AV}{l:List AV}(r:zj H O M (.ref a) x)(h:zF x M=some l):jZ (Itl K a) H O M l (fun M'=>zF x M'=some l):=by
 intro H' O' M' fix mst w' hG i
 obtain ⟨a',xs,e,h1,r1⟩:=zM w' (r.imp fix mst) hG
 cases e
 refine ⟨fun e=>⟨xs,SqL.of h1,by rw [r1.1];omega⟩,fun y hy=>?_⟩
 obtain ⟨v,hv,rv⟩:=r1.get hy
 refine ⟨⟨xs,v,SqL.of h1,hv⟩,fun z H'' hz=>?_⟩
 obtain ⟨e1,e2⟩:=hz
 subst e1
 have:=e2 xs (SqL.of h1)
 rw [hv] at this;cases this
 exact ⟨.refl,w',rv⟩
theorem Qj {K:PySem.W.Frag}{H:Hp}{O:Own}{M:MH}{a:Addr}{x:AV}{l:List AV}(r:zj H O M (.ref a) x)(h:Yl x=some l):jZ (Itt K a) H O M l (fun _=>True):=by
 intro H' O' M' fix mst w' hG i
 obtain ⟨a',xs,e,h1,r1⟩:=ql (r.imp fix mst) h
 cases e
 refine ⟨fun e=>⟨xs,SqT.of h1,by rw [r1.1];omega⟩,fun y hy=>?_⟩
 obtain ⟨v,hv,rv⟩:=r1.get hy
 refine ⟨⟨xs,v,SqT.of h1,hv⟩,fun z H'' hz=>?_⟩
 obtain ⟨e1,e2⟩:=hz
 subst e1
 have:=e2 xs (SqT.of h1)
 rw [hv] at this;cases this
 exact ⟨.refl,w',rv⟩
noncomputable def aiS (a:AE):AI:=fun ρ M R=>a ρ M fun x M1=>∃ l,qm x M1=some l/\R l (fun M'=>qm x M'=some l) M1
theorem jZ.mono {J:It}{H:Hp}{O:Own}{M:MH}{l:List AV}{G G':MH->Prop}(h:jZ J H O M l G)(k:∀ M,G' M->G M):jZ J H O M l G':=fun H' O' M' fix mst w' hG=>h H' O' M' fix mst w' (k _ hG)
theorem Vn {K:PySem.W.Frag}{t:TE}{a:AE}(h:zD t a):vV (iLT K t) (aiS a):=⟨fun w e q k=>h.go w e q fun x M1 v H1 O1 ⟨l,hl,q1⟩ k1 w1 r1=>by
 rcases qG hl with hl' | ⟨m,rfl,rfl⟩
 ·obtain ⟨a,xs,rfl,h1,_⟩:=zM w1 r1 hl'
  refine ⟨a,rfl,.inl ⟨⟨xs,SqL.of h1⟩,k _ _ _ _ _ _ q1 k1 w1 ((Z5 r1 hl').mono fun M hM=>?_)⟩⟩
  rcases qG hM with z | ⟨m,rfl,rfl⟩
  ·exact z
  ·cases hl'
 ·obtain ⟨a,xs,rfl,h1,_⟩:=ql (l:=m.map .d) r1 rfl
  exact ⟨a,rfl,.inr ⟨⟨xs,SqT.of h1⟩,k _ _ _ _ _ _ q1 k1 w1 ((Qj r1 rfl).mono fun _ _=>trivial)⟩⟩⟩
noncomputable def vw (lo c:Int)(n:Nat):List AV:=(List.range n).map fun (k:Nat)=>.d (.int (lo+(k:Int) * c))
theorem kQ (lo c:Int)(n:Nat):(vw lo c n).length=n:=by simp [vw]
theorem kO {lo c:Int}{n i:Nat}{y:AV}(h:(vw lo c n)[i]?=some y):i<n/\y=.d (.int (lo+(i:Int) * c)):=by
 have hi:=(List.getElem?_eq_some_iff.mp h).1
 rw [kQ] at hi
 unfold vw at h
 rw [List.getElem?_map,List.getElem?_range hi] at h
 cases h
 exact ⟨hi,rfl⟩
theorem Kg {H:Hp}{O:Own}{M:MH}(lo:Int)(n:Nat):jZ (Itr lo n) H O M (vw lo 1 n) (fun _=>True):=by
 intro H' O' M' fix mst w' hG i
 refine ⟨fun e=>by rw [kQ] at e;exact Nat.le_of_eq e.symm,fun y hy=>?_⟩
 obtain ⟨hi,rfl⟩:=kO hy
 refine ⟨hi,fun z H'' hz=>?_⟩
 obtain ⟨rfl,rfl⟩:=hz
 rw [Int.mul_one]
 exact ⟨.refl,w',.int⟩
noncomputable def WE (a:AA):AI:=fun ρ M R=>a ρ M fun xs M1=>∃ j:Int,xs=[.d (.int j)]/\-(2 ^ 62)<=j/\j<2 ^ 62/\R (vw 0 1 j.toNat) (fun _=>True) M1
theorem XH {t:TA}{a:AA}(h:jx t a):vV (Ql t) (WE a):=⟨fun w e q k=>h.go w e q fun x M1 v H1 O1 ⟨j,e1,j1,j2,q1⟩ k1 w1 r1=>by
 subst e1
 obtain ⟨v1,r',rfl,a1,r2⟩:=r1.cons_inv
 rw [r2.nil_inv,zv a1]
 exact ⟨j,rfl,j1,j2,k _ _ _ _ _ _ q1 k1 w1 (Kg _ _)⟩⟩
noncomputable def j9 (m:List Dat):List AV:=(List.range m.length).map fun (i:Nat)=>.d (.tup [.int (i:Int),m.getD i .non])
theorem qF (m:List Dat):(j9 m).length=m.length:=by simp [j9]
theorem jh {m:List Dat}{i:Nat}{y:AV}(h:(j9 m)[i]?=some y):∃ d,m[i]?=some d/\y=.d (.tup [.int (i:Int),d]):=by
 have hi:=(List.getElem?_eq_some_iff.mp h).1
 rw [qF] at hi
 unfold j9 at h
 rw [List.getElem?_map,List.getElem?_range hi] at h
 cases h
 exact ⟨m[i],List.getElem?_eq_getElem hi,by dsimp only;rw [List.getD_eq_getElem?_getD,List.getElem?_eq_getElem hi];rfl⟩
theorem jC {H:Hp}{O:Own}{M:MH}(w:Wf H O M){p:Addr}(hp:H p=none){x y:V}{d e:Dat}(r1:Rep H O x d)(r2:Rep H O y e):Ext H O M (upd H p (.tup [x,y])) O M/\Wf (upd H p (.tup [x,y])) O M/\zj (upd H p (.tup [x,y])) O M (.ref p) (.d (.tup [d,e])):=
 ⟨zV w hp _,jQ w hp _,Rep.tup (w.fresh hp).1 zi rfl fun i z f h1 h2=>by
  match i,h1,h2 with
  | 0,h1,h2=>cases h1;cases h2;exact r1.ext (zV w hp _)
  | 1,h1,h2=>cases h1;cases h2;exact r2.ext (zV w hp _)
  | (i+2),h1,_=>cases h1⟩
theorem ZI {K:PySem.W.Frag}{H:Hp}{O:Own}{M:MH}{a:Addr}{x:AV}{m:List Dat}(r:zj H O M (.ref a) x)(h:zF x M=some (m.map .d)):jZ (Ite K a) H O M (j9 m) (fun M'=>zF x M'=some (m.map .d)):=by
 intro H' O' M' fix mst w' hG i
 obtain ⟨a',xs,e,h1,r1⟩:=zM w' (r.imp fix mst) hG
 cases e
 have l1:=r1.1
 rw [List.length_map] at l1
 refine ⟨fun e=>⟨xs,SqL.of h1,by rw [qF] at e;omega⟩,fun y hy=>?_⟩
 obtain ⟨d,hd,rfl⟩:=jh hy
 obtain ⟨v,hv,rv⟩:=r1.get (i:=i) (d:=.d d) (by rw [List.getElem?_map,hd];rfl)
 refine ⟨⟨xs,v,SqL.of h1,hv⟩,fun z H'' hz=>?_⟩
 obtain ⟨p,x',hp,rfl,e2,rfl⟩:=hz
 have:=e2 xs (SqL.of h1)
 rw [hv] at this;cases this
 exact jC w' hp .int rv
theorem v6 {K:PySem.W.Frag}{H:Hp}{O:Own}{M:MH}{a:Addr}{m:List Dat}(r:zj H O M (.ref a) (.d (.tup m))):jZ (Wh K a) H O M (j9 m) (fun _=>True):=by
 intro H' O' M' fix mst w' hG i
 obtain ⟨a',xs,e,h1,r1⟩:=ql (l:=m.map .d) (r.imp fix mst) rfl
 cases e
 have l1:=r1.1
 rw [List.length_map] at l1
 refine ⟨fun e=>⟨xs,SqT.of h1,by rw [qF] at e;omega⟩,fun y hy=>?_⟩
 obtain ⟨d,hd,rfl⟩:=jh hy
 obtain ⟨v,hv,rv⟩:=r1.get (i:=i) (d:=.d d) (by rw [List.getElem?_map,hd];rfl)
 refine ⟨⟨xs,v,SqT.of h1,hv⟩,fun z H'' hz=>?_⟩
 obtain ⟨p,x',hp,rfl,e2,rfl⟩:=hz
 have:=e2 xs (SqT.of h1)
 rw [hv] at this;cases this
 exact jC w' hp .int rv
noncomputable def aiE (a:AA):AI:=fun ρ M R=>a ρ M fun xs M1=>∃ x l m,xs=[x]/\qm x M1=some l/\pur l=some m/\R (j9 m) (fun M'=>qm x M'=some l) M1
theorem v8 {x:AV}{M M':MH}{l l':List AV}(h:zF x M=some l)(h':qm x M'=some l'):zF x M'=some l':=by
 rcases qG h' with z | ⟨m,rfl,rfl⟩
 ·exact z
 ·cases h
theorem Y1 {K:PySem.W.Frag}{t:TA}{a:AA}(h:jx t a):vV (xL K t) (aiE a):=⟨fun w e q k=>h.go w e q fun xs M1 v H1 O1 ⟨x,l,m,e1,hl,hm,q1⟩ k1 w1 r1=>by
 subst e1
 obtain ⟨v1,r',rfl,a1,r2⟩:=r1.cons_inv
 rw [r2.nil_inv]
 rw [qx hm] at hl q1
 rcases qG hl with hl' | ⟨m',rfl,e2⟩
 ·obtain ⟨a,xs,rfl,h1,_⟩:=zM w1 a1 hl'
  exact ⟨a,rfl,.inl ⟨⟨xs,SqL.of h1⟩,k _ _ _ _ _ _ q1 k1 w1 ((ZI a1 hl').mono fun M hM=>v8 hl' hM)⟩⟩
 ·obtain rfl:m=m':=by have:=congrArg pur e2;rw [qv,qv] at this;cases this;rfl
  obtain ⟨a,xs,rfl,h1,_⟩:=ql (l:=m.map .d) a1 rfl
  exact ⟨a,rfl,.inr ⟨⟨xs,SqT.of h1⟩,k _ _ _ _ _ _ q1 k1 w1 ((v6 a1).mono fun _ _=>trivial)⟩⟩⟩
noncomputable def ym (m n:List Dat):List AV:=(List.range (min m.length n.length)).map fun (i:Nat)=>.d (.tup [m.getD i .non,n.getD i .non])
theorem je (m n:List Dat):(ym m n).length=min m.length n.length:=by simp [ym]
theorem kB {m n:List Dat}{i:Nat}{y:AV}(h:(ym m n)[i]?=some y):∃ d e,m[i]?=some d/\n[i]?=some e/\y=.d (.tup [d,e]):=by
 have hi:=(List.getElem?_eq_some_iff.mp h).1
 rw [je] at hi
 unfold ym at h
 rw [List.getElem?_map,List.getElem?_range hi] at h
 cases h
 have h1:i<m.length:=by omega
 have h2:i<n.length:=by omega
 exact ⟨m[i],n[i],List.getElem?_eq_getElem h1,List.getElem?_eq_getElem h2,by dsimp only;rw [List.getD_eq_getElem?_getD,List.getElem?_eq_getElem h1,List.getD_eq_getElem?_getD,List.getElem?_eq_getElem h2];rfl⟩
theorem Qk {K:PySem.W.Frag}{H:Hp}{O:Own}{M:MH}{a b:Addr}{x y:AV}{m n:List Dat}(r:zj H O M (.ref a) x)(h:zF x M=some (m.map .d))(r':zj H O M (.ref b) y)(h':zF y M=some (n.map .d)):jZ (Itz K a b) H O M (ym m n) (fun M'=>zF x M'=some (m.map .d)/\zF y M'=some (n.map .d)):=by
 intro H' O' M' fix mst w' hG i
 obtain ⟨a',xs,e,h1,r1⟩:=zM w' (r.imp fix mst) hG.1
 cases e
 obtain ⟨b',ys,e,h2,r2⟩:=zM w' (r'.imp fix mst) hG.2
 cases e
 have l1:=r1.1
 have l2:=r2.1
 rw [List.length_map] at l1 l2
 refine ⟨fun e=>⟨xs,ys,SqL.of h1,SqL.of h2,by rw [je] at e;omega⟩,fun z hz=>?_⟩
 obtain ⟨d,f,hd,hf,rfl⟩:=kB hz
 obtain ⟨v,hv,rv⟩:=r1.get (i:=i) (d:=.d d) (by rw [List.getElem?_map,hd];rfl)
 obtain ⟨u,hu,ru⟩:=r2.get (i:=i) (d:=.d f) (by rw [List.getElem?_map,hf];rfl)
 refine ⟨⟨xs,ys,v,u,SqL.of h1,SqL.of h2,hv,hu⟩,fun z H'' hz=>?_⟩
 obtain ⟨p,x',y',hp,rfl,e2,e3,rfl⟩:=hz
 have:=e2 xs (SqL.of h1)
 rw [hv] at this;cases this
 have:=e3 ys (SqL.of h2)
 rw [hu] at this;cases this
 exact jC w' hp rv ru
theorem ZR {K:PySem.W.Frag}{H:Hp}{O:Own}{M:MH}{a b:Addr}{m n:List Dat}(hmn:m.length<=n.length)(r:zj H O M (.ref a) (.d (.tup m)))(r':zj H O M (.ref b) (.d (.tup n))):jZ (Vs K a b) H O M (ym m n) (fun _=>True):=by
 intro H' O' M' fix mst w' hG i
 obtain ⟨a',xs,e,h1,r1⟩:=ql (l:=m.map .d) (r.imp fix mst) rfl
 cases e
 obtain ⟨b',ys,e,h2,r2⟩:=ql (l:=n.map .d) (r'.imp fix mst) rfl
 cases e
 have l1:=r1.1
 have l2:=r2.1
 rw [List.length_map] at l1 l2
 refine ⟨fun e=>⟨xs,SqT.of h1,by rw [je] at e;omega⟩,fun z hz=>?_⟩
 obtain ⟨d,f,hd,hf,rfl⟩:=kB hz
 obtain ⟨v,hv,rv⟩:=r1.get (i:=i) (d:=.d d) (by rw [List.getElem?_map,hd];rfl)
 obtain ⟨u,hu,ru⟩:=r2.get (i:=i) (d:=.d f) (by rw [List.getElem?_map,hf];rfl)
 refine ⟨⟨xs,ys,v,u,SqT.of h1,SqT.of h2,hv,hu⟩,fun z H'' hz=>?_⟩
 obtain ⟨p,x',y',hp,rfl,e2,e3,rfl⟩:=hz
 have:=e2 xs (SqT.of h1)
 rw [hv] at this;cases this
 have:=e3 ys (SqT.of h2)
 rw [hu] at this;cases this
 exact jC w' hp rv ru
noncomputable def Vi (a:AA):AI:=fun ρ M R=>a ρ M fun xs M1=>∃ x y m n,xs=[x,y]/\((zF x M1=some (List.map AV.d m)/\zF y M1=some (List.map AV.d n)) \/ (x=.d (.tup m)/\y=.d (.tup n)/\m.length<=n.length))/\R (ym m n) (fun M'=>zF x M'=zF x M1/\zF y M'=zF y M1) M1
theorem Xd {K:PySem.W.Frag}{t:TA}{a:AA}(h:jx t a):vV (wm K t) (Vi a):=⟨fun w e q k=>h.go w e q fun xs M1 v H1 O1 ⟨x,y,m,n,e1,hxy,q1⟩ k1 w1 r1=>by
 subst e1
 obtain ⟨v1,r',rfl,a1,r2⟩:=r1.cons_inv
 obtain ⟨v2,r',rfl,a2,r3⟩:=r2.cons_inv
 rw [r3.nil_inv]
 rcases hxy with ⟨hx,hy⟩ | ⟨rfl,rfl,hmn⟩
 ·obtain ⟨a,xs,rfl,h1,_⟩:=zM w1 a1 hx
  obtain ⟨b,ys,rfl,h2,_⟩:=zM w1 a2 hy
  exact ⟨a,b,rfl,.inl ⟨⟨xs,SqL.of h1⟩,⟨ys,SqL.of h2⟩,k _ _ _ _ _ _ q1 k1 w1 ((Qk a1 hx a2 hy).mono fun _ z=>⟨z.1.trans hx,z.2.trans hy⟩)⟩⟩
 ·obtain ⟨a,xs,rfl,h1,_⟩:=ql (l:=m.map .d) a1 rfl
  obtain ⟨b,ys,rfl,h2,_⟩:=ql (l:=n.map .d) a2 rfl
  exact ⟨a,b,rfl,.inr ⟨⟨xs,SqT.of h1⟩,⟨ys,SqT.of h2⟩,k _ _ _ _ _ _ q1 k1 w1 ((ZR hmn a1 a2).mono fun _ _=>trivial)⟩⟩⟩
structure kg (D:Addr)(H:Hp)(O:Own)(M:MH)(H':Hp)(O':Own)(M':MH):Prop where
 fix:∀ a o,¬ O a->H a=some o->H' a=some o/\¬ O' a
 prv:∀ a,a ≠ D->O a->M a=none->H' a=H a/\O' a/\M' a=none
 mst:∀ a,M a ≠ none->M' a ≠ none
theorem Ext.x {D:Addr}{H H':Hp}{O O':Own}{M M':MH}(k:Ext H O M H' O' M'):kg D H O M H' O' M':=⟨k.fix,fun a _=>k.prv a,k.mst⟩
theorem kg.trans {D:Addr}{H H1 H2:Hp}{O O1 O2:Own}{M M1 M2:MH}(a:kg D H O M H1 O1 M1)(b:kg D H1 O1 M1 H2 O2 M2):kg D H O M H2 O2 M2:=
 ⟨fun x o h e=>let ⟨e1,h1⟩:=a.fix x o h e;b.fix x o h1 e1,fun x hx h e=>by
  obtain ⟨e1,h1,n1⟩:=a.prv x hx h e
  obtain ⟨e2,h2,n2⟩:=b.prv x hx h1 n1
  exact ⟨e2.trans e1,h2,n2⟩,fun x h=>b.mst x (a.mst x h)⟩
theorem kg.set {D:Addr}{H:Hp}{O:Own}{M:MH}(hO:O D)(o:HO):kg D H O M (upd H D o) O M:=⟨ki hO o,fun a ha h e=>⟨zf ha,h,e⟩,fun _ h=>h⟩
theorem Er.imp {H H':Hp}{O O':Own}{M M':MH}{σ:St}{ρ:ASt}(e:Er H O M σ ρ)(k:∀ a o,¬ O a->H a=some o->H' a=some o/\¬ O' a)(hm:∀ a,M a ≠ none->M' a ≠ none):Er H' O' M' σ ρ:=⟨e.len,fun i x h=>let ⟨v,h1,h2⟩:=e.get i x h;⟨v,h1,h2.imp k hm⟩⟩
noncomputable abbrev ATR:=List AV->ASt->MH->(List AV->ASt->MH->Prop)->Prop
structure Zf (D:Addr)(tr:TR)(a:ATR):Prop where
 go:∀ {σ:St} {H:Hp} {O:Own} {ρ:ASt} {M:MH} {acc:List AV} {ys:List V} {N:St->Hp->Prop} {N':List AV->ASt->MH->Prop},Wf H O M->Er H O M σ ρ->O D->M D=none->H D=some (.lst ys)->zb H O M ys acc->a acc ρ M N' ->
  (∀ acc' ρ' M' σ' H' O' ys',N' acc' ρ' M'->kg D H O M H' O' M'->Wf H' O' M'->Er H' O' M' σ' ρ'->O' D->M' D=none->H' D=some (.lst ys')->zb H' O' M' ys' acc'->N σ' H')->tr σ H N
noncomputable def jI (a:AE):ATR:=fun acc ρ M N=>a ρ M fun x M1=>acc.length<sizeLine/\N (acc ++ [x]) ρ M1
theorem yP {D:Addr}{t:TE}{a:AE}(h:zD t a):Zf D (ww t D) (jI a):=⟨fun {σ H O ρ M acc ys N N'} w e o m hd r q k=>h.go w e q fun x M1 v H1 O1 ⟨q0,q1⟩ k1 w1 r1=>by
 obtain ⟨e1,o1,m1⟩:=k1.prv D o m
 have r':=r.ext k1
 refine ⟨ys,e1.trans hd,by rw [r.1];exact q0,k _ _ _ _ _ _ (ys ++ [v]) q1 (k1.x.trans (kg.set o1 _)) (v7 w1 o1 m1 (e1.trans hd) _ (fun _ z=>nomatch z)) ((e.ext k1).imp (ki o1 _) (fun _ z=>z)) o1 m1 zi ((r'.snoc r1).imp (ki o1 _) (fun _ z=>z))⟩⟩
noncomputable def ZY (ag:AG)(at_:AT)(tr:ATR)(G:MH->Prop)(N:List AV->ASt->MH->Prop)(l acc:List AV)(ρ:ASt)(M:MH):Prop:=
 ∃ Pv:Nat->List AV->ASt->MH->Prop,Pv 0 acc ρ M/\(∀ i x acc ρ M,l[i]?=some x->Pv i acc ρ M->G M/\ag x ρ M fun ρ2 M2=>at_ ρ2 M2 fun b M3=>if b=true then tr acc ρ2 M3 (Pv (i+1)) else Pv (i+1) acc ρ2 M3)/\∀ acc ρ M,Pv l.length acc ρ M->G M/\N acc ρ M
theorem Vc {D:Addr}{g:TG}{tt:TT}{tr:TR}{ag:AG}{at_:AT}{atr:ATR}(hg:yc g ag)(ht:ka tt at_)(hr:Zf D tr atr){J:It}{H1:Hp}{O1:Own}{M1:MH}{l:List AV}{G:MH->Prop}(hj:jZ J H1 O1 M1 l G){N':List AV->ASt->MH->Prop}{N:St->Hp->Prop}
  {σ:St} {ρ:ASt} {acc:List AV} {ys:List V} (w:Wf H1 O1 M1) (e:Er H1 O1 M1 σ ρ) (o:O1 D) (m:M1 D=none) (hd:H1 D=some (.lst ys)) (r:zb H1 O1 M1 ys acc) (q:ZY ag at_ atr G N' l acc ρ M1)
  (k:∀ acc' ρ' M' σ' H' O' ys',N' acc' ρ' M'->kg D H1 O1 M1 H' O' M'->Wf H' O' M'->Er H' O' M' σ' ρ'->O' D->M' D=none->H' D=some (.lst ys')->zb H' O' M' ys' acc'->N σ' H'):CL J g tt tr N σ H1:=by
 obtain ⟨Pv,p0,ps,pd⟩:=q
 refine ⟨fun i n σ H=>n=l.length - i/\i<=l.length/\∃ O ρ M acc ys,Wf H O M/\Er H O M σ ρ/\kg D H1 O1 M1 H O M/\O D/\M D=none/\H D=some (.lst ys)/\zb H O M ys acc/\Pv i acc ρ M,
  ⟨l.length,by simp,Nat.zero_le _,O1,ρ,M1,acc,ys,w,e,Ext.refl.x,o,m,hd,r,p0⟩,?_⟩
 rintro i n σ H ⟨rfl,hi,O,ρ,M,acc,ys,w,e,x,o,m,hd,r,hf⟩
 by_cases hil:i<l.length
 ·have hy:l[i]?=some l[i]:=List.getElem?_eq_getElem hil
  obtain ⟨hG,q2⟩:=ps i l[i] acc ρ M hy hf
  obtain ⟨j1,j2⟩:=(hj H O M x.fix x.mst w hG i).2 l[i] hy
  refine .inr ⟨j1,fun σ' H'=>∃ O ρ M acc ys,Wf H' O M/\Er H' O M σ' ρ/\kg D H1 O1 M1 H' O M/\O D/\M D=none/\H' D=some (.lst ys)/\zb H' O M ys acc/\Pv (i+1) acc ρ M,fun σ' H' z=>⟨l.length - (i+1),by omega,rfl,hil,z⟩,fun v H' hv=>?_⟩
  obtain ⟨k2,w2,r2⟩:=j2 v H' hv
  refine hg.go w2 (e.ext k2) r2 q2 fun σ3 H3 O3 ρ3 M3 q3 k3 w3 e3=>?_
  refine ht.go w3 e3 q3 fun b M4 H4 O4 q4 k4 w4=>?_
  have k24:=(k2.trans k3).trans k4
  obtain ⟨d4,o4,m4⟩:=k24.prv D o m
  have r4:=r.ext k24
  cases b with
  | true=>
   exact hr.go w4 (e3.ext k4) o4 m4 (d4.trans hd) r4 q4 fun acc' ρ' M' σ' H' O' ys' q5 k5 w5 e5 o5 m5 d5 r5=>⟨O',ρ',M',acc',ys',w5,e5,(x.trans k24.x).trans k5,o5,m5,d5,r5,q5⟩
  | false=>
   exact ⟨O4,ρ3,M4,acc,ys,w4,e3.ext k4,x.trans k24.x,o4,m4,d4.trans hd,r4,q4⟩
 ·have e0:i=l.length:=by omega
  subst e0
  obtain ⟨hG,q2⟩:=pd acc ρ M hf
  exact .inl ⟨(hj H O M x.fix x.mst w hG l.length).1 rfl,k _ _ _ _ _ _ _ q2 x w e o m hd r⟩
noncomputable def Zj (ts:List Nat)(ai:AI)(ag:AG)(at_:AT)(atr:ATR):AF:=fun ρ M Q=>ai ρ M fun l G M1=>ZY ag at_ atr G (fun acc _ M'=>Q acc M') l [] (XU ts ρ) M1
theorem vZ {ts:List Nat}{wi:TI}{g:TG}{tt:TT}{tr:Addr->TR}{ai:AI}{ag:AG}{at_:AT}{atr:ATR}(hi:vV wi ai)(hg:yc g ag)(ht:ka tt at_)(hr:∀ D,Zf D (tr D) atr):yC (QW ts wi g tt tr) (Zj ts ai ag at_ atr):=⟨fun {σ H O ρ M Q Q'} w e q k=>by
 refine hi.go w e q fun l G M1 J H1 O1 q1 k1 w1 hj D hD=>?_
 have kp:=qf w1 hD (.lst [])
 have hj':jZ J (upd H1 D (.lst [])) (ZL O1 D) M1 l G:=fun H' O' M' fix mst w' hG=>hj H' O' M' (fun a o ha ho=>fix a o (kp.fix a o ha ho).2 (kp.fix a o ha ho).1) mst w' hG
 refine Vc hg ht (hr D) hj' (kE w1 hD _ (fun _ z=>nomatch z)) (((e.ext k1).clr ts).ext kp) (.inl rfl) (w1.fresh hD).2 zi .nil q1 fun acc' ρ' M' σ' H' O' ys' q5 k5 w5 e5 o5 m5 d5 r5=>?_
 have hH:=jD w1 k1 hD
 refine k _ _ _ _ _ _ q5 ⟨fun a o ha ho=>?_,fun a ha hm=>?_,fun a hm=>k5.mst a (k1.mst a hm)⟩ w5 o5 m5 hH d5 r5
 ·obtain ⟨x1,x2⟩:=(k1.trans kp).fix a o ha ho
  exact k5.fix a o x2 x1
 ·obtain ⟨x1,x2,x3⟩:=(k1.trans kp).prv a ha hm
  obtain ⟨y1,y2,y3⟩:=k5.prv a (fun z=>w.ne a ha (by rw [z];exact hH)) x2 x3
  exact ⟨y1.trans x1,y2,y3⟩⟩
theorem ZT {ts:List Nat}{wi:TI}{g:TG}{tt:TT}{te:TE}{ai:AI}{ag:AG}{at_:AT}{ae:AE}(hi:vV wi ai)(hg:yc g ag)(ht:ka tt at_)(he:zD te ae):yC (yY ts wi g tt te) (Zj ts ai ag at_ (jI ae)):=
 ⟨fun w e q k=>(vZ (ts:=ts) (tr:=ww te) hi hg ht fun D=>yP he).go w e q k⟩
noncomputable def aI (C:Int->Int->Prop)(g:Int->Int->Dat):AR2:=fun x y M Q=>∃ i j,x=.d (.int i)/\y=.d (.int j)/\C i j/\Q (.d (g i j)) M
noncomputable def aI0 (g:Int->Int->Dat):AR2:=fun x y M Q=>∃ i j,x=.d (.int i)/\y=.d (.int j)/\Q (.d (g i j)) M
theorem V8 {C:Int->Int->Prop}{f:Int->Int->Int}:vX (rI C fun i j=>.int (f i j)) (aI C fun i j=>.int (f i j)):=⟨fun w r1 r2 ⟨i,j,e1,e2,c,q⟩ k=>by
 subst e1 e2;exact ⟨i,j,zv r1,zv r2,c,k _ _ _ _ _ q .refl w .int⟩⟩
theorem XG {f:Int->Int->Int}:vX (rI0 fun i j=>.int (f i j)) (aI0 fun i j=>.int (f i j)):=⟨fun w r1 r2 ⟨i,j,e1,e2,q⟩ k=>by
 subst e1 e2;exact ⟨i,j,zv r1,zv r2,k _ _ _ _ _ q .refl w .int⟩⟩
theorem QK {f:Int->Int->Bool}:vX (rI0 fun i j=>.bl (f i j)) (aI0 fun i j=>.bl (f i j)):=⟨fun w r1 r2 ⟨i,j,e1,e2,q⟩ k=>by
 subst e1 e2;exact ⟨i,j,zv r1,zv r2,k _ _ _ _ _ q .refl w .bl⟩⟩
noncomputable def aU (g:Int->Dat):AV->MH->AK->Prop:=fun x M Q=>∃ i,x=.d (.int i)/\Q (.d (g i)) M
theorem Wc {f:Int->Int}:Ws (rU fun i=>.int (f i)) (aU fun i=>.int (f i)):=⟨fun w r1 ⟨i,e1,q⟩ k=>by
 subst e1;exact ⟨i,zv r1,k _ _ _ _ _ q .refl w .int⟩⟩
noncomputable def eqS:Dat->Dat->Option Bool
 | .non,.non=>some true | .non,.int _=>some false | .int _,.non=>some false | .non,.bl _=>some false | .bl _,.non=>some false | .non,.str _=>some false | .str _,.non=>some false
 | .int i,.int j=>some (decide (i=j)) | .bl a,.bl b=>some (decide (a=b)) | .str a,.str b=>some (decide (a=b))
 | .int _,.str _=>some false | .str _,.int _=>some false | .bl _,.str _=>some false | .str _,.bl _=>some false
 | _,_=>none
noncomputable def qW:AV->Bool
 | .d .non=>true
 | _=>false
theorem JQ {H:Hp}{O:Own}{M:MH}{v:V}{x:AV}(r:zj H O M v x):decide (v=V.non)=qW x:=by
 cases x with
 | ref a=>rw [r.1];rfl
 | d x=>cases (show Rep H O v x from r) <;> rfl
noncomputable def VF (f:Bool->Bool):AR2:=fun x y M Q=>y=.d .non/\Q (.d (.bl (f (qW x)))) M
theorem XY:vX (fun x y H Q=>y=V.non/\Q (V.bl (decide (x=V.non))) H) (VF id):=⟨fun w r1 r2 ⟨e,q⟩ k=>by
 subst e;exact ⟨Xr r2,by rw [JQ r1];exact k _ _ _ _ _ q .refl w .bl⟩⟩
theorem XN {H:Hp}{O:Own}{M:MH}{xs:List V}{l:List AV}(r:zb H O M xs l){i:Int}{x:AV}(h:atI l i=some x):∃ v,atI xs i=some v/\zj H O M v x:=by
 unfold atI at h ⊢
 rw [r.1]
 cases e:ixN l.length i with
 | none=>rw [e] at h;cases h
 | some j=>rw [e] at h;exact r.get h
noncomputable def aIx (s:AV->MH->Option (List AV)):AR2:=fun x y M Q=>∃ l i z,s x M=some l/\y=.d (.int i)/\atI l i=some z/\Q z M
theorem Kt {K:PySem.W.Frag}:vX (wG K) (aIx qm):=⟨fun w r1 r2 ⟨l,i,z,h,e,hz,q⟩ k=>by
 subst e
 obtain ⟨a,xs,rfl,h1,r⟩:=ku w r1 h
 obtain ⟨v,hv,rv⟩:=XN r hz
 exact ⟨a,xs,i,v,rfl,zv r2,h1.elim (fun h=>.inl (SqL.of h)) (fun h=>.inr (SqT.of h)),hv,k _ _ _ _ _ q .refl w rv⟩⟩
structure Yd (r:R2)(a:AV->AV->MH->(List AV->Prop)->Prop):Prop where
 go:∀ {x y:V} {dx dy:AV} {H:Hp} {O:Own} {M:MH} {Q:VK} {Q':List AV->Prop},Wf H O M->zj H O M x dx->zj H O M y dy->a dx dy M Q'->(∀ l ys,Q' l->zb H O M ys l->∀ p,H p=none->Q (.ref p) (upd H p (.lst ys)))->r x y H Q
noncomputable def fOp (r:AV->AV->MH->(List AV->Prop)->Prop)(a b:AE):AF:=fun ρ M Q=>a ρ M fun x M1=>b ρ M1 fun y M2=>r x y M2 fun l=>Q l M2
theorem Xp {r:R2}{ra:AV->AV->MH->(List AV->Prop)->Prop}{t u:TE}{a b:AE}(hr:Yd r ra)(h1:zD t a)(h2:zD u b):yC (tOp r t u) (fOp ra a b):=
 ⟨fun w e q k=>h1.go w e q fun x M1 v H1 O1 q1 k1 w1 r1=>h2.go w1 (e.ext k1) q1 fun y M2 u H2 O2 q2 k2 w2 r2=>hr.go w2 (r1.ext k2) r2 q2 fun l ys q3 r3 p hp=>
  k l M2 p ys _ _ q3 ((k1.trans k2).trans (qf w2 hp _)) (kE w2 hp _ (fun _ z=>nomatch z)) (.inl rfl) (w2.fresh hp).2 (jD w2 (k1.trans k2) hp) zi (r3.ext (qf w2 hp _))⟩
theorem zb.rep {H:Hp}{O:Own}{M:MH}{xs:List V}{l:List AV}(a:zb H O M xs l):∀ k:Nat,zb H O M (List.replicate k xs).flatten (List.replicate k l).flatten
 | 0=>.nil
 | k+1=>by rw [List.replicate_succ,List.replicate_succ,List.flatten_cons,List.flatten_cons];exact a.append (zb.rep a k)
noncomputable def WK:AV->AV->MH->(List AV->Prop)->Prop:=fun x y M Q=>∃ l k,zF x M=some l/\y=.d (.int k)/\-(2 ^ 63)<=k/\k<2 ^ 63/\l.length * k.toNat<=sizeLine/\Q (List.replicate k.toNat l).flatten
theorem Jq:Yd Vx WK:=⟨fun w r1 r2 ⟨l,n,h1,e,b1,b2,hs,q⟩ k=>by
 subst e
 obtain ⟨a,xs,rfl,e1,p1⟩:=zM w r1 h1
 exact ⟨a,n,xs,rfl,zv r2,e1,b1,b2,by rw [p1.1];exact hs,k _ _ q (p1.rep _)⟩⟩
noncomputable abbrev AO:=ASt->MH->(Option Int->MH->Prop)->Prop
structure Ko (t:TO)(a:AO):Prop where
 go:∀ {σ:St} {H:Hp} {O:Own} {ρ:ASt} {M:MH} {Q:Option Int->Hp->Prop} {Q':Option Int->MH->Prop},Wf H O M->Er H O M σ ρ->a ρ M Q'->(∀ x M' H' O',Q' x M'->Ext H O M H' O' M'->Wf H' O' M'->Q x H')->t σ H Q
noncomputable def WJ:AO:=fun _ M Q=>Q none M
noncomputable def Ye (a:AE):AO:=fun ρ M Q=>a ρ M fun x M1=>∃ i,x=.d (.int i)/\Q (some i) M1
theorem K2:Ko yb WJ:=⟨fun w _ q k=>k _ _ _ _ q .refl w⟩
theorem Ke {t:TE}{a:AE}(h:zD t a):Ko (Ku t) (Ye a):=⟨fun w e q k=>h.go w e q fun x M1 v H1 O1 ⟨i,e1,q1⟩ k1 w1 r1=>by
 subst e1;exact ⟨i,zv r1,k _ _ _ _ q1 k1 w1⟩⟩
noncomputable def yS {α:Type}(xs:List α)(lo hi:Option Int):List α:=(xs.drop (HT.sIx xs.length 0 lo)).take (HT.sIx xs.length xs.length hi - HT.sIx xs.length 0 lo)
theorem zb.cut {H:Hp}{O:Own}{M:MH}{xs:List V}{l:List AV}(a:zb H O M xs l)(lo hi:Option Int):zb H O M (yO xs lo hi) (yS l lo hi):=by
 unfold yO yS
 rw [a.1]
 exact (a.drop _).take _
noncomputable def fSl (a:AE)(lo hi:AO):AF:=fun ρ M Q=>a ρ M fun x M1=>lo ρ M1 fun i M2=>hi ρ M2 fun j M3=>∃ l,zF x M3=some l/\Q (yS l i j) M3
theorem Xo {K:PySem.W.Frag}{t:TE}{tl th:TO}{a:AE}{lo hi:AO}(h1:zD t a)(h2:Ko tl lo)(h3:Ko th hi):yC (tSl (YM K) t tl th) (fSl a lo hi):=
 ⟨fun w e q k=>h1.go w e q fun x M1 v H1 O1 q1 k1 w1 r1=>h2.go w1 (e.ext k1) q1 fun i M2 H2 O2 q2 k2 w2=>h3.go w2 (e.ext (k1.trans k2)) q2 fun j M3 H3 O3 ⟨l,hl,q3⟩ k3 w3=>by
  obtain ⟨a,xs,rfl,e1,p1⟩:=zM w3 (r1.ext (k2.trans k3)) hl
  exact ⟨a,xs,rfl,SqL.of e1,fun p hp=>k _ _ p _ _ _ q3 (((k1.trans k2).trans k3).trans (qf w3 hp _)) (kE w3 hp _ (fun _ z=>nomatch z)) (.inl rfl) (w3.fresh hp).2 (jD w3 ((k1.trans k2).trans k3) hp) zi ((p1.cut i j).ext (qf w3 hp _))⟩⟩
theorem wL {H:Hp}{O:Own}{M:MH}(w:Wf H O M){p:Addr}(hp:H p=none){xs:List V}{l:List Dat}(r:zb H O M xs (l.map .d)):zj (upd H p (.tup xs)) O M (.ref p) (.d (.tup l)):=
 have r2:=r.pure
 Rep.tup (w.fresh hp).1 zi r2.1 fun i x d e1 e2=>(r2.2 i x d e1 e2).ext (zV w hp _)
theorem zb.reverse {H:Hp}{O:Own}{M:MH}{xs:List V}{l:List AV}(a:zb H O M xs l):zb H O M xs.reverse l.reverse:=
 ⟨by rw [List.length_reverse,List.length_reverse,a.1],fun i x d h1 h2=>by
  have hi:=(List.getElem?_eq_some_iff.mp h1).1
  rw [List.length_reverse] at hi
  rw [List.getElem?_reverse hi] at h1
  rw [List.getElem?_reverse (by rw [<- a.1];exact hi),<- a.1] at h2
  exact a.2 _ x d h1 h2⟩
noncomputable def WH (a:AE)(st:AO):AE:=fun ρ M Q=>a ρ M fun x M1=>st ρ M1 fun i M2=>i=some (-1)/\((∃ m l,zF x M2=some m/\pur m=some l/\Q (.d (.lst l.reverse)) M2) \/ (∃ l,x=.d (.tup l)/\Q (.d (.tup l.reverse)) M2))
theorem XC {K:PySem.W.Frag}{t:TE}{ts:TO}{a:AE}{st:AO}(h1:zD t a)(h2:Ko ts st):zD (Wj K t ts) (WH a st):=
 ⟨fun w e q k=>h1.go w e q fun x M1 v H1 O1 q1 k1 w1 r1=>h2.go w1 (e.ext k1) q1 fun i M2 H2 O2 ⟨hi,q2⟩ k2 w2=>⟨hi,by
  have k12:=k1.trans k2
  rcases q2 with ⟨m,l,hl,hp,q2⟩ | ⟨l,rfl,q2⟩
  ·rw [qx hp] at hl
   obtain ⟨a,xs,rfl,e1,p1⟩:=zM w2 (r1.ext k2) hl
   have p2:=p1.reverse
   rw [<- List.map_reverse] at p2
   have p3:=p2.pure
   exact ⟨a,xs,rfl,.inl ⟨SqL.of e1,fun p hp=>k _ _ _ _ _ q2 (k12.trans (zV w2 hp _)) (jQ w2 hp _) (Rep.lst (w2.fresh hp).1 zi p3.1 fun i x d e1 e2=>(p3.2 i x d e1 e2).ext (zV w2 hp _))⟩⟩
  ·obtain ⟨a,xs,rfl,e1,p1⟩:=ql (l:=l.map .d) (r1.ext k2) rfl
   have p2:=p1.reverse
   rw [<- List.map_reverse] at p2
   exact ⟨a,xs,rfl,.inr ⟨SqT.of e1,fun p hp=>k _ _ _ _ _ q2 (k12.trans (zV w2 hp _)) (jQ w2 hp _) (wL w2 hp p2)⟩⟩⟩⟩
mutual
noncomputable def eqD:Dat->Dat->Bool
 | .non,.non=>true
 | .bl a,.bl b=>a == b
 | .bl a,.int b=>(if a then 1 else 0) == b
 | .int a,.bl b=>a == (if b then 1 else 0)
 | .int a,.int b=>a == b
 | .str a,.str b=>a == b
 | .lst a,.lst b=>kF a b
 | .tup a,.tup b=>kF a b
 | _,_=>false
noncomputable def kF:List Dat->List Dat->Bool
 | [],[]=>true
 | a :: r,b :: r'=>eqD a b && kF r r'
 | _,_=>false
end
mutual
noncomputable def dp:Dat->Nat
 | .lst l=>dps l+1
 | .tup l=>dps l+1
 | .rng _ _ _=>1000
 | .scr _ _=>1000
 | .ty _=>1000
 | _=>0
noncomputable def dps:List Dat->Nat
 | []=>0
 | a :: r=>max (dp a) (dps r)
end
theorem Qn {l:List Dat}{n:Nat}(h:∀ d ∈ l,dp d<=n):dps l<=n:=by
 induction l with
 | nil=>exact Nat.zero_le _
 | cons a r ih=>rw [dps];exact Nat.max_le.mpr ⟨h a (by simp),ih fun d hd=>h d (by simp [hd])⟩
theorem zJ {l:List Dat}{d:Dat}(h:d ∈ l):dp d<=dps l:=by
 induction l with
 | nil=>cases h
 | cons a r ih=>
  rw [dps]
  rcases List.mem_cons.mp h with rfl | h
  ·exact Nat.le_max_left _ _
  ·exact Nat.le_trans (ih h) (Nat.le_max_right _ _)
theorem qO:∀ (l m:List Dat),l.length=m.length->kF l m=(List.range l.length).all fun j=>eqD (l.getD j .non) (m.getD j .non)
 | [],[],_=>rfl
 | a :: r,b :: r',h=>by
  rw [kF,qO r r' (by simpa using h),List.length_cons,List.range_succ_eq_map,List.all_cons,List.all_map];rfl
 | [],_ :: _,h=>by simp at h
 | _ :: _,[],h=>by simp at h
theorem ja:∀ (l m:List Dat),l.length ≠ m.length->kF l m=false
 | [],[],h=>absurd rfl h
 | a :: r,b :: r',h=>by rw [kF,ja r r' (fun z=>h (by simp [z])),Bool.and_false]
 | [],_ :: _,h=>by simp [kF]
 | _ :: _,[],h=>by simp [kF]
theorem Qi (l m:List Dat):eqD (.lst l) (.tup m)=false:=by simp [eqD]
theorem QB (l m:List Dat):eqD (.tup l) (.lst m)=false:=by simp [eqD]
theorem XW {p:Dat->Prop}(h:∀ a,(∀ b,dp b<dp a->p b)->p a)(a:Dat):p a:=by
 have:∀ n a,dp a<=n->p a:=fun n=>by
  induction n with
  | zero=>intro a ha;exact h a fun b hb=>absurd hb (by omega)
  | succ n ih=>intro a ha;exact h a fun b hb=>ih b (by omega)
 exact this (dp a) a (Nat.le_refl _)
theorem xl {l:List Dat}(h:∀ d ∈ l,eqD d d=true):kF l l=true:=by
 induction l with
 | nil=>rfl
 | cons a r ih=>rw [kF,h a (by simp),ih fun d hd=>h d (by simp [hd])];rfl
theorem yT {a:Dat}:dp a<1000->eqD a a=true:=by
 refine XW (p:=fun a=>dp a<1000->eqD a a=true) (fun a ih ha=>?_) a
 cases a with
 | non=>rfl
 | bl b=>rw [eqD];simp
 | int i=>rw [eqD];simp
 | str x=>rw [eqD];simp
 | lst l=>
  rw [eqD]
  rw [dp] at ha ih
  exact xl fun d hd=>ih d (by have:=zJ hd;omega) (by have:=zJ hd;omega)
 | tup l=>
  rw [eqD]
  rw [dp] at ha ih
  exact xl fun d hd=>ih d (by have:=zJ hd;omega) (by have:=zJ hd;omega)
 | rng a b c=>rw [dp] at ha;omega
 | scr _ l=>rw [dp] at ha;omega
 | ty l=>rw [dp] at ha;omega
theorem Rep.fn {H:Hp}{O O':Own}{v:V}{a b:Dat}(r:Rep H O v a):Rep H O' v b->dp a<1000->dp b<1000->a=b:=by
 induction r generalizing b with
 | non=>intro r' _ _;cases r';rfl
 | bl=>intro r' _ _;cases r';rfl
 | int=>intro r' _ _;cases r';rfl
 | str=>intro r' _ _;cases r';rfl
 | ty=>intro r' h _;rw [dp] at h;omega
 | rng _ _=>intro r' h _;rw [dp] at h;omega
 | scr _ _=>intro r' h _;rw [dp] at h;omega
 | scrK _=>intro r' h _;rw [dp] at h;omega
 | @lst a xs l o1 h1 l1 r1 ih=>
  intro r' ha hb
  cases r' with
  | @lst _ ys m o2 h2 l2 r2=>
   rw [h1] at h2;cases h2
   congr 1
   refine List.ext_getElem (l1.symm.trans l2) fun i i1 i2=>?_
   have i0:i<xs.length:=by omega
   rw [dp] at ha hb
   refine ih i xs[i] l[i] (by simp [i0]) (by simp [i1]) (r2 i xs[i] m[i] (by simp [i0]) (by simp [i2])) ?_ ?_
   ·have:=zJ (List.getElem_mem i1);omega
   ·have:=zJ (List.getElem_mem i2);omega
  | @tup _ ys m o2 h2=>rw [h1] at h2;cases h2
  | rng o2 h2=>rw [dp] at hb;omega
  | scr o2 h2=>rw [dp] at hb;omega
  | scrK _=>rw [dp] at hb;omega
 | @tup a xs l o1 h1 l1 r1 ih=>
  intro r' ha hb
  cases r' with
  | @tup _ ys m o2 h2 l2 r2=>
   rw [h1] at h2;cases h2
   congr 1
   refine List.ext_getElem (l1.symm.trans l2) fun i i1 i2=>?_
   have i0:i<xs.length:=by omega
   rw [dp] at ha hb
   refine ih i xs[i] l[i] (by simp [i0]) (by simp [i1]) (r2 i xs[i] m[i] (by simp [i0]) (by simp [i2])) ?_ ?_
   ·have:=zJ (List.getElem_mem i1);omega
   ·have:=zJ (List.getElem_mem i2);omega
  | @lst _ ys m o2 h2=>rw [h1] at h2;cases h2
  | rng o2 h2=>rw [dp] at hb;omega
  | scr o2 h2=>rw [dp] at hb;omega
  | scrK _=>rw [dp] at hb;omega
section
variable {X:Cx}{pins:List (Addr × Obj)}{s:Shared}{σ:St}{H:Hp}
theorem jc {xs:List V}{us:List Value}(r:zl xs us){j:Nat}(h:j<us.toArray.size):∃ x,xs[j]?=some x/\zp x us.toArray[j]:=by
 have h':j<us.length:=by simpa using h
 have hx:j<xs.length:=by rw [r.length];exact h'
 obtain ⟨u,hu,ru⟩:=r.get (i:=j) (List.getElem?_eq_getElem hx)
 have e:us.toArray[j]=u:=by
  have:=(List.getElem?_eq_some_iff.mp hu).2
  simpa using this
 exact ⟨xs[j],List.getElem?_eq_getElem hx,by rw [e];exact ru⟩
theorem Q2 (I : Inv X pins σ H s){A : Around}{p q : Addr}{O O' : Own}{a b : Dat}(ih : ∀ (c d : Dat) (v u : V) (v' u' : Value), dp c < dp a -> Rep H O v c -> Rep H O' u d -> dp d < 1000 -> zp v v' -> zp u u' -> SeqAt.EqAt A.in1 s v' u' (eqD c d))
    (ra:Rep H O (.ref p) a) (rb:Rep H O' (.ref q) b) (ha:dp a<1000) (hb:dp b<1000) (hu:A.units<cLine):SeqAt.RcAt A s (.ref p) (.ref q) (eqD a b):=by
  cases ra with
  | @lst _ xs l o1 h1 l1 r1=>
    obtain ⟨us,u1,p1,z1⟩:=I.list (SqL.of h1)
    cases rb with
    | @lst _ ys m o2 h2 l2 r2=>
      obtain ⟨ws,u2,p2,z2⟩:=I.list (SqL.of h2)
      have s1:us.toArray.size=l.length:=by rw [List.size_toArray,<- u1.length,l1]
      have s2:ws.toArray.size=m.length:=by rw [List.size_toArray,<- u2.length,l2]
      by_cases e:l.length=m.length
      · have h := SeqAt.RcAt.lists (A := A) (e := fun j => eqD (l.getD j .non) (m.getD j .non)) p1.isList p2.isList (by rw [s1, s2, e]) hu (fun j j1 j2 => by
          obtain ⟨x,hx,rx⟩:=jc u1 j1
          obtain ⟨y,hy,ry⟩:=jc u2 j2
          have k1:j<l.length:=by rw [<- s1];exact j1
          have k2:j<m.length:=by rw [<- s2];exact j2
          rw [dp] at ha hb ih
          refine ih _ _ x y _ _ ?_ (r1 j x _ hx ?_) (r2 j y _ hy ?_) ?_ rx ry
          · rw [List.getD_eq_getElem?_getD,List.getElem?_eq_getElem k1]
            have:=zJ (List.getElem_mem k1);show dp l[j]<_;omega
          · rw [List.getD_eq_getElem?_getD,List.getElem?_eq_getElem k1];rfl
          · rw [List.getD_eq_getElem?_getD,List.getElem?_eq_getElem k2];rfl
          · rw [List.getD_eq_getElem?_getD,List.getElem?_eq_getElem k2]
            have:=zJ (List.getElem_mem k2);show dp m[j]<_;omega)
        rw [s1,<- qO l m e] at h
        rw [eqD];exact h
      · rw [eqD,ja l m e]
        exact SeqAt.RcAt.lists_lengths p1.isList p2.isList (by rw [s1,s2];simpa using e) hu
    | @tup _ ys m o2 h2 l2 r2=>
      obtain ⟨ws,u2,p2,z2⟩:=I.tuple (SqT.of h2)
      rw [Qi]
      exact SeqAt.RcAt.list_tuple p1.isList p2 hu
    | rng o2 h2=>rw [dp] at hb;omega
    | scr o2 h2=>rw [dp] at hb;omega
    | scrK _=>rw [dp] at hb;omega
  | @tup _ xs l o1 h1 l1 r1=>
    obtain ⟨us,u1,p1,z1⟩:=I.tuple (SqT.of h1)
    cases rb with
    | @tup _ ys m o2 h2 l2 r2=>
      obtain ⟨ws,u2,p2,z2⟩:=I.tuple (SqT.of h2)
      have s1:us.toArray.size=l.length:=by rw [List.size_toArray,<- u1.length,l1]
      have s2:ws.toArray.size=m.length:=by rw [List.size_toArray,<- u2.length,l2]
      have h := SeqAt.RcAt.tuples (A := A) (e := fun j => eqD (l.getD j .non) (m.getD j .non)) (show s.heap.IsTuple p us.toArray from p1) (show s.heap.IsTuple q ws.toArray from p2) hu (fun j j1 j2 => by
          obtain ⟨x,hx,rx⟩:=jc u1 j1
          obtain ⟨y,hy,ry⟩:=jc u2 j2
          have k1:j<l.length:=by rw [<- s1];exact j1
          have k2:j<m.length:=by rw [<- s2];exact j2
          rw [dp] at ha hb ih
          refine ih _ _ x y _ _ ?_ (r1 j x _ hx ?_) (r2 j y _ hy ?_) ?_ rx ry
          · rw [List.getD_eq_getElem?_getD,List.getElem?_eq_getElem k1]
            have:=zJ (List.getElem_mem k1);show dp l[j]<_;omega
          · rw [List.getD_eq_getElem?_getD,List.getElem?_eq_getElem k1];rfl
          · rw [List.getD_eq_getElem?_getD,List.getElem?_eq_getElem k2];rfl
          · rw [List.getD_eq_getElem?_getD,List.getElem?_eq_getElem k2]
            have:=zJ (List.getElem_mem k2);show dp m[j]<_;omega)
      rw [s1,s2] at h
      rw [eqD]
      by_cases e:l.length=m.length
      · rw [<- e,Nat.min_self,beq_self_eq_true,Bool.and_true,<- qO l m e] at h
        exact h
      · rw [ja l m e]
        rw [show (l.length == m.length)=false by simpa using e,Bool.and_false] at h
        exact h
    | @lst _ ys m o2 h2 l2 r2=>
      obtain ⟨ws,u2,p2,z2⟩:=I.list (SqL.of h2)
      rw [QB]
      exact SeqAt.RcAt.tuple_list p1 p2.isList hu
    | rng o2 h2=>rw [dp] at hb;omega
    | scr o2 h2=>rw [dp] at hb;omega
    | scrK _=>rw [dp] at hb;omega
  | rng o2 h2=>rw [dp] at ha;omega
  | scr o2 h2=>rw [dp] at ha;omega
  | scrK _=>rw [dp] at ha;omega
theorem W9 (I:Inv X pins σ H s){a:Addr}{xs:List V}(h:H a=some (.lst xs)):∃ us,s.heap.IsList a us:=let ⟨_,_,p,_⟩:=I.list (SqL.of h);⟨_,p.isList⟩
theorem W3 (I:Inv X pins σ H s){a:Addr}{xs:List V}(h:H a=some (.tup xs)):∃ us,s.heap.IsTuple a us:=let ⟨_,_,p,_⟩:=I.tuple (SqT.of h);⟨_,p⟩
local macro_rules | `(tactic| walk_at "sc")=>`(tactic| first
 | with_reducible exact .same _ | with_reducible exact .none_none | with_reducible exact .none_bool _ | with_reducible exact .none_int _ _ | with_reducible exact .none_str _ _ | with_reducible exact .bool_none _ | with_reducible exact .bool_bool _ _ | with_reducible exact .bool_int _ _ _ | with_reducible exact .bool_str _ _ _ | with_reducible exact .int_none _ _ | with_reducible exact .int_bool _ _ _ | with_reducible exact .int_int _ _ _ _ | with_reducible exact .int_str _ _ _ _ | with_reducible exact .str_none _ _ | with_reducible exact .str_bool _ _ _ | with_reducible exact .str_int _ _ _ _ | with_reducible exact .str_str _ _ _ _)
theorem ls_ (I:Inv X pins σ H s){a:Addr}{xs:List V}(h:H a=some (.lst xs)):s.heap.IsList a (Classical.choose (W9 I h)):=Classical.choose_spec _
theorem ts_ (I:Inv X pins σ H s){a:Addr}{xs:List V}(h:H a=some (.tup xs)):s.heap.IsTuple a (Classical.choose (W3 I h)):=Classical.choose_spec _
local macro_rules | `(tactic| walk_at "sq")=>`(tactic| first
 | with_reducible exact .none_list (ls_ (by assumption) (by assumption)) (by assumption) | with_reducible exact .bool_list _ (ls_ (by assumption) (by assumption)) (by assumption) | with_reducible exact .int_list _ _ (ls_ (by assumption) (by assumption)) (by assumption) | with_reducible exact .str_list _ _ (ls_ (by assumption) (by assumption)) (by assumption) | with_reducible exact .list_none (ls_ (by assumption) (by assumption)) (by assumption) | with_reducible exact .list_bool _ (ls_ (by assumption) (by assumption)) (by assumption) | with_reducible exact .list_int _ _ (ls_ (by assumption) (by assumption)) (by assumption) | with_reducible exact .list_str _ _ (ls_ (by assumption) (by assumption)) (by assumption)
 | with_reducible exact .none_tuple (ts_ (by assumption) (by assumption)) (by assumption) | with_reducible exact .bool_tuple _ (ts_ (by assumption) (by assumption)) (by assumption) | with_reducible exact .int_tuple _ _ (ts_ (by assumption) (by assumption)) (by assumption) | with_reducible exact .str_tuple _ _ (ts_ (by assumption) (by assumption)) (by assumption) | with_reducible exact .tuple_none (ts_ (by assumption) (by assumption)) (by assumption) | with_reducible exact .tuple_bool _ (ts_ (by assumption) (by assumption)) (by assumption) | with_reducible exact .tuple_int _ _ (ts_ (by assumption) (by assumption)) (by assumption) | with_reducible exact .tuple_str _ _ (ts_ (by assumption) (by assumption)) (by assumption))
theorem Zo (I : Inv X pins σ H s){O O' : Own}(A : Around)(hu : A.units < cLine)(a b : Dat)(v u : V)(v' u' : Value)(ha : dp a < 1000)(ra : Rep H O v a)(rb : Rep H O' u b)(hb : dp b < 1000)(rv : zp v v')(ru : zp u u')
    (ih:∀ (c d:Dat) (v u:V) (v' u':Value),dp c<dp a->Rep H O v c->Rep H O' u d->dp d<1000->zp v v'->zp u u'->SeqAt.EqAt A.in1 s v' u' (eqD c d)):SeqAt.EqAt A s v' u' (eqD a b):=by
  by_cases hr:∃ p q,v=.ref p/\u=.ref q
  · obtain ⟨p,q,rfl,rfl⟩:=hr
    cases rv
    cases ru
    by_cases e:p=q
    · subst e
      rw [<- ra.fn rb ha hb,yT ha]
      exact .same _
    · exact .of_refs e (Q2 I ih ra rb ha hb hu)
  · cases ra <;> cases rb <;> first
      | with_reducible exact absurd ⟨_,_,rfl,rfl⟩ hr
      | (rw [dp] at ha;omega)
      | (rw [dp] at hb;omega)
      | ((first | (obtain ⟨t0,rfl⟩:=rv) | cases rv);(first | (obtain ⟨t1,rfl⟩:=ru) | cases ru);simp only [eqD,Bool.not_false,Bool.not_true];first | walk_at "sc" | walk_at "sq")
theorem Q1 (I:Inv X pins σ H s){O O':Own}:∀ (n:Nat) (A:Around),A.units+n<cLine->∀ (a b:Dat) (v u:V) (v' u':Value),dp a<=n->n<1000->Rep H O v a->Rep H O' u b->dp b<1000->zp v v'->zp u u'->SeqAt.EqAt A s v' u' (eqD a b):=by
 intro n
 induction n with
 | zero=>
  intro A hu a b v u v' u' ha _ ra rb hb rv ru
  exact Zo I A (by omega) a b v u v' u' (by omega) ra rb hb rv ru fun _ _ _ _ _ _ h=>absurd h (by omega)
 | succ n ih=>
  intro A hu a b v u v' u' ha hn ra rb hb rv ru
  exact Zo I A (by omega) a b v u v' u' (by omega) ra rb hb rv ru fun c d x y x' y' hc rc rd hd rx ry=>ih A.in1 (by show A.units+1+n<_;omega) c d x y x' y' (by omega) (by omega) rc rd hd rx ry
noncomputable def YG (f:Bool->Bool):R2:=fun x y H Q=>∃ O O' a b,Rep H O x a/\Rep H O' y b/\dp a<=40/\dp b<=40/\Q (.bl (f (eqD a b))) H
theorem YB (I:Inv X pins σ H s){O O':Own}(A:Around)(hu:A.units+41<cLine)(a b:Dat)(v u:V)(v' u':Value)(ha:dp a<=40)(ra:Rep H O v a)(rb:Rep H O' u b)(hb:dp b<=40)(rv:zp v v')(ru:zp u u'):SeqAt.RcAt A s v' u' (eqD a b):=by
  have ih:∀ (c d:Dat) (v u:V) (v' u':Value),dp c<dp a->Rep H O v c->Rep H O' u d->dp d<1000->zp v v'->zp u u'->SeqAt.EqAt A.in1 s v' u' (eqD c d):=fun c d v u v' u' hc rc rd hd rv ru=>Q1 I 40 A.in1 (by show A.units+1+40<_;omega) c d v u v' u' (by omega) (by omega) rc rd hd rv ru
  replace hu:A.units<cLine:=by omega
  by_cases hr:∃ p q,v=.ref p/\u=.ref q
  · obtain ⟨p,q,rfl,rfl⟩:=hr
    cases rv
    cases ru
    exact Q2 I ih ra rb (by omega) (by omega) hu
  · cases ra <;> cases rb <;> first
      | with_reducible exact absurd ⟨_,_,rfl,rfl⟩ hr
      | (rw [dp] at ha;omega)
      | (rw [dp] at hb;omega)
      | ((first | (obtain ⟨t0,rfl⟩:=rv) | cases rv);(first | (obtain ⟨t1,rfl⟩:=ru) | cases ru);simp only [eqD,Bool.not_false,Bool.not_true];first | walk_at "sc" | walk_at "sq")
theorem Q0 (I : Inv X pins σ H s){A : Around}{p q : Addr}{O O' : Own}{a b : Dat}(ih : ∀ (c d : Dat) (v u : V) (v' u' : Value), dp c < dp a -> Rep H O v c -> Rep H O' u d -> dp d < 1000 -> zp v v' -> zp u u' -> SeqAt.EqAt A.in1 s v' u' (eqD c d))
    (ra:Rep H O (.ref p) a) (rb:Rep H O' (.ref q) b) (ha:dp a<1000) (hb:dp b<1000) (hu:A.units<cLine):SeqAt.RcNeAt A s (.ref p) (.ref q) (!(eqD a b)):=by
  cases ra with
  | @lst _ xs l o1 h1 l1 r1=>
    obtain ⟨us,u1,p1,z1⟩:=I.list (SqL.of h1)
    cases rb with
    | @lst _ ys m o2 h2 l2 r2=>
      obtain ⟨ws,u2,p2,z2⟩:=I.list (SqL.of h2)
      have s1:us.toArray.size=l.length:=by rw [List.size_toArray,<- u1.length,l1]
      have s2:ws.toArray.size=m.length:=by rw [List.size_toArray,<- u2.length,l2]
      by_cases e:l.length=m.length
      · have h := SeqAt.RcNeAt.lists (A := A) (e := fun j => eqD (l.getD j .non) (m.getD j .non)) p1.isList p2.isList (by rw [s1, s2, e]) hu (fun j j1 j2 => by
          obtain ⟨x,hx,rx⟩:=jc u1 j1
          obtain ⟨y,hy,ry⟩:=jc u2 j2
          have k1:j<l.length:=by rw [<- s1];exact j1
          have k2:j<m.length:=by rw [<- s2];exact j2
          rw [dp] at ha hb ih
          refine ih _ _ x y _ _ ?_ (r1 j x _ hx ?_) (r2 j y _ hy ?_) ?_ rx ry
          · rw [List.getD_eq_getElem?_getD,List.getElem?_eq_getElem k1]
            have:=zJ (List.getElem_mem k1);show dp l[j]<_;omega
          · rw [List.getD_eq_getElem?_getD,List.getElem?_eq_getElem k1];rfl
          · rw [List.getD_eq_getElem?_getD,List.getElem?_eq_getElem k2];rfl
          · rw [List.getD_eq_getElem?_getD,List.getElem?_eq_getElem k2]
            have:=zJ (List.getElem_mem k2);show dp m[j]<_;omega)
        rw [s1,<- qO l m e] at h
        rw [eqD];exact h
      · rw [eqD,ja l m e]
        exact SeqAt.RcNeAt.lists_lengths p1.isList p2.isList (by rw [s1,s2];simpa using e) hu
    | @tup _ ys m o2 h2 l2 r2=>
      obtain ⟨ws,u2,p2,z2⟩:=I.tuple (SqT.of h2)
      rw [Qi]
      exact SeqAt.RcNeAt.list_tuple p1.isList p2 hu
    | rng o2 h2=>rw [dp] at hb;omega
    | scr o2 h2=>rw [dp] at hb;omega
    | scrK _=>rw [dp] at hb;omega
  | @tup _ xs l o1 h1 l1 r1=>
    obtain ⟨us,u1,p1,z1⟩:=I.tuple (SqT.of h1)
    cases rb with
    | @tup _ ys m o2 h2 l2 r2=>
      obtain ⟨ws,u2,p2,z2⟩:=I.tuple (SqT.of h2)
      have s1:us.toArray.size=l.length:=by rw [List.size_toArray,<- u1.length,l1]
      have s2:ws.toArray.size=m.length:=by rw [List.size_toArray,<- u2.length,l2]
      have h := SeqAt.RcNeAt.tuples (A := A) (e := fun j => eqD (l.getD j .non) (m.getD j .non)) (show s.heap.IsTuple p us.toArray from p1) (show s.heap.IsTuple q ws.toArray from p2) hu (fun j j1 j2 => by
          obtain ⟨x,hx,rx⟩:=jc u1 j1
          obtain ⟨y,hy,ry⟩:=jc u2 j2
          have k1:j<l.length:=by rw [<- s1];exact j1
          have k2:j<m.length:=by rw [<- s2];exact j2
          rw [dp] at ha hb ih
          refine ih _ _ x y _ _ ?_ (r1 j x _ hx ?_) (r2 j y _ hy ?_) ?_ rx ry
          · rw [List.getD_eq_getElem?_getD,List.getElem?_eq_getElem k1]
            have:=zJ (List.getElem_mem k1);show dp l[j]<_;omega
          · rw [List.getD_eq_getElem?_getD,List.getElem?_eq_getElem k1];rfl
          · rw [List.getD_eq_getElem?_getD,List.getElem?_eq_getElem k2];rfl
          · rw [List.getD_eq_getElem?_getD,List.getElem?_eq_getElem k2]
            have:=zJ (List.getElem_mem k2);show dp m[j]<_;omega)
      rw [s1,s2] at h
      rw [eqD]
      by_cases e:l.length=m.length
      · rw [<- e,Nat.min_self,beq_self_eq_true,Bool.and_true,<- qO l m e] at h
        exact h
      · rw [ja l m e]
        rw [show (l.length == m.length)=false by simpa using e,Bool.and_false] at h
        exact h
    | @lst _ ys m o2 h2 l2 r2=>
      obtain ⟨ws,u2,p2,z2⟩:=I.list (SqL.of h2)
      rw [QB]
      exact SeqAt.RcNeAt.tuple_list p1 p2.isList hu
    | rng o2 h2=>rw [dp] at hb;omega
    | scr o2 h2=>rw [dp] at hb;omega
    | scrK _=>rw [dp] at hb;omega
  | rng o2 h2=>rw [dp] at ha;omega
  | scr o2 h2=>rw [dp] at ha;omega
  | scrK _=>rw [dp] at ha;omega
theorem Jx (I:Inv X pins σ H s){O O':Own}(A:Around)(hu:A.units+41<cLine)(a b:Dat)(v u:V)(v' u':Value)(ha:dp a<=40)(ra:Rep H O v a)(rb:Rep H O' u b)(hb:dp b<=40)(rv:zp v v')(ru:zp u u'):SeqAt.RcNeAt A s v' u' (!(eqD a b)):=by
  have ih:∀ (c d:Dat) (v u:V) (v' u':Value),dp c<dp a->Rep H O v c->Rep H O' u d->dp d<1000->zp v v'->zp u u'->SeqAt.EqAt A.in1 s v' u' (eqD c d):=fun c d v u v' u' hc rc rd hd rv ru=>Q1 I 40 A.in1 (by show A.units+1+40<_;omega) c d v u v' u' (by omega) (by omega) rc rd hd rv ru
  replace hu:A.units<cLine:=by omega
  by_cases hr:∃ p q,v=.ref p/\u=.ref q
  · obtain ⟨p,q,rfl,rfl⟩:=hr
    cases rv
    cases ru
    exact Q0 I ih ra rb (by omega) (by omega) hu
  · cases ra <;> cases rb <;> first
      | with_reducible exact absurd ⟨_,_,rfl,rfl⟩ hr
      | (rw [dp] at ha;omega)
      | (rw [dp] at hb;omega)
      | ((first | (obtain ⟨t0,rfl⟩:=rv) | cases rv);(first | (obtain ⟨t1,rfl⟩:=ru) | cases ru);simp only [eqD,Bool.not_false,Bool.not_true];first | walk_at "sc" | walk_at "sq")
theorem qk (hu:X.A.units+64<cLine):OpR X (compareOp .Eq) (YG id):=by
 intro pins s σ H x y v u Q I rx ry h
 obtain ⟨O,O',a,b,ra,rb,ha,hb,k⟩:=h
 exact YB I X.A (by omega) a b x y v u ha ra rb hb rx ry _ _ _ _ ⟨.bl _,H,I,rfl,k⟩
theorem Q8 (hu:X.A.units+64<cLine):OpR X (compareOp .NotEq) (YG not):=by
 intro pins s σ H x y v u Q I rx ry h
 obtain ⟨O,O',a,b,ra,rb,ha,hb,k⟩:=h
 exact Jx I X.A (by omega) a b x y v u ha ra rb hb rx ry _ _ _ _ ⟨.bl _,H,I,rfl,k⟩
end
noncomputable def jf (x:AV)(M:MH):Option Dat:=match x with
 | .d x=>some x
 | .ref a=>match M a with
  | some (.lst l)=>(pur l).map .lst
  | _=>none
theorem Vl (x:Dat)(M:MH):jf (.d x) M=some x:=rfl
theorem yG {a:Addr}{M:MH}{l:List AV}{ds:List Dat}(h:M a=some (.lst l))(hp:pur l=some ds):jf (.ref a) M=some (.lst ds):=by unfold jf;dsimp only;rw [h];dsimp only;rw [hp];rfl
theorem yV {H:Hp}{O:Own}{M:MH}{v:V}{x:AV}{d:Dat}(w:Wf H O M)(r:zj H O M v x)(h:jf x M=some d):∃ O',Rep H O' v d:=by
 cases x with
 | d x=>cases h;exact ⟨O,r⟩
 | ref a=>
  unfold jf at h
  dsimp only at h
  cases e:M a with
  | none=>rw [e] at h;cases h
  | some o=>
   rw [e] at h
   cases o with
   | lst l=>
    dsimp only at h
    cases ep:pur l with
    | none=>rw [ep] at h;cases h
    | some ds=>
     rw [ep] at h
     cases h
     obtain ⟨xs,hx,rx⟩:=w.mo a _ e
     rw [qx ep] at rx
     have rp:=rx.pure
     refine ⟨KW O a,?_⟩
     rw [r.1]
     exact Rep.lst (fun z=>z.1 rfl) hx rp.1 fun i x d e1 e2=>(rp.2 i x d e1 e2).imp (jV a)
   | _=>cases h
noncomputable def ZH (f:Bool->Bool):AR2:=fun x y M Q=>∃ a b,jf x M=some a/\jf y M=some b/\dp a<=40/\dp b<=40/\Q (.d (.bl (f (eqD a b)))) M
theorem Xl {f:Bool->Bool}:vX (YG f) (ZH f):=⟨fun w r1 r2 ⟨a,b,e1,e2,h1,h2,q⟩ k=>by
 obtain ⟨O1,p1⟩:=yV w r1 e1
 obtain ⟨O2,p2⟩:=yV w r2 e2
 exact ⟨O1,O2,a,b,p1,p2,h1,h2,k _ _ _ _ _ q .refl w .bl⟩⟩
theorem jy (i:Int):dp (.int i)=0:=by simp [dp]
theorem K3 (ns:List Int):dp (.lst (ns.map .int))<=1:=by
 rw [dp]
 have:dps (ns.map Dat.int)<=0:=Qn fun d hd=>by
  obtain ⟨i,_,rfl⟩:=List.mem_map.mp hd
  rw [jy];exact Nat.le_refl _
 omega
theorem qr {H:Hp}{O:Own}{M:MH}{vs:List V}{x:AV}(r:zb H O M vs [x]):∃ v,vs=[v]/\zj H O M v x:=by
 obtain ⟨v1,r',rfl,a1,r2⟩:=r.cons_inv
 rw [r2.nil_inv];exact ⟨v1,rfl,a1⟩
theorem jA {H:Hp}{O:Own}{M:MH}{vs:List V}{x y:AV}(r:zb H O M vs [x,y]):∃ v u,vs=[v,u]/\zj H O M v x/\zj H O M u y:=by
 obtain ⟨v1,r',rfl,a1,r2⟩:=r.cons_inv
 obtain ⟨v2,rfl,a2⟩:=qr r2
 exact ⟨v1,v2,rfl,a1,a2⟩
noncomputable def V5:List AV->MH->AK->Prop:=fun xs M Q=>∃ x l,xs=[x]/\qm x M=some l/\Q (.d (.int (l.length:Nat))) M
theorem KY {K:PySem.W.Frag}:yp (fun xs H Q=>∃ p ys,xs=[V.ref p]/\(SqL K H p ys \/ SqT K H p ys)/\Q (V.int ys.length) H) V5:=⟨fun w r ⟨x,l,e,h,q⟩ k=>by
 subst e
 obtain ⟨v,rfl,rv⟩:=qr r
 obtain ⟨a,xs,rfl,h1,r1⟩:=ku w rv h
 exact ⟨a,xs,rfl,h1.elim (fun h=>.inl (SqL.of h)) (fun h=>.inr (SqT.of h)),by rw [r1.1];exact k _ _ _ _ _ q .refl w .int⟩⟩
noncomputable def bI2 (f:Int->Int->Int):List AV->MH->AK->Prop:=fun xs M Q=>∃ i j,xs=[.d (.int i),.d (.int j)]/\Q (.d (.int (f i j))) M
theorem YL {f:Int->Int->Int}:yp (fun xs H Q=>∃ i j,xs=[V.int i,V.int j]/\Q (V.int (f i j)) H) (bI2 f):=⟨fun w r ⟨i,j,e,q⟩ k=>by
 subst e
 obtain ⟨v,u,rfl,rv,ru⟩:=jA r
 exact ⟨i,j,by rw [zv rv,zv ru],k _ _ _ _ _ q .refl w .int⟩⟩
noncomputable def Yh:List AV->MH->AK->Prop:=fun xs M Q=>∃ c,xs=[.d (.bl c)]/\Q (.d (.int (if c=true then 1 else 0))) M
theorem Qx:yp (fun xs H Q=>∃ k,xs=[V.bl k]/\Q (V.int (if k=true then 1 else 0)) H) Yh:=⟨fun w r ⟨c,e,q⟩ k=>by
 subst e
 obtain ⟨v,rfl,rv⟩:=qr r
 exact ⟨c,by rw [j4 rv],k _ _ _ _ _ q .refl w .int⟩⟩
noncomputable def Ja:List AV->MH->AK->Prop:=fun xs M Q=>∃ x l ds,xs=[x]/\qm x M=some l/\pur l=some ds/\Q (.d (.tup ds)) M
theorem Zz {K:PySem.W.Frag}:yp (fun xs H Q=>∃ p ys,xs=[V.ref p]/\((SqL K H p ys/\∀ l,H l=none->Q (V.ref l) (upd H l (HO.tup ys))) \/ SqT K H p ys/\Q (V.ref p) H)) Ja:=⟨fun w r ⟨x,l,ds,e,h,hp,q⟩ k=>by
 subst e
 obtain ⟨v,rfl,rv⟩:=qr r
 rw [qx hp] at h
 rcases qG h with h' | ⟨m,rfl,e2⟩
 ·obtain ⟨a,xs,rfl,h1,r1⟩:=zM w rv h'
  exact ⟨a,xs,rfl,.inl ⟨SqL.of h1,fun p hp=>k _ _ _ _ _ q (zV w hp _) (jQ w hp _) (wL w hp r1)⟩⟩
 ·obtain rfl:ds=m:=by have:=congrArg pur e2;rw [qv,qv] at this;cases this;rfl
  obtain ⟨a,xs,rfl,h1,r1⟩:=ql (l:=ds.map .d) rv rfl
  exact ⟨a,xs,rfl,.inr ⟨SqT.of h1,k _ _ _ _ _ q .refl w rv⟩⟩⟩
structure Q9 (r:List V->Hp->VK->Prop)(a:List AV->MH->(List AV->Prop)->Prop):Prop where
 go:∀ {vs:List V} {xs:List AV} {H:Hp} {O:Own} {M:MH} {Q:VK} {Q':List AV->Prop},Wf H O M->zb H O M vs xs->a xs M Q'->(∀ l ys,Q' l->zb H O M ys l->∀ p,H p=none->Q (.ref p) (upd H p (.lst ys)))->r vs H Q
noncomputable def fCB (r:List AV->MH->(List AV->Prop)->Prop)(b:AA):AF:=fun ρ M Q=>b ρ M fun xs M1=>r xs M1 fun l=>Q l M1
theorem xS {r:List V->Hp->VK->Prop}{ra:List AV->MH->(List AV->Prop)->Prop}{u:TA}{b:AA}(hr:Q9 r ra)(h:jx u b):yC (tCB r u) (fCB ra b):=
 ⟨fun w e q k=>h.go w e q fun x M1 v H1 O1 q1 k1 w1 r1=>hr.go w1 r1 q1 fun l ys q3 r3 p hp=>
  k l M1 p ys _ _ q3 (k1.trans (qf w1 hp _)) (kE w1 hp _ (fun _ z=>nomatch z)) (.inl rfl) (w1.fresh hp).2 (jD w1 k1 hp) zi (r3.ext (qf w1 hp _))⟩
noncomputable def Ju:List AV->MH->(List AV->Prop)->Prop:=fun xs M Q=>∃ x l,xs=[x]/\qm x M=some l/\Q l
theorem xH {K:PySem.W.Frag}:Q9 (fun xs H Q=>∃ p ys,xs=[V.ref p]/\(SqL K H p ys \/ SqT K H p ys)/\∀ l,H l=none->Q (V.ref l) (upd H l (HO.lst ys))) Ju:=⟨fun w r ⟨x,l,e,h,q⟩ k=>by
 subst e
 obtain ⟨v,rfl,rv⟩:=qr r
 obtain ⟨a,xs,rfl,h1,r1⟩:=ku w rv h
 exact ⟨a,xs,rfl,h1.elim (fun h=>.inl (SqL.of h)) (fun h=>.inr (SqT.of h)),k _ _ q r1⟩⟩
theorem jd {H:Hp}{O:Own}{M:MH}:∀ {ns:List Int} {xs:List V},zb H O M xs (ns.map fun i=>AV.d (.int i))->xs=ns.map V.int
 | [],xs,r=>r.nil_inv
 | i :: ns,xs,r=>by
  obtain ⟨v,r',rfl,a1,r2⟩:=r.cons_inv
  rw [zv a1,jd r2];rfl
noncomputable def tyA (x:AV)(M:MH):Option String:=match x with
 | .d .non=>some "NoneType"
 | .d (.bl _)=>some "bool"
 | .d (.int _)=>some "int"
 | .d (.str _)=>some "str"
 | .d (.lst _)=>some "list"
 | .d (.tup _)=>some "tuple"
 | .ref a=>match M a with
  | some (.lst _)=>some "list"
  | some (.dK _)=>some "dict"
  | _=>none
 | _=>none
theorem QV {K:PySem.W.Frag}{H:Hp}{O:Own}{M:MH}{v:V}{x:AV}{t:String}(w:Wf H O M)(r:zj H O M v x)(h:tyA x M=some t):qZ K H v (.type t):=by
 cases x with
 | d x=>
  cases (show Rep H O v x from r) with
  | non=>cases h;exact .non
  | bl=>cases h;exact .bl _
  | int=>cases h;exact .int _
  | str=>cases h;exact .str _
  | lst o e=>cases h;exact .lst e
  | tup o e=>cases h;exact .tup e
  | ty=>cases h
  | rng _ _=>cases h
  | scr _ _=>cases h
  | scrK _=>cases h
 | ref a=>
  unfold tyA at h
  dsimp only at h
  rw [r.1]
  cases e:M a with
  | none=>rw [e] at h;cases h
  | some o=>
   rw [e] at h
   have:=w.mo a o e
   cases o with
   | lst l=>cases h;obtain ⟨xs,hx,_⟩:=this;exact .lst hx
   | dK l=>cases h;obtain ⟨xs,hx,_⟩:=this;exact .dK hx
   | ins C fs=>cases h
   | exc C fs=>cases h
   | tb R=>cases h
noncomputable def XS:List AV->MH->AK->Prop:=fun xs M Q=>∃ x t c b,xs=[x,.d (.ty c)]/\tyA x M=some t/\isT t c=some b/\Q (.d (.bl b)) M
theorem KQ {K:PySem.W.Frag}:yp (fun xs H Q=>∃ x t c b,xs=[x,V.ty c]/\qZ K H x (Value.type t)/\isT t c=some b/\Q (V.bl b) H) XS:=⟨fun w r ⟨x,t,c,b,e,h,hb,q⟩ k=>by
 subst e
 obtain ⟨v,u,rfl,rv,ru⟩:=jA r
 exact ⟨v,t,c,b,by rw [Jr ru],QV w rv h,hb,k _ _ _ _ _ q .refl w .bl⟩⟩
theorem wM {H:Hp}{O:Own}{M:MH}:∀ {ns:List String} {xs:List V},zb H O M xs ((ns.map Dat.ty).map .d)->xs=ns.map V.ty
 | [],xs,r=>r.nil_inv
 | i :: ns,xs,r=>by
  obtain ⟨v,r',rfl,a1,r2⟩:=r.cons_inv
  rw [Jr a1,wM r2];rfl
noncomputable def yH:List Dat->Option (List String)
 | []=>some []
 | .ty n :: r=>(yH r).map (n :: ·)
 | _=>none
theorem Zn:∀ {l:List Dat} {cs:List String},yH l=some cs->l=cs.map Dat.ty
 | [],cs,h=>by cases h;rfl
 | .ty n :: r,cs,h=>by
  unfold yH at h
  cases e:yH r with
  | none=>rw [e] at h;cases h
  | some m=>rw [e] at h;cases h;rw [Zn e];rfl
 | .non :: _,_,h=>by cases h
 | .bl _ :: _,_,h=>by cases h
 | .int _ :: _,_,h=>by cases h
 | .str _ :: _,_,h=>by cases h
 | .lst _ :: _,_,h=>by cases h
 | .tup _ :: _,_,h=>by cases h
 | .rng _ _ _ :: _,_,h=>by cases h
 | .scr _ _ :: _,_,h=>by cases h
noncomputable def QP:List AV->MH->AK->Prop:=fun xs M Q=>∃ x t l cs b,xs=[x,.d (.tup l)]/\yH l=some cs/\tyA x M=some t/\ke t cs=some b/\Q (.d (.bl b)) M
theorem JH {K:PySem.W.Frag}:yp (fun xs H Q=>∃ x t p cs b,xs=[x,V.ref p]/\H p=some (HO.tup (List.map V.ty cs))/\qZ K H x (Value.type t)/\ke t cs=some b/\Q (V.bl b) H) QP:=⟨fun w r ⟨x,t,l,cs,b,e,hc,h,hb,q⟩ k=>by
 subst e
 obtain ⟨v,u,rfl,rv,ru⟩:=jA r
 rw [Zn hc] at ru
 obtain ⟨a,xs,rfl,h1,r1⟩:=ql (l:=(cs.map Dat.ty).map .d) ru rfl
 rw [wM r1] at h1
 exact ⟨v,t,a,cs,b,rfl,h1,QV w rv h,hb,k _ _ _ _ _ q .refl w .bl⟩⟩
theorem Ze {H:Hp}{O:Own}{M:MH}:∀ {ns:List Bool} {xs:List V},zb H O M xs (ns.map fun i=>AV.d (.bl i))->xs=ns.map V.bl
 | [],xs,r=>r.nil_inv
 | i :: ns,xs,r=>by
  obtain ⟨v,r',rfl,a1,r2⟩:=r.cons_inv
  rw [j4 a1,Ze r2];rfl
noncomputable def VR (f:List Bool->Bool):List AV->MH->AK->Prop:=fun xs M Q=>∃ x bs,xs=[x]/\zF x M=some (List.map (fun b=>AV.d (.bl b)) bs)/\Q (.d (.bl (f bs))) M
theorem Xq {K:PySem.W.Frag}{f:List Bool->Bool}:yp (fun xs H Q=>∃ p bs,xs=[V.ref p]/\SqL K H p (List.map V.bl bs)/\Q (V.bl (f bs)) H) (VR f):=⟨fun w r ⟨x,bs,e,h,q⟩ k=>by
 subst e
 obtain ⟨v,rfl,rv⟩:=qr r
 obtain ⟨a,xs,rfl,h1,r1⟩:=zM w rv h
 rw [Ze r1] at h1
 exact ⟨a,bs,rfl,SqL.of h1,k _ _ _ _ _ q .refl w .bl⟩⟩
noncomputable def X8:List AV->MH->AK->Prop:=fun xs M Q=>∃ b,xs=[.d (.int b)]/\Q (.d (.rng 0 b 1)) M
theorem QF:yp (fun xs H Q=>∃ b,xs=[V.int b]/\∀ (p:Addr),H p=none->Q (V.ref p) (upd H p (Qe p 0 b 1))) X8:=⟨fun w r ⟨b,e,q⟩ k=>by
 subst e
 obtain ⟨v,rfl,rv⟩:=qr r
 exact ⟨b,by rw [zv rv],fun p hp=>k _ _ _ _ _ q (zV w hp _) (jQ w hp _) (Rep.rng (w.fresh hp).1 zi)⟩⟩
noncomputable def flD:Dat->Option V
 | .non=>some .non
 | .bl b=>some (.bl b)
 | .int i=>some (.int i)
 | .str s=>some (.str s)
 | _=>none
noncomputable def va:List AV->Option (List V)
 | []=>some []
 | .d x :: r=>match flD x,va r with
  | some v,some l=>some (v :: l)
  | _,_=>none
 | _=>none
theorem Kx {H:Hp}{O:Own}{v x:V}{d:Dat}(r:Rep H O v d)(h:flD d=some x):v=x/\jv v=true:=by
 cases r <;> cases h <;> exact ⟨rfl,rfl⟩
theorem wO {H:Hp}{O:Own}{M:MH}:∀ {l:List AV} {xs vs:List V},zb H O M xs l->va l=some vs->xs=vs/\xs.all jv=true
 | [],xs,vs,r,h=>by cases h;rw [r.nil_inv];exact ⟨rfl,rfl⟩
 | .d d :: l,xs,vs,r,h=>by
  obtain ⟨v,r',rfl,a1,r2⟩:=r.cons_inv
  unfold va at h
  cases e1:flD d with
  | none=>rw [e1] at h;cases h
  | some z=>
   cases e2:va l with
   | none=>rw [e1,e2] at h;cases h
   | some zs=>
    rw [e1,e2] at h
    cases h
    obtain ⟨h1,h2⟩:=Kx a1 e1
    obtain ⟨h3,h4⟩:=wO r2 e2
    subst h1 h3
    exact ⟨rfl,by rw [List.all_cons,h2,h4];rfl⟩
 | .ref a :: l,xs,vs,r,h=>by cases h
theorem xo:∀ (ns:List Int),va (ns.map fun i=>AV.d (.int i))=some (ns.map V.int)
 | []=>rfl
 | i :: r=>by rw [List.map_cons,va,xo r];rfl
theorem v4 (ns:List Int):va ((ns.map Dat.int).map .d)=some (ns.map V.int):=by rw [List.map_map];exact xo ns
structure VG (r:V->List V->Hp->VK->Prop)(a:AV->List AV->MH->AK->Prop):Prop where
 go:∀ {x:V} {dx:AV} {vs:List V} {xs:List AV} {H:Hp} {O:Own} {M:MH} {Q:VK} {Q':AK},Wf H O M->zj H O M x dx->zb H O M vs xs->a dx xs M Q'->(∀ x M' v H' O',Q' x M'->Ext H O M H' O' M'->Wf H' O' M'->zj H' O' M' v x->Q v H')->r x vs H Q
noncomputable def aBM (r:AV->List AV->MH->AK->Prop)(a:AE)(b:AA):AE:=fun ρ M Q=>a ρ M fun x M1=>(∃ l,zF x M1=some l)/\b ρ M1 fun xs M2=>r x xs M2 Q
theorem Yo {K:PySem.W.Frag}{r:V->List V->Hp->VK->Prop}{ra:AV->List AV->MH->AK->Prop}{t:TE}{u:TA}{a:AE}{b:AA}(hr:VG r ra)(h1:zD t a)(h2:jx u b):zD (tBM K "list" r t u) (aBM ra a b):=
 ⟨fun w e q k=>h1.go w e q fun x M1 v H1 O1 ⟨⟨l,hl⟩,q1⟩ k1 w1 r1=>⟨by
  obtain ⟨a,xs,rfl,hx,_⟩:=zM w1 r1 hl
  exact .inl ⟨rfl,xs,SqL.of hx⟩,h2.go w1 (e.ext k1) q1 fun y M2 u H2 O2 q2 k2 w2 r2=>hr.go w2 (r1.ext k2) r2 q2 fun z M3 v3 H3 O3 q3 k3 w3 r3=>k z M3 v3 H3 O3 q3 ((k1.trans k2).trans k3) w3 r3⟩⟩
theorem JG {H:Hp}{O:Own}{M:MH}{p:Addr}{l l':List AV}{xs':List V}(w:Wf H O M)(hm:M p=some (.lst l))(r:zb H O M xs' l'):Ext H O M (upd H p (.lst xs')) O (mup M p (.lst l'))/\Wf (upd H p (.lst xs')) O (mup M p (.lst l')):=
 have np:=qu hm
 ⟨jJ w np _ _,QD w np (fun _ z=>nomatch z) ⟨_,zi,r.ext (jJ w np _ _)⟩⟩
noncomputable def wD:AV->List AV->MH->AK->Prop:=fun x xs M Q=>∃ p l y,x=.ref p/\xs=[y]/\M p=some (.lst l)/\l.length<sizeLine/\Q (.d .non) (mup M p (.lst (l ++ [y])))
theorem wj:VG kl wD:=⟨fun w r1 r2 ⟨p,l,y,e1,e2,hm,hs,q⟩ k=>by
 subst e1 e2
 obtain ⟨v,rfl,rv⟩:=qr r2
 obtain ⟨xs,hx,rx⟩:=w.mo p _ hm
 obtain ⟨k1,w1⟩:=JG w hm (rx.snoc rv)
 exact ⟨p,xs,v,r1.1,rfl,hx,by rw [rx.1];exact hs,k _ _ _ _ _ q k1 w1 .non⟩⟩
noncomputable def Qh:AV->List AV->MH->AK->Prop:=fun x xs M Q=>∃ l vs d v,zF x M=some l/\xs=[.d d]/\va l=some vs/\flD d=some v/\Q (.d (.int ((vs.countP fun y=>eqV y v:Nat)))) M
theorem ZE:VG wn Qh:=⟨fun w r1 r2 ⟨l,vs,d,v,hl,e,hs,hv,q⟩ k=>by
 subst e
 obtain ⟨u,rfl,ru⟩:=qr r2
 obtain ⟨a,xs,rfl,h1,p1⟩:=zM w r1 hl
 obtain ⟨rfl,f1⟩:=Kx ru hv
 obtain ⟨rfl,f2⟩:=wO p1 hs
 exact ⟨a,xs,u,rfl,rfl,h1,f2,f1,k _ _ _ _ _ q .refl w .int⟩⟩
noncomputable def Qs (r:Addr):MO->Prop
 | .lst l=>AV.ref r ∈ l
 | .dK kvs=>AV.ref r ∈ kvs.map (·.2)
 | .ins _ fs=>AV.ref r ∈ fs.map (·.2)
 | .exc _ _=>False
 | .tb _=>False
inductive Dee (M M2:MH):AV->Dat->Prop
 | d {x:Dat}:Dee M M2 (.d x) x
 | lst {p:Addr} {l:List AV} {ds:List Dat}:M p=some (.lst l)->M2 p=none->l.length=ds.length->(∀ (i:Nat) a b,l[i]?=some a->ds[i]?=some b->Dee M M2 a b)->Dee M M2 (.ref p) (.lst ds)
structure wa (M0 M':MH)(x x':AV)(M'':MH):Prop where
 sub:∀ q,M'' q=M' q \/ (M0 q=none/\M'' q=none)
 cl:∀ q o,M'' q=some o->M0 q=some o \/ ∀ r,Qs r o->M'' r ≠ none
 res:(x'=x/\∀ p,x=.ref p->M'' p ≠ none) \/ (∃ p l ds,x=.ref p/\M' p=some (.lst l)/\pur l=some ds/\M'' p=none/\x'=.d (.lst ds)) \/ ∃ d,Dee M' M'' x d/\x'=.d d
theorem Dee.rep {H:Hp}{O:Own}{M M2:MH}(w:Wf H O M){x:AV}{d:Dat}(h:Dee M M2 x d):∀ {v:V},zj H O M v x->Rep H (fun a=>O a/\¬ (M a ≠ none/\M2 a=none)) v d:=by
 induction h with
 | d=>exact fun r=>Rep.imp (fun a u h e=>⟨e,fun z=>h z.1⟩) r
 | @lst p l ds hm hn hl _ ih=>
  intro v r
  obtain ⟨xs,hx,rx⟩:=w.mo p _ hm
  rw [r.1]
  refine Rep.lst (fun z=>z.2 ⟨qu hm,hn⟩) hx (rx.1.trans hl) fun i x d e1 e2=>?_
  have hi:=(List.getElem?_eq_some_iff.mp e2).1
  have ha:l[i]?=some (l[i]'(by omega)):=List.getElem?_eq_getElem (by omega)
  exact ih i _ d ha e2 (rx.2 i x _ e1 ha)
theorem Xu {H0 H : Hp}{O0 O : Own}{M0 M' M'' : MH}{x x' : AV}{v : V}(w0 : Wf H0 O0 M0)(w : Wf H O M')(k : Ext H0 O0 M0 H O M')(r : zj H O M' v x)(f : wa M0 M' x x' M'') :
    ∃ O'',Wf H O'' M''/\Ext H0 O0 M0 H O'' M''/\zj H O'' M'' v x'/\∀ a,O a->M' a=none->O'' a/\M'' a=none:=by
  have ks:∀ a u,¬ O a->H a=some u->H a=some u/\¬ (O a/\¬ (M' a ≠ none/\M'' a=none)):=fun a u h e=>⟨e,fun z=>h z.1⟩
  have k0:∀ a,M0 a ≠ none->M'' a=M' a:=fun a h=>(f.sub a).elim (fun z=>z) (fun z=>absurd z.1 h)
  have m0:∀ a,M0 a ≠ none->M'' a ≠ none:=fun a h=>by rw [k0 a h];exact k.mst a h
  have avs:∀ {xs:List V} {l:List AV},zb H O M' xs l->(∀ r,AV.ref r ∈ l->M'' r ≠ none)->zb H (fun a=>O a/\¬ (M' a ≠ none/\M'' a=none)) M'' xs l:=fun {xs l} rr hr=>⟨rr.1,fun i y d e1 e2=>by
    have:=rr.2 i y d e1 e2
    cases d with
    | d d=>exact Rep.imp ks this
    | ref a=>exact ⟨this.1,hr a (List.mem_of_getElem? e2)⟩⟩
  have refs0:∀ q o,M0 q=some o->∀ r,Qs r o->M0 r ≠ none:=fun q o e r hr=>by
    have:=w0.mo q o e
    cases o with
    | lst l=>
      obtain ⟨xs,_,rr⟩:=this
      obtain ⟨i,hi⟩:=List.getElem?_of_mem hr
      obtain ⟨y,_,ry⟩:=rr.get hi
      exact ry.2
    | dK l=>
      obtain ⟨xs,_,rr⟩:=this
      obtain ⟨i,hi⟩:=List.getElem?_of_mem hr
      obtain ⟨y,_,ry⟩:=rr.2.get hi
      exact ry.2
    | ins C l=>
      obtain ⟨dx,xs,_,rr,_⟩:=this
      obtain ⟨i,hi⟩:=List.getElem?_of_mem hr
      obtain ⟨y,_,ry⟩:=rr.2.get hi
      exact ry.2
    | exc C l=>exact hr.elim
    | tb R=>exact hr.elim
  refine ⟨fun a=>O a/\¬ (M' a ≠ none/\M'' a=none),⟨fun q o e=>?_,fun a h=>?_,fun a h=>w.al a h.1⟩,⟨fun a u h e=>?_,fun a h e=>?_,m0⟩,?_,fun a h e=>⟨⟨h,fun z=>z.1 e⟩,(f.sub a).elim (fun z=>z.trans e) (fun z=>z.2)⟩⟩
  · have e' : M' q = some o := by
      rcases f.sub q with z | z
      · rw [<- z];exact e
      · rw [z.2] at e;cases e
    have hr:∀ r,Qs r o->M'' r ≠ none:=by
      rcases f.cl q o e with z | z
      · exact fun r hr=>m0 r (refs0 q o z r hr)
      · exact z
    have:=w.mo q o e'
    cases o with
    | lst l=>obtain ⟨xs,h1,rr⟩:=this;exact ⟨xs,h1,avs rr hr⟩
    | dK l=>obtain ⟨xs,h1,rr⟩:=this;exact ⟨xs,h1,rr.1,avs rr.2 hr⟩
    | ins C l=>
      obtain ⟨dx,xs,h1,rr,h2,h3,h4⟩:=this
      refine ⟨dx,xs,h1,⟨rr.1,avs rr.2 hr⟩,⟨h2,fun z=>z.1 h3⟩,?_,h4⟩
      rcases f.sub dx with z | z
      · rw [z];exact h3
      · exact z.2
    | exc C l=>
      obtain ⟨d,h1,h2⟩:=this
      refine ⟨d,h1,?_⟩
      rcases h2 with h2 | ⟨dx,e1,h2,h3,h4⟩
      · exact .inl h2
      · refine .inr ⟨dx,e1,h2,⟨h3,fun z=>z.1 h4⟩,?_⟩
        rcases f.sub dx with z | z
        · rw [z];exact h4
        · exact z.2
    | tb R=>obtain ⟨ps,h1,h2⟩:=this;exact ⟨ps,h1,h2.imp id fun ⟨c,oc,u,a1,a2,a3⟩=>⟨c,oc,u,a1,fun z=>a2 z.1,a3⟩⟩
  · refine ⟨w.own a ?_,fun z=>h z.2⟩
    rcases f.sub a with z | z
    · rw [<- z];exact h
    · exact absurd z.2 h
  · obtain ⟨x1,x2⟩:=k.fix a u h e
    exact ⟨x1,fun z=>x2 z.1⟩
  · obtain ⟨x1,x2,x3⟩:=k.prv a h e
    refine ⟨x1,⟨x2,fun z=>z.1 x3⟩,?_⟩
    rcases f.sub a with z | z
    · rw [z];exact x3
    · exact z.2
  · rcases f.res with ⟨rfl,hp⟩ | ⟨p,l,ds,rfl,hm,hp,hn,rfl⟩ | ⟨d,hd,rfl⟩
    · cases x' with
      | d d=>exact Rep.imp ks r
      | ref a=>exact ⟨r.1,hp a rfl⟩
    · obtain ⟨xs,hx,rx⟩:=w.mo p _ hm
      rw [qx hp] at rx
      have rp:=rx.pure
      rw [r.1]
      exact Rep.lst (fun z=>z.2 ⟨qu hm,hn⟩) hx rp.1 fun i x d e1 e2=>(rp.2 i x d e1 e2).imp ks
    · exact hd.rep w r
theorem xQ {H0 H:Hp}{O0 O:Own}{M0 M' M'':MH}{x x':AV}{v:V}(w0:Wf H0 O0 M0)(w:Wf H O M')(k:Ext H0 O0 M0 H O M')(r:zj H O M' v x)(f:wa M0 M' x x' M'') :
  ∃ O'',Wf H O'' M''/\Ext H0 O0 M0 H O'' M''/\zj H O'' M'' v x':=let ⟨O2,a,b,c,_⟩:=Xu w0 w k r f;⟨O2,a,b,c⟩
noncomputable def Fr (M0 M:MH):Prop:=∀ q,M0 q ≠ none->M q=M0 q
theorem Fr.refl {M:MH}:Fr M M:=fun _ _=>rfl
theorem Fr.mup {M0 M:MH}(f:Fr M0 M){p:Addr}(h:M0 p=none)(o:MO):Fr M0 (mup M p o):=fun q hq=>by rw [zz (fun z=>hq (by rw [z];exact h))];exact f q hq
theorem Fr.sub {M0 M:MH}(f:Fr M0 M)(q:Addr):M0 q=M q \/ (M0 q=none/\M0 q=none):=by
 cases e:M0 q with
 | none=>exact .inr ⟨rfl,rfl⟩
 | some o=>exact .inl (by rw [f q (by rw [e];exact fun z=>nomatch z),e])
theorem X0 {M0 M:MH}(f:Fr M0 M)(d:Dat):wa M0 M (.d d) (.d d) M0:=⟨f.sub,fun q o e=>.inl e,.inl ⟨rfl,fun p z=>nomatch z⟩⟩
theorem Xh {M0 M:MH}(f:Fr M0 M){p:Addr}{l:List AV}{ds:List Dat}(h0:M0 p=none)(h:M p=some (.lst l))(hp:pur l=some ds):wa M0 M (.ref p) (.d (.lst ds)) M0:=⟨f.sub,fun q o e=>.inl e,.inr (.inl ⟨p,l,ds,rfl,h,hp,h0,rfl⟩)⟩
theorem wX {l:List AV}{ds:List Dat}(h:pur l=some ds)(r:Addr):AV.ref r ∉ l:=by
 rw [qx h];intro z
 obtain ⟨d,_,e⟩:=List.mem_map.mp z
 cases e
theorem Zs {M0 M:MH}(f:Fr M0 M){p:Addr}{l:List AV}{ds:List Dat}(h0:M0 p=none)(h:M p=some (.lst l))(hp:pur l=some ds):wa M0 M (.ref p) (.ref p) (mup M0 p (.lst l)):=by
 refine ⟨fun q=>?_,fun q o e=>?_,.inl ⟨rfl,fun q z=>by cases z;rw [zk];exact fun z=>nomatch z⟩⟩
 ·by_cases c:q=p
  ·rw [c,zk,h];exact .inl rfl
  ·rw [zz c];exact f.sub q
 ·by_cases c:q=p
  ·rw [c,zk] at e
   cases e
   exact .inr fun r hr=>absurd hr (wX hp r)
  ·rw [zz c] at e;exact .inl e
noncomputable def qy (N:List Str)(xs:List AV):ASt:=xs.map some ++ List.replicate (N.length - xs.length) none
theorem yE {H:Hp}{O:Own}{M:MH}{vs:List V}{xs:List AV}(r:zb H O M vs xs)(N:List Str):Er H O M (qp N vs) (qy N xs):=by
 unfold qp qy
 refine ⟨by simp [r.1],fun i x h=>?_⟩
 by_cases c:i<xs.length
 ·rw [List.getElem?_append_left (by simpa using c),List.getElem?_map] at h
  cases e:xs[i]? with
  | none=>rw [e] at h;cases h
  | some y=>
   rw [e] at h
   cases h
   obtain ⟨v,hv,rv⟩:=r.get e
   exact ⟨v,by rw [List.getElem?_append_left (by rw [List.length_map,r.1];exact c),List.getElem?_map,hv];rfl,rv⟩
 ·rw [List.getElem?_append_right (by simp;omega),List.getElem?_replicate] at h
  split at h <;> cases h
noncomputable def rtA (M0:MH)(Q:AK):AK:=fun x M'=>∃ x' M'',wa M0 M' x x' M''/\Q x' M''
theorem dfA {P:Program}{w:World}{K:PySem.W.Frag}{mg:Str->Option Value}{base:Heap}{x:Str}{st:Stmt}{N ps:List Str}{k:Nat}{a:ASp}(at_:At K mg x st)(S:zw N ps (zg st))
  (hb:∀ (kV doc pm:Value) (an:Option Addr) (cdv ct:Value) (us:List Value),us.length=ps.length->bindArgs (PySem.W.fnOf x x (qe st) (zG st) (zg st) .none kV doc pm an cdv ct) ⟨us,[]⟩=pure (ps.zip us))
  (len:∀ xs M Q,a xs M Q->xs.length=ps.length)
  (hbody:∀ (f:Addr) (cdv:Value) (A:Around) (outer:List Env) (s:Shared) (H:Hp) (E:XK),z0 k (A.deeper (envOfC x (zg st) s.heap.objs.size f cdv)) ->
   ∃ t,PSs (kC CX0 P w K mg base N x (zg st) f cdv A outer s H E).nox (zG st) t/\∃ b,jo t b/\∀ xs M Q,a xs M Q->b M { nx:=fun _ M'=>rtA M Q (.d .non) M',rt:=rtA M Q } (qy N xs) M):Df P w K mg base x ps (k+1) (cSp a):=by
 refine xq at_ S hb (fun vs H Q E h=>?_) (fun f cdv A outer s H vs Q E hr h=>?_)
 ·obtain ⟨xs,M,O,Q',w,r,q,_⟩:=h
  rw [r.1];exact len xs M Q' q
 ·obtain ⟨t,ht,b,hb,hq⟩:=hbody f cdv A outer s H E hr
  refine ⟨t,ht,?_⟩
  obtain ⟨xs,M,O,Q',w,r,q,kk⟩:=h
  refine hb.go w w (yE r N) .refl (hq xs M Q' q) ⟨fun σ H' O' ρ M' w' e' x' q'=>?_,fun v y H' O' M' w' x' r' q'=>?_,fun _ _ _ _ _ _ _ _ z=>z.elim,fun _ _ _ _ _ _ _ _ z=>z.elim⟩
  ·obtain ⟨y',M'',f,q2⟩:=q'
   obtain ⟨O'',w2,k2,r2⟩:=xQ w w' x' (show zj H' O' M' .non (.d .non) from .non) f
   exact kk _ _ _ _ _ q2 k2 w2 r2
  ·obtain ⟨y',M'',f,q2⟩:=q'
   obtain ⟨O'',w2,k2,r2⟩:=xQ w w' x' r' f
   exact kk _ _ _ _ _ q2 k2 w2 r2
structure WZ (tr:Addr->TR)(a:ATR):Prop where
 go:∀ D,Zf D (tr D) a
theorem ZO {K:PySem.W.Frag}{u:TA}{b:AA}(h:jx u b):zD (tCB (fun xs H Q=>∃ p ys,xs=[V.ref p]/\(SqL K H p ys \/ SqT K H p ys)/\∀ l,H l=none->Q (V.ref l) (upd H l (HO.lst ys))) u) (aFz (fCB Ju b)):=xM (xS xH h)
theorem ex2 {t:TS}{q:AS->Prop}{b:AS}(h:jo t b)(k:q b):∃ b,jo t b/\q b:=⟨b,h,k⟩
section
variable {X:Cx}{K:PySem.W.Frag}
end
theorem Vu {τ:Type}(R:τ->ASt)(f:AV->AV){ag:AG}{ae:AE}{G:MH->Prop}{N:List AV->ASt->MH->Prop}{l:List AV}{ρ:ASt}{M:MH}(h0:∃ o,ρ=R o)(hG:G M)(hl:l.length<=100000)
  (hs:∀ (o:τ) (x:AV) (Q:AV->ASt->MH->Prop),x ∈ l->(∀ o',Q (f x) (R o') M)->ag x (R o) M fun ρ2 M2=>ae ρ2 M2 fun y M3=>Q y ρ2 M3) (hN:∀ o,N (l.map f) (R o) M):ZY ag kG (jI ae) G N l [] ρ M:=by
 have hsl:100000<sizeLine:=by rw [sizeLine_eq];decide
 refine ⟨fun i acc ρ' M'=>i<=l.length/\acc=(l.take i).map f/\M'=M/\∃ o,ρ'=R o,⟨Nat.zero_le _,rfl,rfl,h0⟩,?_,?_⟩
 ·rintro i x acc ρ' M' hx ⟨hi,rfl,rfl,o,rfl⟩
  have hil:=(List.getElem?_eq_some_iff.mp hx).1
  refine ⟨hG,?_⟩
  refine hs o x (fun y ρ2 M3=>((l.take i).map f).length<sizeLine/\(i+1<=l.length/\(l.take i).map f ++ [y]=(l.take (i+1)).map f/\M3=M'/\∃ o,ρ2=R o)) (List.mem_of_getElem? hx) fun o'=>⟨by rw [List.length_map,List.length_take];omega,hil,?_,rfl,o',rfl⟩
  rw [List.take_add_one,hx,List.map_append];rfl
 ·rintro acc ρ' M' ⟨_,rfl,rfl,o,rfl⟩
  rw [List.take_length]
  exact ⟨hG,hN o⟩
theorem Jy:isT "int" "int"=some true:=by decide +kernel
theorem wd:isT "int" "bool"=some false:=by decide +kernel
theorem Qr:isT "int" "str"=some false:=by decide +kernel
theorem V2:isT "int" "list"=some false:=by decide +kernel
theorem Vq:isT "int" "tuple"=some false:=by decide +kernel
theorem Qq:isT "bool" "int"=some true:=by decide +kernel
theorem wk:isT "bool" "bool"=some true:=by decide +kernel
theorem Ka:isT "bool" "str"=some false:=by decide +kernel
theorem VV:isT "bool" "list"=some false:=by decide +kernel
theorem Vp:isT "bool" "tuple"=some false:=by decide +kernel
theorem YN:isT "str" "int"=some false:=by decide +kernel
theorem Wa:isT "str" "bool"=some false:=by decide +kernel
theorem xZ:isT "str" "str"=some true:=by decide +kernel
theorem Ve:isT "str" "list"=some false:=by decide +kernel
theorem Vy:isT "str" "tuple"=some false:=by decide +kernel
theorem VH:isT "NoneType" "int"=some false:=by decide +kernel
theorem Yr:isT "NoneType" "bool"=some false:=by decide +kernel
theorem vP:isT "NoneType" "str"=some false:=by decide +kernel
theorem VQ:isT "NoneType" "list"=some false:=by decide +kernel
theorem Vb:isT "NoneType" "tuple"=some false:=by decide +kernel
theorem VO:isT "list" "int"=some false:=by decide +kernel
theorem YH:isT "list" "bool"=some false:=by decide +kernel
theorem YX:isT "list" "str"=some false:=by decide +kernel
theorem wt:isT "list" "list"=some true:=by decide +kernel
theorem YU:isT "list" "tuple"=some false:=by decide +kernel
theorem Vf:isT "tuple" "int"=some false:=by decide +kernel
theorem YO:isT "tuple" "bool"=some false:=by decide +kernel
theorem Ym:isT "tuple" "str"=some false:=by decide +kernel
theorem vT:isT "tuple" "list"=some false:=by decide +kernel
theorem Yz:isT "tuple" "tuple"=some true:=by decide +kernel
theorem Jo:ke "int" ["list","tuple"]=some false:=by decide +kernel
theorem Jz:ke "bool" ["list","tuple"]=some false:=by decide +kernel
theorem QE:ke "str" ["list","tuple"]=some false:=by decide +kernel
theorem KC:ke "NoneType" ["list","tuple"]=some false:=by decide +kernel
theorem wf:ke "list" ["list","tuple"]=some true:=by decide +kernel
theorem vN:ke "tuple" ["list","tuple"]=some true:=by decide +kernel
theorem JI:yH []=some []:=rfl
theorem ZF {n:String}{r:List Dat}:yH (.ty n :: r)=(yH r).map (n :: ·):=rfl
theorem WC (M:MH):tyA (.d .non) M=some "NoneType":=rfl
theorem WM (b:Bool)(M:MH):tyA (.d (.bl b)) M=some "bool":=rfl
theorem WB (i:Int)(M:MH):tyA (.d (.int i)) M=some "int":=rfl
theorem WR (s:Str)(M:MH):tyA (.d (.str s)) M=some "str":=rfl
theorem WX (l:List Dat)(M:MH):tyA (.d (.lst l)) M=some "list":=rfl
theorem WW (l:List Dat)(M:MH):tyA (.d (.tup l)) M=some "tuple":=rfl
theorem Zx (x:Dat)(r:List AV):pur (.d x :: r)=match pur r with | some l=>some (x :: l) | none=>none:=rfl
theorem Y8 (i j:Int):eqS (.int i) (.int j)=some (decide (i=j)):=rfl
theorem V1 (i j:Bool):eqS (.bl i) (.bl j)=some (decide (i=j)):=rfl
theorem V0 (i j:Str):eqS (.str i) (.str j)=some (decide (i=j)):=rfl
theorem Xi:qW (.d .non)=true:=rfl
theorem KP (i:Int):qW (.d (.int i))=false:=rfl
theorem K9 (i:List Dat):qW (.d (.lst i))=false:=rfl
theorem Xt (i:List Dat):qW (.d (.tup i))=false:=rfl
theorem Xk (i:Addr):qW (.ref i)=false:=rfl
theorem KJ (i:Str):qW (.d (.str i))=false:=rfl
theorem XB (i:Bool):qW (.d (.bl i))=false:=rfl
theorem QZ {H H':Hp}{O:Own}{M:MH}(w:Wf H O M)(k:Kp [] H H'):Ext H O M H' O M/\Wf H' O M:=by
 have e:Ext H O M H' O M:=⟨fun a o h e=>⟨k a o (by simp) e,h⟩,fun a h e=>⟨by
  obtain ⟨o,ho,_⟩:=w.al a h
  rw [ho];exact k a o (by simp) ho,h,e⟩,fun _ h=>h⟩
 refine ⟨e,⟨fun a o h=>qj.ext e ?_ (w.mo a o h),w.own,fun a h=>?_⟩⟩
 ·obtain ⟨u,hu,_⟩:=w.al a (w.own a (by rw [h];exact fun z=>nomatch z))
  rw [hu];exact k a u (by simp) hu
 ·obtain ⟨o,ho,hn⟩:=w.al a h
  exact ⟨o,k a o (by simp) ho,hn⟩
theorem VM {H H':Hp}{O:Own}{M:MH}(w:Wf H O M){b:Addr}{l:List AV}(hb:M b=some (.lst l))(k:Kp [b] H H'){ns:List Int}(h:H' b=some (.lst (ns.map V.int))) :
  Ext H O M H' O (mup M b (.lst (ns.map fun i=>.d (.int i))))/\Wf H' O (mup M b (.lst (ns.map fun i=>.d (.int i)))):=by
 have hOb:=w.own b (qu hb)
 have kk:∀ a o,a ≠ b->H a=some o->H' a=some o:=fun a o ha e=>k a o (by simpa using ha) e
 have e:Ext H O M H' O (mup M b (.lst (ns.map fun i=>.d (.int i)))):=⟨fun a o h e=>⟨kk a o (fun z=>h (by rw [z];exact hOb)) e,h⟩,fun a ha e=>by
  have hne:a ≠ b:=fun z=>by rw [z,hb] at e;cases e
  obtain ⟨o,ho,_⟩:=w.al a ha
  exact ⟨by rw [ho];exact kk a o hne ho,ha,by rw [zz hne];exact e⟩,fun a ha=>by
  by_cases c:a=b
  ·rw [c,zk];exact fun z=>nomatch z
  ·rw [zz c];exact ha⟩
 refine ⟨e,⟨fun a o ho=>?_,fun a ha=>?_,fun a ha=>?_⟩⟩
 ·by_cases c:a=b
  ·subst c;rw [zk] at ho;cases ho;exact ⟨_,h,wo ns⟩
  ·rw [zz c] at ho
   refine qj.ext e ?_ (w.mo a o ho)
   obtain ⟨u,hu,_⟩:=w.al a (w.own a (qu ho))
   rw [hu];exact kk a u c hu
 ·by_cases c:a=b
  ·rw [c];exact hOb
  ·rw [zz c] at ha;exact w.own a ha
 ·by_cases c:a=b
  ·rw [c];exact ⟨_,h,fun xs z=>nomatch z⟩
  ·obtain ⟨o,ho,hn⟩:=w.al a ha
   exact ⟨o,kk a o c ho,hn⟩
theorem JA {H:Hp}{O:Own}{p:Addr}{ns:List Int}(ho:¬ O p)(h:H p=some (.lst (ns.map V.int))):Rep H O (.ref p) (.lst (ns.map .int)):=
 Rep.lst ho h (by simp) fun i x d e1 e2=>by
  rw [List.getElem?_map] at e1 e2
  cases e:ns[i]? with
  | none=>rw [e] at e1;cases e1
  | some n=>rw [e] at e1 e2;cases e1;cases e2;exact .int
theorem JU {H:Hp}{O:Own}{M:MH}{v:V}{x:AV}{ns:List Int}(w:Wf H O M)(r:zj H O M v x)(h:zF x M=some (ns.map fun i=>.d (.int i))):∃ a,v=.ref a/\H a=some (.lst (ns.map V.int)):=by
 obtain ⟨a,xs,rfl,h1,r1⟩:=zM w r h
 rw [jd r1] at h1
 exact ⟨a,rfl,h1⟩
theorem Df.imp' {P:Program}{w:World}{K:PySem.W.Frag}{mg:Str->Option Value}{base:Heap}{x:Str}{ps:List Str}{sp sp':Sp}{k:Nat}(D:Df P w K mg base x ps k sp)(h:∀ vs H Q E,sp' vs H Q E->sp vs H Q E):Df P w K mg base x ps k sp':=
 let ⟨f,fd,F,r⟩:=D
 ⟨f,fd,F.imp h,r⟩
mutual
noncomputable def wdt:Dat->Nat
 | .lst l=>max l.length (vv l)
 | .tup l=>max l.length (vv l)
 | _=>0
noncomputable def vv:List Dat->Nat
 | []=>0
 | a :: r=>max (wdt a) (vv r)
end
theorem Xx {l:List Dat}{n:Nat}(h:∀ d ∈ l,wdt d<=n):vv l<=n:=by
 induction l with
 | nil=>exact Nat.zero_le _
 | cons a r ih=>rw [vv];exact Nat.max_le.mpr ⟨h a (by simp),ih fun d hd=>h d (by simp [hd])⟩
theorem Zd {l:List Dat}{d:Dat}(h:d ∈ l):wdt d<=vv l:=by
 induction l with
 | nil=>cases h
 | cons a r ih=>
  rw [vv]
  rcases List.mem_cons.mp h with rfl | h
  ·exact Nat.le_max_left _ _
  ·exact Nat.le_trans (ih h) (Nat.le_max_right _ _)
noncomputable def qz (n:Nat)(d:Dat):Prop:=dp d<=n/\wdt d<=100000
theorem qz.mono {n m:Nat}{d:Dat}(h:qz n d)(k:n<=m):qz m d:=⟨Nat.le_trans h.1 k,h.2⟩
theorem Km {n:Nat}{l:List Dat}(hl:l.length<=100000)(h:∀ d ∈ l,qz n d):qz (n+1) (.lst l):=⟨by rw [dp];exact Nat.succ_le_succ (Qn fun d hd=>(h d hd).1),by rw [wdt];exact Nat.max_le.mpr ⟨hl,Xx fun d hd=>(h d hd).2⟩⟩
theorem QM (n:Nat)(i:Int):qz n (.int i):=⟨by simp [dp],by simp [wdt]⟩
theorem qz.lst {n:Nat}{l:List Dat}(h:qz (n+1) (.lst l)):l.length<=100000/\∀ d ∈ l,qz n d:=by
 obtain ⟨h1,h2⟩:=h
 rw [dp] at h1
 rw [wdt] at h2
 exact ⟨(Nat.max_le.mp h2).1,fun d hd=>⟨by have:=zJ hd;omega,Nat.le_trans (Zd hd) (Nat.max_le.mp h2).2⟩⟩
theorem qz.tup {n:Nat}{l:List Dat}(h:qz (n+1) (.tup l)):l.length<=100000/\∀ d ∈ l,qz n d:=by
 obtain ⟨h1,h2⟩:=h
 rw [dp] at h1
 rw [wdt] at h2
 exact ⟨(Nat.max_le.mp h2).1,fun d hd=>⟨by have:=zJ hd;omega,Nat.le_trans (Zd hd) (Nat.max_le.mp h2).2⟩⟩
theorem qz.no_l {l:List Dat}(h:qz 0 (.lst l)):False:=by have:=h.1;rw [dp] at this;omega
theorem qz.no_t {l:List Dat}(h:qz 0 (.tup l)):False:=by have:=h.1;rw [dp] at this;omega
theorem yJ {x:AV}{M:MH}{l:List Dat}(h:jf x M=some (.lst l)):zF x M=some (l.map .d)/\qm x M=some (l.map .d)/\tyA x M=some "list"/\qW x=false:=by
 cases x with
 | d x=>cases h;exact ⟨rfl,rfl,rfl,rfl⟩
 | ref a=>
  unfold jf at h
  dsimp only at h
  cases e:M a with
  | none=>rw [e] at h;cases h
  | some o=>
   rw [e] at h
   cases o with
   | lst m=>
    dsimp only at h
    cases ep:pur m with
    | none=>rw [ep] at h;cases h
    | some ds=>
     rw [ep] at h
     cases h
     rw [qx ep] at e
     exact ⟨kY e,Jv e,by unfold tyA;dsimp only;rw [e],rfl⟩
   | _=>cases h
theorem zI {x:AV}{M:MH}{d:Dat}(h:jf x M=some d)(hd:∀ l,d ≠ .lst l):x=.d d:=by
 cases x with
 | d x=>cases h;rfl
 | ref a=>
  unfold jf at h
  dsimp only at h
  cases e:M a with
  | none=>rw [e] at h;cases h
  | some o=>
   rw [e] at h
   cases o with
   | lst m=>
    dsimp only at h
    cases ep:pur m with
    | none=>rw [ep] at h;cases h
    | some ds=>rw [ep] at h;cases h;exact absurd rfl (hd ds)
   | _=>cases h
theorem vo (b:Bool):dp (.bl b)=0:=by simp [dp]
theorem jW (b:Str):dp (.str b)=0:=by simp [dp]
theorem wc:dp .non=0:=by simp [dp]
theorem wx (a b:Bool):eqD (.bl a) (.bl b)=decide (a=b):=by rw [eqD];cases a <;> cases b <;> rfl
theorem vR (a b:Int):eqD (.int a) (.int b)=decide (a=b):=by rw [eqD];by_cases h:a=b <;> simp [h]
theorem yn (a b:Str):eqD (.str a) (.str b)=decide (a=b):=by rw [eqD];by_cases h:a=b <;> simp [h]
theorem Jm:eqD .non .non=true:=by simp [eqD]
theorem Wd (i:Int):eqD .non (.int i)=false:=by simp [eqD]
theorem Vj (i:Int):eqD (.int i) .non=false:=by simp [eqD]
theorem YV (i:Int)(s:Str):eqD (.int i) (.str s)=false:=by simp [eqD]
theorem Wg (i:Int)(s:Str):eqD (.str s) (.int i)=false:=by simp [eqD]
theorem V9 (s:Str):eqD (.str s) .non=false:=by simp [eqD]
theorem YE (s:Str):eqD .non (.str s)=false:=by simp [eqD]
theorem ju (ns:List Int):List.map AV.d (List.map Dat.int ns)=List.map (fun i=>AV.d (.int i)) ns:=by rw [List.map_map];rfl
theorem X4 (ns:List Bool):List.map AV.d (List.map Dat.bl ns)=List.map (fun i=>AV.d (.bl i)) ns:=by rw [List.map_map];rfl
theorem zA (ns:List Int):pur (List.map (fun i=>AV.d (.int i)) ns)=some (ns.map Dat.int):=by rw [<- ju,qv]
theorem Xz (ns:List Bool):pur (List.map (fun i=>AV.d (.bl i)) ns)=some (ns.map Dat.bl):=by rw [<- X4,qv]
theorem vS {n:Nat}{i:Int}(h0:0<=i)(h1:i<n):ixN n i=some i.toNat:=by unfold ixN;rw [if_pos h0,if_pos h1]
theorem Wm {α:Type}(xs:List α)(k:Nat):yS xs (some (k:Int)) none=xs.drop k:=by
 unfold yS
 rw [HT.sIx_nat,HT.sIx_none,List.take_of_length_le (by rw [List.length_drop];omega)]
 by_cases h:k<=xs.length
 ·rw [Nat.min_eq_left h]
 ·rw [Nat.min_eq_right (by omega),List.drop_length,List.drop_of_length_le (by omega)]
theorem KM {α:Type}(xs:List α)(k:Nat):yS xs none (some (k:Int))=xs.take k:=by
 unfold yS
 rw [HT.sIx_nat,HT.sIx_none,List.drop_zero,Nat.sub_zero]
 by_cases h:k<=xs.length
 ·rw [Nat.min_eq_left h]
 ·rw [Nat.min_eq_right (by omega),List.take_of_length_le (Nat.le_refl _),List.take_of_length_le (by omega)]
theorem zo {a zm:AS}{B:MH}{D:jr}{ρ:ASt}{M:MH}(h:∀ r,r=zm->yQ a r B D ρ M):yQ a zm B D ρ M:=h zm rfl
theorem Fr.non {M M':MH}(f:Fr M M'){p:Addr}(h:M' p=none):M p=none:=by
 cases e:M p with
 | none=>rfl
 | some o=>rw [f p (by rw [e];exact fun z=>nomatch z),e] at h;cases h
noncomputable abbrev ilD (os:List Int):Dat:=.lst (os.map .int)
theorem K0 (ns:List Int)(M:MH):zF (.d (ilD ns)) M=some (ns.map fun i=>.d (.int i)):=by rw [J7,ju]
noncomputable def BxM (M:MH)(b:Addr)(N:Nat):Prop:=∃ x y z:Int,M b=some (.lst [.d (.int x),.d (.int y),.d (.int z)])/\0<=x/\0<=y/\y<2147483648/\0<=z/\z<=N
theorem BxM.mono {M:MH}{b:Addr}{N N':Nat}(h:BxM M b N)(hn:N<=N'):BxM M b N':=by
 obtain ⟨x,y,z,h1,h2,h3,h4,h5,h6⟩:=h
 exact ⟨x,y,z,h1,h2,h3,h4,h5,by omega⟩
theorem BxM.ne {M:MH}{b:Addr}{N:Nat}(h:BxM M b N):M b ≠ none:=by obtain ⟨x,y,z,h1,_⟩:=h;exact qu h1
theorem BxM.bx {H:Hp}{O:Own}{M:MH}{b:Addr}{N:Nat}(w:Wf H O M)(h:BxM M b N):Bx H b N:=by
 obtain ⟨x,y,z,h1,h2⟩:=h
 obtain ⟨xs,hx,rx⟩:=w.mo b _ h1
 rw [jd (ns:=[x,y,z]) rx] at hx
 exact ⟨x,y,z,hx,h2⟩
noncomputable def BxS (M M':MH)(b:Addr)(N:Nat):Prop:=BxM M' b N/\∃ o,M'=mup M b o
theorem BxS.at {M M':MH}{b:Addr}{N:Nat}(h:BxS M M' b N){q:Addr}(hq:q ≠ b):M' q=M q:=by
 obtain ⟨_,o,rfl⟩:=h
 exact zz hq
theorem Jd {H H':Hp}{O:Own}{M:MH}(w:Wf H O M){b:Addr}{N N':Nat}(hb:BxM M b N)(k:Kp [b] H H')(h:Bx H' b N'):∃ M',BxS M M' b N'/\Ext H O M H' O M'/\Wf H' O M':=by
 obtain ⟨x,y,z,h1,_⟩:=hb
 obtain ⟨x',y',z',g1,g2⟩:=h
 obtain ⟨e1,e2⟩:=VM w h1 k (ns:=[x',y',z']) g1
 exact ⟨_,⟨⟨x',y',z',zk,g2⟩,_,rfl⟩,e1,e2⟩
mutual
noncomputable def pdD:Dat->PyData
 | .bl b=>.bool b
 | .int i=>.int i
 | .str x=>.str x
 | .lst l=>.list (yg l)
 | .tup l=>.tuple (yg l)
 | _=>.none
noncomputable def yg:List Dat->List PyData
 | []=>[]
 | a :: r=>pdD a :: yg r
end
section
variable {X:Cx}{pins:List (Addr × Obj)}{s:Shared}{σ:St}{H:Hp}{O:Own}
mutual
theorem Va:∀ d:Dat,(pdD d).hasDict=false
 | .non=>by simp [pdD,PyData.hasDict]
 | .bl _=>by simp [pdD,PyData.hasDict]
 | .int _=>by simp [pdD,PyData.hasDict]
 | .str _=>by simp [pdD,PyData.hasDict]
 | .ty _=>by simp [pdD,PyData.hasDict]
 | .rng _ _ _=>by simp [pdD,PyData.hasDict]
 | .scr _ _=>by simp [pdD,PyData.hasDict]
 | .lst l=>by rw [pdD,PyData.hasDict];exact yh l
 | .tup l=>by rw [pdD,PyData.hasDict];exact yh l
theorem yh:∀ l:List Dat,PyData.hasDictAll (yg l)=false
 | []=>by simp [yg,PyData.hasDictAll]
 | a :: r=>by rw [yg,PyData.hasDictAll,Va a,yh r];rfl
end
mutual
theorem JK:∀ d:Dat,(pdD d).depth<=dp d
 | .non=>by simp [pdD,PyData.depth]
 | .bl _=>by simp [pdD,PyData.depth]
 | .int _=>by simp [pdD,PyData.depth]
 | .str _=>by simp [pdD,PyData.depth]
 | .ty _=>by simp [pdD,PyData.depth]
 | .rng _ _ _=>by simp [pdD,PyData.depth]
 | .scr _ _=>by simp [pdD,PyData.depth]
 | .lst l=>by rw [pdD,PyData.depth,dp];exact Nat.succ_le_succ (jS l)
 | .tup l=>by rw [pdD,PyData.depth,dp];exact Nat.succ_le_succ (jS l)
theorem jS:∀ l:List Dat,PyData.depthAll (yg l)<=dps l
 | []=>by simp [yg,PyData.depthAll]
 | a :: r=>by rw [yg,PyData.depthAll,dps];exact Nat.max_le.mpr ⟨Nat.le_trans (JK a) (Nat.le_max_left _ _),Nat.le_trans (jS r) (Nat.le_max_right _ _)⟩
end
end
section
variable {X:Cx}
end
structure Sh (b:Nat)(d:Dat):Prop where
 s:(pdD d).showable=true
 l:(pdD d).shown.length<=b
structure SB (M0 M:MH)(b:Addr)(N:Nat):Prop where
 bx:BxM M b N
 fr:∀ q,M0 q ≠ none->q ≠ b->M q=M0 q
 b0:M0 b ≠ none
theorem SB.refl {M:MH}{b:Addr}{N:Nat}(h:BxM M b N):SB M M b N:=⟨h,fun _ _ _=>rfl,h.ne⟩
theorem SB.go {M0 M M':MH}{b:Addr}{N N':Nat}(s:SB M0 M b N)(t:BxS M M' b N'):SB M0 M' b N':=⟨t.1,fun q hq hb=>(t.at hb).trans (s.fr q hq hb),s.b0⟩
theorem SB.mono {M0 M:MH}{b:Addr}{N N':Nat}(s:SB M0 M b N)(h:N<=N'):SB M0 M b N':=⟨s.bx.mono h,s.fr,s.b0⟩
theorem SB.new {M0 M:MH}{b p:Addr}{N:Nat}(s:SB M0 M b N)(hp:M p=none):M0 p=none/\p ≠ b:=by
 have hb:p ≠ b:=fun z=>s.bx.ne (by rw [<- z];exact hp)
 refine ⟨?_,hb⟩
 cases e:M0 p with
 | none=>rfl
 | some o=>rw [s.fr p (by rw [e];exact fun z=>nomatch z) hb,e] at hp;cases hp
theorem SB.fin {M0 M:MH}{b:Addr}{N:Nat}(s:SB M0 M b N)(d:Dat):∃ M'',wa M0 M (.d d) (.d d) M''/\BxS M0 M'' b N:=by
 obtain ⟨x,y,z,h1,h2⟩:=s.bx
 refine ⟨mup M0 b (.lst [.d (.int x),.d (.int y),.d (.int z)]),⟨fun q=>?_,fun q o e=>?_,.inl ⟨rfl,fun p z=>nomatch z⟩⟩,⟨x,y,z,zk,h2⟩,_,rfl⟩
 ·by_cases c:q=b
  ·rw [c,zk,h1];exact .inl rfl
  ·rw [zz c]
   cases e:M0 q with
   | none=>exact .inr ⟨rfl,rfl⟩
   | some o=>exact .inl (by rw [s.fr q (by rw [e];exact fun z=>nomatch z) c,e])
 ·by_cases c:q=b
  ·rw [c,zk] at e
   cases e
   exact .inr fun r hr=>absurd hr (wX (ds:=[.int x,.int y,.int z]) rfl r)
  ·rw [zz c] at e;exact .inl e
theorem SB.rt {M0 M:MH}{b:Addr}{N:Nat}{Q:AK}{d:Dat}(s:SB M0 M b N)(q:∀ M',BxS M0 M' b N->Q (.d d) M'):rtA M0 Q (.d d) M:=by
 obtain ⟨M'',f,t⟩:=s.fin d
 exact ⟨_,_,f,q M'' t⟩
theorem Ae {M0 M:MH}{Q:AK}{d:Dat}(f:Fr M0 M)(q:Q (.d d) M0):rtA M0 Q (.d d) M:=⟨_,_,X0 f d,q⟩
theorem SB.frm {M M2 M':MH}{b:Addr}{N:Nat}(f:Fr M M2)(hb:M b=none)(s:SB M2 M' b N):Fr M M':=fun q hq=>by
 have h1:q ≠ b:=fun z=>hq (by rw [z];exact hb)
 rw [s.fr q (by rw [f q hq];exact hq) h1,f q hq]
section
variable {X:Cx}
end
section
open PySem.SeqAt
open PySem.AutoSeq1 (wpAny_loadPart')
open PySem.MeetsSeq PySem.MeetsSeq2 PySem.MeetsSeq3 PySem.SeqRoads2
end
section
variable {X:Cx}
end
section
variable {X:Cx}{pins:List (Addr × Obj)}{σ:St}{H:Hp}{s:Shared}{a b:Addr}{kvs:List (List Key × V)}{k:List Key}{v:V}{r:Value}{A:Around}{E:Value->Shared->Prop}
end
section
variable {prog:Program}{w:World}{A:Around}{E:Value->Shared->Prop}{s:Shared}
theorem vm {l:Addr}{vs:List Value}{Q:List Value->Shared->Prop}(hl:IsTup s.heap l vs.toArray)
  (h:Q vs { s with heap:=(s.heap.push (seqObj "list" #[] 0)).update s.heap.objs.size (Obj.mapSeq (· ++ vs.toArray)) }) (hsz:vs.length<=sizeLine:=by size_fits) :
  wpAny (model prog w) A (collect (.ref l)) Q E s:=by
 obtain ⟨o,ho,hc,n,hd⟩:=id hl
 unfold collect
 refine wpAny_bind (wpAny_runValue (codeAny_builtin entry_proto_collect' ?_))
 show wpAny _ _ (do again (.builtin "list.__iadd__" ⟨[<- newList [],.ref l],[]⟩)) _ _ s
 refine wpAny_bind (wpAny_newList (wpAny_pure ⟨Code.quiet_builtin _ (by decide +kernel),codeAny_builtin entry_list_iadd' ?_⟩))
 show wpAny _ _ (Builtin.List.listExtendWith (.ref s.heap.objs.size) (.ref l) (.ref s.heap.objs.size)) _ _ { s with heap:=s.heap.push (seqObj "list" #[] 0) }
 unfold Builtin.List.listExtendWith
 have ho':(s.heap.push (seqObj "list" #[] 0)).get? l=some o:=Heap.get?_push_of_some _ ho
 refine wpAny_bind (wpAny_typeOf (T:="tuple") ⟨o,ho',hc⟩ ?_)
 have ht:(Value.type "tuple" == Value.type "tuple")=true:=by rfl
 rw [if_pos (by rw [ht];simp)]
 refine wpAny_bind (listItems_at ho' hd ?_)
 refine wpAny_bind (listItems_at (xs:=#[]) (n:=0) (Heap.get?_push_size _ rfl) rfl ?_)
 rw [if_neg (by simp)]
 refine wpAny_bind (listUpdate_at (xs:=#[]) (n:=0) (Heap.get?_push_size _ rfl) rfl ?_ (Nat.zero_le _) (by show (#[] ++ vs.toArray).size<=sizeLine+1;simp only [Array.size_append,List.size_toArray,List.length_nil];omega))
 refine wpAny_pure ?_
 show wpAny (model prog w) A (do
   let o <- load s.heap.objs.size
   match o.data with
   | .seq xs _=>pure xs.toList
   | _=>unsupported "internal:collect") Q E { s with heap:=(s.heap.push (seqObj "list" #[] 0)).update s.heap.objs.size (Obj.mapSeq (· ++ vs.toArray)) }
 refine wpAny_bind (wpAny_load (get?_update_seq (Heap.get?_push_size _ rfl) _) ?_)
 show wpAny _ _ (pure ((#[]:Array Value) ++ vs.toArray).toList) Q E _
 rw [show ((#[]:Array Value) ++ vs.toArray).toList=vs by simp]
 exact wpAny_pure h
end
section
variable {X:Cx}
end
noncomputable def fl2 (o:Obj):Option Value:=match o.data with
 | .fields vs=>vs[2]?
 | _=>none
noncomputable def SmD (h h':Heap):Prop:=∀ b o,h.get? b=some o->∃ o',h'.get? b=some o'/\o'.dict=o.dict/\fl2 o'=fl2 o
structure Kd {α:Type}(t:Sem α):Prop where
 out:∀ (M:Model) (G:PySem.Ctx) (R:α->Pos->Shared->Prop) (Ee:Value->Pos->Shared->Prop) (p:Pos) (s:Shared),Sem.wp M G t R Ee p s->Sem.wp M G t (fun a p' s'=>R a p' s'/\SmD s.heap s'.heap) Ee p s
section
variable {α β:Type}
end
local macro_rules | `(tactic| walk_at "kd")=>`(tactic| repeat' with_reducible first
  | assumption
  | exact kd_pure _
  | exact kd_uns _
  | exact kd_field _ _
  | exact kd_setField _ _ _ (by decide)
  | exact kd_load _
  | exact kd_stack
  | exact kd_alloc _
  | apply kd_ite
  | apply kd_bind
  | intro _
  | split)
structure Aj (P:Program)(w:World)(outer:List Env)(H:Hp)(s:Shared)(B:Heap)(H':Hp)(s':Shared):Prop where
 os:s'.os=s.os
 bare:AllBare s'.gens
 stay:B.StaysIn s'.heap
 cov:∀ b o,s.heap.get? b=some o->b ∉ frs outer->∃ o',B.get? b=some o'/\(H b=none->o'=o)
 slot:∀ b o,s.heap.get? b=some o->b ∈ frs outer->∃ sl,s'.heap.get? b=some { o with slots:=sl }
 frf:∀ b ∈ frs outer,H b=none
 free:∀ b o,s.heap.get? b=some o->H b=none->H' b=none
 tups:∀ b xs,H b=some (.tup xs)->H' b=some (.tup xs)
 frzs:∀ b o u,H b=some (.frz o u)->H' b=some (.frz o u)
 tbls:∀ b ps,H b=some (.tbl ps)->∃ more,H' b=some (.tbl (ps ++ more))
 hok:HOk P w H' B
section
variable {P:Program}{w:World}{outer:List Env}{H H':Hp}{s s':Shared}{B h':Heap}
end
section
variable {X:Cx}{pins:List (Addr × Obj)}{σ:St}{H H':Hp}{s s':Shared}{B h':Heap}
end
noncomputable def Two (d:Option Addr)(H:Hp):Prop:=∃ dx fs,d=some dx/\H dx=some (.xd fs)/\2<=fs.length
structure Air (P:Program)(w:World)(outer:List Env)(H:Hp)(s:Shared)(x C:Addr)(d:Option Addr)(H':Hp)(s':Shared):Prop where
 ex:∃ B a0,Aj P w outer H s B H' s'/\Heap.FlyingW B outer x (.ref C) a0 s'.heap
 dct:∃ o,s'.heap.get? x=some o/\o.dict=d/\(fl2 o=some .none \/ Two d H')
noncomputable def CX1 (P:Program)(w:World):CXT:=fun outer H s E e s'=>∃ x C d H',e=.ref x/\Air P w outer H s x C d H' s'/\E (.ref C) d H'
structure DX (X:Cx)(E:XK):Prop where
 stk:X.stack=X.env :: X.outer
 ex:X.ex=[]
 fr:X.env.frame=some X.env.locals
 xe:X.xe=fun e s'=>wpAny (model X.prog X.w) X.A (leaving X.env e) (fun _ s''=>CX1 X.prog X.w X.outer X.H₀ X.s₀ E e s'') (fun e' s''=>CX1 X.prog X.w X.outer X.H₀ X.s₀ E e' s'') s'
section
variable {X:Cx}{E:XK}{pins:List (Addr × Obj)}{σ:St}{H H':Hp}{s s':Shared}
end
section
variable {X:Cx}{k:Nat}{x:Str}{ps:List Str}{sp:Sp}{E:St->XK}{p pos:Pos}{e:Expr}{es:List Expr}{t:TA}
end
abbrev Ad:List Value:=[.type "ValueError",.type "Exception",.type "BaseException",.type "object"]
section
variable {X:Cx}{E:XK}{C:Addr}{x:Str}{np cpos pos:Pos}{e:Expr}{es:List Expr}{t:TA}
end
section
variable {X:Cx}{pins:List (Addr × Obj)}{σ:St}{H H':Hp}{s s':Shared}
end
section
variable {X:Cx}{pins pins':List (Addr × Obj)}{σ:St}{H:Hp}{s s':Shared}{xe:Value->Shared->Prop}
end
section
variable {X:Cx}{pins:List (Addr × Obj)}{σ:St}{H H':Hp}{s s':Shared}{B:Heap}{x C:Addr}{d:Option Addr}{a0:Value}
variable {body suite:List Stmt}{b₀:Stmt}{n tx:Str}{i:Nat}{T:Addr}{np hpos pos:Pos}{tb:(St->XK)->TS}{th:TS}
end
open PySem.W (Looks InstAt findIn findObj subIn mroIn)
section
variable {prog:Program}{w:World}{A:Around}{E:Value->Shared->Prop}{h:Heap}{g:Array GenState}{d:Drawn}{t:Nat}{os:OsState}{K:PySem.W.Frag}{x C:Addr}{ox:Obj}{od:Option Obj}{name:Str}
structure Ao (K:PySem.W.Frag)(C:Addr):Prop where
 bx:subIn K (.ref C) (.type "BaseException")=some true
 ga:findIn K (.ref C) "__getattribute__"=some (some (.builtin "BaseException.__getattribute__"))
 gt:findIn K (.ref C) "__getattr__"=some none
 cl:findIn K (.ref C) "__class__"=some (some (.builtin "object.__class__"))
 gs:PySem.W.specialIn K (.builtin "object.__class__") "__get__"=some (some (.builtin "getset_descriptor.__get__"))
 tk:PySem.W.takesIn K (.builtin "object.__class__")=some true
 mo:mroIn K C (.type "object")=some true
 is:(PySem.W.clsIn K C).isSome=true
end
inductive Kz (X:Cx):List Expr->List Value->Prop
 | nil:Kz X [] []
 | own {x:Str} {p:Pos} {C:Addr} {es:List Expr} {cs:List Value}:Gl X x->X.mg x=some (.ref C)->(x == ("__debug__":Str))=false->Kz X es cs->Kz X (.Name x p :: es) (.ref C :: cs)
 | blt {x:Str} {p:Pos} {T:String} {es:List Expr} {cs:List Value}:Gl X x->X.mg x=none->bootBuiltins x=some (.type T)->x ≠ "__name__"->(x == ("__debug__":Str))=false->Kz X es cs->Kz X (.Name x p :: es) (.type T :: cs)
section
variable {X:Cx}{e c:Expr}{es:List Expr}{cs:List Value}{t:TE}{p pos tp:Pos}{kk:Nat}
end
noncomputable abbrev AXK:=Addr->List (Str × V)->MH->Prop
noncomputable abbrev Wy:=List AV->MH->AK->AXK->Prop
noncomputable def W8 (H:Hp)(O:Own)(M:MH)(d:Option Addr)(fs:List (Str × V)):Prop:=d=none/\fs=[] \/ ∃ dx,d=some dx/\H dx=some (.xd fs)/\O dx/\M dx=none
structure EXs (H0:Hp)(O0:Own)(M0:MH)(E:St->XK)(EA:ASt->AXK):Prop where
 go:∀ σ ρ C fs M' H' O' d,EA ρ C fs M'->Ext H0 O0 M0 H' O' M'->Wf H' O' M'->Er H' O' M' σ ρ->W8 H' O' M' d fs->E σ (.ref C) d H'
structure An (HX:Hp)(OX:Own)(MX:MH)(t:TS)(a:AS):Prop where
 go:∀ {H0:Hp} {O0:Own} {M0:MH} {D:jR} {D':jr} {σ:St} {H:Hp} {O:Own} {ρ:ASt} {M:MH},Ext HX OX MX H0 O0 M0->Wf H0 O0 M0->Wf H O M->Er H O M σ ρ->Ext H0 O0 M0 H O M->a M0 D' ρ M->ED H0 O0 M0 D D'->t D σ H
section
variable {HX:Hp}{OX:Own}{MX:MH}{t u:TS}{a b:AS}{E:St->XK}{EA:ASt->AXK}{sp:Wy}{ta:TA}{aa:AA}
end
section
variable {K:PySem.W.Frag}{i:Nat}{T:Addr}{tb:(St->XK)->TS}{th:TS}{ab:(ASt->AXK)->AS}{ah:AS}
end
section
variable {X:Cx}{K:PySem.W.Frag}{body suite:List Stmt}{b₀:Stmt}{n tx:Str}{i:Nat}{T:Addr}{np hpos pos tp p:Pos}{tb:(St->XK)->TS}{th:TS}{e c:Expr}{es:List Expr}{cs:List Value}{t:TE}{kk:Nat}
end
section
variable {X:Cx}
end
end L2
namespace PySem
open Sem (wp)
section
variable {prog:Program}{w:World}{A:Around}{E:Value->Shared->Prop}{h:Heap}{g:Array GenState}{d:Drawn}{t:Nat}{os:OsState}
variable {nm q:Str}{C N:Addr}{bs bm bmB:List Value}{hdct:Bool}{sn:List Str}{sub:List Value}{ab:Bool}{col:Option Bool}{dd:Option Addr}{k0 k1 k2 k3 k5:Option Value}{B Bn newId nid initId inN:String}{bmN:List Value}
end
section
variable {M:Model}{A:Around}{E:Value->Shared->Prop}{env:Env}
variable {nm q:Str}{C N:Addr}{bs bm:List Value}{hdct:Bool}{sn:List Str}{sub:List Value}{ab:Bool}{col:Option Bool}{dd:Option Addr}{k0 k1 k2 k3 k5:Option Value}{newId:String}
end
section
variable {prog:Program}{w:World}{A:Around}{E:Value->Shared->Prop}{s:Shared}{env:Env}
variable {nm q:Str}{C N:Addr}{bs bm bmB:List Value}{hdct:Bool}{sn:List Str}{sub:List Value}{ab:Bool}{col:Option Bool}{dd:Option Addr}{k0 k1 k2 k3 k5:Option Value}{B Bn newId nid initId inN:String}{bmN:List Value}
end
end PySem
namespace L2
open PySem PySem.Spec PyProof.Rows
open PySem.W (Looks InstAt findIn findObj subIn mroIn clsIn takerIn hasDictIn)
noncomputable def Ac:Value->Bool
 | .ref _=>true
 | _=>false
noncomputable def V3 (l:List Value):Bool:=l.dropWhile Ac == Ad
structure Ap (K:PySem.W.Frag)(C:Addr)(name:Str):Prop where
 s:findIn K (.ref C) "__setattr__"=some (some (.builtin "object.__setattr__"))
 t:takerIn K C name=some none
 hd:hasDictIn K C=true
 mo:mroIn K C (.type "object")=some true
 ve:(clsIn K C).any (fun cd=>V3 cd.mro)=true
section
variable {prog:Program}{w:World}{A:Around}{E:Value->Shared->Prop}{s:Shared}{K:PySem.W.Frag}{x C:Addr}{ox:Obj}{od:Option Obj}{name:Str}{v:Value}
end
open PySem.W (Looks InstAt findIn findObj subIn mroIn clsIn takerIn hasDictIn)
section
variable {X:Cx}{pins:List (Addr × Obj)}{σ:St}{H:Hp}{s:Shared}
variable {o value:Expr}{f:Str}{ta tv:TE}{pos pos':Pos}
end
section
variable {X:Cx}{E:XK}{C:Addr}{x:Str}{np cpos pos:Pos}{e:Expr}{es:List Expr}{t:TA}{k n:Nat}{fn:List V->List (Str × V)}
end
open PySem.W (Looks InstAt findIn findObj subIn mroIn clsIn takerIn hasDictIn)
section
variable {X:Cx}{k:Nat}{C:Addr}{m x:Str}{ps:List Str}{sp:Sp}{E:St->XK}{p pos apos:Pos}{o e:Expr}{es:List Expr}{t:TA}{to:TE}
end
section
variable {prog:Program}{w:World}{A:Around}{E:Value->Shared->Prop}{s:Shared}{K:PySem.W.Frag}{x C:Addr}{ox u:Obj}{name:Str}{v:Value}
end
section
variable {X:Cx}{e:Expr}{ta:TE}{f:Str}{pos:Pos}
end
open PySem.W (findIn hasDictIn)
section
variable {HX:Hp}{OX:Own}{MX:MH}{E:St->XK}{EA:ASt->AXK}{sp:Wy}{te:TE}{ae:AE}{ta:TA}{aa:AA}{C:Addr}{m:Str}
end
end L2
namespace PySem
open Sem (wp)
section
variable {prog:Program}{w:World}{A:Around}{E:Value->Shared->Prop}{s:Shared}
end
section
variable {prog:Program}{w:World}{A:Around}{E:Value->Shared->Prop}{env:Env}
variable {nm q:Str}{C N:Addr}{bs bm bmB:List Value}{hdct:Bool}{sn:List Str}{sub:List Value}{ab:Bool}{col:Option Bool}{dd:Option Addr}{k0 k1 k2 k3 k5:Option Value}{B Bn newId nid initId inN:String}{bmN:List Value}
end
end PySem
namespace L2
open PySem PySem.Spec PyProof.Rows
section
variable {M:Model}{A:Around}{E:Value->Shared->Prop}{s:Shared}
end
section
variable {X:Cx}{E:XK}{pins:List (Addr × Obj)}{σ:St}{H:Hp}{s:Shared}
end
open PySem.W (Looks InstAt findIn findObj subIn mroIn clsIn takerIn hasDictIn)
structure Ak (k:Nat)(A:Around):Prop where
 gd:A.guards=some []
 dp:A.depth+3 * k+5<recursionLimit
 un:A.units+16 * k+200<cLine
open PySem.W (Looks InstAt findIn findObj subIn mroIn clsIn takerIn hasDictIn)
section
variable {X:Cx}{E:XK}{body:List Stmt}{n tx cx:Str}{i k nn:Nat}{T C2:Addr}{np cp cpos rpos hpos pos:Pos}{tb:(St->XK)->TS}{ta:TA}{e1:Expr}{es:List Expr}{fn:List V->List (Str × V)}
end
open PySem.W (Looks InstAt findIn findObj subIn mroIn clsIn takerIn hasDictIn)
section
variable {X:Cx}{e:Expr}{ta:TE}{f:Str}{pos:Pos}{K:PySem.W.Frag}
end
section
variable {HX:Hp}{OX:Own}{MX:MH}{K:PySem.W.Frag}{i j:Nat}{T C2:Addr}{f:Str}{fn:List V->List (Str × V)}{E:XK}{EA:ASt->AXK}{tb:(St->XK)->TS}{ab:(ASt->AXK)->AS}
end
section
variable {X:Cx}{K:PySem.W.Frag}{E:XK}{body:List Stmt}{n tx cx:Str}{i k nn:Nat}{T C2:Addr}{np cp cpos rpos hpos pos:Pos}{tb:(St->XK)->TS}{ta:TA}{e1:Expr}{es:List Expr}{fn:List V->List (Str × V)}
end
section
variable {X:Cx}
end
structure QJ where
 nx:ASt->MH->Prop
 rt:List AV->MH->Prop
noncomputable abbrev AST:=MH->QJ->ASt->MH->Prop
structure Am (t:TS)(a:AST):Prop where
 go:∀ {H0:Hp} {O0:Own} {M0:MH} {Q:VK} {D':QJ} {σ:St} {H:Hp} {O:Own} {ρ:ASt} {M:MH} {nx:St->Hp->Prop},Wf H0 O0 M0->Wf H O M->Er H O M σ ρ->Ext H0 O0 M0 H O M->a M0 D' ρ M ->
  (∀ ys M' us H' O' p,D'.rt ys M'->Ext H0 O0 M0 H' O' M'->Wf H' O' M'->H' p=some (.tup us)->zb H' O' M' us ys->Q (.ref p) H')->t { nx:=nx,rt:=Q } σ H
end L2
namespace L2
open PySem PyProof.Rows
noncomputable def kn (p:Keyed):Int:=numOf p.1
noncomputable def LEr (rk:Keyed->Int)(p q:Keyed):Prop:=kn p<kn q \/ (kn p=kn q/\rk p<=rk q)
section
variable {rk:Keyed->Int}{p q r:Keyed}
theorem LEr.refl:LEr rk p p:=.inr ⟨rfl,Int.le_refl _⟩
theorem LEr.trans (h:LEr rk p q)(g:LEr rk q r):LEr rk p r:=by
 unfold LEr at *;omega
theorem LEr.kn (h:LEr rk p q):kn p<=kn q:=by unfold LEr at h;omega
theorem LEr.of (h:L2.kn p<=L2.kn q)(g:rk p<=rk q):LEr rk p q:=by unfold LEr;omega
end
noncomputable def IsI (p:Keyed):Prop:=∃ n t,p.1=Value.int n t
section
variable {prog:Program}{w:World}{A:Around}{E:Value->Shared->Prop}{s:Shared}
theorem yy {st:SortSt}{x y:Keyed}{Q:Option Bool->SortSt->Prop}(hk:kindOf st=oneType')(hx:IsI x)(hy:IsI y)(h:Q (some (decide (kn x<kn y))) st):wpS (model prog w) A E s (lt' x y) Q st:=by
 obtain ⟨x1,x2⟩:=x
 obtain ⟨y1,y2⟩:=y
 obtain ⟨a,t,rfl⟩:=hx
 obtain ⟨b,u,rfl⟩:=hy
 rw [lt'_eq]
 refine wpS_bind (wpS_get ?_)
 rw [hk,keyLt'_oneType]
 exact wpS_bind (wpS_lift (wpAny_attempt (oneLt_int ⟨rfl,wpS_pure h⟩)))
theorem zu {st:SortSt}{xs:Array Keyed}{i:Nat}{x:Keyed}{Q:Keyed->SortSt->Prop}(hx:xs[i]?=some x)(h:Q x st):wpS (model prog w) A E s (elem' xs i) Q st:=by
 rw [elem'_eq,hx];exact wpS_pure h
theorem qI {σ:Type}{st:σ}{t:String}{Q:PUnit->σ->Prop}(h:Q ⟨⟩ st):wpS (model prog w) A E s (liftM (rule t):StateT σ Sem PUnit) Q st:=wpS_lift (wpAny_rule ⟨rfl,h⟩)
end
noncomputable def yk:Bool->Keyed->Array Keyed->Nat->Nat->Nat->StateT SortSt Sem (Option Nat):=sortPriv% PySem.Builtin.gallop
local macro_rules | `(tactic| walk_at "unG")=>do
 let n:=Lean.mkIdent (Lean.mkPrivateNameCore `PySem.Builtin.List.W1All `PySem.Builtin.gallop)
 `(tactic| unfold $n)
noncomputable def byd (left:Bool)(key x:Keyed):Bool:=if left then decide (kn x<kn key) else !decide (kn key<kn x)
theorem Jb {left:Bool}{key x y:Keyed}(h:kn x<=kn y)(g:byd left key y=true):byd left key x=true:=by
 unfold byd at *
 cases left
 ·simp only [Bool.false_eq_true,if_false,Bool.not_eq_true',decide_eq_false_iff_not] at *;omega
 ·simp only [if_true,decide_eq_true_eq] at *;omega
structure Cut (left:Bool)(key:Keyed)(f:Nat->Keyed)(n k:Nat):Prop where
 le:k<=n
 lo:∀ i,i<k->byd left key (f i)=true
 hi:∀ i,k<=i->i<n->byd left key (f i)=false
section
variable {prog:Program}{w:World}{A:Around}{E:Value->Shared->Prop}{s:Shared}
theorem ZM {st:SortSt}{left:Bool}{key:Keyed}{xs:Array Keyed}{base n hint:Nat}{f:Nat->Keyed}{Q:Option Nat->SortSt->Prop}(hk:kindOf st=oneType')(hkey:IsI key)(hf:∀ i,i<n->xs[base+i]?=some (f i)/\IsI (f i))(hs:∀ i j,i<=j->j<n->kn (f i)<=kn (f j))(hh:hint<n)
  (h:∀ k,Cut left key f n k->Q (some k) st):wpS (model prog w) A E s (yk left key xs base n hint) Q st:=by
 unfold yk
 walk_at "unG"
 have hb:∀ (i:Nat) (Q:Option Bool->SortSt->Prop),i<n->Q (some (byd left key (f i))) st->wpS (model prog w) A E s (do
   let x <- elem' xs (base+i)
   if left=true then lt' x key else do
    let r <- lt' key x
    pure (r.map (!·))) Q st:=fun i Q hi q=>by
  refine wpS_bind (zu (hf i hi).1 ?_)
  unfold byd at q
  cases left
  ·rw [if_neg (by decide)]
   exact wpS_bind (yy hk hkey (hf i hi).2 (wpS_pure q))
  ·rw [if_pos rfl]
   exact yy hk (hf i hi).2 hkey q
 have up:∀ i j,i<=j->j<n->byd left key (f j)=true->byd left key (f i)=true:=fun i j h1 h2=>Jb (hs i j h1 h2)
 have dn:∀ i j,i<=j->j<n->byd left key (f i)=false->byd left key (f j)=false:=fun i j h1 h2 g=>by
  cases e:byd left key (f j) with
  | false=>rfl
  | true=>rw [up i j h1 h2 e] at g;exact g
 have fin:∀ {F:Nat->Option (Option Nat) × Nat × Nat->StateT SortSt Sem (ForInStep (Option (Option Nat) × Nat × Nat))} lo hi,(∀ t lo hi (R:_->SortSt->Prop),lo ≥ hi->R (ForInStep.done (none,lo,hi)) st->wpS (model prog w) A E s (F t (none,lo,hi)) R st) ->
   (∀ t lo hi (R:_->SortSt->Prop),lo<hi->hi<=n->R (ForInStep.yield (if byd left key (f (lo+(hi - lo) / 2))=true then (none,lo+(hi - lo) / 2+1,hi) else (none,lo,lo+(hi - lo) / 2))) st->wpS (model prog w) A E s (F t (none,lo,hi)) R st) ->
   lo<=hi->hi<=n->(∀ i,i<lo->byd left key (f i)=true)->(∀ i,hi<=i->i<n->byd left key (f i)=false)->wpS (model prog w) A E s (forIn [0:n] (none,lo,hi) F) (fun c st'=>st'=st/\∃ k,c=(none,k,k)/\Cut left key f n k) st:=fun lo hi F1 F2 h1 h2 h3 h4=>by
  refine wpS_forRange (I:=fun t c st'=>st'=st/\∃ lo hi,c=(none,lo,hi)/\lo<=hi/\hi<=n/\hi - lo<=n - t/\(∀ i,i<lo->byd left key (f i)=true)/\(∀ i,hi<=i->i<n->byd left key (f i)=false))
   ?_ ?_ ⟨rfl,lo,hi,rfl,h1,h2,by omega,h3,h4⟩
  ·rintro t c st' _ ht ⟨rfl,lo,hi,rfl,g1,g2,g3,g4,g5⟩
   by_cases c:lo ≥ hi
   ·have:lo=hi:=by omega
    subst this
    exact F1 _ _ _ _ c ⟨rfl,lo,rfl,g2,g4,g5⟩
   ·refine F2 _ _ _ _ (by omega) g2 ?_
    cases e:byd left key (f (lo+(hi - lo) / 2)) with
    | true=>rw [if_pos rfl];exact ⟨rfl,_,_,rfl,by omega,g2,by omega,fun i hi'=>up i _ (by omega) (by omega) e,g5⟩
    | false=>rw [if_neg (by decide)];exact ⟨rfl,_,_,rfl,by omega,by omega,by omega,g4,fun i h1 h2=>dn _ i h1 h2 e⟩
  ·rintro c st' ⟨rfl,lo,hi,rfl,g1,g2,g3,g4,g5⟩
   have:lo=hi:=by omega
   subst this
   exact ⟨rfl,lo,rfl,g2,g4,g5⟩
 dsimp only
 refine wpS_bind (hb hint _ hh ?_)
 cases e:byd left key (f hint) with
 | true=>
  dsimp only
  rw [if_pos rfl]
  refine wpS_bind (wpS_mono (wpS_forRange (I:=fun t c st'=>st'=st/\∃ la o,c=(none,la,o)/\la<o/\t+1<=o/\hint+la<n/\byd left key (f (hint+la))=true)
   (Q:=fun c st'=>st'=st/\∃ la o,c=(none,la,o)/\la<o/\hint+la<n/\byd left key (f (hint+la))=true/\(o ≥ n - hint \/ byd left key (f (hint+o))=false)) ?_ ?_ ⟨rfl,0,1,rfl,by omega,by omega,by omega,e⟩) ?_)
  ·rintro t c st' _ ht ⟨rfl,la,o,rfl,g1,g2,g3,g4⟩
   dsimp only
   by_cases c:o ≥ n - hint
   ·rw [if_pos c];exact wpS_pure ⟨rfl,la,o,rfl,g1,g3,g4,.inl c⟩
   ·rw [if_neg c]
    refine wpS_bind (hb _ _ (by omega) ?_)
    cases e2:byd left key (f (hint+o)) with
    | true=>exact wpS_pure ⟨rfl,o,_,rfl,by omega,by omega,by omega,e2⟩
    | false=>exact wpS_pure ⟨rfl,la,o,rfl,g1,g3,g4,.inr e2⟩
  ·rintro c st' ⟨rfl,la,o,rfl,g1,g2,g3,g4⟩
   exact ⟨rfl,la,o,rfl,g1,g3,g4,.inl (by omega)⟩
  ·rintro c st' ⟨rfl,la,o,rfl,g1,g3,g4,g5⟩
   refine wpS_bind (wpS_mono (fin (hint+la+1) (hint+min o (n - hint)) (fun t lo hi R c r=>?_) (fun t lo hi R c c2 r=>?_) (by omega) (by omega) ?_ ?_) ?_)
   ·dsimp only;rw [if_pos c];exact wpS_pure r
   ·dsimp only
    rw [if_neg (by omega)]
    refine wpS_bind (hb _ _ (by omega) ?_)
    cases e:byd left key (f (lo+(hi - lo) / 2)) with
    | true=>rw [e,if_pos rfl] at r;exact wpS_pure r
    | false=>rw [e,if_neg (by decide)] at r;exact wpS_pure r
   ·exact fun i hi=>up i _ (by omega) g3 g4
   ·intro i h1 h2
    rcases g5 with g5 | g5
    ·omega
    ·exact dn _ i (by omega) h2 g5
   ·rintro c st' ⟨rfl,k,rfl,g⟩
    exact wpS_pure (h k g)
 | false=>
  dsimp only
  rw [if_neg (by decide)]
  refine wpS_bind (wpS_mono (wpS_forRange (I:=fun t c st'=>st'=st/\∃ la o,c=(none,la,o)/\la<o/\t+1<=o/\la<=hint/\byd left key (f (hint - la))=false)
   (Q:=fun c st'=>st'=st/\∃ la o,c=(none,la,o)/\la<o/\la<=hint/\byd left key (f (hint - la))=false/\(o ≥ hint+1 \/ byd left key (f (hint - o))=true)) ?_ ?_ ⟨rfl,0,1,rfl,by omega,by omega,by omega,e⟩) ?_)
  ·rintro t c st' _ ht ⟨rfl,la,o,rfl,g1,g2,g3,g4⟩
   dsimp only
   by_cases c:o ≥ hint+1
   ·rw [if_pos c];exact wpS_pure ⟨rfl,la,o,rfl,g1,g3,g4,.inl c⟩
   ·rw [if_neg c]
    refine wpS_bind (hb _ _ (by omega) ?_)
    cases e2:byd left key (f (hint - o)) with
    | true=>exact wpS_pure ⟨rfl,la,o,rfl,g1,g3,g4,.inr e2⟩
    | false=>exact wpS_pure ⟨rfl,o,_,rfl,by omega,by omega,by omega,e2⟩
  ·rintro c st' ⟨rfl,la,o,rfl,g1,g2,g3,g4⟩
   exact ⟨rfl,la,o,rfl,g1,g3,g4,.inl (by omega)⟩
  ·rintro c st' ⟨rfl,la,o,rfl,g1,g3,g4,g5⟩
   refine wpS_bind (wpS_mono (fin (hint+1 - min o (hint+1)) (hint - la) (fun t lo hi R c r=>?_) (fun t lo hi R c c2 r=>?_) (by omega) (by omega) ?_ ?_) ?_)
   ·dsimp only;rw [if_pos c];exact wpS_pure r
   ·dsimp only
    rw [if_neg (by omega)]
    refine wpS_bind (hb _ _ (by omega) ?_)
    cases e:byd left key (f (lo+(hi - lo) / 2)) with
    | true=>rw [e,if_pos rfl] at r;exact wpS_pure r
    | false=>rw [e,if_neg (by decide)] at r;exact wpS_pure r
   ·intro i hi
    rcases g5 with g5 | g5
    ·omega
    ·exact up i _ (by omega) (by omega) g5
   ·exact fun i h1 h2=>dn _ i (by omega) h2 g4
   ·rintro c st' ⟨rfl,k,rfl,g⟩
    exact wpS_pure (h k g)
end
end L2
namespace L2
open PySem PyProof.Rows
section
variable {rk:Keyed->Int}
structure MLo (rk:Keyed->Int)(X Y:List Keyed)(a b:Nat)(o:List Keyed):Prop where
 la:a<=X.length
 lb:b<=Y.length
 perm:o.Perm (X.take a ++ Y.take b)
 pw:o.Pairwise (LEr rk)
 lx:∀ x ∈ o,∀ y ∈ X.drop a,LEr rk x y
 ly:∀ x ∈ o,∀ y ∈ Y.drop b,LEr rk x y
structure qM (rk:Keyed->Int)(X Y:List Keyed):Prop where
 px:X.Pairwise (LEr rk)
 py:Y.Pairwise (LEr rk)
 bel:∀ x ∈ X,∀ y ∈ Y,rk x<=rk y
 ix:∀ x ∈ X,IsI x
 iy:∀ y ∈ Y,IsI y
theorem jk {X:List Keyed}(h:X.Pairwise (LEr rk)){a:Nat}{x:Keyed}(hx:X[a]?=some x):∀ y ∈ X.drop a,LEr rk x y:=fun y hy=>by
 obtain ⟨hl,rfl⟩:=List.getElem?_eq_some_iff.mp hx
 rw [List.drop_eq_getElem_cons hl] at hy
 rcases List.mem_cons.mp hy with rfl | hy
 ·exact LEr.refl
 ·have:=List.Pairwise.sublist (List.drop_sublist a X) h
  rw [List.drop_eq_getElem_cons hl] at this
  exact (List.pairwise_cons.mp this).1 y hy
theorem qP {X:List Keyed}(h:X.Pairwise (LEr rk)){a:Nat}{x:Keyed}(hx:X[a]?=some x):∀ y ∈ X.take (a+1),LEr rk y x:=fun y hy=>by
 obtain ⟨hl,rfl⟩:=List.getElem?_eq_some_iff.mp hx
 rw [List.take_succ_eq_append_getElem hl] at hy
 rcases List.mem_append.mp hy with hy | hy
 ·have:=List.Pairwise.sublist (List.take_sublist (a+1) X) h
  rw [List.take_succ_eq_append_getElem hl] at this
  exact (List.pairwise_append.mp this).2.2 y hy _ (List.mem_singleton.mpr rfl)
 ·rw [List.mem_singleton.mp hy];exact LEr.refl
theorem xJ {o:List Keyed}{x:Keyed}(h:o.Pairwise (LEr rk))(g:∀ y ∈ o,LEr rk y x):(o ++ [x]).Pairwise (LEr rk):=List.pairwise_append.mpr ⟨h,List.pairwise_singleton _ _,fun y hy z hz=>by rw [List.mem_singleton.mp hz];exact g y hy⟩
theorem wg {o A B:List Keyed}{x:Keyed}(h:o.Perm (A ++ B)):(o ++ [x]).Perm ((A ++ [x]) ++ B):=by
 rw [List.append_assoc]
 refine (h.append_right [x]).trans ?_
 rw [List.append_assoc]
 exact List.Perm.append_left A List.perm_append_comm
theorem wr {o A B:List Keyed}{x:Keyed}(h:o.Perm (A ++ B)):(o ++ [x]).Perm (A ++ (B ++ [x])):=by
 rw [<- List.append_assoc];exact h.append_right [x]
variable {X Y o:List Keyed}{a b:Nat}
theorem MLo.x (T:qM rk X Y)(h:MLo rk X Y a b o){x y:Keyed}(hx:X[a]?=some x)(hy:Y[b]?=some y)(c:kn x<=kn y):MLo rk X Y (a+1) b (o ++ [x]):=by
 obtain ⟨hl,e⟩:=List.getElem?_eq_some_iff.mp hx
 have hd:X.drop a=x :: X.drop (a+1):=by rw [List.drop_eq_getElem_cons hl,e]
 have mx:x ∈ X:=List.mem_of_getElem? hx
 refine ⟨hl,h.lb,?_,xJ h.pw fun z hz=>h.lx z hz x (by rw [hd];exact List.mem_cons_self ..),fun z hz y' hy'=>?_,fun z hz y' hy'=>?_⟩
 ·rw [List.take_succ_eq_append_getElem hl,e];exact wg h.perm
 ·rcases List.mem_append.mp hz with hz | hz
  ·exact h.lx z hz y' (by rw [hd];exact List.mem_cons_of_mem _ hy')
  ·rw [List.mem_singleton.mp hz];exact jk T.px hx y' (by rw [hd];exact List.mem_cons_of_mem _ hy')
 ·rcases List.mem_append.mp hz with hz | hz
  ·exact h.ly z hz y' hy'
  ·rw [List.mem_singleton.mp hz]
   have:=(jk T.py hy y' hy').kn
   exact LEr.of (by omega) (T.bel _ mx _ (List.mem_of_mem_drop hy'))
theorem MLo.y (T:qM rk X Y)(h:MLo rk X Y a b o){x y:Keyed}(hx:X[a]?=some x)(hy:Y[b]?=some y)(c:kn y<kn x):MLo rk X Y a (b+1) (o ++ [y]):=by
 obtain ⟨hl,e⟩:=List.getElem?_eq_some_iff.mp hy
 have hd:Y.drop b=y :: Y.drop (b+1):=by rw [List.drop_eq_getElem_cons hl,e]
 refine ⟨h.la,hl,?_,xJ h.pw fun z hz=>h.ly z hz y (by rw [hd];exact List.mem_cons_self ..),fun z hz y' hy'=>?_,fun z hz y' hy'=>?_⟩
 ·rw [List.take_succ_eq_append_getElem hl,e];exact wr h.perm
 ·rcases List.mem_append.mp hz with hz | hz
  ·exact h.lx z hz y' hy'
  ·rw [List.mem_singleton.mp hz]
   have:=(jk T.px hx y' hy').kn
   exact .inl (by omega)
 ·rcases List.mem_append.mp hz with hz | hz
  ·exact h.ly z hz y' (by rw [hd];exact List.mem_cons_of_mem _ hy')
  ·rw [List.mem_singleton.mp hz];exact jk T.py hy y' (by rw [hd];exact List.mem_cons_of_mem _ hy')
theorem MLo.xs (T:qM rk X Y)(h:MLo rk X Y a b o){y:Keyed}(hy:Y[b]?=some y):∀ k,(∀ i,i<k->∃ x,X[a+i]?=some x/\kn x<=kn y)->MLo rk X Y (a+k) b (o ++ (X.drop a).take k)
 | 0,_=>by rw [List.take_zero,List.append_nil];exact h
 | k+1,g=>by
  obtain ⟨x,h1,h2⟩:=g k (by omega)
  have:=(MLo.xs T h hy k fun i hi=>g i (by omega)).x T h1 hy h2
  obtain ⟨hl,e⟩:=List.getElem?_eq_some_iff.mp h1
  rw [List.append_assoc] at this
  rw [show (X.drop a).take (k+1)=(X.drop a).take k ++ [x] by rw [List.take_succ_eq_append_getElem (by rw [List.length_drop];omega),List.getElem_drop,e]]
  exact this
theorem MLo.ys (T:qM rk X Y)(h:MLo rk X Y a b o){x:Keyed}(hx:X[a]?=some x):∀ k,(∀ i,i<k->∃ y,Y[b+i]?=some y/\kn y<kn x)->MLo rk X Y a (b+k) (o ++ (Y.drop b).take k)
 | 0,_=>by rw [List.take_zero,List.append_nil];exact h
 | k+1,g=>by
  obtain ⟨y,h1,h2⟩:=g k (by omega)
  have:=(MLo.ys T h hx k fun i hi=>g i (by omega)).y T hx h1 h2
  obtain ⟨hl,e⟩:=List.getElem?_eq_some_iff.mp h1
  rw [List.append_assoc] at this
  rw [show (Y.drop b).take (k+1)=(Y.drop b).take k ++ [y] by rw [List.take_succ_eq_append_getElem (by rw [List.length_drop];omega),List.getElem_drop,e]]
  exact this
noncomputable def qg (rk:Keyed->Int)(X Y m:List Keyed):Prop:=m.Perm (X ++ Y)/\m.Pairwise (LEr rk)
theorem MLo.doneY (T:qM rk X Y)(h:MLo rk X Y a Y.length o):qg rk X Y (o ++ X.drop a ++ Y.drop Y.length):=by
 rw [List.drop_length,List.append_nil]
 have p:=h.perm
 rw [List.take_length] at p
 refine ⟨?_,List.pairwise_append.mpr ⟨h.pw,T.px.sublist (List.drop_sublist _ _),h.lx⟩⟩
 refine (p.append_right _).trans ?_
 rw [List.append_assoc]
 refine (List.Perm.append_left _ List.perm_append_comm).trans ?_
 rw [<- List.append_assoc,List.take_append_drop]
theorem MLo.doneX (T:qM rk X Y)(h:MLo rk X Y X.length b o):qg rk X Y (o ++ X.drop X.length ++ Y.drop b):=by
 rw [List.drop_length,List.append_nil]
 have p:=h.perm
 rw [List.take_length] at p
 refine ⟨?_,List.pairwise_append.mpr ⟨h.pw,T.py.sublist (List.drop_sublist _ _),h.ly⟩⟩
 refine (p.append_right _).trans ?_
 rw [List.append_assoc,List.take_append_drop]
theorem MLo.last (T:qM rk X Y)(h:MLo rk X Y a b o)(ha:a+1=X.length)(g:∀ x,X[a]?=some x->∀ y ∈ Y,kn y<kn x):qg rk X Y (o ++ Y.drop b ++ X.drop a):=by
 obtain ⟨x,hx⟩:∃ x,X[a]?=some x:=⟨_,List.getElem?_eq_getElem (by omega)⟩
 obtain ⟨hl,e⟩:=List.getElem?_eq_some_iff.mp hx
 have hd:X.drop a=[x]:=by rw [List.drop_eq_getElem_cons hl,e,List.drop_eq_nil_of_le (by omega)]
 refine ⟨?_,?_⟩
 ·refine ((h.perm.append_right _).append_right _).trans ?_
  rw [List.append_assoc (X.take a),List.take_append_drop]
  rw [List.append_assoc]
  refine (List.Perm.append_left _ List.perm_append_comm).trans ?_
  rw [<- List.append_assoc,List.take_append_drop]
 ·rw [hd]
  refine xJ (List.pairwise_append.mpr ⟨h.pw,T.py.sublist (List.drop_sublist _ _),h.ly⟩) fun y hy=>?_
  rcases List.mem_append.mp hy with hy | hy
  ·exact h.lx y hy x (by rw [hd];exact List.mem_singleton.mpr rfl)
  ·exact .inl (g x hx y (List.mem_of_mem_drop hy))
end
noncomputable def yI:Array Keyed->Array Keyed->StateT SortSt Sem (Array Keyed):=sortPriv% PySem.Builtin.mergeLo
local macro_rules | `(tactic| walk_at "unM")=>do
 let n:=Lean.mkIdent (Lean.mkPrivateNameCore `PySem.Builtin.List.W1All `PySem.Builtin.mergeLo)
 `(tactic| unfold $n)
noncomputable abbrev jp (st:SortSt)(g:Nat):SortSt:=SortSt.mk' (kindOf st) (arrOf st) (pendingOf st) g (failedOf st)
noncomputable def wN:Nat->StateT SortSt Sem Unit:=sortPriv% PySem.Builtin.setMinGallop
theorem vQ (g:Nat):wN g=modify fun st=>jp st g:=rfl
section
variable {prog:Program}{w:World}{A:Around}{E:Value->Shared->Prop}{s:Shared}{rk:Keyed->Int}
theorem jj {st:SortSt}{g:Nat}{Q:Unit->SortSt->Prop}(h:Q () (jp st g)):wpS (model prog w) A E s (wN g) Q st:=by
 rw [vQ];exact wpS_modify h
theorem xx {X:List Keyed}(h:X.Pairwise (LEr rk)){i j:Nat}(hij:i<=j)(hj:j<X.length):kn (X[i]?.getD (.none,.none))<=kn (X[j]?.getD (.none,.none)):=by
 rw [List.getElem?_eq_getElem hj,List.getElem?_eq_getElem (by omega)]
 by_cases c:i=j
 ·subst c;exact Int.le_refl _
 ·exact (List.pairwise_iff_getElem.mp h i j (by omega) hj (by omega)).kn
theorem jP {st:SortSt}{left:Bool}{key:Keyed}{xs:Array Keyed}{base n hint:Nat}{Q:Option Nat->SortSt->Prop}(hk:kindOf st=oneType')(hkey:IsI key)(hX:((xs.toList.drop base).take n).Pairwise (LEr rk))(hI:∀ x ∈ xs.toList,IsI x)(hb:base+n<=xs.size)(hh:hint<n)
  (h:∀ k,k<=n->(∀ i,i<k->∃ x,xs.toList[base+i]?=some x/\byd left key x=true)->(∀ i,k<=i->i<n->∃ x,xs.toList[base+i]?=some x/\byd left key x=false)->Q (some k) st):wpS (model prog w) A E s (yk left key xs base n hint) Q st:=by
 have ge:∀ i,i<n->∃ x,xs.toList[base+i]?=some x/\((xs.toList.drop base).take n)[i]?=some x:=fun i hi=>by
  have:base+i<xs.toList.length:=by rw [Array.length_toList];omega
  refine ⟨_,List.getElem?_eq_getElem this,?_⟩
  rw [List.getElem?_take_of_lt hi,List.getElem?_drop,List.getElem?_eq_getElem this]
 refine ZM (f:=fun i=>((xs.toList.drop base).take n)[i]?.getD (.none,.none)) hk hkey (fun i hi=>?_) (fun i j hij hj=>xx hX hij (by rw [List.length_take,List.length_drop,Array.length_toList];omega)) hh fun k c=>h k c.le (fun i hi=>?_) fun i h1 h2=>?_
 ·obtain ⟨x,h1,h2⟩:=ge i hi
  rw [h2,<- Array.getElem?_toList,h1]
  exact ⟨rfl,hI x (List.mem_of_getElem? h1)⟩
 ·obtain ⟨x,h1,h2⟩:=ge i (Nat.lt_of_lt_of_le hi c.le)
  have:=c.lo i hi
  rw [h2] at this
  exact ⟨x,h1,this⟩
 ·obtain ⟨x,h3,h4⟩:=ge i h2
  have:=c.hi i h1 h2
  rw [h4] at this
  exact ⟨x,h3,this⟩
theorem Kr {key x:Keyed}(h:byd true key x=true):kn x<kn key:=by unfold byd at h;simpa using h
theorem wl {key x:Keyed}(h:byd true key x=false):kn key<=kn x:=by unfold byd at h;simpa using h
theorem JB {key x:Keyed}(h:byd false key x=true):kn x<=kn key:=by unfold byd at h;simpa using h
theorem vp {key x:Keyed}(h:byd false key x=false):kn key<kn x:=by unfold byd at h;simpa using h
end
end L2
namespace L2
open PySem PyProof.Rows
local macro_rules | `(tactic| walk_at "unM")=>do
 let n:=Lean.mkIdent (Lean.mkPrivateNameCore `PySem.Builtin.List.W1All `PySem.Builtin.mergeLo)
 `(tactic| unfold $n)
section
variable {prog:Program}{w:World}{A:Around}{E:Value->Shared->Prop}{s:Shared}{rk:Keyed->Int}
theorem ya (xs:Array Keyed)(i k:Nat):(xs.extract i (i+k)).toList=(xs.toList.drop i).take k:=by
 rw [Array.toList_extract,List.extract_eq_take_drop,Nat.add_sub_cancel_left]
theorem jm (xs:Array Keyed)(i:Nat):(xs.extract i xs.size).toList=xs.toList.drop i:=by
 rw [Array.toList_extract,List.extract_eq_take_drop,List.take_of_length_le (by rw [List.length_drop,Array.length_toList];omega)]
theorem qo {xs:Array Keyed}{i:Nat}(h:i<xs.size):∃ x,xs[i]?=some x/\xs.toList[i]?=some x:=⟨xs[i],Array.getElem?_eq_getElem h,by rw [Array.getElem?_toList,Array.getElem?_eq_getElem h]⟩
theorem zE {α:Type}{st:SortSt}{c:Prop}[Decidable c]{m1 m2:StateT SortSt Sem α}{Q:α->SortSt->Prop}(h1:c->wpS (model prog w) A E s m1 Q st)(h2:¬ c->wpS (model prog w) A E s m2 Q st):wpS (model prog w) A E s (if c then m1 else m2) Q st:=by
 by_cases h:c
 ·rw [if_pos h];exact h1 h
 ·rw [if_neg h];exact h2 h
theorem Yj {α:Type}{st:SortSt}{c:Nat->Prop}{dc:∀ g,Decidable (c g)}{F m1:Nat->StateT SortSt Sem α}{Q:α->SortSt->Prop}(h:∀ g,wpS (model prog w) A E s (F g) Q st)(e:∀ g,m1 g=F (g - 1)):∀ g,wpS (model prog w) A E s (if c g then m1 g else F g) Q st:=fun g=>zE (fun _=>e g ▸ h _) fun _=>h _
theorem Yf {α:Type}{st:SortSt}{P:Array Keyed->Nat->Prop}{c:Prop}{dc:Decidable c}{c1 c2:Array Keyed->Nat->Prop}{d1:∀ o a,Decidable (c1 o a)}{d2:∀ o a,Decidable (c2 o a)}{F m1 r1 r2:Array Keyed->Nat->StateT SortSt Sem α}{Q:α->SortSt->Prop}(f:Array Keyed->Nat->Array Keyed)(g:Nat->Nat)
  (h1:∀ o a,P o a->c->c1 o a->wpS (model prog w) A E s (r1 o a) Q st) (h2:∀ o a,P o a->c->¬ c1 o a->c2 o a->wpS (model prog w) A E s (r2 o a) Q st) (h:∀ o a o2 a2,P o a->(c/\¬ c1 o a/\¬ c2 o a/\o2=f o a/\a2=g a) \/ (¬ c/\o2=o/\a2=a)->wpS (model prog w) A E s (F o2 a2) Q st) (e:∀ o a,m1 o a=F (f o a) (g a)) :
  ∀ o a,P o a->wpS (model prog w) A E s (if c then if c1 o a then r1 o a else if c2 o a then r2 o a else m1 o a else F o a) Q st:=fun o a p=>
 zE (fun hc=>zE (h1 o a p hc) fun hc1=>zE (h2 o a p hc hc1) fun hc2=>e o a ▸ h o a _ _ p (.inl ⟨hc,hc1,hc2,rfl,rfl⟩)) fun hc=>h o a _ _ p (.inr ⟨hc,rfl,rfl⟩)
theorem Yg {α:Type}{st:SortSt}{P:Array Keyed->Nat->Prop}{c:Prop}{dc:Decidable c}{c1:Array Keyed->Nat->Prop}{d1:∀ o a,Decidable (c1 o a)}{F m1 r1:Array Keyed->Nat->StateT SortSt Sem α}{Q:α->SortSt->Prop}(f:Array Keyed->Nat->Array Keyed)(g:Nat->Nat)
  (h1:∀ o a,P o a->c->c1 o a->wpS (model prog w) A E s (r1 o a) Q st) (h:∀ o a o2 a2,P o a->(c/\¬ c1 o a/\o2=f o a/\a2=g a) \/ (¬ c/\o2=o/\a2=a)->wpS (model prog w) A E s (F o2 a2) Q st) (e:∀ o a,m1 o a=F (f o a) (g a)) :
  ∀ o a,P o a->wpS (model prog w) A E s (if c then if c1 o a then r1 o a else m1 o a else F o a) Q st:=fun o a p=>
 zE (fun hc=>zE (h1 o a p hc) fun hc1=>e o a ▸ h o a _ _ p (.inl ⟨hc,hc1,rfl,rfl⟩)) fun hc=>h o a _ _ p (.inr ⟨hc,rfl,rfl⟩)
theorem vJ {st : SortSt}{xs ys : Array Keyed}{Q : Array Keyed -> SortSt -> Prop}(hk : kindOf st = oneType')(T : qM rk xs.toList ys.toList)(hx : 0 < xs.size)(hy : 0 < ys.size)(h0 : ∀ x y, xs.toList[0]? = some x -> ys.toList[0]? = some y -> kn y < kn x)(hl : ∀ x, xs.toList[xs.size - 1]? = some x -> ∀ y ∈ ys.toList, kn y < kn x)
    (h:∀ m g,qg rk xs.toList ys.toList m.toList->Q m (jp st g)):wpS (model prog w) A E s (yI xs ys) Q st:=by
  unfold yI
  walk_at "unM"
  have lx:xs.toList.length=xs.size:=Array.length_toList
  have ly:ys.toList.length=ys.size:=Array.length_toList
  have dn:∀ {o:Array Keyed} {a b},MLo rk xs.toList ys.toList a b o.toList->b=ys.size->qg rk xs.toList ys.toList (o ++ xs.extract a ++ ys.extract b).toList:=fun {o a b} M e=>by
    rw [Array.toList_append,Array.toList_append,jm,jm]
    subst e;rw [<- ly] at M ⊢;exact M.doneY T
  have dnx:∀ {o:Array Keyed} {a b},MLo rk xs.toList ys.toList a b o.toList->a=xs.size->qg rk xs.toList ys.toList (o ++ xs.extract a ++ ys.extract b).toList:=fun {o a b} M e=>by
    rw [Array.toList_append,Array.toList_append,jm,jm]
    subst e;rw [<- lx] at M ⊢;exact M.doneX T
  have ls:∀ {o:Array Keyed} {a b},MLo rk xs.toList ys.toList a b o.toList->a+1=xs.size->qg rk xs.toList ys.toList (o ++ ys.extract b ++ xs.extract a).toList:=fun {o a b} M e=>by
    rw [Array.toList_append,Array.toList_append,jm,jm]
    exact M.last T (by omega) fun x hx'=>hl x (by rw [<- hx'];congr 1;omega)
  have ix:∀ {a x},xs.toList[a]?=some x->IsI x:=fun e=>T.ix _ (List.mem_of_getElem? e)
  have iy:∀ {a x},ys.toList[a]?=some x->IsI x:=fun e=>T.iy _ (List.mem_of_getElem? e)
  have gal:∀ {a b} {o:Array Keyed} {k:Nat} {y:Keyed},MLo rk xs.toList ys.toList a b o.toList->ys.toList[b]?=some y->(∀ i,i<k->∃ x,xs.toList[a+i]?=some x/\byd false y x=true)->MLo rk xs.toList ys.toList (a+k) b (o ++ xs.extract a (a+k)).toList:=fun {a b o k y} M e g=>by
    rw [Array.toList_append,ya]
    exact M.xs T e k fun i hi=>by obtain ⟨x,h1,h2⟩:=g i hi;exact ⟨x,h1,JB h2⟩
  have gal2:∀ {a b} {o:Array Keyed} {k:Nat} {x:Keyed},MLo rk xs.toList ys.toList a b o.toList->xs.toList[a]?=some x->(∀ i,i<k->∃ y,ys.toList[b+i]?=some y/\byd true x y=true)->MLo rk xs.toList ys.toList a (b+k) (o ++ ys.extract b (b+k)).toList:=fun {a b o k y} M e g=>by
    rw [Array.toList_append,ya]
    exact M.ys T e k fun i hi=>by obtain ⟨x,h1,h2⟩:=g i hi;exact ⟨x,h1,Kr h2⟩
  have pux:∀ {a b} {o:Array Keyed} {x y:Keyed},MLo rk xs.toList ys.toList a b o.toList->xs.toList[a]?=some x->ys.toList[b]?=some y->kn x<=kn y->MLo rk xs.toList ys.toList (a+1) b (o.push x).toList:=fun M h1 h2 h3=>by rw [Array.toList_push];exact M.x T h1 h2 h3
  have puy:∀ {a b} {o:Array Keyed} {x y:Keyed},MLo rk xs.toList ys.toList a b o.toList->xs.toList[a]?=some x->ys.toList[b]?=some y->kn y<kn x->MLo rk xs.toList ys.toList a (b+1) (o.push y).toList:=fun M h1 h2 h3=>by rw [Array.toList_push];exact M.y T h1 h2 h3
  obtain ⟨x0,ex0,lx0⟩:=qo hx
  obtain ⟨y0,ey0,ly0⟩:=qo hy
  have M0:MLo rk xs.toList ys.toList 0 0 (#[]:Array Keyed).toList:=⟨Nat.zero_le _,Nat.zero_le _,List.Perm.refl _,List.Pairwise.nil,fun x hx=>(nomatch hx),fun x hx=>(nomatch hx)⟩
  have M1:MLo rk xs.toList ys.toList 0 1 (#[y0]:Array Keyed).toList:=puy M0 lx0 ly0 (h0 _ _ lx0 ly0)
  refine wpS_bind (qI ?_)
  dsimp only
  refine wpS_bind (zu ey0 ?_)
  by_cases c1:(1 == ys.size)=true
  · rw [if_pos c1]
    exact wpS_pure (h _ (gallopOf st) (dn M1 (by simpa using c1)))
  rw [if_neg c1]
  by_cases c2:(0+1 == xs.size)=true
  · rw [if_pos c2]
    exact wpS_pure (h _ (gallopOf st) (ls M1 (by simpa using c2)))
  rw [if_neg c2]
  have c1 : 1 < ys.size := by have : ¬ 1 = ys.size := by simpa using c1
                              omega
  have c2 : 1 < xs.size := by have : ¬ 0 + 1 = xs.size := by simpa using c2
                              omega
  refine wpS_bind (wpS_get ?_)
  refine wpS_bind (wpS_mono (wpS_forRange (I:=fun t c st'=>∃ o a b g g',c=(none,o,a,b,g)/\st'=jp st g'/\MLo rk xs.toList ys.toList a b o.toList/\a+1<xs.size/\b<ys.size/\t+1<=a+b)
    (Q:=fun c st'=>∃ m o a b g g',c=(some m,o,a,b,g)/\st'=jp st g'/\qg rk xs.toList ys.toList m.toList) ?_ ?_ ⟨_,_,_,_,gallopOf st,rfl,rfl,M1,by omega,by omega,by omega⟩) ?_)
  · rintro t c st' _ ht ⟨o,a,b,g,g',rfl,rfl,M,ha,hb,hc⟩
    dsimp only
    refine wpS_bind (wpS_mono (wpS_forRange (I:=fun u c st'=>∃ o a b ac bc,c=(none,o,a,b,ac,bc)/\st'=jp st g'/\MLo rk xs.toList ys.toList a b o.toList/\a+1<xs.size/\b<ys.size/\t+1<=a+b/\u+1<=a+b)
      (Q:=fun c st'=>st'=jp st g'/\((∃ m o a b ac bc,c=(some m,o,a,b,ac,bc)/\qg rk xs.toList ys.toList m.toList) \/ (∃ o a b ac bc,c=(none,o,a,b,ac,bc)/\MLo rk xs.toList ys.toList a b o.toList/\a+1<xs.size/\b<ys.size/\t+2<=a+b))) ?_ ?_ ⟨_,_,_,_,_,rfl,rfl,M,ha,hb,hc,by omega⟩) ?_)
    · rintro u c st' _ hu ⟨o,a,b,ac,bc,rfl,rfl,M,ha,hb,hc,hd⟩
      obtain ⟨x,ex,lx'⟩:=qo (xs:=xs) (i:=a) (by omega)
      obtain ⟨y,ey,ly'⟩:=qo hb
      dsimp only
      refine wpS_bind (zu ey (wpS_bind (zu ex (wpS_bind (yy hk (iy ly') (ix lx') ?_)))))
      by_cases c:kn y<kn x
      · rw [decide_eq_true c]
        dsimp only
        rw [if_pos rfl]
        refine wpS_bind (zu ey ?_)
        have M':=puy M lx' ly' c
        by_cases c3:(b+1 == ys.size)=true
        · rw [if_pos c3];exact wpS_pure ⟨rfl,.inl ⟨_,_,_,_,_,_,rfl,dn M' (by simpa using c3)⟩⟩
        rw [if_neg c3]
        have c3:¬ b+1=ys.size:=by simpa using c3
        split
        · exact wpS_pure ⟨rfl,.inr ⟨_,_,_,_,_,rfl,M',ha,by omega,by omega⟩⟩
        · exact wpS_pure ⟨_,_,_,_,_,rfl,rfl,M',ha,by omega,by omega,by omega⟩
      · rw [decide_eq_false c]
        dsimp only
        rw [if_neg (by decide)]
        refine wpS_bind (zu ex ?_)
        have M':=pux M lx' ly' (by omega)
        by_cases c3:(a+1+1 == xs.size)=true
        · rw [if_pos c3];exact wpS_pure ⟨rfl,.inl ⟨_,_,_,_,_,_,rfl,ls M' (by simpa using c3)⟩⟩
        rw [if_neg c3]
        have c3:¬ a+1+1=xs.size:=by simpa using c3
        split
        · exact wpS_pure ⟨rfl,.inr ⟨_,_,_,_,_,rfl,M',by omega,hb,by omega⟩⟩
        · exact wpS_pure ⟨_,_,_,_,_,rfl,rfl,M',by omega,hb,by omega,by omega⟩
    · rintro c st' ⟨o,a,b,ac,bc,rfl,rfl,M,ha,hb,hc,hd⟩
      omega
    rintro c st' ⟨rfl,⟨m,o,a,b,ac,bc,rfl,r⟩ | ⟨o,a,b,ac,bc,rfl,M,ha,hb,hc⟩⟩
    · exact wpS_pure ⟨m,_,_,_,_,_,rfl,rfl,r⟩
    dsimp only
    refine wpS_bind (qI ?_)
    refine wpS_bind (wpS_mono (wpS_forRange (I:=fun u c st'=>∃ o a b g ac bc g',c=(none,o,a,b,g,ac,bc)/\st'=jp st g'/\MLo rk xs.toList ys.toList a b o.toList/\a+1<xs.size/\b<ys.size/\t+2<=a+b/\u+1<=a+b)
      (Q:=fun c st'=>∃ g',st'=jp st g'/\((∃ m o a b g ac bc,c=(some m,o,a,b,g,ac,bc)/\qg rk xs.toList ys.toList m.toList) \/ (∃ o a b g ac bc,c=(none,o,a,b,g,ac,bc)/\MLo rk xs.toList ys.toList a b o.toList/\a+1<xs.size/\b<ys.size/\t+2<=a+b))) ?_ ?_ ⟨_,_,_,_,_,_,_,rfl,rfl,M,ha,hb,hc,by omega⟩) ?_)
    · rintro u c st' _ hu ⟨o,a,b,g,ac,bc,g',rfl,rfl,M,ha,hb,hc,hd⟩
      clear c1 c2 M1 M0
      obtain ⟨y,ey,ly'⟩:=qo hb
      dsimp only
      revert g
      refine Yj (fun g=>?h) ?e
      case e=>exact fun _=>rfl
      refine wpS_bind (jj ?_)
      refine wpS_bind (zu ey ?_)
      refine wpS_bind (jP (rk:=rk) hk (iy ly') ((T.px.sublist (List.drop_sublist _ _)).sublist (List.take_sublist _ _)) T.ix (by omega) (by omega) fun k k1 k2 k3=>?_)
      dsimp only
      have all:MLo rk xs.toList ys.toList a b o.toList/\a+1<xs.size/\t+2<=a+b/\u+1<=a+b/\k<=xs.size - a/\(∀ i,i<k->∃ x,xs.toList[a+i]?=some x/\byd false y x=true)/\(∀ i,k<=i->i<xs.size - a->∃ x,xs.toList[a+i]?=some x/\byd false y x=false):=⟨M,ha,hc,hd,k1,k2,k3⟩
      clear M ha hc hd k1 k2 k3
      revert all
      revert o a
      refine Yf (fun o a=>o ++ xs.extract a (a+k)) (fun a=>a+k) (fun o a p _ c3=>wpS_pure ⟨_,rfl,.inl ⟨_,_,_,_,_,_,_,rfl,ls (gal p.1 ly' p.2.2.2.2.2.1) (beq_iff_eq.mp c3)⟩⟩) (fun o a p _ _ c4=>wpS_pure ⟨_,rfl,.inl ⟨_,_,_,_,_,_,_,rfl,dnx (gal p.1 ly' p.2.2.2.2.2.1) (beq_iff_eq.mp c4)⟩⟩) (fun o a o2 a2 p hj=>?hj1) ?ej1
      case ej1=>exact fun _ _=>rfl
      obtain ⟨M,ha,hc,hd,k1,k2,k3⟩:=p
      have Mg:=gal M ly' k2
      obtain ⟨M1,ea,ha2⟩:MLo rk xs.toList ys.toList a2 b o2.toList/\a2=a+k/\a2+1<xs.size:=by
        clear hc hd k2 k3 hu
        rcases hj with ⟨_,c3,c4,rfl,rfl⟩ | ⟨c3,rfl,rfl⟩
        · have c3:¬ a+k+1=xs.size:=fun z=>c3 (beq_iff_eq.mpr z)
          have c4:¬ a+k=xs.size:=fun z=>c4 (beq_iff_eq.mpr z)
          exact ⟨Mg,rfl,by omega⟩
        · exact ⟨M,by omega,by omega⟩
      obtain ⟨x,ex,lx'⟩:=qo (xs:=xs) (i:=a2) (by clear hj;omega)
      obtain ⟨x',lx2,k4⟩:=k3 k (Nat.le_refl _) (by clear hj;omega)
      rw [<- ea,lx'] at lx2
      cases lx2
      have k4:=vp k4
      have hc:t+2<=a2+b/\u+1<=a2+b:=by clear hj;omega
      clear hj k2 k3 k1 ea M ha hd
      refine wpS_bind (zu ey ?_)
      have M2:=puy M1 lx' ly' k4
      by_cases c5:(b+1 == ys.size)=true
      · rw [if_pos c5];exact wpS_pure ⟨_,rfl,.inl ⟨_,_,_,_,_,_,_,rfl,dn M2 (beq_iff_eq.mp c5)⟩⟩
      rw [if_neg c5]
      have c5:b+1<ys.size:=Nat.lt_of_le_of_ne hb fun z=>c5 (beq_iff_eq.mpr z)
      refine wpS_bind (zu ex ?_)
      refine wpS_bind (jP (rk:=rk) hk (ix lx') ((T.py.sublist (List.drop_sublist _ _)).sublist (List.take_sublist _ _)) T.iy (by omega) (by omega) fun k' k1' k2' k3'=>?_)
      dsimp only
      have all:MLo rk xs.toList ys.toList a2 (b+1) (o2.push y).toList/\b+1<ys.size/\t+2<=a2+(b+1)/\u+1<=a2+(b+1)/\k'<=ys.size - (b+1)/\(∀ i,i<k'->∃ z,ys.toList[b+1+i]?=some z/\byd true x z=true)/\(∀ i,k'<=i->i<ys.size - (b+1)->∃ z,ys.toList[b+1+i]?=some z/\byd true x z=false):=⟨M2,c5,by omega,by omega,k1',k2',k3'⟩
      clear M2 c5 k1' k2' k3' M1
      generalize o2.push y=o3 at all ⊢
      generalize b+1=b1 at all ⊢
      revert all
      revert o3 b1
      refine Yg (fun o b=>o ++ ys.extract b (b+k')) (fun b=>b+k') (fun o b p _ c6=>wpS_pure ⟨_,rfl,.inl ⟨_,_,_,_,_,_,_,rfl,dn (gal2 p.1 lx' p.2.2.2.2.2.1) (beq_iff_eq.mp c6)⟩⟩) (fun o b o4 b4 p hj=>?hj2) ?ej2
      case ej2=>exact fun _ _=>rfl
      obtain ⟨M,hb,hc,hd,k1,k2,k3⟩:=p
      have Mg:=gal2 M lx' k2
      obtain ⟨M3,eb,hb4⟩:MLo rk xs.toList ys.toList a2 b4 o4.toList/\b4=b+k'/\b4<ys.size:=by
        clear hc hd k2 k3 hu
        rcases hj with ⟨_,c3,rfl,rfl⟩ | ⟨c3,rfl,rfl⟩
        · have c3:¬ b+k'=ys.size:=fun z=>c3 (beq_iff_eq.mpr z)
          exact ⟨Mg,rfl,by omega⟩
        · exact ⟨M,by omega,by omega⟩
      obtain ⟨y',ly2,k5⟩:=k3 k' (Nat.le_refl _) (by clear hj;omega)
      rw [<- eb] at ly2
      have hc:t+2<=a2+b4/\u+1<=a2+b4:=by clear hj;omega
      clear hj k2 k3 k1 eb M hb hd
      refine wpS_bind (zu ex ?_)
      have M4:=pux M3 lx' ly2 (wl k5)
      by_cases c7:(a2+1+1 == xs.size)=true
      · rw [if_pos c7];exact wpS_pure ⟨_,rfl,.inl ⟨_,_,_,_,_,_,_,rfl,ls M4 (beq_iff_eq.mp c7)⟩⟩
      rw [if_neg c7]
      have c7:a2+1+1<xs.size:=Nat.lt_of_le_of_ne ha2 fun z=>c7 (beq_iff_eq.mpr z)
      refine zE (fun _=>?_) fun _=>?_
      · exact wpS_pure ⟨_,rfl,.inr ⟨_,_,_,_,_,_,rfl,M4,c7,hb4,by omega⟩⟩
      · exact wpS_pure ⟨_,_,_,_,_,_,_,rfl,rfl,M4,c7,hb4,by omega,by omega⟩
    · rintro c st' ⟨o,a,b,g,ac,bc,g',rfl,rfl,M,ha,hb,hc,hd⟩
      omega
    rintro c st' ⟨g',rfl,⟨m,o,a,b,g,ac,bc,rfl,r⟩ | ⟨o,a,b,g,ac,bc,rfl,M,ha,hb,hc⟩⟩
    · exact wpS_pure ⟨m,_,_,_,_,_,rfl,rfl,r⟩
    · dsimp only
      refine wpS_bind (jj ?_)
      exact wpS_pure ⟨_,_,_,_,_,rfl,rfl,M,ha,hb,by omega⟩
  · rintro c st' ⟨o,a,b,g,g',rfl,rfl,M,ha,hb,hc⟩
    omega
  · rintro c st' ⟨m,o,a,b,g,g',rfl,rfl,r⟩
    exact wpS_pure (h m g' r)
end
end L2
namespace L2
open PySem PyProof.Rows
section
variable {rk:Keyed->Int}{X Y o:List Keyed}{a b:Nat}
structure MHi (rk:Keyed->Int)(X Y:List Keyed)(a b:Nat)(o:List Keyed):Prop where
 la:a<=X.length
 lb:b<=Y.length
 perm:o.Perm (X.drop a ++ Y.drop b)
 pw:o.Pairwise fun p q=>LEr rk q p
 lx:∀ x ∈ o,∀ y ∈ X.take a,LEr rk y x
 ly:∀ x ∈ o,∀ y ∈ Y.take b,LEr rk y x
theorem vd {x:Keyed}(h:o.Pairwise fun p q=>LEr rk q p)(g:∀ y ∈ o,LEr rk x y):(o ++ [x]).Pairwise fun p q=>LEr rk q p:=List.pairwise_append.mpr ⟨h,List.pairwise_singleton _ _,fun y hy z hz=>by rw [List.mem_singleton.mp hz];exact g y hy⟩
theorem MHi.x (T:qM rk X Y)(h:MHi rk X Y (a+1) (b+1) o){x y:Keyed}(hx:X[a]?=some x)(hy:Y[b]?=some y)(c:kn y<kn x):MHi rk X Y a (b+1) (o ++ [x]):=by
 obtain ⟨hl,e⟩:=List.getElem?_eq_some_iff.mp hx
 have hd:X.drop a=x :: X.drop (a+1):=by rw [List.drop_eq_getElem_cons hl,e]
 have ht:X.take (a+1)=X.take a ++ [x]:=by rw [List.take_succ_eq_append_getElem hl,e]
 refine ⟨by omega,h.lb,?_,vd h.pw fun z hz=>h.lx z hz x (by rw [ht];exact List.mem_append_right _ (List.mem_singleton.mpr rfl)),fun z hz y' hy'=>?_,fun z hz y' hy'=>?_⟩
 ·rw [hd]
  refine (h.perm.append_right [x]).trans ?_
  exact List.perm_append_comm
 ·rcases List.mem_append.mp hz with hz | hz
  ·exact h.lx z hz y' (by rw [ht];exact List.mem_append_left _ hy')
  ·rw [List.mem_singleton.mp hz];exact qP T.px hx y' (by rw [ht];exact List.mem_append_left _ hy')
 ·rcases List.mem_append.mp hz with hz | hz
  ·exact h.ly z hz y' hy'
  ·rw [List.mem_singleton.mp hz]
   have:=(qP T.py hy y' hy').kn
   exact .inl (by omega)
theorem MHi.y (T:qM rk X Y)(h:MHi rk X Y (a+1) (b+1) o){x y:Keyed}(hx:X[a]?=some x)(hy:Y[b]?=some y)(c:kn x<=kn y):MHi rk X Y (a+1) b (o ++ [y]):=by
 obtain ⟨hl,e⟩:=List.getElem?_eq_some_iff.mp hy
 have hd:Y.drop b=y :: Y.drop (b+1):=by rw [List.drop_eq_getElem_cons hl,e]
 have ht:Y.take (b+1)=Y.take b ++ [y]:=by rw [List.take_succ_eq_append_getElem hl,e]
 refine ⟨h.la,by omega,?_,vd h.pw fun z hz=>h.ly z hz y (by rw [ht];exact List.mem_append_right _ (List.mem_singleton.mpr rfl)),fun z hz y' hy'=>?_,fun z hz y' hy'=>?_⟩
 ·rw [hd]
  refine (h.perm.append_right [y]).trans ?_
  rw [List.append_assoc]
  exact List.Perm.append_left _ List.perm_append_comm
 ·rcases List.mem_append.mp hz with hz | hz
  ·exact h.lx z hz y' hy'
  ·rw [List.mem_singleton.mp hz]
   have:=(qP T.px hx y' hy').kn
   exact LEr.of (by omega) (T.bel _ (List.mem_of_mem_take hy') _ (List.mem_of_getElem? hy))
 ·rcases List.mem_append.mp hz with hz | hz
  ·exact h.ly z hz y' (by rw [ht];exact List.mem_append_left _ hy')
  ·rw [List.mem_singleton.mp hz];exact qP T.py hy y' (by rw [ht];exact List.mem_append_left _ hy')
theorem yu {X:List Keyed}{a k:Nat}{x:Keyed}(h:X[a+k]?=some x):((X.drop a).take (k+1)).reverse=[x] ++ ((X.drop a).take k).reverse:=by
 obtain ⟨hl,e⟩:=List.getElem?_eq_some_iff.mp h
 rw [List.take_succ_eq_append_getElem (by rw [List.length_drop];omega),List.getElem_drop,e,List.reverse_append];rfl
theorem MHi.xs (T:qM rk X Y){y:Keyed}(hy:Y[b]?=some y):∀ k {o},MHi rk X Y (a+k) (b+1) o->(∀ i,i<k->∃ x,X[a+i]?=some x/\kn y<kn x)->MHi rk X Y a (b+1) (o ++ ((X.drop a).take k).reverse)
 | 0,o,h,_=>by rw [List.take_zero,List.reverse_nil,List.append_nil];exact h
 | k+1,o,h,g=>by
  obtain ⟨x,h1,h2⟩:=g k (by omega)
  rw [yu h1,<- List.append_assoc]
  exact MHi.xs T hy k (MHi.x T h h1 hy h2) fun i hi=>g i (by omega)
theorem MHi.ys (T:qM rk X Y){x:Keyed}(hx:X[a]?=some x):∀ k {o},MHi rk X Y (a+1) (b+k) o->(∀ i,i<k->∃ y,Y[b+i]?=some y/\kn x<=kn y)->MHi rk X Y (a+1) b (o ++ ((Y.drop b).take k).reverse)
 | 0,o,h,_=>by rw [List.take_zero,List.reverse_nil,List.append_nil];exact h
 | k+1,o,h,g=>by
  obtain ⟨y,h1,h2⟩:=g k (by omega)
  rw [yu h1,<- List.append_assoc]
  exact MHi.ys T hx k (MHi.y T h hx h1 h2) fun i hi=>g i (by omega)
theorem vF (h:o.Pairwise fun p q=>LEr rk q p):o.reverse.Pairwise (LEr rk):=List.pairwise_reverse.mpr h
theorem MHi.doneX (T:qM rk X Y)(h:MHi rk X Y 0 b o):qg rk X Y (X.take 0 ++ Y.take b ++ o.reverse):=by
 rw [List.take_zero,List.nil_append]
 refine ⟨?_,List.pairwise_append.mpr ⟨T.py.sublist (List.take_sublist _ _),vF h.pw,fun x hx y hy=>h.ly y (List.mem_reverse.mp hy) x hx⟩⟩
 refine (List.Perm.append_left _ ((List.reverse_perm o).trans h.perm)).trans ?_
 rw [List.drop_zero,<- List.append_assoc]
 refine (List.perm_append_comm.append_right _).trans ?_
 rw [List.append_assoc,List.take_append_drop]
theorem MHi.doneY (T:qM rk X Y)(h:MHi rk X Y a 0 o):qg rk X Y (X.take a ++ Y.take 0 ++ o.reverse):=by
 rw [List.take_zero,List.append_nil]
 refine ⟨?_,List.pairwise_append.mpr ⟨T.px.sublist (List.take_sublist _ _),vF h.pw,fun x hx y hy=>h.lx y (List.mem_reverse.mp hy) x hx⟩⟩
 refine (List.Perm.append_left _ ((List.reverse_perm o).trans h.perm)).trans ?_
 rw [List.drop_zero,<- List.append_assoc,List.take_append_drop]
theorem MHi.first (T:qM rk X Y)(h:MHi rk X Y a 1 o)(g:∀ y,Y[0]?=some y->∀ x ∈ X,kn y<kn x):qg rk X Y (Y.take 1 ++ X.take a ++ o.reverse):=by
 have hl:=h.lb
 refine ⟨?_,?_⟩
 ·refine (List.Perm.append_left _ ((List.reverse_perm o).trans h.perm)).trans ?_
  rw [List.append_assoc,<- List.append_assoc (X.take a),List.take_append_drop]
  refine List.perm_append_comm.trans ?_
  rw [List.append_assoc]
  refine List.Perm.append_left _ (List.perm_append_comm.trans ?_)
  rw [List.take_append_drop]
 ·refine List.pairwise_append.mpr ⟨List.pairwise_append.mpr ⟨T.py.sublist (List.take_sublist _ _),T.px.sublist (List.take_sublist _ _),fun y hy x hx=>?_⟩,vF h.pw,fun x hx y hy=>?_⟩
  ·have e:Y[0]?=some (Y[0]'hl):=List.getElem?_eq_getElem hl
   rw [List.take_succ_eq_append_getElem hl,List.take_zero,List.nil_append] at hy
   rw [List.mem_singleton.mp hy]
   exact .inl (g _ e x (List.mem_of_mem_take hx))
  ·rcases List.mem_append.mp hx with hx | hx
   ·exact h.ly y (List.mem_reverse.mp hy) x hx
   ·exact h.lx y (List.mem_reverse.mp hy) x hx
end
noncomputable def vf:Array Keyed->Array Keyed->StateT SortSt Sem (Array Keyed):=sortPriv% PySem.Builtin.mergeHi
local macro_rules | `(tactic| walk_at "unM")=>do
 let n:=Lean.mkIdent (Lean.mkPrivateNameCore `PySem.Builtin.List.W1All `PySem.Builtin.mergeHi)
 `(tactic| unfold $n)
section
variable {prog:Program}{w:World}{A:Around}{E:Value->Shared->Prop}{s:Shared}{rk:Keyed->Int}
theorem ji (xs:Array Keyed)(i:Nat):(xs.extract 0 i).toList=xs.toList.take i:=by
 rw [Array.toList_extract,List.extract_eq_take_drop,List.drop_zero,Nat.sub_zero]
theorem Zm (xs:Array Keyed){i j:Nat}(h:i<=j):(xs.extract i j).reverse.toList=((xs.toList.drop i).take (j - i)).reverse:=by
 rw [Array.toList_reverse,Array.toList_extract,List.extract_eq_take_drop]
theorem vx {st:SortSt}{xs ys:Array Keyed}{Q:Array Keyed->SortSt->Prop}(hk:kindOf st=oneType')(T:qM rk xs.toList ys.toList)(hx:0<xs.size)(hy:0<ys.size)(h0:∀ y,ys.toList[0]?=some y->∀ x ∈ xs.toList,kn y<kn x)(hl:∀ x,xs.toList[xs.size - 1]?=some x->∀ y ∈ ys.toList,kn y<kn x)
  (h:∀ m g,qg rk xs.toList ys.toList m.toList->Q m (jp st g)):wpS (model prog w) A E s (vf xs ys) Q st:=by
 unfold vf
 walk_at "unM"
 have lx:xs.toList.length=xs.size:=Array.length_toList
 have ly:ys.toList.length=ys.size:=Array.length_toList
 have dn:∀ {o:Array Keyed} {a b},MHi rk xs.toList ys.toList a b o.toList->a=0->qg rk xs.toList ys.toList (xs.extract 0 a ++ ys.extract 0 b ++ o.reverse).toList:=fun {o a b} M e=>by
  rw [Array.toList_append,Array.toList_append,ji,ji,Array.toList_reverse]
  subst e;exact M.doneX T
 have dny:∀ {o:Array Keyed} {a b},MHi rk xs.toList ys.toList a b o.toList->b=0->qg rk xs.toList ys.toList (xs.extract 0 a ++ ys.extract 0 b ++ o.reverse).toList:=fun {o a b} M e=>by
  rw [Array.toList_append,Array.toList_append,ji,ji,Array.toList_reverse]
  subst e;exact M.doneY T
 have ls:∀ {o:Array Keyed} {a b},MHi rk xs.toList ys.toList a b o.toList->b=1->qg rk xs.toList ys.toList (ys.extract 0 b ++ xs.extract 0 a ++ o.reverse).toList:=fun {o a b} M e=>by
  rw [Array.toList_append,Array.toList_append,ji,ji,Array.toList_reverse]
  subst e;exact M.first T h0
 have ix:∀ {a x},xs.toList[a]?=some x->IsI x:=fun e=>T.ix _ (List.mem_of_getElem? e)
 have iy:∀ {a x},ys.toList[a]?=some x->IsI x:=fun e=>T.iy _ (List.mem_of_getElem? e)
 have gal:∀ {a b} {o:Array Keyed} {k:Nat} {y:Keyed},MHi rk xs.toList ys.toList a b o.toList->1<=b->ys.toList[b - 1]?=some y->k<=a->(∀ i,k<=i->i<a->∃ x,xs.toList[0+i]?=some x/\byd false y x=false)->MHi rk xs.toList ys.toList k b (o ++ (xs.extract k a).reverse).toList:=fun {a b o k y} M hb e hka g=>by
  rw [Array.toList_append,Zm _ hka]
  obtain ⟨b,rfl⟩:∃ b',b=b'+1:=⟨b - 1,by omega⟩
  exact MHi.xs T e (a - k) (by rw [show k+(a - k)=a by omega];exact M) fun i hi=>by obtain ⟨x,h1,h2⟩:=g (k+i) (by omega) (by omega);rw [Nat.zero_add] at h1;exact ⟨x,h1,vp h2⟩
 have gal2:∀ {a b} {o:Array Keyed} {k:Nat} {x:Keyed},MHi rk xs.toList ys.toList a b o.toList->1<=a->xs.toList[a - 1]?=some x->k<=b->(∀ i,k<=i->i<b->∃ y,ys.toList[0+i]?=some y/\byd true x y=false)->MHi rk xs.toList ys.toList a k (o ++ (ys.extract k b).reverse).toList:=fun {a b o k y} M hb e hka g=>by
  rw [Array.toList_append,Zm _ hka]
  obtain ⟨a,rfl⟩:∃ b',a=b'+1:=⟨a - 1,by omega⟩
  exact MHi.ys T e (b - k) (by rw [show k+(b - k)=b by omega];exact M) fun i hi=>by obtain ⟨x,h1,h2⟩:=g (k+i) (by omega) (by omega);rw [Nat.zero_add] at h1;exact ⟨x,h1,wl h2⟩
 have pux:∀ {a b} {o:Array Keyed} {x y:Keyed},MHi rk xs.toList ys.toList a b o.toList->1<=a->1<=b->xs.toList[a - 1]?=some x->ys.toList[b - 1]?=some y->kn y<kn x->MHi rk xs.toList ys.toList (a - 1) b (o.push x).toList:=fun {a b o x y} M ha hb h1 h2 h3=>by
  rw [Array.toList_push]
  obtain ⟨a,rfl⟩:∃ b',a=b'+1:=⟨a - 1,by omega⟩
  obtain ⟨b,rfl⟩:∃ b',b=b'+1:=⟨b - 1,by omega⟩
  exact M.x T h1 h2 h3
 have puy:∀ {a b} {o:Array Keyed} {x y:Keyed},MHi rk xs.toList ys.toList a b o.toList->1<=a->1<=b->xs.toList[a - 1]?=some x->ys.toList[b - 1]?=some y->kn x<=kn y->MHi rk xs.toList ys.toList a (b - 1) (o.push y).toList:=fun {a b o x y} M ha hb h1 h2 h3=>by
  rw [Array.toList_push]
  obtain ⟨a,rfl⟩:∃ b',a=b'+1:=⟨a - 1,by omega⟩
  obtain ⟨b,rfl⟩:∃ b',b=b'+1:=⟨b - 1,by omega⟩
  exact M.y T h1 h2 h3
 obtain ⟨x0,ex0,lx0⟩:=qo (xs:=xs) (i:=xs.size - 1) (by omega)
 obtain ⟨y0,ey0,ly0⟩:=qo (xs:=ys) (i:=ys.size - 1) (by omega)
 have M0:MHi rk xs.toList ys.toList xs.size ys.size (#[]:Array Keyed).toList:=⟨Nat.le_of_eq lx.symm,Nat.le_of_eq ly.symm,by rw [<- lx,<- ly,List.drop_length,List.drop_length];exact List.Perm.refl _,List.Pairwise.nil,fun x hx=>(nomatch hx),fun x hx=>(nomatch hx)⟩
 have M1:MHi rk xs.toList ys.toList (xs.size - 1) ys.size (#[x0]:Array Keyed).toList:=pux M0 hx hy lx0 ly0 (hl _ lx0 _ (List.mem_of_getElem? ly0))
 refine wpS_bind (qI ?_)
 dsimp only
 refine wpS_bind (zu ex0 ?_)
 by_cases c1:(xs.size - 1 == 0)=true
 ·rw [if_pos c1]
  exact wpS_pure (h _ (gallopOf st) (dn M1 (by simpa using c1)))
 rw [if_neg c1]
 by_cases c2:(ys.size == 1)=true
 ·rw [if_pos c2]
  exact wpS_pure (h _ (gallopOf st) (ls M1 (by simpa using c2)))
 rw [if_neg c2]
 have c1:¬ xs.size - 1=0:=fun z=>c1 (beq_iff_eq.mpr z)
 have c2:¬ ys.size=1:=fun z=>c2 (beq_iff_eq.mpr z)
 refine wpS_bind (wpS_get ?_)
 refine wpS_bind (wpS_mono (wpS_forRange (I:=fun t c st'=>∃ o a b g g',c=(none,a,b,o,g)/\st'=jp st g'/\MHi rk xs.toList ys.toList a b o.toList/\0<a/\1<b/\t+1+a+b<=xs.size+ys.size)
  (Q:=fun c st'=>∃ m o a b g g',c=(some m,a,b,o,g)/\st'=jp st g'/\qg rk xs.toList ys.toList m.toList) ?_ ?_ ⟨_,_,_,_,gallopOf st,rfl,rfl,M1,by omega,by omega,by omega⟩) ?_)
 ·rintro t c st' _ ht ⟨o,a,b,g,g',rfl,rfl,M,ha,hb,hc⟩
  dsimp only
  refine wpS_bind (wpS_mono (wpS_forRange (I:=fun u c st'=>∃ o a b ac bc,c=(none,a,b,o,ac,bc)/\st'=jp st g'/\MHi rk xs.toList ys.toList a b o.toList/\0<a/\1<b/\t+1+a+b<=xs.size+ys.size/\u+1+a+b<=xs.size+ys.size)
   (Q:=fun c st'=>st'=jp st g'/\((∃ m o a b ac bc,c=(some m,a,b,o,ac,bc)/\qg rk xs.toList ys.toList m.toList) \/ (∃ o a b ac bc,c=(none,a,b,o,ac,bc)/\MHi rk xs.toList ys.toList a b o.toList/\0<a/\1<b/\t+2+a+b<=xs.size+ys.size))) ?_ ?_ ⟨_,_,_,_,_,rfl,rfl,M,ha,hb,hc,by omega⟩) ?_)
  ·rintro u c st' _ hu ⟨o,a,b,ac,bc,rfl,rfl,M,ha,hb,hc,hd⟩
   have ma:=M.la
   have mb:=M.lb
   obtain ⟨x,ex,lx'⟩:=qo (xs:=xs) (i:=a - 1) (by omega)
   obtain ⟨y,ey,ly'⟩:=qo (xs:=ys) (i:=b - 1) (by omega)
   dsimp only
   refine wpS_bind (zu ey (wpS_bind (zu ex (wpS_bind (yy hk (iy ly') (ix lx') ?_)))))
   by_cases c:kn y<kn x
   ·rw [decide_eq_true c]
    dsimp only
    rw [if_pos rfl]
    refine wpS_bind (zu ex ?_)
    have M':=pux M (by omega) (by omega) lx' ly' c
    by_cases c3:(a - 1 == 0)=true
    ·rw [if_pos c3];exact wpS_pure ⟨rfl,.inl ⟨_,_,_,_,_,_,rfl,dn M' (by simpa using c3)⟩⟩
    rw [if_neg c3]
    have c3:¬ a - 1=0:=fun z=>c3 (beq_iff_eq.mpr z)
    refine zE (fun _=>?_) fun _=>?_
    ·exact wpS_pure ⟨rfl,.inr ⟨_,_,_,_,_,rfl,M',by omega,by omega,by omega⟩⟩
    ·exact wpS_pure ⟨_,_,_,_,_,rfl,rfl,M',by omega,by omega,by omega,by omega⟩
   ·rw [decide_eq_false c]
    dsimp only
    rw [if_neg (by decide)]
    refine wpS_bind (zu ey ?_)
    have M':=puy M (by omega) (by omega) lx' ly' (by omega)
    by_cases c3:(b - 1 == 1)=true
    ·rw [if_pos c3];exact wpS_pure ⟨rfl,.inl ⟨_,_,_,_,_,_,rfl,ls M' (by simpa using c3)⟩⟩
    rw [if_neg c3]
    have c3:¬ b - 1=1:=fun z=>c3 (beq_iff_eq.mpr z)
    refine zE (fun _=>?_) fun _=>?_
    ·exact wpS_pure ⟨rfl,.inr ⟨_,_,_,_,_,rfl,M',by omega,by omega,by omega⟩⟩
    ·exact wpS_pure ⟨_,_,_,_,_,rfl,rfl,M',by omega,by omega,by omega,by omega⟩
  ·rintro c st' ⟨o,a,b,ac,bc,rfl,rfl,M,ha,hb,hc,hd⟩
   omega
  rintro c st' ⟨rfl,⟨m,o,a,b,ac,bc,rfl,r⟩ | ⟨o,a,b,ac,bc,rfl,M,ha,hb,hc⟩⟩
  ·exact wpS_pure ⟨m,_,_,_,_,_,rfl,rfl,r⟩
  dsimp only
  refine wpS_bind (qI ?_)
  refine wpS_bind (wpS_mono (wpS_forRange (I:=fun u c st'=>∃ o a b g ac bc g',c=(none,a,b,o,g,ac,bc)/\st'=jp st g'/\MHi rk xs.toList ys.toList a b o.toList/\0<a/\1<b/\t+2+a+b<=xs.size+ys.size/\u+1+a+b<=xs.size+ys.size)
   (Q:=fun c st'=>∃ g',st'=jp st g'/\((∃ m o a b g ac bc,c=(some m,a,b,o,g,ac,bc)/\qg rk xs.toList ys.toList m.toList) \/ (∃ o a b g ac bc,c=(none,a,b,o,g,ac,bc)/\MHi rk xs.toList ys.toList a b o.toList/\0<a/\1<b/\t+2+a+b<=xs.size+ys.size))) ?_ ?_ ⟨_,_,_,_,_,_,_,rfl,rfl,M,ha,hb,hc,by omega⟩) ?_)
  ·rintro u c st' _ hu ⟨o,a,b,g,ac,bc,g',rfl,rfl,M,ha,hb,hc,hd⟩
   clear c1 c2 M1 M0
   have ma:=M.la
   have mb:=M.lb
   obtain ⟨y,ey,ly'⟩:=qo (xs:=ys) (i:=b - 1) (by omega)
   dsimp only
   revert g
   refine Yj (fun g=>?h) ?e
   case e=>exact fun _=>rfl
   refine wpS_bind (jj ?_)
   refine wpS_bind (zu ey ?_)
   refine wpS_bind (jP (rk:=rk) hk (iy ly') (T.px.sublist ((List.take_sublist _ _).trans (List.drop_sublist _ _))) T.ix (by omega) (by omega) fun k k1 k2 k3=>?_)
   dsimp only
   generalize hac:a - k=ac2
   have all:MHi rk xs.toList ys.toList a b o.toList/\0<a/\t+2+a+b<=xs.size+ys.size/\u+1+a+b<=xs.size+ys.size/\k<=a/\a<=xs.size/\(∀ i,i<k->∃ x,xs.toList[0+i]?=some x/\byd false y x=true)/\(∀ i,k<=i->i<a->∃ x,xs.toList[0+i]?=some x/\byd false y x=false)/\a - k=ac2:=⟨M,ha,hc,hd,k1,lx ▸ ma,k2,k3,hac⟩
   clear M ha hc hd k1 k2 k3 hac ma
   revert all
   revert o a
   refine Yg (fun o a=>o ++ (xs.extract k a).reverse) (fun _=>k) (fun o a p _ c4=>wpS_pure ⟨_,rfl,.inl ⟨_,_,_,_,_,_,_,rfl,dn (gal p.1 (Nat.le_of_lt hb) ly' p.2.2.2.2.1 p.2.2.2.2.2.2.2.1) (beq_iff_eq.mp c4)⟩⟩) (fun o a o2 a2 p hj=>?hj1) ?ej1
   case ej1=>exact fun _ _=>rfl
   obtain ⟨M,ha,hc,hd,k1,ax,k2,k3,hac⟩:=p
   have Mg:=gal M (Nat.le_of_lt hb) ly' k1 k3
   obtain ⟨M1,ea,ha2⟩:MHi rk xs.toList ys.toList a2 b o2.toList/\a2=k/\0<a2:=by
    clear hc hd k2 k3 hu
    rcases hj with ⟨_,c4,rfl,rfl⟩ | ⟨c3,rfl,rfl⟩
    ·have c4:¬ a2=0:=fun z=>c4 (beq_iff_eq.mpr z)
     exact ⟨Mg,rfl,by omega⟩
    ·exact ⟨M,by omega,ha⟩
   have hc:t+2+a2+b<=xs.size+ys.size/\u+1+a2+b<=xs.size+ys.size/\a2<=xs.size:=by clear hj;omega
   subst ea
   obtain ⟨x,ex,lx'⟩:=qo (xs:=xs) (i:=a2 - 1) (by clear hj;omega)
   obtain ⟨x',lx2,k4⟩:=k2 (a2 - 1) (by clear hj;omega)
   rw [Nat.zero_add,lx'] at lx2
   cases lx2
   clear hj k2 k3 k1 M Mg ha hd hac ax
   refine wpS_bind (zu ey ?_)
   have M2:=puy M1 ha2 (Nat.le_of_lt hb) lx' ly' (JB k4)
   by_cases c5:(b - 1 == 1)=true
   ·rw [if_pos c5];exact wpS_pure ⟨_,rfl,.inl ⟨_,_,_,_,_,_,_,rfl,ls M2 (beq_iff_eq.mp c5)⟩⟩
   rw [if_neg c5]
   have c5:¬ b - 1=1:=fun z=>c5 (beq_iff_eq.mpr z)
   refine wpS_bind (zu ex ?_)
   refine wpS_bind (jP (rk:=rk) hk (ix lx') (T.py.sublist ((List.take_sublist _ _).trans (List.drop_sublist _ _))) T.iy (by omega) (by omega) fun k' k1' k2' k3'=>?_)
   dsimp only
   generalize hbc:b - 1 - k'=bc2
   have all:MHi rk xs.toList ys.toList a2 (b - 1) (o2.push y).toList/\1<b - 1/\t+2+a2+(b - 1)<=xs.size+ys.size/\u+2+a2+(b - 1)<=xs.size+ys.size/\k'<=b - 1/\(∀ i,i<k'->∃ z,ys.toList[0+i]?=some z/\byd true x z=true)/\(∀ i,k'<=i->i<b - 1->∃ z,ys.toList[0+i]?=some z/\byd true x z=false)/\b - 1 - k'=bc2:=⟨M2,by omega,by omega,by omega,k1',k2',k3',hbc⟩
   clear M2 c5 k1' k2' k3' M1 hbc
   generalize o2.push y=o3 at all ⊢
   generalize b - 1=b1 at all ⊢
   revert all
   revert o3 b1
   refine Yf (fun o b=>o ++ (ys.extract k' b).reverse) (fun _=>k') (fun o b p _ c6=>wpS_pure ⟨_,rfl,.inl ⟨_,_,_,_,_,_,_,rfl,ls (gal2 p.1 ha2 lx' p.2.2.2.2.1 p.2.2.2.2.2.2.1) (beq_iff_eq.mp c6)⟩⟩) (fun o b p _ _ c8=>wpS_pure ⟨_,rfl,.inl ⟨_,_,_,_,_,_,_,rfl,dny (gal2 p.1 ha2 lx' p.2.2.2.2.1 p.2.2.2.2.2.2.1) (beq_iff_eq.mp c8)⟩⟩) (fun o b o4 b4 p hj=>?hj2) ?ej2
   case ej2=>exact fun _ _=>rfl
   obtain ⟨M,hb1,hc1,hd1,k1,k2,k3,hbc⟩:=p
   have Mg:=gal2 M ha2 lx' k1 k3
   obtain ⟨M3,eb,hb4⟩:MHi rk xs.toList ys.toList a2 b4 o4.toList/\b4=k'/\1<b4:=by
    clear hc hc1 hd1 k2 k3 hu
    rcases hj with ⟨_,c6,c8,rfl,rfl⟩ | ⟨c3,rfl,rfl⟩
    ·have c6:¬ b4=1:=fun z=>c6 (beq_iff_eq.mpr z)
     have c8:¬ b4=0:=fun z=>c8 (beq_iff_eq.mpr z)
     exact ⟨Mg,rfl,by omega⟩
    ·exact ⟨M,by omega,hb1⟩
   subst eb
   obtain ⟨y',ly2,k5⟩:=k2 (b4 - 1) (by clear hj;omega)
   rw [Nat.zero_add] at ly2
   have hc:t+2+a2+b4<=xs.size+ys.size/\u+2+a2+b4<=xs.size+ys.size:=by clear hj;omega
   clear hj k2 k3 k1 M Mg hb1 hc1 hd1 hbc
   refine wpS_bind (zu ex ?_)
   have M4:=pux M3 ha2 (Nat.le_of_lt hb4) lx' ly2 (Kr k5)
   by_cases c7:(a2 - 1 == 0)=true
   ·rw [if_pos c7];exact wpS_pure ⟨_,rfl,.inl ⟨_,_,_,_,_,_,_,rfl,dn M4 (beq_iff_eq.mp c7)⟩⟩
   rw [if_neg c7]
   have c7:¬ a2 - 1=0:=fun z=>c7 (beq_iff_eq.mpr z)
   refine zE (fun _=>?_) fun _=>?_
   ·exact wpS_pure ⟨_,rfl,.inr ⟨_,_,_,_,_,_,rfl,M4,by omega,hb4,by omega⟩⟩
   ·exact wpS_pure ⟨_,_,_,_,_,_,_,rfl,rfl,M4,by omega,hb4,by omega,by omega⟩
  ·rintro c st' ⟨o,a,b,g,ac,bc,g',rfl,rfl,M,ha,hb,hc,hd⟩
   omega
  rintro c st' ⟨g',rfl,⟨m,o,a,b,g,ac,bc,rfl,r⟩ | ⟨o,a,b,g,ac,bc,rfl,M,ha,hb,hc⟩⟩
  ·exact wpS_pure ⟨m,_,_,_,_,_,rfl,rfl,r⟩
  ·dsimp only
   refine wpS_bind (jj ?_)
   exact wpS_pure ⟨_,_,_,_,_,rfl,rfl,M,ha,hb,by omega⟩
 ·rintro c st' ⟨o,a,b,g,g',rfl,rfl,M,ha,hb,hc⟩
  omega
 ·rintro c st' ⟨m,o,a,b,g,g',rfl,rfl,r⟩
  exact wpS_pure (h m g' r)
end
end L2
namespace L2
open PySem PyProof.Rows
noncomputable def gK (xs:Array Keyed)(i:Nat):Keyed:=xs[i]?.getD (.none,.none)
theorem qR {xs ys:Array Keyed}{i j:Nat}(h:xs[i]?=ys[j]?):gK xs i=gK ys j:=by unfold gK;rw [h]
theorem Wx {xs:Array Keyed}{i:Nat}(h:i<xs.size):xs[i]?=some (gK xs i):=by unfold gK;rw [Array.getElem?_eq_getElem h];rfl
structure Sg (xs ys:Array Keyed)(lo hi:Nat):Prop where
 perm:ys.Perm xs
 out:∀ i,i<lo \/ hi<=i->ys[i]?=xs[i]?
 inn:∀ i,lo<=i->i<hi->∃ j,lo<=j/\j<hi/\ys[i]?=xs[j]?
theorem Sg.size {xs ys:Array Keyed}{lo hi:Nat}(h:Sg xs ys lo hi):ys.size=xs.size:=h.perm.size_eq
theorem Sg.refl (xs:Array Keyed)(lo hi:Nat):Sg xs xs lo hi:=⟨Array.Perm.refl _,fun _ _=>rfl,fun i h1 h2=>⟨i,h1,h2,rfl⟩⟩
theorem Sg.trans {xs ys zs:Array Keyed}{lo hi:Nat}(h:Sg xs ys lo hi)(g:Sg ys zs lo hi):Sg xs zs lo hi:=
 ⟨g.perm.trans h.perm,fun i c=>(g.out i c).trans (h.out i c),fun i h1 h2=>by
  obtain ⟨j,j1,j2,e⟩:=g.inn i h1 h2
  obtain ⟨k,k1,k2,e'⟩:=h.inn j j1 j2
  exact ⟨k,k1,k2,e.trans e'⟩⟩
theorem Sg.mono {xs ys:Array Keyed}{lo hi lo' hi':Nat}(h:Sg xs ys lo hi)(h1:lo'<=lo)(h2:hi<=hi'):Sg xs ys lo' hi':=
 ⟨h.perm,fun i c=>h.out i (by omega),fun i c1 c2=>by
  by_cases c:lo<=i/\i<hi
  ·obtain ⟨j,j1,j2,e⟩:=h.inn i c.1 c.2
   exact ⟨j,by omega,by omega,e⟩
  ·exact ⟨i,c1,c2,h.out i (by omega)⟩⟩
theorem zO {xs:Array Keyed}{i j:Nat}(hj:j<=xs.size):Sg xs (mirror xs i j ((j - i) / 2)) i j:=
 ⟨mirror_perm _ _ _ _,fun k c=>by rw [getElem?_mirror_all hj,if_neg (by omega)],fun k h1 h2=>⟨i+j - 1 - k,by omega,by omega,by rw [getElem?_mirror_all hj,if_pos ⟨h1,h2⟩]⟩⟩
theorem zB {xs:Array Keyed}{i j:Nat}(hj:j<=xs.size)(k:Nat):gK (mirror xs i j ((j - i) / 2)) k=if i<=k/\k<j then gK xs (i+j - 1 - k) else gK xs k:=by
 have e:=getElem?_mirror_all (i:=i) hj k
 by_cases h1:i<=k/\k<j
 ·rw [if_pos h1] at e ⊢;exact qR e
 ·rw [if_neg h1] at e ⊢;exact qR e
theorem Z1 {xs:Array Keyed}{src d:Nat}(hs:src<xs.size)(hd:d<=src)(k:Nat):gK (bubble xs src d) k=if k=src - d then gK xs src else if src - d<k/\k<=src then gK xs (k - 1) else gK xs k:=by
 have e:=getElem?_bubble hs d hd k
 by_cases h1:k=src - d
 ·rw [if_pos h1] at e ⊢;exact qR e
 ·rw [if_neg h1] at e ⊢
  by_cases h2:src - d<k/\k<=src
  ·rw [if_pos h2] at e ⊢;exact qR e
  ·rw [if_neg h2] at e ⊢;exact qR e
theorem Zw {xs:Array Keyed}{src d:Nat}(hs:src<xs.size)(hd:d<=src):Sg xs (bubble xs src d) (src - d) (src+1):=
 ⟨bubble_perm _ _ _,fun k c=>by rw [getElem?_bubble hs d hd,if_neg (by omega),if_neg (by omega)],fun k h1 h2=>by
  rw [getElem?_bubble hs d hd]
  by_cases c:k=src - d
  ·rw [if_pos c];exact ⟨src,by omega,by omega,rfl⟩
  ·rw [if_neg c,if_pos (by omega)];exact ⟨k - 1,by omega,by omega,rfl⟩⟩
structure SoB (a₀:Array Keyed)(st:SortSt):Prop where
 perm:(arrOf st).Perm a₀
 kind:kindOf st=oneType'
 failed:failedOf st=none
theorem SoB.size {a₀:Array Keyed}{st:SortSt}(h:SoB a₀ st):(arrOf st).size=a₀.size:=h.perm.size_eq
theorem SoB.set {a₀:Array Keyed}{st:SortSt}(h:SoB a₀ st){xs:Array Keyed}(hp:xs.Perm (arrOf st)):SoB a₀ (setArr st xs):=⟨hp.trans h.perm,h.kind,h.failed⟩
noncomputable def vD (a₀:Array Keyed):Prop:=∀ p ∈ a₀.toList,IsI p
theorem SoB.ints {a₀:Array Keyed}{st:SortSt}(h:SoB a₀ st)(h0:vD a₀):∀ p ∈ (arrOf st).toList,IsI p:=fun p hp=>h0 p ((Array.perm_iff_toList_perm.mp h.perm).mem_iff.mp hp)
theorem SoB.int {a₀:Array Keyed}{st:SortSt}(h:SoB a₀ st)(h0:vD a₀){i:Nat}(hi:i<a₀.size):(arrOf st)[i]?=some (gK (arrOf st) i)/\IsI (gK (arrOf st) i):=by
 have e:=Wx (xs:=arrOf st) (i:=i) (by rw [h.size];exact hi)
 refine ⟨e,h.ints h0 _ (List.mem_of_getElem? (i:=i) ?_)⟩
 rw [Array.getElem?_toList];exact e
section
variable {prog:Program}{w:World}{A:Around}{E:Value->Shared->Prop}{s:Shared}{a₀:Array Keyed}{rk:Keyed->Int}
theorem wB {st:SortSt}{i j:Nat}{Q:Option Bool->SortSt->Prop}(hB:SoB a₀ st)(h0:vD a₀)(hi:i<a₀.size)(hj:j<a₀.size)(h:Q (some (decide (kn (gK (arrOf st) i)<kn (gK (arrOf st) j)))) st):wpS (model prog w) A E s (ltAt' i j) Q st:=by
 rw [ltAt'_eq]
 refine wpS_bind (wpS_get ?_)
 obtain ⟨e1,i1⟩:=hB.int h0 hi
 obtain ⟨e2,i2⟩:=hB.int h0 hj
 exact wpS_bind (zu e1 (wpS_bind (zu e2 (yy hB.kind i1 i2 h))))
noncomputable def Srt (rk:Keyed->Int)(xs:Array Keyed)(lo hi:Nat):Prop:=∀ i j,lo<=i->i<=j->j<hi->LEr rk (gK xs i) (gK xs j)
noncomputable def Asc (rk:Keyed->Int)(xs:Array Keyed)(lo:Nat):Prop:=∀ i j,lo<=i->i<=j->j<xs.size->rk (gK xs i)<=rk (gK xs j)
theorem Sg.rkk {xs ys:Array Keyed}{lo m:Nat}(h:Sg xs ys lo m)(ha:Asc rk xs lo){i j:Nat}(h1:lo<=i)(h2:i<m)(h3:m<=j)(h4:j<xs.size):rk (gK ys i)<=rk (gK ys j):=by
 obtain ⟨i',a1,a2,e⟩:=h.inn i h1 h2
 rw [qR e,qR (h.out j (.inr h3))]
 exact ha i' j a1 (by omega) h4
theorem Srt.one {xs:Array Keyed}{lo:Nat}:Srt rk xs lo (lo+1):=fun i j h1 h2 h3=>by
 have:i=j:=by omega
 subst this;exact LEr.refl
theorem Srt.more {xs:Array Keyed}{lo hi:Nat}(h:Srt rk xs lo hi)(hl:lo<hi)(g:LEr rk (gK xs (hi - 1)) (gK xs hi)):Srt rk xs lo (hi+1):=fun i j h1 h2 h3=>by
 by_cases c:j<hi
 ·exact h i j h1 h2 c
 ·have:j=hi:=by omega
  subst this
  by_cases c2:i=j
  ·subst c2;exact LEr.refl
  ·exact (h i (j - 1) h1 (by omega) (by omega)).trans g
theorem vq {xs:Array Keyed}{lo k l:Nat}(hs:Srt rk xs lo (lo+k))(hl:l<=k)(hz:lo+k<xs.size)(ha:∀ i,lo<=i->i<lo+l->LEr rk (gK xs i) (gK xs (lo+k)))(hb:∀ i,lo+l<=i->i<lo+k->LEr rk (gK xs (lo+k)) (gK xs i)):Srt rk (bubble xs (lo+k) (lo+k - (lo+l))) lo (lo+(k+1)):=by
 have f:∀ i,gK (bubble xs (lo+k) (lo+k - (lo+l))) i=if i=lo+l then gK xs (lo+k) else if lo+l<i/\i<=lo+k then gK xs (i - 1) else gK xs i:=fun i=>by
  rw [Z1 hz (by omega),show lo+k - (lo+k - (lo+l))=lo+l by omega]
 clear hz
 intro i j b1 b2 b3
 rw [f,f]
 clear f
 by_cases ci:i=lo+l
 ·rw [if_pos ci]
  by_cases cj:j=lo+l
  ·rw [if_pos cj];exact LEr.refl
  ·rw [if_neg cj,if_pos (by omega)]
   exact hb (j - 1) (by omega) (by omega)
 ·rw [if_neg ci]
  by_cases cj:j=lo+l
  ·rw [if_pos cj,if_neg (by omega)]
   exact ha i b1 (by omega)
  ·rw [if_neg cj]
   by_cases ci2:lo+l<i
   ·rw [if_pos (by omega),if_pos (by omega)]
    exact hs _ _ (by omega) (by omega) (by omega)
   ·rw [if_neg (by omega)]
    by_cases cj2:lo+l<j
    ·rw [if_pos (by omega)];exact hs _ _ b1 (by omega) (by omega)
    ·rw [if_neg (by omega)];exact hs _ _ b1 b2 (by omega)
theorem Z3 {st : SortSt}{lo n ok : Nat}{Q : Bool -> SortSt -> Prop}(h0 : vD a₀)(hB : SoB a₀ st)(hn : lo + n <= a₀.size)(hok : 1 <= ok)(hok2 : ok <= n)(ha : ∀ i j, lo <= i -> i < j -> lo + ok <= j -> j < a₀.size -> rk (gK (arrOf st) i) <= rk (gK (arrOf st) j))(hs : Srt rk (arrOf st) lo (lo + ok))
    (h:∀ xs,Sg (arrOf st) xs lo (lo+n)->Srt rk xs lo (lo+n)->Q true (setArr st xs)):wpS (model prog w) A E s (binarySort' lo n ok) Q st:=by
  rw [binarySort'_eq]
  refine wpS_bind (wpS_mono (wpS_forRange (I:=fun k c st'=>c=(none,())/\∃ xs,st'=setArr st xs/\Sg (arrOf st) xs lo (lo+k)/\Srt rk xs lo (lo+k)/\k<=n)
    (Q:=fun c st'=>c=(none,())/\∃ xs,st'=setArr st xs/\Sg (arrOf st) xs lo (lo+n)/\Srt rk xs lo (lo+n)) ?_ ?_ ⟨rfl,arrOf st,rfl,Sg.refl _ _ _,by rw [show max ok 1=ok by omega];exact hs,by omega⟩) ?_)
  · rintro k c st' hak hkn ⟨rfl,xs,rfl,g,hs,_⟩
    have hB':SoB a₀ (setArr st xs):=hB.set g.perm
    have sz:xs.size=a₀.size:=hB'.size
    refine wpS_bind (wpS_mono (wpS_forRange (I:=fun t c st'=>st'=setArr st xs/\∃ l r,c=(none,l,r)/\l<=r/\r<=k/\r - l<=k - t/\(∀ i,i<l->kn (gK xs (lo+i))<=kn (gK xs (lo+k)))/\(∀ i,r<=i->i<k->kn (gK xs (lo+k))<kn (gK xs (lo+i))))
      (Q:=fun c st'=>st'=setArr st xs/\∃ l,c=(none,l,l)/\l<=k/\(∀ i,i<l->kn (gK xs (lo+i))<=kn (gK xs (lo+k)))/\(∀ i,l<=i->i<k->kn (gK xs (lo+k))<kn (gK xs (lo+i)))) ?_ ?_ ⟨rfl,0,k,rfl,by omega,by omega,by omega,fun i hi=>by omega,fun i h1 h2=>by omega⟩) ?_)
    · rintro t c st' _ ht ⟨rfl,l,r,rfl,h1,h2,h3,h4,h5⟩
      dsimp only
      by_cases c:l ≥ r
      · rw [if_pos c]
        have:l=r:=by omega
        subst this
        exact wpS_pure ⟨rfl,l,rfl,h2,h4,h5⟩
      · rw [if_neg c]
        refine wpS_bind (wB hB' h0 (by omega) (by omega) ?_)
        by_cases c2:kn (gK xs (lo+k))<kn (gK xs (lo+(l+r) / 2))
        · rw [show decide (kn (gK (arrOf (setArr st xs)) (lo+k))<kn (gK (arrOf (setArr st xs)) (lo+(l+r) / 2)))=true from decide_eq_true c2]
          refine wpS_pure ⟨rfl,_,_,rfl,by omega,by omega,by omega,h4,fun i a1 a2=>?_⟩
          have:=(hs (lo+(l+r) / 2) (lo+i) (by omega) (by omega) (by omega)).kn
          omega
        · rw [show decide (kn (gK (arrOf (setArr st xs)) (lo+k))<kn (gK (arrOf (setArr st xs)) (lo+(l+r) / 2)))=false from decide_eq_false c2]
          refine wpS_pure ⟨rfl,_,_,rfl,by omega,by omega,by omega,fun i a1=>?_,h5⟩
          have:=(hs (lo+i) (lo+(l+r) / 2) (by omega) (by omega) (by omega)).kn
          omega
    · rintro c st' ⟨rfl,l,r,rfl,h1,h2,h3,h4,h5⟩
      have:l=r:=by omega
      subst this
      exact ⟨rfl,l,rfl,h2,h4,h5⟩
    · rintro c st' ⟨rfl,l,rfl,h2,h4,h5⟩
      show wpS _ _ _ _ (do moveDown' (lo+k) (lo+l);pure (ForInStep.yield (none,()))) _ _
      rw [moveDown'_eq]
      refine wpS_bind (wpS_modify (wpS_pure ⟨rfl,bubble xs (lo+k) (lo+k - (lo+l)),rfl,?_,?_,by omega⟩))
      · exact (g.mono (Nat.le_refl _) (by omega)).trans ((Zw (by omega) (by omega)).mono (by omega) (by omega))
      · have rkk : ∀ i, i < k -> rk (gK xs (lo + i)) <= rk (gK xs (lo + k)) := fun i hi => by
          obtain ⟨i',a1,a2,e⟩:=g.inn (lo+i) (by omega) (by omega)
          rw [qR e,qR (g.out (lo+k) (.inr (by omega)))]
          exact ha i' (lo+k) a1 (by omega) (by omega) (by omega)
        clear ha
        refine vq hs h2 (by omega) (fun i a1 a2=>?_) fun i a1 a2=>?_
        · have z1:=h4 (i - lo) (by omega)
          have z2:=rkk (i - lo) (by omega)
          rw [show lo+(i - lo)=i by omega] at z1 z2
          exact LEr.of z1 z2
        · have:=h5 (i - lo) (by omega) (by omega)
          rw [show lo+(i - lo)=i by omega] at this
          exact .inl this
  · rintro c st' ⟨rfl,xs,rfl,g,hs,hk⟩
    rw [show max (max ok 1) n=n by omega] at g hs
    exact ⟨rfl,xs,rfl,g,hs⟩
  · rintro c st' ⟨rfl,xs,rfl,g,hs⟩
    exact wpS_pure (h xs g hs)
end
end L2
namespace L2
open PySem PyProof.Rows
section
variable {prog:Program}{w:World}{A:Around}{E:Value->Shared->Prop}{s:Shared}{a₀:Array Keyed}{rk:Keyed->Int}
noncomputable def Fal (rk:Keyed->Int)(xs:Array Keyed)(lo hi:Nat):Prop:=∀ i j,lo<=i->i<=j->j<hi->LEr rk (gK xs j) (gK xs i)
structure Dsc (rk:Keyed->Int)(xs:Array Keyed)(lo T hi:Nat):Prop where
 l:lo<=T
 t:T<hi
 a:Fal rk xs lo T
 b:∀ i,lo<=i->i<T->kn (gK xs (hi - 1))<kn (gK xs i)
 c:∀ i j,T<=i->i<=j->j<hi->kn (gK xs i)=kn (gK xs (hi - 1))/\rk (gK xs i)<=rk (gK xs j)
theorem Dsc.fall0 {xs:Array Keyed}{lo T hi:Nat}(h:Dsc rk xs lo T hi)(e:T+1=hi):Fal rk xs lo hi:=fun i j h1 h2 h3=>by
 by_cases c:j<T
 ·exact h.a i j h1 h2 c
 ·have:j=T:=by omega
  subst this
  by_cases c2:i=j
  ·subst c2;exact LEr.refl
  ·have:=h.b i h1 (by omega)
   rw [show hi - 1=j by omega] at this
   exact .inl this
theorem Dsc.fall {xs:Array Keyed}{lo T hi:Nat}(h:Dsc rk xs lo T hi)(hs:hi<=xs.size):Fal rk (mirror xs T hi ((hi - T) / 2)) lo hi:=fun i j h1 h2 h3=>by
 have hl:=h.l
 have ht:=h.t
 rw [zB hs,zB hs]
 by_cases ci:T<=i
 ·rw [if_pos (by omega),if_pos (by omega)]
  have a1:=h.c (T+hi - 1 - j) (T+hi - 1 - i) (by omega) (by omega) (by omega)
  have a2:=h.c (T+hi - 1 - i) (T+hi - 1 - i) (by omega) (by omega) (by omega)
  exact LEr.of (by omega) a1.2
 ·by_cases cj:T<=j
  ·rw [if_pos (by omega),if_neg (by omega)]
   have a1:=h.b i h1 (by omega)
   have a2:=h.c (T+hi - 1 - j) (T+hi - 1 - j) (by omega) (by omega) (by omega)
   exact .inl (by omega)
  ·rw [if_neg (by omega),if_neg (by omega)];exact h.a i j h1 h2 (by omega)
theorem Dsc.last {xs:Array Keyed}{lo T hi:Nat}(h:Dsc rk xs lo T hi)(hs:hi<=xs.size):kn (gK (mirror xs T hi ((hi - T) / 2)) (hi - 1))=kn (gK xs (hi - 1)):=by
 have ht:=h.t
 rw [zB hs,if_pos ⟨by omega,by omega⟩]
 exact (h.c (T+hi - 1 - (hi - 1)) (T+hi - 1 - (hi - 1)) (by omega) (by omega) (by omega)).1
theorem Fal.next {xs:Array Keyed}{lo hi:Nat}(h:Fal rk xs lo hi)(hl:lo<hi)(g:kn (gK xs hi)<kn (gK xs (hi - 1))):Dsc rk xs lo hi (hi+1):=by
 refine ⟨by omega,by omega,h,fun i h1 h2=>?_,fun i j h1 h2 h3=>?_⟩
 ·have:=(h i (hi - 1) h1 (by omega) (by omega)).kn
  rw [Nat.add_sub_cancel];omega
 ·have:i=hi:=by omega
  have:j=hi:=by omega
  subst i j
  rw [Nat.add_sub_cancel];exact ⟨rfl,Int.le_refl _⟩
theorem Dsc.like {xs:Array Keyed}{lo T hi:Nat}(h:Dsc rk xs lo T hi)(e:kn (gK xs hi)=kn (gK xs (hi - 1)))(g:∀ i,lo<=i->i<hi->rk (gK xs i)<=rk (gK xs hi)):Dsc rk xs lo T (hi+1):=by
 have hl:=h.l
 have ht:=h.t
 refine ⟨hl,by omega,h.a,fun i h1 h2=>?_,fun i j h1 h2 h3=>?_⟩
 ·have:=h.b i h1 h2
  rw [Nat.add_sub_cancel];omega
 ·rw [Nat.add_sub_cancel]
  by_cases cj:j<hi
  ·have:=h.c i j h1 h2 cj
   exact ⟨by omega,this.2⟩
  ·have:j=hi:=by omega
   subst this
   by_cases ci:i=j
   ·subst ci;exact ⟨rfl,Int.le_refl _⟩
   ·exact ⟨by have:=(h.c i i h1 (by omega) (by omega)).1;omega,g i (by omega) (by omega)⟩
theorem Fal.srt {xs:Array Keyed}{lo hi:Nat}(h:Fal rk xs lo hi)(hs:hi<=xs.size):Srt rk (mirror xs lo hi ((hi - lo) / 2)) lo hi:=fun i j h1 h2 h3=>by
 rw [zB hs,zB hs,if_pos ⟨h1,by omega⟩,if_pos ⟨by omega,h3⟩]
 exact h _ _ (by omega) (by omega) (by omega)
theorem Js {st:SortSt}{lo nrem:Nat}{Q:Option Nat->SortSt->Prop}(h0:vD a₀)(hB:SoB a₀ st)(hn:lo+nrem<=a₀.size)(h1:1<=nrem)(ha:Asc rk (arrOf st) lo)
  (h:∀ m xs,1<=m->m<=nrem->Sg (arrOf st) xs lo (lo+m)->Srt rk xs lo (lo+m)->Q (some m) (setArr st xs)):wpS (model prog w) A E s (countRun' lo nrem) Q st:=by
 rw [countRun'_eq]
 have sz:=hB.size
 have asc:∀ {F:Nat->Option (Option Nat) × Nat->StateT SortSt Sem (ForInStep (Option (Option Nat) × Nat))} (xs:Array Keyed) (n:Nat),Sg (arrOf st) xs lo (lo+n) ->
   (∀ t n (R:_->SortSt->Prop),1<=n->n<nrem->R (if kn (gK xs (lo+n))<kn (gK xs (lo+n - 1)) then ForInStep.done (none,n) else ForInStep.yield (none,n+1)) (setArr st xs)->wpS (model prog w) A E s (F t (none,n)) R (setArr st xs)) ->
   Srt rk xs lo (lo+n)->1<=n->n<=nrem->wpS (model prog w) A E s (forIn [n:nrem] (none,n) F) (fun c st'=>st'=setArr st xs/\∃ m,c=(none,m)/\n<=m/\m<=nrem/\Srt rk xs lo (lo+m)/\(m=nrem \/ kn (gK xs (lo+m))<kn (gK xs (lo+m - 1)))) (setArr st xs):=fun xs n g hF hs hn1 hn2=>by
  refine wpS_forRange (I:=fun t c st'=>st'=setArr st xs/\c=(none,t)/\Srt rk xs lo (lo+t)) ?_ ?_ ⟨rfl,rfl,hs⟩
  ·rintro t c st' h1 h2 ⟨rfl,rfl,hs⟩
   refine hF _ _ _ (by omega) h2 ?_
   by_cases c:kn (gK xs (lo+t))<kn (gK xs (lo+t - 1))
   ·rw [if_pos c];exact ⟨rfl,t,rfl,h1,by omega,hs,.inr c⟩
   ·rw [if_neg c]
    refine ⟨rfl,rfl,?_⟩
    exact hs.more (by omega) (LEr.of (by omega) ((g.mono (Nat.le_refl _) (show lo+n<=lo+t by omega)).rkk ha (by omega) (by omega) (Nat.le_refl _) (by omega)))
  ·rintro c st' ⟨rfl,rfl,hs⟩
   rw [show max n nrem=nrem by omega] at hs ⊢
   exact ⟨rfl,_,rfl,hn2,Nat.le_refl _,hs,.inl rfl⟩
 have cmp:∀ {xs:Array Keyed} {m i j:Nat} (R:Option Bool->SortSt->Prop),Sg (arrOf st) xs lo m->i<a₀.size->j<a₀.size->R (some (decide (kn (gK xs i)<kn (gK xs j)))) (setArr st xs)->wpS (model prog w) A E s (ltAt' i j) R (setArr st xs):=fun R g hi hj r=>wB (hB.set g.perm) h0 hi hj r
 refine wpS_bind (wpS_mono (asc (arrOf st) 1 (Sg.refl _ _ _) (fun t n R hn1 hn2 r=>?_) Srt.one (by omega) h1) ?_)
 ·dsimp only
  refine wpS_bind (cmp _ (Sg.refl _ lo lo) (by omega) (by omega) ?_)
  by_cases c:kn (gK (arrOf st) (lo+n))<kn (gK (arrOf st) (lo+n - 1))
  ·rw [if_pos c] at r;rw [decide_eq_true c];exact wpS_pure r
  ·rw [if_neg c] at r;rw [decide_eq_false c];exact wpS_pure r
 rintro c st' ⟨rfl,n,rfl,hn1,hn2,hs,hc⟩
 dsimp only
 by_cases c1:(n == nrem)=true
 ·rw [if_pos c1]
  exact wpS_pure (h n (arrOf st) hn1 hn2 (Sg.refl _ _ _) hs)
 rw [if_neg c1]
 have c1:¬ n=nrem:=fun z=>c1 (beq_iff_eq.mpr z)
 have hc:kn (gK (arrOf st) (lo+n))<kn (gK (arrOf st) (lo+n - 1)):=hc.resolve_left c1
 have key:∀ xs,Sg (arrOf st) xs lo (lo+n)->Fal rk xs lo (lo+n)->kn (gK xs (lo+n))<kn (gK xs (lo+n - 1))->Dsc rk xs lo (lo+n) (lo+n+1):=fun xs g f z=>f.next (by omega) z
 refine zE (fun c2=>?_) fun c2=>?_
 ·refine wpS_bind (cmp _ (Sg.refl _ lo lo) (by omega) (by omega) ?_)
  by_cases c3:kn (gK (arrOf st) lo)<kn (gK (arrOf st) (lo+n - 1))
  ·rw [decide_eq_true c3]
   exact wpS_pure (h n (arrOf st) hn1 hn2 (Sg.refl _ _ _) hs)
  rw [decide_eq_false c3]
  dsimp only
  rw [if_neg (by decide)]
  refine wpS_bind (wpS_reverse ?_)
  have hz:lo+n<=(arrOf st).size:=by omega
  have g1:Sg (arrOf st) (mirror (arrOf st) lo (lo+n) ((lo+n - lo) / 2)) lo (lo+n):=zO hz
  have ek:∀ i,lo<=i->i<lo+n->kn (gK (arrOf st) i)=kn (gK (arrOf st) lo):=fun i a1 a2=>by
   have z1:=(hs lo i (Nat.le_refl _) a1 a2).kn
   have z2:=(hs i (lo+n - 1) a1 (by omega) (by omega)).kn
   omega
  have f1:Fal rk (mirror (arrOf st) lo (lo+n) ((lo+n - lo) / 2)) lo (lo+n):=fun i j a1 a2 a3=>by
   rw [zB hz,zB hz,if_pos (by omega),if_pos (by omega)]
   have z1:=ek (lo+(lo+n) - 1 - i) (by omega) (by omega)
   have z2:=ek (lo+(lo+n) - 1 - j) (by omega) (by omega)
   exact LEr.of (by omega) (ha _ _ (by omega) (by omega) (by omega))
  have d1:=key _ g1 f1 (by
   rw [zB hz,zB hz,if_neg (by omega),if_pos ⟨by omega,by omega⟩]
   have z1:=ek (lo+(lo+n) - 1 - (lo+n - 1)) (by omega) (by omega)
   have z2:=ek (lo+n - 1) (by omega) (by omega)
   omega)
  have g1:=g1.mono (Nat.le_refl lo) (Nat.le_succ (lo+n))
  show wpS _ _ _ _ _ _ (setArr st (mirror (arrOf st) lo (lo+n) ((lo+n - lo) / 2)))
  generalize mirror (arrOf st) lo (lo+n) ((lo+n - lo) / 2)=xs at *
  refine wpS_bind (qI ?_)
  refine wpS_bind (wpS_mono (wpS_forRange (I:=fun t c st'=>∃ xs T q,c=(none,t,q)/\st'=setArr st xs/\Sg (arrOf st) xs lo (lo+t)/\T+q+1=lo+t/\Dsc rk xs lo T (lo+t)) (Q:=fun c st'=>∃ xs T q t,c=(none,t,q)/\1<=t/\t<=nrem/\st'=setArr st xs/\Sg (arrOf st) xs lo (lo+t)/\T+q+1=lo+t/\Dsc rk xs lo T (lo+t)) ?_ ?_ ⟨xs,lo+n,0,rfl,rfl,g1,by omega,d1⟩) ?_)
  ·rintro t c st' h1 h2 ⟨xs,T,q,rfl,rfl,g,hq,d⟩
   have hz:lo+t<=xs.size:=by rw [g.size,sz];omega
   have dl:=d.l
   dsimp only
   refine wpS_bind (cmp _ g (by omega) (by omega) ?_)
   by_cases c3:kn (gK xs (lo+t))<kn (gK xs (lo+t - 1))
   ·rw [decide_eq_true c3]
    dsimp only
    rw [if_pos rfl]
    refine zE (fun c4=>?_) fun c4=>?_
    ·refine wpS_bind (wpS_reverse (wpS_pure ?_))
     rw [show lo+t - (q+1)=T by omega]
     exact ⟨mirror xs T (lo+t) ((lo+t - T) / 2),lo+t,0,rfl,rfl,(g.trans ((zO hz).mono d.l (Nat.le_refl _))).mono (Nat.le_refl _) (by omega),by omega,(d.fall hz).next (by omega) (by rw [d.last hz,zB hz,if_neg (by omega)];exact c3)⟩
    ·exact wpS_pure ⟨xs,lo+t,0,rfl,rfl,g.mono (Nat.le_refl _) (by omega),by omega,(d.fall0 (by omega)).next (by omega) c3⟩
   ·rw [decide_eq_false c3]
    dsimp only
    rw [if_neg (by decide)]
    refine wpS_bind (cmp _ g (by omega) (by omega) ?_)
    by_cases c4:kn (gK xs (lo+t - 1))<kn (gK xs (lo+t))
    ·rw [decide_eq_true c4];exact wpS_pure ⟨xs,T,q,t,rfl,by omega,by omega,rfl,g,hq,d⟩
    ·rw [decide_eq_false c4];exact wpS_pure ⟨xs,T,q+1,rfl,rfl,g.mono (Nat.le_refl _) (by omega),by omega,d.like (by omega) fun i a1 a2=>g.rkk ha a1 a2 (Nat.le_refl _) (by omega)⟩
  ·rintro c st' ⟨xs,T,q,rfl,rfl,g,hq,d⟩
   rw [show max (n+1) nrem=nrem by omega] at *
   exact ⟨xs,T,q,nrem,rfl,by omega,Nat.le_refl _,rfl,g,hq,d⟩
  rintro c st' ⟨xs,T,q,t,rfl,t1,t2,rfl,g,hq,d⟩
  have hz:lo+t<=xs.size:=by rw [g.size,sz];omega
  have dl:=d.l
  dsimp only
  refine zE (fun c4=>wpS_bind (wpS_reverse ?_)) fun c4=>?_
  ·rw [show lo+t - (q+1)=T by omega]
   have g2:=g.trans ((zO hz).mono d.l (Nat.le_refl _))
   have f2:=d.fall hz
   show wpS _ _ _ _ _ _ (setArr st (mirror xs T (lo+t) ((lo+t - T) / 2)))
   generalize mirror xs T (lo+t) ((lo+t - T) / 2)=ys at *
   refine wpS_bind (wpS_reverse ?_)
   have hz2:lo+t<=ys.size:=by rw [g2.size,sz];omega
   have g3:=g2.trans (zO hz2)
   have s3:=f2.srt hz2
   refine wpS_bind (wpS_mono (asc (mirror ys lo (lo+t) ((lo+t - lo) / 2)) t g3 (fun u n R hn1 hn2 r=>?_) s3 t1 t2) ?_)
   ·dsimp only
    refine wpS_bind (cmp _ g3 (by omega) (by omega) ?_)
    by_cases c:kn (gK (mirror ys lo (lo+t) ((lo+t - lo) / 2)) (lo+n))<kn (gK (mirror ys lo (lo+t) ((lo+t - lo) / 2)) (lo+n - 1))
    ·rw [if_pos c] at r;rw [decide_eq_true c];exact wpS_pure r
    ·rw [if_neg c] at r;rw [decide_eq_false c];exact wpS_pure r
   rintro c st' ⟨rfl,m,rfl,m1,m2,s4,_⟩
   exact wpS_pure (h m _ (by omega) m2 (g3.mono (Nat.le_refl _) (by omega)) s4)
  ·have f2:=d.fall0 (by omega)
   have g2:=g
   generalize xs=ys at *
   refine wpS_bind (wpS_reverse ?_)
   have hz2:lo+t<=ys.size:=by rw [g2.size,sz];omega
   have g3:=g2.trans (zO hz2)
   have s3:=f2.srt hz2
   refine wpS_bind (wpS_mono (asc (mirror ys lo (lo+t) ((lo+t - lo) / 2)) t g3 (fun u n R hn1 hn2 r=>?_) s3 t1 t2) ?_)
   ·dsimp only
    refine wpS_bind (cmp _ g3 (by omega) (by omega) ?_)
    by_cases c:kn (gK (mirror ys lo (lo+t) ((lo+t - lo) / 2)) (lo+n))<kn (gK (mirror ys lo (lo+t) ((lo+t - lo) / 2)) (lo+n - 1))
    ·rw [if_pos c] at r;rw [decide_eq_true c];exact wpS_pure r
    ·rw [if_neg c] at r;rw [decide_eq_false c];exact wpS_pure r
   rintro c st' ⟨rfl,m,rfl,m1,m2,s4,_⟩
   exact wpS_pure (h m _ (by omega) m2 (g3.mono (Nat.le_refl _) (by omega)) s4)
 ·have e1:n=1:=by omega
  subst e1
  have d1:Dsc rk (arrOf st) lo (lo+1) (lo+1+1):=by
   refine key _ (Sg.refl _ _ _) (fun i j a1 a2 a3=>?_) hc
   have:i=j:=by omega
   subst this;exact LEr.refl
  have g1:Sg (arrOf st) (arrOf st) lo (lo+1+1):=Sg.refl _ _ _
  refine wpS_bind (qI ?_)
  refine wpS_bind (wpS_mono (wpS_forRange (I:=fun t c st'=>∃ xs T q,c=(none,t,q)/\st'=setArr st xs/\Sg (arrOf st) xs lo (lo+t)/\T+q+1=lo+t/\Dsc rk xs lo T (lo+t)) (Q:=fun c st'=>∃ xs T q t,c=(none,t,q)/\1<=t/\t<=nrem/\st'=setArr st xs/\Sg (arrOf st) xs lo (lo+t)/\T+q+1=lo+t/\Dsc rk xs lo T (lo+t)) ?_ ?_ ⟨arrOf st,lo+1,0,rfl,rfl,g1,by omega,d1⟩) ?_)
  ·rintro t c st' h1 h2 ⟨xs,T,q,rfl,rfl,g,hq,d⟩
   have hz:lo+t<=xs.size:=by rw [g.size,sz];omega
   have dl:=d.l
   dsimp only
   refine wpS_bind (cmp _ g (by omega) (by omega) ?_)
   by_cases c3:kn (gK xs (lo+t))<kn (gK xs (lo+t - 1))
   ·rw [decide_eq_true c3]
    dsimp only
    rw [if_pos rfl]
    refine zE (fun c4=>?_) fun c4=>?_
    ·refine wpS_bind (wpS_reverse (wpS_pure ?_))
     rw [show lo+t - (q+1)=T by omega]
     exact ⟨mirror xs T (lo+t) ((lo+t - T) / 2),lo+t,0,rfl,rfl,(g.trans ((zO hz).mono d.l (Nat.le_refl _))).mono (Nat.le_refl _) (by omega),by omega,(d.fall hz).next (by omega) (by rw [d.last hz,zB hz,if_neg (by omega)];exact c3)⟩
    ·exact wpS_pure ⟨xs,lo+t,0,rfl,rfl,g.mono (Nat.le_refl _) (by omega),by omega,(d.fall0 (by omega)).next (by omega) c3⟩
   ·rw [decide_eq_false c3]
    dsimp only
    rw [if_neg (by decide)]
    refine wpS_bind (cmp _ g (by omega) (by omega) ?_)
    by_cases c4:kn (gK xs (lo+t - 1))<kn (gK xs (lo+t))
    ·rw [decide_eq_true c4];exact wpS_pure ⟨xs,T,q,t,rfl,by omega,by omega,rfl,g,hq,d⟩
    ·rw [decide_eq_false c4];exact wpS_pure ⟨xs,T,q+1,rfl,rfl,g.mono (Nat.le_refl _) (by omega),by omega,d.like (by omega) fun i a1 a2=>g.rkk ha a1 a2 (Nat.le_refl _) (by omega)⟩
  ·rintro c st' ⟨xs,T,q,rfl,rfl,g,hq,d⟩
   rw [show max (1+1) nrem=nrem by omega] at *
   exact ⟨xs,T,q,nrem,rfl,by omega,Nat.le_refl _,rfl,g,hq,d⟩
  rintro c st' ⟨xs,T,q,t,rfl,t1,t2,rfl,g,hq,d⟩
  have hz:lo+t<=xs.size:=by rw [g.size,sz];omega
  have dl:=d.l
  dsimp only
  refine zE (fun c4=>wpS_bind (wpS_reverse ?_)) fun c4=>?_
  ·rw [show lo+t - (q+1)=T by omega]
   have g2:=g.trans ((zO hz).mono d.l (Nat.le_refl _))
   have f2:=d.fall hz
   show wpS _ _ _ _ _ _ (setArr st (mirror xs T (lo+t) ((lo+t - T) / 2)))
   generalize mirror xs T (lo+t) ((lo+t - T) / 2)=ys at *
   refine wpS_bind (wpS_reverse ?_)
   have hz2:lo+t<=ys.size:=by rw [g2.size,sz];omega
   have g3:=g2.trans (zO hz2)
   have s3:=f2.srt hz2
   refine wpS_bind (wpS_mono (asc (mirror ys lo (lo+t) ((lo+t - lo) / 2)) t g3 (fun u n R hn1 hn2 r=>?_) s3 t1 t2) ?_)
   ·dsimp only
    refine wpS_bind (cmp _ g3 (by omega) (by omega) ?_)
    by_cases c:kn (gK (mirror ys lo (lo+t) ((lo+t - lo) / 2)) (lo+n))<kn (gK (mirror ys lo (lo+t) ((lo+t - lo) / 2)) (lo+n - 1))
    ·rw [if_pos c] at r;rw [decide_eq_true c];exact wpS_pure r
    ·rw [if_neg c] at r;rw [decide_eq_false c];exact wpS_pure r
   rintro c st' ⟨rfl,m,rfl,m1,m2,s4,_⟩
   exact wpS_pure (h m _ (by omega) m2 (g3.mono (Nat.le_refl _) (by omega)) s4)
  ·have f2:=d.fall0 (by omega)
   have g2:=g
   generalize xs=ys at *
   refine wpS_bind (wpS_reverse ?_)
   have hz2:lo+t<=ys.size:=by rw [g2.size,sz];omega
   have g3:=g2.trans (zO hz2)
   have s3:=f2.srt hz2
   refine wpS_bind (wpS_mono (asc (mirror ys lo (lo+t) ((lo+t - lo) / 2)) t g3 (fun u n R hn1 hn2 r=>?_) s3 t1 t2) ?_)
   ·dsimp only
    refine wpS_bind (cmp _ g3 (by omega) (by omega) ?_)
    by_cases c:kn (gK (mirror ys lo (lo+t) ((lo+t - lo) / 2)) (lo+n))<kn (gK (mirror ys lo (lo+t) ((lo+t - lo) / 2)) (lo+n - 1))
    ·rw [if_pos c] at r;rw [decide_eq_true c];exact wpS_pure r
    ·rw [if_neg c] at r;rw [decide_eq_false c];exact wpS_pure r
   rintro c st' ⟨rfl,m,rfl,m1,m2,s4,_⟩
   exact wpS_pure (h m _ (by omega) m2 (g3.mono (Nat.le_refl _) (by omega)) s4)
end
end L2
namespace L2
open PySem PyProof.Rows
local macro_rules | `(tactic| walk_at "unMa")=>do
 let n:=Lean.mkIdent (Lean.mkPrivateNameCore `PySem.Builtin.List.W1All `PySem.Builtin.mergeAt)
 `(tactic| unfold $n)
theorem y9 {f:Array Keyed->Keyed × Nat->Array Keyed}{b:Nat}(hf:∀ a p j,f a (p,j)=a.setIfInBounds (b+j) p):∀ (l:List Keyed) (n:Nat) (xs:Array Keyed) (U V W:List Keyed),xs.toList=U ++ (V ++ W)->U.length=b+n->V.length=l.length->((l.zipIdx n).foldl f xs).toList=U ++ (l ++ W)
 | [],n,xs,U,V,W,e,h1,h2=>by
  have:V=[]:=List.length_eq_zero_iff.mp h2
  subst this
  exact e
 | p :: l,n,xs,U,v :: V,W,e,h1,h2=>by
  rw [List.zipIdx_cons,List.foldl_cons,hf]
  have:=y9 hf l (n+1) (xs.setIfInBounds (b+n) p) (U ++ [p]) V W (by
   rw [Array.toList_setIfInBounds,e,<- h1,List.set_append_right _ _ (Nat.le_refl _),Nat.sub_self,List.cons_append,List.set_cons_zero,List.append_assoc];rfl) (by rw [List.length_append,List.length_singleton];omega) (by simpa using h2)
  rw [this,List.append_assoc];rfl
section
variable {prog:Program}{w:World}{A:Around}{E:Value->Shared->Prop}{s:Shared}{rk:Keyed->Int}
theorem VT {st st':SortSt}{Q:PUnit->SortSt->Prop}(h:Q ⟨⟩ st'):wpS (model prog w) A E s (set st':StateT SortSt Sem PUnit) Q st:=by
 unfold wpS
 show wpAny _ _ ((set st':StateT SortSt Sem PUnit).run st) _ _ _
 rw [StateT.run_set]
 exact wpAny_pure ⟨rfl,h⟩
theorem qg.join {X Y m:List Keyed}{k j:Nat}(T:qM rk X Y)(hm:qg rk (X.drop k) (Y.take j) m)(h1:∀ x ∈ X.take k,∀ y ∈ Y,kn x<=kn y)(h2:∀ y ∈ Y.drop j,∀ x ∈ X,kn x<=kn y):qg rk X Y (X.take k ++ (m ++ Y.drop j)):=by
 refine ⟨?_,?_⟩
 ·refine (List.Perm.append_left _ (hm.1.append_right _)).trans ?_
  rw [List.append_assoc,List.take_append_drop,<- List.append_assoc,List.take_append_drop]
 ·have mm:∀ x ∈ m,x ∈ X.drop k \/ x ∈ Y.take j:=fun x hx=>List.mem_append.mp (hm.1.mem_iff.mp hx)
  have pX:∀ x ∈ X.take k,∀ y ∈ X.drop k,LEr rk x y:=by
   have:=T.px
   rw [<- List.take_append_drop k X] at this
   exact (List.pairwise_append.mp this).2.2
  have pY:∀ x ∈ Y.take j,∀ y ∈ Y.drop j,LEr rk x y:=by
   have:=T.py
   rw [<- List.take_append_drop j Y] at this
   exact (List.pairwise_append.mp this).2.2
  refine List.pairwise_append.mpr ⟨T.px.sublist (List.take_sublist _ _),List.pairwise_append.mpr ⟨hm.2,T.py.sublist (List.drop_sublist _ _),fun x hx y hy=>?_⟩,fun x hx y hy=>?_⟩
  ·rcases mm x hx with hx | hx
   ·exact LEr.of (h2 y hy x (List.mem_of_mem_drop hx)) (T.bel _ (List.mem_of_mem_drop hx) _ (List.mem_of_mem_drop hy))
   ·exact pY x hx y hy
  ·have bl:∀ y ∈ Y,LEr rk x y:=fun y hy=>LEr.of (h1 x hx y hy) (T.bel _ (List.mem_of_mem_take hx) _ hy)
   rcases List.mem_append.mp hy with hy | hy
   ·rcases mm y hy with hy | hy
    ·exact pX x hx y hy
    ·exact bl y (List.mem_of_mem_take hy)
   ·exact bl y (List.mem_of_mem_drop hy)
theorem v5 {st:SortSt}{i:Nat}{Q:Bool->SortSt->Prop}{P X Y R:List Keyed}{pw pw':Nat}(hk:kindOf st=oneType')(hf:failedOf st=none)(hI:∀ p ∈ (arrOf st).toList,IsI p)(e:(arrOf st).toList=P ++ (X ++ (Y ++ R)))(T:qM rk X Y)(hx:0<X.length)(hy:0<Y.length)
  (p1:(pendingOf st)[i]?=some (P.length,X.length,pw)) (p2:(pendingOf st)[i+1]?=some (P.length+X.length,Y.length,pw'))
  (h:∀ m g xs,qg rk X Y m->xs.toList=P ++ (m ++ R)->Q true (SortSt.mk' (kindOf st) xs (((pendingOf st).setIfInBounds i (P.length,X.length+Y.length,pw)).eraseIdxIfInBounds (i+1)) g (failedOf st))):wpS (model prog w) A E s (mergeAt' i) Q st:=by
 unfold mergeAt'
 walk_at "unMa"
 have sz:(arrOf st).size=P.length+(X.length+(Y.length+R.length)):=by rw [<- Array.length_toList,e,List.length_append,List.length_append,List.length_append]
 have gx:∀ j,j<X.length->(arrOf st).toList[P.length+j]?=X[j]?:=fun j hj=>by
  rw [e,List.getElem?_append_right (by omega),Nat.add_sub_cancel_left,List.getElem?_append_left hj]
 have gy:∀ j,j<Y.length->(arrOf st).toList[P.length+X.length+j]?=Y[j]?:=fun j hj=>by
  rw [e,List.getElem?_append_right (by omega),List.getElem?_append_right (by omega),List.getElem?_append_left (by omega)];congr 1;omega
 have dX:∀ k,k<=X.length->((arrOf st).toList.drop (P.length+k)).take (X.length - k)=X.drop k:=fun k hk=>by
  rw [e,<- List.drop_drop,List.drop_left,List.drop_append_of_le_length hk,List.take_append_of_le_length (by rw [List.length_drop];omega),List.take_of_length_le (by rw [List.length_drop];omega)]
 have dY:∀ k,k<=Y.length->((arrOf st).toList.drop (P.length+X.length)).take k=Y.take k:=fun k hk=>by
  rw [e,<- List.drop_drop,List.drop_left,List.drop_left,List.take_append_of_le_length hk]
 have ax:∀ {j x},(arrOf st).toList[j]?=some x->(arrOf st)[j]?=some x:=fun z=>by rw [<- Array.getElem?_toList];exact z
 obtain ⟨y0,hy0⟩:∃ y,Y[0]?=some y:=⟨_,List.getElem?_eq_getElem hy⟩
 obtain ⟨x9,hx9⟩:∃ x,X[X.length - 1]?=some x:=⟨_,List.getElem?_eq_getElem (by omega)⟩
 have my:=List.mem_of_getElem? hy0
 have mx:=List.mem_of_getElem? hx9
 have y0le:∀ y ∈ Y,kn y0<=kn y:=fun y hy=>(jk T.py hy0 y (by rw [List.drop_zero];exact hy)).kn
 have x9le:∀ x ∈ X,kn x<=kn x9:=fun x hx'=>(qP T.px hx9 x (by rw [show X.length - 1+1=X.length by omega,List.take_length];exact hx')).kn
 refine wpS_bind (wpS_get ?_)
 rw [p1,p2]
 refine wpS_bind (VT ?_)
 refine wpS_bind (zu (ax (by rw [show P.length+X.length=P.length+X.length+0 by omega,gy 0 hy];exact hy0)) ?_)
 refine wpS_bind (jP (rk:=rk) (xs:=arrOf st) hk (T.iy _ my) (by have:=dX 0 (by omega);rw [Nat.add_zero,Nat.sub_zero,List.drop_zero] at this;rw [this];exact T.px) hI (by omega) hx fun k k1 k2 k3=>?_)
 dsimp only
 have k2:∀ x ∈ X.take k,kn x<=kn y0:=fun x hx'=>by
  obtain ⟨j,hj⟩:=List.getElem?_of_mem hx'
  have hjk:j<k:=by have:=(List.getElem?_eq_some_iff.mp hj).1;rw [List.length_take] at this;omega
  obtain ⟨x',e1,e2⟩:=k2 j hjk
  rw [gx j (by omega)] at e1
  rw [List.getElem?_take_of_lt hjk,e1] at hj
  cases hj
  exact JB e2
 have k2':∀ x ∈ X.take k,∀ y ∈ Y,kn x<=kn y:=fun x hx' y hy'=>Int.le_trans (k2 x hx') (y0le y hy')
 by_cases c1:(X.length - k == 0)=true
 ·rw [if_pos c1]
  have c1:k=X.length:=by have:=beq_iff_eq.mp c1;omega
  subst c1
  rw [List.take_length] at k2'
  refine wpS_pure (h (X ++ Y) (gallopOf st) (arrOf st) ⟨List.Perm.refl _,List.pairwise_append.mpr ⟨T.px,T.py,fun x hx' y hy'=>LEr.of (k2' x hx' y hy') (T.bel x hx' y hy')⟩⟩ (by rw [e,List.append_assoc]))
 rw [if_neg c1]
 have c1:k<X.length:=by
  have:¬ X.length - k=0:=fun z=>c1 (beq_iff_eq.mpr z)
  omega
 obtain ⟨xk,hxk⟩:∃ x,X[k]?=some x:=⟨_,List.getElem?_eq_getElem c1⟩
 have k3':kn y0<kn xk:=by
  obtain ⟨x',e1,e2⟩:=k3 k (Nat.le_refl _) c1
  rw [gx k c1,hxk] at e1
  cases e1
  exact vp e2
 have k4:∀ x ∈ X.drop k,kn y0<kn x:=fun x hx'=>by have:=(jk T.px hxk x hx').kn;omega
 refine wpS_bind (zu (ax (by rw [show P.length+k+(X.length - k) - 1=P.length+(X.length - 1) by omega,gx _ (by omega)];exact hx9)) ?_)
 refine wpS_bind (jP (rk:=rk) (xs:=arrOf st) hk (T.ix _ mx) (by rw [dY _ (Nat.le_refl _),List.take_length];exact T.py) hI (by omega) (by omega) fun j j1 j2 j3=>?_)
 dsimp only
 have j2:∀ y ∈ Y.take j,kn y<kn x9:=fun y hy'=>by
  obtain ⟨n,hn⟩:=List.getElem?_of_mem hy'
  have hnj:n<j:=by have:=(List.getElem?_eq_some_iff.mp hn).1;rw [List.length_take] at this;omega
  obtain ⟨y',e1,e2⟩:=j2 n hnj
  rw [gy n (by omega)] at e1
  rw [List.getElem?_take_of_lt hnj,e1] at hn
  cases hn
  exact Kr e2
 have j3:∀ y ∈ Y.drop j,∀ x ∈ X,kn x<=kn y:=fun y hy' x hx'=>by
  obtain ⟨n,hn⟩:=List.getElem?_of_mem hy'
  rw [List.getElem?_drop] at hn
  have hl:=(List.getElem?_eq_some_iff.mp hn).1
  obtain ⟨y',e1,e2⟩:=j3 (j+n) (by omega) hl
  rw [gy _ hl,hn] at e1
  cases e1
  exact Int.le_trans (x9le x hx') (wl e2)
 have c2:j ≠ 0:=fun z=>by
  subst z
  have:=j3 y0 (by rw [List.drop_zero];exact my) xk (List.mem_of_getElem? hxk)
  omega
 rw [if_neg (by simpa using c2)]
 have ex:((arrOf st).extract (P.length+k) (P.length+X.length)).toList=X.drop k:=by
  rw [Array.toList_extract,List.extract_eq_take_drop,show P.length+X.length - (P.length+k)=X.length - k by omega,dX k k1]
 have ey:((arrOf st).extract (P.length+X.length) (P.length+X.length+j)).toList=Y.take j:=by
  rw [ya,dY j j1]
 have T':qM rk (X.drop k) (Y.take j):=⟨T.px.sublist (List.drop_sublist _ _),T.py.sublist (List.take_sublist _ _),fun x hx' y hy'=>T.bel x (List.mem_of_mem_drop hx') y (List.mem_of_mem_take hy'),fun x hx'=>T.ix x (List.mem_of_mem_drop hx'),fun y hy'=>T.iy y (List.mem_of_mem_take hy')⟩
 have l9:(X.drop k)[X.length - k - 1]?=some x9:=by rw [List.getElem?_drop,<- hx9];congr 1;omega
 have t0:(Y.take j)[0]?=some y0:=by rw [List.getElem?_take_of_lt (by omega),hy0]
 have z1:((arrOf st).extract (P.length+k) (P.length+X.length)).size=X.length - k:=by rw [<- Array.length_toList,ex,List.length_drop]
 have z2:((arrOf st).extract (P.length+X.length) (P.length+X.length+j)).size=j:=by rw [<- Array.length_toList,ey,List.length_take];omega
 have fin:∀ {f:Array Keyed->Keyed × Nat->Array Keyed} (m:Array Keyed) (g:Nat),(∀ a p q,f a (p,q)=a.setIfInBounds (P.length+k+q) p)->qg rk (X.drop k) (Y.take j) m.toList->Q true (SortSt.mk' (kindOf st) (m.toList.zipIdx.foldl f (arrOf st)) (((pendingOf st).setIfInBounds i (P.length,X.length+Y.length,pw)).eraseIdxIfInBounds (i+1)) g (failedOf st)):=fun {f} m g hff hm=>by
  refine h _ g _ (qg.join T hm k2' j3) ?_
  rw [y9 hff m.toList 0 (arrOf st) (P ++ X.take k) (X.drop k ++ Y.take j) (Y.drop j ++ R) ?_ ?_ hm.1.length_eq.symm]
  ·simp only [List.append_assoc]
  ·rw [e,List.append_assoc,List.append_assoc,<- List.append_assoc (Y.take j),List.take_append_drop,<- List.append_assoc (X.take k),List.take_append_drop]
  ·rw [List.length_append,List.length_take];omega
 refine zE (fun _=>?_) fun _=>?_
 ·refine wpS_bind (vJ (rk:=rk) (xs:=(arrOf st).extract (P.length+k) (P.length+X.length)) (ys:=(arrOf st).extract (P.length+X.length) (P.length+X.length+j)) hk (by rw [ex,ey];exact T') (by rw [z1];omega) (by rw [z2];omega) (by rw [ex,ey];intro x y a1 a2;rw [t0] at a2;cases a2;exact k4 x (List.mem_of_getElem? a1)) (by rw [ex,ey,z1];intro x a1;rw [l9] at a1;cases a1;exact j2) fun m g hm=>?_)
  rw [ex,ey] at hm
  refine wpS_bind (wpS_modify (wpS_bind (wpS_get ?_)))
  show wpS _ _ _ _ (pure (failedOf st).isNone) _ _
  rw [show (failedOf st).isNone=true by rw [hf];rfl]
  exact wpS_pure (fin m g (fun _ _ _=>rfl) hm)
 ·refine wpS_bind (vx (rk:=rk) (xs:=(arrOf st).extract (P.length+k) (P.length+X.length)) (ys:=(arrOf st).extract (P.length+X.length) (P.length+X.length+j)) hk (by rw [ex,ey];exact T') (by rw [z1];omega) (by rw [z2];omega) (by rw [ex,ey];intro y a2;rw [t0] at a2;cases a2;exact k4) (by rw [ex,ey,z1];intro x a1;rw [l9] at a1;cases a1;exact j2) fun m g hm=>?_)
  rw [ex,ey] at hm
  refine wpS_bind (wpS_modify (wpS_bind (wpS_get ?_)))
  show wpS _ _ _ _ (pure (failedOf st).isNone) _ _
  rw [show (failedOf st).isNone=true by rw [hf];rfl]
  exact wpS_pure (fin m g (fun _ _ _=>rfl) hm)
end
end L2
namespace L2
open PySem PyProof.Rows
noncomputable def Pnd:Nat->List (Nat × Nat × Nat)->List (List Keyed)->Prop
 | _,[],[]=>True
 | o,p :: ps,r :: rs=>p.1=o/\p.2.1=r.length/\Pnd (o+r.length) ps rs
 | _,_,_=>False
theorem Pnd.len:∀ {o ps rs},Pnd o ps rs->ps.length=rs.length
 | _,[],[],_=>rfl
 | _,_ :: ps,_ :: rs,h=>congrArg (·+1) (Pnd.len h.2.2)
 | _,[],_ :: _,h=>h.elim
 | _,_ :: _,[],h=>h.elim
theorem Pnd.snoc:∀ {o ps rs} {r:List Keyed} {pw:Nat},Pnd o ps rs->Pnd o (ps ++ [(o+rs.flatten.length,r.length,pw)]) (rs ++ [r])
 | _,[],[],_,_,_=>⟨rfl,rfl,trivial⟩
 | o,p :: ps,q :: rs,r,pw,h=>by
  refine ⟨h.1,h.2.1,?_⟩
  have:=Pnd.snoc (r:=r) (pw:=pw) h.2.2
  rw [List.flatten_cons,List.length_append,<- Nat.add_assoc];exact this
 | _,[],_ :: _,_,_,h=>h.elim
 | _,_ :: _,[],_,_,h=>h.elim
theorem Pnd.at : ∀ {o ps rs} (i : Nat) {X Y : List Keyed}, Pnd o ps rs -> rs[i]? = some X -> rs[i + 1]? = some Y -> ∃ pw pw', ps[i]? = some (o + (rs.take i).flatten.length, X.length, pw) /\ ps[i + 1]? = some (o + (rs.take i).flatten.length + X.length, Y.length, pw') /\
      ∀ Z:List Keyed,Z.length=X.length+Y.length->Pnd o ((ps.set i (o+(rs.take i).flatten.length,X.length+Y.length,pw)).eraseIdx (i+1)) (rs.take i ++ Z :: rs.drop (i+2))
  | o,p :: p' :: ps,x :: y :: rs,0,X,Y,h,hx,hy=>by
    cases hx;cases hy
    obtain ⟨h1,h2,h3,h4,h5⟩:=h
    obtain ⟨a,b,c⟩:=p
    obtain ⟨a',b',c'⟩:=p'
    simp only at h1 h2 h3 h4
    subst h1 h2 h3 h4
    refine ⟨c,c',rfl,rfl,fun Z hZ=>⟨rfl,hZ.symm,?_⟩⟩
    show Pnd (a+Z.length) ps rs
    rw [hZ,<- Nat.add_assoc];exact h5
  | o,p :: ps,x :: rs,i+1,X,Y,h,hx,hy=>by
    obtain ⟨pw,pw',e1,e2,e3⟩:=Pnd.at (o:=o+x.length) i (X:=X) (Y:=Y) h.2.2 hx hy
    have e:o+x.length+(rs.take i).flatten.length=o+((x :: rs).take (i+1)).flatten.length:=by
      rw [List.take_succ_cons,List.flatten_cons,List.length_append,Nat.add_assoc]
    rw [e] at e1 e2
    refine ⟨pw,pw',e1,e2,fun Z hZ=>?_⟩
    have:=e3 Z hZ
    rw [e] at this
    exact ⟨h.1,h.2.1,this⟩
  | _,[],[],_,_,_,_,hx,_=>by simp at hx
  | _,[],_ :: _,_,_,_,h,_,_=>h.elim
  | _,_ :: _,[],_,_,_,h,_,_=>h.elim
  | _,[_],[_],0,_,_,_,_,hy=>by simp at hy
  | _,[_],_ :: _ :: _,0,_,_,h,_,_=>h.2.2.elim
  | _,_ :: _ :: _,[_],0,_,_,h,_,_=>h.2.2.elim
theorem Pnd.mod {f:Nat × Nat × Nat->Nat × Nat × Nat}(hf:∀ p,(f p).1=p.1/\(f p).2.1=p.2.1):∀ {o ps rs} (i:Nat),Pnd o ps rs->Pnd o (ps.modify i f) rs
 | _,[],[],i,_=>by rw [List.modify_nil];trivial
 | _,p :: ps,r :: rs,0,h=>⟨(hf p).1.trans h.1,(hf p).2.trans h.2.1,h.2.2⟩
 | _,p :: ps,r :: rs,i+1,h=>⟨h.1,h.2.1,Pnd.mod hf i h.2.2⟩
 | _,[],_ :: _,_,h=>h.elim
 | _,_ :: _,[],_,h=>h.elim
section
variable {prog:Program}{w:World}{A:Around}{E:Value->Shared->Prop}{s:Shared}{a₀:Array Keyed}{rk:Keyed->Int}
structure Rns (rk:Keyed->Int)(a₀:Array Keyed)(rs:List (List Keyed))(zm:List Keyed)(st:SortSt):Prop where
 b:SoB a₀ st
 e:(arrOf st).toList=rs.flatten ++ zm
 ne:∀ r ∈ rs,0<r.length
 so:∀ r ∈ rs,r.Pairwise (LEr rk)
 bel:rs.Pairwise fun X Y=>∀ x ∈ X,∀ y ∈ Y,rk x<=rk y
 be:∀ x ∈ rs.flatten,∀ y ∈ zm,rk x<=rk y
 pn:Pnd 0 (pendingOf st).toList rs
theorem VA {rs:List (List Keyed)}{i:Nat}(h:i+1<rs.length):rs=rs.take i ++ rs[i] :: rs[i+1] :: rs.drop (i+2):=by
 rw [List.getElem_cons_drop,List.getElem_cons_drop,List.take_append_drop]
theorem Rns.merge {rs:List (List Keyed)}{zm:List Keyed}{st:SortSt}{i:Nat}{Q:Bool->SortSt->Prop}(h0:vD a₀)(J:Rns rk a₀ rs zm st)(hi:i+1<rs.length)(h:∀ rs' st',rs'.length+1=rs.length->rs'.flatten.length=rs.flatten.length->Rns rk a₀ rs' zm st'->Q true st'):wpS (model prog w) A E s (mergeAt' i) Q st:=by
 have sp:=VA hi
 have hx:rs[i]?=some rs[i]:=List.getElem?_eq_getElem _
 have hy:rs[i+1]?=some rs[i+1]:=List.getElem?_eq_getElem _
 have mx:rs[i] ∈ rs:=List.getElem_mem _
 have my:rs[i+1] ∈ rs:=List.getElem_mem _
 obtain ⟨pw,pw',p1,p2,p3⟩:=Pnd.at i J.pn hx hy
 have fl:rs.flatten=(rs.take i).flatten ++ (rs[i] ++ (rs[i+1] ++ (rs.drop (i+2)).flatten)):=by
  conv=>lhs;rw [sp]
  rw [List.flatten_append,List.flatten_cons,List.flatten_cons]
 have bl:=J.bel
 rw [sp] at bl
 obtain ⟨b1,b2,b3⟩:=List.pairwise_append.mp bl
 obtain ⟨b4,b5⟩:=List.pairwise_cons.mp b2
 obtain ⟨b6,b7⟩:=List.pairwise_cons.mp b5
 generalize rs[i]=X at *
 generalize rs[i+1]=Y at *
 refine v5 (rk:=rk) (P:=(rs.take i).flatten) (X:=X) (Y:=Y) (R:=(rs.drop (i+2)).flatten ++ zm) (pw:=pw) (pw':=pw') J.b.kind J.b.failed (J.b.ints h0) ?_ ⟨J.so _ mx,J.so _ my,b4 _ (List.mem_cons_self ..),?_,?_⟩ (J.ne _ mx) (J.ne _ my) ?_ ?_ fun m g xs hm hxs=>?_
 ·rw [J.e,fl];simp only [List.append_assoc]
 ·exact fun x hx'=>J.b.ints h0 x (by rw [J.e];exact List.mem_append_left _ (List.mem_flatten.mpr ⟨X,mx,hx'⟩))
 ·exact fun x hx'=>J.b.ints h0 x (by rw [J.e];exact List.mem_append_left _ (List.mem_flatten.mpr ⟨Y,my,hx'⟩))
 ·rw [<- Array.getElem?_toList,p1,Nat.zero_add]
 ·rw [<- Array.getElem?_toList,p2,Nat.zero_add]
 ·have ml:m.length=X.length+Y.length:=by rw [hm.1.length_eq,List.length_append]
  have mm:∀ x ∈ m,x ∈ X \/ x ∈ Y:=fun x hx'=>List.mem_append.mp (hm.1.mem_iff.mp hx')
  have fl':(rs.take i ++ m :: rs.drop (i+2)).flatten=(rs.take i).flatten ++ (m ++ (rs.drop (i+2)).flatten):=by rw [List.flatten_append,List.flatten_cons]
  have pf:(rs.take i ++ m :: rs.drop (i+2)).flatten.Perm rs.flatten:=by
   rw [fl,fl',<- List.append_assoc X]
   exact List.Perm.append_left _ (hm.1.append_right _)
  have inr:∀ r ∈ rs.take i ++ m :: rs.drop (i+2),r=m \/ r ∈ rs:=fun r hr=>by
   rcases List.mem_append.mp hr with hr | hr
   ·exact .inr (List.mem_of_mem_take hr)
   ·rcases List.mem_cons.mp hr with hr | hr
    ·exact .inl hr
    ·exact .inr (List.mem_of_mem_drop hr)
  refine h (rs.take i ++ m :: rs.drop (i+2)) _ ?_ pf.length_eq ⟨⟨?_,J.b.kind,J.b.failed⟩,?_,fun r hr=>?_,fun r hr=>?_,?_,fun x hx' y hy'=>J.be x (pf.mem_iff.mp hx') y hy',?_⟩
  ·rw [List.length_append,List.length_cons,List.length_take,List.length_drop];omega
  ·refine Array.perm_iff_toList_perm.mpr (List.Perm.trans ?_ (Array.perm_iff_toList_perm.mp J.b.perm))
   show xs.toList.Perm _
   rw [hxs,J.e,fl]
   simp only [List.append_assoc]
   rw [<- List.append_assoc X]
   exact List.Perm.append_left _ (hm.1.append_right _)
  ·show xs.toList=_
   rw [hxs,fl'];simp only [List.append_assoc]
  ·rcases inr r hr with rfl | hr
   ·rw [ml];have:=J.ne _ mx;omega
   ·exact J.ne r hr
  ·rcases inr r hr with rfl | hr
   ·exact hm.2
   ·exact J.so r hr
  ·refine List.pairwise_append.mpr ⟨b1,List.pairwise_cons.mpr ⟨fun r hr x hx' y hy'=>?_,b7⟩,fun r hr r' hr' x hx' y hy'=>?_⟩
   ·rcases mm x hx' with hx' | hx'
    ·exact b4 r (List.mem_cons_of_mem _ hr) x hx' y hy'
    ·exact b6 r hr x hx' y hy'
   ·rcases List.mem_cons.mp hr' with rfl | hr'
    ·rcases mm y hy' with hy' | hy'
     ·exact b3 r hr X (List.mem_cons_self ..) x hx' y hy'
     ·exact b3 r hr Y (List.mem_cons_of_mem _ (List.mem_cons_self ..)) x hx' y hy'
    ·exact b3 r hr r' (List.mem_cons_of_mem _ (List.mem_cons_of_mem _ hr')) x hx' y hy'
  ·have:=p3 m ml
   rw [Nat.zero_add] at this
   show Pnd 0 (((pendingOf st).setIfInBounds i _).eraseIdxIfInBounds (i+1)).toList _
   rw [Array.toList_eraseIdxIfInBounds,Array.toList_setIfInBounds]
   exact this
end
end L2
namespace L2
open PySem PyProof.Rows
section
variable {prog:Program}{w:World}{A:Around}{E:Value->Shared->Prop}{s:Shared}{a₀:Array Keyed}{rk:Keyed->Int}
theorem xI {xs:Array Keyed}{i:Nat}{x:Keyed}(h:xs.toList[i]?=some x):gK xs i=x:=by
 unfold gK
 rw [<- Array.getElem?_toList,h];rfl
theorem Yi {l:List Keyed}{R:Keyed->Keyed->Prop}(h:∀ (i j:Nat) (x y:Keyed),i<j->l[i]?=some x->l[j]?=some y->R x y):l.Pairwise R:=by
 rw [List.pairwise_iff_getElem]
 intro i j hi hj hij
 exact h i j _ _ hij (List.getElem?_eq_getElem hi) (List.getElem?_eq_getElem hj)
theorem Rns.run {rs:List (List Keyed)}{zm:List Keyed}{st:SortSt}(J:Rns rk a₀ rs zm st){xs:Array Keyed}{n:Nat}(hn:1<=n)(hn2:n<=zm.length)(g:Sg (arrOf st) xs rs.flatten.length (rs.flatten.length+n))(hs:Srt rk xs rs.flatten.length (rs.flatten.length+n)) :
  ∃ r,r.length=n/\r.Pairwise (LEr rk)/\r.Perm (zm.take n)/\xs.toList=rs.flatten ++ (r ++ zm.drop n):=by
 have ln:(arrOf st).toList.length=rs.flatten.length+zm.length:=by rw [J.e,List.length_append]
 have lx:xs.toList.length=rs.flatten.length+zm.length:=by rw [Array.length_toList,g.size,<- Array.length_toList,ln]
 have out:∀ i,i<rs.flatten.length \/ rs.flatten.length+n<=i->xs.toList[i]?=(arrOf st).toList[i]?:=fun i c=>by rw [Array.getElem?_toList,Array.getElem?_toList];exact g.out i c
 have e:xs.toList=rs.flatten ++ ((xs.toList.drop rs.flatten.length).take n ++ zm.drop n):=by
  refine List.ext_getElem? fun i=>?_
  by_cases c1:i<rs.flatten.length
  ·rw [out i (.inl c1),J.e,List.getElem?_append_left c1,List.getElem?_append_left c1]
  ·rw [List.getElem?_append_right (by omega)]
   by_cases c2:i<rs.flatten.length+n
   ·rw [List.getElem?_append_left (by rw [List.length_take,List.length_drop];omega),List.getElem?_take_of_lt (by omega),List.getElem?_drop];congr 1;omega
   ·rw [out i (.inr (by omega)),J.e,List.getElem?_append_right (by omega),List.getElem?_append_right (by rw [List.length_take,List.length_drop];omega),List.getElem?_drop,List.length_take,List.length_drop];congr 1;omega
 refine ⟨(xs.toList.drop rs.flatten.length).take n,by rw [List.length_take,List.length_drop];omega,Yi fun i j x y hij hx hy=>?_,?_,e⟩
 ·have hj:j<n:=by have:=(List.getElem?_eq_some_iff.mp hy).1;rw [List.length_take] at this;omega
  rw [List.getElem?_take_of_lt (by omega),List.getElem?_drop] at hx hy
  have:=hs (rs.flatten.length+i) (rs.flatten.length+j) (by omega) (by omega) (by omega)
  rwa [xI hx,xI hy] at this
 ·have p:=Array.perm_iff_toList_perm.mp g.perm
  rw [e,J.e] at p
  have p:=(List.perm_append_left_iff _).mp p
  have p2:((xs.toList.drop rs.flatten.length).take n ++ zm.drop n).Perm (zm.take n ++ zm.drop n):=by rw [List.take_append_drop];exact p
  exact (List.perm_append_right_iff _).mp p2
theorem Rns.asc {rs:List (List Keyed)}{zm:List Keyed}{st:SortSt}(J:Rns rk a₀ rs zm st)(re:zm.Pairwise fun x y=>rk x<=rk y):Asc rk (arrOf st) rs.flatten.length:=fun i j h1 h2 h3=>by
 have ln:(arrOf st).toList.length=rs.flatten.length+zm.length:=by rw [J.e,List.length_append]
 rw [Array.length_toList] at ln
 have g:∀ k,rs.flatten.length<=k->k<(arrOf st).size->∃ x,zm[k - rs.flatten.length]?=some x/\gK (arrOf st) k=x:=fun k k1 k2=>by
  refine ⟨_,List.getElem?_eq_getElem (by omega),xI ?_⟩
  rw [J.e,List.getElem?_append_right k1,List.getElem?_eq_getElem]
 obtain ⟨x,x1,x2⟩:=g i h1 (by omega)
 obtain ⟨y,y1,y2⟩:=g j (by omega) h3
 rw [x2,y2]
 by_cases c:i=j
 ·subst c;rw [x1] at y1;cases y1;exact Int.le_refl _
 ·obtain ⟨a1,a2⟩:=List.getElem?_eq_some_iff.mp x1
  obtain ⟨b1,b2⟩:=List.getElem?_eq_some_iff.mp y1
  have:=List.pairwise_iff_getElem.mp re _ _ a1 b1 (by omega)
  rwa [a2,b2] at this
theorem Rns.size {rs:List (List Keyed)}{zm:List Keyed}{st:SortSt}(J:Rns rk a₀ rs zm st):rs.flatten.length+zm.length=a₀.size:=by
 rw [<- J.b.size,<- Array.length_toList,J.e,List.length_append]
theorem Rns.psize {rs:List (List Keyed)}{zm:List Keyed}{st:SortSt}(J:Rns rk a₀ rs zm st):(pendingOf st).size=rs.length:=by
 rw [<- Array.length_toList,J.pn.len]
theorem Rns.with {rs:List (List Keyed)}{zm r:List Keyed}{st:SortSt}{xs:Array Keyed}{n:Nat}(J:Rns rk a₀ rs zm st)(hp:r.Perm (zm.take n))(e:xs.toList=rs.flatten ++ (r ++ zm.drop n)):Rns rk a₀ rs (r ++ zm.drop n) (setArr st xs):=by
 have pr:(r ++ zm.drop n).Perm zm:=by
  refine (hp.append_right _).trans ?_
  rw [List.take_append_drop]
 refine ⟨⟨?_,J.b.kind,J.b.failed⟩,e,J.ne,J.so,J.bel,fun x hx y hy=>J.be x hx y (pr.mem_iff.mp hy),J.pn⟩
 refine Array.perm_iff_toList_perm.mpr (List.Perm.trans ?_ (Array.perm_iff_toList_perm.mp J.b.perm))
 show xs.toList.Perm _
 rw [e,J.e]
 exact List.Perm.append_left _ pr
theorem Rns.push {rs:List (List Keyed)}{zm r:List Keyed}{st:SortSt}(J:Rns rk a₀ rs (r ++ zm) st)(h1:0<r.length)(h2:r.Pairwise (LEr rk))(h3:∀ x ∈ r,∀ y ∈ zm,rk x<=rk y):Rns rk a₀ (rs ++ [r]) zm (setPending st ((pendingOf st).push (rs.flatten.length,r.length,0))):=by
 have fl:(rs ++ [r]).flatten=rs.flatten ++ r:=by rw [List.flatten_append,List.flatten_cons,List.flatten_nil,List.append_nil]
 refine ⟨⟨J.b.perm,J.b.kind,J.b.failed⟩,by rw [fl,List.append_assoc];exact J.e,fun q hq=>?_,fun q hq=>?_,List.pairwise_append.mpr ⟨J.bel,List.pairwise_singleton _ _,fun q hq q' hq' x hx y hy=>?_⟩,fun x hx y hy=>?_,?_⟩
 ·rcases List.mem_append.mp hq with hq | hq
  ·exact J.ne q hq
  ·rw [List.mem_singleton.mp hq];exact h1
 ·rcases List.mem_append.mp hq with hq | hq
  ·exact J.so q hq
  ·rw [List.mem_singleton.mp hq];exact h2
 ·rw [List.mem_singleton.mp hq'] at hy
  exact J.be x (List.mem_flatten.mpr ⟨q,hq,hx⟩) y (List.mem_append_left _ hy)
 ·rw [fl] at hx
  rcases List.mem_append.mp hx with hx | hx
  ·exact J.be x hx y (List.mem_append_right _ hy)
  ·exact h3 x hx y hy
 ·show Pnd 0 ((pendingOf st).push _).toList _
  rw [Array.toList_push]
  have:=J.pn.snoc (r:=r) (pw:=0)
  rwa [Nat.zero_add] at this
theorem Rns.power {rs:List (List Keyed)}{zm:List Keyed}{st:SortSt}{f:Nat × Nat × Nat->Nat × Nat × Nat}{i:Nat}(hf:∀ p,(f p).1=p.1/\(f p).2.1=p.2.1)(J:Rns rk a₀ rs zm st):Rns rk a₀ rs zm (setPending st ((pendingOf st).modify i f)):=
 ⟨⟨J.b.perm,J.b.kind,J.b.failed⟩,J.e,J.ne,J.so,J.bel,J.be,by
  show Pnd 0 ((pendingOf st).modify i f).toList rs
  rw [Array.toList_modify];exact J.pn.mod hf i⟩
theorem Rns.end {rs:List (List Keyed)}{st:SortSt}(J:Rns rk a₀ rs [] st)(h:rs.length<=1):(arrOf st).toList.Pairwise (LEr rk):=by
 rw [J.e,List.append_nil]
 match rs,h,J with
 | [],_,_=>exact List.Pairwise.nil
 | [r],_,J=>rw [List.flatten_cons,List.flatten_nil,List.append_nil];exact J.so r (List.mem_singleton.mpr rfl)
theorem Qp:∀ {rs:List (List Keyed)},(∀ r ∈ rs,0<r.length)->rs.length<=rs.flatten.length
 | [],_=>Nat.le_refl _
 | r :: rs,h=>by
  have:=Qp (rs:=rs) fun q hq=>h q (List.mem_cons_of_mem _ hq)
  have:=h r (List.mem_cons_self ..)
  rw [List.flatten_cons,List.length_append,List.length_cons];omega
end
end L2
namespace L2
open PySem PyProof.Rows
section
variable {prog:Program}{w:World}{A:Around}{E:Value->Shared->Prop}{s:Shared}{a₀:Array Keyed}{rk:Keyed->Int}
theorem K7 {c:Prop}[Decidable c]{n:Nat}:(if c then n - 1 else n)<=n:=by split <;> omega
theorem j7 {st:SortSt}{Q:Unit->SortSt->Prop}(h0:vD a₀)(hB:SoB a₀ st)(hp:pendingOf st=#[])(hr:(arrOf st).toList.Pairwise fun x y=>rk x<=rk y)(h:∀ st',SoB a₀ st'->(arrOf st').toList.Pairwise (LEr rk)->Q () st'):wpS (model prog w) A E s sortRuns' Q st:=by
 rw [sortRuns'_eq]
 refine wpS_bind (wpS_get ?_)
 dsimp only
 have J0:Rns rk a₀ [] (arrOf st).toList st:=⟨hB,rfl,fun r hr=>(nomatch hr),fun r hr=>(nomatch hr),List.Pairwise.nil,fun x hx=>(nomatch hx),by rw [hp];trivial⟩
 have sz:=hB.size
 rw [sz]
 refine wpS_bind (wpS_mono (wpS_forRange (I:=fun t c st'=>∃ rs zm,c=(none,rs.flatten.length)/\Rns rk a₀ rs zm st'/\zm.Pairwise (fun x y=>rk x<=rk y)/\(t<=rs.flatten.length \/ zm=[]))
  (Q:=fun c st'=>∃ rs,c=(none,rs.flatten.length)/\Rns rk a₀ rs [] st') ?_ ?_ ⟨[],_,rfl,J0,hr,.inl (Nat.zero_le _)⟩) ?_)
 ·rintro t c st' _ ht ⟨rs,zm,rfl,J,re,hc⟩
  have js:=J.size
  dsimp only
  by_cases c1:rs.flatten.length ≥ a₀.size
  ·rw [if_pos c1]
   have:zm=[]:=List.length_eq_zero_iff.mp (by omega)
   subst this
   exact wpS_pure ⟨rs,rfl,J⟩
  rw [if_neg c1]
  refine wpS_bind (Js (rk:=rk) h0 J.b (by omega) (by omega) (J.asc re) fun m xs m1 m2 g hs=>?_)
  dsimp only
  refine zE (fun c2=>?_) fun c2=>?_
  ·refine wpS_bind (qI ?_)
   generalize hN:min (a₀.size - rs.flatten.length) (minRun' a₀.size a₀.size 0)=n
   have hn1:1<=n:=by omega
   have hn2:n<=zm.length:=by omega
   have A1:=J.asc re
   have xz:xs.size=a₀.size:=g.size.trans J.b.size
   refine wpS_bind (Z3 (rk:=rk) h0 (J.b.set g.perm) (by omega) m1 (by omega) (fun i j i1 i2 i3 i4=>?_) hs fun ys g2 hs2=>?_)
   ·show rk (gK xs i)<=rk (gK xs j)
    by_cases c3:i<rs.flatten.length+m
    ·exact g.rkk A1 i1 c3 i3 (by rw [J.b.size];exact i4)
    ·rw [qR (g.out i (.inr (by omega))),qR (g.out j (.inr (by omega)))]
     exact A1 i j i1 (by omega) (by rw [J.b.size];exact i4)
   have g:=(g.mono (Nat.le_refl _) (show rs.flatten.length+m<=rs.flatten.length+n by omega)).trans g2
   clear hs g2
   have hs:=hs2
   show wpS _ _ _ _ _ _ (setArr st' ys)
   rw [if_neg (by decide)]
   generalize ys=xs at *
   obtain ⟨r,r1,r2,r3,r4⟩:=J.run hn1 hn2 g hs
   have J1:=J.with r3 r4
   have r5:∀ x ∈ r,∀ y ∈ zm.drop n,rk x<=rk y:=fun x hx y hy=>by
    have:=re
    rw [<- List.take_append_drop n zm] at this
    exact (List.pairwise_append.mp this).2.2 x (r3.mem_iff.mp hx) y hy
   have re':(zm.drop n).Pairwise fun x y=>rk x<=rk y:=re.sublist (List.drop_sublist _ _)
   have fin:∀ rs' st2,Rns rk a₀ rs' (r ++ zm.drop n) st2->rs'.flatten.length=rs.flatten.length->∃ rs2 rest2,((none,rs.flatten.length+n):Option Unit × Nat)=(none,rs2.flatten.length)/\Rns rk a₀ rs2 rest2 (setPending st2 ((pendingOf st2).push (rs.flatten.length,n,0)))/\rest2.Pairwise (fun x y=>rk x<=rk y)/\(t+1<=rs2.flatten.length \/ rest2=[]):=fun rs' st2 J' hl=>by
    have J2:=J'.push (by omega) r2 r5
    rw [hl,r1] at J2
    have fl:(rs' ++ [r]).flatten.length=rs.flatten.length+n:=by rw [List.flatten_append,List.flatten_cons,List.flatten_nil,List.append_nil,List.length_append,hl,r1]
    refine ⟨rs' ++ [r],zm.drop n,by rw [fl],J2,re',?_⟩
    rw [fl]
    rcases hc with hc | hc
    ·exact .inl (by omega)
    ·rw [hc,List.length_nil] at hn2;omega
   refine wpS_bind (wpS_get ?_)
   cases hb:(pendingOf (setArr st' xs)).back? with
   | none=>exact wpS_bind (wpS_modify (wpS_pure (fin rs _ J1 rfl)))
   | some p=>
    obtain ⟨s1,n1,p1⟩:=p
    dsimp only
    refine wpS_bind (wpS_mono (wpS_forRange (I:=fun _ c st2=>c=(none,())/\∃ rs',Rns rk a₀ rs' (r ++ zm.drop n) st2/\rs'.flatten.length=rs.flatten.length) (Q:=fun c st2=>c=(none,())/\∃ rs',Rns rk a₀ rs' (r ++ zm.drop n) st2/\rs'.flatten.length=rs.flatten.length) ?_ (fun _ _ hh=>hh) ⟨rfl,rs,J1,rfl⟩) ?_)
    ·rintro u c st2 _ _ ⟨rfl,rs',J',hl⟩
     refine wpS_bind (wpS_get ?_)
     have ps:=J'.psize
     by_cases c5:(pendingOf st2).size > 1
     ·rw [if_pos c5]
      cases hq:(pendingOf st2)[(pendingOf st2).size - 2]? with
      | none=>exact wpS_pure ⟨rfl,rs',J',hl⟩
      | some q=>
       dsimp only
       refine zE (fun _=>wpS_pure ⟨rfl,rs',J',hl⟩) fun _=>?_
       refine wpS_bind (J'.merge h0 (by omega) fun rs2 st3 l2 f2 J2=>?_)
       rw [if_neg (by decide)]
       exact wpS_pure ⟨rfl,rs2,J2,by omega⟩
     ·rw [if_neg c5]
      exact wpS_pure ⟨rfl,rs',J',hl⟩
    ·rintro c st2 ⟨rfl,rs',J',hl⟩
     dsimp only
     refine wpS_bind (wpS_modify (wpS_bind (wpS_modify (wpS_pure ?_))))
     exact fin rs' _ (J'.power (fun _=>⟨rfl,rfl⟩)) hl
  ·have hn1:=m1
   have hn2:m<=zm.length:=by omega
   generalize m=n at *
   obtain ⟨r,r1,r2,r3,r4⟩:=J.run hn1 hn2 g hs
   have J1:=J.with r3 r4
   have r5:∀ x ∈ r,∀ y ∈ zm.drop n,rk x<=rk y:=fun x hx y hy=>by
    have:=re
    rw [<- List.take_append_drop n zm] at this
    exact (List.pairwise_append.mp this).2.2 x (r3.mem_iff.mp hx) y hy
   have re':(zm.drop n).Pairwise fun x y=>rk x<=rk y:=re.sublist (List.drop_sublist _ _)
   have fin:∀ rs' st2,Rns rk a₀ rs' (r ++ zm.drop n) st2->rs'.flatten.length=rs.flatten.length->∃ rs2 rest2,((none,rs.flatten.length+n):Option Unit × Nat)=(none,rs2.flatten.length)/\Rns rk a₀ rs2 rest2 (setPending st2 ((pendingOf st2).push (rs.flatten.length,n,0)))/\rest2.Pairwise (fun x y=>rk x<=rk y)/\(t+1<=rs2.flatten.length \/ rest2=[]):=fun rs' st2 J' hl=>by
    have J2:=J'.push (by omega) r2 r5
    rw [hl,r1] at J2
    have fl:(rs' ++ [r]).flatten.length=rs.flatten.length+n:=by rw [List.flatten_append,List.flatten_cons,List.flatten_nil,List.append_nil,List.length_append,hl,r1]
    refine ⟨rs' ++ [r],zm.drop n,by rw [fl],J2,re',?_⟩
    rw [fl]
    rcases hc with hc | hc
    ·exact .inl (by omega)
    ·rw [hc,List.length_nil] at hn2;omega
   refine wpS_bind (wpS_get ?_)
   cases hb:(pendingOf (setArr st' xs)).back? with
   | none=>exact wpS_bind (wpS_modify (wpS_pure (fin rs _ J1 rfl)))
   | some p=>
    obtain ⟨s1,n1,p1⟩:=p
    dsimp only
    refine wpS_bind (wpS_mono (wpS_forRange (I:=fun _ c st2=>c=(none,())/\∃ rs',Rns rk a₀ rs' (r ++ zm.drop n) st2/\rs'.flatten.length=rs.flatten.length) (Q:=fun c st2=>c=(none,())/\∃ rs',Rns rk a₀ rs' (r ++ zm.drop n) st2/\rs'.flatten.length=rs.flatten.length) ?_ (fun _ _ hh=>hh) ⟨rfl,rs,J1,rfl⟩) ?_)
    ·rintro u c st2 _ _ ⟨rfl,rs',J',hl⟩
     refine wpS_bind (wpS_get ?_)
     have ps:=J'.psize
     by_cases c5:(pendingOf st2).size > 1
     ·rw [if_pos c5]
      cases hq:(pendingOf st2)[(pendingOf st2).size - 2]? with
      | none=>exact wpS_pure ⟨rfl,rs',J',hl⟩
      | some q=>
       dsimp only
       refine zE (fun _=>wpS_pure ⟨rfl,rs',J',hl⟩) fun _=>?_
       refine wpS_bind (J'.merge h0 (by omega) fun rs2 st3 l2 f2 J2=>?_)
       rw [if_neg (by decide)]
       exact wpS_pure ⟨rfl,rs2,J2,by omega⟩
     ·rw [if_neg c5]
      exact wpS_pure ⟨rfl,rs',J',hl⟩
    ·rintro c st2 ⟨rfl,rs',J',hl⟩
     dsimp only
     refine wpS_bind (wpS_modify (wpS_bind (wpS_modify (wpS_pure ?_))))
     exact fin rs' _ (J'.power (fun _=>⟨rfl,rfl⟩)) hl
 ·rintro c st' ⟨rs,zm,rfl,J,re,hc⟩
  have js:=J.size
  rw [Nat.max_eq_right (Nat.zero_le _)] at hc
  have:zm=[]:=by
   rcases hc with hc | hc
   ·exact List.length_eq_zero_iff.mp (by omega)
   ·exact hc
  subst this
  exact ⟨rs,rfl,J⟩
 rintro c st' ⟨rs,rfl,J⟩
 have js:=J.size
 have jl:=Qp J.ne
 rw [List.length_nil] at js
 dsimp only
 refine wpS_bind (wpS_mono (wpS_forRange (I:=fun t c st2=>c=(none,())/\∃ rs',Rns rk a₀ rs' [] st2/\(rs'.length+t<=a₀.size \/ rs'.length<=1)) (Q:=fun c st2=>c=(none,())/\∃ rs',Rns rk a₀ rs' [] st2/\rs'.length<=1) ?_ ?_ ⟨rfl,rs,J,.inl (by omega)⟩) ?_)
 ·rintro t c st2 _ ht ⟨rfl,rs',J',hl⟩
  refine wpS_bind (wpS_get ?_)
  have ps:=J'.psize
  by_cases c1:(pendingOf st2).size<=1
  ·rw [if_pos c1];exact wpS_pure ⟨rfl,rs',J',by omega⟩
  rw [if_neg c1]
  refine wpS_bind (J'.merge h0 ?_ fun rs2 st3 l2 f2 J2=>?_)
  ·exact Nat.lt_of_le_of_lt (Nat.add_le_add_right K7 1) (by omega)
  ·rw [if_neg (by decide)]
   exact wpS_pure ⟨rfl,rs2,J2,by omega⟩
 ·rintro c st2 ⟨rfl,rs',J',hl⟩
  exact ⟨rfl,rs',J',by omega⟩
 ·rintro c st2 ⟨rfl,rs',J',hl⟩
  exact wpS_pure (h st2 J'.b (J'.end hl))
end
end L2
namespace L2
open PySem PyProof.Rows
section
variable {prog:Program}{w:World}{A:Around}{E:Value->Shared->Prop}{s:Shared}
theorem qA:100000<sizeLine:=by rw [sizeLine_eq];decide
theorem WA {xs:Array Keyed}{n:Nat}{rk:Keyed->Int}(hn:n<=xs.size)(h:xs.toList.Pairwise (LEr rk)):SortedTo xs n:=fun i j hij hj=>by
 have e:∀ k,k<xs.size->K xs k=kn (xs.toList[k]?.getD (.none,.none)):=fun k hk=>by
  unfold K kn
  rw [Array.getElem?_toList,Array.getElem?_eq_getElem hk];rfl
 rw [e i (by omega),e j (by omega)]
 exact xx h hij (by rw [Array.length_toList];omega)
theorem vj {a:Addr}{vs:List Value}{ns:List Int}{n:Nat}{P:Fin->Shared->Prop}(ho:s.heap.get? a=some (seqObj "list" vs.toArray n))(hI:IntsAre vs ns)(hz:vs.length<=100000)
  (h:∀ (out:Array Value) (ns':List Int),IntsAre out.toList ns'->ns'.Perm ns->ns'.Pairwise (·<=·)->P (.done (.ret .none)) { s with heap:=sortedHeap s.heap a vs out }):wpAny (model prog w) A (Builtin.«list.sort» ⟨[.ref a],[]⟩) P E s:=by
 by_cases h64:vs.length<64
 ·exact list_sort_tree ho hI h64 h
 have sl:=qA
 obtain ⟨v1,v2,vr,ev⟩:∃ v1 v2 vr,vs=v1 :: v2 :: vr:=by
  match vs,h64 with
  | [],q=>exact absurd (by simp) q
  | [_],q=>exact absurd (by simp) q
  | x :: y :: z,_=>exact ⟨x,y,z,rfl⟩
 have az:a<s.heap.objs.size:=Heap.lt_size ho
 obtain ⟨e1,g1⟩:∃ e1,(s.heap.update a (Obj.mapSeq fun _=>#[])).get? a=some (seqObj "list" #[] e1):=⟨_,get?_update_seq ho fun _=>#[]⟩
 have g3:(((s.heap.update a (Obj.mapSeq fun _=>#[])).push (seqObj "tuple" vs.toArray 0)).push (seqObj "list" #[] 0)).get? a=some (seqObj "list" #[] e1):=by
  refine (Heap.get?_push_ne _ _ _ ?_).trans ((Heap.get?_push_ne _ _ _ ?_).trans g1)
  ·rw [size_push',Heap.size_update];exact Nat.ne_of_lt (Nat.lt_succ_of_lt az)
  ·rw [Heap.size_update];exact Nat.ne_of_lt az
 have vz:vs.toArray.size=vs.length:=List.size_toArray
 rw [list_sort_plain]
 refine wpAny_bind (listItems_at ho rfl (wpAny_bind (listUpdate_at ho rfl (wpAny_bind (seqEpoch_at g1 rfl ?_)) (by omega) (by show 0<=_;omega))))
 refine wpAny_bind (wpAny_newTuple (wpAny_bind (wpAny_newList (wpAny_holding ?_) (by show 0<=_;omega))) (by show vs.length<=_;omega))
 show wpAny (model prog w) A _ P E { s with heap:=((s.heap.update a (Obj.mapSeq fun _=>#[])).push (seqObj "tuple" vs.toArray 0)).push (seqObj "list" #[] 0) }
 dsimp only
 have two:¬ vs.toArray.size<2:=by omega
 rw [if_neg two,if_neg two]
 have kk:keyKind' vs.toArray=pure oneType':=by rw [ev];rw [ev] at hI;exact keyKind_ints hI
 rw [kk]
 refine wpAny_bind (wpAny_pure (wpAny_bind (wpAny_mono (j7 (rk:=fun _=>0) (a₀:=pairsOf vs) (st:=SortSt.mk' oneType' (vs.toArray.zip vs.toArray) #[] 7 none)
  (Q:=fun _ st'=>SoB (pairsOf vs) st'/\(arrOf st').toList.Pairwise (LEr fun _=>0)) hI.intKeys ⟨Array.Perm.refl _,rfl,rfl⟩ rfl (Yi fun _ _ _ _ _ _ _=>Int.le_refl _) fun st' b p=>⟨b,p⟩) ?_ fun _ _ e=>e)))
 rintro ⟨⟨⟩,st'⟩ s' ⟨rfl,hB,hp⟩
 have sz:(arrOf st').size=vs.length:=hB.size.trans (pairsOf_size vs)
 refine wpAny_bind (seqEpoch_at g3 rfl (wpAny_bind (listUpdate_at g3 rfl ?_ (by show 0<=_;omega) (by show ((arrOf st').map _).size<=_;rw [Array.size_map,sz];omega))))
 rw [hB.failed]
 dsimp only
 rw [bne_self_eq_false,if_neg (by decide)]
 obtain ⟨ns',a1,a2,a3⟩:=sorted_out hI hB.perm (WA (by rw [hB.size];exact Nat.le_refl _) hp)
 exact wpAny_pure (h _ ns' a1 a2 a3)
end
section
variable {prog:Program}{w:World}{A:Around}{E:Value->Shared->Prop}{s:Shared}
noncomputable def XZ (h:Heap)(vs:List Value):Heap:=(h.push (seqObj "list" #[] 0)).update h.objs.size (Obj.mapSeq (· ++ vs.toArray))
theorem xh {l:Addr}{vs:List Value}{ns:List Int}{Q:Value->Shared->Prop}(hc:∀ (A':Around) (R:List Value->Shared->Prop),R vs { s with heap:=XZ s.heap vs }->wpAny (model prog w) A' (collect (.ref l)) R E s)(hI:IntsAre vs ns)(hz:vs.length<=100000)
  (h:∀ (out:Array Value) (ns':List Int),IntsAre out.toList ns'->ns'.Perm ns->ns'.Pairwise (·<=·)->Q (.ref (s.heap.objs.size+1)) { s with heap:=sortedAll s.heap vs out }):wpAny (model prog w) A (call (.builtin "sorted") [.ref l]) Q E s:=by
 have sl:=qA
 have gz:(XZ s.heap vs).objs.size=s.heap.objs.size+1:=(Heap.size_update ..).trans (size_push' _ _)
 have at1:((XZ s.heap vs).push (seqObj "list" vs.toArray 0)).get? (s.heap.objs.size+1)=some (seqObj "list" vs.toArray 0):=by rw [<- gz];exact Heap.get?_push_size _ rfl
 refine Calls.call_function_entry kind_sorted plain_sorted entry_sorted (args_sorted1 _) ?_
 unfold Builtin.«sorted»
 refine wpAny_bind (m:=checkCount "sorted" 1 1 _) (wpAny_pure (wpAny_bind (hc _ _ (wpAny_bind (wpAny_newList ?_ (by show vs.length<=_;omega))))))
 show wpAny _ _ _ _ _ { s with heap:=(XZ s.heap vs).push (seqObj "list" vs.toArray 0) }
 rw [gz]
 exact wpAny_bind (wpAny_holding (wpAny_call_entry slot_list_sort ⟨_,at1,rfl⟩ entry_list_sort (vj at1 hI hz fun out ns' a1 a2 a3=>⟨_,rfl,wpAny_pure ⟨_,rfl,h out ns' a1 a2 a3⟩⟩) (args_list_sort _)))
end
section
variable {X:Cx}
theorem yj:qi X (.builtin "sorted") (fun xs H Q=>∃ p ns,xs=[.ref p]/\SqL X.K H p (List.map V.int ns)/\ns.length<=1000/\∀ l ns',H l=none->ns'.Perm ns->ns'.Pairwise (·<=·)->Q (.ref l) (upd H l (.lst (List.map V.int ns')))):=by
 rintro pins s σ H xs us Q I r ⟨p,ns,rfl,hq,h64,q⟩
 obtain ⟨u,rfl,rx⟩:=qB r
 cases rx
 obtain ⟨its,rv,pl,hz⟩:=I.list hq
 have hlen:=rv.length
 rw [List.length_map] at hlen
 have sl:=qA
 refine xh (fun A' R r=>collect_list pl.isList r (by omega)) (jw rv) (by omega) fun out ns' a1 a2 a3=>?_
 obtain ⟨k,he⟩:=sortedAll_at s.heap its out
 refine ⟨.ref (s.heap.objs.size+1),_,I.laid (t':=s.toks) (fun _ _=>sortedAll_old) (Nat.le_succ _) (show zx X.prog X.w _ _ _ (.lst (List.map V.int ns')) from ⟨?_,out.toList,k,qq a1,by simpa [seqObj] using he⟩),rfl,q _ _ (I.hok.fresh (Nat.le_succ _)) a2 a3⟩
 rw [List.length_map,a2.length_eq];omega
theorem xa:qi X (.builtin "sorted") (fun xs H Q=>∃ p ns,xs=[.ref p]/\SqT X.K H p (List.map V.int ns)/\ns.length<=1000/\∀ l ns',H l=none->ns'.Perm ns->ns'.Pairwise (·<=·)->Q (.ref l) (upd H l (.lst (List.map V.int ns')))):=by
 rintro pins s σ H xs us Q I r ⟨p,ns,rfl,hq,h64,q⟩
 obtain ⟨u,rfl,rx⟩:=qB r
 cases rx
 obtain ⟨its,rv,pl,hz⟩:=I.tuple hq
 have hlen:=rv.length
 rw [List.length_map] at hlen
 have sl:=qA
 refine xh (fun A' R r=>vm pl r (by omega)) (jw rv) (by omega) fun out ns' a1 a2 a3=>?_
 obtain ⟨k,he⟩:=sortedAll_at s.heap its out
 refine ⟨.ref (s.heap.objs.size+1),_,I.laid (t':=s.toks) (fun _ _=>sortedAll_old) (Nat.le_succ _) (show zx X.prog X.w _ _ _ (.lst (List.map V.int ns')) from ⟨?_,out.toList,k,qq a1,by simpa [seqObj] using he⟩),rfl,q _ _ (I.hok.fresh (Nat.le_succ _)) a2 a3⟩
 rw [List.length_map,a2.length_eq];omega
end
theorem jt {X:Cx}:qi X (.builtin "sorted") (fun xs H Q=>∃ p ns,xs=[.ref p]/\(SqL X.K H p (List.map V.int ns) \/ SqT X.K H p (List.map V.int ns))/\ns.length<=1000/\∀ l ns',H l=none->ns'.Perm ns->ns'.Pairwise (·<=·)->Q (.ref l) (upd H l (.lst (List.map V.int ns')))):=by
 rintro pins s σ H xs us Q I r ⟨p,ns,e,hq | hq,h64,q⟩
 ·exact yj _ _ _ _ _ _ _ I r ⟨p,ns,e,hq,h64,q⟩
 ·exact xa _ _ _ _ _ _ _ I r ⟨p,ns,e,hq,h64,q⟩
noncomputable def kD:List AV->MH->(List AV->Prop)->Prop:=fun xs M Q=>∃ x ns,xs=[x]/\qm x M=some (List.map (fun i=>AV.d (.int i)) ns)/\ns.length<=1000/\∀ ns',ns'.Perm ns->List.Pairwise (fun x1 x2=>x1<=x2) ns'->Q (List.map (fun i=>AV.d (.int i)) ns')
theorem jH {K:PySem.W.Frag}:Q9 (fun xs H Q=>∃ p ns,xs=[V.ref p]/\(SqL K H p (List.map V.int ns) \/ SqT K H p (List.map V.int ns))/\ns.length<=1000/\∀ (l:Addr) (ns':List Int),H l=none->ns'.Perm ns->List.Pairwise (fun x1 x2=>x1<=x2) ns'->Q (V.ref l) (upd H l (HO.lst (List.map V.int ns')))) kD:=⟨fun w r ⟨x,ns,e,h,hl,q⟩ k=>by
 subst e
 obtain ⟨v,rfl,rv⟩:=qr r
 obtain ⟨a,xs,rfl,h1,r1⟩:=ku w rv h
 rw [jd r1] at h1
 exact ⟨a,ns,rfl,h1.imp SqL.of SqT.of,hl,fun l ns' hp h2 h3=>k _ _ (q ns' h2 h3) (wo ns') l hp⟩⟩
theorem vA {K:PySem.W.Frag}{u:TA}{b:AA}(h:jx u b):zD (tCB (fun xs H Q=>∃ p ns,xs=[V.ref p]/\(SqL K H p (List.map V.int ns) \/ SqT K H p (List.map V.int ns))/\ns.length<=1000/\∀ (l:Addr) (ns':List Int),H l=none->ns'.Perm ns->List.Pairwise (fun x1 x2=>x1<=x2) ns'->Q (V.ref l) (upd H l (HO.lst (List.map V.int ns')))) u) (aFz (fCB kD b)):=xM (xS jH h)
section
variable {X:Cx}
variable {o e:Expr}{es:List Expr}{to:TE}{t:TA}{name:Str}{apos cpos:Pos}{T1 id1 T2 id2:String}{r1 r2:V->List V->Hp->VK->Prop}{K:PySem.W.Frag}
end
end L2
namespace L2
open PySem PySem.Spec PyProof.Rows PySem.W
section
variable {prog:Program}{w:World}{A:Around}{E:Value->Shared->Prop}{s:Shared}
theorem Xy {nm qual kx px:Str}{params:Arguments}{scope:Scope}{p1 p2 p3:Pos}{cl:List (Str × Addr)}{pm ctv uk x:Value}{f c' cell:Addr}{i:Int}{t:Tok}{Q:Value->Shared->Prop}
  (ho:s.heap.get? f=some (kla_obj nm qual params (.Subscript (.Name kx p1) (.Name px p2) p3) scope cl pm c' ctv)) (hcd:s.heap.CodeRec (.ref c') qual) (hroom:A.depth<recursionLimit) (hlim:s.heap.NoLimit)
  (hbind:bindArgs (kla_fn nm qual params (.Subscript (.Name kx p1) (.Name px p2) p3) scope cl pm (.ref c') ctv) ⟨[.int i t],[]⟩=pure [(px,.int i t)])
  (hk:scope.kind=.function) (hco:scope.isCoroutine=false) (hgen:scope.isGenerator=false) (hnc:∀ y ∈ scope.names,y.2 ≠ .cell) (hpx:scope.names.lookup px=some .local) (hkx:scope.names.lookup kx=some .free)
  (hcl:cl.lookup kx=some cell) (hcell:s.heap.IsCell cell (some uk)) (hcx:(kx == ("__classdict__":Str))=false) (hd1:(kx == ("__debug__":Str))=false) (hd2:(px == ("__debug__":Str))=false)
  (hget:∀ (A:Around) (E:Value->Shared->Prop) (s':Shared) (value:Expr) (Q:Value->Shared->Prop),(∀ b o,s.heap.get? b=some o->s'.heap.get? b=some o)->Q x s'->wpAny (model prog w) A (subscriptTail value (.Name px p2) uk (.int i t)) Q E s')
  (h:∀ h' tk,(∀ b o,s.heap.get? b=some o->h'.get? b=some o)->Q x { s with heap:=h',toks:=tk }):wpAny (model prog w) A (call (.ref f) [.int i t]) Q E s:=by
 refine wpAny_call ?_
 refine kla_callFunE hroom ho rfl hco hgen rfl hcd ?_
 rw [hbind]
 refine wpAny_pure (wpAny_newFunctionEnv hnc (fun y hy=>?_) (fun h₁ hns hsb=>?_) hk)
 ·rw [List.mem_singleton.mp hy];exact hpx
 have hk₁:∀ b o,s.heap.get? b=some o->h₁.get? b=some o:=fun b o e=>hsb.extBut b o (Nat.ne_of_lt (Heap.lt_size e)) (Heap.get?_push_of_some _ e)
 refine ⟨hlim.fresh _ hsb,?_⟩
 show codeAny _ _ (.expr _ (envX qual scope s.heap.objs.size f (.ref c') cl)) _ _
 refine kla_codeExpr (Subscript_ (wpAny_Name (wpAny_loadName_free (v:=uk) hk hkx hcl ?_ ?_ hcx) hd1))
 ·obtain ⟨oc,e1,e2⟩:=hcell
  exact ⟨oc,hk₁ _ _ e1,e2⟩
 refine wpAny_Name (wpAny_loadName_local hk hpx hns (v:=.int i t) ?_ ?_) hd2
 ·show List.lookup px [(px,Value.int i t)]=_
  simp [List.lookup]
 exact hget _ _ _ _ _ hk₁ (h _ _ hk₁)
theorem wb {r:Addr}{a b c:Int}{t u v:Tok}{n:Nat}{Q:List Value->Shared->Prop}(hh:A.handled=none)(hr:IsRange s.heap r a b c t u v)(hsmall:Builtin.Range.small a b c=true)(hn:Builtin.Range.rangeSize a b c=n)(hlen:n<=2 ^ 24)
  (hQ:∀ h' tk (acc:Array Value),(∀ b o,s.heap.get? b=some o->h'.get? b=some o)->s.heap.objs.size<h'.objs.size->ItemsOf (fun i v=>∃ t,v=.int (a+i * c) t) acc n->Q acc.toList { s with heap:=h',toks:=tk }):wpAny (model prog w) A (collect (.ref r)) Q E s:=by
 unfold collect
 refine wpAny_bind (wpAny_runValue (codeAny_builtin F.entry_proto_collect ?_))
 rw [Around.under_plainId F.plain_proto_collect _]
 show wpAny _ A.in1 (newList [] >>= fun l=>again (.builtin "list.__iadd__" ⟨[l,.ref r],[]⟩)) _ _ s
 refine wpAny_bind (wpAny_newObj_type ?_)
 refine wpAny_pure ⟨plainId_quiet F.plain_list_iadd _,codeAny_builtin F.entry_list_iadd ?_⟩
 rw [Around.under_plainId F.plain_list_iadd _]
 have hS₁:(s.heap.push { cls:=.type "list",data:=.seq ([]:List Value).toArray }).get? s.heap.objs.size=some { cls:=.type "list",data:=.seq ([]:List Value).toArray }:=Heap.get?_push_size _ rfl
 show wpAny _ A.in1 (Builtin.List.listExtendWith (.ref s.heap.objs.size) (.ref r) (.ref s.heap.objs.size)) _ _ _
 refine wpAny_extend_range (prog:=prog) (w:=w) (R:=fun r s'=>match r with | .ok (.ret v)=>wpAny (model prog w) A (match v with | Value.ref a=>do (match (<- load a).data with | .seq xs _=>pure xs.toList | _=>unsupported "internal:collect") | _=>unsupported "internal:collect") Q E s' | .ok _=>False | .error e=>E e s') (s:={ s with heap:=s.heap.push { cls:=.type "list",data:=.seq ([]:List Value).toArray } }) hh (Heap.get?_push_of_some _ hr) hsmall hn hlen s.heap.objs.size (.ref s.heap.objs.size) 0 hS₁ fun h' tk acc' c' hk hS' hacc=>?_
 show wpAny _ A (load s.heap.objs.size >>= _) _ _ _
 refine wpAny_bind (wpAny_load hS' ?_)
 exact wpAny_pure (hQ h' tk acc' (fun b o e=>hk b o (Nat.ne_of_lt (Heap.lt_size e)) (Heap.get?_push_of_some _ e)) (Heap.lt_size hS') hacc)
noncomputable abbrev But (a:Addr)(h h':Heap):Prop:=∀ b o,b ≠ a->h.get? b=some o->h'.get? b=some o
theorem YQ {a kS:Addr}{e e1 tk:Nat}{h0:Heap}{keys:Array Value}{vs:List Value}{ps kz:List Int}{P:PySem.Fin->Shared->Prop}(hb:But a s.heap h0)(na:h0.get? a=some (seqObj "list" #[] e1))(nk:h0.get? kS=some (seqObj "list" keys e))(hka:kS ≠ a)(hk0:s.heap.get? kS=none)(hk:IntsAre keys.toList kz)(hI:IntsAre vs ps)(hinc:ps.Pairwise (·<·))(hz:vs.length<=100000)(hlen:kz.length=vs.length)
  (h:∀ h' tk (out:List Value) (c:Nat) (qs:List (Int × Int)),But a s.heap h'->h'.get? a=some (seqObj "list" out.toArray c)->IntsAre out (qs.map (·.2))->qs.Perm (kz.zip ps)->qs.Pairwise (fun x y=>x.1<y.1 \/ (x.1=y.1/\x.2<=y.2))->P (.done (.ret .none)) { s with heap:=h',toks:=tk }) :
  wpAny (model prog w) A (ksk_end a false vs.toArray e1 (.ref kS) keys) P E { s with heap:=h0,toks:=tk }:=by
 have sl:=qA
 have hsz:keys.size=vs.length:=by
  have h1:=hk.length
  rw [Array.length_toList] at h1
  omega
 have hzs:(keys.zip vs.toArray).size=vs.length:=by rw [Array.size_zip,hsz,List.size_toArray,Nat.min_self]
 have tail:∀ st:SortSt,(arrOf st).Perm (keys.zip vs.toArray)->(arrOf st).toList.Pairwise (LEr fun p=>numOf p.2)->failedOf st=none->wpAny (model prog w) A (ksk_tail a false e1 (.ref kS) st) P E { s with heap:=h0,toks:=tk }:=by
  intro st hp hs hfl
  have hsz2:(arrOf st).size=vs.length:=by rw [hp.size_eq,hzs]
  have na1:(h0.update kS (Obj.mapSeq fun _=>(#[]:Array Value))).get? a=some (seqObj "list" #[] e1):=(Heap.get?_update_ne _ _ _ _ (Ne.symm hka)).trans na
  obtain ⟨c2,hc2⟩:∃ c2,((h0.update kS (Obj.mapSeq fun _=>(#[]:Array Value))).update a (Obj.mapSeq fun _=>(arrOf st).map (·.2))).get? a=some (seqObj "list" ((arrOf st).map (·.2)) c2):=⟨_,get?_update_seq na1 fun _=>(arrOf st).map (·.2)⟩
  unfold ksk_tail
  dsimp only
  refine wpAny_bind (listUpdate_at nk rfl ?_ (by rw [hsz];omega) (Nat.zero_le _))
  refine wpAny_bind (wpAny_letGo ?_)
  refine wpAny_bind (seqEpoch_at na1 rfl ?_)
  refine wpAny_bind (listUpdate_at na1 rfl ?_ (Nat.zero_le _) (by simp only [Bool.false_eq_true,if_false,Array.size_map];omega))
  rw [hfl]
  simp only [bne_self_eq_false,Bool.false_eq_true,if_false]
  refine wpAny_pure (h _ _ ((arrOf st).toList.map (·.2)) c2 ((arrOf st).toList.map fun p=>(numOf p.1,numOf p.2)) (fun b o hb' e'=>?_) ?_ ?_ ?_ ?_)
  ·have nb:b ≠ kS:=fun z=>by rw [z,hk0] at e';cases e'
   exact (Heap.get?_update_ne _ _ _ _ hb').trans ((Heap.get?_update_ne _ _ _ _ nb).trans (hb b o hb' e'))
  ·rw [hc2]
   congr 2
   exact (Array.toArray_toList (xs:=(arrOf st).map (·.2))).symm.trans (by rw [Array.toList_map])
  ·rw [List.map_map]
   have:((fun x:Int × Int=>x.2) ∘ fun p:Keyed=>(numOf p.1,numOf p.2))=(numOf ∘ fun p:Keyed=>p.2):=rfl
   rw [this,<- List.map_map]
   refine intsAre_map _ fun v hv=>?_
   obtain ⟨p,hp',rfl⟩:=List.mem_map.mp hv
   have hm:p ∈ keys.toList.zip vs:=by rw [<- ksk_zip];exact (Array.perm_iff_toList_perm.mp hp).mem_iff.mp hp'
   obtain ⟨x,y⟩:=p
   exact hI.all _ (List.of_mem_zip hm).2
  ·have h1:=(Array.perm_iff_toList_perm.mp hp).map fun p:Keyed=>(numOf p.1,numOf p.2)
   rw [ksk_zip] at h1
   rw [<- hk.nums,<- hI.nums,List.zip_map]
   exact h1
  ·rw [List.pairwise_map]
   exact hs
 unfold ksk_end
 dsimp only
 rw [if_neg (by decide)]
 by_cases h2:vs.toArray.size<2
 ·rw [if_pos h2,if_pos h2]
  refine wpAny_bind (wpAny_pure ?_)
  rw [StateT.run_pure]
  refine wpAny_bind (wpAny_pure ?_)
  refine tail _ (Array.Perm.refl _) ?_ rfl
  show (keys.zip vs.toArray).toList.Pairwise _
  rw [List.size_toArray] at h2
  have hl:(keys.zip vs.toArray).toList.length<2:=by rw [Array.length_toList,hzs];exact h2
  match (keys.zip vs.toArray).toList,hl with
  | [],_=>exact .nil
  | [_],_=>exact List.pairwise_singleton _ _
 ·rw [if_neg h2,if_neg h2]
  rw [List.size_toArray] at h2
  rw [ksk_kind hk (by rw [hsz];omega)]
  refine wpAny_bind (wpAny_pure ?_)
  refine wpAny_bind (wpAny_mono (j7 (rk:=fun p=>numOf p.2) (a₀:=keys.zip vs.toArray) (st:=SortSt.mk' oneType' (keys.zip vs.toArray) #[] 7 none)
   (Q:=fun _ st'=>SoB (keys.zip vs.toArray) st'/\(arrOf st').toList.Pairwise (LEr fun p=>numOf p.2)) (ksk_intKeys hk) ⟨Array.Perm.refl _,rfl,rfl⟩ rfl ?_ fun st' b p=>⟨b,p⟩) ?_ fun _ _ e=>e)
  ·show (keys.zip vs.toArray).toList.Pairwise _
   rw [ksk_zip]
   have e1:(keys.toList.zip vs).map (fun p:Keyed=>numOf p.2)=ps:=by
    rw [show (fun p:Keyed=>numOf p.2)=numOf ∘ Prod.snd from rfl,<- List.map_map,List.map_snd_zip (by rw [Array.length_toList];exact Nat.le_of_eq hsz.symm),hI.nums]
   rw [<- e1,List.pairwise_map] at hinc
   exact hinc.imp fun h=>Int.le_of_lt h
  ·rintro ⟨⟨⟩,st'⟩ s' ⟨rfl,hB,hp⟩
   exact tail st' hB.perm hp hB.failed
theorem XM {a f kS:Addr}{e1 tk:Nat}{h0:Heap}{vs:List Value}{ps kz:List Int}{P:PySem.Fin->Shared->Prop}(hb:But a s.heap h0)(na:h0.get? a=some (seqObj "list" #[] e1))(nk:h0.get? kS=some (seqObj "list" #[] 0))(hka:kS ≠ a)(hk0:s.heap.get? kS=none)(hI:IntsAre vs ps)(hinc:ps.Pairwise (·<·))(hz:vs.length<=100000)(hlen:kz.length=vs.length)
  (turn:∀ (i:Nat) (v:Value) (k:Int),vs[i]?=some v->kz[i]?=some k->∀ (h:Heap) (tk:Nat),But a s.heap h ->
   wpAny (model prog w) A (call (.ref f) [v]) (fun u s'=>∃ h' tk' t',u=.int k t'/\s'={ s with heap:=h',toks:=tk' }/\∀ b o,h.get? b=some o->h'.get? b=some o) (fun _ _=>False) { s with heap:=h,toks:=tk })
  (h:∀ h' tk (out:List Value) (c:Nat) (qs:List (Int × Int)),But a s.heap h'->h'.get? a=some (seqObj "list" out.toArray c)->IntsAre out (qs.map (·.2))->qs.Perm (kz.zip ps)->qs.Pairwise (fun x y=>x.1<y.1 \/ (x.1=y.1/\x.2<=y.2))->P (.done (.ret .none)) { s with heap:=h',toks:=tk }) :
  wpAny (model prog w) A (ksk_rest a (.ref f) false vs.toArray e1 (.ref kS)) P E { s with heap:=h0,toks:=tk }:=by
 have sl:=qA
 unfold ksk_rest
 refine wpAny_bind (wpAny_rule ?_)
 rw [List.forIn_toArray]
 refine wpAny_bind (ksk_fold (fun i s'=>∃ h' tk kA e,s'={ s with heap:=h',toks:=tk }/\But a s.heap h'/\h'.get? a=some (seqObj "list" #[] e1)/\h'.get? kS=some (seqObj "list" kA e)/\IntsAre kA.toList (kz.take i)) vs 0 _
  ⟨h0,tk,#[],0,rfl,hb,na,nk,by simpa using IntsAre.nil⟩ ?step ?done)
 case step=>
  rintro j x s' hx ⟨h',tk,kA,e,rfl,b',na',nk',hk⟩
  simp only [Nat.zero_add] at hk ⊢
  have hj:j<vs.length:=(List.getElem?_eq_some_iff.mp hx).1
  obtain ⟨k,hkj⟩:∃ k,kz[j]?=some k:=⟨_,List.getElem?_eq_getElem (by omega)⟩
  have hzA:kA.size<=vs.length:=by
   have h1:=hk.length
   rw [Array.length_toList,List.length_take] at h1
   omega
  refine wpAny_bind (wpAny_attempt (wpAny_mono (turn j x k hx hkj h' tk b') (fun v s'' he=>?_) fun _ _ hF=>hF.elim))
  obtain ⟨g,tk2,t2,rfl,rfl,kp⟩:=he
  try dsimp only
  have nk2:=kp _ _ nk'
  have na2:=kp _ _ na'
  obtain ⟨c2,hc2⟩:∃ c2,(g.update kS (Obj.mapSeq (·.push (.int k t2)))).get? kS=some (seqObj "list" (kA.push (.int k t2)) c2):=⟨_,get?_update_seq nk2 (·.push (.int k t2))⟩
  have ek:kz.take (j+1)=kz.take j ++ [k]:=by rw [List.take_add_one,hkj];simp
  have ea:(kA.push (Value.int k t2)).toList=kA.toList ++ [Value.int k t2]:=by simp
  refine wpAny_bind (listUpdate_at nk2 rfl ?_ (by omega) (Nat.le_trans (Nat.le_of_eq (Array.size_push ..)) (by omega)))
  refine wpAny_pure ⟨rfl,_,_,kA.push (.int k t2),c2,rfl,fun b o hb' e'=>?_,(Heap.get?_update_ne _ _ _ _ (Ne.symm hka)).trans na2,hc2,by rw [ea,ek];exact ksk_snoc hk⟩
  have nb:b ≠ kS:=fun z=>by rw [z,hk0] at e';cases e'
  exact (Heap.get?_update_ne _ _ _ _ nb).trans (kp b o (b' b o hb' e'))
 case done=>
  rintro s' ⟨h',tk,kA,e,rfl,b',na',nk',hk⟩
  have hk':IntsAre kA.toList kz:=by
   have e3:kz.take (0+vs.length)=kz:=List.take_of_length_le (by omega)
   rw [e3] at hk
   exact hk
  try dsimp only
  refine wpAny_bind (listItems_at nk' rfl ?_)
  exact YQ b' na' nk' hka hk0 hk' hI hinc hz hlen h
theorem Xg {a f:Addr}{n:Nat}{vs:List Value}{ps kz:List Int}{P:PySem.Fin->Shared->Prop}(ho:s.heap.get? a=some (seqObj "list" vs.toArray n))(hI:IntsAre vs ps)(hinc:ps.Pairwise (·<·))(hz:vs.length<=100000)(hlen:kz.length=vs.length)
  (turn:∀ (i:Nat) (v:Value) (k:Int),vs[i]?=some v->kz[i]?=some k->∀ (h:Heap) (tk:Nat),But a s.heap h ->
   wpAny (model prog w) A (call (.ref f) [v]) (fun u s'=>∃ h' tk' t',u=.int k t'/\s'={ s with heap:=h',toks:=tk' }/\∀ b o,h.get? b=some o->h'.get? b=some o) (fun _ _=>False) { s with heap:=h,toks:=tk })
  (h:∀ h' tk (out:List Value) (c:Nat) (qs:List (Int × Int)),But a s.heap h'->h'.get? a=some (seqObj "list" out.toArray c)->IntsAre out (qs.map (·.2))->qs.Perm (kz.zip ps)->qs.Pairwise (fun x y=>x.1<y.1 \/ (x.1=y.1/\x.2<=y.2))->P (.done (.ret .none)) { s with heap:=h',toks:=tk }) :
  wpAny (model prog w) A (ksk_tree a (.ref f) false) P E s:=by
 have sl:=qA
 have ha:a<s.heap.objs.size:=Heap.lt_size ho
 obtain ⟨e1,ho1⟩:∃ e1,(s.heap.update a (Obj.mapSeq fun _=>(#[]:Array Value))).get? a=some (seqObj "list" #[] e1):=⟨_,get?_update_seq ho fun _=>#[]⟩
 have b1:But a s.heap (s.heap.update a (Obj.mapSeq fun _=>(#[]:Array Value))):=fun b o hb e=>(Heap.get?_update_ne _ _ _ _ hb).trans e
 unfold ksk_tree
 refine wpAny_bind (listItems_at ho rfl (wpAny_bind (listUpdate_at ho rfl (wpAny_bind (seqEpoch_at ho1 rfl ?_)) (by rw [List.size_toArray];omega) (Nat.zero_le _))))
 refine wpAny_bind (wpAny_newTuple (wpAny_bind (wpAny_newList (wpAny_holding ?_) (Nat.zero_le _))) (by show vs.length<=_;omega))
 have sz:((s.heap.update a (Obj.mapSeq fun _=>(#[]:Array Value))).push (seqObj "tuple" vs.toArray 0)).objs.size=s.heap.objs.size+1:=by rw [size_push',Heap.size_update]
 have kp:∀ b o,(s.heap.update a (Obj.mapSeq fun _=>(#[]:Array Value))).get? b=some o->(((s.heap.update a (Obj.mapSeq fun _=>(#[]:Array Value))).push (seqObj "tuple" vs.toArray 0)).push (seqObj "list" #[] 0)).get? b=some o:=fun b o e=>Heap.get?_push_of_some _ (Heap.get?_push_of_some _ e)
 show wpAny (model prog w) A (ksk_rest a (.ref f) false vs.toArray e1 (.ref ((s.heap.update a (Obj.mapSeq fun _=>(#[]:Array Value))).push (seqObj "tuple" vs.toArray 0)).objs.size)) P E { s with heap:=((s.heap.update a (Obj.mapSeq fun _=>(#[]:Array Value))).push (seqObj "tuple" vs.toArray 0)).push (seqObj "list" #[] 0) }
 refine XM (s:=s) (tk:=s.toks) (h0:=((s.heap.update a (Obj.mapSeq fun _=>(#[]:Array Value))).push (seqObj "tuple" vs.toArray 0)).push (seqObj "list" #[] 0)) (kS:=((s.heap.update a (Obj.mapSeq fun _=>(#[]:Array Value))).push (seqObj "tuple" vs.toArray 0)).objs.size) (fun b o hb e=>kp b o (b1 b o hb e)) (kp _ _ ho1) (Heap.get?_push_size _ rfl) (by rw [sz];exact Nat.ne_of_gt (Nat.lt_succ_of_lt ha)) (Heap.get?_none_of_le (by rw [sz];exact Nat.le_succ _)) hI hinc hz hlen turn h
theorem Qa {r f:Addr}{n:Nat}{a b:Int}{t u v:Tok}{kz:List Int}{Q:Value->Shared->Prop}(hh:A.handled=none)(hr:IsRange s.heap r a b 1 t u v)(hsmall:Builtin.Range.small a b 1=true)(hn:Builtin.Range.rangeSize a b 1=n)(hz:n<=100000)(hlen:kz.length=n)
  (turn:∀ (i:Nat) (t:Tok) (k:Int),i<n->kz[i]?=some k->∀ (s':Shared),s'.gens=s.gens->s'.os=s.os->(∀ b o,s.heap.get? b=some o->s'.heap.get? b=some o) ->
   wpAny (model prog w) A.in1.in1 (call (.ref f) [.int (a+i) t]) (fun u s''=>∃ h' tk' t',u=.int k t'/\s''={ s' with heap:=h',toks:=tk' }/\∀ b o,s'.heap.get? b=some o->h'.get? b=some o) (fun _ _=>False) s')
  (h:∀ h' tk D (out:List Value) (c:Nat) (qs:List (Int × Int)),(∀ b o,s.heap.get? b=some o->h'.get? b=some o)->s.heap.objs.size<=D->h'.get? D=some (seqObj "list" out.toArray c)->IntsAre out (qs.map (·.2))->qs.Perm (kz.zip (zU a 1 n))->qs.Pairwise (fun x y=>x.1<y.1 \/ (x.1=y.1/\x.2<=y.2))->Q (.ref D) { s with heap:=h',toks:=tk }) :
  wpAny (model prog w) A (call (.builtin "sorted") [.ref r] [(Str.ofString "key",.ref f)]) Q E s:=by
 have sl:=qA
 refine call_function_entry_kw kind_sorted plain_sorted entry_sorted (ksk_s1 _ _) ?_
 unfold Builtin.«sorted»
 refine wpAny_bind (m:=checkCount "sorted" 1 1 _) (wpAny_pure ?_)
 refine wpAny_bind (wb (A:=A.in1) hh hr hsmall hn (by omega) fun h1 tk1 acc hk1 hs1 hit=>?_)
 have hvl:acc.toList.length=n:=by rw [Array.length_toList];exact hit.1
 have hI:IntsAre acc.toList (zU a 1 n):=jw (vt hit)
 refine wpAny_bind (wpAny_newList ?_ (by rw [hvl];omega))
 have hoL:(h1.push (seqObj "list" acc.toList.toArray 0)).get? h1.objs.size=some (seqObj "list" acc.toList.toArray 0):=Heap.get?_push_size _ rfl
 have hk2:∀ b o,s.heap.get? b=some o->(h1.push (seqObj "list" acc.toList.toArray 0)).get? b=some o:=fun b o e=>Heap.get?_push_of_some _ (hk1 b o e)
 refine wpAny_bind (wpAny_holding (wpAny_call_entry_kw slot_list_sort ⟨_,hoL,rfl⟩ entry_list_sort ?body (ksk_l1 _ _)))
 case body=>
  show wpAny (model prog w) A.in1.in1 (Builtin.«list.sort» ⟨[.ref h1.objs.size],[(Str.ofString "key",.ref f)]⟩) _ _ _
  rw [ksk_t1]
  refine Xg (s:={ s with heap:=h1.push (seqObj "list" acc.toList.toArray 0),toks:=tk1 }) hoL hI ?_ (by rw [hvl];exact hz) (by rw [hvl];exact hlen) (fun i v k hv hk h' tk hb=>?_) fun h' tk out c qs hb hD hi hp hq=>⟨_,rfl,?_⟩
  ·unfold zU
   rw [List.pairwise_map]
   exact List.pairwise_lt_range.imp fun h=>by omega
  ·have hi:i<n:=by have:=(List.getElem?_eq_some_iff.mp hv).1;omega
   obtain ⟨t',rfl⟩:=hit.2 i v (by rw [<- Array.getElem?_toList];exact hv)
   rw [Int.mul_one]
   exact turn i t' k hi hk { s with heap:=h',toks:=tk } rfl rfl fun b o e=>hb b o (Nat.ne_of_lt (Nat.lt_of_lt_of_le (Heap.lt_size e) (Nat.le_of_lt hs1))) (hk2 b o e)
  ·exact wpAny_pure ⟨_,rfl,h _ _ _ out c qs (fun b o e=>hb b o (Nat.ne_of_lt (Nat.lt_of_lt_of_le (Heap.lt_size e) (Nat.le_of_lt hs1))) (hk2 b o e)) (Nat.le_of_lt hs1) hD hi hp hq⟩
end
end L2
namespace L2
open PySem PySem.Spec PyProof.Rows PySem.W
noncomputable def ZD (pos:Pos)(q:Str):Array Value->Addr->Obj->Prop:=fun ps c oc=>ps=#[rawInt pos.line,rawInt pos.col,.ref c]/\∃ vs t,oc.data=.fields vs/\vs[1]?=some (.str q t)
noncomputable def Jp (R:Array Value->Addr->Obj->Prop)(P:Addr)(H:Hp):Prop:=∃ ps,H P=some (.tbl ps)/\(ps=#[] \/ ∃ c oc u,R ps c oc/\H c=some (.frz oc u))
section
variable {X:Cx}{pins:List (Addr × Obj)}{σ:St}{H:Hp}{s:Shared}
theorem Inv.tabbed {t':Nat}{h':Heap}{P c:Addr}{ps more:Array Value}{oc:Obj}(I:Inv X pins σ H s)(hP:H P=some (.tbl ps))(hx:Heap.ExtBut P s.heap h')(hc:s.heap.objs.size<=c)(hoc:h'.get? c=some oc)(hp':h'.get? P=some (tabObj (ps ++ more))) :
  Inv X pins σ (upd (upd H P (.tbl (ps ++ more))) c (.frz oc (.own 0))) { s with heap:=h',toks:=t' }:=by
 have fc:=I.hok.fresh hc
 have ncP:P ≠ c:=ze hP fc
 have at_:∀ b,b ≠ P->b ≠ c->upd (upd H P (.tbl (ps ++ more))) c (.frz oc (.own 0)) b=H b:=fun b h1 h2=>(zf h2).trans (zf h1)
 have nP:∀ b,H b=none->b ≠ P:=fun b n z=>by rw [z,hP] at n;cases n
 have ltc:∀ b o,s.heap.get? b=some o->b ≠ c:=fun b o e=>Nat.ne_of_lt (Nat.lt_of_lt_of_le (Heap.lt_size e) hc)
 have eP:upd (upd H P (.tbl (ps ++ more))) c (.frz oc (.own 0)) P=some (.tbl (ps ++ more)):=(zf ncP).trans zi
 have ne2:∀ b u,H b=some u->(∀ qs,u ≠ .tbl qs)->upd (upd H P (.tbl (ps ++ more))) c (.frz oc (.own 0)) b=some u:=fun b u e hu=>(at_ b (fun z=>by rw [z,hP] at e;cases e;exact hu _ rfl) (ze e fc)).trans e
 refine I.un ⟨fun b o e n _ _=>hx b o (nP b n) e,fun b o e n _ _=>⟨o.slots,hx b o (nP b n) e⟩,fun b o e n _=>(at_ b (nP b n) (ltc b o e)).trans n,fun b o e _=>?_,fun b xs e=>ne2 b _ e (fun _ z=>nomatch z),fun b o u e=>ne2 b _ e (fun _ z=>nomatch z),fun b qs e=>?_⟩ fun b u e=>?_
 ·by_cases hb:b=P
  ·exact ⟨_,by rw [hb];exact hp'⟩
  ·exact ⟨o,hx b o hb e⟩
 ·by_cases hb:b=P
  ·subst hb;rw [hP] at e;cases e;exact ⟨more,eP⟩
  ·exact ⟨#[],by rw [at_ b hb (ze e fc),e];simp⟩
 ·by_cases hb:b=P
  ·subst hb;rw [eP] at e;cases e;exact hp'
  ·by_cases hb2:b=c
   ·subst hb2;rw [zi] at e;cases e;exact ⟨hoc,_,hoc⟩
   ·rw [at_ b hb hb2] at e
    refine (I.hok b u e).stay (fun d v hd r=>hx d v (fun z=>?_) r) (fun d r=>ne2 d _ r (fun _ z=>nomatch z)) fun d xs r=>ne2 d _ r (fun _ z=>nomatch z)
    rcases hd with rfl | hd
    ·exact hb z
    ·rw [z,hP] at hd;cases hd
end
section
variable {X:Cx}
noncomputable def tGS (K:PySem.W.Frag)(R:Array Value->Addr->Obj->Prop)(P:Addr)(i:Nat)(t:TA):TE:=fun σ H Q=>t σ H fun vs H1=>∃ r a n ns,vs=[.ref r]/\H1 r=some (Qe r 0 (n:Nat) 1)/\σ[i]?=some (some (.ref a))/\(SqL K H1 a (List.map V.int ns) \/ SqT K H1 a (List.map V.int ns))/\ns.length=n/\n<=1000/\Jp R P H1 /\
 ∀ (H':Hp) (l:Addr) (qs:List (Int × Int)),(∀ b o,b ≠ P->H1 b=some o->H' b=some o)->H1 l=none->H' l=some (.lst ((qs.map (·.2)).map V.int))->Jp R P H'->(∀ c oc u ps,H' P=some (.tbl ps)->R ps c oc->H' c=some (.frz oc u)->H1 c=none \/ (H1 P=some (.tbl ps)/\H1 c=some (.frz oc u)))->qs.Perm (ns.zip (zU 0 1 n))->qs.Pairwise (fun x y:Int × Int=>x.1<y.1 \/ (x.1=y.1/\x.2<=y.2))->Q (.ref l) H'
theorem Qu {k i:Nat}{c P:Addr}{kx px:Str}{params:Arguments}{lscope:Scope}{p pos lpos kpos p1 p2 p3:Pos}{e:Expr}{t:TA}
  (hr:z0 (k+2) X.A) (hg:Gl X "sorted") (hm:X.mg "sorted"=none) (ha:PA X [e] t) (hN:X.N[i]?=some kx) (hvis:X.env.scope.names.lookup kx=some .cell)
  (hcode:X.env.code=.ref c) (CH:CodeHd X.base c P) (BH:X.base.BuiltinsAt X.mg P) (hgP:mainGlobals ≠ P)
  (hdef:defaultsOf params X.env=([],[])) (hln:lscope.names=[(px,.local),(kx,.free)]) (hlk:lscope.kind=.function) (hlc:lscope.isCoroutine=false) (hlg:lscope.isGenerator=false)
  (hbind:∀ (nm qual:Str) (cl:List (Str × Addr)) (pm ctv:Value) (c':Addr) (v:Value),bindArgs (kla_fn nm qual params (.Subscript (.Name kx p1) (.Name px p2) p3) lscope cl pm (.ref c') ctv) ⟨[v],[]⟩=pure [(px,v)])
  (hne:px ≠ kx) (hcx:(kx == ("__classdict__":Str))=false) (hd1:(kx == ("__debug__":Str))=false) (hd2:(px == ("__debug__":Str))=false)
  (hsub:∀ o v,subscripted (.Name px p2) false o v=operate [o,v] (getItem o v))
  (he:backTo pos (starEach [e] X.env)=(false,eval e X.env) :: backTo pos (starEach [] X.env):=by rfl) (hpl:(backTo pos (starEach [e] X.env)).any (·.1)=false:=by rfl)
  (hall:(backToKw pos (keywordEach [⟨some "key",.Lambda params (.Subscript (.Name kx p1) (.Name px p2) p3) lscope lpos,kpos⟩] X.env)).all (·.1.isSome)=true:=by rfl) (hkw:(backToKw pos (keywordEach [⟨some "key",.Lambda params (.Subscript (.Name kx p1) (.Name px p2) p3) lscope lpos,kpos⟩] X.env)).any (·.1.isNone)=false:=by rfl)
  (hks:(backToKw pos (keywordEach [⟨some "key",.Lambda params (.Subscript (.Name kx p1) (.Name px p2) p3) lscope lpos,kpos⟩] X.env)).filterMap (·.1)=[Str.ofString "key"]:=by rfl) :
  PE X (.Call (.Name "sorted" p) [e] [⟨some "key",.Lambda params (.Subscript (.Name kx p1) (.Name px p2) p3) lscope lpos,kpos⟩] pos) (tGS X.K (ZD lpos (X.env.qual ++ "<lambda>")) P i t):=by
 intro pins s σ H Q I h
 refine wpAny_Call_Name_kw (qY I hg hm jT ?_)
 refine callWith_kw (thn (ha pos pins s σ H _ I h) fun us s1 ⟨vs,H1,I1,r1,q1⟩=>?_) he hpl hall hkw
 obtain ⟨r,a,n,ns,rfl,hR,hσ,hq,hn,hz,⟨ps,hP,htab⟩,q⟩:=q1
 obtain ⟨u,rfl,ru⟩:=qB r1
 cases ru
 obtain ⟨m,hns,hloc⟩:=I1.loc
 obtain ⟨uk,ruk,hlook⟩:=hloc i kx _ hN hσ (.inr (.inl hvis))
 cases ruk
 rcases hlook with ⟨hk1,_⟩ | ⟨_,cell,hcl,hcell⟩
 ·exact absurd (hk1.symm.trans hvis) (by decide)
 rw [hks]
 have hclos:closureFor lscope X.env=pure [(kx,cell)]:=by
  unfold closureFor cellOf
  rw [hln]
  simp [hcl]
 have hPh:s1.heap.get? P=some (tabObj ps):=I1.hok P _ hP
 have C:=CH.keeps I1.bk
 have hG:=I1.mod.glob.keeps I1.bk
 have hB:s1.heap.BuiltinsAt X.mg P:=by
  obtain ⟨bm,ob,b1,b2,b3,b4,b5,b6⟩:=BH
  exact ⟨bm,ob,b1,b2,b3,b4,I1.bk _ _ b5,b6⟩
 have hRng:=I1.hok r _ hR
 obtain ⟨⟨t1,t2,t3,hrg⟩,_⟩:=hRng
 have hgt:∃ its:List Value,zl (List.map V.int ns) its/\∀ (A:Around) (E:Value->Shared->Prop) (s':Shared) (value:Expr) (i:Nat) (t:Tok) (x:Value) (Q:Value->Shared->Prop),(∀ b o,b ≠ P->s1.heap.get? b=some o->s'.heap.get? b=some o)->its[i]?=some x->Q x s'->wpAny (model X.prog X.w) A (subscriptTail value (.Name px p2) (.ref a) (.int (i:Nat) t)) Q E s':=by
  have nl:=kZ
  have ss:=qA
  rcases hq with hq | hq
  ·obtain ⟨its,rv,⟨o,nn,e1,e2,e3,e4⟩,hzz⟩:=I1.list hq
   refine ⟨its,rv,fun A E s' value i t x Q hk hx hQ=>?_⟩
   have hnP:a ≠ P:=fun z=>by rw [z,hPh] at e1;cases e1;cases e2
   have hi:i<its.length:=(List.getElem?_eq_some_iff.mp hx).1
   have hle:=rv.length
   exact item_listR (PlainL.isList ⟨o,nn,hk _ _ hnP e1,e2,e3,e4⟩) (Int.natCast_nonneg _) (by omega) (by simpa using hx) hQ (hsub _ _)
  ·obtain ⟨its,rv,⟨o,e1,e2,nn,e4⟩,hzz⟩:=I1.tuple hq
   refine ⟨its,rv,fun A E s' value i t x Q hk hx hQ=>?_⟩
   have hnP:a ≠ P:=fun z=>by rw [z,hPh] at e1;cases e1;cases e2
   have hi:i<its.length:=(List.getElem?_eq_some_iff.mp hx).1
   have hle:=rv.length
   have pl:IsTup s'.heap a its.toArray:=⟨o,hk _ _ hnP e1,e2,nn,e4⟩
   exact subscriptTail_builtinR (x:=x) pl.typeIs slot_tuple_getitem.lookup (getItem_tuple (j:=i) (Q:=fun r s'=>r=x/\Q r s') pl (by omega) (by omega) (by rw [List.size_toArray,seqIndex_of (Int.natCast_nonneg _) (by omega)];simp) (by simpa using hx) ⟨rfl,hQ⟩) (hsub _ _)
 obtain ⟨its,rv,hget⟩:=hgt
 obtain ⟨oc,hoc1,hoc2⟩:=hcell
 have ncP:cell ≠ P:=fun z=>by rw [z,hPh] at hoc1;cases hoc1;cases hoc2
 have nrP:r ≠ P:=fun z=>by rw [z,hPh] at hrg;cases hrg
 have run:∀ (H2:Hp) (h2:Heap) (tk:Nat) (f c':Addr) (pm ctv:Value),Inv X pins σ H2 { s1 with heap:=h2,toks:=tk }->(∀ b o,b ≠ P->s1.heap.get? b=some o->h2.get? b=some o)->h2.get? f=some (kla_obj "<lambda>" (X.env.qual ++ "<lambda>") params (.Subscript (.Name kx p1) (.Name px p2) p3) lscope [(kx,cell)] pm c' ctv)->h2.CodeRec (.ref c') (X.env.qual ++ "<lambda>") ->
   (∀ b o,b ≠ P->H1 b=some o->H2 b=some o)->Jp (ZD lpos (X.env.qual ++ "<lambda>")) P H2->(∀ d oc u qs,H2 P=some (.tbl qs)->ZD lpos (X.env.qual ++ "<lambda>") qs d oc->H2 d=some (.frz oc u)->H1 d=none \/ (H1 P=some (.tbl qs)/\H1 d=some (.frz oc u))) ->
   wpAny (model X.prog X.w) X.A (call (.builtin "sorted") [.ref r] [("key",.ref f)]) (EP X pins σ Q) X.xe { s1 with heap:=h2,toks:=tk }:=by
  intro H2 h2 tk f c' pm ctv I2 hx hf hcr hkH hT hfr
  have ss:=qA
  have hrr:=hr.in1.in1
  refine Qa (s:={ s1 with heap:=h2,toks:=tk }) (n:=n) (kz:=ns) hr.hd (hx _ _ nrP hrg) (small_one (by omega) (by omega) (by omega) (by omega)) (by simp [Builtin.Range.rangeSize];omega) (by omega) hn (fun i t k hi hk s' hg1 hg2 hks=>?_) fun h' tk' D out cc qs hk hD hDo hI hp hpw=>?_
  ·obtain ⟨x,ex,rx⟩:=rv.get (show (List.map V.int ns)[i]?=some (.int k) by rw [List.getElem?_map,hk];rfl)
   obtain ⟨tx,rfl⟩:=rx
   have hkk:∀ b o,b ≠ P->s1.heap.get? b=some o->s'.heap.get? b=some o:=fun b o hb e=>hks b o (hx b o hb e)
   rw [Int.zero_add]
   refine Xy (uk:=.ref a) (x:=.int k tx) (cell:=cell) (cl:=[(kx,cell)]) (hks _ _ hf) (hcr.keeps hks) hrr.depth (I2.nolimit.keeps hks) (hbind _ _ _ _ _ _ _) hlk hlc hlg ?_ ?_ ?_ ?_ ⟨oc,hkk _ _ ncP hoc1,hoc2⟩ hcx hd1 hd2 (fun A E s'' value Q hk2 hQ=>hget A E s'' value i t _ Q (fun b o hb e=>hk2 b o (hkk b o hb e)) ex hQ) fun h'' tk'' hk2=>⟨h'',tk'',tx,rfl,rfl,hk2⟩
   ·rw [hln];intro y hy;simp at hy;rcases hy with rfl | rfl <;> simp
   ·rw [hln];simp [List.lookup]
   ·rw [hln];simp only [List.lookup];rw [show (kx == px)=false from beq_eq_false_iff_ne.mpr (Ne.symm hne)];simp
   ·simp [List.lookup]
  ·have hl0:H2 D=none:=I2.hok.fresh hD
   have hnP:P ≠ D:=by
    obtain ⟨ps',hP',_⟩:=hT
    exact ze hP' hl0
   refine ⟨.ref D,_,I2.laid (t':=tk') (o:=.lst ((qs.map (·.2)).map V.int)) hk hD ⟨?_,out,cc,qq hI,hDo⟩,rfl,q _ D qs (fun b o hb e=>(zf (ze (hkH b o hb e) hl0)).trans (hkH b o hb e)) ?_ zi ?_ ?_ hp hpw⟩
   ·rw [List.length_map,List.length_map,hp.length_eq,List.length_zip,hn];simp [zU];omega
   ·cases e:H1 D with
    | none=>rfl
    | some o=>
     by_cases hb:D=P
     ·exact absurd hb.symm hnP
     ·exact (by rw [hkH D o hb e] at hl0;cases hl0)
   ·obtain ⟨ps',hP',ht'⟩:=hT
    exact ⟨ps',(zf hnP).trans hP',ht'.imp id fun ⟨c,oc,u,h1,h2⟩=>⟨c,oc,u,h1,(zf (ze h2 hl0)).trans h2⟩⟩
   ·intro d oc u ps' h1 h2 h3
    rw [zf hnP] at h1
    by_cases hb:d=D
    ·rw [hb,zi] at h3;cases h3
    ·rw [zf hb] at h3
     exact hfr d oc u ps' h1 h2 h3
 show wpAny _ _ (evalAll [do let v <- eval (.Lambda params (.Subscript (.Name kx p1) (.Name px p2) p3) lscope lpos) X.env;standAt pos;pure v]) _ _ s1
 refine wpAny_evalAll_cons (wpAny_bind ?_)
 refine kla_eval hdef ?_
 rcases htab with rfl | ⟨d,od,u,⟨rfl,vs,tt,hod,hv1⟩,hd⟩
 ·refine kla_makeFunction (mg:=X.mg) hclos I1.ok.glob hG hcode C hPh trivial rfl hgP hB fun c' ctv h' tk hx hge hlt hrec htb=>?_
  obtain ⟨_,oc',vs,tt,rfl',hoc',hod',hv1⟩:=id hrec
  cases rfl'
  have I2:=I1.tabbed (t':=tk) hP hx hge hoc' htb
  have I3:=I2.kept (h':=h'.push (kla_obj "<lambda>" (X.env.qual ++ "<lambda>") params (.Subscript (.Name kx p1) (.Name px p2) p3) lscope [(kx,cell)] ((X.mg "__name__").getD .none) c' ctv)) (t':=tk) fun b o e=>Heap.get?_push_of_some _ e
  have fc:=I1.hok.fresh hge
  have ncP':P ≠ c':=ze hP fc
  refine wpAny_bind (wpAny_standAt (wpAny_pure (wpAny_pure ?_)))
  refine run _ (h'.push _) tk _ c' _ ctv I3 (fun b o hb e=>Heap.get?_push_of_some _ (hx b o hb e)) (Heap.get?_push_size _ rfl) (hrec.push _) (fun b o hb e=>(zf (ze e fc)).trans ((zf hb).trans e)) ⟨_,(zf ncP').trans zi,.inr ⟨c',oc',_,⟨by simp,vs,tt,hod',hv1⟩,zi⟩⟩ ?_
  intro d od u qs h1 h2 h3
  rw [zf ncP',zi] at h1
  cases h1
  obtain ⟨h2,_⟩:=h2
  have:c'=d:=by simpa using h2
  exact .inl (this ▸ fc)
 ·have hdo:=(I1.hok d _ hd).1
  have hrec:s1.heap.CodeRec (.ref d) (X.env.qual ++ "<lambda>"):=⟨d,od,vs,tt,rfl,hdo,hod,hv1⟩
  have hca:codeAmong lpos (#[rawInt lpos.line,rawInt lpos.col,Value.ref d]:Array Value).toList=some (.ref d):=codeAmong_snoc (pos:=lpos) (c:=.ref d) [] trivial rfl
  refine kla_makeFunctionHit (mg:=X.mg) hclos I1.ok.glob hG hcode C hPh (TriplesOk_snoc _ _ _ [] trivial) hca hB fun ctv h' tk hk hsz=>?_
  refine wpAny_bind (wpAny_standAt (wpAny_pure (wpAny_pure ?_)))
  have I3:=I1.kept (h':=h'.push (kla_obj "<lambda>" (X.env.qual ++ "<lambda>") params (.Subscript (.Name kx p1) (.Name px p2) p3) lscope [(kx,cell)] ((X.mg "__name__").getD .none) d ctv)) (t':=tk) fun b o e=>Heap.get?_push_of_some _ (hk b o e)
  refine run _ (h'.push _) tk _ d _ ctv I3 (fun b o hb e=>Heap.get?_push_of_some _ (hk b o e)) (Heap.get?_push_size _ rfl) ((hrec.keeps hk).push _) (fun b o hb e=>e) ⟨_,hP,.inr ⟨d,od,u,⟨rfl,vs,tt,hod,hv1⟩,hd⟩⟩ fun d' od' u' qs h1 h2 h3=>.inr ⟨h1,h3⟩
end
noncomputable def aGS (pos:Pos)(qn:Str)(P:Addr)(i:Nat)(b:AA):AE:=fun ρ M Q=>b ρ M fun xs M1=>∃ (n:Nat) (x:AV) (ns:List Int),xs=[.d (.rng 0 n 1)]/\ρ[i]?=some (some x)/\qm x M1=some (ns.map fun k=>AV.d (.int k))/\ns.length=n/\n<=1000/\M1 P=some (.tb (ZD pos qn)) /\
 ∀ qs:List (Int × Int),qs.Perm (ns.zip (zU 0 1 n))->qs.Pairwise (fun x y:Int × Int=>x.1<y.1 \/ (x.1=y.1/\x.2<=y.2))->Q (.d (.lst ((qs.map (·.2)).map Dat.int))) M1
theorem VZ {K:PySem.W.Frag}{pos:Pos}{qn:Str}{P:Addr}{i:Nat}{t:TA}{b:AA}(h:jx t b):zD (tGS K (ZD pos qn) P i t) (aGS pos qn P i b):=
 ⟨fun {σ H O ρ M Q Q'} w e q k=>h.go w e q fun xs M1 vs H1 O1 q1 k1 w1 r1=>by
  obtain ⟨n,x,ns,rfl,hx,hs,hn,hz,hM,q2⟩:=q1
  obtain ⟨v,rfl,rv⟩:=qr r1
  obtain ⟨a,rfl,hra⟩:∃ a,v=.ref a/\H1 a=some (Qe a 0 (n:Nat) 1):=by cases rv with | rng _ e=>exact ⟨_,rfl,e⟩
  obtain ⟨u,hu,ru⟩:=(e.ext k1).get i x hx
  obtain ⟨l,xs,rfl,hl,rl⟩:=ku w1 ru hs
  rw [jd rl] at hl
  have nP:M1 P ≠ none:=by rw [hM];exact fun z=>nomatch z
  have oP:O1 P:=w1.own P nP
  obtain ⟨ps,hP,htb⟩:=w1.mo P _ hM
  refine ⟨a,l,n,ns,rfl,hra,hu,hl.imp SqL.of SqT.of,hn,hz,⟨ps,hP,htb.imp id fun ⟨c,oc,u,h1,_,h2⟩=>⟨c,oc,u,h1,h2⟩⟩,fun H' d qs hk hd0 hd hT hfr hp hpw=>?_⟩
  have kx:Ext H1 O1 M1 H' O1 M1:=⟨fun b o hb e=>⟨hk b o (fun z=>hb (z ▸ oP)) e,hb⟩,fun b hb e=>by
   obtain ⟨o,eo,_⟩:=w1.al b hb
   exact ⟨(hk b o (fun z=>nP (z ▸ e)) eo).trans eo.symm,hb,e⟩,fun _ z=>z⟩
  have w':Wf H' O1 M1:=by
   refine ⟨fun b mo e=>?_,w1.own,fun b hb=>?_⟩
   ·by_cases hb:b=P
    ·subst hb
     rw [hM] at e;cases e
     obtain ⟨ps',hP',ht'⟩:=hT
     refine ⟨ps',hP',ht'.imp id fun ⟨c,oc,u,h1,h2⟩=>⟨c,oc,u,h1,?_,h2⟩⟩
     rcases hfr c oc u ps' hP' h1 h2 with h3 | ⟨h3,h4⟩
     ·exact (w1.fresh h3).1
     ·rw [hP] at h3;cases h3
      rcases htb with rfl | ⟨c0,oc0,u0,h5,h6,_⟩
      ·exact absurd h1.1 (by simp)
      ·have:c=c0:=by have:=h1.1.symm.trans h5.1;simpa using this
       exact this ▸ h6
    ·obtain ⟨o,eo,_⟩:=w1.al b (w1.own b (by rw [e];exact fun z=>nomatch z))
     exact qj.ext kx ((hk b o hb eo).trans eo.symm) (w1.mo b mo e)
   ·by_cases hb2:b=P
    ·subst hb2
     obtain ⟨ps',hP',_⟩:=hT
     exact ⟨_,hP',fun xs z=>nomatch z⟩
    ·obtain ⟨o,eo,ho⟩:=w1.al b hb
     exact ⟨o,hk b o hb2 eo,ho⟩
  refine k _ _ _ _ _ (q2 qs hp hpw) (k1.trans kx) w' (Rep.lst (w1.fresh hd0).1 hd (by simp) fun j y z e1 e2=>?_)
  rw [List.getElem?_map] at e1 e2
  cases hj:(qs.map (·.2))[j]? with
  | none=>rw [hj] at e1;cases e1
  | some g=>rw [hj] at e1 e2;cases e1;cases e2;exact .int⟩
end L2
namespace L2
open PySem PySem.Spec PyProof.Rows PySem.W
noncomputable def AtC (K:PySem.W.Frag)(mg:Str->Option Value)(x:Str)(st:Stmt)(c:Addr):Prop:=∃ f fd,Fun K x x st f fd/\mg x=some (.ref f)/\fd.code=.ref c
theorem Yt {P:Program}{w:World}{K:PySem.W.Frag}{mg:Str->Option Value}{base:Heap}{x:Str}{st:Stmt}{c:Addr}{N ps:List Str}{k:Nat}{sp:Sp}(a:AtC K mg x st c)(S:zw N ps (zg st))
  (hb:∀ (kV doc pm:Value) (an:Option Addr) (cdv ct:Value) (us:List Value),us.length=ps.length->bindArgs (PySem.W.fnOf x x (qe st) (zG st) (zg st) .none kV doc pm an cdv ct) ⟨us,[]⟩=pure (ps.zip us))
  (len:∀ vs H Q E,sp vs H Q E->vs.length=ps.length)
  (hbody:∀ (f:Addr) (A:Around) (outer:List Env) (s:Shared) (H:Hp) (vs:List V) (Q:VK) (E:XK),z0 k (A.deeper (envOfC x (zg st) s.heap.objs.size f (.ref c)))->sp vs H Q E ->
   ∃ t,PSs (kC CX0 P w K mg base N x (zg st) f (.ref c) A outer s H E).nox (zG st) t/\t { nx:=fun _ H'=>Q .non H',rt:=Q } (qp N vs) H):Df P w K mg base x ps (k+1) sp:=by
 obtain ⟨f,fd,F,m,hc⟩:=a
 obtain ⟨oc,od,kV,doc,pm,an,cdv,ct,osl,e,lk,hcd⟩:=id F.ex
 obtain rfl:cdv=.ref c:=by rw [e] at hc;exact hc
 refine ⟨f,fd,?_,F.binds hb,F.kp,m,oc,od,osl,lk⟩
 subst e
 refine Ya lk hcd S len fun A outer s H vs Q E hr hsp=>?_
 obtain ⟨t,h,q⟩:=hbody f A outer s H vs Q E hr hsp
 exact ⟨t,h.nox,q⟩
theorem Ah {P:Program}{w:World}{K:PySem.W.Frag}{mg:Str->Option Value}{base:Heap}{x:Str}{st:Stmt}{c:Addr}{N ps:List Str}{k:Nat}{a:ASp}(at_:AtC K mg x st c)(S:zw N ps (zg st))
  (hb:∀ (kV doc pm:Value) (an:Option Addr) (cdv ct:Value) (us:List Value),us.length=ps.length->bindArgs (PySem.W.fnOf x x (qe st) (zG st) (zg st) .none kV doc pm an cdv ct) ⟨us,[]⟩=pure (ps.zip us))
  (len:∀ xs M Q,a xs M Q->xs.length=ps.length)
  (hbody:∀ (f:Addr) (A:Around) (outer:List Env) (s:Shared) (H:Hp) (E:XK),z0 k (A.deeper (envOfC x (zg st) s.heap.objs.size f (.ref c))) ->
   ∃ t,PSs (kC CX0 P w K mg base N x (zg st) f (.ref c) A outer s H E).nox (zG st) t/\∃ b,jo t b/\∀ xs M Q,a xs M Q->b M { nx:=fun _ M'=>rtA M Q (.d .non) M',rt:=rtA M Q } (qy N xs) M):Df P w K mg base x ps (k+1) (cSp a):=by
 refine Yt at_ S hb (fun vs H Q E h=>?_) (fun f A outer s H vs Q E hr h=>?_)
 ·obtain ⟨xs,M,O,Q',w,r,q,_⟩:=h
  rw [r.1];exact len xs M Q' q
 ·obtain ⟨t,ht,b,hb,hq⟩:=hbody f A outer s H E hr
  refine ⟨t,ht,?_⟩
  obtain ⟨xs,M,O,Q',w,r,q,kk⟩:=h
  refine hb.go w w (yE r N) .refl (hq xs M Q' q) ⟨fun σ H' O' ρ M' w' e' x' q'=>?_,fun v y H' O' M' w' x' r' q'=>?_,fun _ _ _ _ _ _ _ _ z=>z.elim,fun _ _ _ _ _ _ _ _ z=>z.elim⟩
  ·obtain ⟨y',M'',f,q2⟩:=q'
   obtain ⟨O'',w2,k2,r2⟩:=xQ w w' x' (show zj H' O' M' .non (.d .non) from .non) f
   exact kk _ _ _ _ _ q2 k2 w2 r2
  ·obtain ⟨y',M'',f,q2⟩:=q'
   obtain ⟨O'',w2,k2,r2⟩:=xQ w w' x' r' f
   exact kk _ _ _ _ _ q2 k2 w2 r2
structure xD (mg:Str->Option Value)(base:Heap)(c P:Addr):Prop where
 ch:CodeHd base c P
 bh:base.BuiltinsAt mg P
 gp:mainGlobals ≠ P
noncomputable def kT (K:PySem.W.Frag)(mg:Str->Option Value)(x:Str)(c:Addr):Prop:=∀ f fd oc od sl,mg x=some (.ref f)->K.lookup f=some ⟨oc,od,.func fd,sl⟩->fd.code=.ref c
theorem At.code {K:PySem.W.Frag}{mg:Str->Option Value}{x:Str}{st:Stmt}{c:Addr}(a:At K mg x st)(h:kT K mg x c):AtC K mg x st c:=by
 obtain ⟨f,fd,F,m⟩:=a
 obtain ⟨oc,od,kV,doc,pm,an,cdv,ct,osl,e,lk,hcd⟩:=id F.ex
 exact ⟨f,fd,F,m,h f fd oc od osl m lk⟩
noncomputable def wK (P:Addr)(H:Hp):Prop:=H P=some (.tbl #[])/\∀ b,b ≠ P->H b=none \/ ∃ o xs,H b=some (.frz o (.lst xs))
theorem Z0 {P:Program}{w:World}{K:PySem.W.Frag}{mg mb:Str->Option Value}{CX:CXT}{k:Nat}{fa a c T:Addr}{fd:FuncData}{x:Str}{sp:Sp}{s₁:Shared}{vs:List Value}{ns:List Int}
  (KX:K.In s₁.heap) (hns:s₁.heap.Ns mainGlobals mg) (hb:s₁.heap.Ns builtinsNs mb) (hbb:∀ x:Str,x ≠ "__name__"->mb x=bootBuiltins x) (hlim:s₁.heap.NoLimit) (hg:s₁.gens=#[])
  (hK0:K.lookup T=none) (hTh:s₁.heap.get? T=some (tabObj #[])) (hC:CodeHd s₁.heap c T) (hB:∃ bm ob,mg "__builtins__"=some (.ref bm)/\bm ≠ builtinsNs/\s₁.heap.get? bm=some ob/\ob.cls=.type "module"/\ob.dict=some builtinsNs/\ob.data=.plain)
  (ha:s₁.heap.get? a=some { cls:=.type "list",data:=.seq vs.toArray }) (hi:IntsAre vs ns) (hl:ns.length<=sizeLine) (hr:z0 k callerA)
  (F:∀ base:Heap,K.In base->base.Ns mainGlobals mg->xD mg base c T->qN P w K mg base CX k fa fd [x] sp) (hbind:∀ (s:Shared) (u:Value),BindsTo s fd ⟨[u],[]⟩ [(x,u)])
  (hsp:∀ H:Hp,wK T H->SqL K H a (ns.map V.int)->sp [.ref a] H (fun v _=>v=.bl true) fun _ _ _=>False)
  (hCX:∀ H e s',CX [] H s₁ (fun _ _ _=>False) e s'->False) :
  codeAny (model P w) callerA (.call (.ref fa) ⟨[.ref a],[]⟩) (fun r s'=>r=.ok (.ret (.bool true))/\OldK s₁.heap s'.heap/\s'.os=s₁.os/\AllBare s'.gens) s₁:=by
 have rv:=qq hi
 have lenV:=hi.length
 have naT:a ≠ T:=fun z=>by rw [z,hTh] at ha;cases ha
 have core:∀ H:Hp,wK T H->SqL K H a (ns.map V.int)->HOk P w H s₁.heap->(∀ b,H b ≠ none->b=a \/ b=T)->(H a ≠ none->K.lookup a=none) ->
   codeAny (model P w) callerA (.call (.ref fa) ⟨[.ref a],[]⟩) (fun r s'=>r=.ok (.ret (.bool true))/\OldK s₁.heap s'.heap/\s'.os=s₁.os/\AllBare s'.gens) s₁:=by
  intro H hO hS hok hA hK
  have base_of:∀ {b:Addr} {o:Obj},s₁.heap.get? b=some o->H b=none->(jz s₁.heap H).get? b=some o:=fun e n=>vg e n
  have noA:∀ {b:Addr} {o:Obj} {es:Array DictEntry} {ep:Nat},s₁.heap.get? b=some o->o.data=.dict es ep->H b=none:=fun {b o es ep} e d=>by
   cases q:H b with
   | none=>rfl
   | some u=>
    rcases hA b (by rw [q];simp) with e' | e'
    ·subst e'
     rw [ha] at e;cases e
     have d':Data.seq vs.toArray _=Data.dict es ep:=d
     cases d'
    ·subst e'
     rw [hTh] at e;cases e
     have d':Data.fields #[]=Data.dict es ep:=d
     cases d'
  have nsK:∀ {b:Addr} {m:Str->Option Value},s₁.heap.Ns b m->(jz s₁.heap H).Ns b m:=fun {b m} ⟨o,es,ep,e,d,r⟩=>⟨o,es,ep,base_of e (noA e d),d,r⟩
  have hKb:K.In (jz s₁.heap H):=fun b o e=>by
   have nb:b ≠ T:=fun z=>by rw [z,hK0] at e;cases e
   refine base_of (KX b o e) ?_
   cases q:H b with
   | none=>rfl
   | some u=>
    rcases hA b (by rw [q];simp) with e' | e'
    ·subst e'
     rw [hK (by rw [q];simp)] at e;cases e
    ·exact absurd e' nb
  have hM:Mod K mg (jz s₁.heap H):=⟨hKb,nsK hns,⟨mb,nsK hb,hbb⟩,let ⟨mc,h1,h2⟩:=hlim;⟨mc,nsK h1,h2⟩⟩
  have e0:Ji P w K mg (jz s₁.heap H) callerA [] s₁ H:=⟨rfl,hM,fun b o e=>Zb e,Nat.le_of_eq (xw _ _),trivial,fun b hb=>absurd (show b ∈ ([]:List Addr) from hb) (by simp),hok,.of_eq hg⟩
  have hL:xD mg (jz s₁.heap H) c T:=by
   obtain ⟨o,vs,file,tf,flags,tg,inF,text,tt,g1,g2,g3,g4⟩:=id hC
   have hcT:c ≠ T:=g4.2.2.2.2.2.2
   have hca:c ≠ a:=fun z=>by rw [z,ha] at g1;cases g1;simp at g2
   have free:∀ b,b ≠ a->b ≠ T->H b=none:=fun b h1 h2=>by
    cases q:H b with
    | none=>rfl
    | some u=>exact ((hA b (by rw [q];simp)).elim h1 h2).elim
   obtain ⟨bm,ob,b1,b2,b3,b4,b5,b6⟩:=hB
   have nba:bm ≠ a:=fun z=>by rw [z,ha] at b3;cases b3;simp at b4
   have nbT:bm ≠ T:=fun z=>by rw [z,hTh] at b3;cases b3;cases b4
   obtain ⟨go,ges,gep,ge,gd,gr⟩:=id hns
   have nbG:bm ≠ mainGlobals:=fun z=>by rw [z,ge] at b3;cases b3;rw [gd] at b6;cases b6
   have ngT:mainGlobals ≠ T:=fun z=>by rw [z,hTh] at ge;cases ge;cases gd
   exact ⟨⟨o,vs,file,tf,flags,tg,inF,text,tt,base_of g1 (free c hca hcT),g2,g3,g4⟩,⟨bm,ob,b1,b2,nbG,nbT,base_of b3 (free bm nba nbT),b4,b5,b6⟩,ngT⟩
  refine codeAny_mono ((F _ hKb (nsK hns) hL).run callerA [] s₁ H ⟨[.ref a],[]⟩ [.ref a] [.ref a] _ _ hr e0 (hbind s₁ (.ref a)) (.cons rfl .nil) (hsp H hO hS)) fun r s' h=>?_
  cases r with
  | error e=>exact (hCX H e s' h).elim
  | ok fl=>
   cases fl with
   | next=>exact False.elim h
   | brk=>exact False.elim h
   | cont=>exact False.elim h
   | ret u=>
    obtain ⟨v,H',os,bare,un,hok',r',q⟩:=h
    have q':v=.bl true:=q
    subst q'
    obtain rfl:u=Value.bool true:=r'
    obtain ⟨more,hm⟩:=un.tbls T _ hO.1
    have hT':s'.heap.get? T=some (tabObj (#[] ++ more)):=hok' T _ hm
    have keep:∀ b o,b ≠ T->s₁.heap.get? b=some o->s'.heap.get? b=some o:=fun b o hb e=>by
     cases q:H b with
     | none=>exact un.keep b o e q (by intro z;exact absurd (show b ∈ ([]:List Addr) from z) (by simp)) (by simp)
     | some u=>
      rcases hO.2 b hb with z | ⟨ob,xs,z⟩
      ·rw [q] at z;cases z
      ·have z2:=un.frzs b ob _ z
       obtain ⟨e1,_⟩:=hok b _ z
       obtain ⟨e2,_⟩:=hok' b _ z2
       rw [e] at e1;cases e1
       exact e2
    refine ⟨rfl,⟨fun b o e=>?_,fun b o e=>?_⟩,os,bare⟩
    ·by_cases hb:b=T
     ·subst hb
      rw [hTh] at e;cases e
      exact .inr (.inl ⟨(hC.tab hTh).isCodeTable,rfl,#[],more,rfl,hT'⟩)
     ·exact .inl (keep b o hb e)
    ·by_cases hb:b=T
     ·exact ⟨_,by rw [hb];exact hT'⟩
     ·exact ⟨o,keep b o hb e⟩
 cases hk:K.lookup a with
 | some o=>
  have e:=KX a o hk
  rw [ha] at e
  cases e
  refine core (fun b=>if b=T then some (.tbl #[]) else none) ⟨if_pos rfl,fun b hb=>.inl (if_neg hb)⟩ (.inr ⟨_,vs.toArray,_,hk,rfl,rfl,rfl,by rw [List.size_toArray,lenV];exact hl,by simpa using rv⟩) (fun b u z=>?_) (fun b z=>?_) fun z=>absurd (if_neg naT) z
  ·by_cases hb:b=T
   ·have z':=(if_pos hb).symm.trans z
    cases z'
    subst hb
    exact hTh
   ·have z':=(if_neg hb).symm.trans z
    cases z'
  ·by_cases hb:b=T
   ·exact .inr hb
   ·exact absurd (if_neg hb) z
 | none=>
  have at_a:(fun b=>if b=T then some (HO.tbl #[]) else if b=a then some (.frz { cls:=.type "list",data:=.seq vs.toArray } (.lst (ns.map V.int))) else none) a=some (.frz { cls:=.type "list",data:=.seq vs.toArray } (.lst (ns.map V.int))):=(if_neg naT).trans (if_pos rfl)
  refine core (fun b=>if b=T then some (.tbl #[]) else if b=a then some (.frz { cls:=.type "list",data:=.seq vs.toArray } (.lst (ns.map V.int))) else none) ⟨if_pos rfl,fun b hb=>?_⟩ (.inl (.inr ⟨{ cls:=.type "list",data:=.seq vs.toArray },at_a⟩)) (fun b u z=>?_) (fun b z=>?_) fun _=>hk
  ·by_cases hb2:b=a
   ·exact .inr ⟨_,_,(if_neg hb).trans (if_pos hb2)⟩
   ·exact .inl ((if_neg hb).trans (if_neg hb2))
  ·by_cases hb:b=T
   ·have z':=(if_pos hb).symm.trans z
    cases z'
    subst hb
    exact hTh
   ·by_cases hb2:b=a
    ·have z':=((if_neg hb).trans (if_pos hb2)).symm.trans z
     cases z'
     subst hb2
     exact ⟨ha,by rw [List.length_map];exact hl,vs,_,rv,ha⟩
    ·have z':=((if_neg hb).trans (if_neg hb2)).symm.trans z
     cases z'
  ·by_cases hb:b=T
   ·exact .inr hb
   ·by_cases hb2:b=a
    ·exact .inl hb2
    ·exact absurd ((if_neg hb).trans (if_neg hb2)) z
theorem Qv {K:PySem.W.Frag}{h:Heap}{T:Addr}{ps:Array Value}(X:K.In h)(hK:noTabs K=true)(hT:h.get? T=some (tabObj ps)):K.lookup T=none:=by
 cases e:K.lookup T with
 | none=>rfl
 | some o=>
  have h1:=X _ _ e
  rw [hT] at h1;cases h1
  have h2:=List.all_eq_true.mp hK _ (mem_of_lookupK e)
  exact absurd (show false=true from h2) Bool.false_ne_true
theorem walk_ofT {l:PySem.W.OpenLaw}{n k:Nat}{q:Program}{loose:List Str}{XP:(Str->Option Value)->Heap->Prop}{YP:World->Heap->Prop}{d:DefRec}{K:Params->PySem.W.Frag}{CX:CXT}{sp:Addr->PySem.W.Frag->Sp}{x:Str}{gn:Str}
  (hn:l.most=some n) (hn2:n<=sizeLine) (hdf:d.params.defaults=[]) (hr:z0 k callerA)
  (hY:∀ (w:World) (h:Heap),YP w h->(K w.params).In h) (hgd:gn ∈ (recsOf q).map (·.name)) (hnt:∀ w:World,noTabs (K w.params)=true)
  (F:∀ (w:World) (mg:Str->Option Value) (fa c T:Addr) (h:Heap),(K w.params).In h->h.Ns mainGlobals mg->mg d.name=some (.ref fa)->kT (K w.params) mg gn c ->
   ∃ fd:FuncData,(∀ (s:Shared) (u:Value),BindsTo s fd ⟨[u],[]⟩ [(x,u)]) /\
    ∀ base:Heap,(K w.params).In base->base.Ns mainGlobals mg->xD mg base c T->qN l.prog w (K w.params) mg base CX k fa fd [x] (sp T (K w.params)))
  (hsp:∀ (T:Addr) (K:PySem.W.Frag) (H:Hp) (a:Addr) (ns:List Int),ns.length<=n->wK T H->SqL K H a (ns.map V.int)->sp T K [.ref a] H (fun v _=>v=.bl true) fun _ _ _=>False)
  (hCX:∀ (H:Hp) (s:Shared) (e:Value) (s':Shared),CX [] H s (fun _ _ _=>False) e s'->False) :
  PySem.W.WalkO q loose XP YP l.row.toRowW d [] (fun f vs=>PySem.call f vs):=by
 refine Att.attach_call hn hdf fun w s₀ s₁ mg mb fa o pm cd doc a vs ns G Y ho hd hcd hmg hobj hints hlen hg=>?_
 have KX:=hY w _ Y
 obtain ⟨gd,hgm,rfl⟩:=List.mem_map.mp hgd
 obtain ⟨ga,go,gf,c,T,t1,t2,t3,t4,t5,t6⟩:=G.T.tab gd hgm
 have hca:kT (K w.params) mg gd.name c:=fun f fd oc od sl m lk=>by
  rw [t1] at m;cases m
  have:=KX _ _ lk
  rw [t2] at this;cases this
  cases t3
  exact t4
 obtain ⟨fd,hb,hF⟩:=F w mg fa c T _ KX G.T.g hmg hca
 exact Z0 KX G.T.g G.T.b G.T.builtins G.T.nolimit hg (Qv KX (hnt w) t6.2) t6.2 (CodeHd.of t5 t6) G.T.bmain hobj hints (Nat.le_trans hlen hn2) hr hF hb (fun H hO hS=>hsp T _ H a ns hlen hO hS) fun H e s'=>hCX H s₁ e s'
end L2
namespace Ot
open PySem PySem.Spec PyProof.Rows L2
noncomputable def top (i:Nat):Stmt:=PySem.Challenge.pw_ownturn_k45_kinds_gathered.main.body.getD i (.Pass ⟨0,0,0,0⟩)
section
variable {P:Program}{w:World}{K:PySem.W.Frag}{mg:Str->Option Value}{base:Heap}{k:Nat}
local macro_rules | `(tactic| walk_at "rd")=>`(tactic| try simp only [Kb,Wk,VJ,Kk,tOp,tUn,rU,XF,tC,tB,Wu,WN,wG,rI0,rI,JN,yW,YZ,QU,J3,KF,Jw,VP,We,tCB,JV,Yx,Yb,Zr,X3,vG,WF,Vx,rEq,VB,Y9,tBM,kl,Zh,Qg,wm,Wj,KU,wn,ZX,ZJ,tOr,V6,Jl,wR,Q5,cxK,Ql,iLT,X7,xL,tSl,Ku,yb,YM,List.append_nil,
 List.getElem?_cons_zero,List.getElem?_cons_succ,Option.some.injEq,exists_eq_left',exists_eq_left,V.int.injEq,V.ref.injEq,V.bl.injEq,List.cons.injEq,and_true,true_and,and_assoc,decide_eq_true_eq,Bool.not_eq_true',decide_eq_false_iff_not,Bool.false_eq_true,if_false,if_true,reduceIte,exists_and_left,exists_and_right,List.set_cons_zero,List.set_cons_succ,List.nil_append,List.cons_append])
theorem qV {H:Hp}{a b:Addr}{o:HO}(h':H b=none)(h:H a=some o):a ≠ b:=ze h h'
theorem vn {H H':Hp}{l:Addr}(h:H' l=none)(e:Kp [] H H'):H l=none:=e.free h
theorem wu {K:PySem.W.Frag}{H H':Hp}{a:Addr}{xs:List V}(h:SqL K H a xs)(e:Kp [] H H'):SqL K H' a xs:=by
 rcases h with (h | ⟨o,h⟩) | h
 ·exact .inl (.inl (e _ _ (by simp) h))
 ·exact .inl (.inr ⟨o,e _ _ (by simp) h⟩)
 ·exact .inr h
theorem hsl:100000<sizeLine:=by rw [sizeLine_eq];decide
theorem Y2 {α:Type}(k:Nat)(v:α):(List.replicate k [v]).flatten=List.replicate k v:=by simp
theorem qJ (i:Int){j:Int}(h:0<j):0<=i % j/\i % j<j:=⟨Int.emod_nonneg _ (by omega),Int.emod_lt_of_pos _ h⟩
theorem YY {i j:Int}(h1:0<=i)(h2:i<18446744073709551616):JL i j:=.inl ⟨by omega,by omega⟩
theorem Kc {i j:Int}(h1:0<=j)(h2:j<18446744073709551616):JL i j:=.inr ⟨by omega,by omega⟩
theorem b01 (c:Prop)[Decidable c]:0<=(if c then (1:Int) else 0):=by split <;> decide
theorem Xv {i j:Int}(h1:0<j)(h2:j<1073741824):YD i j:=⟨h1,h2⟩
local macro_rules | `(tactic| walk_at "ne")=>`(tactic| first | (with_reducible assumption) | exact Ne.symm (by with_reducible assumption) | exact qV (by with_reducible assumption) (by walk_at "hp") | exact Ne.symm (qV (by with_reducible assumption) (by walk_at "hp")))
local macro_rules | `(tactic| walk_at "hp")=>`(tactic| first | (with_reducible assumption) | (with_reducible exact zi) | ((with_reducible refine Eq.trans (zf ?ne) ?_);(case ne=>walk_at "ne");walk_at "hp"))
local macro_rules | `(tactic| walk_at "kp")=>`(tactic| first | (with_reducible assumption) | (with_reducible exact Kp.refl) | ((with_reducible refine Kp.trans ?_ (Kp.new _ ?h));(case h=>with_reducible assumption);walk_at "kp") | ((with_reducible refine Kp.trans ?_ (Kp.set _ ?h));(case h=>(simp;done));walk_at "kp"))
local macro_rules | `(tactic| walk_at "fr")=>`(tactic| first | (with_reducible assumption) | exact vn (by with_reducible assumption) (by walk_at "kp"))
local macro_rules | `(tactic| walk_at "sz")=>`(tactic| (simp only [List.length_cons,List.length_nil,List.length_map,List.length_append,List.length_replicate,List.length_take,List.length_drop,qw,Y2,Nat.zero_add,Nat.one_mul];omega))
local macro_rules | `(tactic| walk_at "fact")=>`(tactic| first | (with_reducible assumption) | exact rfl | exact SqL.of (by walk_at "hp") | exact SqT.of (by walk_at "hp") | exact Or.inl (SqL.of (by walk_at "hp")) | exact Or.inr (SqT.of (by walk_at "hp")) | exact Or.inl (by with_reducible assumption) | exact wu (by with_reducible assumption) (by walk_at "kp") | exact Or.inl (wu (by with_reducible assumption) (by walk_at "kp")) | exact Exists.intro _ (SqL.of (by walk_at "hp")) | exact Exists.intro _ (wu (by with_reducible assumption) (by walk_at "kp")) | (walk_at "hp") | decide | omega | exact YY (by omega) (by omega) | exact Kc (by omega) (by omega) | exact Xv (by omega) (by omega) | exact ⟨by omega,by omega⟩ | (walk_at "sz") | exact ⟨by decide,by decide,by decide⟩ | exact Kc (b01 _) (b01' _) | (walk_at "fr"))
local macro_rules | `(tactic| walk_at "x1")=>`(tactic| first
 | ((with_reducible refine Exists.intro ?w (And.intro ?h ?_));(case h=>walk_at "fact"))
 | ((with_reducible refine And.intro ?h ?_);(case h=>walk_at "fact"))
 | ((with_reducible refine Exists.intro ?w (Exists.intro ?w2 (And.intro ?h ?_)));(case h=>walk_at "fact")))
local macro_rules | `(tactic| walk_at "xs")=>`(tactic| repeat walk_at "x1")
local macro_rules | `(tactic| walk_at "sim1") => `(tactic| first
 | ((with_reducible apply simX_tryR exs_def);intro HX_ OX_ MX_ E_ EA_ hE_)
 | ((with_reducible apply sim_try);intro HX_ OX_ MX_ E_ EA_ hE_)
 | ((with_reducible apply sim_try0);intro HX_ OX_ MX_ E_ EA_ hE_)
 | (with_reducible first | assumption | apply J5 | exact Xn | exact VL | exact VN | exact VS | exact VW | exact Xw | exact QX | exact ZS | exact Qy | exact K2 | exact QC | exact Xl | exact V8 | exact XG | exact QK | exact Kt | exact XY | exact Wc | exact QL | exact KY | exact YL | exact Qx | exact Zz | exact KQ | exact JH | exact Xq | exact QF | exact wj | exact ZE | exact Jq | exact xH | exact jH | apply KH | apply XD | apply XA | apply Xc | apply JF | apply XJ | apply JY | apply ZZ | apply Je | apply QN | apply WG | apply VI | apply K8 | apply Vn | apply XH | apply Y1 | apply Xd | apply QT | apply XE | apply Jj | apply Ke | apply XC | apply Yo | apply V4 | apply yP | apply QS | apply Xp | apply Xo | apply xS | apply ZT | apply KZ | apply Ys | apply ZO | apply vA | apply VZ | apply VX | apply xM))
local macro_rules | `(tactic| walk_at "sim")=>`(tactic| repeat' walk_at "sim1")
local macro_rules | `(tactic| walk_at "ra")=>`(tactic| try simp only [kD,aGS,jq,aC,aOp,aUn,kM,qa,aCB,wJ,aFz,aOw,WL,YF,aB,kG,WS,aOr,Wb,Jk,kI,yQ,X9,Y6,JW,jb,wA,j5,wU,Yc,asL,WI,WV,aiS,WE,aiE,Vi,jI,Zj,aI,aI0,aU,VF,aIx,fOp,WK,WJ,Ye,fSl,WH,ZH,V5,bI2,Yh,Ja,fCB,Ju,XS,QP,VR,X8,aBM,wD,Qh,XU,Vl,J7,VY,Kl,Kv,WC,WM,WB,WR,WX,WW,JI,ZF,Option.map_some,Jo,Jz,QE,KC,wf,vN,Jy,wd,Qr,V2,Vq,Qq,wk,Ka,VV,Vp,YN,Wa,xZ,Ve,Vy,VH,Yr,vP,VQ,Vb,VO,YH,YX,wt,YU,Vf,YO,Ym,vT,Yz,K6,Zx,qv,zA,Xz,ju,X4,Y8,V1,V0,Xi,KP,K9,Xt,Xk,KJ,XB,jy,vo,jW,wc,wx,vR,yn,Jm,Wd,Vj,YV,Wg,V9,YE,id,decide_true,decide_false,Bool.decide_eq_true,not_true_eq_false,not_false_eq_true,wY,
 List.getElem?_cons_zero,List.getElem?_cons_succ,Option.some.injEq,exists_eq_left',exists_eq_left,AV.d.injEq,AV.ref.injEq,Dat.int.injEq,Dat.bl.injEq,Dat.str.injEq,Dat.lst.injEq,Dat.tup.injEq,Dat.ty.injEq,List.cons.injEq,and_true,true_and,and_assoc,decide_eq_true_eq,Bool.not_eq_true',decide_eq_false_iff_not,Bool.false_eq_true,if_false,if_true,reduceIte,exists_and_left,exists_and_right,List.set_cons_zero,List.set_cons_succ,List.nil_append,List.cons_append,List.length_map,List.map_cons,List.map_nil,Nat.zero_le,Bool.not_true,Bool.not_false,Bool.true_eq_false,eq_self,List.length_cons,List.length_nil])
local macro_rules | `(tactic| walk_at "sk")=>`(tactic| (refine zo fun r9 hr9=>?_;walk_at "ra";refine ⟨_,rfl,_,rfl,by rw [jW];omega,?_⟩;rw [yn,if_neg (by decide +kernel)];subst hr9))
theorem yB (ns:List Int)(lo hi:Option Int):yO (ns.map V.int) lo hi=List.map V.int ((ns.drop (HT.sIx ns.length 0 lo)).take (HT.sIx ns.length ns.length hi - HT.sIx ns.length 0 lo)):=by
 unfold yO
 rw [List.length_map,<- List.map_drop,<- List.map_take]
theorem Za (cs:List Int)(j:Nat)(v:Int):(cs.map V.int).set j (.int v)=(cs.set j v).map V.int:=by rw [List.map_set]
theorem j8 {cs:List Int}{k:Int}(h0:0<=k)(h1:k<cs.length):ixN (cs.map V.int).length k=some k.toNat/\atI (cs.map V.int) k=some (.int (cs.getD k.toNat 0)):=by
 have hk:k.toNat<cs.length:=by omega
 have e1:ixN (cs.map V.int).length k=some k.toNat:=by unfold ixN;rw [List.length_map,if_pos h0,if_pos h1]
 refine ⟨e1,?_⟩
 unfold atI
 rw [e1]
 show (cs.map V.int)[k.toNat]?=_
 rw [List.getElem?_map,List.getD_eq_getElem?_getD,List.getElem?_eq_getElem hk];rfl
theorem yd {ns:List Int}{i:Nat}{x:V}(h:(ns.map V.int)[i]?=some x):x=.int (ns.getD i 0)/\i<ns.length:=by
 rw [List.getElem?_map] at h
 cases e:ns[i]? with
 | none=>rw [e] at h;cases h
 | some v=>
  rw [e] at h
  cases h
  exact ⟨by rw [List.getD_eq_getElem?_getD,e];rfl,(List.getElem?_eq_some_iff.mp e).1⟩
noncomputable abbrev vW:Stmt:=top 6
theorem wz:zw ["_law_box_here","_law_many","_law_once","_law_found"] ["_law_box_here","_law_many"] (zg vW):=⟨rfl,rfl,rfl,by decide +kernel,rfl,by decide +kernel,by decide +kernel⟩
noncomputable def vO:Sp:=fun vs H Q _=>∃ (b:Addr) (many:Int) (N:Nat),vs=[.ref b,.int many]/\Bx H b N/\N<1000000000/\0<many/\many<1073741824/\∀ r H',Kp [b] H H'->Bx H' b (N+1)->0<=r->r<many->Q (.int r) H'
theorem KI (a:At K mg "_law_take" vW)(B:Blt mg):Df P w K mg base "_law_take" ["_law_box_here","_law_many"] 1 vO:=by
 refine xq (k:=0) a wz (fun _ _ _ _ _ _=>Pn2_ fun _ _=>rfl) (fun vs H Q E h=>?_) (fun f cdv A outer s H vs Q E hr h=>?_)
 ·obtain ⟨b,m,N,rfl,_⟩:=h;rfl
 obtain ⟨b,m,N,rfl,⟨x,y,z,hb,hx,hy,hy',hz,hz'⟩,hN,hm,hm',q⟩:=h
 have sc:=wz
 refine ⟨_,(zh (qX (qc WU (zY zL (pv 0) zd (fun _ _=>rfl)) zd (zC _)) (zh (ko (zn yM rfl B.divmod Zu (za (zY zL (pv 0) zd (fun _ _=>rfl)) (za (pv 1) zc))) (jM (K:=K) 2 rfl rfl (zT (kH (pv 0) zd qE) (zT (zH (i:=3) sc.nd rfl (by first | exact Or.inl rfl | exact Or.inr rfl)) jK))))
  (zq (zN (pv 3)))) zX)
  (zh (ko (zt qb (zY zL (pv 0) zd (fun _ _=>rfl)) zd) (kH (pv 0) zd qE))
  (zh (zK (i:=2) sc.nd rfl (by first | exact Or.inl rfl | exact Or.inr rfl) (zt qt (zt qQ (zt qb (zY zL (pv 0) zd (fun _ _=>rfl)) (zt qQ zd (zY zL (pv 0) zd (fun _ _=>rfl)))) (zt qb zd (zY zL (pv 0) zd (fun _ _=>rfl)))) zd))
  (zh (ko (zt qt (zt qb (zt qQ (pv 2) (zt qb (zt qt (pv 2) zd) zd)) (zY zL (pv 0) zd (fun _ _=>rfl))) zd) (kH (pv 0) zd qE))
  (zq (zN (zt qt (zt Zq (zt qt (zt qQ (zY zL (pv 0) zd (fun _ _=>rfl)) (zt qb (zt qt (zY zL (pv 0) zd (fun _ _=>rfl)) zd) zd)) zd) zd) (pv 1)))))))),?_⟩
 rw [show qp ["_law_box_here","_law_many","_law_once","_law_found"] [V.ref b,V.int m]=[some (.ref b),some (.int m),none,none] from rfl]
 walk_at "rd"
 walk_at "xs"
 refine Ww (fun c=>?_) (fun c=>?_)
 ·walk_at "xs"
  refine fun p hp=>?_
  walk_at "xs"
  refine q _ _ ((Kp.new _ hp).trans (Kp.set _ (by simp))) ⟨_,_,_,zi,Int.ediv_nonneg hx (by omega),hy,hy',hz,by omega⟩ (qJ x hm).1 (qJ x hm).2
 ·walk_at "xs"
  refine q _ _ ((Kp.set _ (by simp)).trans (Kp.set _ (by simp))) ⟨_,_,_,zi,hx,?_,?_,?_,?_⟩ (qJ _ hm).1 (qJ _ hm).2
  ·exact (qJ _ (by decide)).1
  ·exact Int.lt_trans (qJ _ (by decide)).2 (by decide)
  ·omega
  ·omega
noncomputable abbrev Kw:Stmt:=top 5
theorem Kh:zw ["_law_script","_law_k","_law_cell"] ["_law_script","_law_k"] (zg Kw):=⟨rfl,rfl,rfl,by decide +kernel,rfl,by decide +kernel,by decide +kernel⟩
noncomputable def X2:Sp:=fun vs H Q _=>∃ (a:Addr) (k:Int) (cs:List Int),vs=[.ref a,.int k]/\H a=some (il cs)/\0<=k/\k<=1000/\cs.length<=1000/\∀ p H',Kp [] H H'->H p=none->Bx H' p 0->Q (.ref p) H'
theorem KO {cs:List Int}{k:Int}(h0:0<=k):∃ c:Int,atI (cs.map V.int ++ List.replicate (k+1).toNat (V.int 0)) k=some (.int c):=by
 have e:cs.map V.int ++ List.replicate (k+1).toNat (V.int 0)=(cs ++ List.replicate (k+1).toNat 0).map V.int:=by simp
 have ek:k=((k.toNat:Nat):Int):=by omega
 have hk:k.toNat<(cs ++ List.replicate (k+1).toNat (0:Int)).length:=by rw [List.length_append,List.length_replicate];omega
 refine ⟨(cs ++ List.replicate (k+1).toNat 0)[k.toNat],?_⟩
 rw [e]
 have q:atI ((cs ++ List.replicate (k+1).toNat (0:Int)).map V.int) ((k.toNat:Nat):Int)=some (.int (cs ++ List.replicate (k+1).toNat 0)[k.toNat]):=K1 (by rw [List.getElem?_map,List.getElem?_eq_getElem hk] <;> rfl)
 rw [<- ek] at q
 exact q
theorem Y5 (a:At K mg "_law_box" Kw)(B:Blt mg):Df P w K mg base "_law_box" ["_law_script","_law_k"] 1 X2:=by
 refine xq (k:=0) a Kh (fun _ _ _ _ _ _=>Pn2_ fun _ _=>rfl) (fun vs H Q E h=>?_) (fun f cdv A outer s H vs Q E hr h=>?_)
 ·obtain ⟨a,k,cs,rfl,_⟩:=h;rfl
 obtain ⟨a,k,cs,rfl,ha,hk,hk',hcs,q⟩:=h
 have sc:=Kh
 have hsl:=hsl
 refine ⟨_,(zh (zK (i:=2) sc.nd rfl (by first | exact Or.inl rfl | exact Or.inr rfl) (zY zL (zt Vv (pv 0) (zt Qm (qH (za zd zc)) (zt qb (pv 1) zd))) (pv 1) (fun _ _=>rfl)))
  (zq (zN (qH (za (zt qQ (zn yL rfl B.abs Jf (za (pv 2) zc)) (zQ qC rfl B.int jU (za (qd WY (zn yL rfl B.abs Jf (za (pv 2) zc)) (zt YI zd zd) (zC _)) zc))) (za (zt qt (zt qQ (zt qb (zt qb (zt qt (pv 2) zd) (zt qQ zd (pv 1))) zd) zd) zd) (za zd zc))))))),?_⟩
 rw [show qp ["_law_script","_law_k","_law_cell"] [V.ref a,V.int k]=[some (.ref a),some (.int k),none] from rfl]
 walk_at "rd"
 walk_at "xs"
 intro p1 hp1
 walk_at "xs"
 intro p2 hp2
 walk_at "xs"
 intro p3 hp3
 simp only [Y2] at hp3 ⊢
 obtain ⟨c,hc⟩:=KO (cs:=cs) hk
 walk_at "xs"
 intro p4 hp4
 refine q _ _ (by walk_at "kp") (by walk_at "fr") ⟨_,_,_,zi,?_,?_,?_,?_,?_⟩
 ·exact Int.mul_nonneg (by split <;> omega) (b01 _)
 ·exact (qJ _ (by decide)).1
 ·exact Int.lt_trans (qJ _ (by decide)).2 (by decide)
 ·decide
 ·decide
noncomputable abbrev kr:Stmt:=top 7
theorem xg:zw ["_law_script","_law_many","_law_cells","_law_k","_law_cell"] ["_law_script","_law_many"] (zg kr):=⟨rfl,rfl,rfl,by decide +kernel,rfl,by decide +kernel,by decide +kernel⟩
noncomputable def vb (K:PySem.W.Frag):Sp:=fun vs H Q _=>∃ (a:Addr) (m:Int) (ns:List Int),vs=[.ref a,.int m]/\SqL K H a (ns.map V.int)/\0<m/\m<=60/\ns.length<=63/\∀ p H' cs,Kp [] H H'->H p=none->H' p=some (il cs)->cs.length<=1000->Q (.ref p) H'
theorem Z7 (a:At K mg "_law_folded" kr)(B:Blt mg):Df P w K mg base "_law_folded" ["_law_script","_law_many"] 1 (vb K):=by
 refine xq (k:=0) a xg (fun _ _ _ _ _ _=>Pn2_ fun _ _=>rfl) (fun vs H Q E h=>?_) (fun f cdv A outer s H vs Q E hr h=>?_)
 ·obtain ⟨a,k,cs,rfl,_⟩:=h;rfl
 obtain ⟨a,m,ns,rfl,ha,hm,hm',hns,q⟩:=h
 obtain ⟨M,rfl⟩:∃ M:Nat,m=M:=⟨m.toNat,by omega⟩
 have sc:=xg
 have hsl:=hsl
 refine ⟨_,(zh (zK (i:=2) sc.nd rfl (by first | exact Or.inl rfl | exact Or.inr rfl) (zQ jE rfl B.list jg (za (kW xO (pv 0) kh (jB (pv 1))) zc)))
  (zh (yf PassesOwn.never rfl (Xb rfl B.enumerate (za (kW xO (pv 0) (jB (pv 1)) (jB zd)) zc)) (jM (K:=K) 2 rfl rfl (zT (zH (i:=3) sc.nd rfl (by first | exact Or.inl rfl | exact Or.inr rfl)) (zT (zH (i:=4) sc.nd rfl (by first | exact Or.inl rfl | exact Or.inr rfl)) jK))) (zq (ko (zt qb (zY zL (pv 2) (zt qt (pv 3) (pv 1)) (fun _ _=>rfl)) (zt qQ (pv 4) (zt qb (pv 3) zd))) (kH (pv 2) (zt qt (pv 3) (pv 1)) qE))))
  (zq (zN (pv 2))))),?_⟩
 rw [show qp ["_law_script","_law_many","_law_cells","_law_k","_law_cell"] [V.ref a,V.int M]=[some (.ref a),some (.int M),none,none,none] from rfl]
 walk_at "rd"
 walk_at "xs"
 intro p1 hp1
 rw [yB]
 walk_at "xs"
 intro p2 hp2
 walk_at "xs"
 intro p3 hp3
 rw [yB]
 have e63:(63:Int)=((63:Nat):Int):=rfl
 simp only [HT.sIx_none,HT.sIx_nat,e63,List.drop_zero,Nat.sub_zero] at hp2 hp3 ⊢
 walk_at "xs"
 generalize hc0:ns.take (min M ns.length)=c0 at hp2 hp3 ⊢
 generalize hd0:(ns.drop (min M ns.length)).take (min 63 ns.length - min M ns.length)=d0 at hp2 hp3 ⊢
 have lc:c0.length=min M ns.length:=by rw [<- hc0,List.length_take];omega
 have ld:d0.length<=ns.length - M:=by rw [<- hd0,List.length_take,List.length_drop];omega
 have n23:p2 ≠ p3:=by walk_at "ne"
 refine KR (xs:=d0.map V.int) (fun i τ H'=>∃ u v cs,τ=[some (.ref a),some (.int M),some (.ref p2),u,v]/\Kp [p2] (upd (upd (upd H p1 (HO.lst (List.map V.int c0))) p2 (HO.lst (List.map V.int c0))) p3 (HO.lst (List.map V.int d0))) H'/\H' p2=some (il cs)/\cs.length=c0.length) ?_ ?_ ?_ ?_
 ·exact ⟨none,none,c0,rfl,Kp.refl,by walk_at "hp",rfl⟩
 ·rintro i τ H' _ ⟨u,v,cs,rfl,kp,_⟩
  exact SqL.of (kp _ _ (by simp [Ne.symm n23]) (by walk_at "hp"))
 ·rintro i x pp τ H' hx hpp ⟨u,v,cs,rfl,kp,hcs,hl⟩
  obtain ⟨rfl,hi⟩:=yd hx
  have b1:=qJ (i:Int) hm
  obtain ⟨g1,g2⟩:=j8 (cs:=cs) (k:=(i:Int) % (M:Int)) b1.1 (by omega)
  have hcs':upd H' pp (HO.tup [V.int i,V.int (d0.getD i 0)]) p2=some (il cs):=by walk_at "hp"
  walk_at "rd"
  walk_at "xs"
  refine ⟨(kp.trans (Kp.new _ hpp)).trans (Kp.set _ (by simp)),_,zi.trans (congrArg some (congrArg HO.lst (Za _ _ _))),by rw [List.length_set];exact hl⟩
 ·rintro τ H' ⟨u,v,cs,rfl,kp,hcs,hl⟩
  walk_at "rd"
  refine q _ _ cs (fun c o hc hh=>kp c o ?_ ((((Kp.new _ hp1).trans (Kp.new _ hp2)).trans (Kp.new _ hp3)) c o hc hh)) (by walk_at "fr") hcs (by omega)
  have:c ≠ p2:=qV (vn hp2 (Kp.new _ hp1)) hh
  simpa using this
noncomputable abbrev vi:List Int:=[0,1,2,3,4,5,6,7,4,5,6,7]
noncomputable abbrev kP:Stmt:=top 8
theorem xE:zw ["_law_box_here","_law_most","_law_few"] ["_law_box_here","_law_most"] (zg kP):=⟨rfl,rfl,rfl,by decide +kernel,rfl,by decide +kernel,by decide +kernel⟩
noncomputable def y6:Sp:=fun vs H Q _=>∃ (b:Addr) (m:Int) (N:Nat),vs=[.ref b,.int m]/\Bx H b N/\N<100000000/\24<=m/\m<=1000/\∀ r H',Kp [b] H H'->Bx H' b (N+10)->0<=r->r<=m->Q (.int r) H'
theorem Qf (a:At K mg "_law_length" kP)(B:Blt mg)(D_law_take:Df P w K mg base "_law_take" ["_law_box_here","_law_many"] 1 vO):Df P w K mg base "_law_length" ["_law_box_here","_law_most"] 2 y6:=by
 refine xq (k:=1) a xE (fun _ _ _ _ _ _=>Pn2_ fun _ _=>rfl) (fun vs H Q E h=>?_) (fun f cdv A outer s H vs Q E hr h=>?_)
 ·obtain ⟨a,k,cs,rfl,_⟩:=h;rfl
 obtain ⟨b,m,N,rfl,hb,hN,hm,hm',q⟩:=h
 have sc:=xE
 have hsl:=hsl
 refine' ⟨_,zh (qX (qc X6 (zR D_law_take hr rfl (za (pv 0) (za zd zc))) zd (zC _)) (zq (zN (zt YT (pv 1) (zR D_law_take hr rfl (za (pv 0) (za (zn (xG rfl) rfl B.max Q7 (za zd (za (zt Zq (pv 1) zd) zc))) zc)))))) zX) (zh _ _),?_⟩
 rotate_left 2
 ·refine' zK (i:=2) _ _ _ _ _ _
  rotate_left 1
  ·exact sc.nd
  ·rfl
  ·first | exact Or.inl rfl | exact Or.inr rfl
  ·refine' zY _ _ _ _
   rotate_left 3
   ·exact zL
   ·refine' qH _
    rotate_left 1
    refine' wF (is:=[0,1,2,3,4,5,6,7,4,5,6,7]) _
    rfl
   ·exact (zR D_law_take hr rfl (za (pv 0) (za zd zc)))
   ·exact (fun _ _=>rfl)
  ·rfl
  ·first | exact .inl rfl | exact .inr rfl | assumption
 ·refine' zq _
  rotate_left 1
  refine' zN _
  rotate_left 1
  refine' zY _ _ _ _
  rotate_left 3
  ·exact zL
  ·refine' qH _
   rotate_left 1
   refine' za _ _ _
   rotate_left 2
   ·exact pv 2
   ·exact (za (zt qb zd (zR D_law_take hr rfl (za (pv 0) (za zd zc)))) zc)
   ·rfl
  ·exact (zQ qC rfl B.int jU (za (qd X6 (zR D_law_take hr rfl (za (pv 0) (za zd zc))) zd (zC _)) zc))
  ·exact (fun _ _=>rfl)
 rw [show qp ["_law_box_here","_law_most","_law_few"] [V.ref b,V.int m]=[some (.ref b),some (.int m),none] from rfl]
 walk_at "rd"
 refine ⟨b,16,N,rfl,hb,by omega,by decide,by decide,fun r1 H1 k1 b1 l1 u1=>⟨rfl,?_⟩⟩
 walk_at "rd"
 refine Ww (fun c=>?_) (fun c=>?_)
 ·walk_at "xs"
  refine ⟨b,_,_,rfl,b1,by omega,by split <;> omega,by split <;> omega,fun r2 H2 k2 b2 l2 u2=>⟨_,rfl,?_⟩⟩
  refine q _ _ (k1.trans k2) (b2.mono (by omega)) ?_ ?_
  ·split at u2 <;> omega
  ·omega
 ·walk_at "xs"
  intro p1 hp1
  refine ⟨b,12,_,rfl,b1.new hp1,by omega,by decide,by decide,fun r2 H2 k2 b2 l2 u2=>?_⟩
  have hne:p1 ≠ b:=by obtain ⟨_,_,_,h,_⟩:=b1;exact Ne.symm (ze h hp1)
  have h2:=k2 p1 _ (by simpa using hne) zi
  obtain ⟨e1,e2⟩:=j8 (cs:=vi) (k:=r2) l2 (by simpa using u2)
  refine ⟨_,_,rfl,SqL.of h2,_,e2,b,17,_,rfl,b2,by omega,by decide,by decide,fun r3 H3 k3 b3 l3 u3=>?_⟩
  have hv:0<=vi.getD r2.toNat 0/\vi.getD r2.toNat 0<=(24:Int):=by
   have:∀ j:Nat,0<=vi.getD j 0/\vi.getD j 0<=(24:Int):=by
    intro j
    by_cases hj:j<12
    ·have hd:∀ j:Nat,j<12->0<=vi.getD j 0/\vi.getD j 0<=(24:Int):=by decide
     exact hd j hj
    ·have e:vi.getD j (0:Int)=0:=by rw [List.getD_eq_getElem?_getD,List.getElem?_eq_none (by simpa using hj)];rfl
     rw [e];decide
   exact this _
  refine ⟨_,rfl,by show 2<=sizeLine;decide,fun p2 hp2=>?_⟩
  refine ⟨b,6,_,rfl,b3.new hp2,by omega,by decide,by decide,fun r4 H4 k4 b4 l4 u4=>⟨rfl,?_⟩⟩
  have hne2:p2 ≠ b:=by obtain ⟨_,_,_,h,_⟩:=b3;exact Ne.symm (ze h hp2)
  have h4:=k4 p2 _ (by simpa using hne2) zi
  have fin:∀ r,0<=r->r<=24->Q (.int r) H4:=fun r g1 g2=>by
   refine q r H4 ?_ (b4.mono (by omega)) g1 (by omega)
   exact (((k1.trans (Kp.new _ hp1)).trans k2).trans k3).trans ((Kp.new _ hp2).trans k4)
  by_cases c4:r4=0
  ·subst c4
   exact ⟨_,SqL.of h4,_,rfl,fin _ (by omega) (by omega)⟩
  ·rw [if_neg (fun z=>c4 (V.int.inj z))]
   exact ⟨_,SqL.of h4,_,rfl,fin _ hv.1 hv.2⟩
noncomputable def Qo:ASp:=fun xs M Q=>∃ (b:Addr) (many:Int) (N:Nat),xs=[.ref b,.d (.int many)]/\BxM M b N/\N<1000000000/\0<many/\many<1073741824/\∀ r M',BxS M M' b (N+1)->0<=r->r<many->Q (.d (.int r)) M'
theorem XX (vs:List V)(H:Hp)(Q:VK)(E:XK)(h:cSp Qo vs H Q E):vO vs H Q E:=by
 obtain ⟨xs,M,O,Q',w,r,⟨b,many,N,rfl,hb,h1,h2,h3,q⟩,k⟩:=h
 obtain ⟨v,u,rfl,rv,ru⟩:=jA r
 rw [zv ru,rv.1]
 refine ⟨b,many,N,rfl,hb.bx w,h1,h2,h3,fun r H' kp hb' r0 r1=>?_⟩
 obtain ⟨M',s,e,w'⟩:=Jd w hb kp hb'
 exact k _ _ _ _ _ (q r M' s r0 r1) e w' .int
noncomputable def WO:ASp:=fun xs M Q=>∃ (x:AV) (k:Int) (cs:List Int),xs=[x,.d (.int k)]/\zF x M=some (cs.map fun i=>.d (.int i))/\0<=k/\k<=1000/\cs.length<=1000/\∀ p o,M p=none->BxM (mup M p o) p 0->Q (.ref p) (mup M p o)
theorem Vk (vs:List V)(H:Hp)(Q:VK)(E:XK)(h:cSp WO vs H Q E):X2 vs H Q E:=by
 obtain ⟨xs,M,O,Q',w,r,⟨x,n,cs,rfl,hx,h1,h2,h3,q⟩,k⟩:=h
 obtain ⟨v,u,rfl,rv,ru⟩:=jA r
 rw [zv ru]
 obtain ⟨a,rfl,ha⟩:=JU w rv hx
 refine ⟨a,n,cs,rfl,ha,h1,h2,h3,fun p H' kp hp hb'=>?_⟩
 obtain ⟨x',y',z',g1,g2⟩:=hb'
 obtain ⟨e1,w1⟩:=QZ w kp
 have fr:=w.fresh hp
 have e2:=Ext.owned (O':=ZL O p) (p:=p) w ⟨fun a o h e=>⟨(e1.fix a o h e).1,fun z=>z.elim (ze e hp) h⟩,fun a h e=>⟨(e1.prv a h e).1,.inr h,e⟩,fun _ h=>h⟩ hp (.lst ([x',y',z'].map fun i=>.d (.int i)))
 refine k _ _ _ _ _ (q p _ fr.2 ⟨x',y',z',zk,g2⟩) e2 (yK (O:=ZL O p) (xs:=[V.int x',V.int y',V.int z']) ⟨fun a o h=>?_,fun a h=>.inr (w1.own a h),fun a h=>?_⟩ (.inl rfl) fr.2 g1 (wo [x',y',z'])) ⟨rfl,by rw [zk];exact fun z=>nomatch z⟩
 ·have e3:Ext H O M H' (ZL O p) M:=⟨fun a o h e=>⟨(e1.fix a o h e).1,fun z=>z.elim (ze e hp) h⟩,fun a h e=>⟨(e1.prv a h e).1,.inr h,e⟩,fun _ h=>h⟩
  refine qj.ext e3 ?_ (w.mo a o h)
  obtain ⟨u,hu,_⟩:=w.al a (w.own a (qu h))
  rw [hu];exact kp a u (by simp) hu
 ·rcases h with rfl | h
  ·exact ⟨_,g1,fun xs z=>nomatch z⟩
  ·exact w1.al a h
noncomputable def wV (K:PySem.W.Frag):ASp:=fun xs M Q=>∃ (m:Int) (ns:List Int),xs=[.d (.scr K ns),.d (.int m)]/\0<m/\m<=60/\ns.length<=63/\∀ cs:List Int,cs.length<=1000->Q (.d (.lst (cs.map .int))) M
theorem Z6 (vs:List V)(H:Hp)(Q:VK)(E:XK)(h:cSp (wV K) vs H Q E):vb K vs H Q E:=by
 obtain ⟨xs,M,O,Q',w,r,⟨m,ns,rfl,h1,h2,h3,q⟩,k⟩:=h
 obtain ⟨v,u,rfl,rv,ru⟩:=jA r
 rw [zv ru]
 obtain ⟨a,rfl,ha⟩:=Xf rv
 refine ⟨a,m,ns,rfl,ha,h1,h2,h3,fun p H' cs kp hp hc lc=>?_⟩
 obtain ⟨e1,w1⟩:=QZ w kp
 exact k _ _ _ _ _ (q cs lc) e1 w1 (JA (w.fresh hp).1 hc)
noncomputable def Zp:ASp:=fun xs M Q=>∃ (b:Addr) (m:Int) (N:Nat),xs=[.ref b,.d (.int m)]/\BxM M b N/\N<100000000/\24<=m/\m<=1000/\∀ r M',BxS M M' b (N+10)->0<=r->r<=m->Q (.d (.int r)) M'
theorem Qd (vs:List V)(H:Hp)(Q:VK)(E:XK)(h:cSp Zp vs H Q E):y6 vs H Q E:=by
 obtain ⟨xs,M,O,Q',w,r,⟨b,many,N,rfl,hb,h1,h2,h3,q⟩,k⟩:=h
 obtain ⟨v,u,rfl,rv,ru⟩:=jA r
 rw [zv ru,rv.1]
 refine ⟨b,many,N,rfl,hb.bx w,h1,h2,h3,fun r H' kp hb' r0 r1=>?_⟩
 obtain ⟨M',s,e,w'⟩:=Jd w hb kp hb'
 exact k _ _ _ _ _ (q r M' s r0 r1) e w' .int
noncomputable abbrev Tst (c:AT)(ρ:ASt)(M:MH)(b:Bool):Prop:=∀ Q,Q b M->c ρ M Q
theorem xy {c:AT}{ρ:ASt}{M:MH}{b b':Bool}(h:Tst c ρ M b)(e:b=b'):Tst c ρ M b':=e ▸ h
theorem W1 {c d:AT}{ρ:ASt}{M:MH}(h:Tst c ρ M false):Tst (WS c d) ρ M false:=fun Q q=>h _ (by rw [if_neg (fun z=>nomatch z)];exact q)
theorem ky {c d:AT}{ρ:ASt}{M:MH}{b:Bool}(h:Tst c ρ M false)(h':Tst d ρ M b):Tst (aOr c d) ρ M b:=fun Q q=>h _ (by rw [if_neg (fun z=>nomatch z)];exact h' _ q)
theorem VU {c d:AT}{ρ:ASt}{M:MH}(h:Tst c ρ M true):Tst (aOr c d) ρ M true:=fun Q q=>h _ (by rw [if_pos rfl];exact q)
theorem qU {c:AT}{t r:AS}{B:MH}{D:jr}{ρ:ASt}{M:MH}(h:Tst c ρ M false)(k:r B D ρ M):yQ (JW c t kI) r B D ρ M:=h _ (by rw [if_neg (fun z=>nomatch z)];exact k)
theorem Ky {c:AT}{e:AE}{r:AS}{B:MH}{D:jr}{ρ:ASt}{M:MH}(h:Tst c ρ M true)(k:e ρ M D.rt):yQ (JW c (Y6 e) kI) r B D ρ M:=h _ (by rw [if_pos rfl];exact k)
theorem Xa {w:Dat}{ps:List Dat}:atI (AV.d w :: ps.map AV.d) 0=some (.d w):=by
 unfold atI
 rw [vS (by omega) (by rw [List.length_cons];omega)]
 rfl
theorem tW {i:Nat}{w w':Str}{ps:List Dat}{ρ:ASt}{M:MH}(hρ:ρ[i]?=some (some (.d (.tup (.str w :: ps))))):Tst (aB (aOp (ZH id) (aOp (aIx qm) (jq i) (aC (.int 0))) (aC (.str w')))) ρ M (decide (w=w')):=fun Q q=>by
 refine ⟨_,hρ,_,0,.d (.str w),rfl,rfl,Xa,_,_,rfl,rfl,by rw [jW];omega,by rw [jW];omega,_,rfl,?_⟩
 rw [yn]
 exact q
theorem tIN {i:Nat}{x:AV}{ρ:ASt}{M:MH}(hρ:ρ[i]?=some (some x)):Tst (aB (aOp (VF id) (jq i) (aC .non))) ρ M (qW x):=fun Q q=>⟨_,hρ,rfl,_,rfl,q⟩
theorem tNt {c:AT}{ρ:ASt}{M:MH}{b:Bool}(h:Tst c ρ M b):Tst (Wb c) ρ M (!b):=fun Q q=>h _ q
theorem Yn {i:Nat}{x:AV}{t c:String}{b:Bool}{ρ:ASt}{M:MH}(h:ρ[i]?=some (some x))(ht:tyA x M=some t)(hb:isT t c=some b):Tst (aB (aCB XS (qa (jq i) (qa (aC (.ty c)) kM)))) ρ M b:=fun Q q=>⟨_,h,_,_,_,_,rfl,ht,hb,_,rfl,q⟩
theorem Yk {c:AT}{t r:AS}{B:MH}{D:jr}{ρ:ASt}{M:MH}(h:Tst c ρ M true)(k:t B { D with nx:=r B D } ρ M):yQ (JW c t kI) r B D ρ M:=h _ (by rw [if_pos rfl];exact k)
noncomputable abbrev Val (e:AE)(ρ:ASt)(M:MH)(v:AV):Prop:=∀ Q:AK,Q v M->e ρ M Q
theorem vB {e:AE}{ρ:ASt}{M:MH}{b:Bool}(h:Val e ρ M (.d (.bl b))):Tst (aB e) ρ M b:=fun Q q=>h _ ⟨_,rfl,q⟩
theorem jN {i:Nat}{x:AV}{t c:String}{b:Bool}{ρ:ASt}{M:MH}(h:ρ[i]?=some (some x))(ht:tyA x M=some t)(hb:isT t c=some b):Val (aCB XS (qa (jq i) (qa (aC (.ty c)) kM))) ρ M (.d (.bl b)):=fun Q q=>⟨_,h,_,_,_,_,rfl,ht,hb,q⟩
theorem Zt {a e:AE}{f:Bool->Bool}{ρ:ASt}{M:MH}{b c:Bool}(h:Val a ρ M (.d (.bl b)))(h':Val e ρ M (.d (.bl c))):Val (aOp (ZH f) a e) ρ M (.d (.bl (f (decide (b=c))))):=fun Q q=>h _ (h' _ ⟨_,_,rfl,rfl,by rw [vo];omega,by rw [vo];omega,by rw [wx];exact q⟩)
theorem Wr {a e:AE}{f:Bool->Bool}{ρ:ASt}{M:MH}{b c:Int}(h:Val a ρ M (.d (.int b)))(h':Val e ρ M (.d (.int c))):Val (aOp (ZH f) a e) ρ M (.d (.bl (f (decide (b=c))))):=fun Q q=>h _ (h' _ ⟨_,_,rfl,rfl,by rw [jy];omega,by rw [jy];omega,by rw [vR];exact q⟩)
theorem XI {i j:Nat}{f:Bool->Bool}{ρ:ASt}{M:MH}{x y:AV}{d d':Dat}{b:Bool}(hi:ρ[i]?=some (some x))(hj:ρ[j]?=some (some y))(hx:jf x M=some d)(hy:jf y M=some d')(h1:dp d<=40)(h2:dp d'<=40)(e:f (eqD d d')=b):Val (aOp (ZH f) (jq i) (jq j)) ρ M (.d (.bl b)):=fun Q q=>⟨_,hi,_,hj,_,_,hx,hy,h1,h2,by rw [e];exact q⟩
theorem Xm {i:Nat}{ρ:ASt}{M:MH}{x:AV}{l:List AV}(hi:ρ[i]?=some (some x))(hx:qm x M=some l):Val (aCB V5 (qa (jq i) kM)) ρ M (.d (.int (l.length:Nat))):=fun Q q=>⟨_,hi,_,_,rfl,hx,q⟩
theorem qT {a e:AE}{ρ:ASt}{M:MH}{Q:AK}(h:Val a ρ M (.d (.bl true)))(k:e ρ M Q):Jk a e ρ M Q:=h _ ⟨_,rfl,by rw [if_pos rfl];exact k⟩
theorem j6 {e:AE}{ρ:ASt}{M:MH}{b b':Bool}(h:Val e ρ M (.d (.bl b)))(q:b=b'):Val e ρ M (.d (.bl b')):=q ▸ h
theorem yD {i:Nat}{x:AV}{t c c':String}{b:Bool}{ρ:ASt}{M:MH}(h:ρ[i]?=some (some x))(ht:tyA x M=some t)(hb:ke t [c,c']=some b)(hs:2<=sizeLine):Tst (aB (aCB QP (qa (jq i) (qa (YF (qa (aC (.ty c)) (qa (aC (.ty c')) kM))) kM)))) ρ M b:=fun Q q=>⟨_,h,hs,_,rfl,_,_,_,_,_,rfl,rfl,ht,hb,_,rfl,q⟩
noncomputable abbrev kq:Stmt:=top 10
theorem yl:zw ["_law_found","_law_due","_law_one","_law_other"] ["_law_found","_law_due"] (zg kq):=⟨rfl,rfl,rfl,by decide +kernel,rfl,by decide +kernel,by decide +kernel⟩
noncomputable def kL (n:Nat):ASp:=fun xs M Q=>∃ (x y:AV) (d:Dat),xs=[x,y]/\jf x M=some d/\jf y M=some d/\qz n d/\n<=30/\Q (.d (.bl true)) M
noncomputable def aNo:ASp:=fun _ _ _=>False
theorem Jg {x y:AV}{M:MH}{l:List Dat}{n:Nat}{sp:ASp}(hsp:∀ xs M Q,kL n xs M Q->sp xs M Q){N:List AV->ASt->MH->Prop}(hl:l.length<=100000)(hd:∀ d ∈ l,qz n d)(hn:n<=30){u v:Option AV}(hN:N (l.map fun _=>AV.d (.bl true)) [] M)(hN':∀ acc ρ ρ' M,N acc ρ M->N acc ρ' M) :
  ZY (wU 2 (j5 (jb 2) (j5 (jb 3) wA))) kG (jI (wJ sp (qa (jq 2) (qa (jq 3) kM)))) (fun M'=>zF x M'=zF x M/\zF y M'=zF y M) N (ym l l) [] [some x,some y,u,v] M:=by
 have e:(ym l l).map (fun _=>AV.d (.bl true))=l.map fun _=>AV.d (.bl true):=by
  rw [List.map_const',List.map_const',je,Nat.min_self]
 refine Vu (fun (o:Option AV × Option AV)=>[some x,some y,o.1,o.2]) (fun _=>.d (.bl true)) ⟨(u,v),rfl⟩ ⟨rfl,rfl⟩ (by rw [je,Nat.min_self];exact hl) (fun o z Q hz q=>?_) fun o=>by rw [e];exact hN' _ _ _ _ hN
 obtain ⟨i,hi⟩:=List.getElem?_of_mem hz
 obtain ⟨d,d',h1,h2,rfl⟩:=kB hi
 rw [h1] at h2;cases h2
 walk_at "ra"
 exact hsp _ _ _ ⟨_,_,d,rfl,rfl,rfl,hd d (List.mem_of_getElem? h1),hn,q (some (.d d),some (.d d))⟩
theorem Jc {l:List Dat}:∃ bs:List Bool,(l.map fun _=>Dat.bl true)=bs.map Dat.bl/\(l.map fun _=>AV.d (Dat.bl true))=bs.map (fun b=>AV.d (.bl b))/\bs.all id=true:=⟨l.map fun _=>true,by rw [List.map_map];rfl,by rw [List.map_map];rfl,by simp⟩
theorem wW {x y:AV}{M:MH}{l:List Dat}{n:Nat}{sp:ASp}{Q:AK}(hxy:(zF x M=some (l.map AV.d)/\zF y M=some (l.map AV.d)) \/ (x=.d (.tup l)/\y=.d (.tup l)/\l.length<=l.length))(hsp:∀ xs M Q,kL n xs M Q->sp xs M Q)(hl:l.length<=100000)(hd:∀ d ∈ l,qz n d)(hn:n<=30)(q:Q (.d (.bl true)) M) :
  aCB (VR fun bs=>bs.all id) (qa (aFz (Zj [2,3] (Vi (qa (jq 0) (qa (jq 1) kM))) (wU 2 (j5 (jb 2) (j5 (jb 3) wA))) kG (jI (wJ sp (qa (jq 2) (qa (jq 3) kM)))))) kM) [some x,some y,none,none] M Q:=by
 walk_at "ra"
 refine ⟨l,l,hxy,Jg (n:=n) (sp:=sp) hsp hl hd hn ?_ (fun _ _ _ _ z=>z)⟩
 obtain ⟨bs,b1,b2,b3⟩:=Jc (l:=l)
 refine ⟨l.map fun _=>.bl true,?_,bs,by rw [List.map_map];exact b2,?_⟩
 ·rw [<- qv (l.map fun _=>Dat.bl true),List.map_map];rfl
 ·rw [b3];exact q
theorem Wz (a:At K mg "_law_same" kq):Df P w K mg base "_law_same" ["_law_found","_law_due"] 1 (cSp aNo):=
 xq (k:=0) a yl (fun _ _ _ _ _ _=>Pn2_ fun _ _=>rfl) (fun vs H Q E h=>by obtain ⟨_,_,_,_,_,_,h,_⟩:=h;exact h.elim) (fun f cdv A outer s H vs Q E hr h=>by obtain ⟨_,_,_,_,_,_,h,_⟩:=h;exact h.elim)
theorem w6 (a:At K mg "_law_same" kq)(B:Blt mg)(Ball:mg "all"=none){kk:Nat}(n:Nat){sp:ASp}(hsp:∀ xs M Q,1<=n->kL (n - 1) xs M Q->sp xs M Q)(D_law_same:Df P w K mg base "_law_same" ["_law_found","_law_due"] kk (cSp sp)):Df P w K mg base "_law_same" ["_law_found","_law_due"] (kk+1) (cSp (kL n)):=by
 refine dfA (k:=kk) a yl (fun _ _ _ _ _ _=>Pn2_ fun _ _=>rfl) (fun xs M Q h=>?_) (fun f cdv A outer s H E hr=>?_)
 ·obtain ⟨_,_,_,rfl,_⟩:=h;rfl
 have sc:=yl
 have hsl:=hsl
 have hs2:2<=sizeLine:=by omega
 refine ⟨_,(zh (qX (kU (zn xC rfl B.isinstance zr (za (pv 1) (za (J8 (za (zW (v:=.ty "list") rfl B.list jg rfl) (za (zW (v:=.ty "tuple") rfl B.tuple kX rfl) zc))) zc))) (fun _=>rfl)) (zh (qX (PW.pt (KB (vL (kU (zn xC rfl B.isinstance zr (za (pv 0) (za (J8 (za (zW (v:=.ty "list") rfl B.list jg rfl) (za (zW (v:=.ty "tuple") rfl B.tuple kX rfl) zc))) zc))) (fun _=>rfl))) (wv (qc (Q8 hr.units) (zn qh rfl B.isinstance zr (za (pv 0) (za (zW (v:=.ty "list") rfl B.list jg rfl) zc))) (zn qh rfl B.isinstance zr (za (pv 1) (za (zW (v:=.ty "list") rfl B.list jg rfl) zc))) (zC _))))) (zq (zN Zk)) zX)
  (zq (zN (xW (qd (qk hr.units) (zn zP rfl B.len jO (za (pv 0) zc)) (zn zP rfl B.len jO (za (pv 1) zc)) (zC _)) (vH (zn (Z8 rfl) rfl Ball Yq (za (xX (ts:=[2,3]) rfl rfl (Jn rfl B.zip (za (pv 0) (za (pv 1) zc))) (fun _ _ _ _=>(jM (K:=K) 2 rfl rfl (zT (zH (i:=2) sc.nd rfl (by first | exact Or.inl rfl | exact Or.inr rfl)) (zT (zH (i:=3) sc.nd rfl (by first | exact Or.inl rfl | exact Or.inr rfl)) jK)))) (fun _ _ _ _=>jL) (fun _ _ _ _=>(zR D_law_same hr rfl (za (pv 2) (za (pv 3) zc))))) zc))))))) zX)
  (zh (qX (PW.pt (KB (qc Y3 (pv 1) Yp (zC _)) (wv (kU (zn qh rfl B.isinstance zr (za (pv 1) (za (zW (v:=.ty "str") rfl B.str vM rfl) zc))) (fun _=>rfl))))) (zq (zN (xW (qd (qk hr.units) (zn qh rfl B.isinstance zr (za (pv 0) (za (zW (v:=.ty "str") rfl B.str vM rfl) zc))) (zn qh rfl B.isinstance zr (za (pv 1) (za (zW (v:=.ty "str") rfl B.str vM rfl) zc))) (zC _)) (vH (qd (qk hr.units) (pv 0) (pv 1) (zC _)))))) zX)
  (zq (zN (xW (zn qh rfl B.isinstance zr (za (pv 0) (za (zW (v:=.ty "int") rfl B.int jU rfl) zc))) (xW (qd (qk hr.units) (zn qh rfl B.isinstance zr (za (pv 0) (za (zW (v:=.ty "bool") rfl B.bool wC rfl) zc))) (zn qh rfl B.isinstance zr (za (pv 1) (za (zW (v:=.ty "bool") rfl B.bool wC rfl) zc))) (zC _)) (vH (qd (qk hr.units) (pv 0) (pv 1) (zC _))))))))),?_⟩
 refine ex2 (by walk_at "sim") ?_
 rintro xs M Q ⟨x,y,d,rfl,hx,hy,hd,hn,q⟩
 rw [show qy ["_law_found","_law_due","_law_one","_law_other"] [x,y]=[some x,some y,none,none] from rfl]
 have fin:=X0 (M0:=M) Fr.refl (.bl true)
 cases d with
 | non=>
  obtain rfl:=zI hx (fun _ z=>nomatch z);obtain rfl:=zI hy (fun _ z=>nomatch z)
  exact qU (yD rfl rfl KC hs2) (Ky (VU (xy (tIN rfl) rfl)) (qT (j6 (Zt (jN rfl rfl vP) (jN rfl rfl vP)) rfl) (XI rfl rfl rfl rfl (by rw [wc];omega) (by rw [wc];omega) Jm _ ⟨_,_,fin,q⟩)))
 | bl b=>
  obtain rfl:=zI hx (fun _ z=>nomatch z);obtain rfl:=zI hy (fun _ z=>nomatch z)
  exact qU (yD rfl rfl Jz hs2) (qU (ky (xy (tIN rfl) rfl) (Yn rfl rfl Ka)) (qT (jN rfl rfl Qq) (qT (j6 (Zt (jN rfl rfl wk) (jN rfl rfl wk)) rfl) (XI rfl rfl rfl rfl (by rw [vo];omega) (by rw [vo];omega) (by rw [wx];exact decide_eq_true rfl) _ ⟨_,_,fin,q⟩))))
 | int i=>
  obtain rfl:=zI hx (fun _ z=>nomatch z);obtain rfl:=zI hy (fun _ z=>nomatch z)
  exact qU (yD rfl rfl Jo hs2) (qU (ky (xy (tIN rfl) rfl) (Yn rfl rfl Qr)) (qT (jN rfl rfl Jy) (qT (j6 (Zt (jN rfl rfl wd) (jN rfl rfl wd)) rfl) (XI rfl rfl rfl rfl (by rw [jy];omega) (by rw [jy];omega) (by rw [vR];exact decide_eq_true rfl) _ ⟨_,_,fin,q⟩))))
 | str i=>
  obtain rfl:=zI hx (fun _ z=>nomatch z);obtain rfl:=zI hy (fun _ z=>nomatch z)
  exact qU (yD rfl rfl QE hs2) (Ky (ky (xy (tIN rfl) rfl) (Yn rfl rfl xZ)) (qT (j6 (Zt (jN rfl rfl xZ) (jN rfl rfl xZ)) rfl) (XI rfl rfl rfl rfl (by rw [jW];omega) (by rw [jW];omega) (by rw [yn];exact decide_eq_true rfl) _ ⟨_,_,fin,q⟩)))
 | tup l=>
  obtain rfl:=zI hx (fun _ z=>nomatch z)
  obtain rfl:=zI hy (fun _ z=>nomatch z)
  cases n with
  | zero=>exact hd.no_t.elim
  | succ n=>
   obtain ⟨hl,hd'⟩:=hd.tup
   refine Yk (yD rfl rfl vN hs2) (qU (ky (xy (tNt (yD rfl rfl vN hs2)) rfl) (vB (j6 (Zt (jN rfl rfl vT) (jN rfl rfl vT)) rfl))) (qT (j6 (Wr (Xm rfl rfl) (Xm rfl rfl)) (decide_eq_true rfl)) ?_))
   exact wW (x:=.d (.tup l)) (y:=.d (.tup l)) (.inr ⟨rfl,rfl,Nat.le_refl _⟩) (fun xs M Q h=>hsp xs M Q (by omega) h) hl hd' (by omega) ⟨_,_,fin,q⟩
 | lst l=>
  obtain ⟨x1,x2,x3,x4⟩:=yJ hx
  obtain ⟨y1,y2,y3,y4⟩:=yJ hy
  cases n with
  | zero=>exact hd.no_l.elim
  | succ n=>
   obtain ⟨hl,hd'⟩:=hd.lst
   refine Yk (yD rfl y3 wf hs2) (qU (ky (xy (tNt (yD rfl x3 wf hs2)) rfl) (vB (j6 (Zt (jN rfl x3 wt) (jN rfl y3 wt)) rfl))) (qT (j6 (Wr (Xm rfl x2) (Xm rfl y2)) (decide_eq_true rfl)) ?_))
   exact wW (.inl ⟨x1,y1⟩) (fun xs M Q h=>hsp xs M Q (by omega) h) hl hd' (by omega) ⟨_,_,fin,q⟩
 | ty t=>have:=hd.1;rw [dp] at this;omega
 | rng _ _ _=>have:=hd.1;rw [dp] at this;omega
 | scr _ _=>have:=hd.1;rw [dp] at this;omega
theorem vh (a:At K mg "_law_same" kq)(B:Blt mg)(Ball:mg "all"=none):∀ n,Df P w K mg base "_law_same" ["_law_found","_law_due"] (n+2) (cSp (kL n))
 | 0=>w6 a B Ball 0 (sp:=aNo) (fun _ _ _ h=>absurd h (by omega)) (Wz a)
 | n+1=>w6 a B Ball (n+1) (sp:=kL n) (fun _ _ _ _ h=>h) (vh a B Ball n)
theorem xP {b:Addr}{M0 M:MH}{N c n:Nat}{most:Int}(R:Option AV->ASt)(j:Nat){o0:Option AV}{ae:AE}{Nx:List AV->ASt->MH->Prop}(hR:∀ o x,(R o).set j (some x)=R (some x))(sb:SB M0 M b N)(hn:n<=1000)
  (turn:∀ (k:Nat) (M1:MH) (N1:Nat) (Q:AK),k<n->N1<=N+c * n->SB M0 M1 b N1->(∀ r M2,SB M0 M2 b (N1+c)->0<=r->r<most->Q (.d (.int r)) M2)->ae (R (some (.d (.int k)))) M1 Q)
  (fin:∀ (ks:List Int) o M1,ks.length=n->(∀ k ∈ ks,0<=k/\k<most)->SB M0 M1 b (N+c * n)->Nx (ks.map fun i=>.d (.int i)) (R o) M1):ZY (jb j) kG (jI ae) (fun _=>True) Nx (vw 0 1 n) [] (R o0) M:=by
 have hsl:100000<sizeLine:=by rw [sizeLine_eq];decide
 refine ⟨fun i acc ρ M1=>i<=n/\SB M0 M1 b (N+c * i)/\(∃ o,ρ=R o)/\∃ ks:List Int,acc=(ks.map fun i=>.d (.int i))/\ks.length=i/\∀ k ∈ ks,0<=k/\k<most,⟨Nat.zero_le _,sb,⟨_,rfl⟩,[],rfl,rfl,fun _ h=>nomatch h⟩,?_,?_⟩
 ·rintro i x acc ρ M1 hx ⟨hi,s1,⟨o,rfl⟩,ks,rfl,hl,hk⟩
  obtain ⟨h1,rfl⟩:=kO hx
  refine ⟨trivial,?_⟩
  dsimp only [jb,kG]
  rw [hR,Int.zero_add,Int.mul_one,if_pos rfl]
  unfold jI
  refine turn i M1 _ _ h1 (Nat.add_le_add_left (Nat.mul_le_mul_left _ hi) _) s1 fun r M2 s2 r0 r1=>⟨by rw [List.length_map];omega,h1,by rw [Nat.mul_succ,<- Nat.add_assoc];exact s2,⟨_,rfl⟩,ks ++ [r],by rw [List.map_append];rfl,by rw [List.length_append,hl];rfl,fun k hk'=>?_⟩
  rcases List.mem_append.mp hk' with z | z
  ·exact hk k z
  ·rw [List.mem_singleton.mp z];exact ⟨r0,r1⟩
 ·rintro acc ρ M1 ⟨_,s1,⟨o,rfl⟩,ks,rfl,hl,hk⟩
  rw [kQ] at hl s1
  exact ⟨trivial,fin ks o M1 hl hk s1⟩
noncomputable def J4:ASp:=fun xs M Q=>∃ (b:Addr) (n:Nat) (most:Int) (N:Nat),xs=[.ref b,.d (.int n),.d (.int most)]/\BxM M b N/\N<10000000/\n<=1000/\0<most/\most<=100/\∀ (ks:List Int) M',BxS M M' b (N+10000)->ks.length=n->(∀ k ∈ ks,0<=k/\k<most)->Q (.d (ilD ks)) M'
noncomputable abbrev xY:Stmt:=top 9
theorem yw:zw ["_law_box_here","_law_n","_law_most","_law_way","_law_some","_law_kinds_here","_law_k"] ["_law_box_here","_law_n","_law_most"] (zg xY):=⟨rfl,rfl,rfl,by decide +kernel,rfl,by decide +kernel,by decide +kernel⟩
theorem JC (a:At K mg "_law_kinds" xY)(B:Blt mg)(D_law_take:Df P w K mg base "_law_take" ["_law_box_here","_law_many"] 1 (cSp Qo)):Df P w K mg base "_law_kinds" ["_law_box_here","_law_n","_law_most"] 2 (cSp J4):=by
 refine dfA (k:=1) a yw (fun _ _ _ _ _ _=>Pn3_ fun _ _ _=>rfl) (fun xs M Q h=>?_) (fun f cdv A outer s H E hr=>?_)
 ·obtain ⟨_,_,_,_,rfl,_⟩:=h;rfl
 have sc:=yw
 have hsl:=hsl
 refine ⟨_,(zh (zK (i:=3) sc.nd rfl (by first | exact Or.inl rfl | exact Or.inr rfl) (zR D_law_take hr rfl (za (pv 0) (za zd zc))))
  (zh (zK (i:=4) sc.nd rfl (by first | exact Or.inl rfl | exact Or.inr rfl) (xX (ts:=[6]) rfl rfl (qD rfl B.range (za zd zc)) (fun _ _ _ _=>(zH (i:=6) sc.nd rfl (by first | exact Or.inl rfl | exact Or.inr rfl))) (fun _ _ _ _=>jL) (fun _ _ _ _=>(zR D_law_take hr rfl (za (pv 0) (za (pv 2) zc))))))
  (zh (xT (j:=5) rfl sc.nd rfl (by first | exact Or.inl rfl | exact Or.inr rfl) (ts:=[6]) rfl (qD rfl B.range (za (pv 1) zc)) (fun _ _ _ _=>(zH (i:=6) sc.nd rfl (by first | exact Or.inl rfl | exact Or.inr rfl))) (fun _ _ _ _=>jL) (fun _ _ _ _=>(zY (xV (K:=K) rfl) (qH (za (zR D_law_take hr rfl (za (pv 0) (za (pv 2) zc))) (za (zY (xV (K:=K) rfl) (pv 4) (zR D_law_take hr rfl (za (pv 0) (za zd zc))) (fun _ _=>rfl)) zc))) (zQ qC rfl B.int jU (za (qd (qk hr.units) (pv 3) zd (zC _)) zc)) (fun _ _=>rfl))))
  (zh (qX (qc (qk hr.units) (pv 3) zd (zC _)) (zq (xT (j:=5) rfl sc.nd rfl (by first | exact Or.inl rfl | exact Or.inr rfl) (ts:=[6]) rfl (qD rfl B.range (za (pv 1) zc)) (fun _ _ _ _=>(zH (i:=6) sc.nd rfl (by first | exact Or.inl rfl | exact Or.inr rfl))) (fun _ _ _ _=>jL) (fun _ _ _ _=>(zY (xV (K:=K) rfl) (pv 4) (zQ qC rfl B.int jU (za (qd (qk hr.units) (zR D_law_take hr rfl (za (pv 0) (za zd zc))) zd (zC _)) zc)) (fun _ _=>rfl))))) zX)
  (zh (qX (qc (qk hr.units) (pv 3) zd (zC _)) (zq (zK (i:=5) sc.nd rfl (by first | exact Or.inl rfl | exact Or.inr rfl) (zn jt rfl B.sorted jT (za (pv 5) zc)))) zX)
  (zh (qX (qc (qk hr.units) (pv 3) zd (zC _)) (zq (zK (i:=5) sc.nd rfl (by first | exact Or.inl rfl | exact Or.inr rfl) (ZW (zn jt rfl B.sorted jT (za (pv 5) zc)) (jB (Wt Vz zd))))) zX)
  (zh (qX (qc (qk hr.units) (pv 3) zd (zC _)) (zq (xT (j:=5) rfl sc.nd rfl (by first | exact Or.inl rfl | exact Or.inr rfl) (ts:=[6]) rfl (qD rfl B.range (za (pv 1) zc)) (fun _ _ _ _=>(zH (i:=6) sc.nd rfl (by first | exact Or.inl rfl | exact Or.inr rfl))) (fun _ _ _ _=>jL) (fun _ _ _ _=>(zY (xV (K:=K) rfl) (pv 4) (zt qt (pv 6) zd) (fun _ _=>rfl))))) zX)
  (zq (zN (pv 5)))))))))),?_⟩
 refine ex2 (by walk_at "sim") ?_
 rintro xs M Q ⟨b,n,most,N,rfl,bx,hN,hn,m0,m1,q⟩
 rw [show qy ["_law_box_here","_law_n","_law_most","_law_way","_law_some","_law_kinds_here","_law_k"] [.ref b,.d (.int n),.d (.int most)]=[some (.ref b),some (.d (.int n)),some (.d (.int most)),none,none,none,none] from rfl]
 have sb:=SB.refl bx
 refine zo fun r hr0=>?_
 walk_at "ra"
 refine ⟨b,6,_,rfl,sb.bx,by omega,by omega,by omega,fun way M1 s1 a1 a2=>?_⟩
 have sb:=sb.go s1
 subst hr0
 refine zo fun r hr0=>?_
 walk_at "ra"
 refine ⟨by omega,by omega,?_⟩
 refine xP (c:=1) (most:=most) (fun o=>[some (.ref b),some (.d (.int n)),some (.d (.int most)),some (.d (.int way)),none,none,o]) 6 (fun _ _=>rfl) sb (by decide) (fun k M1 N1 Q hk hN1 s1 q=>?_) fun so o M2 ls hs sb=>?_
 ·walk_at "ra"
  exact ⟨b,most,_,rfl,s1.bx,by omega,by omega,by omega,fun r M2 s2 r0 r1=>q r M2 (s1.go s2) r0 r1⟩
 refine ⟨_,zA _,?_⟩
 subst hr0
 refine zo fun r hr0=>?_
 walk_at "ra"
 rw [Int.toNat_natCast]
 refine ⟨by omega,by omega,?_⟩
 have sg:∀ x,0<=x->x<(3:Int)->∃ y,atI ((so.map Dat.int).map AV.d) x=some (.d (.int y))/\0<=y/\y<most:=fun x x0 x1=>by
  have hx:x.toNat<so.length:=by rw [ls];omega
  refine ⟨so[x.toNat],?_,hs _ (List.getElem_mem hx)⟩
  unfold atI
  rw [vS x0 (by rw [List.length_map,List.length_map,ls];omega)]
  show ((so.map Dat.int).map AV.d)[x.toNat]?=_
  rw [List.getElem?_map,List.getElem?_map,List.getElem?_eq_getElem hx];rfl
 refine xP (c:=2) (most:=most) (fun o=>[some (.ref b),some (.d (.int n)),some (.d (.int most)),some (.d (.int way)),some (.d (.lst (so.map .int))),none,o]) 6 (fun _ _=>rfl) sb (by omega) (fun k M1 N1 Q hk hN1 s1 q=>?_) fun ks o M2 lk hk sb=>?_
 ·walk_at "ra"
  refine ⟨b,most,_,rfl,s1.bx,by omega,by omega,by omega,fun r M2 s2 r0 r1=>⟨b,3,_,rfl,(s1.go s2).bx,by omega,by omega,by omega,fun i M3 s3 i0 i1=>?_⟩⟩
  have s4:=(s1.go s2).go s3
  obtain ⟨y,hy,y0,y1⟩:=sg i i0 i1
  refine ⟨_,rfl,_,by rw [<- ju];exact hy,by omega,_,rfl,?_⟩
  by_cases c:way=1
  ·rw [if_pos c]
   exact ⟨_,rfl,q y M3 (s4.mono (by omega)) y0 y1⟩
  ·rw [if_neg c]
   exact ⟨_,rfl,q r M3 (s4.mono (by omega)) r0 r1⟩
 refine ⟨_,zA _,?_⟩
 subst hr0
 refine zo fun r hr0=>?_
 have nx:∀ (ks:List Int) (M2:MH),ks.length=n->(∀ k ∈ ks,0<=k/\k<most)->SB M M2 b (N+9000)->r M { nx:=fun x M'=>rtA M Q (AV.d Dat.non) M',rt:=rtA M Q } [some (.ref b),some (.d (.int n)),some (.d (.int most)),some (.d (.int way)),some (.d (.lst (so.map .int))),some (.d (.lst (ks.map .int))),none] M2:=by
  intro ks M2 lk hk sb
  subst hr0
  refine zo fun r hr0=>?_
  have nx:∀ (ks:List Int) (M2:MH),ks.length=n->(∀ k ∈ ks,0<=k/\k<most)->SB M M2 b (N+9000)->r M { nx:=fun x M'=>rtA M Q (AV.d Dat.non) M',rt:=rtA M Q } [some (.ref b),some (.d (.int n)),some (.d (.int most)),some (.d (.int way)),some (.d (.lst (so.map .int))),some (.d (.lst (ks.map .int))),none] M2:=by
   intro ks M2 lk hk sb
   subst hr0
   refine zo fun r hr0=>?_
   have nx:∀ (ks:List Int) (M2:MH),ks.length=n->(∀ k ∈ ks,0<=k/\k<most)->SB M M2 b (N+9000)->r M { nx:=fun x M'=>rtA M Q (AV.d Dat.non) M',rt:=rtA M Q } [some (.ref b),some (.d (.int n)),some (.d (.int most)),some (.d (.int way)),some (.d (.lst (so.map .int))),some (.d (.lst (ks.map .int))),none] M2:=by
    intro ks M2 lk hk sb
    subst hr0
    refine zo fun r hr0=>?_
    have nx:∀ (ks:List Int) (M2:MH),ks.length=n->(∀ k ∈ ks,0<=k/\k<most)->SB M M2 b (N+9000)->r M { nx:=fun x M'=>rtA M Q (AV.d Dat.non) M',rt:=rtA M Q } [some (.ref b),some (.d (.int n)),some (.d (.int most)),some (.d (.int way)),some (.d (.lst (so.map .int))),some (.d (.lst (ks.map .int))),none] M2:=by
     intro ks M2 lk hk sb
     subst hr0
     walk_at "ra"
     exact (sb.mono (N':=N+10000) (by omega)).rt fun M' s=>q ks M' s lk hk
    walk_at "ra"
    split
    ·rw [Int.toNat_natCast]
     refine ⟨by omega,by omega,?_⟩
     refine xP (c:=0) (most:=most) (fun o=>[some (.ref b),some (.d (.int n)),some (.d (.int most)),some (.d (.int way)),some (.d (.lst (so.map .int))),some (.d (.lst (ks.map .int))),o]) 6 (fun _ _=>rfl) sb (by omega) (fun k M1 N1 Q hk hN1 s1 q=>?_) fun ks o M2 lk hk sb=>⟨_,zA _,nx ks M2 lk hk (sb.mono (by omega))⟩
     walk_at "ra"
     obtain ⟨y,hy,y0,y1⟩:=sg ((k:Int) % 3) (by omega) (by omega)
     exact ⟨by decide,_,by rw [<- ju];exact hy,q y M1 s1 y0 y1⟩
    ·exact nx ks M2 lk hk sb
   walk_at "ra"
   split
   ·refine ⟨ks,rfl,by omega,fun ns hp _=>.inl ?_⟩
    rw [<- List.map_reverse]
    exact nx _ M2 (by rw [List.length_reverse,hp.length_eq,lk]) (fun k h=>hk k (hp.mem_iff.mp (List.mem_reverse.mp h))) sb
   ·exact nx ks M2 lk hk sb
  walk_at "ra"
  split
  ·exact ⟨ks,rfl,by omega,fun ns hp _=>nx _ M2 (by rw [hp.length_eq,lk]) (fun k h=>hk k (hp.mem_iff.mp h)) sb⟩
  ·exact nx ks M2 lk hk sb
 walk_at "ra"
 rw [Int.toNat_natCast]
 split
 ·refine ⟨by omega,by omega,?_⟩
  refine xP (c:=1) (most:=most) (fun o=>[some (.ref b),some (.d (.int n)),some (.d (.int most)),some (.d (.int way)),some (.d (.lst (so.map .int))),some (.d (.lst (ks.map .int))),o]) 6 (fun _ _=>rfl) sb (by omega) (fun k M1 N1 Q hk hN1 s1 q=>?_) fun ks o M2 lk hk sb=>?_
  ·walk_at "ra"
   refine ⟨b,8,_,rfl,s1.bx,by omega,by omega,by omega,fun r M2 s2 r0 r1=>?_⟩
   show ∃ a,_
   refine ⟨_,rfl,by rw [jy];omega,?_⟩
   obtain ⟨y,hy,y0,y1⟩:=sg (if eqD (.int r) (.int 0)=true then 1 else 0) (by split <;> omega) (by split <;> omega)
   exact ⟨_,by rw [<- ju];exact hy,q y M2 (s1.go s2) y0 y1⟩
  ·exact ⟨_,zA _,nx ks M2 lk hk (sb.mono (by omega))⟩
 ·exact nx ks M2 lk hk (sb.mono (by omega))
noncomputable def Yw:Dat->Option (List Dat)
 | .lst l=>some l
 | .tup l=>some l
 | _=>none
theorem VD {d:Dat}{l:List Dat}(h:Yw d=some l)(M:MH):qm (.d d) M=some (l.map .d):=by
 cases d with
 | lst m=>cases h;rfl
 | tup m=>cases h;rfl
 | _=>cases h
theorem ye {d:Dat}{os:List Int}(h:Yw d=some (os.map .int))(M:MH):qm (.d d) M=some (os.map fun i=>.d (.int i)):=by rw [VD h,ju]
noncomputable def Kq:ASp:=fun xs M Q=>∃ (dx:Dat) (n:Nat) (os:List Int),xs=[.d dx]/\Yw dx=some (os.map .int)/\kN n os/\n<=2000/\∀ bs p,Jt os bs->M p=none->Q (.ref p) (mup M p (.lst (bs.map fun i=>AV.d (.int i))))
noncomputable abbrev yo:Stmt:=top 1
theorem yR:zw ["order","back","place","goal"] ["order"] (zg yo):=⟨rfl,rfl,rfl,by decide +kernel,rfl,by decide +kernel,by decide +kernel⟩
theorem JP (a:At K mg "back_of" yo)(B:Blt mg):Df P w K mg base "back_of" ["order"] 1 (cSp Kq):=by
 refine dfA (k:=0) a yR (fun _ _ _ _ _ _=>Pn1_ fun _=>rfl) (fun xs M Q h=>?_) (fun f cdv A outer s H E hr=>?_)
 ·obtain ⟨_,_,_,rfl,_⟩:=h;rfl
 have sc:=yR
 have hsl:=hsl
 refine ⟨_,(zh (zK (i:=1) sc.nd rfl (by first | exact Or.inl rfl | exact Or.inr rfl) (QG (zt Qm (qH (za zd zc)) (zn zP rfl B.len jO (za (pv 0) zc)))))
  (zh (yf PassesOwn.never rfl (xA rfl B.enumerate (za (pv 0) zc)) (jM (K:=K) 2 rfl rfl (zT (zH (i:=2) sc.nd rfl (by first | exact Or.inl rfl | exact Or.inr rfl)) (zT (zH (i:=3) sc.nd rfl (by first | exact Or.inl rfl | exact Or.inr rfl)) jK))) (zq (ko (pv 2) (kH (pv 1) (pv 3) qE))))
  (zq (zN (pv 1))))),?_⟩
 refine ex2 (by walk_at "sim") ?_
 rintro xs M Q ⟨dx,n,os,rfl,hx,ho,hn,q⟩
 rw [show qy ["order","back","place","goal"] [.d dx]=[some (.d dx),none,none,none] from rfl]
 have h1:=ho.1
 refine zo fun r hr0=>?_
 walk_at "ra"
 refine ⟨by omega,_,ye hx M,by rw [List.length_map];omega,by rw [List.length_map];omega,by rw [List.length_map];omega,fun p hp _=>?_⟩
 rw [List.length_map,h1,Int.toNat_natCast,Y2]
 have hp1:=zk (M:=M) (a:=p) (o:=.lst (List.replicate n (AV.d (.int 0))))
 have f1:=(Fr.refl (M:=M)).mup hp (.lst (List.replicate n (AV.d (.int 0))))
 subst hr0
 refine zo fun r hr0=>?_
 walk_at "ra"
 refine ⟨_,ye hx _,_,zA _,?_⟩
 refine ⟨fun i ρ M'=>∃ u v bs,ρ=[some (.d dx),some (.ref p),u,v]/\M'=mup M p (.lst (bs.map fun i=>AV.d (.int i)))/\bs.length=n/\∀ j,j<i->bs.getD (os.getD j 0).toNat 0=(j:Int),⟨none,none,List.replicate n 0,rfl,by rw [List.map_replicate],by simp,fun j hj=>nomatch hj⟩,?_,?_⟩
 ·rintro i y ρ M' hy ⟨u,v,bs,rfl,rfl,lb,hj⟩
  refine ⟨ye hx _,?_⟩
  obtain ⟨d,hd,rfl⟩:=jh hy
  rw [List.getElem?_map] at hd
  cases e:os[i]? with
  | none=>rw [e] at hd;cases hd
  | some k=>
   rw [e] at hd
   cases hd
   have hi:=(List.getElem?_eq_some_iff.mp e).1
   have hk:os.getD i 0=k:=by rw [List.getD_eq_getElem?_getD,e];rfl
   have kb:=ho.2.2 k (List.mem_of_getElem? e)
   walk_at "ra"
   refine ⟨_,zk,k.toNat,by rw [List.length_map,vS kb.1 (by omega)],bs.set k.toNat (i:Int),?_,by rw [List.length_set];exact lb,fun j hj'=>?_⟩
   ·rw [List.map_set]
   ·rw [JX (by omega)]
    by_cases c:j=i
    ·subst c;rw [hk,if_pos rfl]
    ·rw [if_neg,hj j (by omega)]
     intro z
     have gj:=ho.getD (i:=j) (by omega)
     exact c (ho.inj (by omega) (by omega) (by rw [hk];omega))
 ·rintro ρ M' ⟨u,v,bs,rfl,rfl,lb,hj⟩
  refine ⟨ye hx _,?_⟩
  subst hr0
  walk_at "ra"
  refine ⟨_,_,Zs (Fr.refl.mup hp _) hp zk (zA _),q bs p ⟨by omega,fun i hi=>hj i ?_⟩ hp⟩
  simp only [qF,List.length_map]
  exact hi
noncomputable def glN (ks:List Int)(i:Nat):Nat:=(ks.filter fun x=>decide (x<ks.getD i 0)).length+(ks.take i).count (ks.getD i 0)
noncomputable def gl (ks:List Int):List Int:=(List.range ks.length).map fun i=>((glN ks i:Nat):Int)
theorem j0 (ks:List Int):(gl ks).length=ks.length:=by unfold gl;rw [List.length_map,List.length_range]
theorem Vo {ks:List Int}{i:Nat}(h:i<ks.length):(gl ks).getD i 0=(glN ks i:Nat):=by
 unfold gl
 rw [List.getD_eq_getElem?_getD,List.getElem?_map,List.getElem?_range h];rfl
noncomputable def ltX (x y:Int × Int):Bool:=decide (x.1<y.1) || (decide (x.1=y.1) && decide (x.2<y.2))
theorem QO {qs:List (Int × Int)}(h:qs.Pairwise fun x y=>ltX x y=true){j:Nat}{z:Int × Int}(hj:qs[j]?=some z):qs.countP (fun x=>ltX x z)=j:=by
 induction qs generalizing j with
 | nil=>cases hj
 | cons a r ih=>
  obtain ⟨h1,h2⟩:=List.pairwise_cons.mp h
  cases j with
  | zero=>
   cases hj
   rw [List.countP_cons_of_neg (by unfold ltX;simp),List.countP_eq_zero]
   intro x hx
   have:=h1 x hx
   unfold ltX at this ⊢
   simp at this ⊢
   omega
  | succ j=>
   have hj':r[j]?=some z:=hj
   have hz:=h1 z (List.mem_of_getElem? hj')
   rw [List.countP_cons_of_pos (p:=fun x=>ltX x z) hz,ih h2 hj']
theorem wQ (v:Int):∀ (ks:List Int) (a:Int) (i:Nat),i<=ks.length->(ks.zip (zU a 1 ks.length)).countP (fun x=>ltX x (v,a+i))=(ks.filter fun x=>decide (x<v)).length+(ks.take i).count v
 | [],a,i,_=>by simp
 | k :: r,a,i,h=>by
  have e:zU a 1 (k :: r).length=a :: zU (a+1) 1 r.length:=by
   show zU a 1 (r.length+1)=_
   unfold zU
   rw [List.range_succ_eq_map,List.map_cons,List.map_map]
   congr 1
   ·simp
   ·refine List.map_congr_left fun x _=>?_
    simp only [Function.comp_apply];push_cast;omega
  rw [e,List.zip_cons_cons]
  cases i with
  | zero=>
   have h0:∀ (l:List Int) (b:Int),a<b->(l.zip (zU b 1 l.length)).countP (fun x=>ltX x (v,a+((0:Nat):Int)))=(l.filter fun x=>decide (x<v)).length:=by
    intro l
    induction l with
    | nil=>intro b _;simp
    | cons y l ih=>
     intro b hb
     have e:zU b 1 (y :: l).length=b :: zU (b+1) 1 l.length:=by
      show zU b 1 (l.length+1)=_
      unfold zU
      rw [List.range_succ_eq_map,List.map_cons,List.map_map]
      congr 1
      ·simp
      ·refine List.map_congr_left fun x _=>?_
       simp only [Function.comp_apply];push_cast;omega
     rw [e,List.zip_cons_cons]
     have ih':=ih (b+1) (by omega)
     by_cases c:y<v
     ·rw [List.countP_cons_of_pos (by unfold ltX;simp [c]),List.filter_cons_of_pos (by simpa using c),ih'];rfl
     ·rw [List.countP_cons_of_neg (by unfold ltX;simp;omega),List.filter_cons_of_neg (by simpa using c),ih']
   have h1:=h0 r (a+1) (by omega)
   rw [List.take_zero,List.count_nil]
   by_cases c:k<v
   ·rw [List.countP_cons_of_pos (by unfold ltX;simp [c]),List.filter_cons_of_pos (by simpa using c),h1];rfl
   ·rw [List.countP_cons_of_neg (by unfold ltX;simp;omega),List.filter_cons_of_neg (by simpa using c),h1];rfl
  | succ i=>
   have ih:=wQ v r (a+1) i (by simpa using h)
   rw [show a+((i+1:Nat):Int)=a+1+(i:Int) by omega]
   rw [List.take_succ_cons,List.count_cons]
   by_cases c:k<v
   ·rw [List.countP_cons_of_pos (by unfold ltX;simp [c]),List.filter_cons_of_pos (by simpa using c),ih,if_neg (by simp;omega),List.length_cons];omega
   ·by_cases c2:k=v
    ·rw [List.countP_cons_of_pos (by unfold ltX;simp [c2];omega),List.filter_cons_of_neg (by simpa using c),ih,if_pos (by simpa using c2)];omega
    ·rw [List.countP_cons_of_neg (by unfold ltX;simp;omega),List.filter_cons_of_neg (by simpa using c),ih,if_neg (by simpa using c2),Nat.add_zero]
theorem Xe {ks:List Int}{z:Int × Int}(h:z ∈ ks.zip (zU 0 1 ks.length)):∃ i:Nat,i<ks.length/\z=(ks.getD i 0,(i:Int)):=by
 obtain ⟨i,hi⟩:=List.mem_iff_getElem?.mp h
 rw [List.getElem?_zip_eq_some] at hi
 obtain ⟨h1,h2⟩:=hi
 have hl:=(List.getElem?_eq_some_iff.mp h1).1
 refine ⟨i,hl,?_⟩
 have e2:z.2=(i:Int):=by
  unfold zU at h2
  rw [List.getElem?_map,List.getElem?_range hl] at h2
  have:=Option.some.inj h2
  rw [<- this];simp
 have e1:z.1=ks.getD i 0:=by rw [List.getD_eq_getElem?_getD,h1];rfl
 rw [<- e1,<- e2]
theorem Yy {ks : List Int}{qs : List (Int × Int)}(hp : qs.Perm (ks.zip (zU 0 1 ks.length)))(hw : qs.Pairwise fun x y : Int × Int => x.1 < y.1 \/ (x.1 = y.1 /\ x.2 <= y.2)) :
    kN ks.length (qs.map (·.2))/\∀ bs,Jt (qs.map (·.2)) bs->bs=gl ks:=by
  have pm:(qs.map (·.2)).Perm (zU 0 1 ks.length):=by
    have:=hp.map (·.2)
    rwa [List.map_snd_zip (by rw [qw];exact Nat.le_refl _)] at this
  have rn:(zU 0 1 ks.length).Nodup:=by
    unfold zU
    rw [List.nodup_iff_pairwise_ne,List.pairwise_map]
    exact List.pairwise_lt_range.imp fun h=>by omega
  have nd:(qs.map (·.2)).Nodup:=pm.nodup_iff.mpr rn
  have ho:kN ks.length (qs.map (·.2)):=⟨by rw [pm.length_eq,qw],nd,fun x hx=>by
    have:=pm.mem_iff.mp hx
    unfold zU at this
    obtain ⟨i,hi,rfl⟩:=List.mem_map.mp this
    have:=List.mem_range.mp hi
    omega⟩
  refine ⟨ho,fun bs hb=>?_⟩
  have hs:qs.Pairwise fun x y=>ltX x y=true:=by
    have nd':qs.Pairwise fun x y=>x.2 ≠ y.2:=by
      have:=List.nodup_iff_pairwise_ne.mp nd
      rwa [List.pairwise_map] at this
    refine (hw.and nd').imp fun ⟨h1,h2⟩=>?_
    unfold ltX
    simp
    omega
  have lq:qs.length=ks.length:=by rw [hp.length_eq,List.length_zip,qw,Nat.min_self]
  have lb:bs.length=ks.length:=by have:=hb.1;rw [List.length_map] at this;omega
  refine List.ext_getElem? fun i=>?_
  by_cases hi:i<ks.length
  · obtain ⟨j, hj⟩ := List.mem_iff_getElem?.mp (pm.mem_iff.mpr (show (i : Int) ∈ zU 0 1 ks.length by
      unfold zU
      exact List.mem_map.mpr ⟨i,List.mem_range.mpr hi,by simp⟩))
    rw [List.getElem?_map] at hj
    cases hq:qs[j]? with
    | none=>rw [hq] at hj;cases hj
    | some z=>
      rw [hq] at hj
      have z2:z.2=(i:Int):=Option.some.inj hj
      have hjl:=(List.getElem?_eq_some_iff.mp hq).1
      obtain ⟨i',hi',ez⟩:=Xe (hp.mem_iff.mp (List.mem_of_getElem? hq))
      have:i'=i:=by rw [ez] at z2;have:((i':Nat):Int)=(i:Int):=z2;omega
      subst this
      have c1:=QO hs hq
      have c2:=wQ (ks.getD i' 0) ks 0 i' (by omega)
      rw [Int.zero_add] at c2
      rw [hp.countP_eq,ez,c2] at c1
      have b1:=hb.2 j (by rw [List.length_map];exact hjl)
      rw [List.getD_eq_getElem?_getD (l:=qs.map _),List.getElem?_map,hq] at b1
      have e3:((Option.map (fun x:Int × Int=>x.2) (some z)).getD 0).toNat=i':=by
        show z.2.toNat=i'
        rw [z2];omega
      rw [e3] at b1
      rw [List.getElem?_eq_getElem (by omega),List.getElem?_eq_getElem (by rw [j0];omega)]
      have g1:=Vo hi'
      rw [List.getD_eq_getElem?_getD,List.getElem?_eq_getElem (by omega)] at b1
      rw [List.getD_eq_getElem?_getD,List.getElem?_eq_getElem (by rw [j0];omega)] at g1
      have b2:bs[i']=(j:Int):=b1
      have g2:(gl ks)[i']'(by rw [j0];omega)=(glN ks i':Nat):=g1
      rw [b2,g2]
      unfold glN
      rw [c1]
  · rw [List.getElem?_eq_none (by omega),List.getElem?_eq_none (by rw [j0];omega)]
noncomputable def WT (R:Array Value->Addr->Obj->Prop)(T:Addr):ASp:=fun xs M Q=>∃ (x:AV) (ks:List Int),xs=[x]/\qm x M=some (ks.map fun i=>.d (.int i))/\ks.length<=1000/\M T=some (.tb R)/\∀ p,M p=none->Q (.ref p) (mup M p (.lst ((gl ks).map fun i=>AV.d (.int i))))
noncomputable abbrev JZ:Stmt:=top 3
theorem JO:zw ["kinds","row"] ["kinds"] (zg JZ):=⟨rfl,rfl,rfl,by decide +kernel,rfl,by decide +kernel,by decide +kernel⟩
noncomputable abbrev RG:Array Value->Addr->Obj->Prop:=ZD (⟨9,40,9,66⟩:Pos) ((("gather_order":Str) ++ ".<locals>.") ++ "<lambda>")
theorem Y4 {c T:Addr}(a:AtC K mg "gather_order" JZ c)(B:Blt mg)(L:xD mg base c T)(D_back_of:Df P w K mg base "back_of" ["order"] 1 (cSp Kq)):Df P w K mg base "gather_order" ["kinds"] 4 (cSp (WT RG T)):=by
 refine Ah (k:=3) a JO (fun _ _ _ _ _ _=>Pn1_ fun _=>rfl) (fun xs M Q h=>?_) (fun f A outer s H E hr=>?_)
 ·obtain ⟨_,_,rfl,_⟩:=h;rfl
 have sc:=JO
 have hsl:=hsl
 refine ⟨_,(zh (zK (i:=1) sc.nd rfl (by first | exact Or.inl rfl | exact Or.inr rfl) (Qu (i:=0) (k:=1) (P:=T) hr rfl B.sorted (za (zQ yU rfl B.range QR (za (zn zP rfl B.len jO (za (pv 0) zc)) zc)) zc) rfl rfl rfl L.ch L.bh L.gp rfl rfl rfl rfl rfl (fun _ _ _ _ _ _ _=>rfl) (by decide) (by decide) (by decide) (by decide) (fun _ _=>rfl)))
  (zq (zN (zR D_back_of (hr.mono (by decide)) rfl (za (pv 1) zc))))),?_⟩
 refine ex2 (by walk_at "sim") ?_
 rintro xs M Q ⟨x,ks,rfl,hx,hn,hT,q⟩
 rw [show qy ["kinds","row"] [x]=[some x,none] from rfl]
 refine zo fun r hr0=>?_
 walk_at "ra"
 refine ⟨_,hx,ks.length,by rw [List.length_map],ks,hx,rfl,hn,hT,fun qs hp hw=>?_⟩
 obtain ⟨ho,hb⟩:=Yy hp hw
 subst hr0
 walk_at "ra"
 refine ⟨_,ks.length,qs.map (·.2),rfl,rfl,ho,by omega,fun bs p h1 h2=>?_⟩
 rw [hb bs h1]
 exact ⟨_,_,Zs (Fr.refl.mup h2 _) h2 zk (zA _),q p h2⟩
theorem wy {α τ:Type}(R:τ->ASt)(g f:α->AV)(p:α->Bool)(xs:List α){ag:AG}{at_:AT}{ae:AE}{G:MH->Prop}{N:List AV->ASt->MH->Prop}{ρ:ASt}{M:MH}(h0:∃ o,ρ=R o)(hG:G M)(hl:xs.length<=100000)
  (hs:∀ (o:τ) (x:α) (Q:Option AV->ASt->MH->Prop),x ∈ xs->(∀ o',Q (if p x then some (f x) else none) (R o') M)->ag (g x) (R o) M fun ρ2 M2=>at_ ρ2 M2 fun b M3=>if b=true then ae ρ2 M3 fun y M4=>Q (some y) ρ2 M4 else Q none ρ2 M3)
  (hN:∀ o,N ((xs.filter p).map f) (R o) M):ZY ag at_ (jI ae) G N (xs.map g) [] ρ M:=by
 have hsl:100000<sizeLine:=by rw [sizeLine_eq];decide
 refine ⟨fun i acc ρ' M'=>i<=xs.length/\acc=((xs.take i).filter p).map f/\M'=M/\∃ o,ρ'=R o,⟨Nat.zero_le _,rfl,rfl,h0⟩,?_,?_⟩
 ·rintro i z acc ρ' M' hx ⟨hi,rfl,rfl,o,rfl⟩
  rw [List.getElem?_map] at hx
  cases e0:xs[i]? with
  | none=>rw [e0] at hx;cases hx
  | some x=>
   rw [e0] at hx
   cases hx
   have hil:=(List.getElem?_eq_some_iff.mp e0).1
   have tk:xs.take (i+1)=xs.take i ++ [x]:=by rw [List.take_add_one,e0];rfl
   have hlen:(((xs.take i).filter p).map f).length<=i:=by
    rw [List.length_map]
    exact Nat.le_trans (List.length_filter_le _ _) (by rw [List.length_take];omega)
   refine ⟨hG,?_⟩
   refine hs o x (fun y ρ2 M3=>match y with | some y=>(((xs.take i).filter p).map f).length<sizeLine/\(i+1<=xs.length/\((xs.take i).filter p).map f ++ [y]=((xs.take (i+1)).filter p).map f/\M3=M'/\∃ o,ρ2=R o) | none=>i+1<=xs.length/\((xs.take i).filter p).map f=((xs.take (i+1)).filter p).map f/\M3=M'/\∃ o,ρ2=R o) (List.mem_of_getElem? e0) fun o'=>?_
   rw [tk,List.filter_append]
   cases e:p x with
   | true=>rw [if_pos rfl];exact ⟨by omega,hil,by rw [List.filter_cons_of_pos e,List.map_append];rfl,rfl,o',rfl⟩
   | false=>rw [if_neg (by decide)];exact ⟨hil,by rw [List.filter_cons_of_neg (by rw [e];decide),List.filter_nil,List.append_nil],rfl,o',rfl⟩
 ·rintro acc ρ' M' ⟨_,rfl,rfl,o,rfl⟩
  rw [List.length_map,List.take_length]
  exact ⟨hG,hN o⟩
noncomputable def QI:ASp:=fun xs M Q=>∃ ks:List Int,xs=[.d (ilD ks)]/\ks.length<=1000/\Q (.d (ilD (gl ks))) M
noncomputable abbrev yi:Stmt:=top 11
theorem yz:zw ["_law_kinds_here","_law_found","_law_place","_law_kind","_law_one"] ["_law_kinds_here"] (zg yi):=⟨rfl,rfl,rfl,by decide +kernel,rfl,by decide +kernel,by decide +kernel⟩
theorem Kf (a:At K mg "_law_goals" yi)(B:Blt mg):Df P w K mg base "_law_goals" ["_law_kinds_here"] 1 (cSp QI):=by
 refine dfA (k:=0) a yz (fun _ _ _ _ _ _=>Pn1_ fun _=>rfl) (fun xs M Q h=>?_) (fun f cdv A outer s H E hr=>?_)
 ·obtain ⟨_,rfl,_⟩:=h;rfl
 have sc:=yz
 have hsl:=hsl
 refine ⟨_,(zh (zK (i:=1) sc.nd rfl (by first | exact Or.inl rfl | exact Or.inr rfl) (QG (qH zc)))
  (zh (yf PassesOwn.never rfl (xA rfl B.enumerate (za (pv 0) zc)) (jM (K:=K) 2 rfl rfl (zT (zH (i:=2) sc.nd rfl (by first | exact Or.inl rfl | exact Or.inr rfl)) (zT (zH (i:=3) sc.nd rfl (by first | exact Or.inl rfl | exact Or.inr rfl)) jK))) (zq (Zg (QH PySem.F.plainAttrs_list PySem.F.slot_list_append PySem.F.type_list_append xB (pv 1) (za (zt qb (zn zP rfl B.len jO (za (xX (ts:=[4]) rfl rfl (WP (pv 0)) (fun _ _ _ _=>(zH (i:=4) sc.nd rfl (by first | exact Or.inl rfl | exact Or.inr rfl))) (fun _ _ _ _=>K5 (qc WQ (pv 4) (pv 3) (zC _))) (fun _ _ _ _=>(pv 4))) zc)) (QH PySem.F.plainAttrs_list PySem.F.slot_list_count PySem.F.type_list_count Kj (kW xO (pv 0) kh (jB (pv 2))) (za (pv 3) zc))) zc)))))
  (zq (zN (pv 1))))),?_⟩
 refine ex2 (by walk_at "sim") ?_
 rintro xs M Q ⟨ks,rfl,hn,q⟩
 rw [show qy ["_law_kinds_here","_law_found","_law_place","_law_kind","_law_one"] [.d (ilD ks)]=[some (.d (ilD ks)),none,none,none,none] from rfl]
 refine zo fun r hr0=>?_
 walk_at "ra"
 intro p hp _
 have hl:∀ M',qm (.d (ilD ks)) M'=some (ks.map fun i=>AV.d (.int i)):=fun M'=>by show some _=_;rw [ju]
 subst hr0
 refine zo fun r hr0=>?_
 walk_at "ra"
 refine ⟨fun i ρ M'=>∃ u v z,ρ=[some (.d (ilD ks)),some (.ref p),u,v,z]/\M'=mup M p (.lst (((List.range i).map fun j=>((glN ks j:Nat):Int)).map fun k=>AV.d (.int k))),⟨_,_,_,rfl,rfl⟩,?_,?_⟩
 ·rintro i y ρ M' hy ⟨u,v,z,rfl,rfl⟩
  refine ⟨trivial,?_⟩
  obtain ⟨d,hd,rfl⟩:=jh hy
  rw [List.getElem?_map] at hd
  cases e:ks[i]? with
  | none=>rw [e] at hd;cases hd
  | some k=>
   rw [e] at hd
   cases hd
   have hi:=(List.getElem?_eq_some_iff.mp e).1
   have hk:ks.getD i 0=k:=by rw [List.getD_eq_getElem?_getD,e];rfl
   walk_at "ra"
   refine ⟨⟨_,kY zk⟩,?_⟩
   refine wy (fun o=>[some (AV.d (ilD ks)),some (AV.ref p),some (AV.d (.int (i:Int))),some (AV.d (.int k)),o]) (fun x:Int=>AV.d (.int x)) (fun x:Int=>AV.d (.int x)) (fun x=>decide (x<k)) ks ⟨_,rfl⟩ trivial (by omega) (fun o x Q hx q=>?_) fun o=>?_
   ·walk_at "ra"
    by_cases c:x<k
    ·rw [if_pos c]
     have:=q (some (.d (.int x)))
     rw [if_pos (decide_eq_true c)] at this
     exact this
    ·rw [if_neg c]
     have:=q (some (.d (.int x)))
     rw [if_neg (by simpa using c)] at this
     exact this
   ·have e1:yS (ks.map fun k=>AV.d (.int k)) none (some (i:Int))=(ks.take i).map fun k=>AV.d (.int k):=by rw [KM,List.map_take]
    refine ⟨_,zA _,_,by rw [e1];exact zA _,⟨_,rfl⟩,_,v4 _,_,rfl,_,zk,by simp only [List.length_map,List.length_range];omega,?_⟩
    rw [wY]
    congr 2
    rw [List.range_succ,List.map_append,List.map_append]
    congr 1
    have e2:((ks.take i).map V.int).countP (fun y=>eqV y (.int k))=(ks.take i).count k:=by
     rw [List.countP_map]
     unfold List.count
     refine List.countP_congr fun x _=>?_
     simp [eqV]
    rw [e2,List.length_map]
    unfold glN
    simp only [List.map_cons,List.map_nil]
    rw [hk,Int.natCast_add]
 ·rintro ρ M' ⟨u,v,z,rfl,rfl⟩
  refine ⟨trivial,?_⟩
  subst hr0
  walk_at "ra"
  have e:(j9 (ks.map Dat.int)).length=ks.length:=by rw [qF,List.length_map]
  refine ⟨_,_,Xh (Fr.refl.mup hp _) hp zk (zA _),?_⟩
  rw [e]
  exact q
noncomputable abbrev JM:Stmt:=top 12
theorem JT:zw ["_law_script","_law_cells","_law_k","_law_box_here","_law_n","_law_kinds_here","_law_due","_law_handed","_law_found"] ["_law_script"] (zg JM):=⟨rfl,rfl,rfl,by decide +kernel,rfl,by decide +kernel,by decide +kernel⟩
noncomputable def xN (T:Addr)(K:PySem.W.Frag):Sp:=fun vs H Q _=>∃ (a:Addr) (ns:List Int),vs=[.ref a]/\wK T H/\SqL K H a (ns.map V.int)/\ns.length<=63/\∀ H',Q (.bl true) H'
noncomputable def X5 (R:Array Value->Addr->Obj->Prop)(T:Addr)(K:PySem.W.Frag):ASp:=fun xs M Q=>∃ ns:List Int,xs=[.d (.scr K ns)]/\ns.length<=63/\M T=some (.tb R)/\Q (.d (.bl true)) M
theorem XT (R:Array Value->Addr->Obj->Prop){T:Addr}(vs:List V)(H:Hp)(Q:VK)(E:XK)(h:xN T K vs H Q E):cSp (X5 R T K) vs H Q E:=by
 obtain ⟨a,ns,rfl,hO,ha,hn,q⟩:=h
 have rp:Rep H (fun b=>b=T) (.ref a) (.scr K ns):=by
  rcases ha with h | h
  ·refine .scr (fun z=>?_) h
   have z:a=T:=z
   rcases h with h | ⟨o,h⟩
   ·rw [z,hO.1] at h;cases h
   ·rw [z,hO.1] at h;cases h
  ·exact .scrK (.inr h)
 refine ⟨[.d (.scr K ns)],fun b=>if b=T then some (.tb R) else none,fun b=>b=T,fun x _=>x=.d (.bl true),⟨fun b o e=>?_,fun b h=>?_,fun b h=>?_⟩,.cons rp .nil,⟨ns,rfl,hn,if_pos rfl,rfl⟩,fun x M' v H' O' hx _ _ r=>?_⟩
 ·by_cases c:b=T
  ·have e':=(if_pos c).symm.trans e
   cases e'
   exact ⟨#[],by rw [c];exact hO.1,.inl rfl⟩
  ·have e':=(if_neg c).symm.trans e
   cases e'
 ·by_cases c:b=T
  ·exact c
  ·exact absurd (if_neg c) h
 ·exact ⟨.tbl #[],by rw [show b=T from h];exact hO.1,fun xs z=>nomatch z⟩
 ·subst hx
  rw [j4 r]
  exact q H'
theorem Vw {ns:List Int}(h:ns.length<=1000):qz 3 (ilD ns):=(Km (n:=0) (by rw [List.length_map];omega) fun x hx=>by
 obtain ⟨i,_,rfl⟩:=List.mem_map.mp hx;exact QM 0 i).mono (by omega)
theorem YJ {T:Addr}(a:At K mg "law" JM)(B:Blt mg)(D_law_take:Df P w K mg base "_law_take" ["_law_box_here","_law_many"] 19 (cSp Qo))(D_law_box:Df P w K mg base "_law_box" ["_law_script","_law_k"] 19 (cSp WO))(D_law_folded:Df P w K mg base "_law_folded" ["_law_script","_law_many"] 19 (cSp (wV K)))(D_law_length:Df P w K mg base "_law_length" ["_law_box_here","_law_most"] 19 (cSp Zp))(D_law_kinds:Df P w K mg base "_law_kinds" ["_law_box_here","_law_n","_law_most"] 19 (cSp J4))
  (D_law_goals:Df P w K mg base "_law_goals" ["_law_kinds_here"] 19 (cSp QI)) (D_gather_order_o D_gather_order:Df P w K mg base "gather_order" ["kinds"] 19 (cSp (WT RG T))) (D_law_same:Df P w K mg base "_law_same" ["_law_found","_law_due"] 19 (cSp (kL 3))) :
  Df P w K mg base "law" ["_law_script"] 20 (cSp (X5 RG T K)):=by
 refine dfA (k:=19) a JT (fun _ _ _ _ _ _=>Pn1_ fun _=>rfl) (fun xs M Q h=>?_) (fun f cdv A outer s H E hr=>?_)
 ·obtain ⟨_,rfl,_⟩:=h;rfl
 have sc:=JT
 have hsl:=hsl
 refine ⟨_,(zh (zK (i:=1) sc.nd rfl (by first | exact Or.inl rfl | exact Or.inr rfl) (zR D_law_folded hr rfl (za (pv 0) (za zd zc))))
  (zh (yf PassesOwn.never rfl (qD rfl B.range (za (zn (xG rfl) rfl B.max Q7 (za zd (za (zn zP rfl B.len jO (za (pv 1) zc)) zc))) zc)) (zH (i:=2) sc.nd rfl (by first | exact Or.inl rfl | exact Or.inr rfl)) (zh (zK (i:=3) sc.nd rfl (by first | exact Or.inl rfl | exact Or.inr rfl) (zR D_law_box hr rfl (za (pv 1) (za (pv 2) zc))))
  (zh (zK (i:=4) sc.nd rfl (by first | exact Or.inl rfl | exact Or.inr rfl) (zR D_law_length hr rfl (za (pv 3) (za (zY JD (qH (za zd (za zd zc))) (zQ qC rfl B.int jU (za (qd (qk hr.units) (pv 2) zd (zC _)) zc)) (fun _ _=>rfl)) zc))))
  (zh (zK (i:=5) sc.nd rfl (by first | exact Or.inl rfl | exact Or.inr rfl) (zR D_law_kinds hr rfl (za (pv 3) (za (pv 4) (za (zY JD (qH (za zd (za zd zc))) (zR D_law_take hr rfl (za (pv 3) (za zd zc))) (fun _ _=>rfl)) zc)))))
  (zh (zK (i:=6) sc.nd rfl (by first | exact Or.inl rfl | exact Or.inr rfl) (zR D_law_goals hr rfl (za (pv 5) zc)))
  (zh (zK (i:=7) sc.nd rfl (by first | exact Or.inl rfl | exact Or.inr rfl) (zQ jE rfl B.list jg (za (pv 5) zc)))
  (zh (zK (i:=8) sc.nd rfl (by first | exact Or.inl rfl | exact Or.inr rfl) (zR D_gather_order_o hr rfl (za (pv 7) zc)))
  (zh (qX (PW.pt (KB (vL (kU (zR D_law_same hr rfl (za (pv 8) (za (pv 6) zc))) (fun _=>rfl))) (wv (qc (Q8 hr.units) (pv 7) (pv 5) (zC _))))) (zq (zN Zk)) zX)
  (zh (Zg (QH PySem.F.plainAttrs_list PySem.F.slot_list_append PySem.F.type_list_append xB (pv 8) (za zd zc)))
  (zq (qX (vL (kU (zR D_law_same hr rfl (za (zR D_gather_order hr rfl (za (zQ xc rfl B.tuple kX (za (pv 5) zc)) zc)) (za (pv 6) zc))) (fun _=>rfl))) (zq (zN Zk)) zX)))))))))))
  (zq (zN Zk)))),?_⟩
 refine ex2 (by walk_at "sim") ?_
 rintro xs M Q ⟨ns,rfl,hn,hT,q⟩
 rw [show qy ["_law_script","_law_cells","_law_k","_law_box_here","_law_n","_law_kinds_here","_law_due","_law_handed","_law_found"] [.d (.scr K ns)]=[some (.d (.scr K ns)),none,none,none,none,none,none,none,none] from rfl]
 have fT:∀ {M':MH},Fr M M'->M' T=some (.tb RG):=fun f=>(f T (by rw [hT];exact fun z=>nomatch z)).trans hT
 refine zo fun r hr0=>?_
 walk_at "ra"
 refine ⟨6,ns,rfl,by omega,by omega,hn,fun cs lc=>?_⟩
 subst hr0
 refine zo fun r hr0=>?_
 walk_at "ra"
 have e2:(if (cs.length:Int) > 2 then (cs.length:Int) else 2)=((max 2 cs.length:Nat):Int):=by split <;> omega
 rw [e2,Int.toNat_natCast]
 refine ⟨by omega,by omega,?_⟩
 refine ⟨fun i ρ M'=>(∃ x2 x3 x4 x5 x6 x7 x8,ρ=[some (.d (.scr K ns)),some (.d (ilD cs)),x2,x3,x4,x5,x6,x7,x8])/\Fr M M',⟨⟨_,_,_,_,_,_,_,rfl⟩,Fr.refl⟩,?_,?_⟩
 ·rintro i y ρ M1 hy ⟨⟨x2,x3,x4,x5,x6,x7,x8,rfl⟩,f1⟩
  obtain ⟨hi,rfl⟩:=kO hy
  refine ⟨trivial,?_⟩
  rw [Int.zero_add,Int.mul_one]
  show yQ _ _ _ _ _ _
  refine zo fun r2 hr2=>?_
  walk_at "ra"
  refine ⟨_,i,cs,rfl,K0 _ _,by omega,by omega,by omega,fun b o hb bx=>?_⟩
  have b0:=f1.non hb
  have f2:=f1.mup b0 o
  have sb:=SB.refl bx
  generalize mup M1 b o=M2 at *
  subst hr2
  refine zo fun r2 hr2=>?_
  walk_at "ra"
  have len:∃ v:Int,atI [AV.d (Dat.int 60),AV.d (Dat.int 200)] (if (i:Int)=0 then 1 else 0)=some (.d (.int v))/\24<=v/\v<=200:=by
   by_cases c:(i:Int)=0
   ·exact ⟨200,by rw [if_pos c];rfl,by omega,by omega⟩
   ·exact ⟨60,by rw [if_neg c];rfl,by omega,by omega⟩
  obtain ⟨mm,hm,m1,m2⟩:=len
  refine ⟨by omega,_,hm,b,mm,0,rfl,sb.bx,by omega,by omega,by omega,fun n M3 s3 n0 n1=>?_⟩
  have sb:=sb.go s3
  obtain ⟨n,rfl⟩:∃ k:Nat,n=k:=⟨n.toNat,by omega⟩
  subst hr2
  refine zo fun r2 hr2=>?_
  walk_at "ra"
  refine ⟨by omega,_,2,_,rfl,sb.bx,by omega,by omega,by omega,fun v M4 s4 v0 v1=>?_⟩
  have sb:=sb.go s4
  have mst:∃ m:Int,atI [AV.d (Dat.int 8),AV.d (Dat.int 3)] v=some (.d (.int m))/\0<m/\m<=100:=by
   rcases (by omega:v=0 \/ v=1) with rfl | rfl
   ·exact ⟨8,rfl,by omega,by omega⟩
   ·exact ⟨3,rfl,by omega,by omega⟩
  obtain ⟨mo,hmo,o1,o2⟩:=mst
  refine ⟨_,rfl,_,hmo,b,n,mo,_,rfl,sb.bx,by omega,by omega,by omega,by omega,fun ks M5 s5 lk hk=>?_⟩
  have sb:=sb.go s5
  have fm:=SB.frm f2 b0 sb
  have dpl:∀ ns:List Int,dp (ilD ns)<=40:=fun ns=>Nat.le_trans (K3 ns) (by decide)
  clear sb s5 s4 s3 bx
  subst hr2
  refine zo fun r2 hr2=>?_
  walk_at "ra"
  refine ⟨ks,rfl,by omega,?_⟩
  have fp:qz 3 (ilD (gl ks)):=Vw (by rw [j0];omega)
  subst hr2
  refine zo fun r2 hr2=>?_
  walk_at "ra"
  subst hr2
  refine zo fun r2 hr2=>?_
  walk_at "ra"
  refine ⟨_,ks,rfl,by rw [Kl,ju],by omega,fT fm,fun p hp=>?_⟩
  have p0:=fm.non hp
  have dq:jf (.ref p) (mup M5 p (.lst ((gl ks).map fun i=>AV.d (.int i))))=some (ilD (gl ks)):=yG zk (zA _)
  subst hr2
  refine zo fun r2 hr2=>?_
  walk_at "ra"
  refine ⟨_,_,_,rfl,dq,rfl,fp,by omega,?_⟩
  refine ⟨_,rfl,?_⟩
  have eqs:∀ ns:List Int,¬ (eqD (.lst (ns.map .int)) (ilD ns)=false):=fun ns h=>by rw [show Dat.lst (ns.map .int)=ilD ns from rfl,yT (Nat.lt_of_le_of_lt (dpl ns) (by decide))] at h;cases h
  rw [if_neg (by decide)]
  refine ⟨dpl _,dpl _,?_⟩
  rw [if_neg (eqs _)]
  subst hr2
  refine zo fun r2 hr2=>?_
  walk_at "ra"
  refine ⟨⟨_,kY zk⟩,_,zk,by rw [List.length_map,j0];omega,?_⟩
  have f6:=fm.mup p0 (.lst (((gl ks).map fun i=>AV.d (.int i)) ++ [AV.d (.int 0)]))
  generalize mup M5 p (.lst (((gl ks).map fun i=>AV.d (.int i)) ++ [AV.d (.int 0)]))=M6 at *
  subst hr2
  walk_at "ra"
  have st:qm (.d (.tup (ks.map .int))) M6=some (ks.map fun i=>AV.d (.int i)):=by rw [Kv,ju]
  refine ⟨_,ks,rfl,st,by omega,fT f6,fun p2 hp2=>?_⟩
  have p20:=f6.non hp2
  have dq2:jf (.ref p2) (mup M6 p2 (.lst ((gl ks).map fun i=>AV.d (.int i))))=some (ilD (gl ks)):=yG zk (zA _)
  refine ⟨_,_,_,rfl,dq2,rfl,fp,by omega,_,rfl,?_⟩
  rw [if_neg (by decide)]
  have f7:=f6.mup p20 (.lst ((gl ks).map fun i=>AV.d (.int i)))
  first | exact f7 | exact ⟨rfl,f7⟩ | exact ⟨⟨_,rfl⟩,f7⟩ | (refine ⟨?_,f7⟩;simp)
 ·rintro ρ M1 ⟨⟨x2,x3,x4,x5,x6,x7,x8,rfl⟩,f1⟩
  refine ⟨trivial,?_⟩
  subst hr0
  walk_at "ra"
  exact Ae f1 q
end
theorem all_mk {l:PySem.W.OpenLaw}{w:World}{K:PySem.W.Frag}{h:Heap}{mg:Str->Option Value}{fa c T:Addr}(X:K.In h)(G:h.Ns mainGlobals mg)(hfa:mg "law"=some (.ref fa))(hc:kT K mg "gather_order" c)(a:At K mg "law" JM)(B:Blt mg)(Ball:mg "all"=none)
  (a__law_take:At K mg "_law_take" vW) (a__law_box:At K mg "_law_box" Kw) (a__law_folded:At K mg "_law_folded" kr) (a__law_length:At K mg "_law_length" kP) (a__law_kinds:At K mg "_law_kinds" xY) (a__law_same:At K mg "_law_same" kq) (a__law_goals:At K mg "_law_goals" yi) (a_back_of:At K mg "back_of" yo) (a_gather_order:At K mg "gather_order" JZ)
 :∃ fd:FuncData,(∀ (s:Shared) (v:Value),BindsTo s fd ⟨[v],[]⟩ [("_law_script",v)])/\∀ base:Heap,K.In base->base.Ns mainGlobals mg->xD mg base c T->qN l.prog w K mg base CX0 20 fa fd ["_law_script"] (xN T K):=by
 obtain ⟨f,fd,F,m⟩:=id a
 obtain rfl:fa=f:=by rw [hfa] at m;cases m;rfl
 obtain ⟨oc,od,kV,doc,pm,an,cdv,ct,osl,e,lk,hcd⟩:=F.ex
 refine ⟨fd,fun s v=>?_,fun base _ _ hL=>?_⟩
 ·subst e;exact .of_eq rfl
 ·have T0:=KI (P:=l.prog) (w:=w) (base:=base) a__law_take B
  have tk:=T0.imp' XX
  have gt:=Y4 (P:=l.prog) (w:=w) (base:=base) (a_gather_order.code hc) B hL (JP a_back_of B)
  have L:=YJ (P:=l.prog) (w:=w) (base:=base) a B (tk.mono (by decide)) (((Y5 a__law_box B).imp' Vk).mono (by decide)) (((Z7 a__law_folded B).imp' Z6).mono (by decide)) (((Qf a__law_length B T0).imp' Qd).mono (by decide)) ((JC a__law_kinds B tk).mono (by decide)) ((Kf a__law_goals B).mono (by decide)) (gt.mono (by decide)) (gt.mono (by decide)) ((vh a__law_same B Ball 3).mono (by decide))
  exact (L.imp' (XT RG (K:=K))).fn m lk
theorem walk {l:PySem.W.OpenLaw}{q:Program}{loose:List Str}{XP:(Str->Option Value)->Heap->Prop}{YP:World->Heap->Prop}{d:DefRec}{K:Params->PySem.W.Frag}(hn:l.most=some 63)(hdf:d.params.defaults=[])
  (hY:∀ (w:World) (h:Heap),YP w h->(K w.params).In h) (hgd:("gather_order":Str) ∈ (recsOf q).map (·.name)) (hnt:∀ w:World,PySem.W.noTabs (K w.params)=true)
  (F:∀ (w:World) (mg:Str->Option Value) (fa c T:Addr) (h:Heap),(K w.params).In h->h.Ns mainGlobals mg->mg d.name=some (.ref fa)->kT (K w.params) mg "gather_order" c ->
   ∃ fd:FuncData,(∀ (s:Shared) (u:Value),BindsTo s fd ⟨[u],[]⟩ [("_law_script",u)])/\∀ base:Heap,(K w.params).In base->base.Ns mainGlobals mg->xD mg base c T->qN l.prog w (K w.params) mg base CX0 20 fa fd ["_law_script"] (xN T (K w.params))) :
  PySem.W.WalkO q loose XP YP l.row.toRowW d [] (fun f vs=>PySem.call f vs):=
 L2.walk_ofT (n:=63) (k:=20) (x:="_law_script") (CX:=CX0) (sp:=xN) (gn:="gather_order") hn (by decide) hdf ⟨rfl,rfl,by decide,by decide⟩ hY hgd hnt F (fun _ _ _ a ns hl hO hS=>⟨a,ns,rfl,hO,hS,hl,fun _=>rfl⟩) fun _ _ _ _ z=>z
end Ot
theorem PySem.W.Fast.te17134609040440497966:True:=trivial
theorem PySem.W.Fast.te15031981988382100813:True:=trivial
theorem PySem.W.Fast.te13003253608549587543:True:=trivial
namespace PySem.W.Fast
def tw2863296410414753521:=()
def tw6522393846171948988:=()
def tw339517255379497958:=()
def tw7464685936168383190:=()
def tw4627051630522754174:=()
def tw5716930797692793763:=()
def tw6667807717435335864:=()
def tw16248575131325640161:=()
def tw2582778425755248742:=()
def tw7823325557487796696:=()
def tw13075975530508269893:=()
def tw1271757102852001561:=()
def tw16342391784628768010:=()
def tw16978230653201774625:=()
def tw8406463466174531585:=()
def tw9010687043371814541:=()
def tw7438448113837768313:=()
def tw3809082919062397231:=()
def tw2233186774920673321:=()
def tw8557670471017536385:=()
def tw1552672020670444857:=()
def tw13058913695250912206:=()
def tw3565341012372438334:=()
def tw1535848512571607245:=()
def tw4865378030635591712:=()
def tw6605416406373206875:=()
def tw12099095468923019095:=()
def tw8165211091618122828:=()
def tw6461799071869597962:=()
def tw14667321116878760981:=()
def tw120477818174423249:=()
def tw15405827052273254694:=()
def tw8024014588630564075:=()
def tw17441469731102151629:=()
def tw1475518461351414119:=()
def tw13495096492971341403:=()
def tw17687934001252587896:=()
def tw9752884586567028585:=()
def tw5895962360464838390:=()
def tw15899448577598285312:=()
def tw10821539453582720734:=()
def tw6061045659732998245:=()
def tw13324668182718166024:=()
def tw15472009293713871852:=()
def tw7462611918403923429:=()
def tw11860153181570092966:=()
def tw8063867134106531924:=()
def tw8861141075859209856:=()
def tw6472307410058002202:=()
def tw1850662040012966525:=()
def tw1651940782206933731:=()
def tw17242440757429774052:=()
def tw16550232332240235302:=()
def tw3966639875173063356:=()
def tw3777544261218251532:=()
def tw7465291946367531977:=()
def tw9235574953654066593:=()
def tw14069172661988290040:=()
def tw330528909561200385:=()
def tw10814950703679367636:=()
def tw11939259868255868262:=()
def tw5328271782565874835:=()
def tw1455097178969576619:=()
def tw17699767177676364966:=()
def tw6855233983301908419:=()
def tw11448608791649523533:=()
def tw15376716374068210003:=()
end PySem.W.Fast
open PySem PySem.W PyProof.Rows
set_option maxRecDepth 100000 in
set_option maxHeartbeats 0 in
theorem PySem.Challenge.cw_ownturn_k45_kinds_gathered_holds : PySem.Challenge.rw_ownturn_k45_kinds_gathered.Holds := by
 w_on; o_law; k_head; (case hw => w_witness2)
 k_fill
 refine Ot.walk (l := PySem.Challenge.rw_ownturn_k45_kinds_gathered) rfl rfl (fun w h Y => PySem.W.km_in_of Y) (by decide +kernel) (fun w => by rfl) ?F
 case F =>
  intro w mg fa c T h KX G hmg hc
  refine' Ot.all_mk KX G hmg hc (L2.at_mk KX G ?a0 ?l0 ?c0 ?k0) (L2.blt_mk KX G ?z1 ?z2 ?z3 ?z4 ?z5 ?z6 ?z7 ?z8 ?z9 ?z10 ?z11 ?z12 ?z13 ?z14 ?z15 ?z16) (PySem.W.mg_none_of KX G ?zall) (L2.at_mk KX G ?a1 ?l1 ?c1 ?k1) (L2.at_mk KX G ?a2 ?l2 ?c2 ?k2) (L2.at_mk KX G ?a3 ?l3 ?c3 ?k3) (L2.at_mk KX G ?a4 ?l4 ?c4 ?k4) (L2.at_mk KX G ?a5 ?l5 ?c5 ?k5) (L2.at_mk KX G ?a6 ?l6 ?c6 ?k6) (L2.at_mk KX G ?a7 ?l7 ?c7 ?k7) (L2.at_mk KX G ?a8 ?l8 ?c8 ?k8) (L2.at_mk KX G ?a9 ?l9 ?c9 ?k9)
  (case a0 => k_is); (case l0 => k_is); (case c0 => k_is); (case k0 => k_is)
  (case a1 => k_is); (case l1 => k_is); (case c1 => k_is); (case k1 => k_is)
  (case a2 => k_is); (case l2 => k_is); (case c2 => k_is); (case k2 => k_is)
  (case a3 => k_is); (case l3 => k_is); (case c3 => k_is); (case k3 => k_is)
  (case a4 => k_is); (case l4 => k_is); (case c4 => k_is); (case k4 => k_is)
  (case a5 => k_is); (case l5 => k_is); (case c5 => k_is); (case k5 => k_is)
  (case a6 => k_is); (case l6 => k_is); (case c6 => k_is); (case k6 => k_is)
  (case a7 => k_is); (case l7 => k_is); (case c7 => k_is); (case k7 => k_is)
  (case a8 => k_is); (case l8 => k_is); (case c8 => k_is); (case k8 => k_is)
  (case a9 => k_is); (case l9 => k_is); (case c9 => k_is); (case k9 => k_is)
  (case zall => k_is)
  (case z1 => k_is)
  (case z2 => k_is)
  (case z3 => k_is)
  (case z4 => k_is)
  (case z5 => k_is)
  (case z6 => k_is)
  (case z7 => k_is)
  (case z8 => k_is)
  (case z9 => k_is)
  (case z10 => k_is)
  (case z11 => k_is)
  (case z12 => k_is)
  (case z13 => k_is)
  (case z14 => k_is)
  (case z15 => k_is)
  (case z16 => k_is)
