import PyProof.Rows.All
import Wide.All
import OpenK.AllK
import Wide.FinOn
import Lean
import PyProof.EqAt
import PyProof.EqKinds
import PyProof.TupleCall
import PyProof.ExcInit
import PyProof.ExcClass3
import PyProof.InstStoreFacts
import KE.KIsAll
import KE.KTryMore
import PyProof.ExcBaseAll.ValueError
import PyProof.ExcArgsOwn
import KE.RegKIsAll
import KE.RegKTryMore
import PyProof.RulesAs
import PySem.Challenge.RW_ownturn_k67_whole_orders_and_their_plans
set_option compiler.extract_closed false
set_option Elab.async false
set_option linter.all false
set_option maxRecDepth 100000
namespace L2
open PySem PySem.Spec PyProof.Rows
noncomputable abbrev Key:=Sum Int Str
noncomputable def Z1:Key->Value->Bool
 | .inl k,v=>Value.isInt k v
 | .inr x,v=>Value.isStrOf x v
noncomputable def Nb (w:World):Key->Int
 | .inl k=>hashInt k
 | .inr x=>hashStr w x
theorem qt:∀ {k:Key} {v:Value},Z1 k v=true->(∃ i t,k=Sum.inl i/\v=Value.int i t) \/ (∃ x t,k=Sum.inr x/\v=Value.str x t)
 | .inl i,v,h=>by
  obtain ⟨t,e⟩:=Value.isInt_shape (k:=i) (v:=v) h
  exact .inl ⟨i,t,rfl,e⟩
 | .inr x,v,h=>by
  obtain ⟨t,e⟩:=Value.isStrOf_shape (x:=x) (v:=v) h
  exact .inr ⟨x,t,rfl,e⟩
theorem WF (i:Int)(t:Tok):Z1 (.inl i) (.int i t)=true:=by simp [Z1,Value.isInt]
theorem We (x:Str)(t:Tok):Z1 (.inr x) (.str x t)=true:=by simp [Z1,Value.isStrOf]
theorem LA (a b:Int):decide ((Sum.inl a:Key)=Sum.inl b)=(a == b):=by
 by_cases e:a=b
 ·subst e;simp
 ·have h:¬ (Sum.inl a:Key)=Sum.inl b:=fun q=>e (Sum.inl.inj q)
  rw [decide_eq_false h]
  exact (beq_eq_false_iff_ne.mpr e).symm
theorem IC (a b:Str):decide ((Sum.inr a:Key)=Sum.inr b)=decide (a=b):=by
 by_cases e:a=b
 ·subst e;simp
 ·have h:¬ (Sum.inr a:Key)=Sum.inr b:=fun q=>e (Sum.inr.inj q)
  rw [decide_eq_false h,decide_eq_false e]
theorem IQ (a:Int)(b:Str):decide ((Sum.inl a:Key)=Sum.inr b)=false:=decide_eq_false (fun q=>nomatch q)
theorem Hj (a:Str)(b:Int):decide ((Sum.inr a:Key)=Sum.inl b)=false:=decide_eq_false (fun q=>nomatch q)
noncomputable def jG (prog:Program)(w:World):PySem.KeyKind prog w Key where
 is:=Z1
 hash:=Nb w
 inj:=fun v a b ha hb=>by
  rcases qt ha with ⟨i,t,rfl,rfl⟩ | ⟨x,t,rfl,rfl⟩
  ·rcases qt hb with ⟨j,u,rfl,e⟩ | ⟨y,u,rfl,e⟩
   ·injection e with e1 _;rw [e1]
   ·exact nomatch e
  ·rcases qt hb with ⟨j,u,rfl,e⟩ | ⟨y,u,rfl,e⟩
   ·exact nomatch e
   ·injection e with e1 _;rw [e1]
 byValue:=fun k v h=>by
  rcases qt h with ⟨i,t,rfl,rfl⟩ | ⟨x,t,rfl,rfl⟩ <;> rfl
 pyHash:=fun hv h=>by
  rcases qt hv with ⟨i,t,rfl,rfl⟩ | ⟨x,t,rfl,rfl⟩
  ·exact wpAny_pyHash_int h
  ·exact wpAny_pyHash_str h
 eqBool:=fun hu hv h=>by
  rcases qt hu with ⟨i,t,rfl,rfl⟩ | ⟨x,t,rfl,rfl⟩
  ·rcases qt hv with ⟨j,u,rfl,rfl⟩ | ⟨y,u,rfl,rfl⟩
   ·rw [LA] at h;exact wpAny_eqBool_int h
   ·rw [IQ] at h;exact SeqAt.EqAt.int_str i t y u _ _ _ _ h
  ·rcases qt hv with ⟨j,u,rfl,rfl⟩ | ⟨y,u,rfl,rfl⟩
   ·rw [Hj] at h;exact SeqAt.EqAt.str_int x t j u _ _ _ _ h
   ·rw [IC] at h;exact wpAny_eqBool_str h
 «strs»:=fun k x t v h=>by
  rcases qt h with ⟨i,u,rfl,e⟩ | ⟨y,u,rfl,e⟩
  ·exact nomatch e
  ·injection e with e1 _
   subst e1
   cases v <;> rfl
theorem Q5 (prog:Program)(w:World)(i:Int)(t:Tok):(jG prog w).is (.inl i) (.int i t)=true:=WF i t
theorem Jy (prog:Program)(w:World)(x:Str)(t:Tok):(jG prog w).is (.inr x) (.str x t)=true:=We x t
inductive V where
 | non | bl (b:Bool) | int (i:Int) | str (x:Str) | byt (b:Array UInt8) | flt (b:UInt64) | ref (a:Addr) | ty (n:String)
 deriving DecidableEq
noncomputable def zI:V->Value->Prop
 | .non,u=>u=Value.none
 | .bl b,u=>u=Value.bool b
 | .int i,u=>∃ t,u=Value.int i t
 | .str x,u=>∃ t,u=Value.str x t
 | .byt b,u=>∃ t,u=Value.bytes b t
 | .flt b,u=>∃ t,u=Value.float b t
 | .ref a,u=>u=Value.ref a
 | .ty n,u=>u=Value.type n
noncomputable abbrev zH:List V->List Value->Prop:=Paired zI
theorem zH.length {xs:List V}{us:List Value}(r:zH xs us):xs.length=us.length:=Paired.length r
theorem zH.get:∀ {xs:List V} {us:List Value} {i:Nat} {x:V},zH xs us->xs[i]?=some x->∃ u,us[i]?=some u/\zI x u
 | _,_,_,_,.nil,e=>by simp at e
 | _,_,0,_,.cons r _,e=>by simp at e;subst e;exact ⟨_,rfl,r⟩
 | _,_,i+1,x,.cons _ t,e=>by
  obtain ⟨u,h1,h2⟩:=zH.get (i:=i) (x:=x) t (by simpa using e)
  exact ⟨u,by simpa using h1,h2⟩
theorem zH.set {x:V}{u:Value}(r:zI x u):∀ {xs:List V} {us:List Value} (i:Nat),zH xs us->zH (xs.set i x) (us.set i u)
 | _,_,_,.nil=>.nil
 | _,_,0,.cons _ t=>.cons r t
 | _,_,i+1,.cons q t=>.cons q (zH.set r i t)
theorem zH.append:∀ {xs ys:List V} {us ws:List Value},zH xs us->zH ys ws->zH (xs ++ ys) (us ++ ws)
 | _,_,_,_,.nil,s=>s
 | _,_,_,_,.cons r t,s=>.cons r (zH.append t s)
theorem zH.take:∀ {xs:List V} {us:List Value} (n:Nat),zH xs us->zH (xs.take n) (us.take n)
 | _,_,0,_=>.nil
 | _,_,_+1,.nil=>.nil
 | _,_,n+1,.cons r t=>.cons r (zH.take n t)
theorem zH.drop:∀ {xs:List V} {us:List Value} (n:Nat),zH xs us->zH (xs.drop n) (us.drop n)
 | _,_,0,r=>r
 | _,_,_+1,.nil=>.nil
 | _,_,n+1,.cons _ t=>zH.drop n t
noncomputable def y8:Option V->Option Value->Prop
 | some v,some u=>zI v u
 | none,none=>True
 | _,_=>False
noncomputable def KV {κ:Type}:List (κ × V)->List (κ × Value)->Prop:=Paired fun (p:κ × V) (q:κ × Value)=>p.1=q.1/\zI p.2 q.2
noncomputable def kV:Key->V
 | .inl i=>.int i
 | .inr x=>.str x
inductive HO where
  | lst (xs:List V)
  | tup (xs:List V)
  | dK (kvs:List (Key × V)) | dT (kvs:List (List Key × V))
  | set (S:Int->Bool) (n:Nat)
  | ins (C dx:Addr) (fs:List (Str × V))
  | own (x:Addr)
  | xd (fs:List (Str × V))
  | met (f x:Addr)
  | rng (lo hi:Int)
  | frz (o:Obj) (u:HO)
  | tbl (ps:Array Value)
  | ext (φ:Heap->Prop)
noncomputable abbrev Hp:=Addr->Option HO
noncomputable def upd (H:Hp)(a:Addr)(o:HO):Hp:=fun b=>if b=a then some o else H b
theorem zf {H:Hp}{a:Addr}{o:HO}:upd H a o a=some o:=by unfold upd;rw [if_pos rfl]
theorem zm {H:Hp}{a b:Addr}{o:HO}(h:b ≠ a):upd H a o b=H b:=by unfold upd;rw [if_neg h]
theorem Kf {H:Hp}{a b:Addr}{o u:HO}(h:H a=some o)(h':H b=some u)(d:o ≠ u):a ≠ b:=by
 intro e;subst e;rw [h] at h';exact d (Option.some.inj h')
theorem zh {H:Hp}{a b:Addr}{o:HO}(h:H a=some o)(h':H b=none):a ≠ b:=by
 intro e;subst e;rw [h] at h';cases h'
noncomputable def QI (h:Heap)(a:Addr)(items:Array Value):Prop:=∃ o,h.get? a=some o/\o.cls=.type "tuple"/\(∃ n,o.data=.seq items n)/\o.dict=none
theorem QI.is {h:Heap}{a:Addr}{items:Array Value}(x:QI h a items):IsTup h a items:=let ⟨o,e,c,n,_⟩:=x;⟨o,e,c,n⟩
theorem QI.lt {h:Heap}{a:Addr}{items:Array Value}(x:QI h a items):a<h.objs.size:=x.is.lt
theorem QI.new (h:Heap)(items:Array Value):QI (h.push { cls:=.type "tuple",data:=.seq items }) h.objs.size items:=⟨_,Heap.get?_push_size _ rfl,rfl,⟨_,rfl⟩,rfl⟩
section
variable (P:Program)(w:World)
noncomputable def qi (H:Hp)(h:Heap)(a:Addr):HO->Prop
  | .lst xs=>xs.length<=sizeLine/\∃ (its:List Value) (n:Nat),zH xs its/\h.get? a=some { cls:=.type "list",data:=.seq its.toArray n }
  | .tup xs=>xs.length<=sizeLine/\∃ its:List Value,zH xs its/\QI h a its.toArray
  | .dK kvs=>kvs.length<=sizeLine/\(a == sysModules)=false/\∃ vs,KV kvs vs/\h.DictOf (jG P w) a vs
  | .dT kvs => kvs.length <= sizeLine /\ (a == sysModules) = false /\ ∃ xs : List (List Key × Addr × Value),
      Paired (fun (p:List Key × V) (q:List Key × Addr × Value)=>p.1=q.1/\H q.2.1=some (.tup (p.1.map kV))/\zI p.2 q.2.2) kvs xs /\
      ∃ o es ep,h.get? a=some o/\o.ExactDict/\o.data=.dict es ep/\es.toList=xs.map (entryOfKey (tupleKind (jG P w)))/\(xs.map (·.1)).Nodup
  | .set S n=>h.SetOf (intKind P w) a S n
  | .ins C dx fs => H dx = some (.own a) /\ fs.length <= 1000 /\ dx ≠ a /\ h.get? a = some (PySem.W.instObj C dx) /\
      ∃ mA,h.Ns1 dx mA/\(∀ f,y8 (fs.lookup f) (mA f))/\PySem.Within mA (fs.map (·.1))
  | .own _=>∃ o,h.get? a=some o
  | .xd fs=>∃ mA,h.Ns1 a mA/\∀ f,y8 (fs.lookup f) (mA f)
  | .rng lo hi=>∃ t u v,h.get? a=some { cls:=.type "range",data:=.fields #[.int lo t,.int hi u,.int 1 v] }
  | .frz o u=>h.get? a=some o/\qi H h a u
  | .tbl ps=>h.get? a=some { cls:=.none,data:=.fields ps }
  | .met f x=>h.get? a=some (PySem.W.methodObj (.ref f) (.ref x))
  | .ext φ=>φ h/\(∃ o,h.get? a=some o)/\∀ h1 h2:Heap,φ h1->(∀ o,h1.get? a=some o->h2.get? a=some o)->φ h2
noncomputable def HOk (H:Hp)(h:Heap):Prop:=∀ a o,H a=some o->qi P w H h a o
end
section
variable {P:Program}{w:World}{H H':Hp}{h h':Heap}{a:Addr}{o:HO}
theorem qi.lt (x:qi P w H h a o):a<h.objs.size:=by
 cases o with
 | lst xs=>obtain ⟨_,_,_,_,e⟩:=x;exact Heap.lt_size e
 | tup xs=>obtain ⟨_,_,_,p⟩:=x;exact p.lt
 | dK kvs=>obtain ⟨_,_,_,_,o,_,_,e,_⟩:=x;exact Heap.lt_size e
 | dT kvs=>obtain ⟨_,_,_,_,o,_,_,e,_⟩:=x;exact Heap.lt_size e
 | set S n=>obtain ⟨o,_,_,_,e,_⟩:=x;exact Heap.lt_size e
 | ins C dx fs=>obtain ⟨_,_,_,e,_⟩:=x;exact Heap.lt_size e
 | own y=>obtain ⟨_,e⟩:=x;exact Heap.lt_size e
 | xd fs=>obtain ⟨_,⟨_,_,_,e,_⟩,_⟩:=x;exact Heap.lt_size e
 | rng lo hi=>obtain ⟨_,_,_,e⟩:=x;exact Heap.lt_size e
 | frz ob u=>obtain ⟨e,_⟩:=x;exact Heap.lt_size e
 | tbl ps=>exact Heap.lt_size (show h.get? a=some _ from x)
 | met f y=>exact Heap.lt_size (show h.get? a=some _ from x)
 | ext φ=>obtain ⟨_,⟨_,e⟩,_⟩:=x;exact Heap.lt_size e
theorem Paired.mapP {α β:Type}{F G:α->β->Prop}:∀ {l₁:List α} {l₂:List β},Paired F l₁ l₂->(∀ a b,F a b->G a b)->Paired G l₁ l₂
 | _,_,.nil,_=>.nil
 | _,_,.cons r t,f=>.cons (f _ _ r) (Paired.mapP t f)
theorem qi.stay (x:qi P w H h a o)(k:∀ b u,(b=a \/ H b=some (.own a))->h.get? b=some u->h'.get? b=some u)
  (ho:∀ b,H b=some (.own a)->H' b=some (.own a)) (ht:∀ b xs,H b=some (.tup xs)->H' b=some (.tup xs)):qi P w H' h' a o:=by
 induction o with
 | lst xs=>obtain ⟨z,its,n,r,e⟩:=x;exact ⟨z,its,n,r,k _ _ (.inl rfl) e⟩
 | tup xs=>obtain ⟨z,its,r,ob,e,c⟩:=x;exact ⟨z,its,r,ob,k _ _ (.inl rfl) e,c⟩
 | dK kvs=>obtain ⟨z,y,vs,r,ob,es,ep,e,c⟩:=x;exact ⟨z,y,vs,r,ob,es,ep,k _ _ (.inl rfl) e,c⟩
 | dT kvs=>
  obtain ⟨z,y,xs,r,ob,es,ep,e,c⟩:=x
  exact ⟨z,y,xs,Paired.mapP r fun p q z=>⟨z.1,ht _ _ z.2.1,z.2.2⟩,ob,es,ep,k _ _ (.inl rfl) e,c⟩
 | set S n=>obtain ⟨ob,es,ep,t,e,c⟩:=x;exact ⟨ob,es,ep,t,k _ _ (.inl rfl) e,c⟩
 | ins C dx fs=>
  obtain ⟨d,z,ne,e,mA,⟨od,es,ep,e2,c⟩,r⟩:=x
  exact ⟨ho _ d,z,ne,k _ _ (.inl rfl) e,mA,⟨od,es,ep,k _ _ (.inr d) e2,c⟩,r⟩
 | own y=>obtain ⟨ob,e⟩:=x;exact ⟨ob,k _ _ (.inl rfl) e⟩
 | xd fs=>obtain ⟨mA,⟨od,es,ep,e,c⟩,r⟩:=x;exact ⟨mA,⟨od,es,ep,k _ _ (.inl rfl) e,c⟩,r⟩
 | rng lo hi=>obtain ⟨t,u,v,e⟩:=x;exact ⟨t,u,v,k _ _ (.inl rfl) e⟩
 | frz ob u ih=>obtain ⟨e,q⟩:=x;exact ⟨k _ _ (.inl rfl) e,ih q⟩
 | tbl ps=>
  have e:h.get? a=some { cls:=.none,data:=.fields ps }:=x
  show h'.get? a=some { cls:=.none,data:=.fields ps }
  exact k a _ (.inl rfl) e
 | met f y=>
  have e:h.get? a=some (PySem.W.methodObj (.ref f) (.ref y)):=x
  show h'.get? a=some (PySem.W.methodObj (.ref f) (.ref y))
  exact k a _ (.inl rfl) e
 | ext φ=>obtain ⟨p,⟨o,e⟩,st⟩:=x;exact ⟨st _ _ p fun o q=>k _ _ (.inl rfl) q,⟨o,k _ _ (.inl rfl) e⟩,st⟩
theorem HOk.lt (x:HOk P w H h)(e:H a=some o):a<h.objs.size:=(x a o e).lt
theorem HOk.fresh (x:HOk P w H h)(e:h.objs.size<=a):H a=none:=by
 cases q:H a with
 | none=>rfl
 | some u=>exact absurd (Nat.lt_of_lt_of_le (x.lt q) e) (Nat.lt_irrefl _)
theorem HOk.kept (x:HOk P w H h)(k:∀ b u,h.get? b=some u->h'.get? b=some u):HOk P w H h':=fun a o e=>
 (x a o e).stay (fun b u _ q=>k b u q) (fun _ q=>q) fun _ _ q=>q
theorem HOk.laid (x:HOk P w H h)(k:∀ b u,h.get? b=some u->h'.get? b=some u)(hp:h.objs.size<=a)(new:qi P w (upd H a o) h' a o):HOk P w (upd H a o) h':=fun b u e=>by
 have hn:=x.fresh hp
 by_cases hb:b=a
 ·subst hb;rw [zf] at e;cases e;exact new
 ·rw [zm hb] at e
  exact (x b u e).stay (fun c v _ q=>k c v q) (fun c q=>by rw [zm (zh q hn)];exact q) fun c xs q=>by rw [zm (zh q hn)];exact q
end
noncomputable def Rd (H:Hp)(a:Addr)(u:HO):Prop:=H a=some u \/ ∃ o,H a=some (.frz o u)
theorem Rd.ok {P:Program}{w:World}{H:Hp}{h:Heap}{a:Addr}{u:HO}(r:Rd H a u)(x:HOk P w H h):qi P w H h a u:=by
 rcases r with r | ⟨o,r⟩
 ·exact x a u r
 ·obtain ⟨_,q⟩:=x a _ r
  exact q
noncomputable def Mut:Option HO->Prop
 | some (.lst _)=>True
 | some (.dK _)=>True
 | some (.dT _)=>True
 | some (.set _ _)=>True
 | some (.ins _ _ _)=>True
 | some (.ext _)=>True
 | _=>False
section
variable {P:Program}{w:World}{H:Hp}{h h':Heap}{x e:Addr}{o':HO}
theorem HOk.write (ok : HOk P w H h)(mu : Mut (H x))(he : e = x \/ H e = some (.own x))(k : ∀ b u, b ≠ e -> h.get? b = some u -> h'.get? b = some u)(heo : ∃ u, h'.get? e = some u)
    (new:qi P w (upd H x o') h' x o'):HOk P w (upd H x o') h':=fun b u q=>by
  have nown:∀ c y,H c=some (.own y)->c ≠ x:=fun c y r z=>by subst z;rw [r] at mu;exact mu
  have ntup:∀ c xs,H c=some (.tup xs)->c ≠ x:=fun c xs r z=>by subst z;rw [r] at mu;exact mu
  by_cases hb:b=x
  · subst hb;rw [zf] at q;cases q;exact new
  · rw [zm hb] at q
    by_cases hbe:b=e
    · have q' : H b = some (.own x) := by
        rcases he with z | z
        · exact absurd (hbe.trans z) hb
        · rw [hbe];exact z
      rw [q] at q';cases q'
      obtain ⟨v,hv⟩:=heo
      exact ⟨v,by rw [hbe];exact hv⟩
    · refine (ok b u q).stay (fun c v hc r=>k c v ?_ r) (fun c r=>by rw [zm (nown c b r)];exact r) fun c xs r=>by rw [zm (ntup c xs r)];exact r
      rcases hc with rfl | hc
      · exact hbe
      · rintro rfl
        rcases he with z | z
        · exact nown c b hc z
        · rw [hc] at z;cases z;exact hb rfl
end
structure Un (fs ex:List Addr)(H H':Hp)(h h':Heap):Prop where
 keep:∀ b o,h.get? b=some o->H b=none->b ∉ fs->b ∉ ex->h'.get? b=some o
 slot:∀ b o,h.get? b=some o->H b=none->b ∈ fs->b ∉ ex->∃ sl,h'.get? b=some { o with slots:=sl }
 free:∀ b o,h.get? b=some o->H b=none->b ∉ ex->H' b=none
 there:∀ b o,h.get? b=some o->b ∉ ex->∃ o',h'.get? b=some o'
 tups:∀ b xs,H b=some (.tup xs)->H' b=some (.tup xs)
 frzs:∀ b o u,H b=some (.frz o u)->H' b=some (.frz o u)
 tbls:∀ b ps,H b=some (.tbl ps)->∃ more,H' b=some (.tbl (ps ++ more))
section
variable {fs fs' ex ex':List Addr}{H H1 H2:Hp}{h h1 h2 h':Heap}{a x e:Addr}{o:HO}
theorem Un.any (u:Un fs ex H H1 h h1){b:Addr}{ob:Obj}(q:h.get? b=some ob)(n:H b=none)(hx:b ∉ ex):∃ sl,h1.get? b=some { ob with slots:=sl }:=by
 by_cases hb:b ∈ fs
 ·exact u.slot b ob q n hb hx
 ·exact ⟨ob.slots,u.keep b ob q n hb hx⟩
theorem Un.kept (k:∀ b u,h.get? b=some u->h'.get? b=some u):Un fs ex H H h h':=
 ⟨fun b ob q _ _ _=>k b ob q,fun b ob q _ _ _=>⟨ob.slots,k b ob q⟩,fun _ _ _ n _=>n,fun b ob q _=>⟨ob,k b ob q⟩,fun _ _ q=>q,fun _ _ _ q=>q,fun _ ps q=>⟨#[],by rw [q];simp⟩⟩
theorem Un.refl:Un fs ex H H h h:=Un.kept fun _ _ q=>q
theorem Un.laid (k:∀ b u,h.get? b=some u->h'.get? b=some u)(hp:h.objs.size<=a)(hn:H a=none):Un fs ex H (upd H a o) h h' where
 keep:=fun b u q _ _ _=>k b u q
 slot:=fun b u q _ _ _=>⟨u.slots,k b u q⟩
 free:=fun b u q n _=>by rw [zm (Nat.ne_of_lt (Nat.lt_of_lt_of_le (Heap.lt_size q) hp))];exact n
 there:=fun b u q _=>⟨u,k b u q⟩
 tups:=fun b xs q=>by rw [zm (zh q hn)];exact q
 frzs:=fun b u xs q=>by rw [zm (zh q hn)];exact q
 tbls:=fun b ps q=>⟨#[],by rw [zm (zh q hn),q];simp⟩
theorem Un.write (mu:Mut (H x))(he:e=x \/ H e=some (.own x))(k:∀ b u,b ≠ e->h.get? b=some u->h'.get? b=some u)(heo:∃ u,h'.get? e=some u):Un fs ex H (upd H x o) h h':=by
 have hx:∀ b,H b=none->b ≠ x:=fun b n z=>by subst z;rw [n] at mu;exact mu
 have hb:∀ b,H b=none->b ≠ e:=fun b n z=>by
  subst z
  rcases he with r | r
  ·exact hx b n r
  ·rw [n] at r;cases r
 have hm:∀ b u,H b=some u->¬ Mut (some u)->b ≠ x:=fun b u q nm z=>by subst z;rw [q] at mu;exact nm mu
 refine ⟨fun b u q n _ _=>k b u (hb b n) q,fun b u q n _ _=>⟨u.slots,k b u (hb b n) q⟩,fun b u q n _=>by rw [zm (hx b n)];exact n,fun b u q _=>?_,
  fun b xs q=>by rw [zm (hm b _ q fun z=>z)];exact q,fun b u xs q=>by rw [zm (hm b _ q fun z=>z)];exact q,fun b ps q=>⟨#[],by rw [zm (hm b _ q fun z=>z),q];simp⟩⟩
 by_cases hbe:b=e
 ·subst hbe;exact heo
 ·exact ⟨u,k b u hbe q⟩
end
noncomputable def trk (h:Heap)(H:Hp):List Addr:=(List.range h.objs.size).filter fun a=>(H a).isSome
noncomputable def QJ (h:Heap)(H:Hp):Heap:=PySem.W.hideAll h (trk h H)
theorem VM (h:Heap)(H:Hp):(QJ h H).objs.size=h.objs.size:=PySem.W.hideAll_size _ _
theorem Af {h:Heap}{H:Hp}{b:Addr}{o:Obj}(e:h.get? b=some o)(n:H b=none):(QJ h H).get? b=some o:=
 PySem.W.hideAll_get _ e fun hm=>by
  have q:(H b).isSome=true:=(List.mem_filter.mp hm).2
  rw [n] at q;simp at q
theorem Fm {h:Heap}{H:Hp}{b:Addr}{o:Obj}(e:(QJ h H).get? b=some o):h.get? b=some o/\H b=none:=by
 have e':h.get? b=some o:=PySem.W.of_hideAll (trk h H) e
 refine ⟨e',?_⟩
 cases q:H b with
 | none=>rfl
 | some x=>
  have hm:b ∈ trk h H:=List.mem_filter.mpr ⟨List.mem_range.mpr (Heap.lt_size e'),by simp [q]⟩
  have z:(QJ h H).get? b=none:=PySem.W.hideAll_none (trk h H) hm
  rw [z] at e;cases e
noncomputable def Fc (g h:Heap)(L:Addr):List (Addr × Obj):=(List.range h.objs.size).filterMap fun a=>if a=L \/ (g.get? a).isSome=true then none else (h.get? a).map fun o=>(a,o)
noncomputable def jP (g h:Heap)(L d:Addr):List (Addr × Obj):=(Fc g h L).filter fun p=>decide (p.1 ≠ d)
structure Mod (K:PySem.W.Frag)(mg:Str->Option Value)(base:Heap):Prop where
 kin:K.In base
 glob:base.Ns mainGlobals mg
 blt:∃ mb,base.Ns builtinsNs mb/\∀ x:Str,x ≠ "__name__"->mb x=bootBuiltins x
 nolimit:base.NoLimit
structure Cx where
 prog:Program
 w:World
 K:PySem.W.Frag
 mg:Str->Option Value
 base:Heap
 A:Around
 N:List Str
 s₀:Shared
 H₀:Hp
 env:Env
 outer:List Env
 stack:List Env
 ex:List Addr
 fn:Str->Bool
 calm:Bool
 pn:List (Addr × Obj)
 xe:Value->Shared->Prop
noncomputable def frs (l:List Env):List Addr:=l.filterMap (·.frame)
noncomputable abbrev Cx.fs (X:Cx):List Addr:=frs X.outer
noncomputable def Vis (sc:Scope)(x:Str):Prop:=sc.names.lookup x=some .local \/ sc.names.lookup x=some .cell \/ sc.names.lookup x=some .free
noncomputable def Loc (sc:Scope)(x:Str):Prop:=sc.names.lookup x=some .local \/ sc.names.lookup x=some .cell
noncomputable def MW (env:Env)(h:Heap)(m:Str->Option Value)(x:Str)(u:Value):Prop:=
 (env.kindOf x=some .local/\m x=some u) \/ ((env.kindOf x=some .cell \/ env.kindOf x=some .free)/\∃ c,env.cells.lookup x=some c/\h.IsCell c (some u))
structure Cx.Ok (X:Cx):Prop where
 mod:Mod X.K X.mg X.base
 kind:X.env.scope.kind=.function
 glob:X.env.globals=mainGlobals
 blt:X.env.builtins=builtinsNs
 above:X.s₀.heap.objs.size<=X.env.locals
 inj:∀ x y c,X.env.cells.lookup x=some c->X.env.cells.lookup y=some c->x=y
 has:∀ x,(X.env.kindOf x=some .cell \/ X.env.kindOf x=some .free)->∃ c,X.env.cells.lookup x=some c
 cab:∀ x c,X.fn x=true->X.env.cells.lookup x=some c->X.s₀.heap.objs.size<=c
 hd:X.calm=true->X.A.handled=none
 frames:X.A.frames=some X.stack
 stk:X.stack=X.outer \/ (X.stack=X.env :: X.outer/\X.env.frame=some X.env.locals)
 exf:∀ b ∈ X.ex,b ≠ X.env.locals/\∀ x c,X.env.cells.lookup x=some c->c ≠ b
 bs:∀ b o,X.base.get? b=some o->X.s₀.heap.get? b=some o/\X.H₀ b=none
 bsz:X.base.objs.size<=X.s₀.heap.objs.size
 noex:∀ b o,X.base.get? b=some o->b ∉ X.ex
 exfs:∀ b ∈ X.ex,b ∉ X.fs
 funs:X.s₀.heap.FunFrames X.base X.outer
 frf:∀ b ∈ X.fs,X.H₀ b=none
structure Inv (X:Cx)(pins:List (Addr × Obj))(σ:List (Option V))(H:Hp)(s:Shared):Prop where
 ok:X.Ok
 os:s.os=X.s₀.os
 bare:AllBare s.gens
 base:Un X.fs X.ex X.H₀ H X.s₀.heap s.heap
 loc:∃ m,s.heap.Ns X.env.locals m/\∀ (i:Nat) (x:Str) (v:V),X.N[i]?=some x->σ[i]?=some (some v)->Vis X.env.scope x->∃ u,zI v u/\MW X.env s.heap m x u
 cell:∀ x c,X.env.cells.lookup x=some c->∃ v,s.heap.IsCell c v
 free:H X.env.locals=none
 freeC:∀ x c,X.env.cells.lookup x=some c->H c=none
 pin:∀ p ∈ X.pn ++ pins,s.heap.get? p.1=some p.2/\H p.1=none/\p.1 ≠ X.env.locals/\p.1 ∉ X.fs/\∀ v,p.2.data ≠ .cell v
 hok:HOk X.prog X.w H s.heap
 len:σ.length=X.N.length
section
variable {X:Cx}{pins:List (Addr × Obj)}{σ:List (Option V)}{H H':Hp}{s:Shared}{h':Heap}
theorem Cx.Ok.nofr (ok:X.Ok){b:Addr}{o:Obj}(e:X.base.get? b=some o):b ∉ X.fs:=fun hb=>by
 have:=(ok.funs.mem hb).1
 rw [e] at this;cases this
theorem Inv.bs (I:Inv X pins σ H s):∀ b o,X.base.get? b=some o->s.heap.get? b=some o/\H b=none:=fun b o e=>
 ⟨I.base.keep b o (I.ok.bs b o e).1 (I.ok.bs b o e).2 (I.ok.nofr e) (I.ok.noex b o e),I.base.free b o (I.ok.bs b o e).1 (I.ok.bs b o e).2 (I.ok.noex b o e)⟩
theorem Inv.bk (I:Inv X pins σ H s):∀ b o,X.base.get? b=some o->s.heap.get? b=some o:=fun b o e=>(I.bs b o e).1
theorem Inv.mod (I:Inv X pins σ H s):Mod X.K X.mg X.base:=I.ok.mod
theorem Inv.kIn (I:Inv X pins σ H s):X.K.In s.heap:=I.ok.mod.kin.keeps I.bk
theorem Inv.lt (I:Inv X pins σ H s):X.env.locals<s.heap.objs.size:=let ⟨_,hn,_⟩:=I.loc;hn.lt
theorem Inv.sz (I:Inv X pins σ H s):X.s₀.heap.objs.size<=s.heap.objs.size:=Nat.le_trans I.ok.above (Nat.le_of_lt I.lt)
theorem Inv.nofs (I:Inv X pins σ H s){a:Addr}(h:s.heap.objs.size<=a):a ∉ X.fs:=fun hb=>by
 obtain ⟨_,o,ho,_⟩:=I.ok.funs.mem hb
 exact absurd (Nat.lt_of_lt_of_le (Heap.lt_size ho) (Nat.le_trans I.sz h)) (Nat.lt_irrefl _)
theorem Inv.cne (I:Inv X pins σ H s):∀ x c,X.env.cells.lookup x=some c->c ≠ X.env.locals:=fun x c e z=>by
 obtain ⟨v,o,ho,hd⟩:=I.cell x c e
 obtain ⟨m,⟨o',es,ep,ho',hd',_⟩,_⟩:=I.loc
 rw [z,ho'] at ho;cases ho;rw [hd'] at hd;cases hd
theorem Inv.funs (I:Inv X pins σ H s):s.heap.FunFrames X.base X.outer:=by
 have all:∀ (l:List Env),(∀ b ∈ frs l,b ∈ X.fs)->X.s₀.heap.FunFrames X.base l->s.heap.FunFrames X.base l:=by
  intro l
  induction l with
  | nil=>intro _ _;trivial
  | cons env r ih=>
   intro hs hl
   obtain ⟨hk,⟨L,o,hf,hn,ho,hd⟩,hr⟩:=hl
   have hL:L ∈ X.fs:=hs L (by unfold frs;rw [List.filterMap_cons,hf];exact List.mem_cons_self)
   obtain ⟨sl,e⟩:=I.base.slot L o ho (I.ok.frf L hL) hL fun z=>I.ok.exfs L z hL
   exact ⟨hk,⟨L,_,hf,hn,e,hd⟩,ih (fun b hb=>hs b (by unfold frs;rw [List.filterMap_cons,hf];exact List.mem_cons_of_mem _ hb)) hr⟩
 exact all X.outer (fun _ hb=>hb) I.ok.funs
theorem Inv.stack (I:Inv X pins σ H s):s.heap.FunFrames X.base X.stack:=by
 rcases I.ok.stk with e | ⟨e,hf⟩
 ·rw [e];exact I.funs
 ·rw [e]
  obtain ⟨m,hn,_⟩:=I.loc
  refine .cons (by rw [I.ok.kind];decide) hf hn ?_ I.funs
  exact Heap.get?_none_of_le (Nat.le_trans I.ok.bsz I.ok.above)
theorem Inv.stkSub (I:Inv X pins σ H s):∀ b ∈ frs X.stack,b ∈ X.env.locals :: X.fs:=fun b hb=>by
 rcases I.ok.stk with e | ⟨e,hf⟩
 ·rw [e] at hb;exact List.mem_cons_of_mem _ hb
 ·rw [e] at hb
  unfold frs at hb
  rw [List.filterMap_cons,hf] at hb
  exact hb
theorem Inv.stkFree (I:Inv X pins σ H s):∀ b ∈ frs X.stack,H b=none:=fun b hb=>by
 rcases List.mem_cons.mp (I.stkSub b hb) with e | hb
 ·rw [e];exact I.free
 ·obtain ⟨_,o,ho,_⟩:=I.ok.funs.mem hb
  exact I.base.free b o ho (I.ok.frf b hb) fun z=>I.ok.exfs b z hb
theorem Inv.step {g':Array GenState}{t':Nat}{d':Drawn}{ch:List Addr}(I:Inv X pins σ H s)
  (hch:∀ b ∈ ch,(b ∈ X.ex \/ X.s₀.heap.objs.size<=b)/\b ≠ X.env.locals/\(∀ x c,X.env.cells.lookup x=some c->c ≠ b)/\∀ p ∈ X.pn ++ pins,p.1 ≠ b)
  (keep:∀ b o,b ≠ X.env.locals->b ∉ X.fs->b ∉ ch->s.heap.get? b=some o->H b=none->h'.get? b=some o)
  (slot:∀ b o,b ≠ X.env.locals->b ∈ X.fs->b ∉ ch->s.heap.get? b=some o->H b=none->∃ sl,h'.get? b=some { o with slots:=sl }) (free:∀ b o,b ∉ ch->s.heap.get? b=some o->H b=none->H' b=none)
  (there:∀ b o,b ∉ ch->s.heap.get? b=some o->∃ o',h'.get? b=some o')
  (tups:∀ b xs,H b=some (.tup xs)->H' b=some (.tup xs)) (frzs:∀ b o u,H b=some (.frz o u)->H' b=some (.frz o u)) (tbls:∀ b ps,H b=some (.tbl ps)->∃ more,H' b=some (.tbl (ps ++ more)))
  (ns:∀ m,s.heap.Ns X.env.locals m->h'.Ns X.env.locals m) (hok:HOk X.prog X.w H' h') (hg:AllBare g') :
  Inv X pins σ H' { s with heap:=h',gens:=g',drawn:=d',toks:=t' }:=by
 have neL:∀ b o,X.s₀.heap.get? b=some o->b ≠ X.env.locals:=fun b o e=>Nat.ne_of_lt (Nat.lt_of_lt_of_le (Heap.lt_size e) I.ok.above)
 have neC:∀ b o,X.s₀.heap.get? b=some o->b ∉ X.ex->b ∉ ch:=fun b o e hx hb=>by
  rcases (hch b hb).1 with z | z
  ·exact hx z
  ·exact absurd (Nat.lt_of_lt_of_le (Heap.lt_size e) z) (Nat.lt_irrefl _)
 have cellK:∀ x c,X.env.cells.lookup x=some c->∀ v,s.heap.IsCell c v->h'.IsCell c v:=fun x c e v ⟨o,ho,hd⟩=>by
  have nch:c ∉ ch:=fun z=>(hch c z).2.2.1 x c e rfl
  by_cases hc:c ∈ X.fs
  ·obtain ⟨sl,q⟩:=slot c o (I.cne x c e) hc nch ho (I.freeC x c e)
   exact ⟨_,q,hd⟩
  ·exact ⟨o,keep c o (I.cne x c e) hc nch ho (I.freeC x c e),hd⟩
 refine ⟨I.ok,I.os,hg,⟨fun b o e n hb hx=>?_,fun b o e n hb hx=>?_,fun b o e n hx=>?_,fun b o e hx=>?_,fun b xs e=>tups b xs (I.base.tups b xs e),fun b o xs e=>frzs b o xs (I.base.frzs b o xs e),fun b ps e=>?_⟩,?_,fun x c e=>?_,?_,fun x c e=>?_,fun p hp=>?_,hok,I.len⟩
 ·exact keep b o (neL b o e) hb (neC b o e hx) (I.base.keep b o e n hb hx) (I.base.free b o e n hx)
 ·obtain ⟨sl,e1⟩:=I.base.slot b o e n hb hx
  obtain ⟨sl',e2⟩:=slot b _ (neL b o e) hb (neC b o e hx) e1 (I.base.free b o e n hx)
  exact ⟨sl',e2⟩
 ·obtain ⟨o',e1⟩:=I.base.there b o e hx
  exact free b o' (neC b o e hx) e1 (I.base.free b o e n hx)
 ·obtain ⟨o',e1⟩:=I.base.there b o e hx
  exact there b o' (neC b o e hx) e1
 ·obtain ⟨m1,e1⟩:=I.base.tbls b ps e
  obtain ⟨m2,e2⟩:=tbls b _ e1
  exact ⟨m1 ++ m2,by rw [e2,Array.append_assoc]⟩
 ·obtain ⟨m,hn,hl⟩:=I.loc
  refine ⟨m,ns m hn,fun i x v e1 e2 e3=>?_⟩
  obtain ⟨u,r,l⟩:=hl i x v e1 e2 e3
  refine ⟨u,r,?_⟩
  rcases l with l | ⟨k,c,e,z⟩
  ·exact .inl l
  ·exact .inr ⟨k,c,e,cellK x c e _ z⟩
 ·obtain ⟨v,z⟩:=I.cell x c e
  exact ⟨v,cellK x c e v z⟩
 ·obtain ⟨m,⟨o,_,_,ho,_⟩,_⟩:=I.loc
  exact free _ o (fun z=>(hch _ z).2.1 rfl) ho I.free
 ·obtain ⟨v,o,ho,hd⟩:=I.cell x c e
  exact free c o (fun z=>(hch c z).2.2.1 x c e rfl) ho (I.freeC x c e)
 ·obtain ⟨e,n,ne,nf,d⟩:=I.pin p hp
  have nch:p.1 ∉ ch:=fun z=>(hch p.1 z).2.2.2 p hp rfl
  exact ⟨keep p.1 p.2 ne nf nch e n,free p.1 p.2 nch e n,ne,nf,d⟩
theorem Inv.un {t':Nat}(I:Inv X pins σ H s)(u:Un X.fs [] H H' s.heap h')(hok:HOk X.prog X.w H' h'):Inv X pins σ H' { s with heap:=h',toks:=t' }:=by
 obtain ⟨m,⟨o,es,ep,ho,r⟩,_⟩:=id I.loc
 obtain ⟨sl,hL⟩:=u.any ho I.free (by simp)
 exact I.step (g':=s.gens) (d':=s.drawn) (ch:=[]) (fun _ z=>nomatch z) (fun b o _ hb _ e n=>u.keep b o e n hb (by simp)) (fun b o _ hb _ e n=>u.slot b o e n hb (by simp)) (fun b o _ e n=>u.free b o e n (by simp)) (fun b o _ e=>u.there b o e (by simp)) u.tups u.frzs u.tbls (fun m' hm=>by
  obtain ⟨o',es',ep',ho',r'⟩:=hm
  rw [ho] at ho';cases ho'
  exact ⟨_,es',ep',hL,r'⟩) hok I.bare
theorem Inv.call {g':Array GenState}{t':Nat}{d':Drawn}{ch:List Addr}(I:Inv X pins σ H s)(u:Un (frs X.stack) ch H H' s.heap h')(hok:HOk X.prog X.w H' h')(hg:AllBare g')
  (hch:∀ b ∈ ch,(b ∈ X.ex \/ X.s₀.heap.objs.size<=b)/\b ≠ X.env.locals/\(∀ x c,X.env.cells.lookup x=some c->c ≠ b)/\∀ p ∈ X.pn ++ pins,p.1 ≠ b) :
  Inv X pins σ H' { s with heap:=h',gens:=g',drawn:=d',toks:=t' }:=by
 obtain ⟨m,⟨o,es,ep,ho,r⟩,_⟩:=id I.loc
 obtain ⟨sl,hL⟩:=u.any ho I.free fun z=>(hch _ z).2.1 rfl
 exact I.step (ch:=ch) hch (fun b o hL hb hc e n=>u.keep b o e n (fun z=>(List.mem_cons.mp (I.stkSub b z)).elim hL hb) hc) (fun b o _ _ hc e n=>u.any e n hc) (fun b o hc e n=>u.free b o e n hc) (fun b o hc e=>u.there b o e hc) u.tups u.frzs u.tbls (fun m' hm=>by
  obtain ⟨o',es',ep',ho',r'⟩:=hm
  rw [ho] at ho';cases ho'
  exact ⟨_,es',ep',hL,r'⟩) hok hg
theorem Inv.turned {t':Nat}{it:Addr}(I:Inv X pins σ H s)(k:∀ b o,b ≠ it->s.heap.get? b=some o->h'.get? b=some o)(hn:H it=none)(hL:it ≠ X.env.locals)
  (h1:it ∈ X.ex \/ X.s₀.heap.objs.size<=it) (h2:∀ x c,X.env.cells.lookup x=some c->c ≠ it) (h3:∀ p ∈ X.pn ++ pins,p.1 ≠ it):Inv X pins σ H { s with heap:=h',toks:=t' }:=by
 have nit:∀ b u,H b=some u->b ≠ it:=fun b u e z=>by rw [z,hn] at e;cases e
 refine I.step (g':=s.gens) (d':=s.drawn) (ch:=[it]) (fun b hb=>?_) (fun b o _ _ hc e _=>k b o (fun z=>hc (by simp [z])) e) (fun b o _ _ hc e _=>⟨o.slots,k b o (fun z=>hc (by simp [z])) e⟩) (fun _ _ _ _ n=>n)
  (fun b o hc e=>⟨o,k b o (fun z=>hc (by simp [z])) e⟩) (fun _ _ e=>e) (fun _ _ _ e=>e) (fun b ps e=>⟨#[],by rw [e];simp⟩) (fun m hm=>?_) (fun b u e=>?_) I.bare
 ·have e:b=it:=by simpa using hb
  subst e
  exact ⟨h1,hL,h2,h3⟩
 ·obtain ⟨o,es,ep,ho,r⟩:=hm
  exact ⟨o,es,ep,k _ o (Ne.symm hL) ho,r⟩
 ·refine (I.hok b u e).stay (fun c v hc q=>k c v ?_ q) (fun _ q=>q) fun _ _ q=>q
  rcases hc with z | z
  ·rw [z];exact nit b u e
  ·exact nit c _ z
theorem Inv.tok (I:Inv X pins σ H s)(t:Nat):Inv X pins σ H { s with toks:=t }:=I.un (h':=s.heap) (t':=t) Un.refl I.hok
theorem Inv.kept {t':Nat}(I:Inv X pins σ H s)(k:∀ b u,s.heap.get? b=some u->h'.get? b=some u):Inv X pins σ H { s with heap:=h',toks:=t' }:=I.un (Un.kept k) (I.hok.kept k)
theorem Inv.laid {a:Addr}{o:HO}{t':Nat}(I:Inv X pins σ H s)(k:∀ b u,s.heap.get? b=some u->h'.get? b=some u)(hp:s.heap.objs.size<=a)(new:qi X.prog X.w (upd H a o) h' a o) :
  Inv X pins σ (upd H a o) { s with heap:=h',toks:=t' }:=I.un (Un.laid k hp (I.hok.fresh hp)) (I.hok.laid k hp new)
theorem Inv.write {x e:Addr}{o:HO}{t':Nat}(I:Inv X pins σ H s)(mu:Mut (H x))(he:e=x \/ H e=some (.own x))(k:∀ b u,b ≠ e->s.heap.get? b=some u->h'.get? b=some u)(heo:∃ u,h'.get? e=some u)
  (new:qi X.prog X.w (upd H x o) h' x o):Inv X pins σ (upd H x o) { s with heap:=h',toks:=t' }:=I.un (Un.write mu he k heo) (I.hok.write mu he k heo new)
theorem Inv.pins_of {pins':List (Addr × Obj)}(I:Inv X pins σ H s)(h:∀ p ∈ pins',s.heap.get? p.1=some p.2/\H p.1=none/\p.1 ≠ X.env.locals/\p.1 ∉ X.fs/\∀ v,p.2.data ≠ .cell v):Inv X pins' σ H s:=
 ⟨I.ok,I.os,I.bare,I.base,I.loc,I.cell,I.free,I.freeC,fun p hp=>(List.mem_append.mp hp).elim (fun z=>I.pin p (List.mem_append_left _ z)) (h p),I.hok,I.len⟩
theorem Q1 {N:List Str}(hN:N.Nodup){i j:Nat}{x:Str}(a:N[i]?=some x)(b:N[j]?=some x):i=j:=by
 obtain ⟨h1,e1⟩:=List.getElem?_eq_some_iff.mp a
 obtain ⟨h2,e2⟩:=List.getElem?_eq_some_iff.mp b
 exact (List.getElem_inj hN).mp (e1.trans e2.symm)
theorem ZE {M : Model}{A : Around}{E : Value -> Shared -> Prop}{i : Nat}{x : Str}{v : V}{u : Value}{Q : Unit -> Shared -> Prop}(I : Inv X pins σ H s)(hN : X.N.Nodup)(hi : X.N[i]? = some x)(hx : Loc X.env.scope x)(r : zI v u)
    (h:∀ s',Inv X pins (σ.set i (some v)) H s'->(∃ a,Heap.SameBut a s.heap s'.heap/\(a=X.env.locals \/ X.env.cells.lookup x=some a))->Q () s') (hf:X.fn x=true \/ X.env.scope.names.lookup x=some .local:=by first | exact .inl rfl | exact .inr rfl | assumption):wpAny M A (storeName X.env x u) Q E s:=by
  obtain ⟨m,hn,hl⟩:=id I.loc
  have hcls:(X.env.scope.kind == .class || (X.env.scope.kind == .module && X.env.locals != X.env.globals))=false:=by rw [I.ok.kind];rfl
  have hiσ:i<σ.length:=by rw [I.len];exact (List.getElem?_eq_some_iff.mp hi).1
  have cne:=I.cne
  have tracked:∀ {a:Addr} {h':Heap},(∃ o,s.heap.get? a=some o/\H a=none)->Heap.SameBut a s.heap h'->HOk X.prog X.w H h':=fun {a h'} ha hs b ob e=>by
    obtain ⟨_,_,hfree⟩:=ha
    refine (I.hok b ob e).stay (fun c w' hc q=>(hs.2 c ?_).trans q) (fun _ q=>q) fun _ _ q=>q
    rintro rfl
    rcases hc with rfl | hc
    · rw [hfree] at e;cases e
    · rw [hfree] at hc;cases hc
  rcases hx with hk | hk
  · refine wpAny_storeName_local hk hn (fun h' hn' hs=>?_) hcls
    obtain ⟨oL,_,_,hoL,_⟩:=id hn
    refine h _ ⟨I.ok,I.os,I.bare,⟨fun b o e n hb hx=>?_,fun b o e n hb hx=>?_,I.base.free,fun b o e hx=>?_,I.base.tups,I.base.frzs,I.base.tbls⟩,⟨_,hn',fun j y v' e1 e2 e3=>?_⟩,fun y c e=>?_,I.free,I.freeC,fun p hp=>?_,tracked ⟨oL,hoL,I.free⟩ hs,by simpa using I.len⟩ ⟨_,hs,.inl rfl⟩
    · exact (hs.2 b (Nat.ne_of_lt (Nat.lt_of_lt_of_le (Heap.lt_size e) I.ok.above))).trans (I.base.keep b o e n hb hx)
    · obtain ⟨sl,e1⟩:=I.base.slot b o e n hb hx
      exact ⟨sl,(hs.2 b (Nat.ne_of_lt (Nat.lt_of_lt_of_le (Heap.lt_size e) I.ok.above))).trans e1⟩
    · obtain ⟨o',e1⟩:=I.base.there b o e hx
      exact ⟨o',(hs.2 b (Nat.ne_of_lt (Nat.lt_of_lt_of_le (Heap.lt_size e) I.ok.above))).trans e1⟩
    · by_cases hj:j=i
      · subst hj
        rw [hi] at e1;cases e1
        rw [List.getElem?_set_self hiσ] at e2
        cases e2
        exact ⟨u,r,.inl ⟨hk,by simp⟩⟩
      · rw [List.getElem?_set_ne (Ne.symm hj)] at e2
        obtain ⟨u',r',q⟩:=hl j y v' e1 e2 e3
        refine ⟨u',r',?_⟩
        rcases q with ⟨k,e⟩ | ⟨k,c,e,z⟩
        · refine .inl ⟨k,?_⟩
          have:y ≠ x:=fun e=>hj (Q1 hN e1 (e ▸ hi))
          simp [this,e]
        · exact .inr ⟨k,c,e,z.sameBut hs (cne y c e)⟩
    · obtain ⟨w',z⟩:=I.cell y c e
      exact ⟨w',z.sameBut hs (cne y c e)⟩
    · obtain ⟨e,n,ne,nf,d⟩:=I.pin p hp
      exact ⟨(hs.2 p.1 ne).trans e,n,ne,nf,d⟩
  · have hfn : X.fn x = true := by
      rcases hf with z | z
      · exact z
      · rw [z] at hk;cases hk
    obtain ⟨c,hc⟩:=I.ok.has x (.inl hk)
    obtain ⟨w',z⟩:=I.cell x c hc
    refine wpAny_storeName_cell I.ok.kind hk hc z (fun h' hc' hs=>?_)
    obtain ⟨oc,hoc,hocd⟩:=id z
    refine h { s with heap:=h' } ⟨I.ok,I.os,I.bare,⟨fun b o e n hb hx=>?_,fun b o e n hb hx=>?_,I.base.free,fun b o e hx=>?_,I.base.tups,I.base.frzs,I.base.tbls⟩,⟨m,hn.sameBut hs (Ne.symm (cne x c hc)),fun j y v' e1 e2 e3=>?_⟩,fun y c' e=>?_,I.free,I.freeC,fun p hp=>?_,tracked ⟨oc,hoc,I.freeC x c hc⟩ hs,by simpa using I.len⟩ ⟨c,hs,.inr hc⟩
    · exact (hs.2 b (Nat.ne_of_lt (Nat.lt_of_lt_of_le (Heap.lt_size e) (I.ok.cab x c hfn hc)))).trans (I.base.keep b o e n hb hx)
    · obtain ⟨sl,e1⟩:=I.base.slot b o e n hb hx
      exact ⟨sl,(hs.2 b (Nat.ne_of_lt (Nat.lt_of_lt_of_le (Heap.lt_size e) (I.ok.cab x c hfn hc)))).trans e1⟩
    · obtain ⟨o',e1⟩:=I.base.there b o e hx
      exact ⟨o',(hs.2 b (Nat.ne_of_lt (Nat.lt_of_lt_of_le (Heap.lt_size e) (I.ok.cab x c hfn hc)))).trans e1⟩
    · by_cases hj:j=i
      · subst hj
        rw [hi] at e1;cases e1
        rw [List.getElem?_set_self hiσ] at e2
        cases e2
        exact ⟨u,r,.inr ⟨.inl hk,c,hc,hc'⟩⟩
      · rw [List.getElem?_set_ne (Ne.symm hj)] at e2
        obtain ⟨u',r',q⟩:=hl j y v' e1 e2 e3
        refine ⟨u',r',?_⟩
        rcases q with q | ⟨k,c',e,z'⟩
        · exact .inl q
        · refine .inr ⟨k,c',e,z'.sameBut hs ?_⟩
          rintro rfl
          exact hj (Q1 hN e1 (I.ok.inj _ _ _ e hc ▸ hi))
    · by_cases hcc:c'=c
      · subst hcc;exact ⟨_,hc'⟩
      · obtain ⟨w2,z2⟩:=I.cell y c' e
        exact ⟨w2,z2.sameBut hs hcc⟩
    · obtain ⟨e,n,ne,nf,d⟩:=I.pin p hp
      refine ⟨(hs.2 p.1 ?_).trans e,n,ne,nf,d⟩
      intro q
      rw [q,hoc] at e
      have q':oc=p.2:=Option.some.inj e
      exact d w' (by rw [<- q'];exact hocd)
theorem jt {M:Model}{A:Around}{E:Value->Shared->Prop}{i:Nat}{x:Str}{v:V}{u:Value}{Q:Unit->Shared->Prop}(I:Inv X pins σ H s)(hN:X.N.Nodup)(hi:X.N[i]?=some x)(hx:Loc X.env.scope x)(r:zI v u)
  (h:∀ s',Inv X pins (σ.set i (some v)) H s'->Q () s') (hf:X.fn x=true \/ X.env.scope.names.lookup x=some .local:=by first | exact .inl rfl | exact .inr rfl | assumption):wpAny M A (storeName X.env x u) Q E s:=
 ZE I hN hi hx r (fun s' I' _=>h s' I') hf
theorem Inv.call' {s':Shared}{ch:List Addr}(I:Inv X pins σ H s)(ho:s'.os=s.os)(u:Un (frs X.stack) ch H H' s.heap s'.heap)(hok:HOk X.prog X.w H' s'.heap)(hg:AllBare s'.gens)
  (hch:∀ b ∈ ch,(b ∈ X.ex \/ X.s₀.heap.objs.size<=b)/\b ≠ X.env.locals/\(∀ x c,X.env.cells.lookup x=some c->c ≠ b)/\∀ p ∈ X.pn ++ pins,p.1 ≠ b):Inv X pins σ H' s':=by
 obtain ⟨h',g',d',t',o'⟩:=s'
 have e:o'=s.os:=ho
 subst e
 exact I.call (g':=g') (t':=t') (d':=d') u hok hg hch
end
noncomputable abbrev XK:=Value->Option Addr->Hp->Prop
noncomputable abbrev St:=List (Option V)
noncomputable abbrev VK:=V->Hp->Prop
noncomputable abbrev TE:=St->Hp->VK->Prop
noncomputable abbrev TT:=St->Hp->(Bool->Hp->Prop)->Prop
noncomputable abbrev TA:=St->Hp->(List V->Hp->Prop)->Prop
structure j8 where
 nx:St->Hp->Prop
 rt:VK
 bk:St->Hp->Prop:=fun _ _=>False
 ct:St->Hp->Prop:=fun _ _=>False
noncomputable abbrev TS:=j8->St->Hp->Prop
noncomputable def EP (X:Cx)(pins:List (Addr × Obj))(σ:St)(Q:VK)(u:Value)(s':Shared):Prop:=∃ v H',Inv X pins σ H' s'/\zI v u/\Q v H'
noncomputable def TP (X:Cx)(pins:List (Addr × Obj))(σ:St)(Q:Bool->Hp->Prop)(b:Bool)(s':Shared):Prop:=∃ H',Inv X pins σ H' s'/\Q b H'
noncomputable def AP (X:Cx)(pins:List (Addr × Obj))(σ:St)(Q:List V->Hp->Prop)(us:List Value)(s':Shared):Prop:=∃ vs H',Inv X pins σ H' s'/\zH vs us/\Q vs H'
noncomputable def SP (X:Cx)(pins:List (Addr × Obj))(D:j8)(f:Flow)(s':Shared):Prop:=
 match f with
 | .next=>∃ σ' H',Inv X pins σ' H' s'/\D.nx σ' H'
 | .brk=>∃ σ' H',Inv X pins σ' H' s'/\D.bk σ' H'
 | .cont=>∃ σ' H',Inv X pins σ' H' s'/\D.ct σ' H'
 | .ret u=>∃ v σ' H',Inv X pins σ' H' s'/\zI v u/\D.rt v H'
noncomputable def PE (X:Cx)(e:Expr)(t:TE):Prop:=
 ∀ (pins:List (Addr × Obj)) (s:Shared) (σ:St) (H:Hp) (Q:VK),Inv X pins σ H s->t σ H Q->wpAny (model X.prog X.w) X.A (eval e X.env) (EP X pins σ Q) X.xe s
noncomputable def PT (X:Cx)(e:Expr)(t:TT):Prop:=
 ∀ (pins:List (Addr × Obj)) (s:Shared) (σ:St) (H:Hp) (Q:Bool->Hp->Prop),Inv X pins σ H s->t σ H Q->wpAny (model X.prog X.w) X.A (isTrue e X.env (eval e X.env)) (TP X pins σ Q) X.xe s
noncomputable def PW (X:Cx)(e:Expr)(t:TT):Prop:=
 ∀ (whole:Sem Value) (pins:List (Addr × Obj)) (s:Shared) (σ:St) (H:Hp) (Q:Bool->Hp->Prop),Inv X pins σ H s->t σ H Q->wpAny (model X.prog X.w) X.A (isTrue e X.env whole) (TP X pins σ Q) X.xe s
theorem PW.pt {X:Cx}{e:Expr}{t:TT}(h:PW X e t):PT X e t:=h _
noncomputable def PA (X:Cx)(es:List Expr)(t:TA):Prop:=
 ∀ (pos:Pos) (pins:List (Addr × Obj)) (s:Shared) (σ:St) (H:Hp) (Q:List V->Hp->Prop),Inv X pins σ H s->t σ H Q->wpAny (model X.prog X.w) X.A (spliced (backTo pos (starEach es X.env))) (AP X pins σ Q) X.xe s
noncomputable def PS (X:Cx)(st:Stmt)(t:TS):Prop:=
 ∀ (pins:List (Addr × Obj)) (s:Shared) (σ:St) (H:Hp) (D:j8),Inv X pins σ H s->t D σ H->wpAny (model X.prog X.w) X.A (exec st X.env) (SP X pins D) X.xe s
noncomputable def PSs (X:Cx)(st:List Stmt)(t:TS):Prop:=
 ∀ (pins:List (Addr × Obj)) (s:Shared) (σ:St) (H:Hp) (D:j8),Inv X pins σ H s->t D σ H->wpAny (model X.prog X.w) X.A (execs st X.env) (SP X pins D) X.xe s
theorem thn {α:Type}{t:Sem α}{Q Q':α->Shared->Prop}{M:Model}{A:Around}{E:Value->Shared->Prop}{s:Shared}(h:wpAny M A t Q E s)(hQ:∀ a s,Q a s->Q' a s):wpAny M A t Q' E s:=wpAny_mono h hQ fun _ _ x=>x
section
variable {X:Cx}
theorem bin {a b:Expr}{ta tb:TE}(ha:PE X a ta)(hb:PE X b tb){pins:List (Addr × Obj)}{s:Shared}{σ:St}{H:Hp}{R:V->V->Hp->Prop}(I:Inv X pins σ H s)(h:ta σ H fun x H1=>tb σ H1 fun y H2=>R x y H2)
  {α:Type} {Q:α->Shared->Prop} {f:Value->Value->Sem α}
  (hf:∀ v u s2 x y H2,Inv X pins σ H2 s2->zI x v->zI y u->R x y H2->wpAny (model X.prog X.w) X.A (f v u) Q X.xe s2) :
  wpAny (model X.prog X.w) X.A (eval a X.env) (fun v s₁=>wpAny (model X.prog X.w) X.A (eval b X.env) (fun u s₂=>wpAny (model X.prog X.w) X.A (f v u) Q X.xe s₂) X.xe s₁) X.xe s:=by
 refine thn (ha pins s σ H _ I h) fun v s1 ⟨x,H1,I1,r1,q1⟩=>?_
 refine thn (hb pins s1 σ H1 _ I1 q1) fun u s2 ⟨y,H2,I2,r2,q2⟩=>?_
 exact hf v u s2 x y H2 I2 r1 r2 q2
noncomputable def BH (i:Nat):TE:=fun σ H Q=>∃ v,σ[i]?=some (some v)/\Q v H
noncomputable def tC (v:V):TE:=fun _ H Q=>Q v H
theorem IS {i:Nat}{x:Str}{pos:Pos}(hN:X.N[i]?=some x)(hv:Vis X.env.scope x)(hd:(x == ("__debug__":Str))=false:=by decide)(hcd:(x == ("__classdict__":Str))=false:=by decide):PE X (.Name x pos) (BH i):=by
 intro pins s σ H Q I h
 obtain ⟨v,e,h⟩:=h
 obtain ⟨m,hn,hl⟩:=I.loc
 obtain ⟨u,r,l⟩:=hl i x v hN e hv
 have fin:EP X pins σ Q u s:=⟨v,H,I,r,h⟩
 rcases l with ⟨hk,hm⟩ | ⟨hk,c,hc,hcell⟩
 ·exact wpAny_Name (wpAny_loadName_local I.ok.kind hk hn hm fin) hd
 ·rcases hk with hk | hk
  ·exact wpAny_Name (wpAny_loadName_cell I.ok.kind hk hc hcell fin) hd
  ·exact wpAny_Name (wpAny_loadName_free I.ok.kind hk hc hcell fin hcd) hd
theorem ze {i j pos}:PE X (.Constant (.int i) j pos) (tC (.int i)):=fun _ _ _ H _ I h=>wpAny_Constant_int ⟨.int i,H,I.tok _,⟨_,rfl⟩,h⟩
theorem jE {b j pos}:PE X (.Constant (.bool b) j pos) (tC (.bl b)):=fun _ _ _ H _ I h=>Constant_bool ⟨.bl b,H,I,rfl,h⟩
theorem qf {j pos}:PE X (.Constant .none j pos) (tC .non):=fun _ _ _ H _ I h=>Constant_none ⟨.non,H,I,rfl,h⟩
theorem qM {x j pos}:PE X (.Constant (.str x) j pos) (tC (.str x)):=fun _ _ _ H _ I h=>Calls.Constant_str ⟨.str x,H,I.tok _,⟨_,rfl⟩,h⟩
noncomputable def Gl (X:Cx)(x:Str):Prop:=X.env.kindOf x=some .globalImplicit
theorem yC {E:Value->Shared->Prop}{pins:List (Addr × Obj)}{s:Shared}{σ:St}{H:Hp}{x:Str}{u:Value}{pos:Pos}{Q:Value->Shared->Prop}(I:Inv X pins σ H s)(hg:Gl X x)(hm:X.mg x=some u)(h:Q u s)
  (hd:(x == ("__debug__":Str))=false:=by decide):wpAny (model X.prog X.w) X.A (eval (.Name x pos) X.env) Q E s:=
 Calls.Name_function_global I.ok.kind hg (Calls.loadGlobal_global (by rw [I.ok.glob];exact I.mod.glob.keeps I.bk) hm h) hd
theorem kJ {E:Value->Shared->Prop}{pins:List (Addr × Obj)}{s:Shared}{σ:St}{H:Hp}{x:Str}{u:Value}{pos:Pos}{Q:Value->Shared->Prop}(I:Inv X pins σ H s)(hg:Gl X x)(hm:X.mg x=none)(hv:bootBuiltins x=some u)(h:Q u s)
  (hn:x ≠ "__name__":=by decide) (hd:(x == ("__debug__":Str))=false:=by decide):wpAny (model X.prog X.w) X.A (eval (.Name x pos) X.env) Q E s:=by
 obtain ⟨mb,h1,h2⟩:=I.mod.blt
 exact Calls.Name_function_global I.ok.kind hg (Calls.loadGlobal_builtin (by rw [I.ok.glob];exact I.mod.glob.keeps I.bk) hm (by rw [I.ok.blt];exact h1.keeps I.bk) ((h2 x hn).trans hv) h) hd
theorem jp {x:Str}{v:V}{u:Value}{pos:Pos}(hg:Gl X x)(hm:X.mg x=none)(hv:bootBuiltins x=some u)(r:zI v u)(hn:x ≠ "__name__":=by decide)(hd:(x == ("__debug__":Str))=false:=by decide):PE X (.Name x pos) (tC v):=
 fun _ _ _ H _ I h=>kJ I hg hm hv ⟨v,H,I,r,h⟩ hn hd
variable {a b:Expr}{ta tb:TE}{pos:Pos}
noncomputable def PC (X:Cx)(op:CmpOp)(a b:Expr)(t:TE):Prop:=
 ∀ (pins:List (Addr × Obj)) (s:Shared) (σ:St) (H:Hp) (Q:VK),Inv X pins σ H s->t σ H Q ->
  wpAny (model X.prog X.w) X.A (eval a X.env) (fun v s₁=>wpAny (model X.prog X.w) X.A (eval b X.env) (fun u s₂=>wpAny (model X.prog X.w) X.A (compareOp op v u) (EP X pins σ Q) X.xe s₂) X.xe s₁) X.xe s
theorem WX (b:Expr){op:CmpOp}(h:op ≠ .In)(h2:op ≠ .NotIn):behindInMarks op b=false:=by
 have e1:(op == CmpOp.In)=false:=by cases op <;> first | rfl | exact absurd rfl h
 have e2:(op == CmpOp.NotIn)=false:=by cases op <;> first | rfl | exact absurd rfl h2
 cases b <;> simp [behindInMarks,e1,e2]
noncomputable def tB (t:TE):TT:=fun σ H Q=>t σ H fun x H1=>∃ c,x=.bl c/\Q c H1
theorem Ng {op:CmpOp}{t:TE}(h:PC X op a b t)(h1:behindInMarks op b=false:=by first | exact WX _ (by decide) (by decide) | rfl):PT X (.Compare a [op] [b] pos) (tB t):=by
 intro pins s σ H Q I hw
 refine wpAny_isTrue_Compare1 (thn (h pins s σ H _ I hw) fun v s1 h1=>thn h1 fun u s2 h2=>thn h2 fun c s3 ⟨x,H1,I1,r1,q1⟩=>?_) h1
 obtain ⟨d,rfl,q⟩:=q1
 cases r1
 exact wpAny_truthy_bool ⟨H1,I1,q⟩
theorem jn {e:Expr}{t:TE}(h:PE X e t)(he:∀ whole,isTrue e X.env whole=(do let v <- whole;standAt e.pos;holding [v] (truthy v)):=by intro _;rfl):PT X e (tB t):=by
 intro pins s σ H Q I hw
 refine isTrue_plain (thn (h pins s σ H _ I hw) fun v s1 ⟨x,H1,I1,r1,q1⟩=>?_) (he _)
 obtain ⟨d,rfl,q⟩:=q1
 cases r1
 exact wpAny_truthy_bool ⟨H1,I1,q⟩
variable {tA tB':TT}{jP:List Expr}
noncomputable def tOr (t u:TT):TT:=fun σ H Q=>t σ H fun c H1=>if c=true then Q true H1 else u σ H1 Q
noncomputable def Iw (t:TT):TT:=fun σ H Q=>t σ H fun c H1=>Q (!c) H1
theorem jC (ha:PT X a tA):PW X (.BoolOp .Or [a] pos) tA:=by
 intro wh pins s σ H Q I h
 refine isTrue_or (thn (ha pins s σ H Q I h) fun c s1 e=>?_)
 cases c with
 | false=>exact isTrue_or_nil e
 | true=>exact e
theorem ki (ha:PT X a tA)(hb:PW X (.BoolOp .Or (b :: jP) pos) tB'):PW X (.BoolOp .Or (a :: b :: jP) pos) (tOr tA tB'):=by
 intro wh pins s σ H Q I h
 refine isTrue_or (thn (ha pins s σ H _ I h) fun c s1 ⟨H1,I1,q1⟩=>?_)
 cases c with
 | true=>exact ⟨H1,I1,q1⟩
 | false=>exact hb wh pins s1 σ H1 Q I1 q1
theorem xD (ha:PT X a tA):PT X (.UnaryOp .Not a pos) (Iw tA):=by
 intro pins s σ H Q I h
 exact isTrue_not (ha pins s σ H (fun c H1=>Q (!c) H1) I h)
noncomputable def tIf (t:TT)(ta tb:TE):TE:=fun σ H Q=>t σ H fun c H1=>if c=true then ta σ H1 Q else tb σ H1 Q
theorem W4 {c:Expr}(hc:PT X c tA)(ha:PE X a ta)(hb:PE X b tb):PE X (.IfExp c a b pos) (tIf tA ta tb):=by
 intro pins s σ H Q I h
 refine wpAny_IfExp (thn (hc pins s σ H _ I h) fun d s1 ⟨H1,I1,q1⟩=>?_)
 cases d with
 | true=>exact ha pins s1 σ H1 Q I1 q1
 | false=>exact hb pins s1 σ H1 Q I1 q1
end
noncomputable def SqL (K:PySem.W.Frag)(H:Hp)(a:Addr)(xs:List V):Prop:=
 Rd H a (.lst xs) \/
  ∃ (o:Obj) (its:Array Value) (n:Nat),K.lookup a=some o/\o.cls=.type "list"/\o.dict=none/\o.data=.seq its n/\its.size<=sizeLine/\zH xs its.toList
noncomputable def SqT (K:PySem.W.Frag)(H:Hp)(a:Addr)(xs:List V):Prop:=
 Rd H a (.tup xs) \/
  ∃ (o:Obj) (its:Array Value) (n:Nat),K.lookup a=some o/\o.cls=.type "tuple"/\o.data=.seq its n/\its.size<=sizeLine/\zH xs its.toList
noncomputable def M9:Value->Option V
 | .none=>some .non
 | .bool b=>some (.bl b)
 | .int i _=>some (.int i)
 | .str x _=>some (.str x)
 | .bytes b _=>some (.byt b)
 | .float b _=>some (.flt b)
 | .ref a=>some (.ref a)
 | .type n=>some (.ty n)
 | _=>none
theorem zI.abs {x:V}{u:Value}(r:zI x u):M9 u=some x:=by
 cases x with
 | non=>cases r;rfl
 | bl _=>cases r;rfl
 | int _=>obtain ⟨t,rfl⟩:=r;rfl
 | str _=>obtain ⟨t,rfl⟩:=r;rfl
 | byt _=>obtain ⟨t,rfl⟩:=r;rfl
 | flt _=>obtain ⟨t,rfl⟩:=r;rfl
 | ref _=>cases r;rfl
 | ty _=>cases r;rfl
theorem zI.inj {x y:V}{u:Value}(r:zI x u)(q:zI y u):x=y:=Option.some.inj (r.abs.symm.trans q.abs)
theorem zH.inj:∀ {xs ys:List V} {us:List Value},zH xs us->zH ys us->xs=ys
 | _,_,_,.nil,.nil=>rfl
 | _,_,_,.cons r t,.cons r' t'=>by rw [r.inj r',zH.inj t t']
section
variable {X:Cx}{pins:List (Addr × Obj)}{σ:St}{H:Hp}{s:Shared}{a:Addr}{xs ys:List V}
theorem SqL.of {K:PySem.W.Frag}(h:H a=some (.lst xs)):SqL K H a xs:=.inl (.inl h)
theorem SqT.of {K:PySem.W.Frag}(h:H a=some (.tup xs)):SqT K H a xs:=.inl (.inl h)
theorem Inv.list (I:Inv X pins σ H s)(h:SqL X.K H a xs):∃ its:List Value,zH xs its/\PlainL s.heap a its.toArray/\xs.length<=sizeLine:=by
 rcases h with h | ⟨o,its,n,hk,hc,hd,hs,hz,r⟩
 ·obtain ⟨z,its,n,r,e⟩:=h.ok I.hok
  exact ⟨its,r,⟨_,n,e,rfl,rfl,rfl⟩,z⟩
 ·refine ⟨its.toList,r,⟨o,n,I.kIn a o hk,hc,hd,by simpa using hs⟩,?_⟩
  have e:=r.length
  simp only [Array.length_toList] at e
  omega
theorem Inv.tuple (I:Inv X pins σ H s)(h:SqT X.K H a xs):∃ its:List Value,zH xs its/\IsTup s.heap a its.toArray/\xs.length<=sizeLine:=by
 rcases h with h | ⟨o,its,n,hk,hc,hs,hz,r⟩
 ·obtain ⟨z,its,r,p⟩:=h.ok I.hok
  exact ⟨its,r,p.is,z⟩
 ·refine ⟨its.toList,r,⟨o,I.kIn a o hk,hc,n,by simpa using hs⟩,?_⟩
  have e:=r.length
  simp only [Array.length_toList] at e
  omega
theorem Inv.list_inj (I:Inv X pins σ H s)(h:SqL X.K H a xs)(h':SqL X.K H a ys):xs=ys:=by
 obtain ⟨its,r,⟨o,n,e,_,_,d⟩,_⟩:=I.list h
 obtain ⟨its',r',⟨o',n',e',_,_,d'⟩,_⟩:=I.list h'
 rw [e] at e';cases e'
 rw [d] at d'
 injection d' with d1 _
 have:its=its':=by simpa using congrArg Array.toList d1
 subst this
 exact r.inj r'
theorem Inv.tuple_inj (I:Inv X pins σ H s)(h:SqT X.K H a xs)(h':SqT X.K H a ys):xs=ys:=by
 obtain ⟨its,r,⟨o,e,_,n,d⟩,_⟩:=I.tuple h
 obtain ⟨its',r',⟨o',e',_,n',d'⟩,_⟩:=I.tuple h'
 rw [e] at e';cases e'
 rw [d] at d'
 injection d' with d1 _
 have:its=its':=by simpa using congrArg Array.toList d1
 subst this
 exact r.inj r'
end
noncomputable abbrev Cx.wish (X:Cx)(E:Value->Shared->Prop):Cx:={ X with xe:=E }
noncomputable abbrev Cx.nox (X:Cx):Cx:=X.wish fun _ _=>False
theorem Cx.Ok.wish {X:Cx}(ok:X.Ok)(E:Value->Shared->Prop):(X.wish E).Ok:=
 ⟨ok.mod,ok.kind,ok.glob,ok.blt,ok.above,ok.inj,ok.has,ok.cab,ok.hd,ok.frames,ok.stk,ok.exf,ok.bs,ok.bsz,ok.noex,ok.exfs,ok.funs,ok.frf⟩
theorem Cx.Ok.unwish {X:Cx}{E:Value->Shared->Prop}(ok:(X.wish E).Ok):X.Ok:=
 ⟨ok.mod,ok.kind,ok.glob,ok.blt,ok.above,ok.inj,ok.has,ok.cab,ok.hd,ok.frames,ok.stk,ok.exf,ok.bs,ok.bsz,ok.noex,ok.exfs,ok.funs,ok.frf⟩
section
variable {X:Cx}{pins:List (Addr × Obj)}{σ:St}{H:Hp}{s:Shared}{E:Value->Shared->Prop}
theorem Inv.wish (I:Inv X pins σ H s)(E:Value->Shared->Prop):Inv (X.wish E) pins σ H s:=⟨I.ok.wish E,I.os,I.bare,I.base,I.loc,I.cell,I.free,I.freeC,I.pin,I.hok,I.len⟩
theorem Inv.unwish (I:Inv (X.wish E) pins σ H s):Inv X pins σ H s:=⟨I.ok.unwish,I.os,I.bare,I.base,I.loc,I.cell,I.free,I.freeC,I.pin,I.hok,I.len⟩
theorem SP.unwish {D:j8}{f:Flow}{s':Shared}(h:SP (X.wish E) pins D f s'):SP X pins D f s':=by
 cases f with
 | next=>obtain ⟨σ',H',I,q⟩:=h;exact ⟨σ',H',I.unwish,q⟩
 | brk=>obtain ⟨σ',H',I,q⟩:=h;exact ⟨σ',H',I.unwish,q⟩
 | cont=>obtain ⟨σ',H',I,q⟩:=h;exact ⟨σ',H',I.unwish,q⟩
 | ret u=>obtain ⟨v,σ',H',I,r,q⟩:=h;exact ⟨v,σ',H',I.unwish,r,q⟩
theorem PSs.nox {st:List Stmt}{t:TS}(h:PSs X.nox st t):PSs X st t:=fun pins s σ H D I hw=>
 wpAny_mono (h pins s σ H D (I.wish _) hw) (fun _ _ q=>q.unwish) fun _ _ z=>False.elim z
end
section
variable {X:Cx}{st:Stmt}{jP:List Stmt}{t u:TS}{e:Expr}{te:TE}{pos:Pos}
noncomputable def DL:TS:=fun D σ H=>D.nx σ H
noncomputable def VB (t u:TS):TS:=fun D σ H=>t { D with nx:=u D } σ H
theorem zB:PSs X [] DL:=fun _ _ σ H _ I h=>wpAny_execs_nil ⟨σ,H,I,h⟩
theorem zc (h1:PS X st t)(h2:PSs X jP u):PSs X (st :: jP) (VB t u):=by
 intro pins s σ H D I h
 refine wpAny_execs_cons (thn (h1 pins s σ H { D with nx:=u D } I h) fun f s1 q=>?_)
 cases f with
 | next=>
  obtain ⟨σ',H',I',q⟩:=q
  exact h2 pins s1 σ' H' D I' q
 | ret v=>exact q
 | brk=>exact q
 | cont=>exact q
theorem zd (h1:PS X st t):PSs X [st] t:=by
 intro pins s σ H D I h
 refine wpAny_execs_cons (thn (h1 pins s σ H D I h) fun f s1 q=>?_)
 cases f with
 | next=>exact wpAny_execs_nil q
 | ret v=>exact q
 | brk=>exact q
 | cont=>exact q
theorem Inv.quiet {pins:List (Addr × Obj)}{σ:St}{H:Hp}{s:Shared}(I:Inv X pins σ H s):interactive X.env=false:=by simp [interactive,I.ok.kind]
noncomputable def YT (te:TE):TS:=fun D σ H=>te σ H fun _ H1=>D.nx σ H1
theorem qQ (he:PE X e te)(hs:swapsWith e none pos.line X.env=pure false:=by rfl):PS X (.Expr e pos) (YT te):=by
 intro pins s σ H D I h
 exact wpAny_Expr_any (thn (he pins s σ H _ I h) fun v s1 ⟨x,H1,I1,r1,q1⟩=>⟨σ,H1,I1,q1⟩) I.quiet hs
noncomputable def IU (te:TE):TS:=fun D σ H=>te σ H D.rt
theorem zq (he:PE X e te):PS X (.Return (some e) pos) (IU te):=by
 intro pins s σ H D I h
 exact wpAny_Return_some (thn (he pins s σ H _ I h) fun v s1 ⟨x,H1,I1,r1,q1⟩=>⟨x,σ,H1,I1,r1,q1⟩)
noncomputable def F6 (c:TT)(t u:TS):TS:=fun D σ H=>c σ H fun b H1=>if b=true then t D σ H1 else u D σ H1
theorem zP {c:Expr}{a b:List Stmt}{tc:TT}(hc:PT X c tc)(ha:PSs X a t)(hb:PSs X b u):PS X (.If c a b pos) (F6 tc t u):=by
 intro pins s σ H D I h
 refine wpAny_If (thn (hc pins s σ H _ I h) fun d s1 ⟨H1,I1,q1⟩=>?_)
 cases d with
 | true=>exact ha pins s1 σ H1 D I1 q1
 | false=>exact hb pins s1 σ H1 D I1 q1
noncomputable def KG:TS:=fun _ _ _=>False
theorem qB:PS X st KG:=fun _ _ _ _ _ _ h=>h.elim
end
noncomputable abbrev TG:=V->St->Hp->(St->Hp->Prop)->Prop
noncomputable abbrev TGs:=List V->St->Hp->(St->Hp->Prop)->Prop
noncomputable def PG (X:Cx)(target:Expr)(t:TG):Prop:=
 ∀ (pins:List (Addr × Obj)) (s:Shared) (σ:St) (H:Hp) (v:V) (u:Value) (Q:St->Hp->Prop),Inv X pins σ H s->zI v u->t v σ H Q ->
  wpAny (model X.prog X.w) X.A (assign target X.env u) (fun _ s'=>∃ σ' H',Inv X pins σ' H' s'/\Q σ' H') X.xe s
noncomputable def PGs (X:Cx)(ts:List Expr)(t:TGs):Prop:=
 ∀ (pins:List (Addr × Obj)) (s:Shared) (σ:St) (H:Hp) (vs:List V) (us:List Value) (Q:St->Hp->Prop),Inv X pins σ H s->zH vs us->t vs σ H Q ->
  wpAny (model X.prog X.w) X.A (assignInOrder ((assignEach ts X.env).map (·.2)) us) (fun _ s'=>∃ σ' H',Inv X pins σ' H' s'/\Q σ' H') X.xe s
noncomputable abbrev KI:=V->V->V->Hp->(Hp->Prop)->Prop
noncomputable def Eh (X:Cx)(t:KI):Prop:=
 ∀ (pins:List (Addr × Obj)) (s:Shared) (σ:St) (H:Hp) (o i v:V) (ov iv u:Value) (Q:Hp->Prop),Inv X pins σ H s->zI o ov->zI i iv->zI v u->t o i v H Q ->
  wpAny (model X.prog X.w) X.A (setItem ov iv u) (fun _ s'=>∃ H',Inv X pins σ H' s'/\Q H') X.xe s
noncomputable abbrev TIp:=V->V->Hp->VK->Prop
noncomputable def PIp (X:Cx)(op:Operator)(t:TIp):Prop:=
 ∀ (pins:List (Addr × Obj)) (s:Shared) (σ:St) (H:Hp) (x y:V) (v u:Value) (Q:VK),Inv X pins σ H s->zI x v->zI y u->t x y H Q ->
  wpAny (model X.prog X.w) X.A (inplaceOp op v u) (EP X pins σ Q) X.xe s
section
variable {X:Cx}{pos:Pos}
noncomputable def JW (i:Nat):TG:=fun v σ H Q=>Q (σ.set i (some v)) H
theorem zx {i:Nat}{x:Str}(hN:X.N.Nodup)(hi:X.N[i]?=some x)(hx:Loc X.env.scope x)(hf:X.fn x=true \/ X.env.scope.names.lookup x=some .local:=by first | exact .inl rfl | exact .inr rfl | assumption):PG X (.Name x pos) (JW i):=by
 intro pins s σ H v u Q I r h
 exact wpAny_assign_Name (jt I hN hi hx r (fun s' I'=>⟨_,H,I',h⟩) hf)
noncomputable def Lx:TGs:=fun vs σ H Q=>vs=[]/\Q σ H
noncomputable def W0 (t:TG)(u:TGs):TGs:=fun vs σ H Q=>∃ v r,vs=v :: r/\t v σ H fun σ' H'=>u r σ' H' Q
theorem qR:PGs X [] Lx:=by
 intro pins s σ H vs us Q I r h
 obtain ⟨e,h⟩:=h
 subst e
 cases r
 exact assignInOrder_nil ⟨σ,H,I,h⟩
theorem zM {e:Expr}{es:List Expr}{t:TG}{u:TGs}(h1:PG X e t)(h2:PGs X es u)
  (hs:(assignEach (e :: es) X.env).map (·.2)=assign e X.env :: (assignEach es X.env).map (·.2):=by rfl):PGs X (e :: es) (W0 t u):=by
 intro pins s σ H vs us Q I r h
 obtain ⟨v,vr,e1,h⟩:=h
 subst e1
 cases r with
 | cons r rr=>
  rw [hs]
  refine assignInOrder_cons (thn (h1 pins s σ H _ _ _ I r h) fun _ s1 ⟨σ1,H1,I1,q1⟩=>?_)
  exact h2 pins s1 σ1 H1 _ _ Q I1 rr q1
noncomputable def BQ (K:PySem.W.Frag)(n:Nat)(t:TGs):TG:=fun v σ H Q=>∃ a xs,v=.ref a/\SqT K H a xs/\xs.length=n/\t xs σ H Q
theorem Lm {es:List Expr}{k:Nat}{t:TGs}{n:Nat}(hc:X.calm=true)(h:PGs X es t)
  (hn:(assignEach es X.env).length=n:=by rfl) (hst:(assignEach es X.env).findIdx? (·.1)=none:=by rfl):PG X (.Tuple es k pos) (BQ X.K n t):=by
 intro pins s σ H v u Q I r hw
 obtain ⟨a,xs,e1,hq,hl,hw⟩:=hw
 subst e1
 cases r
 obtain ⟨its,rv,ht,hz⟩:=I.tuple hq
 refine assign_Tuple_tuple (I.ok.hd hc) ht (by simp [hn,<- hl,rv.length]) hst fun h' hx=>?_
 have I1:Inv X pins σ H { s with heap:=h' }:=I.kept (t':=s.toks) fun b o e=>hx b o (Nat.ne_of_lt (Heap.lt_size e)) e
 exact h pins _ σ H xs _ Q I1 (by simpa using rv) hw
noncomputable def Hd (to ti:TE)(t:KI):TG:=fun v σ H Q=>to σ H fun o H1=>ti σ H1 fun i H2=>t o i v H2 fun H3=>Q σ H3
theorem qg {o i:Expr}{to ti:TE}{t:KI}(ho:PE X o to)(hi:PE X i ti)(hs:Eh X t)
  (ha:∀ v,assign (.Subscript o i pos) X.env v=(do
   let ov <- holding [v] (eval o X.env)
   let iv <- holding [v,ov] (eval i X.env)
   standAt pos
   holding [v,ov,iv] (setItem ov iv v)
   release [v,ov,iv] []):=by intro _;rfl):PG X (.Subscript o i pos) (Hd to ti t):=by
 intro pins s σ H v u Q I r h
 rw [ha]
 refine wpAny_bind (wpAny_holding (thn (ho pins s σ H _ I h) fun ov s1 ⟨x,H1,I1,r1,q1⟩=>?_))
 refine wpAny_bind (wpAny_holding (thn (hi pins s1 σ H1 _ I1 q1) fun iv s2 ⟨y,H2,I2,r2,q2⟩=>?_))
 refine wpAny_bind (wpAny_standAt (wpAny_bind (wpAny_holding (thn (hs pins s2 σ H2 x y v ov iv u _ I2 r1 r2 r q2) fun _ s3 ⟨H3,I3,q3⟩=>?_))))
 exact wpAny_release ⟨σ,H3,I3,q3⟩
noncomputable def VG (te:TE)(g:TG):TS:=fun D σ H=>te σ H fun x H1=>g x σ H1 D.nx
theorem qk {tg e:Expr}{te:TE}{g:TG}(he:PE X e te)(hg:PG X tg g)(hs:swapsWithSole [tg] e pos.line X.env=pure false:=by rfl)(hw:swappedStores [tg] e X.env=pure none:=by rfl)
  (h1:(assignEach [tg] X.env).map (·.2)=[assign tg X.env]:=by rfl):PS X (.Assign [tg] e pos) (VG te g):=by
 intro pins s σ H D I h
 refine wpAny_Assign_stores (thn (he pins s σ H _ I h) fun v s1 ⟨x,H1,I1,r1,q1⟩=>?_) hs hw
 rw [h1]
 exact thn (hg pins s1 σ H1 x v _ I1 r1 q1) fun _ s2 q=>q
theorem zC {i:Nat}{x:Str}{e:Expr}{te:TE}{pos':Pos}(hN:X.N.Nodup)(hi:X.N[i]?=some x)(hx:Loc X.env.scope x)(he:PE X e te)(hs:swapsWith e (some (.Name x pos')) pos.line X.env=pure false:=by rfl)(hf:X.fn x=true \/ X.env.scope.names.lookup x=some .local:=by first | exact .inl rfl | exact .inr rfl | assumption) :
  PS X (.Assign [.Name x pos'] e pos) (VG te (JW i)):=by
 intro pins s σ H D I h
 refine wpAny_Assign_Name (thn (he pins s σ H _ I h) fun v s1 ⟨y,H1,I1,r1,q1⟩=>?_) hs
 exact jt I1 hN hi hx r1 (fun s2 I2=>⟨_,H1,I2,q1⟩) hf
noncomputable def LS (i j:Nat)(ta:TA):TS:=fun D σ H=>ta σ H fun vs H1=>∃ v w,vs=[v,w]/\D.nx ((σ.set i (some v)).set j (some w)) H1
theorem Qy {i j:Nat}{x y:Str}{a b:Expr}{ta:TA}{px py pt:Pos}{kt k2 pt2}(hc:X.calm=true)(hN:X.N.Nodup)(hi:X.N[i]?=some x)(hj:X.N[j]?=some y)(hij:i ≠ j)
  (hx:X.env.scope.names.lookup x=some .local) (hy:X.env.scope.names.lookup y=some .local) (ha:PA X [a,b] ta)
  (hw:swappedStores [.Tuple [.Name x px,.Name y py] kt pt] (.Tuple [a,b] k2 pt2) X.env=pure (some [x,y]))
  (hs:swapsWithSole [.Tuple [.Name x px,.Name y py] kt pt] (.Tuple [a,b] k2 pt2) pos.line X.env=pure false:=by rfl) :
  PS X (.Assign [.Tuple [.Name x px,.Name y py] kt pt] (.Tuple [a,b] k2 pt2) pos) (LS i j ta):=by
 intro pins s σ H D I h
 rw [exec_Assign_arm]
 refine wpAny_bind (wpAny_standAt ?_)
 rw [hs]
 refine wpAny_bind (wpAny_pure ?_)
 rw [if_neg (by decide)]
 refine wpAny_bind (Tuple_ (thn (ha _ pins s σ H _ I h) fun us s1 ⟨vs,H1,I1,r1,q1⟩=>?_))
 obtain ⟨v,w,e1,q1⟩:=q1
 subst e1
 obtain ⟨u1,u2,rfl,rv,rw'⟩:∃ u1 u2,us=[u1,u2]/\zI v u1/\zI w u2:=by
  cases r1 with
  | cons p q=>
   cases q with
   | cons p' q'=>
    cases q'
    exact ⟨_,_,rfl,p,p'⟩
 refine wpAny_newObj_type ?_ (by show 2<=sizeLine;decide)
 have I2:Inv X pins σ H1 { s1 with heap:=s1.heap.push { cls:=.type "tuple",data:=.seq [u1,u2].toArray } }:=I1.kept (t':=s1.toks) fun b o e=>Heap.get?_push_of_some _ e
 rw [hw]
 refine wpAny_bind (wpAny_pure ?_)
 show wpAny (model X.prog X.w) X.A (do rule "assign.swapped-stores";let items <- unpackItems (.ref s1.heap.objs.size) 2 none;assignInOrder [fun v=>bindName X.env y v,fun v=>bindName X.env x v] items.reverse;pure Flow.next) _ _ _
 refine wpAny_bind (wpAny_rule (wpAny_bind (unpackItems_tuple (items:=#[u1,u2]) (I.ok.hd hc) (IsTup.new s1.heap _) fun h' hx'=>?_)))
 have I3:=I2.kept (h':=h') (t':=s1.toks) fun b o e=>hx' b o (Nat.ne_of_lt (Heap.lt_size e)) e
 show wpAny _ _ (assignInOrder [fun v=>bindName X.env y v,fun v=>bindName X.env x v] [u2,u1] >>= fun _=>pure Flow.next) _ _ _
 refine wpAny_bind (assignInOrder_cons (wpAny_bindName (jt I3 hN hj (.inl hy) rw' (fun s2 I4=>?_) (.inr hy))))
 refine assignInOrder_cons (wpAny_bindName (jt I4 hN hi (.inl hx) rv (fun s3 I5=>assignInOrder_nil (wpAny_pure ?_)) (.inr hx)))
 rw [List.set_comm _ _ (Ne.symm hij)] at I5
 exact ⟨_,H1,I5,q1⟩
noncomputable def Ia (i:Nat)(te:TE)(ti:TIp):TS:=fun D σ H=>∃ x,σ[i]?=some (some x)/\te σ H fun y H1=>ti x y H1 fun z H2=>D.nx (σ.set i (some z)) H2
theorem HZ {i:Nat}{x:Str}{e:Expr}{te:TE}{op:Operator}{ti:TIp}{pos':Pos}(hN:X.N.Nodup)(hi:X.N[i]?=some x)(hx:Loc X.env.scope x)(he:PE X e te)(ho:PIp X op ti)(hf:X.fn x=true \/ X.env.scope.names.lookup x=some .local:=by first | exact .inl rfl | exact .inr rfl | assumption) :
  PS X (.AugAssign (.Name x pos') op e pos) (Ia i te ti):=by
 intro pins s σ H D I h
 obtain ⟨v,e1,h⟩:=h
 obtain ⟨m,hn,hl⟩:=I.loc
 have vis:Vis X.env.scope x:=by rcases hx with k | k;exact .inl k;exact .inr (.inl k)
 obtain ⟨u,r,l⟩:=hl i x v hi e1 vis
 refine wpAny_AugAssign_Name ?_
 have go:wpAny (model X.prog X.w) X.A (eval e X.env) (fun w s₂=>wpAny (model X.prog X.w) X.A (inplaceOp op u w) (fun r s₃=>wpAny (model X.prog X.w) X.A (storeName X.env x r) (fun _=>SP X pins D .next) X.xe s₃) X.xe s₂) X.xe s:=by
  refine thn (he pins s σ H _ I h) fun w s1 ⟨y,H1,I1,r1,q1⟩=>?_
  refine thn (ho pins s1 σ H1 v y u w _ I1 r r1 q1) fun z s2 ⟨zv,H2,I2,r2,q2⟩=>?_
  exact jt I2 hN hi hx r2 (fun s3 I3=>⟨_,H2,I3,q2⟩) hf
 rcases l with ⟨hk,hm⟩ | ⟨hk,c,hc,hcell⟩
 ·exact wpAny_loadName_local I.ok.kind hk hn hm go
 ·rcases hk with hk | hk
  ·exact wpAny_loadName_cell I.ok.kind hk hc hcell go
  ·rcases hx with k | k
   ·have:X.env.scope.names.lookup x=some .free:=hk
    rw [k] at this;cases this
   ·have:X.env.scope.names.lookup x=some .free:=hk
    rw [k] at this;cases this
noncomputable def GJ (to ti te:TE)(tget:V->V->Hp->VK->Prop)(tip:TIp)(tset:KI):TS:=fun D σ H=>to σ H fun o H1=>ti σ H1 fun i H2=>tget o i H2 fun x H3=>te σ H3 fun y H4=>tip x y H4 fun z H5=>tset o i z H5 fun H6=>D.nx σ H6
noncomputable def Mw (X:Cx)(t:V->V->Hp->VK->Prop):Prop:=
 ∀ (pins:List (Addr × Obj)) (s:Shared) (σ:St) (H:Hp) (o i:V) (ov iv:Value) (Q:VK),Inv X pins σ H s->zI o ov->zI i iv->t o i H Q ->
  wpAny (model X.prog X.w) X.A (getItem ov iv) (EP X pins σ Q) X.xe s
theorem vU {o i e:Expr}{to ti te:TE}{tget:V->V->Hp->VK->Prop}{tip:TIp}{tset:KI}{op:Operator}{tpos:Pos}(ho:PE X o to)(hi:PE X i ti)(hg:Mw X tget)(he:PE X e te)(hp:PIp X op tip)(hs:Eh X tset)
  (ha:∀ ov iv new,augStore i ov iv new=(do holding [new,ov,iv] (setItem ov iv new);release [new,ov,iv] [];pure .next):=by intros;rfl):PS X (.AugAssign (.Subscript o i tpos) op e pos) (GJ to ti te tget tip tset):=by
 intro pins s σ H D I h
 refine wpAny_AugAssign_SubscriptAny (thn (ho pins s σ H _ I h) fun ov s1 ⟨x1,H1,I1,r1,q1⟩=>?_) ha
 refine thn (hi pins s1 σ H1 _ I1 q1) fun iv s2 ⟨x2,H2,I2,r2,q2⟩=>?_
 refine thn (hg pins s2 σ H2 x1 x2 ov iv _ I2 r1 r2 q2) fun old s3 ⟨x3,H3,I3,r3,q3⟩=>?_
 refine thn (he pins s3 σ H3 _ I3 q3) fun v s4 ⟨x4,H4,I4,r4,q4⟩=>?_
 refine thn (hp pins s4 σ H4 x3 x4 old v _ I4 r3 r4 q4) fun new s5 ⟨x5,H5,I5,r5,q5⟩=>?_
 exact thn (hs pins s5 σ H5 x1 x2 x5 ov iv new _ I5 r1 r2 r5 q5) fun _ s6 ⟨H6,I6,q6⟩=>⟨σ,H6,I6,q6⟩
noncomputable def ipI (f:Int->Int->Int):TIp:=fun x y H Q=>∃ i j,x=.int i/\y=.int j/\Q (.int (f i j)) H
theorem Qf:PIp X .Add (ipI fun i j=>i+j):=by
 intro pins s σ H x y v u Q I r1 r2 h
 obtain ⟨i,j,e1,e2,q⟩:=h
 subst e1;subst e2
 obtain ⟨t,rfl⟩:=r1
 obtain ⟨t',rfl⟩:=r2
 exact iadd_int ⟨.int _,H,I.tok _,⟨_,rfl⟩,q⟩
end
section
variable {X:Cx}{pos:Pos}
noncomputable def KH (c:TT)(tb:TS):TS:=fun D σ H=>∃ W:Nat->St->Hp->Prop,(∃ m,W m σ H)/\∀ m σ H,W m σ H ->
 c σ H fun b H1=>if b=true then ∃ N:St->Hp->Prop,(∀ σ' H',N σ' H'->∃ m',m'<m/\W m' σ' H')/\tb { D with nx:=N,ct:=N,bk:=D.nx } σ H1 else D.nx σ H1
theorem vW {c:Expr}{body:List Stmt}{tc:TT}{tb:TS}(hp:PassesOwn (model X.prog X.w) X.A X.env X.xe)(hc:PT X c tc)(hb:PSs X body tb):PS X (.While c body [] pos) (KH tc tb):=by
 intro pins s σ H D I h
 obtain ⟨W,⟨m0,w0⟩,turn⟩:=h
 refine wpAny_While (codeAny_whileLoop (fun n s'=>∃ σ' H',Inv X pins σ' H' s'/\W n σ' H') ?_ m0 ⟨σ,H,I,w0⟩)
 rintro n s1 ⟨σ1,H1,I1,w1⟩
 refine wpAny_passesOwn hp (thn (hc pins s1 σ1 H1 _ I1 (turn n σ1 H1 w1)) fun b s2 ⟨H2,I2,q2⟩=>?_)
 cases b with
 | true=>
  obtain ⟨N,hN,q2⟩:=q2
  rw [if_pos rfl]
  refine wpAny_passesOwn hp (thn (hb pins s2 σ1 H2 _ I2 q2) fun f s3 q3=>?_)
  cases f with
  | next=>
   obtain ⟨σ3,H3,I3,n3⟩:=q3
   obtain ⟨m',hm,w3⟩:=hN σ3 H3 n3
   exact ⟨m',hm,σ3,H3,I3,w3⟩
  | cont=>
   obtain ⟨σ3,H3,I3,n3⟩:=q3
   obtain ⟨m',hm,w3⟩:=hN σ3 H3 n3
   exact ⟨m',hm,σ3,H3,I3,w3⟩
  | brk=>exact q3
  | ret v=>exact q3
 | false=>
  rw [if_neg Bool.false_ne_true]
  exact wpAny_execs_nil ⟨σ1,H2,I2,q2⟩
end
structure It where
 go:Nat->Hp->Prop
 yld:Nat->Hp->V->Hp->Prop
 stop:Nat->Hp->Prop
noncomputable def xO (X:Cx)(pins:List (Addr × Obj))(H:Hp)(b:Addr):Prop:=
 H b=none/\b ≠ X.env.locals/\b ∉ X.fs/\(b ∈ X.ex \/ X.s₀.heap.objs.size<=b)/\(∀ x c,X.env.cells.lookup x=some c->c ≠ b)/\∀ p ∈ X.pn ++ pins,p.1 ≠ b
theorem Inv.fpOk {X:Cx}{pins:List (Addr × Obj)}{σ:St}{H H':Hp}{s:Shared}{b:Addr}(I:Inv X pins σ H s)(hb:s.heap.objs.size<=b)(hn:H' b=none):xO X pins H' b:=by
 refine ⟨hn,Nat.ne_of_gt (Nat.lt_of_lt_of_le I.lt hb),I.nofs hb,.inr (Nat.le_trans I.sz hb),fun x c e z=>?_,fun p hp z=>?_⟩
 ·obtain ⟨v,q⟩:=I.cell x c e
  exact absurd (Nat.lt_of_lt_of_le q.lt (by rw [z];exact hb)) (Nat.lt_irrefl _)
 ·exact absurd (Nat.lt_of_lt_of_le (Heap.lt_size (I.pin p hp).1) (by rw [z];exact hb)) (Nat.lt_irrefl _)
structure Qq (P:Program)(w:World)(K:PySem.W.Frag)(tg:Expr)(J:It)(fp:List Addr)(it:Addr)(tn:Nat->Heap->Prop):Prop where
 mem:it ∈ fp
 obj:∀ i h,tn i h->∀ b ∈ fp,∃ o,h.get? b=some o/\∀ v,o.data ≠ .cell v
 keep:∀ i h h',tn i h->(∀ b ∈ fp,∀ o,h.get? b=some o->h'.get? b=some o)->tn i h'
 item:∀ (X:Cx),X.prog=P->X.w=w->X.K=K->X.calm=true->∀ (i:Nat) (pins:List (Addr × Obj)) (s:Shared) (σ:St) (H:Hp) (E:Value->Shared->Prop),Inv X pins σ H s->(∀ b ∈ fp,xO X pins H b)->tn i s.heap->J.go i H ->
  wpAny (model P w) X.A (pyNext (.ref it)) (fun r s1=>∃ u,r=some u /\
   wpAny (model P w) X.A (letOwnedTupleGo tg (.ref it) u) (fun _ s2=>∃ x H',Inv X pins σ H' s2/\zI x u/\J.yld i H x H'/\tn (i+1) s2.heap/\∀ b ∈ fp,H' b=none) E s1) E s
 done:∀ (X:Cx),X.prog=P->X.w=w->X.K=K->X.calm=true->∀ (i:Nat) (pins:List (Addr × Obj)) (s:Shared) (σ:St) (H:Hp) (E:Value->Shared->Prop),Inv X pins σ H s->(∀ b ∈ fp,xO X pins H b)->tn i s.heap->J.stop i H ->
  wpAny (model P w) X.A (pyNext (.ref it)) (fun r s1=>r=none/\Inv X pins σ H s1) E s
 self:∀ (A:Around) (i:Nat) (s:Shared) (Q:Value->Shared->Prop) (E:Value->Shared->Prop),tn i s.heap->Q (.ref it) s->wpAny (model P w) A (pyIter (.ref it)) Q E s
noncomputable abbrev TI:=St->Hp->(It->Hp->Prop)->Prop
noncomputable def PIE (X:Cx)(pins:List (Addr × Obj))(σ:St)(tg:Expr)(R:It->Hp->Prop)(itv:Value)(s2:Shared):Prop:=
 ∃ (it:Addr) (fp:List Addr) (tn:Nat->Heap->Prop) (J:It) (H':Hp),itv=.ref it/\Inv X pins σ H' s2/\Qq X.prog X.w X.K tg J fp it tn/\tn 0 s2.heap/\(∀ b ∈ fp,xO X pins H' b)/\R J H'
noncomputable def PI (X:Cx)(tg iter:Expr)(wi:TI):Prop:=
 ∀ (pins:List (Addr × Obj)) (s:Shared) (σ:St) (H:Hp) (R:It->Hp->Prop),Inv X pins σ H s->wi σ H R ->
  wpAny (model X.prog X.w) X.A (eval iter X.env) (fun v s1=>wpAny (model X.prog X.w) X.A (pyIter v) (PIE X pins σ tg R) X.xe s1) X.xe s
theorem A6 {M : Model}{A : Around}{E : Value -> Shared -> Prop}{s : Shared}{tg : Expr}{it : Addr}{u : Value}{o : Obj}{n : String}{vs : Array Value}{Q : Unit -> Shared -> Prop}(ho : s.heap.get? it = some o)(hc : o.cls = .type n)(hd : o.data = .fields vs)
    (hn:["enumerate","zip","dict_itemiterator","dict_reverseitemiterator","odict_iterator","itertools.zip_longest","itertools.pairwise"].contains n=false) (hQ:Q () s):wpAny M A (letOwnedTupleGo tg (.ref it) u) Q E s:=by
  unfold letOwnedTupleGo
  cases tg <;> first
    | exact wpAny_pure hQ
    | (cases u <;> first
        | exact wpAny_pure hQ
        | (refine wpAny_bind (wpAny_load ho ?_)
           rw [hc,hd]
           show wpAny M A (if (["enumerate","zip","dict_itemiterator","dict_reverseitemiterator","odict_iterator","itertools.zip_longest","itertools.pairwise"].contains n && vs[0]? == some (rawInt _))=true then _ else _) Q E s
           rw [if_neg (by intro h;rw [hn,Bool.false_and] at h;cases h)]
           exact wpAny_pure hQ))
noncomputable def Itl (K:PySem.W.Frag)(a:Addr):It:=
 ⟨fun i H=>∃ xs x,SqL K H a xs/\xs[i]?=some x,fun i H x H'=>H'=H/\∀ xs,SqL K H a xs->xs[i]?=some x,fun i H=>∃ xs,SqL K H a xs/\xs.length<=i⟩
noncomputable def Itt (K:PySem.W.Frag)(a:Addr):It:=
 ⟨fun i H=>∃ xs x,SqT K H a xs/\xs[i]?=some x,fun i H x H'=>H'=H/\∀ xs,SqT K H a xs->xs[i]?=some x,fun i H=>∃ xs,SqT K H a xs/\xs.length<=i⟩
noncomputable def Itr (lo:Int)(n:Nat):It:=⟨fun i _=>i<n,fun i H x H'=>H'=H/\x=.int (lo+i),fun i _=>n<=i⟩
theorem ZF {P:Program}{w:World}{K:PySem.W.Frag}{tg:Expr}(a it:Addr):Qq P w K tg (Itl K a) [it] it (fun i h=>h.IsListIter it a i) where
 mem:=by simp
 obj:=fun i h st b hb=>by
  have e:b=it:=by simpa using hb
  subst e
  obtain ⟨o,e,c,d⟩:=st
  exact ⟨o,e,fun v z=>by rw [d] at z;cases z⟩
 keep:=fun i h h' st k=>st.at fun o e=>k it (by simp) o e
 item:=by
  intro X hP hw hK hc i pins s σ H E I hf st hg
  subst hP hw hK
  obtain ⟨xs,x,hq,hx⟩:=hg
  obtain ⟨its,rv,p,hz⟩:=I.list hq
  obtain ⟨u,hu,ru⟩:=rv.get hx
  obtain ⟨f0,f1,f2,f3,f4,f5⟩:=hf it (by simp)
  refine wpAny_pyNext_list_item st p.isList (x:=u) (by simpa using hu) fun h' st' sb=>?_
  have I1:Inv X pins σ H { s with heap:=h' }:=I.turned (t':=s.toks) (fun b o hb e=>(sb.2 b hb).trans e) f0 f1 f3 f4 f5
  obtain ⟨o,e,c,d⟩:=id st'
  exact ⟨u,rfl,A6 (s:={ s with heap:=h' }) e c d (by decide) ⟨x,H,I1,ru,⟨rfl,fun ys hy=>by rw [I.list_inj hy hq];exact hx⟩,st',fun b hb=>(hf b hb).1⟩⟩
 done:=by
  intro X hP hw hK hc i pins s σ H E I hf st hg
  subst hP hw hK
  obtain ⟨xs,hq,hx⟩:=hg
  obtain ⟨its,rv,p,hz⟩:=I.list hq
  obtain ⟨f0,f1,f2,f3,f4,f5⟩:=hf it (by simp)
  have hl:=rv.length
  exact wpAny_pyNext_list_end (I.ok.hd hc) st p.isList (by simp;omega) fun h' eb=>⟨rfl,I.turned (t':=s.toks) (fun b o hb e=>eb b o hb e) f0 f1 f3 f4 f5⟩
 self:=fun _ _ _ _ _ st h=>wpAny_pyIter_listiter st h
theorem wF {P:Program}{w:World}{K:PySem.W.Frag}{tg:Expr}(a it:Addr):Qq P w K tg (Itt K a) [it] it (fun i h=>h.IsTupleIter it a i) where
 mem:=by simp
 obj:=fun i h st b hb=>by
  have e:b=it:=by simpa using hb
  subst e
  obtain ⟨o,e,c,d⟩:=st
  exact ⟨o,e,fun v z=>by rw [d] at z;cases z⟩
 keep:=fun i h h' st k=>st.at fun o e=>k it (by simp) o e
 item:=by
  intro X hP hw hK hc i pins s σ H E I hf st hg
  subst hP hw hK
  obtain ⟨xs,x,hq,hx⟩:=hg
  obtain ⟨its,rv,p,hz⟩:=I.tuple hq
  obtain ⟨u,hu,ru⟩:=rv.get hx
  obtain ⟨f0,f1,f2,f3,f4,f5⟩:=hf it (by simp)
  refine wpAny_pyNext_tuple_item st (show s.heap.IsTuple a its.toArray from p) (x:=u) (by simpa using hu) fun h' st' sb=>?_
  have I1:Inv X pins σ H { s with heap:=h' }:=I.turned (t':=s.toks) (fun b o hb e=>(sb.2 b hb).trans e) f0 f1 f3 f4 f5
  obtain ⟨o,e,c,d⟩:=id st'
  exact ⟨u,rfl,A6 (s:={ s with heap:=h' }) e c d (by decide) ⟨x,H,I1,ru,⟨rfl,fun ys hy=>by rw [I.tuple_inj hy hq];exact hx⟩,st',fun b hb=>(hf b hb).1⟩⟩
 done:=by
  intro X hP hw hK hc i pins s σ H E I hf st hg
  subst hP hw hK
  obtain ⟨xs,hq,hx⟩:=hg
  obtain ⟨its,rv,p,hz⟩:=I.tuple hq
  obtain ⟨f0,f1,f2,f3,f4,f5⟩:=hf it (by simp)
  have hl:=rv.length
  exact wpAny_pyNext_tuple_end (I.ok.hd hc) st (show s.heap.IsTuple a its.toArray from p) (by simp;omega) fun h' eb=>⟨rfl,I.turned (t':=s.toks) (fun b o hb e=>eb b o hb e) f0 f1 f3 f4 f5⟩
 self:=fun _ _ _ _ _ st h=>wpAny_pyIter_tupleiter st h
theorem Xy {P:Program}{w:World}{K:PySem.W.Frag}{tg:Expr}(it:Addr)(lo:Int)(n:Nat):Qq P w K tg (Itr lo n) [it] it (fun i h=>IsRangeIter h it (lo+(i:Nat) * 1) ((n:Int) - (i:Nat)) 1) where
 mem:=by simp
 obj:=fun i h st b hb=>by
  have e:b=it:=by simpa using hb
  subst e
  exact ⟨_,st,fun v z=>by
   have z':Data.fields _=Data.cell v:=z
   cases z'⟩
 keep:=fun i h h' st k=>k it (by simp) _ st
 item:=by
  intro X hP hw hK hc i pins s σ H E I hf st hg
  subst hP hw hK
  obtain ⟨f0,f1,f2,f3,f4,f5⟩:=hf it (by simp)
  have W:=Walks.range (prog:=X.prog) (w:=X.w) (I.ok.hd hc) it lo 1 n
  refine W.item i s _ _ hg st fun v h' tk hv st' kk=>?_
  obtain ⟨t,rfl⟩:=hv
  have I1:Inv X pins σ H { s with heap:=h',toks:=tk }:=I.turned (fun b o hb e=>kk b o (by simpa using hb) e) f0 f1 f3 f4 f5
  refine ⟨_,rfl,A6 (s:={ s with heap:=h',toks:=tk }) (n:="range_iterator") st' rfl rfl (by decide) ⟨.int (lo+i),H,I1,⟨t,?_⟩,⟨rfl,rfl⟩,st',fun b hb=>(hf b hb).1⟩⟩
  rw [Int.mul_one]
 done:=by
  intro X hP hw hK hc i pins s σ H E I hf st hg
  subst hP hw hK
  obtain ⟨f0,f1,f2,f3,f4,f5⟩:=hf it (by simp)
  exact wpAny_pyNext_range_end (I.ok.hd hc) st (by have:n<=i:=hg;omega) fun h' eb=>⟨rfl,I.turned (t':=s.toks) (fun b o hb e=>eb b o hb e) f0 f1 f3 f4 f5⟩
 self:=fun _ _ _ _ _ st h=>wpAny_pyIter_rangeiter st h
section
variable {X:Cx}{tg:Expr}
noncomputable def G4 (K:PySem.W.Frag)(tl:TE):TI:=fun σ H R=>tl σ H fun x H1=>∃ a,x=.ref a/\(∃ xs,SqL K H1 a xs)/\R (Itl K a) H1
noncomputable def MS (K:PySem.W.Frag)(tl:TE):TI:=fun σ H R=>tl σ H fun x H1=>∃ a,x=.ref a/\(∃ xs,SqT K H1 a xs)/\R (Itt K a) H1
theorem FZ {l:Expr}{tl:TE}(hl:PE X l tl):PI X tg l (G4 X.K tl):=by
 intro pins s σ H R I h
 refine thn (hl pins s σ H _ I h) fun v s1 ⟨x,H1,I1,r1,q1⟩=>?_
 obtain ⟨a,e,⟨xs,hq⟩,q⟩:=q1
 subst e
 cases r1
 obtain ⟨its,rv,p,hz⟩:=I1.list hq
 refine wpAny_pyIter_list p.isList ?_
 refine ⟨s1.heap.objs.size,[s1.heap.objs.size],_,_,H1,rfl,I1.kept (t':=s1.toks) fun b o e=>Heap.get?_push_of_some _ e,ZF a _,⟨_,Heap.get?_push_size _ rfl,rfl,rfl⟩,fun b hb=>?_,q⟩
 have e:b=s1.heap.objs.size:=by simpa using hb
 subst e
 exact I1.fpOk (Nat.le_refl _) (I1.hok.fresh (Nat.le_refl _))
theorem ID {l:Expr}{tl:TE}(hl:PE X l tl):PI X tg l (MS X.K tl):=by
 intro pins s σ H R I h
 refine thn (hl pins s σ H _ I h) fun v s1 ⟨x,H1,I1,r1,q1⟩=>?_
 obtain ⟨a,e,⟨xs,hq⟩,q⟩:=q1
 subst e
 cases r1
 obtain ⟨its,rv,p,hz⟩:=I1.tuple hq
 refine wpAny_pyIter_tuple (show s1.heap.IsTuple a its.toArray from p) ?_
 refine ⟨s1.heap.objs.size,[s1.heap.objs.size],_,_,H1,rfl,I1.kept (t':=s1.toks) fun b o e=>Heap.get?_push_of_some _ e,wF a _,⟨_,Heap.get?_push_size _ rfl,rfl,rfl⟩,fun b hb=>?_,q⟩
 have e:b=s1.heap.objs.size:=by simpa using hb
 subst e
 exact I1.fpOk (Nat.le_refl _) (I1.hok.fresh (Nat.le_refl _))
theorem J9 {pins:List (Addr × Obj)}{σ:St}{H:Hp}{s:Shared}{R:It->Hp->Prop}{E:Value->Shared->Prop}{lo hi:Int}{t u v:Tok}{tk:Nat}(I:Inv X pins σ H s)(h1:-(2 ^ 62)<=lo)(h2:lo<2 ^ 62)(h3:-(2 ^ 62)<=hi)(h4:hi<2 ^ 62)
  (q:R (Itr lo (hi - lo).toNat) H):wpAny (model X.prog X.w) X.A (pyIter (.ref s.heap.objs.size)) (PIE X pins σ tg R) E { s with heap:=s.heap.push { cls:=.type "range",data:=.fields #[.int lo t,.int hi u,.int 1 v] },toks:=tk }:=by
 refine wpAny_pyIter_range (IsRange.new ..) (small_one h1 h2 h3 h4) ?_
 have I1:Inv X pins σ H { s with heap:=s.heap.push { cls:=.type "range",data:=.fields #[.int lo t,.int hi u,.int 1 v] },toks:=tk }:=I.kept fun b o e=>Heap.get?_push_of_some _ e
 refine ⟨(s.heap.push { cls:=.type "range",data:=.fields #[.int lo t,.int hi u,.int 1 v] }).objs.size,[(s.heap.push { cls:=.type "range",data:=.fields #[.int lo t,.int hi u,.int 1 v] }).objs.size],_,_,H,rfl,
  I1.kept (t':=tk) fun b o e=>Heap.get?_push_of_some _ e,Xy _ lo (hi - lo).toNat,?_,fun b hb=>?_,q⟩
 ·have e1:lo+((0:Nat):Int) * 1=lo:=by simp
  have e2:(((hi - lo).toNat:Nat):Int) - ((0:Nat):Int)=Builtin.Range.rangeSize lo hi 1:=by rw [rangeSize_one];split <;> omega
  show IsRangeIter _ _ (lo+((0:Nat):Int) * 1) ((((hi - lo).toNat:Nat):Int) - ((0:Nat):Int)) 1
  rw [e1,e2]
  exact Heap.get?_push_size _ rfl
 ·have e:b=(s.heap.push { cls:=.type "range",data:=.fields #[.int lo t,.int hi u,.int 1 v] }).objs.size:=by simpa using hb
  subst e
  exact I1.fpOk (Nat.le_refl _) (I1.hok.fresh (Nat.le_refl _))
noncomputable def A9 (ta:TA):TI:=fun σ H R=>ta σ H fun vs H1=>∃ j:Int,vs=[.int j]/\-(2 ^ 62)<=j/\j<2 ^ 62/\R (Itr 0 j.toNat) H1
noncomputable def GD (ta:TA):TI:=fun σ H R=>ta σ H fun vs H1=>∃ i j:Int,vs=[.int i,.int j]/\(-(2 ^ 62)<=i/\i<2 ^ 62/\-(2 ^ 62)<=j/\j<2 ^ 62)/\R (Itr i (j - i).toNat) H1
theorem qP {a:Expr}{ta:TA}{p pos:Pos}(hg:Gl X "range")(hm:X.mg "range"=none)(ha:PA X [a] ta)(hs:starEach [a] X.env=[(false,eval a X.env)]:=by rfl):PI X tg (.Call (.Name "range" p) [a] [] pos) (A9 ta):=by
 intro pins s σ H R I h
 refine Call_ (kJ I hg hm boot_range (PyProof.Rows.callWith_type1 (thn (ha pos pins s σ H _ I h) fun us s1 ⟨vs,H1,I1,r1,q1⟩=>?_) hs rfl))
 obtain ⟨j,e,q1,q2,q⟩:=q1
 subst e
 cases r1 with
 | cons r rr=>
  cases rr
  obtain ⟨t,rfl⟩:=r
  exact call_range_1 (J9 I1 (by omega) (by omega) q1 q2 (by simpa using q))
theorem Z3 {a b:Expr}{ta:TA}{p pos:Pos}(hg:Gl X "range")(hm:X.mg "range"=none)(ha:PA X [a,b] ta)(hs:starEach [a,b] X.env=[(false,eval a X.env),(false,eval b X.env)]:=by rfl)(hs2:starEach [b] X.env=[(false,eval b X.env)]:=by rfl) :
  PI X tg (.Call (.Name "range" p) [a,b] [] pos) (GD ta):=by
 intro pins s σ H R I h
 refine Call_ (kJ I hg hm boot_range (PyProof.Rows.callWith_type1 (thn (ha pos pins s σ H _ I h) fun us s1 ⟨vs,H1,I1,r1,q1⟩=>?_) (by rw [hs,hs2]) (by rw [hs2];rfl)))
 obtain ⟨i,j,e,⟨q1,q2,q3,q4⟩,q⟩:=q1
 subst e
 cases r1 with
 | cons r rr=>
  cases rr with
  | cons r' rr=>
   cases rr
   obtain ⟨t,rfl⟩:=r
   obtain ⟨t',rfl⟩:=r'
   exact call_range_2 (J9 I1 q1 q2 q3 q4 q)
noncomputable def Ge (wi:TI)(g:TG)(tb:TS):TS:=fun D σ H=>wi σ H fun J H1=>∃ W:Nat->Nat->St->Hp->Prop,(∃ m,W 0 m σ H1)/\∀ i m σ H,W i m σ H ->
 (J.stop i H/\D.nx σ H) \/ (J.go i H/\∃ N:St->Hp->Prop,(∀ σ' H',N σ' H'->∃ m',m'<m/\W (i+1) m' σ' H')/\∀ x H',J.yld i H x H'->g x σ H' fun σ2 H2=>tb { D with nx:=N,ct:=N,bk:=D.nx } σ2 H2)
noncomputable def y6 (fp:List Addr)(h:Heap):List (Addr × Obj):=fp.filterMap fun b=>(h.get? b).map fun o=>(b,o)
theorem jj {fp:List Addr}{h:Heap}{b:Addr}{o:Obj}(hb:b ∈ fp)(e:h.get? b=some o):(b,o) ∈ y6 fp h:=List.mem_filterMap.mpr ⟨b,hb,by rw [e];rfl⟩
theorem WG {fp:List Addr}{h:Heap}{p:Addr × Obj}(hp:p ∈ y6 fp h):p.1 ∈ fp/\h.get? p.1=some p.2:=by
 obtain ⟨b,hb,e⟩:=List.mem_filterMap.mp hp
 cases q:h.get? b with
 | none=>rw [q] at e;cases e
 | some o=>
  rw [q] at e
  have e':(b,o)=p:=Option.some.inj e
  subst e'
  exact ⟨hb,q⟩
theorem Inv.pinned {pins:List (Addr × Obj)}{σ:St}{H:Hp}{s:Shared}{fp:List Addr}(I:Inv X pins σ H s)(hf:∀ b ∈ fp,xO X pins H b)(ho:∀ b ∈ fp,∃ o,s.heap.get? b=some o/\∀ v,o.data ≠ .cell v):Inv X (pins ++ y6 fp s.heap) σ H s:=
 I.pins_of fun p hp=>(List.mem_append.mp hp).elim (fun z=>I.pin p (List.mem_append_right _ z)) fun z=>by
  obtain ⟨hb,e⟩:=WG z
  obtain ⟨f0,f1,f2,_⟩:=hf p.1 hb
  obtain ⟨o,e',d⟩:=ho p.1 hb
  rw [e] at e';cases e'
  exact ⟨e,f0,f1,f2,d⟩
theorem Inv.unpinned {pins pl:List (Addr × Obj)}{σ:St}{H:Hp}{s:Shared}(I:Inv X (pins ++ pl) σ H s):Inv X pins σ H s:=I.pins_of fun p hp=>I.pin p (List.mem_append_right _ (List.mem_append_left _ hp))
theorem qv {iter:Expr}{body:List Stmt}{wi:TI}{g:TG}{tb:TS}{pos:Pos}(hp:PassesOwn (model X.prog X.w) X.A X.env X.xe)(hc:X.calm=true)(hi:PI X tg iter wi)(hg:PG X tg g)(hb:PSs X body tb)
  (hs:∀ x,foldedSetIterable iter X.env x=pure x:=by intro _;rfl):PS X (.For tg iter body [] pos) (Ge wi g tb):=by
 intro pins s σ H D I h
 refine wpAny_For (thn (hi pins s σ H _ I h) fun v s1 h1=>thn h1 fun itv s2 h2=>?_) hs
 obtain ⟨it,fp,tn,J,H2,e,I2,T,st2,f2,W,⟨m0,w0⟩,turn⟩:=h2
 subst e
 have stat:∀ {H':Hp},(∀ b ∈ fp,H' b=none)->∀ b ∈ fp,xO X pins H' b:=fun hn b hb=>⟨hn b hb,(f2 b hb).2⟩
 refine codeAny_forLoop_any (fun n s'=>∃ i σ' H',Inv X pins σ' H' s'/\tn i s'.heap/\(∀ b ∈ fp,H' b=none)/\W i n σ' H') ?_ m0 ⟨0,σ,H2,I2,st2,fun b hb=>(f2 b hb).1,w0⟩
 rintro n s3 ⟨i,σ3,H3,I3,st3,fr3,w3⟩
 rcases turn i n σ3 H3 w3 with ⟨stop,qn⟩ | ⟨go,N,hN,step⟩
 ·refine wpAny_passesOwn hp (thn (T.done X rfl rfl rfl hc i pins s3 σ3 H3 X.xe I3 (stat fr3) st3 stop) fun r s4 ⟨hr,I4⟩=>?_)
  subst hr
  exact wpAny_execs_nil ⟨σ3,H3,I4,qn⟩
 ·refine wpAny_passesOwn hp (thn (T.item X rfl rfl rfl hc i pins s3 σ3 H3 X.xe I3 (stat fr3) st3 go) fun r s4 ⟨u,hr,h4⟩=>?_)
  subst hr
  refine wpAny_passesOwn hp (thn h4 fun _ s5 ⟨x,H5,I5,r5,y5,st5,fr5⟩=>?_)
  have I5':=I5.pinned (stat fr5) (T.obj _ _ st5)
  refine wpAny_passesOwn hp (thn (hg _ s5 σ3 H5 x u _ I5' r5 (step x H5 y5)) fun _ s6 ⟨σ6,H6,I6,q6⟩=>?_)
  refine wpAny_passesOwn hp (thn (hb _ s6 σ6 H6 _ I6 q6) fun f s7 q7=>?_)
  have again:∀ {σ7:St} {H7:Hp},Inv X (pins ++ y6 fp s5.heap) σ7 H7 s7->N σ7 H7->∃ m,m<n/\∃ i σ' H',Inv X pins σ' H' s7/\tn i s7.heap/\(∀ b ∈ fp,H' b=none)/\W i m σ' H':=fun {σ7 H7} I7 n7=>by
   obtain ⟨m',hm,w7⟩:=hN σ7 H7 n7
   refine ⟨m',hm,i+1,σ7,H7,I7.unpinned,T.keep _ _ _ st5 fun b hb o e=>(I7.pin (b,o) (List.mem_append_right _ (List.mem_append_right _ (jj hb e)))).1,fun b hb=>?_,w7⟩
   obtain ⟨o,e,d⟩:=T.obj _ _ st5 b hb
   exact (I7.pin (b,o) (List.mem_append_right _ (List.mem_append_right _ (jj hb e)))).2.1
  cases f with
  | next=>obtain ⟨σ7,H7,I7,n7⟩:=q7;exact again I7 n7
  | cont=>obtain ⟨σ7,H7,I7,n7⟩:=q7;exact again I7 n7
  | brk=>obtain ⟨σ7,H7,I7,q7⟩:=q7;exact ⟨σ7,H7,I7.unpinned,q7⟩
  | ret v=>obtain ⟨x7,σ7,H7,I7,r7,q7⟩:=q7;exact ⟨x7,σ7,H7,I7.unpinned,r7,q7⟩
end
theorem WT {K:PySem.W.Frag}{a:Addr}{xs:List V}{g:TG}{tb:TS}{D:j8}{σ:St}{H:Hp}(Pv:Nat->St->Hp->Prop)(h0:Pv 0 σ H)(hl:∀ i σ H,i<=xs.length->Pv i σ H->SqL K H a xs)
  (hs:∀ i x σ H,xs[i]?=some x->Pv i σ H->g x σ H fun σ2 H2=>tb { D with nx:=Pv (i+1),ct:=Pv (i+1),bk:=D.nx } σ2 H2) (hd:∀ σ H,Pv xs.length σ H->D.nx σ H) :
  ∃ W:Nat->Nat->St->Hp->Prop,(∃ m,W 0 m σ H)/\∀ i m σ H,W i m σ H ->
   ((Itl K a).stop i H/\D.nx σ H) \/ ((Itl K a).go i H/\∃ N:St->Hp->Prop,(∀ σ' H',N σ' H'->∃ m',m'<m/\W (i+1) m' σ' H')/\∀ x H',(Itl K a).yld i H x H'->g x σ H' fun σ2 H2=>tb { D with nx:=N,ct:=N,bk:=D.nx } σ2 H2):=by
 refine ⟨fun i m σ H=>m=xs.length - i/\i<=xs.length/\Pv i σ H,⟨xs.length,by simp,Nat.zero_le _,h0⟩,?_⟩
 rintro i m σ H ⟨rfl,hi,p⟩
 have q:=hl i σ H hi p
 by_cases hlt:i<xs.length
 ·refine .inr ⟨⟨xs,xs[i],q,by simp [hlt]⟩,Pv (i+1),fun σ' H' p'=>⟨xs.length - (i+1),by omega,rfl,hlt,p'⟩,fun x H' y=>?_⟩
  obtain ⟨e,y⟩:=y
  subst e
  exact hs i x σ _ (y xs q) p
 ·have e:i=xs.length:=by omega
  subst e
  exact .inl ⟨⟨xs,q,Nat.le_refl _⟩,hd σ H p⟩
theorem V2 {lo:Int}{n:Nat}{g:TG}{tb:TS}{D:j8}{σ:St}{H:Hp}(Pv:Nat->St->Hp->Prop)(h0:Pv 0 σ H)
  (hs:∀ i σ H,i<n->Pv i σ H->g (.int (lo+i)) σ H fun σ2 H2=>tb { D with nx:=Pv (i+1),ct:=Pv (i+1),bk:=D.nx } σ2 H2) (hd:∀ σ H,Pv n σ H->D.nx σ H) :
  ∃ W:Nat->Nat->St->Hp->Prop,(∃ m,W 0 m σ H)/\∀ i m σ H,W i m σ H ->
   ((Itr lo n).stop i H/\D.nx σ H) \/ ((Itr lo n).go i H/\∃ N:St->Hp->Prop,(∀ σ' H',N σ' H'->∃ m',m'<m/\W (i+1) m' σ' H')/\∀ x H',(Itr lo n).yld i H x H'->g x σ H' fun σ2 H2=>tb { D with nx:=N,ct:=N,bk:=D.nx } σ2 H2):=by
 refine ⟨fun i m σ H=>m=n - i/\i<=n/\Pv i σ H,⟨n,by simp,Nat.zero_le _,h0⟩,?_⟩
 rintro i m σ H ⟨rfl,hi,p⟩
 by_cases hlt:i<n
 ·refine .inr ⟨hlt,Pv (i+1),fun σ' H' p'=>⟨n - (i+1),by omega,rfl,hlt,p'⟩,fun x H' y=>?_⟩
  obtain ⟨e,y⟩:=y
  subst e y
  exact hs i σ _ hlt p
 ·have e:i=n:=by omega
  subst e
  exact .inl ⟨Nat.le_refl _,hd σ H p⟩
theorem Bb {c:TT}{tb:TS}{D:j8}{σ:St}{H:Hp}(Pv:St->Hp->Prop)(μ:St->Hp->Nat)(h0:Pv σ H)
  (hs:∀ σ H,Pv σ H->c σ H fun b H1=>if b=true then tb { D with nx:=fun σ' H'=>Pv σ' H'/\μ σ' H'<μ σ H,ct:=fun σ' H'=>Pv σ' H'/\μ σ' H'<μ σ H,bk:=D.nx } σ H1 else D.nx σ H1)
  (mono:∀ σ H Q Q',(∀ b H1,Q b H1->Q' b H1)->c σ H Q->c σ H Q'):KH c tb D σ H:=by
 refine ⟨fun m σ H=>m=μ σ H/\Pv σ H,⟨_,rfl,h0⟩,?_⟩
 rintro m σ H ⟨rfl,p⟩
 refine mono σ H _ _ (fun b H1 q=>?_) (hs σ H p)
 cases b with
 | true=>exact ⟨_,fun σ' H' ⟨p',l⟩=>⟨_,l,rfl,p'⟩,q⟩
 | false=>exact q
noncomputable abbrev R2:=V->V->Hp->VK->Prop
noncomputable def OpR (X:Cx)(f:Value->Value->Sem Value)(r:R2):Prop:=
 ∀ (pins:List (Addr × Obj)) (s:Shared) (σ:St) (H:Hp) (x y:V) (v u:Value) (Q:VK),Inv X pins σ H s->zI x v->zI y u->r x y H Q ->
  wpAny (model X.prog X.w) X.A (f v u) (EP X pins σ Q) X.xe s
noncomputable def UnR (X:Cx)(f:Value->Sem Value)(r:V->Hp->VK->Prop):Prop:=
 ∀ (pins:List (Addr × Obj)) (s:Shared) (σ:St) (H:Hp) (x:V) (v:Value) (Q:VK),Inv X pins σ H s->zI x v->r x H Q ->
  wpAny (model X.prog X.w) X.A (f v) (EP X pins σ Q) X.xe s
noncomputable def jg (X:Cx)(f:Value)(r:List V->Hp->VK->Prop):Prop:=
 ∀ (pins:List (Addr × Obj)) (s:Shared) (σ:St) (H:Hp) (xs:List V) (us:List Value) (Q:VK),Inv X pins σ H s->zH xs us->r xs H Q ->
  wpAny (model X.prog X.w) X.A (call f us) (EP X pins σ Q) X.xe s
noncomputable def tOp (r:R2)(ta tb:TE):TE:=fun σ H Q=>ta σ H fun x H1=>tb σ H1 fun y H2=>r x y H2 Q
noncomputable def tUn (r:V->Hp->VK->Prop)(ta:TE):TE:=fun σ H Q=>ta σ H fun x H1=>r x H1 Q
noncomputable def rI (C:Int->Int->Prop)(g:Int->Int->V):R2:=fun x y H Q=>∃ i j,x=.int i/\y=.int j/\C i j/\Q (g i j) H
noncomputable def rI0 (g:Int->Int->V):R2:=fun x y H Q=>∃ i j,x=.int i/\y=.int j/\Q (g i j) H
noncomputable def rU (g:Int->V):V->Hp->VK->Prop:=fun x H Q=>∃ i,x=.int i/\Q (g i) H
section
variable {X:Cx}{a b c:Expr}{ta tb tc:TE}{pos:Pos}
theorem Hw (ha:PE X a ta)(hb:PE X b tb){pins:List (Addr × Obj)}{s:Shared}{σ:St}{H:Hp}{R:V->V->Hp->Prop}(I:Inv X pins σ H s)
  (h:ta σ H fun x H1=>tb σ H1 fun y H2=>R x y H2) {Q:Value->Shared->Prop} {f:Value->Value->Sem Value}
  (hf:∀ v u s2 x y H2,Inv X pins σ H2 s2->zI x v->zI y u->R x y H2->wpAny (model X.prog X.w) X.A (f v u) Q X.xe s2) :
  wpAny (model X.prog X.w) X.A (eval a X.env) (fun v s₁=>wpAny (model X.prog X.w) X.A (eval b X.env) (fun u s₂=>wpAny (model X.prog X.w) X.A (f v u) Q X.xe s₂) X.xe s₁) X.xe s:=by
 refine thn (ha pins s σ H _ I h) fun v s1 ⟨x,H1,I1,r1,q1⟩=>?_
 refine thn (hb pins s1 σ H1 _ I1 q1) fun u s2 ⟨y,H2,I2,r2,q2⟩=>?_
 exact hf v u s2 x y H2 I2 r1 r2 q2
theorem zu {op:Operator}{r:R2}(ho:OpR X (binaryOp op) r)(ha:PE X a ta)(hb:PE X b tb):PE X (.BinOp a op b pos) (tOp r ta tb):=by
 intro pins s σ H Q I h
 exact wpAny_BinOp (Hw ha hb I h fun v u s2 x y H2 I2 rx ry q=>ho pins s2 σ H2 x y v u Q I2 rx ry q)
theorem Ec {op:UnaryOp}{r:V->Hp->VK->Prop}(ho:UnR X (unaryOp op) r)(ha:PE X a ta):PE X (.UnaryOp op a pos) (tUn r ta):=by
 intro pins s σ H Q I h
 exact UnaryOp_ (thn (ha pins s σ H _ I h) fun v s1 ⟨x,H1,I1,r1,q1⟩=>ho pins s1 σ H1 x v Q I1 r1 q1)
theorem opI {f:Value->Value->Sem Value}{C:Int->Int->Prop}{g:Int->Int->Int}
  (rule:∀ (i j:Int) (t u:Tok) (s:Shared) (Q:Value->Shared->Prop) (E:Value->Shared->Prop),C i j->Q (.int (g i j) s.toks) { s with toks:=s.toks+1 }->wpAny (model X.prog X.w) X.A (f (.int i t) (.int j u)) Q E s) :
  OpR X f (rI C fun i j=>.int (g i j)):=by
 intro pins s σ H x y v u Q I rx ry h
 obtain ⟨i,j,rfl,rfl,hc,q⟩:=h
 obtain ⟨t,rfl⟩:=rx
 obtain ⟨t',rfl⟩:=ry
 exact rule i j t t' s _ _ hc ⟨.int (g i j),H,I.tok _,⟨_,rfl⟩,q⟩
theorem Ms {f:Value->Value->Sem Value}{g:Int->Int->Int}
  (rule:∀ (i j:Int) (t u:Tok) (s:Shared) (Q:Value->Shared->Prop) (E:Value->Shared->Prop),Q (.int (g i j) s.toks) { s with toks:=s.toks+1 }->wpAny (model X.prog X.w) X.A (f (.int i t) (.int j u)) Q E s) :
  OpR X f (rI0 fun i j=>.int (g i j)):=by
 intro pins s σ H x y v u Q I rx ry h
 obtain ⟨i,j,rfl,rfl,q⟩:=h
 obtain ⟨t,rfl⟩:=rx
 obtain ⟨t',rfl⟩:=ry
 exact rule i j t t' s _ _ ⟨.int (g i j),H,I.tok _,⟨_,rfl⟩,q⟩
theorem Gp {f:Value->Value->Sem Value}{g:Int->Int->Bool}
  (rule:∀ (i j:Int) (t u:Tok) (s:Shared) (Q:Value->Shared->Prop) (E:Value->Shared->Prop),Q (.bool (g i j)) s->wpAny (model X.prog X.w) X.A (f (.int i t) (.int j u)) Q E s) :
  OpR X f (rI0 fun i j=>.bl (g i j)):=by
 intro pins s σ H x y v u Q I rx ry h
 obtain ⟨i,j,rfl,rfl,q⟩:=h
 obtain ⟨t,rfl⟩:=rx
 obtain ⟨t',rfl⟩:=ry
 exact rule i j t t' s _ _ ⟨.bl (g i j),H,I,rfl,q⟩
noncomputable def W3 (i j:Int):Prop:=0<j/\j<1073741824
noncomputable def Nc (i j:Int):Prop:=0<=j/\j<=1000000/\i.natAbs<2 ^ 64
noncomputable def Dx (i j:Int):Prop:=(-(2 ^ 64)<i/\i<2 ^ 64) \/ (-(2 ^ 64)<j/\j<2 ^ 64)
theorem Dx.ok {i j:Int}(h:Dx i j):IntMulOk i j:=by
 rcases h with ⟨h1,h2⟩ | ⟨h1,h2⟩
 ·exact .of_left (intBits_le_64 h1 h2)
 ·exact .of_right (intBits_le_64 h1 h2)
theorem zX:OpR X (binaryOp .Add) (rI0 fun i j=>.int (i+j)):=Ms fun _ _ _ _ _ _ _ q=>add_int q
theorem jX:OpR X (binaryOp .Sub) (rI0 fun i j=>.int (i - j)):=Ms fun _ _ _ _ _ _ _ q=>sub_int q
theorem jz:OpR X (binaryOp .Mult) (rI Dx fun i j=>.int (i * j)):=opI fun _ _ _ _ _ _ _ hc q=>mul_int q hc.ok
theorem xK:OpR X (binaryOp .FloorDiv) (rI W3 fun i j=>.int (i / j)):=opI fun i j _ _ _ _ _ hc q=>by
 have h1:(0:Int)<j:=hc.1
 have h2:j<1073741824:=hc.2
 exact floordiv_int (by omega) (by rw [Int.fdiv_eq_ediv_of_nonneg i (by omega)];exact q) (.inl (PyProof.noPylong_small (by omega)))
theorem qS:OpR X (binaryOp .Mod) (rI (fun _ j=>0<j) fun i j=>.int (i % j)):=opI fun i j _ _ _ _ _ hc q=>by
 have h1:(0:Int)<j:=hc
 exact mod_int' (by omega) (by rw [Int.fmod_eq_emod_of_nonneg i (by omega)];exact q)
theorem Hh:OpR X (binaryOp .Pow) (rI Nc fun i j=>.int (i ^ j.toNat)):=opI fun _ _ _ _ _ _ _ hc q=>pow_int_small hc.1 hc.2.1 hc.2.2 q
theorem B7:OpR X (inplaceOp .FloorDiv) (rI W3 fun i j=>.int (i / j)):=opI fun i j _ _ _ _ _ hc q=>by
 have h1:(0:Int)<j:=hc.1
 have h2:j<1073741824:=hc.2
 exact ifloordiv_int (by omega) (by rw [Int.fdiv_eq_ediv_of_nonneg i (by omega)];exact q) (.inl (PyProof.noPylong_small (by omega)))
theorem unI {f:Value->Sem Value}{g:Int->Int}
  (rule:∀ (i:Int) (t:Tok) (s:Shared) (Q:Value->Shared->Prop) (E:Value->Shared->Prop),Q (.int (g i) s.toks) { s with toks:=s.toks+1 }->wpAny (model X.prog X.w) X.A (f (.int i t)) Q E s) :
  UnR X f (rU fun i=>.int (g i)):=by
 intro pins s σ H x v Q I rx h
 obtain ⟨i,rfl,q⟩:=h
 obtain ⟨t,rfl⟩:=rx
 exact rule i t s _ _ ⟨.int (g i),H,I.tok _,⟨_,rfl⟩,q⟩
theorem X6:UnR X (unaryOp .USub) (rU fun i=>.int (-i)):=unI fun _ _ _ _ _ q=>neg_int q
end
noncomputable def Ma:V->V->Bool
 | .non,.non=>true | .non,.int _=>true | .int _,.non=>true | .non,.bl _=>true | .bl _,.non=>true | .non,.str _=>true | .str _,.non=>true
 | .int _,.int _=>true | .bl _,.bl _=>true | .str _,.str _=>true | .byt _,.byt _=>true
 | .int _,.str _=>true | .str _,.int _=>true | .bl _,.str _=>true | .str _,.bl _=>true
 | _,_=>false
noncomputable def rEq:R2:=fun x y H Q=>Ma x y=true/\Q (.bl (decide (x=y))) H
noncomputable def rNe:R2:=fun x y H Q=>Ma x y=true/\Q (.bl (!decide (x=y))) H
theorem Ym {i j:Int}:decide (V.int i=V.int j)=(i == j):=by
 rw [Bool.eq_iff_iff]
 simp
theorem AJ {i j:Bool}:decide (V.bl i=V.bl j)=(i == j):=by
 rw [Bool.eq_iff_iff]
 simp
theorem YM {i j:Str}:decide (V.str i=V.str j)=(i == j):=by
 rw [Bool.eq_iff_iff]
 simp
theorem YY {i j:Array UInt8}:decide (V.byt i=V.byt j)=(i.toList == j.toList):=by
 rw [Bool.eq_iff_iff]
 cases i
 cases j
 simp
section
variable {X:Cx}{a b c:Expr}{ta tb tc:TE}{pos:Pos}
theorem zR {pins:List (Addr × Obj)}{σ:St}{H:Hp}{s:Shared}{Q:VK}{k k':Bool}(I:Inv X pins σ H s)(q:Q (.bl k) H)(e:k=k'):EP X pins σ Q (.bool k') s:=by
 subst e
 exact ⟨.bl k,H,I,rfl,q⟩
theorem jW:OpR X (compareOp .Eq) rEq:=by
 intro pins s σ H x y v u Q I rx ry h
 obtain ⟨hs,q⟩:=h
 cases x with
 | non=>
  cases rx
  cases y with
  | non=>cases ry;exact PySem.EqNone.eq_none_none (zR I q (by simp))
  | bl j=>cases ry;exact PySem.EqNone.eq_none_bool (zR I q (by simp))
  | int j=>obtain ⟨t',rfl⟩:=ry;exact PySem.EqNone.eq_none_int (zR I q (by simp))
  | str j=>obtain ⟨t',rfl⟩:=ry;exact PySem.EqNone.eq_none_str (zR I q (by simp))
  | _=>exact absurd (show false=true from hs) Bool.false_ne_true
 | bl i=>
  cases rx
  cases y with
  | non=>cases ry;exact PySem.EqNone.eq_bool_none (zR I q (by simp))
  | bl j=>cases ry;exact eq_bool (zR I q AJ)
  | str j=>obtain ⟨t',rfl⟩:=ry;exact PySem.EqMixed.eq_bool_str (zR I q (by simp))
  | _=>exact absurd (show false=true from hs) Bool.false_ne_true
 | int i=>
  obtain ⟨t,rfl⟩:=rx
  cases y with
  | non=>cases ry;exact PySem.EqNone.eq_int_none (zR I q (by simp))
  | int j=>obtain ⟨t',rfl⟩:=ry;exact eq_int (zR I q Ym)
  | str j=>obtain ⟨t',rfl⟩:=ry;exact PySem.EqMixed.eq_int_str (zR I q (by simp))
  | _=>exact absurd (show false=true from hs) Bool.false_ne_true
 | str i=>
  obtain ⟨t,rfl⟩:=rx
  cases y with
  | non=>cases ry;exact PySem.EqNone.eq_str_none (zR I q (by simp))
  | bl j=>cases ry;exact PySem.EqMixed.eq_str_bool (zR I q (by simp))
  | int j=>obtain ⟨t',rfl⟩:=ry;exact PySem.EqMixed.eq_str_int (zR I q (by simp))
  | str j=>obtain ⟨t',rfl⟩:=ry;exact eq_str (zR I q YM)
  | _=>exact absurd (show false=true from hs) Bool.false_ne_true
 | byt i=>
  obtain ⟨t,rfl⟩:=rx
  cases y with
  | byt j=>obtain ⟨t',rfl⟩:=ry;exact PySem.W.eq_bytes (zR I q YY)
  | _=>exact absurd (show false=true from hs) Bool.false_ne_true
 | _=>cases y <;> exact absurd (show false=true from hs) Bool.false_ne_true
theorem G5:OpR X (compareOp .NotEq) rNe:=by
 intro pins s σ H x y v u Q I rx ry h
 obtain ⟨hs,q⟩:=h
 cases x with
 | non=>
  cases rx
  cases y with
  | non=>cases ry;exact PySem.EqNone.ne_none_none (zR I q (by simp))
  | bl j=>cases ry;exact PySem.EqNone.ne_none_bool (zR I q (by simp))
  | int j=>obtain ⟨t',rfl⟩:=ry;exact PySem.EqNone.ne_none_int (zR I q (by simp))
  | str j=>obtain ⟨t',rfl⟩:=ry;exact PySem.EqNone.ne_none_str (zR I q (by simp))
  | _=>exact absurd (show false=true from hs) Bool.false_ne_true
 | bl i=>
  cases rx
  cases y with
  | non=>cases ry;exact PySem.EqNone.ne_bool_none (zR I q (by simp))
  | bl j=>cases ry;exact ne_bool (zR I q (congrArg not AJ))
  | str j=>obtain ⟨t',rfl⟩:=ry;exact PySem.EqMixed.ne_bool_str (zR I q (by simp))
  | _=>exact absurd (show false=true from hs) Bool.false_ne_true
 | int i=>
  obtain ⟨t,rfl⟩:=rx
  cases y with
  | non=>cases ry;exact PySem.EqNone.ne_int_none (zR I q (by simp))
  | int j=>obtain ⟨t',rfl⟩:=ry;exact ne_int (zR I q (congrArg not Ym))
  | str j=>obtain ⟨t',rfl⟩:=ry;exact PySem.EqMixed.ne_int_str (zR I q (by simp))
  | _=>exact absurd (show false=true from hs) Bool.false_ne_true
 | str i=>
  obtain ⟨t,rfl⟩:=rx
  cases y with
  | non=>cases ry;exact PySem.EqNone.ne_str_none (zR I q (by simp))
  | bl j=>cases ry;exact PySem.EqMixed.ne_str_bool (zR I q (by simp))
  | int j=>obtain ⟨t',rfl⟩:=ry;exact PySem.EqMixed.ne_str_int (zR I q (by simp))
  | str j=>obtain ⟨t',rfl⟩:=ry;exact ne_str (zR I q (congrArg not YM))
  | _=>exact absurd (show false=true from hs) Bool.false_ne_true
 | byt i=>
  obtain ⟨t,rfl⟩:=rx
  cases y with
  | byt j=>obtain ⟨t',rfl⟩:=ry;exact PySem.W.ne_bytes (zR I q (congrArg not YY))
  | _=>exact absurd (show false=true from hs) Bool.false_ne_true
 | _=>cases y <;> exact absurd (show false=true from hs) Bool.false_ne_true
theorem Kw:OpR X (compareOp .Lt) (rI0 fun i j=>.bl (decide (i<j))):=Gp fun _ _ _ _ _ _ _ q=>lt_int q
theorem GW:OpR X (compareOp .LtE) (rI0 fun i j=>.bl (decide (i<=j))):=Gp fun _ _ _ _ _ _ _ q=>le_int q
theorem YD:OpR X (compareOp .Gt) (rI0 fun i j=>.bl (decide (j<i))):=Gp fun _ _ _ _ _ _ _ q=>gt_int q
theorem Gz:OpR X (compareOp .GtE) (rI0 fun i j=>.bl (decide (j<=i))):=Gp fun _ _ _ _ _ _ _ q=>ge_int q
theorem xm:OpR X (compareOp .Is) (fun x y H Q=>y=.non/\Q (.bl (decide (x=.non))) H):=by
 intro pins s σ H x y v u Q I rx ry h
 obtain ⟨rfl,q⟩:=h
 cases ry
 refine is_none_gen (zR I q ?_)
 cases x <;> first
  | (cases rx;rfl)
  | (obtain ⟨t,rfl⟩:=rx;rfl)
theorem kE:OpR X (compareOp .IsNot) (fun x y H Q=>y=.non/\Q (.bl (!decide (x=.non))) H):=by
 intro pins s σ H x y v u Q I rx ry h
 obtain ⟨rfl,q⟩:=h
 cases ry
 refine isnot_none_gen (zR I q ?_)
 cases x <;> first
  | (cases rx;rfl)
  | (obtain ⟨t,rfl⟩:=rx;rfl)
theorem zy (b:Expr){op:CmpOp}(h:op ≠ .In:=by decide)(h2:op ≠ .NotIn:=by decide):behindInMarks op b=false:=by
 have e1:(op == CmpOp.In)=false:=by cases op <;> first | rfl | exact absurd rfl h
 have e2:(op == CmpOp.NotIn)=false:=by cases op <;> first | rfl | exact absurd rfl h2
 cases b <;> simp [behindInMarks,e1,e2]
theorem vH {op:CmpOp}{r:R2}(ho:OpR X (compareOp op) r)(ha:PE X a ta)(hb:PE X b tb)(hm:behindInMarks op b=false):PE X (.Compare a [op] [b] pos) (tOp r ta tb):=by
 intro pins s σ H Q I h
 exact wpAny_Compare1 (Hw ha hb I h fun v u s2 x y H2 I2 rx ry q=>ho pins s2 σ H2 x y v u Q I2 rx ry q) hm
noncomputable def YC (t:TE):TT:=fun σ H Q=>t σ H fun x H'=>∃ k,x=.bl k/\Q k H'
theorem zn {op:CmpOp}{r:R2}(ho:OpR X (compareOp op) r)(ha:PE X a ta)(hb:PE X b tb)(hm:behindInMarks op b=false):PT X (.Compare a [op] [b] pos) (YC (tOp r ta tb)):=by
 intro pins s σ H Q I h
 refine wpAny_isTrue_Compare1 (thn (ha pins s σ H _ I h) fun v s1 ⟨x,H1,I1,r1,q1⟩=>thn (hb pins s1 σ H1 _ I1 q1) fun u s2 ⟨y,H2,I2,r2,q2⟩=>
  thn (ho pins s2 σ H2 x y v u _ I2 r1 r2 q2) fun c s3 ⟨z,H3,I3,r3,k,e,q3⟩=>?_) hm
 subst e
 cases r3
 exact wpAny_truthy_bool ⟨H3,I3,q3⟩
noncomputable def XG (r r':R2)(ta tb tc:TE):TE:=fun σ H Q=>ta σ H fun x H1=>tb σ H1 fun y H2=>r x y H2 fun z H3=>∃ k,z=.bl k /\
 (if k=true then tc σ H3 fun w' H4=>r' y w' H4 Q else Q (.bl false) H3)
theorem JM {op op':CmpOp}{r r':R2}(ho:OpR X (compareOp op) r)(ho':OpR X (compareOp op') r')(ha:PE X a ta)(hb:PE X b tb)(hc:PE X c tc)
  (hm:lastMarks [op,op'] [b,c]=false:=by with_unfolding_all rfl):PE X (.Compare a [op,op'] [b,c] pos) (XG r r' ta tb tc):=by
 intro pins s σ H Q I h
 refine Compare_chain (thn (ha pins s σ H _ I h) fun v s1 ⟨x,H1,I1,r1,q1⟩=>chain_link (thn (hb pins s1 σ H1 _ I1 q1) fun u s2 ⟨y,H2,I2,r2,q2⟩=>
  thn (ho pins s2 σ H2 x y v u _ I2 r1 r2 q2) fun d s3 ⟨z,H3,I3,r3,k,e,q3⟩=>?_)) hm
 subst e
 cases r3
 refine wpAny_truthy_bool ?_
 cases k with
 | false=>exact ite_ff ⟨.bl false,H3,I3,rfl,q3⟩
 | true=>exact ite_tt (chain_last (thn (hc pins s3 σ H3 _ I3 q3) fun w' s4 ⟨z',H4,I4,r4,q4⟩=>ho' pins s4 σ H4 y z' u w' Q I4 r2 r4 q4))
theorem yY:(sizeLine:Nat)<2 ^ 63:=by rw [sizeLine_eq];decide
theorem K8:OpR X (binaryOp .Add) (fun x y H Q=>∃ i j,x=.str i/\y=.str j/\i.length+j.length<=sizeLine/\Q (.str (i ++ j)) H):=by
 intro pins s σ H x y v u Q I rx ry h
 obtain ⟨i,j,rfl,rfl,hz,q⟩:=h
 obtain ⟨t,rfl⟩:=rx
 obtain ⟨t',rfl⟩:=ry
 exact add_str (fun t' tk=>⟨.str (i ++ j),H,I.tok _,⟨_,rfl⟩,q⟩) hz
theorem ky {x:V}{us:List Value}(r:zH [x] us):∃ u,us=[u]/\zI x u:=by
 cases r with
 | cons r1 r2=>cases r2;exact ⟨_,rfl,r1⟩
theorem ZX {x y:V}{us:List Value}(r:zH [x,y] us):∃ u w',us=[u,w']/\zI x u/\zI y w':=by
 cases r with
 | cons r1 r2=>
  cases r2 with
  | cons r3 r4=>cases r4;exact ⟨_,_,rfl,r1,r3⟩
theorem Zg:jg X (.builtin "abs") (fun xs H Q=>∃ i,xs=[.int i]/\Q (.int (if i<0 then -i else i)) H):=by
 intro pins s σ H xs us Q I r h
 obtain ⟨i,rfl,q⟩:=h
 obtain ⟨u,rfl,t,rfl⟩:=ky r
 exact call_abs_int fun u tk=>⟨.int (if i<0 then -i else i),H,I.tok _,⟨_,rfl⟩,q⟩
theorem ZU (hc:X.calm=true):jg X (.builtin "max") (fun xs H Q=>∃ i j,xs=[.int i,.int j]/\Q (.int (if j > i then j else i)) H):=by
 intro pins s σ H xs us Q I r h
 obtain ⟨i,j,rfl,q⟩:=h
 obtain ⟨u,w',rfl,⟨t,rfl⟩,⟨t',rfl⟩⟩:=ZX r
 refine max_two_ints (I.ok.hd hc) fun h' tk k=>⟨_,H,I.kept k,?_,q⟩
 by_cases hj:j > i
 ·rw [if_pos hj,if_pos hj];exact ⟨_,rfl⟩
 ·rw [if_neg hj,if_neg hj];exact ⟨_,rfl⟩
theorem V8:jg X (.type "int") (fun xs H Q=>(∃ i,xs=[.int i]/\Q (.int i) H) \/ ∃ k,xs=[.bl k]/\Q (.int (if k then 1 else 0)) H):=by
 intro pins s σ H xs us Q I r h
 rcases h with ⟨i,rfl,q⟩ | ⟨k,rfl,q⟩
 ·obtain ⟨u,rfl,t,rfl⟩:=ky r
  exact call_int_int ⟨.int i,H,I,⟨_,rfl⟩,q⟩
 ·obtain ⟨u,rfl,r1⟩:=ky r
  cases r1
  exact call_int_bool ⟨.int (if k then 1 else 0),H,I.tok _,⟨_,rfl⟩,q⟩
theorem Qz:jg X (.type "str") (fun xs H Q=>∃ i,xs=[.int i]/\i.natAbs.log2<1920/\Q (.str (toString i)) H):=by
 intro pins s σ H xs us Q I r h
 obtain ⟨i,rfl,hz,q⟩:=h
 obtain ⟨u,rfl,t,rfl⟩:=ky r
 exact PySem.P.str_of_int hz ⟨.str _,H,I.tok _,⟨_,rfl⟩,q⟩
theorem Js:jg X (.builtin "divmod") (fun xs H Q=>∃ i j,xs=[.int i,.int j]/\W3 i j/\∀ p,H p=none->Q (.ref p) (upd H p (.tup [.int (i / j),.int (i % j)]))):=by
 intro pins s σ H xs us Q I r h
 obtain ⟨i,j,rfl,⟨h1,h2⟩,q⟩:=h
 obtain ⟨u,w',rfl,⟨t,rfl⟩,⟨t',rfl⟩⟩:=ZX r
 refine divmod_int (by omega) ?_ (.inl (PyProof.noPylong_small (by omega)))
 rw [Int.fdiv_eq_ediv_of_nonneg i (by omega),Int.fmod_eq_emod_of_nonneg i (by omega)]
 have hn:H s.heap.objs.size=none:=I.hok.fresh (Nat.le_refl _)
 refine ⟨.ref s.heap.objs.size,_,?_,rfl,q _ hn⟩
 refine I.laid (fun b o e=>Heap.get?_push_of_some _ e) (Nat.le_refl _) ⟨by simp only [List.length_cons,List.length_nil];rw [sizeLine_eq];decide,[.int (i / j) s.toks,.int (i % j) (s.toks+1)],.cons ⟨_,rfl⟩ (.cons ⟨_,rfl⟩ .nil),?_⟩
 exact ⟨_,Heap.get?_push_size s.heap rfl,rfl,⟨0,rfl⟩,rfl⟩
end
structure X0 (h:Heap)(x dx C:Addr)(mA:Str->Option Value):Prop where
 obj:h.get? x=some (PySem.W.instObj C dx)
 ns:h.Ns1 dx mA
 ne:dx ≠ x
theorem Wv {h:Heap}{dx:Addr}{mA:Str->Option Value}(n:h.Ns1 dx mA):∃ od,h.get? dx=some od/\∀ name,PySem.W.lookIn name od=some (mA name):=by
 obtain ⟨o,es,ep,ho,hd,hk,_,hm⟩:=n
 refine ⟨o,ho,fun name=>?_⟩
 have e:=hm name
 unfold nsFind findBy at e
 rw [<- Array.find?_toList] at e
 unfold PySem.W.lookIn
 rw [hd]
 dsimp only
 split
 ·rename_i y q
  rw [q] at e
  exact congrArg some e
 ·rename_i q
  rw [q] at e
  have a:es.toList.any (·.refKey)=false:=by
   rw [List.any_eq_false]
   intro y hy
   obtain ⟨z,t,hkey⟩:=hk y (Array.mem_toList_iff.mp hy)
   simp [DictEntry.refKey,hkey]
  have a':¬ es.toList.any (·.refKey)=true:=by rw [a];exact Bool.false_ne_true
  rw [if_neg a']
  exact congrArg some e
theorem X0.look {h:Heap}{x dx C:Addr}{mA:Str->Option Value}(I:X0 h x dx C mA):∃ od,PySem.W.InstAt h x (PySem.W.instObj C dx) C (some od)/\∀ name,PySem.W.lookIn name od=some (mA name):=
 let ⟨od,ho,hl⟩:=Wv I.ns
 ⟨od,⟨I.obj,rfl,rfl,ho⟩,hl⟩
section
variable {prog:Program}{w:World}{A:Around}{E:Value->Shared->Prop}{s:Shared}{K:PySem.W.Frag}{x dx C f:Addr}{mA:Str->Option Value}{name:Str}{v:Value}
theorem Ej {expr:Bool}{Q:Value->Shared->Prop}(X:K.In s.heap)(I:X0 s.heap x dx C mA)(hg:PySem.W.plainGet K C name=true)(hh:PySem.W.hasDictIn K C=true)
  (ha:PySem.W.findIn K (.ref C) name=some none) (hv:mA name=some v) (hv':PySem.W.handedIn v=true) (h:Q v { s with toks:=s.toks+1 }) :
  wpAny (model prog w) A (getAttr (.ref x) name expr) Q E s:=by
 obtain ⟨od,J,hl⟩:=I.look
 exact PySem.W.get_value X J (PySem.W.plainGet_of hg).1 (PySem.W.findObj_own hh ha rfl (by rw [hl,hv])) hv' h
theorem Di {pl:Sem Bool}{Q:Value × List Value->Shared->Prop}(X:K.In s.heap)(I:X0 s.heap x dx C mA)(hg:PySem.W.plainGet K C name=true)
  (hf:PySem.W.findIn K (.ref C) name=some (some (.ref f))) (ht:PySem.W.isFn K (.ref f)=true) (hv:mA name=none) (h:Q (.ref f,[.ref x]) s) :
  wpAny (model prog w) A (getMethod (.ref x) name pl) Q E s:=by
 obtain ⟨od,J,hl⟩:=I.look
 exact PySem.W.method_fn X J (PySem.W.plainGet_of hg).1 (PySem.W.plainGet_of hg).2 hf (beq_iff_eq.mp ht) (by show (PySem.W.lookIn name od).map (·.isSome)=some false;rw [hl,hv];rfl) h
theorem xH {ns:List Str}{Q:Unit->Shared->Prop}(X:K.In s.heap)(I:X0 s.heap x dx C mA)
  (hs:PySem.W.findIn K (.ref C) "__setattr__"=some (some (.builtin "object.__setattr__"))) (hp:PySem.W.plainOver K C=true) (ht:PySem.W.takerIn K C name=some none) (hh:PySem.W.hasDictIn K C=true)
  (hw:PySem.Within mA ns) (hsz:ns.length<=sizeLine)
  (h:∀ h',X0 h' x dx C (fun y=>if y=name then some v else mA y)->Heap.SameBut dx s.heap h'->Q () { s with heap:=h',toks:=s.toks+2 }) :
  wpAny (model prog w) A (setAttr (.ref x) name v) Q E s:=by
 obtain ⟨od,J,hl⟩:=I.look
 refine PySem.W.set_plain X J hs (PySem.W.osa_open (s:={ s with toks:=s.toks+1 }) (r:=none) X J hp ht fun b=>?_)
 obtain ⟨cd,hc,hd'⟩:=PySem.W.any_some hh
 have hx:s.heap.get? x=some ⟨.ref C,some dx,.plain,#[]⟩:=I.obj
 refine wpAny_bind (wpAny_pure (wpAny_bind (wpAny_bind (wpAny_loadPart hx (wpAny_bind (PySem.W.Looks.here (s:={ s with toks:=s.toks+1 }) (PySem.W.looks_clsIn X hc) ?_))))))
 rw [hd']
 refine wpAny_pure (a:=some dx) (wpAny_bind (wpAny_pure (wpAny_bind ?_)))
 refine wpAny_nsSet1 (s:={ s with toks:=s.toks+1 }) I.ns fun h' hn2 hs2=>?_
 obtain ⟨oD,esD,epD,hoD,hdD,hcD⟩:=hn2.count (PySem.Within.cons name v hw)
 refine wpAny_bind (wpAny_lookBehind hoD (by rw [hdD];exact pastItsLine_dict (Nat.le_trans hcD (by rw [List.length_cons];omega))) ?_)
 exact wpAny_pure (h _ ⟨(hs2.2 _ (Ne.symm I.ne)).trans I.obj,hn2,I.ne⟩ hs2)
theorem Bl {R:Result->Shared->Prop}{vs:List Value}{kw:List (Str × Value)}(X:K.In s.heap)(hm:PySem.W.makesIn K C=true)
  (hi:PySem.W.findIn K (.ref C) "__init__"=some (some (.ref f))) (hf:PySem.W.typeIn K (.ref f)=some (.type "function"))
  (h:codeAny (model prog w) (A.under (.builtin "type.__call__" ⟨.ref C :: vs,kw⟩)) (.call (.ref f) ⟨.ref (s.heap.objs.size+1) :: vs,kw⟩) (PySem.W.InitBack (s.heap.objs.size+1) R)
   { s with heap:=(s.heap.push PySem.W.emptyDict).push (PySem.W.instObj C s.heap.objs.size) }) :
  codeAny (model prog w) A (.call (.ref C) ⟨vs,kw⟩) R s:=by
 obtain ⟨hh,g,d,t,os⟩:=s
 exact PySem.W.make_core (PySem.W.makes_of X hm) (PySem.W.looks_findIn X hi) (fun self=>PySem.W.bind_fn X self hf) (.inl rfl) h
end
noncomputable def qE (f:Str)(v:V):List (Str × V)->List (Str × V)
 | []=>[(f,v)]
 | (g,x) :: r=>if g=f then (g,v) :: r else (g,x) :: qE f v r
theorem vq (f g:Str)(v:V):∀ fs:List (Str × V),(qE f v fs).lookup g=if g=f then some v else fs.lookup g
 | []=>by
  show List.lookup g [(f,v)]=_
  by_cases h:g=f
  ·have hb:(g == f)=true:=beq_iff_eq.mpr h
   simp only [List.lookup,hb,if_pos h]
  ·have hb:(g == f)=false:=beq_eq_false_iff_ne.mpr h
   simp only [List.lookup,hb,if_neg h]
 | (k,x) :: r=>by
  have ih:=vq f g v r
  rw [show qE f v ((k,x) :: r)=(if k=f then (k,v) :: r else (k,x) :: qE f v r) from rfl]
  by_cases hk:k=f
  ·rw [if_pos hk]
   by_cases h:g=k
   ·have hb:(g == k)=true:=beq_iff_eq.mpr h
    simp only [List.lookup,hb,if_pos (h.trans hk)]
   ·have hb:(g == k)=false:=beq_eq_false_iff_ne.mpr h
    simp only [List.lookup,hb,if_neg (fun e:g=f=>h (e.trans hk.symm))]
  ·rw [if_neg hk]
   by_cases h:g=k
   ·have hb:(g == k)=true:=beq_iff_eq.mpr h
    simp only [List.lookup,hb,if_neg (fun e:g=f=>hk (h.symm.trans e))]
   ·have hb:(g == k)=false:=beq_eq_false_iff_ne.mpr h
    simp only [List.lookup,hb]
    exact ih
theorem yV (f:Str)(v:V):∀ fs:List (Str × V),f ∈ (qE f v fs).map (·.1)/\∀ g,g ∈ fs.map (·.1)->g ∈ (qE f v fs).map (·.1)
 | []=>⟨by simp [qE],fun g h=>by simp at h⟩
 | (k,x) :: r=>by
  obtain ⟨i1,i2⟩:=yV f v r
  rw [show qE f v ((k,x) :: r)=(if k=f then (k,v) :: r else (k,x) :: qE f v r) from rfl]
  by_cases hk:k=f
  ·rw [if_pos hk]
   subst hk
   exact ⟨by simp,fun g h=>by simpa using h⟩
  ·rw [if_neg hk]
   refine ⟨?_,fun g h=>?_⟩
   ·rw [List.map_cons]
    exact List.mem_cons_of_mem _ i1
   ·rw [List.map_cons] at h ⊢
    rcases List.mem_cons.mp h with e | e
    ·exact List.mem_cons.mpr (.inl e)
    ·exact List.mem_cons_of_mem _ (i2 g e)
theorem vg (f:Str)(v:V):∀ fs:List (Str × V),(qE f v fs).length<=fs.length+1
 | []=>by simp [qE]
 | (k,x) :: r=>by
  have ih:=vg f v r
  rw [show qE f v ((k,x) :: r)=(if k=f then (k,v) :: r else (k,x) :: qE f v r) from rfl]
  by_cases hk:k=f
  ·rw [if_pos hk,List.length_cons,List.length_cons];omega
  ·rw [if_neg hk,List.length_cons,List.length_cons];omega
theorem y8.some_of {v:V}{o:Option Value}(r:y8 (some v) o):∃ u,o=some u/\zI v u:=by
 cases o with
 | none=>exact (show False from r).elim
 | some u=>exact ⟨u,rfl,r⟩
theorem y8.none_of {o:Option Value}(r:y8 none o):o=none:=by
 cases o with
 | none=>rfl
 | some u=>exact (show False from r).elim
theorem VP {v:V}{u:Value}(r:zI v u):PySem.W.handedIn u=true:=by
 cases v with
 | non=>cases (show u=Value.none from r);rfl
 | bl b=>cases (show u=Value.bool b from r);rfl
 | int i=>obtain ⟨t,e⟩:=(show ∃ t,u=Value.int i t from r);cases e;rfl
 | str x=>obtain ⟨t,e⟩:=(show ∃ t,u=Value.str x t from r);cases e;rfl
 | byt b=>obtain ⟨t,e⟩:=(show ∃ t,u=Value.bytes b t from r);cases e;rfl
 | flt b=>obtain ⟨t,e⟩:=(show ∃ t,u=Value.float b t from r);cases e;rfl
 | ref a=>cases (show u=Value.ref a from r);rfl
 | ty n=>cases (show u=Value.type n from r);rfl
section
variable {P:Program}{w:World}{H H':Hp}{h h':Heap}{a C dx:Addr}{fs fs':List (Str × V)}
theorem vR (hok:HOk P w H h)(e:H a=some (.ins C dx fs)):∃ mA,X0 h a dx C mA/\(∀ f,y8 (fs.lookup f) (mA f))/\PySem.Within mA (fs.map (·.1))/\fs.length<=1000/\H dx=some (.own a):=by
 obtain ⟨d,z,ne,ob,mA,n,r,q⟩:=(show qi P w H h a (.ins C dx fs) from hok a _ e)
 exact ⟨mA,⟨ob,n,ne⟩,r,q,z,d⟩
end
structure Cls (K:PySem.W.Frag)(C:Addr):Prop where
 pg:PySem.W.plainGet K C Str.empty=true
 hd:PySem.W.hasDictIn K C=true
 po:PySem.W.plainOver K C=true
 sa:PySem.W.findIn K (.ref C) "__setattr__"=some (some (.builtin "object.__setattr__"))
theorem Cls.get {K:PySem.W.Frag}{C:Addr}(c:Cls K C)(f:Str):PySem.W.plainGet K C f=true:=c.pg
noncomputable def kU (K:PySem.W.Frag)(C:Addr)(f:Str):Prop:=PySem.W.findIn K (.ref C) f=some none
theorem kU.taker {K:PySem.W.Frag}{C:Addr}{f:Str}(n:kU K C f):PySem.W.takerIn K C f=some none:=by
 unfold PySem.W.takerIn
 rw [show PySem.W.findIn K (.ref C) f=some none from n]
 rfl
structure Con (K:PySem.W.Frag)(C:Addr)(f:Str)(v:V)(u:Value):Prop where
 at_:PySem.W.findIn K (.ref C) f=some (some u)
 rel:zI v u
 get:PySem.W.specialIn K u "__get__"=some none
 cp:PySem.W.copiedNames.contains f=false
structure VU (K:PySem.W.Frag)(C:Addr)(m:Str)(f:Addr):Prop where
 at_:PySem.W.findIn K (.ref C) m=some (some (.ref f))
 fn:PySem.W.isFn K (.ref f)=true
 kp:PySem.W.keepIn K (.ref f)=true
section
variable {X:Cx}{pins:List (Addr × Obj)}{σ:St}{H:Hp}{s:Shared}{a C dx:Addr}{fs:List (Str × V)}{f:Str}{v:V}{A:Around}{E:Value->Shared->Prop}
theorem KJ {b:Bool}{Q:Value->Shared->Prop}(I:Inv X pins σ H s)(e:H a=some (.ins C dx fs))(c:Cls X.K C)(n:kU X.K C f)(l:fs.lookup f=some v)
  (h:∀ u s',Inv X pins σ H s'->zI v u->Q u s'):wpAny (model X.prog X.w) A (getAttr (.ref a) f b) Q E s:=by
 obtain ⟨mA,O,r,_,_,_⟩:=vR I.hok e
 obtain ⟨u,hu,ru⟩:=y8.some_of (v:=v) (o:=mA f) (by rw [<- l];exact r f)
 exact Ej I.kIn O (c.get f) c.hd n hu (VP ru) (h u _ (I.tok _) ru)
theorem ye {m:Str}{g:Addr}{pl:Sem Bool}{Q:Value × List Value->Shared->Prop}(I:Inv X pins σ H s)(e:H a=some (.ins C dx fs))(c:Cls X.K C)(k:VU X.K C m g)(l:fs.lookup m=none)
  (h:Q (.ref g,[.ref a]) s):wpAny (model X.prog X.w) A (getMethod (.ref a) m pl) Q E s:=by
 obtain ⟨mA,O,r,_,_,_⟩:=vR I.hok e
 have hn:mA m=none:=y8.none_of (by rw [<- l];exact r m)
 exact Di I.kIn O (c.get m) k.at_ k.fn hn h
theorem XW {y:V}{u:Value}{Q:Unit->Shared->Prop}(I:Inv X pins σ H s)(e:H a=some (.ins C dx fs))(c:Cls X.K C)(n:kU X.K C f)(hl:fs.length<1000)(ry:zI y u)
  (h:∀ s',Inv X pins σ (upd H a (.ins C dx (qE f y fs))) s'->Q () s'):wpAny (model X.prog X.w) A (setAttr (.ref a) f u) Q E s:=by
 obtain ⟨mA,O,r,wi,_,ho⟩:=vR I.hok e
 have hz:(fs.map (·.1)).length<=sizeLine:=by rw [List.length_map,sizeLine_eq];omega
 refine xH I.kIn O c.sa c.po n.taker c.hd wi hz fun h' O' sb=>h _ ?_
 have hd:∃ o,h'.get? dx=some o:=let ⟨o,_,_,e',_⟩:=O'.ns;⟨o,e'⟩
 refine I.write (x:=a) (e:=dx) (by rw [e];exact True.intro) (.inr ho) (fun b q hb z=>(sb.2 b hb).trans z) hd ?_
 refine ⟨by rw [zm O.ne];exact ho,?_,O.ne,O'.obj,_,O'.ns,fun g=>?_,fun g hg=>?_⟩
 ·have:=vg f y fs;omega
 ·show y8 ((qE f y fs).lookup g) (if g=f then some u else mA g)
  rw [vq]
  by_cases q:g=f
  ·rw [if_pos q,if_pos q];exact ry
  ·rw [if_neg q,if_neg q];exact r g
 ·by_cases q:g=f
  ·rw [q];exact (yV f y fs).1
  ·refine (yV f y fs).2 g (wi g fun z=>hg ?_)
   show (if g=f then some u else mA g)=none
   rw [if_neg q];exact z
theorem Inv.made (I:Inv X pins σ H s):Inv X pins σ (upd (upd H s.heap.objs.size (.own (s.heap.objs.size+1))) (s.heap.objs.size+1) (.ins C s.heap.objs.size []))
  { s with heap:=(s.heap.push PySem.W.emptyDict).push (PySem.W.instObj C s.heap.objs.size) }:=by
 have e1:(s.heap.push PySem.W.emptyDict).get? s.heap.objs.size=some PySem.W.emptyDict:=Heap.get?_push_size s.heap rfl
 have e2:((s.heap.push PySem.W.emptyDict).push (PySem.W.instObj C s.heap.objs.size)).get? (s.heap.objs.size+1)=some (PySem.W.instObj C s.heap.objs.size):=by
  have:=Heap.get?_push_size (s.heap.push PySem.W.emptyDict) (o:=PySem.W.instObj C s.heap.objs.size) rfl
  rwa [Heap.size_push] at this
 have e3:(s.heap.push PySem.W.emptyDict).Ns s.heap.objs.size (fun _=>none):=⟨PySem.W.emptyDict,#[],_,e1,rfl,(fun e he=>absurd he (by simp)),fun _=>rfl⟩
 have I1:=I.laid (a:=s.heap.objs.size) (o:=.own (s.heap.objs.size+1)) (h':=s.heap.push PySem.W.emptyDict) (t':=s.toks) (fun b u q=>Heap.get?_push_of_some _ q) (Nat.le_refl _) ⟨_,e1⟩
 refine I1.laid (a:=s.heap.objs.size+1) (o:=.ins C s.heap.objs.size []) (t':=s.toks) (fun b u q=>Heap.get?_push_of_some _ q) (Nat.le_of_eq (Heap.size_push _ _)) ?_
 have ne:s.heap.objs.size ≠ s.heap.objs.size+1:=Nat.ne_of_lt (Nat.lt_succ_self _)
 refine ⟨by rw [zm ne,zf],Nat.zero_le _,ne,e2,fun _=>none,(Heap.Ns1.of_empty e3).at fun o q=>Heap.get?_push_of_some _ q,fun _=>True.intro,fun y hy=>absurd rfl hy⟩
theorem Ep {prog:Program}{w:World}{env:Env}{e:Expr}{f:Str}{pos:Pos}{s:Shared}{Q:Value->Shared->Prop}(hb:attributeBase e f env (eval e env)=eval e env)
  (h:wpAny (model prog w) A (eval e env) (fun o s₁=>wpAny (model prog w) A (getAttr o f true) Q E s₁) E s):wpAny (model prog w) A (eval (.Attribute e f pos) env) Q E s:=
 Attribute_any_ h (by rw [arm_eval_Attribute,hb])
end
noncomputable def L9 (K:PySem.W.Frag)(ta:TE)(f:Str):TE:=fun σ H Q=>ta σ H fun x H1=>∃ a C dx fs v,x=.ref a/\H1 a=some (.ins C dx fs)/\Cls K C/\kU K C f/\fs.lookup f=some v/\Q v H1
noncomputable def L0 (K:PySem.W.Frag)(ta tv:TE)(f:Str):TS:=fun D σ H=>tv σ H fun y H1=>ta σ H1 fun x H2=>∃ a C dx fs,x=.ref a/\H2 a=some (.ins C dx fs)/\Cls K C/\kU K C f/\fs.length<1000 /\
 D.nx σ (upd H2 a (.ins C dx (qE f y fs)))
section
variable {X:Cx}{o e value:Expr}{f:Str}{pos pos' tpos:Pos}{ta tv:TE}
theorem qo (he:PE X e ta)(hb:attributeBase e f X.env (eval e X.env)=eval e X.env):PE X (.Attribute e f pos) (L9 X.K ta f):=by
 intro pins s σ H Q I h
 refine Ep hb (thn (he pins s σ H _ I h) fun u s1 ⟨x,H1,I1,rx,a,C,dx,fs,v,ex,ea,c,n,l,q⟩=>?_)
 subst ex
 obtain rfl:u=Value.ref a:=rx
 exact KJ I1 ea c n l fun u' s2 I2 ru=>⟨v,H1,I2,ru,q⟩
theorem wW (ha:PE X o ta)(hv:PE X value tv)(hs:swapsWith value (some (.Attribute o f pos')) pos.line X.env=pure false):PS X (.Assign [.Attribute o f pos'] value pos) (L0 X.K ta tv f):=by
 intro pins s σ H D I h
 refine plainObj_wpAny_Assign_Attribute (thn (hv pins s σ H _ I h) fun u s1 ⟨y,H1,I1,ry,q⟩=>thn (ha pins s1 σ H1 _ I1 q) fun ov s2 ⟨x,H2,I2,rx,a,C,dx,fs,ex,ea,c,n,l,q2⟩=>?_) hs
 subst ex
 obtain rfl:ov=Value.ref a:=rx
 exact XW I2 ea c n l ry fun s3 I3=>⟨σ,_,I3,q2⟩
theorem GR {pl:Sem Bool}{m:Str}{apos:Pos}{args:List Expr}{pins:List (Addr × Obj)}{s:Shared}{σ:St}{H:Hp}{Q:Value->Shared->Prop}{te:TE}(he:PE X e te)(I:Inv X pins σ H s)
  (h:te σ H fun x H1=>∃ a C dx fs g,x=.ref a/\H1 a=some (.ins C dx fs)/\Cls X.K C/\VU X.K C m g/\fs.lookup m=none /\
   ∀ s1,Inv X pins σ H1 s1->wpAny (model X.prog X.w) X.A (callWith pos (.ref g) [.ref a] (backTo pos (starEach args X.env)) (backToKw pos (keywordEach [] X.env))) Q X.xe s1)
  (ht:eval (.Call (.Attribute e m apos) args [] pos) X.env=(do
   let ov <- eval e X.env
   standAt apos.atName
   let (f,first) <- holding [ov] (getMethod ov m pl)
   callWith pos f first (backTo pos (starEach args X.env)) (backToKw pos (keywordEach [] X.env)))) :
  wpAny (model X.prog X.w) X.A (eval (.Call (.Attribute e m apos) args [] pos) X.env) Q X.xe s:=by
 refine PySem.W.methodCall_KW (pl:=pl) (thn (he pins s σ H _ I h) fun u s1 ⟨x,H1,I1,rx,a,C,dx,fs,g,ex,ea,c,k,l,q⟩=>?_) ht
 subst ex
 obtain rfl:u=Value.ref a:=rx
 exact ye I1 ea c k l (q s1 I1)
end
section
variable {X:Cx}{pins:List (Addr × Obj)}{σ:St}{H:Hp}{s:Shared}{A:Around}{E:Value->Shared->Prop}{Q:Value->Shared->Prop}{c:Value}{b:Bool}
inductive xa (K:PySem.W.Frag) (H:Hp):V->Value->Prop where
  | non:xa K H .non (.type "NoneType")
  | bl (x:Bool):xa K H (.bl x) (.type "bool")
  | int (i:Int):xa K H (.int i) (.type "int")
  | str (x:Str):xa K H (.str x) (.type "str")
  | flt (x:UInt64):xa K H (.flt x) (.type "float")
  | lst {a:Addr} {xs:List V} (e:H a=some (.lst xs)):xa K H (.ref a) (.type "list")
  | frz {a:Addr} {o:Obj} {xs:List V} (e:H a=some (.frz o (.lst xs))):xa K H (.ref a) (.type "list")
  | tup {a:Addr} {xs:List V} (e:H a=some (.tup xs)):xa K H (.ref a) (.type "tuple")
  | dK {a:Addr} {kvs:List (Key × V)} (e:H a=some (.dK kvs)):xa K H (.ref a) (.type "dict")
  | dT {a:Addr} {kvs:List (List Key × V)} (e:H a=some (.dT kvs)):xa K H (.ref a) (.type "dict")
  | ins {a C dx : Addr} {fs : List (Str × V)} (e : H a = some (.ins C dx fs)) (cl : Cls K C) (ha : PySem.W.findIn K (.ref C) "__class__" = some (some (.builtin "object.__class__")))
      (hn:PySem.W.specialIn K (.builtin "object.__class__") "__get__"=some (some (.builtin "getset_descriptor.__get__"))) (htk:PySem.W.takesIn K (.builtin "object.__class__")=some true)
      (hm:PySem.W.mroIn K C (.type "object")=some true):xa K H (.ref a) (.ref C)
theorem VD {x:V}{u t:Value}(I:Inv X pins σ H s)(rx:zI x u)(ty:xa X.K H x t)(e:PySem.W.kitOne X.K t c=some b)(h:∀ tk,Q (.bool b) { s with toks:=tk }) :
  wpAny (model X.prog X.w) A (call (.builtin "isinstance") [u,c]) Q E s:=by
 cases ty with
 | non=>cases (show u=Value.none from rx);exact PySem.W.kia_one PySem.W.kitx_none I.kIn True.intro e (fun z=>nomatch z) h
 | bl y=>cases (show u=Value.bool y from rx);exact PySem.W.kia_one PySem.W.kitx_bool I.kIn True.intro e (fun z=>nomatch z) h
 | int i=>obtain ⟨t,q⟩:=(show ∃ t,u=Value.int i t from rx);cases q;exact PySem.W.kia_one PySem.W.kitx_int I.kIn True.intro e (fun z=>nomatch z) h
 | str y=>obtain ⟨t,q⟩:=(show ∃ t,u=Value.str y t from rx);cases q;exact PySem.W.kia_one PySem.W.kitx_str I.kIn True.intro e (fun z=>nomatch z) h
 | flt y=>obtain ⟨t,q⟩:=(show ∃ t,u=Value.float y t from rx);cases q;exact PySem.W.kia_one PySem.W.kitx_float I.kIn True.intro e (fun z=>nomatch z) h
 | @lst a xs ea=>
  cases (show u=Value.ref a from rx)
  obtain ⟨_,_,n,_,h1⟩:=(show qi X.prog X.w H s.heap a (.lst xs) from I.hok a _ ea)
  exact PySem.W.kia_one PySem.W.kitx_list I.kIn ⟨_,h1,rfl⟩ e (fun z=>nomatch z) h
 | @frz a ob xs ea=>
  cases (show u=Value.ref a from rx)
  obtain ⟨_,_,_,n,_,h1⟩:=(show qi X.prog X.w H s.heap a (.frz ob (.lst xs)) from I.hok a _ ea)
  exact PySem.W.kia_one PySem.W.kitx_list I.kIn ⟨_,h1,rfl⟩ e (fun z=>nomatch z) h
 | @tup a xs ea=>
  cases (show u=Value.ref a from rx)
  obtain ⟨_,_,_,p⟩:=(show qi X.prog X.w H s.heap a (.tup xs) from I.hok a _ ea)
  obtain ⟨o,h1,h2,_⟩:=p
  exact PySem.W.kia_one PySem.W.kitx_tuple I.kIn ⟨o,h1,h2⟩ e (fun z=>nomatch z) h
 | @dK a kvs ea=>
  cases (show u=Value.ref a from rx)
  obtain ⟨_,_,vs,_,p⟩:=(show qi X.prog X.w H s.heap a (.dK kvs) from I.hok a _ ea)
  obtain ⟨o,es,ep,h1,h2,_⟩:=p
  exact PySem.W.kia_one PySem.W.kitx_dict I.kIn ⟨o,h1,h2.1⟩ e (fun z=>nomatch z) h
 | @dT a kvs ea=>
  cases (show u=Value.ref a from rx)
  obtain ⟨_,_,xs,_,o,es,ep,h1,h2,_⟩:=(show qi X.prog X.w H s.heap a (.dT kvs) from I.hok a _ ea)
  exact PySem.W.kia_one PySem.W.kitx_dict I.kIn ⟨o,h1,h2.1⟩ e (fun z=>nomatch z) h
 | @ins a C dx fs ea cl ha hn htk hm=>
  cases (show u=Value.ref a from rx)
  obtain ⟨mA,O,_⟩:=vR I.hok ea
  obtain ⟨od,J,_⟩:=O.look
  exact PySem.W.kia_one (PySem.W.kitx_own (cl.get _) cl.hd ha hn htk hm) I.kIn J e (fun z=>nomatch z) h
end
structure qJ (k:Nat)(A:Around):Prop where
 hd:A.handled=none
 gd:A.guards=some []
 dp:A.depth+3 * k+5<recursionLimit
 un:A.units+16 * k+200<cLine
theorem qJ.mono {j k:Nat}{A:Around}(r:qJ k A)(h:j<=k):qJ j A:=⟨r.hd,r.gd,by have:=r.dp;omega,by have:=r.un;omega⟩
theorem qJ.deeper {k:Nat}{A:Around}(r:qJ (k+1) A)(env:Env):qJ k (A.deeper env):=
 ⟨r.hd,r.gd,by have:=r.dp;show A.depth+1+3 * k+5<_;omega,by have:=r.un;show A.units+3+16 * k+200<_;omega⟩
theorem X3 {A:Around}{C:Addr}{us:List Value}{kw:List (Str × Value)}:(A.under (.builtin "type.__call__" ⟨.ref C :: us,kw⟩)).depth=A.depth+1:=by
 first | rfl | simp [Around.under,Code.weight,Code.isCreation,Code.isGuard,Code.isCaller,Code.frames,Code.isFrame,guardIds]
theorem Xa {A:Around}{C:Addr}{us:List Value}{kw:List (Str × Value)}:(A.under (.builtin "type.__call__" ⟨.ref C :: us,kw⟩)).units=A.units+1:=by
 first | rfl | simp [Around.under,Code.cUnits,Code.frames,Code.isFrame]
theorem J8 {A:Around}{C:Addr}{us:List Value}{kw:List (Str × Value)}:(A.under (.builtin "type.__call__" ⟨.ref C :: us,kw⟩)).guards=A.guards:=by
 first | rfl | (simp [Around.under,Code.guards,pushGuards,Code.isGuard,guardIds])
theorem qJ.make {k:Nat}{A:Around}(r:qJ (k+1) A)(C:Addr)(us:List Value)(kw:List (Str × Value)):qJ k (A.under (.builtin "type.__call__" ⟨.ref C :: us,kw⟩)):=
 ⟨r.hd,(J8).trans r.gd,by have:=r.dp;rw [X3];omega,by have:=r.un;rw [Xa];omega⟩
theorem qJ.depth {k:Nat}{A:Around}(r:qJ k A):A.depth<recursionLimit:=by have:=r.dp;omega
theorem qJ.units {k:Nat}{A:Around}(r:qJ k A):A.units+64<cLine:=by have:=r.un;omega
noncomputable def AN:TA:=fun _ H Q=>Q [] H
noncomputable def BP (ta:TE)(tr:TA):TA:=fun σ H Q=>ta σ H fun x H1=>tr σ H1 fun xs H2=>Q (x :: xs) H2
section
variable {X:Cx}{e:Expr}{es:List Expr}{te:TE}{t:TA}{pos:Pos}
theorem zb:PA X [] AN:=fun _ _ _ _ H Q I h=>Calls.spliced_nil ⟨[],H,I,.nil,h⟩
theorem za (ha:PE X e te)(hr:PA X es t)(hs:starEach (e :: es) X.env=(false,eval e X.env) :: starEach es X.env:=by rfl):PA X (e :: es) (BP te t):=by
 intro pos pins s σ H Q I h
 rw [hs]
 show wpAny _ _ (spliced ((false,eval e X.env) :: backTo pos (starEach es X.env))) _ _ s
 refine Calls.spliced_cons (thn (ha pins s σ H _ I h) fun u s1 ⟨x,H1,I1,r1,q1⟩=>?_)
 exact thn (hr pos pins s1 σ H1 _ I1 q1) fun us s2 ⟨xs,H2,I2,r2,q2⟩=>⟨x :: xs,H2,I2,.cons r1 r2,q2⟩
noncomputable def Gu (t:TA):TE:=fun σ H Q=>t σ H fun xs H1=>xs.length<=sizeLine/\∀ p,H1 p=none->Q (.ref p) (upd H1 p (.tup xs))
noncomputable def HG (t:TA):TE:=fun σ H Q=>t σ H fun xs H1=>xs.length<=sizeLine/\∀ p,H1 p=none->Q (.ref p) (upd H1 p (.lst xs))
theorem jl {x1}(h:PA X es t):PE X (.Tuple es x1 pos) (Gu t):=by
 intro pins s σ H Q I hq
 refine wpAny_Tuple_spliced (thn (h pos pins s σ H _ I hq) fun us s1 ⟨xs,H1,I1,r,z,q⟩=>⟨by rw [<- r.length];exact z,?_⟩)
 have hf:H1 s1.heap.objs.size=none:=I1.hok.fresh (Nat.le_refl _)
 refine ⟨.ref s1.heap.objs.size,upd H1 s1.heap.objs.size (.tup xs),I1.laid (t':=s1.toks) (fun b u e=>Heap.get?_push_of_some _ e) (Nat.le_refl _) ?_,rfl,q _ hf⟩
 exact ⟨z,us,r,⟨_,Heap.get?_push_size _ rfl,rfl,⟨_,rfl⟩,rfl⟩⟩
theorem qF (h:PA X es t):PE X (.List es pos) (HG t):=by
 intro pins s σ H Q I hq
 refine wpAny_List_spliced (thn (h pos pins s σ H _ I hq) fun us s1 ⟨xs,H1,I1,r,z,q⟩=>⟨by rw [<- r.length];exact z,?_⟩)
 have hf:H1 s1.heap.objs.size=none:=I1.hok.fresh (Nat.le_refl _)
 refine ⟨.ref s1.heap.objs.size,upd H1 s1.heap.objs.size (.lst xs),I1.laid (t':=s1.toks) (fun b u e=>Heap.get?_push_of_some _ e) (Nat.le_refl _) ?_,rfl,q _ hf⟩
 exact ⟨z,us,0,r,Heap.get?_push_size _ rfl⟩
end
noncomputable abbrev Sp:=List V->Hp->VK->XK->Prop
noncomputable abbrev CXT:=List Env->Hp->Shared->XK->Value->Shared->Prop
structure XJ (P:Program)(w:World)(K:PySem.W.Frag)(mg:Str->Option Value)(base:Heap)(A:Around)(outer:List Env)(s:Shared)(H:Hp):Prop where
 frames:A.frames=some outer
 mod:Mod K mg base
 bs:∀ b o,base.get? b=some o->s.heap.get? b=some o/\H b=none
 bsz:base.objs.size<=s.heap.objs.size
 funs:s.heap.FunFrames base outer
 frf:∀ b ∈ frs outer,H b=none
 hok:HOk P w H s.heap
 bare:AllBare s.gens
noncomputable def CE (outer:List Env)(P:Program)(w:World)(H:Hp)(s:Shared)(Q:VK)(u:Value)(s':Shared):Prop:=
 ∃ v H',s'.os=s.os/\AllBare s'.gens/\Un (frs outer) [] H H' s.heap s'.heap/\HOk P w H' s'.heap/\zI v u/\Q v H'
noncomputable def CR (CX:CXT)(outer:List Env)(P:Program)(w:World)(H:Hp)(s:Shared)(Q:VK)(E:XK)(r:Result)(s':Shared):Prop:=
 match r with
 | .ok (.ret u)=>CE outer P w H s Q u s'
 | .ok _=>False
 | .error e=>CX outer H s E e s'
structure jH (P:Program)(w:World)(K:PySem.W.Frag)(mg:Str->Option Value)(base:Heap)(CX:CXT)(k:Nat)(f:Addr)(fd:FuncData)(ps:List Str)(sp:Sp):Prop where
 len:∀ vs H Q E,sp vs H Q E->vs.length=ps.length
 run:∀ (A:Around) (outer:List Env) (s:Shared) (H:Hp) (args:Args) (us:List Value) (vs:List V) (Q:VK) (E:XK),qJ k A->XJ P w K mg base A outer s H->BindsTo s fd args (ps.zip us)->zH vs us->sp vs H Q E ->
  codeAny (model P w) A (.call (.ref f) args) (CR CX outer P w H s Q E) s
theorem jH.mono {P:Program}{w:World}{K:PySem.W.Frag}{mg:Str->Option Value}{base:Heap}{CX:CXT}{j k:Nat}{f:Addr}{fd:FuncData}{ps:List Str}{sp:Sp}(F:jH P w K mg base CX j f fd ps sp)(h:j<=k) :
  jH P w K mg base CX k f fd ps sp:=⟨F.len,fun A outer s H args us vs Q E hr=>F.run A outer s H args us vs Q E (hr.mono h)⟩
theorem jH.imp {P:Program}{w:World}{K:PySem.W.Frag}{mg:Str->Option Value}{base:Heap}{CX:CXT}{k:Nat}{f:Addr}{fd:FuncData}{ps:List Str}{sp sp':Sp}(F:jH P w K mg base CX k f fd ps sp)
  (h:∀ vs H Q E,sp' vs H Q E->sp vs H Q E):jH P w K mg base CX k f fd ps sp':=
 ⟨fun vs H Q E q=>F.len vs H Q E (h _ _ _ _ q),fun A outer s H args us vs Q E hr he hb hv hs=>F.run A outer s H args us vs Q E hr he hb hv (h _ _ _ _ hs)⟩
theorem XJ.make {P:Program}{w:World}{K:PySem.W.Frag}{mg:Str->Option Value}{base:Heap}{A:Around}{outer:List Env}{s:Shared}{H:Hp}(e:XJ P w K mg base A outer s H)(C:Addr)(us:List Value)(kw:List (Str × Value)) :
  XJ P w K mg base (A.under (.builtin "type.__call__" ⟨.ref C :: us,kw⟩)) outer s H:=⟨by first | exact e.frames | (simpa [Around.under,Code.envs,Code.isFrame,pushEnvs] using e.frames),e.mod,e.bs,e.bsz,e.funs,e.frf,e.hok,e.bare⟩
section
variable {X:Cx}{pins:List (Addr × Obj)}{σ:St}{H:Hp}{s s':Shared}
theorem Inv.env0 (I:Inv X pins σ H s):XJ X.prog X.w X.K X.mg X.base X.A X.stack s H:=
 ⟨I.ok.frames,I.ok.mod,I.bs,Nat.le_trans I.ok.bsz I.sz,I.stack,I.stkFree,I.hok,I.bare⟩
theorem Inv.after {Q:VK}{u:Value}(I:Inv X pins σ H s)(h:CE X.stack X.prog X.w H s Q u s'):EP X pins σ Q u s':=by
 obtain ⟨v,H',os,bare,un,hok,r,q⟩:=h
 obtain ⟨hh,g,d,t,os'⟩:=s'
 obtain rfl:os'=s.os:=os
 exact ⟨v,H',I.call (h':=hh) (g':=g) (d':=d) (t':=t) (ch:=[]) un hok bare (fun b z=>absurd z (by simp)),r,q⟩
end
noncomputable def Ye (sp:Sp)(dvs:List V)(E:XK)(t:TA):TE:=fun σ H Q=>t σ H fun vs H1=>sp (vs ++ dvs) H1 Q E
noncomputable def JP (C:Addr)(m:Str)(sp:Sp)(dvs:List V)(E:XK)(ta:TE)(t:TA):TE:=fun σ H Q=>ta σ H fun x H1=>∃ a dx fs,x=.ref a/\H1 a=some (.ins C dx fs)/\fs.lookup m=none /\
 t σ H1 fun vs H2=>sp (x :: (vs ++ dvs)) H2 Q E
noncomputable def A5 (C:Addr)(sp:Sp)(dvs:List V)(E:XK)(t:TA):TE:=fun σ H Q=>t σ H fun vs H1=>∀ x dx,H1 x=none->H1 dx=none->dx ≠ x ->
 sp (.ref x :: (vs ++ dvs)) (upd (upd H1 dx (.own x)) x (.ins C dx [])) (fun v H2=>v=.non/\Q (.ref x) H2) E
noncomputable def j4 (K:PySem.W.Frag)(fd:FuncData)(ps:List Str)(ds:List Value):Prop:=
 ∀ (s:Shared) (us:List Value),K.In s.heap->(us ++ ds).length=ps.length->BindsTo s fd ⟨us,[]⟩ (ps.zip (us ++ ds))
theorem j4.all {K:PySem.W.Frag}{fd:FuncData}{ps:List Str}(h:∀ us:List Value,us.length=ps.length->bindArgs fd ⟨us,[]⟩=pure (ps.zip us)):j4 K fd ps []:=fun s us _ hl=>by
 rw [List.append_nil] at hl ⊢
 exact .of_eq (h us hl)
noncomputable def xE (CX:CXT)(X:Cx)(E:XK):Prop:=∀ (pins:List (Addr × Obj)) (σ:St) (H:Hp) (s:Shared) (e:Value) (s':Shared),Inv X pins σ H s->CX X.stack H s E e s'->X.xe e s'
section
variable {X:Cx}{CX:CXT}{k:Nat}{f C:Addr}{fd:FuncData}{ps:List Str}{sp:Sp}{dvs:List V}{ds:List Value}{E:XK}{x m:Str}{p pos apos:Pos}{e o:Expr}{es:List Expr}{ta:TE}{t:TA}
theorem X2 {pins:List (Addr × Obj)}{σ:St}{H:Hp}{s:Shared}{Q:VK}{us:List Value}{vs:List V}(F:jH X.prog X.w X.K X.mg X.base CX k f fd ps sp)(hr:qJ k X.A)(hb:j4 X.K fd ps ds)(hd:zH dvs ds)(hx:xE CX X E)
  (I:Inv X pins σ H s) (r:zH vs us) (h:sp (vs ++ dvs) H Q E):wpAny (model X.prog X.w) X.A (call (.ref f) us) (EP X pins σ Q) X.xe s:=by
 have r2:zH (vs ++ dvs) (us ++ ds):=r.append hd
 have hl:(us ++ ds).length=ps.length:=by rw [<- r2.length];exact F.len _ _ _ _ h
 refine wpAny_call (codeAny_mono (F.run X.A X.stack s H ⟨us,[]⟩ (us ++ ds) (vs ++ dvs) Q E hr I.env0 (hb s us I.kIn hl) r2 h) fun r s' hq=>?_)
 cases r with
 | error e=>exact hx pins σ H s e s' I hq
 | ok fl=>
  cases fl with
  | ret u=>exact I.after hq
  | next=>exact False.elim hq
  | brk=>exact False.elim hq
  | cont=>exact False.elim hq
theorem FY (F:jH X.prog X.w X.K X.mg X.base CX k f fd ps sp)(hr:qJ k X.A)(hg:Gl X x)(hm:X.mg x=some (.ref f))(hk:PySem.W.keepIn X.K (.ref f)=true)(hb:j4 X.K fd ps ds)(hd:zH dvs ds)(hx:xE CX X E)
  (ha:PA X (e :: es) t) (hdb:(x == ("__debug__":Str))=false:=by decide) (he:starEach (e :: es) X.env=(false,eval e X.env) :: starEach es X.env:=by rfl) (hpl:(backTo pos (starEach es X.env)).any (·.1)=false:=by rfl) :
  PE X (.Call (.Name x p) (e :: es) [] pos) (Ye sp dvs E t):=by
 intro pins s σ H Q I h
 refine wpAny_Call_Name_kw (yC I hg hm ?_ hdb)
 refine PySem.W.callWith_K (h₀:=X.base) I.ok.mod.kin hk (thn (ha pos pins s σ H _ I h) fun us s1 ⟨vs,H1,I1,r,q⟩=>⟨I1.kIn,?_⟩) he hpl
 exact X2 F hr hb hd hx I1 r q
theorem Fa {pl:Sem Bool}(he:PE X o ta)(c:Cls X.K C)(hm:VU X.K C m f)(F:jH X.prog X.w X.K X.mg X.base CX k f fd ps sp)(hr:qJ k X.A)(hb:j4 X.K fd ps ds)(hd:zH dvs ds)(hx:xE CX X E)(ha:PA X (e :: es) t)
  (hst:starEach (e :: es) X.env=(false,eval e X.env) :: starEach es X.env:=by rfl) (hpl:(backTo pos (starEach es X.env)).any (·.1)=false:=by rfl)
  (ht:eval (.Call (.Attribute o m apos) (e :: es) [] pos) X.env=(do
   let ov <- eval o X.env
   standAt apos.atName
   let (f,first) <- holding [ov] (getMethod ov m pl)
   callWith pos f first (backTo pos (starEach (e :: es) X.env)) (backToKw pos (keywordEach [] X.env))):=by rfl) :
  PE X (.Call (.Attribute o m apos) (e :: es) [] pos) (JP C m sp dvs E ta t):=by
 intro pins s σ H Q I h
 refine PySem.W.methodCall_KW (pl:=pl) (thn (he pins s σ H _ I h) fun u s1 ⟨x,H1,I1,rx,a,dx,fs,ex,ea,l,q⟩=>?_) ht
 subst ex
 obtain rfl:u=Value.ref a:=rx
 refine ye I1 ea c hm l ?_
 refine PySem.W.callWith_K (first:=[.ref a]) (h₀:=X.base) I.ok.mod.kin hm.kp (thn (ha pos pins s1 σ H1 _ I1 q) fun us s2 ⟨vs,H2,I2,r,q2⟩=>⟨I2.kIn,?_⟩) hst hpl
 exact X2 (us:=.ref a :: us) (vs:=.ref a :: vs) F hr hb hd hx I2 (.cons rfl r) q2
theorem B3 {pl:Sem Bool}(he:PE X o ta)(c:Cls X.K C)(hm:VU X.K C m f)(F:jH X.prog X.w X.K X.mg X.base CX k f fd ps sp)(hr:qJ k X.A)(hb:j4 X.K fd ps ds)(hd:zH dvs ds)(hx:xE CX X E)
  (ht:eval (.Call (.Attribute o m apos) [] [] pos) X.env=(do
   let ov <- eval o X.env
   standAt apos.atName
   let (f,first) <- holding [ov] (getMethod ov m pl)
   callWith pos f first (backTo pos (starEach [] X.env)) (backToKw pos (keywordEach [] X.env))):=by rfl) :
  PE X (.Call (.Attribute o m apos) [] [] pos) (JP C m sp dvs E ta AN):=by
 intro pins s σ H Q I h
 refine PySem.W.methodCall_KW (pl:=pl) (thn (he pins s σ H _ I h) fun u s1 ⟨x,H1,I1,rx,a,dx,fs,ex,ea,l,q⟩=>?_) ht
 subst ex
 obtain rfl:u=Value.ref a:=rx
 refine ye I1 ea c hm l ?_
 exact PySem.W.callWith_K0 (first:=[.ref a]) I1.kIn hm.kp (X2 (us:=[.ref a]) (vs:=[.ref a]) F hr hb hd hx I1 (.cons rfl .nil) q)
structure Mk (K:PySem.W.Frag)(C f:Addr):Prop where
 makes:PySem.W.makesIn K C=true
 init:PySem.W.findIn K (.ref C) "__init__"=some (some (.ref f))
 fn:PySem.W.isFn K (.ref f)=true
 kp:PySem.W.keepIn K (.ref C)=true
theorem Eb {pins:List (Addr × Obj)}{σ:St}{H:Hp}{s:Shared}{Q:VK}{us:List Value}{vs:List V}(M:Mk X.K C f)(F:jH X.prog X.w X.K X.mg X.base CX k f fd ps sp)(hr:qJ (k+1) X.A)(hb:j4 X.K fd ps ds)(hd:zH dvs ds)
  (hx:xE CX X E) (I:Inv X pins σ H s) (r:zH vs us)
  (h:∀ x dx,H x=none->H dx=none->dx ≠ x->sp (.ref x :: (vs ++ dvs)) (upd (upd H dx (.own x)) x (.ins C dx [])) (fun v H2=>v=.non/\Q (.ref x) H2) E) :
  wpAny (model X.prog X.w) X.A (call (.ref C) us) (EP X pins σ Q) X.xe s:=by
 have hq:=h (s.heap.objs.size+1) s.heap.objs.size (I.hok.fresh (Nat.le_succ _)) (I.hok.fresh (Nat.le_refl _)) (Nat.ne_of_lt (Nat.lt_succ_self _))
 have I2:=Inv.made (C:=C) I
 have r2:zH (V.ref (s.heap.objs.size+1) :: (vs ++ dvs)) (Value.ref (s.heap.objs.size+1) :: (us ++ ds)):=.cons rfl (r.append hd)
 have hl:(Value.ref (s.heap.objs.size+1) :: us ++ ds).length=ps.length:=by
  have e:=r2.length
  rw [F.len _ _ _ _ hq] at e
  exact e.symm
 refine wpAny_call (Bl (f:=f) I.kIn M.makes M.init (beq_iff_eq.mp M.fn) (codeAny_mono (F.run _ X.stack _ _ ⟨Value.ref (s.heap.objs.size+1) :: us,[]⟩ (Value.ref (s.heap.objs.size+1) :: (us ++ ds)) _ _ E (hr.make C us [])
  (I2.env0.make C us []) (hb _ (Value.ref (s.heap.objs.size+1) :: us) I2.kIn hl) r2 hq) fun r s' hq'=>?_))
 cases r with
 | error e=>exact hx pins σ _ _ e s' I2 hq'
 | ok fl=>
  cases fl with
  | ret u=>
   obtain ⟨v,H',I3,rv,ev,q3⟩:=I2.after hq'
   subst ev
   exact ⟨rv,⟨V.ref (s.heap.objs.size+1),H',I3,rfl,q3⟩⟩
  | next=>exact False.elim hq'
  | brk=>exact False.elim hq'
  | cont=>exact False.elim hq'
theorem FK (M:Mk X.K C f)(F:jH X.prog X.w X.K X.mg X.base CX k f fd ps sp)(hr:qJ (k+1) X.A)(hg:Gl X x)(hm:X.mg x=some (.ref C))(hb:j4 X.K fd ps ds)(hd:zH dvs ds)(hx:xE CX X E)
  (ha:PA X (e :: es) t) (hdb:(x == ("__debug__":Str))=false:=by decide) (he:starEach (e :: es) X.env=(false,eval e X.env) :: starEach es X.env:=by rfl) (hpl:(backTo pos (starEach es X.env)).any (·.1)=false:=by rfl) :
  PE X (.Call (.Name x p) (e :: es) [] pos) (A5 C sp dvs E t):=by
 intro pins s σ H Q I h
 refine wpAny_Call_Name_kw (yC I hg hm ?_ hdb)
 refine PySem.W.callWith_K (h₀:=X.base) I.ok.mod.kin M.kp (thn (ha pos pins s σ H _ I h) fun us s1 ⟨vs,H1,I1,r,q⟩=>⟨I1.kIn,?_⟩) he hpl
 exact Eb M F hr hb hd hx I1 r q
end
section
variable {X:Cx}{CX:CXT}{k:Nat}{f C:Addr}{fd:FuncData}{ps ks:List Str}{sp:Sp}{E:XK}{x m:Str}{p pos apos kpos:Pos}{e o:Expr}{es:List Expr}{kws:List Keyword}{te ta:TE}{t tk:TA}{nm:Option Str}
structure MV (K:PySem.W.Frag)(fd:FuncData)(ps ks:List Str)(g:List Value->List Value->List Value)(gV:List V->List V->List V):Prop where
 to:∀ (s:Shared) (us ws:List Value),K.In s.heap->(g us ws).length=ps.length->BindsTo s fd ⟨us,ks.zip ws⟩ (ps.zip (g us ws))
 rel:∀ {vs:List V} {us:List Value} {zs:List V} {ws:List Value},zH vs us->zH zs ws->zH (gV vs zs) (g us ws)
variable {g:List Value->List Value->List Value}{gV:List V->List V->List V}
end
structure zo (N P:List Str)(sc:Scope):Prop where
 kind:sc.kind=.function
 co:sc.isCoroutine=false
 gen:sc.isGenerator=false
 nd:N.Nodup
 pre:N.take P.length=P
 par:∀ x ∈ P,sc.names.lookup x=some .local \/ sc.names.lookup x=some .cell
 nofree:∀ y ∈ sc.names,y.2 ≠ .free
theorem ZP {kindOf:Str->Option NameKind}{x:Str}:∀ {binds:List (Str × Value)} {m:Str->Option Value},(∀ v,(x,v) ∉ binds)->bindL kindOf binds m x=m x
 | [],_,_=>rfl
 | (n,v) :: r,m,h=>by
  unfold bindL
  rw [ZP fun w hw=>h w (List.mem_cons_of_mem _ hw)]
  split
  ·have:x ≠ n:=by rintro rfl;exact h v List.mem_cons_self
   simp [this]
  ·rfl
theorem ZH {kindOf:Str->Option NameKind}{x:Str}:∀ {binds:List (Str × Value)} {m:Str->Option Value},(∀ v,(x,v) ∉ binds)->bindC kindOf binds m x=m x
 | [],_,_=>rfl
 | (n,v) :: r,m,h=>by
  unfold bindC
  rw [ZH fun w hw=>h w (List.mem_cons_of_mem _ hw)]
  split
  ·rfl
  ·have:x ≠ n:=by rintro rfl;exact h v List.mem_cons_self
   simp [this]
theorem Zz {kindOf:Str->Option NameKind}{x:Str}{v:Value}:∀ {P:List Str} {vs:List Value} {i:Nat} {m:Str->Option Value},P.Nodup->P[i]?=some x->vs[i]?=some v->kindOf x=some .local ->
  bindL kindOf (P.zip vs) m x=some v
 | [],_,_,_,_,h,_,_=>by simp at h
 | _ :: _,[],_,_,_,_,h,_=>by simp at h
 | p :: P,w :: vs,0,m,nd,h1,h2,hk=>by
  simp at h1 h2;subst h1;subst h2
  show bindL kindOf ((p,w) :: P.zip vs) m p=_
  unfold bindL
  rw [ZP fun v hv=>(List.nodup_cons.mp nd).1 (List.of_mem_zip hv).1,if_pos hk]
  simp
 | p :: P,w :: vs,i+1,m,nd,h1,h2,hk=>by
  show bindL kindOf ((p,w) :: P.zip vs) m x=_
  unfold bindL
  exact Zz (i:=i) (List.nodup_cons.mp nd).2 (by simpa using h1) (by simpa using h2) hk
theorem ZG {kindOf:Str->Option NameKind}{x:Str}{v:Value}:∀ {P:List Str} {vs:List Value} {i:Nat} {m:Str->Option Value},P.Nodup->P[i]?=some x->vs[i]?=some v->kindOf x ≠ some .local ->
  bindC kindOf (P.zip vs) m x=some v
 | [],_,_,_,_,h,_,_=>by simp at h
 | _ :: _,[],_,_,_,_,h,_=>by simp at h
 | p :: P,w :: vs,0,m,nd,h1,h2,hk=>by
  simp at h1 h2;subst h1;subst h2
  show bindC kindOf ((p,w) :: P.zip vs) m p=_
  unfold bindC
  rw [ZH fun v hv=>(List.nodup_cons.mp nd).1 (List.of_mem_zip hv).1,if_neg hk]
  simp
 | p :: P,w :: vs,i+1,m,nd,h1,h2,hk=>by
  show bindC kindOf ((p,w) :: P.zip vs) m x=_
  unfold bindC
  exact ZG (i:=i) (List.nodup_cons.mp nd).2 (by simpa using h1) (by simpa using h2) hk
noncomputable def start (N:List Str)(vs:List V):St:=vs.map some ++ List.replicate (N.length - vs.length) none
noncomputable def ym (CX:CXT)(P:Program)(w:World)(K:PySem.W.Frag)(mg:Str->Option Value)(base:Heap)(N:List Str)(qual:Str)(scope:Scope)(f:Addr)(cd:Value)(A:Around)(outer:List Env)(s:Shared)(H:Hp)(E:XK):Cx where
 prog:=P
 w:=w
 K:=K
 mg:=mg
 base:=base
 A:=A.deeper (envOfC qual scope s.heap.objs.size f cd)
 N:=N
 s₀:=s
 H₀:=H
 env:=envOfC qual scope s.heap.objs.size f cd
 outer:=outer
 stack:=envOfC qual scope s.heap.objs.size f cd :: outer
 ex:=[]
 calm:=true
 fn:=fun _=>true
 pn:=[]
 xe:=fun e s'=>wpAny (model P w) (A.deeper (envOfC qual scope s.heap.objs.size f cd)) (leaving (envOfC qual scope s.heap.objs.size f cd) e) (fun _ s''=>CX outer H s E e s'') (fun e' s''=>CX outer H s E e' s'') s'
theorem Kj {sc:Scope}{n:Nat}{x:Str}(h:sc.names.lookup x=some .cell):∃ c,(cellsFrom n sc.names []).lookup x=some c:=by
 have q:=PySem.W.cellsFrom_some sc.names n [] (.inl h)
 exact Option.isSome_iff_exists.mp q
theorem WE {CX : CXT}{P : Program}{w : World}{K : PySem.W.Frag}{mg : Str -> Option Value}{base : Heap}{N ps : List Str}{qual : Str}{scope : Scope}{f : Addr}{cd : Value}{A : Around}{outer : List Env}{s s1 : Shared}{H : Hp}{E : XK}{us : List Value}{vs : List V}
    (S:zo N ps scope) (hd:A.handled=none) (e0:XJ P w K mg base A outer s H) (hl:vs.length=ps.length) (r:zH vs us)
    (x:InCallC s s.heap.objs.size (bindL (envOfC qual scope s.heap.objs.size f cd).kindOf (ps.zip us) fun _=>none) (cellsFrom (s.heap.objs.size+1) scope.names []) (bindC (envOfC qual scope s.heap.objs.size f cd).kindOf (ps.zip us) fun _=>none) s1) :
    Inv (ym CX P w K mg base N qual scope f cd A outer s H E) [] (start N vs) H s1:=by
  have hpl:ps.length<=N.length:=by have:=congrArg List.length S.pre;rw [List.length_take] at this;omega
  obtain ⟨h1,tk,rfl,hk⟩:=x.done
  have noA:∀ b:Addr,b ∉ (ym CX P w K mg base N qual scope f cd A outer s H E).ex:=fun b z=>absurd (show b ∈ ([]:List Addr) from z) (by simp)
  refine ⟨⟨e0.mod,S.kind,rfl,rfl,Nat.le_refl _,fun y z c h1 h2=>?_,fun y hy=>?_,fun y c _ h=>?_,fun _=>hd,Around.frames_deeper e0.frames,.inr ⟨rfl,rfl⟩,fun b z=>absurd z (noA b),e0.bs,e0.bsz,fun b _ _=>noA b,fun b z=>absurd z (noA b),e0.funs,e0.frf⟩,
    rfl,e0.bare,Un.kept hk,⟨_,x.toInCall.ns,fun i y v h1 h2 h3=>?_⟩,fun y c h=>⟨_,x.cell y c h⟩,e0.hok.fresh (Nat.le_refl _),fun y c h=>?_,fun p hp=>absurd (show p ∈ ([]:List (Addr × Obj)) from hp) (by simp),e0.hok.kept hk,?_⟩
  · exact name_of_addr x.apart (PySem.mem_of_lookup h1) (PySem.mem_of_lookup h2)
  · have hy:scope.names.lookup y=some .cell \/ scope.names.lookup y=some .free:=hy
    rcases hy with hy | hy
    · exact Kj hy
    · exact absurd rfl (S.nofree _ (PySem.mem_of_lookup hy))
  · exact Nat.le_of_lt (x.above y c (PySem.mem_of_lookup h))
  · have hi : i < vs.length := by
      unfold start at h2
      by_cases hi:i<vs.length
      · exact hi
      · rw [List.getElem?_append_right (by simpa using hi)] at h2
        rw [List.getElem?_replicate] at h2
        split at h2 <;> cases h2
    have ha:vs[i]?=some v:=by
      unfold start at h2
      rw [List.getElem?_append_left (by simpa using hi),List.getElem?_map] at h2
      cases e:vs[i]? with
      | none=>rw [e] at h2;cases h2
      | some a=>rw [e] at h2;cases h2;rfl
    obtain ⟨u,hu,rv⟩:=r.get ha
    have hp:ps[i]?=some y:=by
      rw [<- S.pre,List.getElem?_take_of_lt (by omega)];exact h1
    have ndP:ps.Nodup:=by rw [<- S.pre];exact S.nd.sublist (List.take_sublist _ _)
    refine ⟨u,rv,?_⟩
    rcases S.par y (List.mem_of_getElem? hp) with k | k
    · exact .inl ⟨k,Zz ndP hp hu k⟩
    · obtain ⟨c,e⟩:=Kj (n:=s.heap.objs.size+1) k
      refine .inr ⟨.inl k,c,e,?_⟩
      have q:=x.cell y c e
      rw [ZG ndP hp hu (by show scope.names.lookup y ≠ _;rw [k];decide)] at q
      exact q
  · exact e0.hok.fresh (Nat.le_of_lt (x.above y c (PySem.mem_of_lookup h)))
  · unfold start
    show _=N.length
    rw [List.length_append,List.length_map,List.length_replicate]
    omega
theorem GY {CX:CXT}{P:Program}{w:World}{K:PySem.W.Frag}{mg:Str->Option Value}{base:Heap}{k:Nat}{f:Addr}{name qual:Str}{params:Arguments}{body:List Stmt}{scope:Scope}{dV kV doc pm cdv ct oc:Value}{an od:Option Addr}
  {osl:Array (Option Value)} {N ps:List Str} {sp:Sp} (lk:K.lookup f=some ⟨oc,od,.func (PySem.W.fnOf name qual params body scope dV kV doc pm an cdv ct),osl⟩) (hcd:PySem.W.codeIn K cdv qual=true) (S:zo N ps scope)
  (len:∀ vs H Q E,sp vs H Q E->vs.length=ps.length)
  (hbody:∀ (A:Around) (outer:List Env) (s:Shared) (H:Hp) (vs:List V) (Q:VK) (E:XK),qJ k (A.deeper (envOfC qual scope s.heap.objs.size f cdv))->sp vs H Q E ->
   ∃ t,PSs (ym CX P w K mg base N qual scope f cdv A outer s H E) body t/\t { nx:=fun _ H'=>Q .non H',rt:=Q } (start N vs) H) :
  jH P w K mg base CX (k+1) f (PySem.W.fnOf name qual params body scope dV kV doc pm an cdv ct) ps sp:=by
 refine ⟨len,fun A outer s H args us vs Q E hr e0 hb r hsp=>?_⟩
 have hl:=len _ _ _ _ hsp
 have KX:K.In s.heap:=e0.mod.kin.keeps fun b o e=>(e0.bs b o e).1
 have lim:s.heap.NoLimit:=e0.mod.nolimit.keeps fun b o e=>(e0.bs b o e).1
 have hkind:∀ y ∈ ps.zip us,scope.names.lookup y.1=some .local \/ (scope.names.lookup y.1=some .cell/\((cellsFrom (s.heap.objs.size+1) scope.names []).lookup y.1).isSome=true):=fun ⟨n,v⟩ hy=>by
  rcases S.par n (List.of_mem_zip hy).1 with q | q
  ·exact .inl q
  ·exact .inr ⟨q,PySem.W.cellsFrom_some _ _ _ (.inl q)⟩
 refine codeAny_call_function hr.depth (KX _ _ lk) rfl S.co S.gen rfl (PySem.W.codeRec_of KX hcd) (hb _ _ _ _ ?_)
 refine wpAny_newFunctionEnv_cells S.kind hkind fun env he s1 x=>?_
 subst he
 refine ⟨lim.keeps x.toInCall.keep,codeAny_func ?_⟩
 obtain ⟨t,ht,hq⟩:=hbody A outer s H vs Q E (hr.deeper _) hsp
 have I:Inv (ym CX P w K mg base N qual scope f cdv A outer s H E) [] (start N vs) H s1:=WE S hr.hd e0 hl r x
 refine wpAny_mono (ht [] s1 (start N vs) H _ I hq) (fun fl s' hs=>?_) fun e s' hs=>hs
 have fin:∀ {σ':St} {H':Hp} {v:V} {u:Value},Inv (ym CX P w K mg base N qual scope f cdv A outer s H E) [] σ' H' s'->zI v u->Q v H'->CE outer P w H s Q u s':=
  fun {σ' H' v u} J rv q=>⟨v,H',J.os,J.bare,J.base,J.hok,rv,q⟩
 cases fl with
 | ret u=>
  obtain ⟨v,σ',H',J,rv,q⟩:=hs
  exact fin J rv q
 | next=>
  obtain ⟨σ',H',J,q⟩:=hs
  exact fin (v:=V.non) (u:=Value.none) J rfl q
 | brk=>
  obtain ⟨_,_,_,q⟩:=hs
  exact False.elim q
 | cont=>
  obtain ⟨_,_,_,q⟩:=hs
  exact False.elim q
section
variable {X:Cx}{x:Str}{p pos:Pos}{e:Expr}{es:List Expr}{t:TA}{id T:String}{r:List V->Hp->VK->Prop}
noncomputable def tCB (r:List V->Hp->VK->Prop)(t:TA):TE:=fun σ H Q=>t σ H fun vs H1=>r vs H1 Q
theorem zt (hc:jg X (.builtin id) r)(hg:Gl X x)(hm:X.mg x=none)(hv:bootBuiltins x=some (.builtin id))(ha:PA X (e :: es) t)(hn:x ≠ "__name__":=by decide)(hdb:(x == ("__debug__":Str))=false:=by decide)
  (he:starEach (e :: es) X.env=(false,eval e X.env) :: starEach es X.env:=by rfl) (hpl:(backTo pos (starEach es X.env)).any (·.1)=false:=by rfl):PE X (.Call (.Name x p) (e :: es) [] pos) (tCB r t):=by
 intro pins s σ H Q I h
 refine wpAny_Call_Name_kw (kJ I hg hm hv ?_ hn hdb)
 exact PyProof.Rows.callWith_builtin1 (thn (ha pos pins s σ H _ I h) fun us s1 ⟨vs,H1,I1,r1,q1⟩=>hc pins s1 σ H1 vs us Q I1 r1 q1) he hpl
theorem zK (hc:jg X (.type T) r)(hg:Gl X x)(hm:X.mg x=none)(hv:bootBuiltins x=some (.type T))(ha:PA X (e :: es) t)(hn:x ≠ "__name__":=by decide)(hdb:(x == ("__debug__":Str))=false:=by decide)
  (he:starEach (e :: es) X.env=(false,eval e X.env) :: starEach es X.env:=by rfl) (hpl:(backTo pos (starEach es X.env)).any (·.1)=false:=by rfl):PE X (.Call (.Name x p) (e :: es) [] pos) (tCB r t):=by
 intro pins s σ H Q I h
 refine wpAny_Call_Name_kw (kJ I hg hm hv ?_ hn hdb)
 exact PyProof.Rows.callWith_type1 (thn (ha pos pins s σ H _ I h) fun us s1 ⟨vs,H1,I1,r1,q1⟩=>hc pins s1 σ H1 vs us Q I1 r1 q1) he hpl
end
end L2
namespace HT
open PySem PyProof.Rows
section
open PySem.SeqAt
open PySem.AutoSeq1 (wpAny_loadPart')
open PySem.MeetsSeq PySem.MeetsSeq2 PySem.MeetsSeq3
end
section
variable {prog:Program}{w:World}{A:Around}{E:Value->Shared->Prop}{s:Shared}
noncomputable def sIx (n d:Nat):Option Int->Nat
 | none=>d
 | some v=>if v<0 then (v+(n:Int)).toNat else min v.toNat n
theorem sIx_none (n d:Nat):sIx n d none=d:=rfl
theorem sIx_nat (n d k:Nat):sIx n d (some (k:Int))=min k n:=by
 show (if (k:Int)<0 then ((k:Int)+(n:Int)).toNat else min (k:Int).toNat n)=min k n
 rw [if_neg (by omega),Int.toNat_natCast]
theorem Lu (n d:Nat)(hd:d<=n)(o:Option Int):sIx n d o<=n:=by
 cases o with
 | none=>exact hd
 | some v=>
  show (if v<0 then (v+(n:Int)).toNat else min v.toNat n)<=n
  by_cases hv:v<0
  ·rw [if_pos hv];omega
  ·rw [if_neg hv];exact Nat.min_le_right _ _
theorem Vb (v:Int)(n d:Nat):(if v<0 then max (v+(n:Int)) 0 else min v (n:Int))=((sIx n d (some v):Nat):Int):=by
 show (if v<0 then max (v+(n:Int)) 0 else min v (n:Int))=(((if v<0 then (v+(n:Int)).toNat else min v.toNat n):Nat):Int)
 by_cases hv:v<0
 ·simp only [if_pos hv];omega
 ·simp only [if_neg hv];omega
theorem Xm (lo hi:Option Int)(n:Nat):Builtin.Slice.sliceAdjust lo hi 1 (n:Int)=(((sIx n 0 lo:Nat):Int),((sIx n n hi:Nat):Int)):=by
 have h1:¬ ((1:Int)<0):=by omega
 unfold Builtin.Slice.sliceAdjust
 simp only [h1,if_false]
 refine Prod.ext ?_ ?_
 ·cases lo with
  | none=>rfl
  | some v=>exact Vb v n 0
 ·cases hi with
  | none=>rfl
  | some v=>exact Vb v n n
theorem XD (i j:Nat):Builtin.Slice.slicePlaces (i:Int) (j:Int) 1=j - i:=by
 unfold Builtin.Slice.slicePlaces
 have h1:(1:Int) > 0:=by omega
 simp only [h1,if_true,Int.ediv_one]
 split <;> omega
theorem wC {v:Value}{o:Option Int}{Q:Option Int->Shared->Prop}(p:IsPart v o)(h:Q o s):wpAny (model prog w) A (Builtin.Slice.slicePartIndex v) Q E s:=by
 cases p with
 | none=>exact slicePart_none h
 | int i t=>exact slicePart_int h
theorem yI {sl:Addr}{vl vu:Value}{lo hi:Option Int}{n:Nat}{Q:Int × Int × Nat->Shared->Prop}(hs:s.heap.IsSliceOf sl vl vu .none)(pl:IsPart vl lo)(pu:IsPart vu hi)
  (h:Q (((sIx n 0 lo:Nat):Int),1,sIx n n hi - sIx n 0 lo) s):wpAny (model prog w) A (Builtin.Slice.sliceApplied (.ref sl) (pure (n:Int))) Q E s:=by
 obtain ⟨os,hos,hcs,hds⟩:=id hs
 unfold Builtin.Slice.sliceApplied Builtin.Slice.sliceFields
 refine wpAny_bind (wpAny_bind (wpAny_field hos hds (x:=vl) rfl (wpAny_bind (wpAny_field hos hds (x:=vu) rfl (wpAny_bind (wpAny_field hos hds (x:=.none) rfl (wpAny_pure ?_)))))))
 refine wpAny_bind (slicePart_none ?_)
 show wpAny _ _ (if ((1:Int) == 0)=true then _ else _) _ _ s
 rw [if_neg (by decide)]
 refine wpAny_bind (wC pl (wpAny_bind (wC pu (wpAny_bind (wpAny_pure ?_)))))
 show wpAny _ _ (match Builtin.Slice.sliceAdjust lo hi 1 (n:Int) with | (lo,hi)=>pure (lo,(1:Int),Builtin.Slice.slicePlaces lo hi 1)) _ _ s
 rw [Xm lo hi n]
 show wpAny _ _ (pure (((sIx n 0 lo:Nat):Int),(1:Int),Builtin.Slice.slicePlaces ((sIx n 0 lo:Nat):Int) ((sIx n n hi:Nat):Int) 1)) _ _ s
 rw [XD]
 exact wpAny_pure h
theorem A1 (xs:Array Value)(i k:Nat):((List.range k).filterMap fun (m:Nat)=>xs[((i:Int)+(m:Int) * 1).toNat]?).toArray=((xs.toList.drop i).take k).toArray:=by
 have e:(fun (m:Nat)=>xs[((i:Int)+(m:Int) * 1).toNat]?)=fun m=>xs[i+m]?:=by
  funext m
  have:((i:Int)+(m:Int) * 1).toNat=i+m:=by omega
  rw [this]
 rw [e]
 have:=pick_run xs i k
 rw [List.filterMap_map] at this
 have e2:((fun x=>xs[x]?) ∘ fun x=>i+x)=fun m=>xs[i+m]?:=rfl
 rw [e2] at this
 rw [this]
theorem getItem_tuple_cut {t sl:Addr}{items:Array Value}{vl vu:Value}{lo hi:Option Int}{Q:Value->Shared->Prop}(ht:IsTup s.heap t items)(hs:s.heap.IsSliceOf sl vl vu .none)(pl:IsPart vl lo)(pu:IsPart vu hi)
  (hw:¬ (sIx items.size 0 lo=0/\sIx items.size items.size hi=items.size))
  (h:Q (.ref s.heap.objs.size) { s with heap:=s.heap.push { cls:=.type "tuple",data:=.seq ((items.toList.drop (sIx items.size 0 lo)).take (sIx items.size items.size hi - sIx items.size 0 lo)).toArray } })
  (hsz:items.size<=sizeLine):wpAny (model prog w) A (getItem (.ref t) (.ref sl)) Q E s:=by
 have htake:sizeOk (.seq ((items.toList.drop (sIx items.size 0 lo)).take (sIx items.size items.size hi - sIx items.size 0 lo)).toArray):=by
  show ((items.toList.drop (sIx items.size 0 lo)).take (sIx items.size items.size hi - sIx items.size 0 lo)).toArray.size<=sizeLine
  rw [List.size_toArray,List.length_take,List.length_drop,Array.length_toList]
  omega
 have hj:sIx items.size items.size hi<=items.size:=Lu _ _ (Nat.le_refl _) hi
 obtain ⟨os,hos,hcs,hds⟩:=id hs
 have hTs:s.TypeIs (.ref sl) "slice":=⟨os,hos,hcs⟩
 unfold getItem
 try with_reducible refine wpAny_holding ?_
 first | refine wpAny_bind (wpAny_pure ?_) | skip
 refine wpAny_bind (wpAny_sequenceKey ht.typeIs (by decide) ?_)
 refine wpAny_bind (wpAny_callSpecial?_slot (name:=Str.ofString "__getitem__") ht.typeIs PyProof.Rows.slot_tuple_getitem
  (wpAny_call_entry PyProof.Rows.slot_tuple_getitem ht.typeIs entry_tuple_getitem ?_ (args_tuple_getitem _ _)))
 show wpAny _ _ (Builtin.Tuple.tupleItemsOf (.ref t) >>= _) _ _ s
 refine wpAny_bind (tupleItemsOf_ ht ?_)
 refine wpAny_bind (wpAny_typeOf hTs ?_)
 rw [if_pos (by decide)]
 refine wpAny_bind (yI hs pl pu ?_)
 have hno:¬ ((((sIx items.size 0 lo:Nat):Int) == 0 && (1:Int) == 1 && (sIx items.size items.size hi - sIx items.size 0 lo) == items.size)=true):=by
  intro q
  rw [Bool.and_eq_true,Bool.and_eq_true] at q
  have q1:((sIx items.size 0 lo:Nat):Int)=0:=eq_of_beq q.1.1
  have q2:sIx items.size items.size hi - sIx items.size 0 lo=items.size:=eq_of_beq q.2
  exact hw ⟨by omega,by omega⟩
 show wpAny _ _ (if (((sIx items.size 0 lo:Nat):Int) == 0 && (1:Int) == 1 && (sIx items.size items.size hi - sIx items.size 0 lo) == items.size)=true then _ else _) _ _ s
 rw [if_neg hno,A1]
 first
  | exact wpAny_bind (m:=Builtin.Tuple.tupleExact _) (wpAny_newObj_type (wpAny_pure ⟨_,rfl,wpAny_pure h⟩) htake)
  | exact wpAny_bind (m:=Builtin.Tuple.tupleExact _) (wpAny_newObj_type (wpAny_bind (wpAny_pure (wpAny_pure ⟨_,rfl,wpAny_pure h⟩))) htake)
  | exact wpAny_bind (wpAny_bind (m:=Builtin.Tuple.tupleExact _) (wpAny_newObj_type (wpAny_pure (wpAny_pure ⟨_,rfl,wpAny_pure h⟩)) htake))
  | exact wpAny_bind (wpAny_bind (m:=Builtin.Tuple.tupleExact _) (wpAny_newObj_type (wpAny_pure ⟨_,rfl,wpAny_pure h⟩) htake))
end
end HT
namespace L2
open PySem PySem.Spec PyProof.Rows
noncomputable abbrev TO:=St->Hp->(Option Int->Hp->Prop)->Prop
noncomputable def PO (X:Cx)(e:Option Expr)(t:TO):Prop:=
 ∀ (pins:List (Addr × Obj)) (s:Shared) (σ:St) (H:Hp) (Q:Option Int->Hp->Prop),Inv X pins σ H s->t σ H Q ->
  wpAny (model X.prog X.w) X.A (evalPart e X.env) (fun u s'=>∃ o H',Inv X pins σ H' s'/\IsPart u o/\Q o H') X.xe s
noncomputable def QY:TO:=fun _ H Q=>Q none H
noncomputable def Ao (t:TE):TO:=fun σ H Q=>t σ H fun x H1=>∃ i,x=.int i/\Q (some i) H1
theorem Xz {ns:List Int}:∀ {us:List Value},zH (ns.map V.int) us->IntsAre us ns:=by
 induction ns with
 | nil=>intro us r;rw [List.map_nil] at r;cases r;exact .nil
 | cons n ns ih=>
  intro us r
  rw [List.map_cons] at r
  cases r with
  | cons r1 r2=>
   obtain ⟨t,e⟩:=r1
   subst e
   exact .cons n t (ih r2)
section
variable {X:Cx}{e:Expr}{te:TE}{lo hi:Option Expr}{tl th:TO}{pos p2:Pos}
theorem kK:PO X none QY:=by
 intro pins s σ H Q I h
 rw [evalPart_none]
 exact wpAny_pure ⟨none,H,I,.none,h⟩
theorem jq (h:PE X e te):PO X (some e) (Ao te):=by
 intro pins s σ H Q I hw
 rw [evalPart_some]
 refine thn (h pins s σ H _ I hw) fun u s1 ⟨x,H1,I1,r1,q1⟩=>?_
 obtain ⟨i,rfl,q⟩:=q1
 obtain ⟨t,rfl⟩:=r1
 exact ⟨some i,H1,I1,.int i t,q⟩
noncomputable def SlR (X:Cx)(r:V->Option Int->Option Int->Hp->VK->Prop):Prop:=
 ∀ (pins:List (Addr × Obj)) (s:Shared) (σ:St) (H:Hp) (x:V) (v vl vu:Value) (lo hi:Option Int) (sl:Addr) (Q:VK),Inv X pins σ H s->zI x v->s.heap.IsSliceOf sl vl vu .none->IsPart vl lo->IsPart vu hi->r x lo hi H Q ->
  ∃ T id,typeLookup (.type T) "__getitem__"=pure (some (.builtin id))/\s.TypeIs v T/\wpAny (model X.prog X.w) X.A (getItem v (.ref sl)) (EP X pins σ Q) X.xe s
noncomputable def tSl (r:V->Option Int->Option Int->Hp->VK->Prop)(te:TE)(tl th:TO):TE:=fun σ H Q=>te σ H fun x H1=>tl σ H1 fun l H2=>th σ H2 fun u H3=>r x l u H3 Q
theorem jT {r:V->Option Int->Option Int->Hp->VK->Prop}(hr:SlR X r)(he:PE X e te)(hl:PO X lo tl)(hu:PO X hi th):PE X (.Subscript e (.Slice lo hi none p2) pos) (tSl r te tl th):=by
 intro pins s σ H Q I h
 refine Subscript_ (thn (he pins s σ H _ I h) fun v s1 ⟨x,H1,I1,r1,q1⟩=>?_)
 refine wpAny_Slice (thn (hl pins s1 σ H1 _ I1 q1) fun vl s2 ⟨l,H2,I2,pl,q2⟩=>thn (hu pins s2 σ H2 _ I2 q2) fun vu s3 ⟨u,H3,I3,pu,q3⟩=>?_)
 rw [evalPart_none]
 refine wpAny_pure ?_
 have I4:Inv X pins σ H3 { s3 with heap:=s3.heap.push { cls:=.type "slice",data:=.fields #[vl,vu,.none] } }:=I3.kept (t':=s3.toks) fun b ob q=>Heap.get?_push_of_some _ q
 obtain ⟨T,id,hT,ht,hg⟩:=hr pins { s3 with heap:=s3.heap.push { cls:=.type "slice",data:=.fields #[vl,vu,.none] } } σ H3 x v vl vu l u s3.heap.objs.size Q I4 r1 (Heap.IsSliceOf.new ..) pl pu q3
 show wpAny (model X.prog X.w) X.A (subscriptTail e (.Slice lo hi none p2) v (.ref s3.heap.objs.size)) (EP X pins σ Q) X.xe { s3 with heap:=s3.heap.push { cls:=.type "slice",data:=.fields #[vl,vu,.none] } }
 exact tail_any (ops:=[.ref s3.heap.objs.size,v]) ht hT hg (by with_unfolding_all rfl)
noncomputable def vy (xs:List V)(lo hi:Option Int):List V:=(xs.drop (HT.sIx xs.length 0 lo)).take (HT.sIx xs.length xs.length hi - HT.sIx xs.length 0 lo)
theorem vk (xs:List V)(lo hi:Option Int):(vy xs lo hi).length<=xs.length:=by
 unfold vy
 rw [List.length_take,List.length_drop]
 omega
noncomputable def MQ (K:PySem.W.Frag):V->Option Int->Option Int->Hp->VK->Prop:=fun x lo hi H Q=>∃ a xs,x=.ref a/\SqT K H a xs /\
 ¬ (HT.sIx xs.length 0 lo=0/\HT.sIx xs.length xs.length hi=xs.length)/\∀ p,H p=none->Q (.ref p) (upd H p (.tup (vy xs lo hi)))
theorem LC:SlR X (MQ X.K):=by
 intro pins s σ H x v vl vu lo hi sl Q I rx hs pl pu h
 obtain ⟨a,xs,rfl,hx,hw,q⟩:=h
 cases rx
 obtain ⟨its,r,ht,hz⟩:=I.tuple hx
 have hlen:its.toArray.size=xs.length:=by rw [List.size_toArray];exact r.length.symm
 refine ⟨"tuple",_,PyProof.Rows.slot_tuple_getitem.lookup,ht.typeIs,?_⟩
 refine HT.getItem_tuple_cut ht hs pl pu (by rw [hlen];exact hw) ?_ (by rw [hlen];exact hz)
 rw [hlen]
 refine ⟨.ref s.heap.objs.size,_,I.laid (t':=s.toks) (o:=.tup (vy xs lo hi)) (fun b ob q=>Heap.get?_push_of_some _ q) (Nat.le_refl _) ?_,rfl,q _ (I.hok.fresh (Nat.le_refl _))⟩
 exact ⟨Nat.le_trans (vk xs lo hi) hz,_,(r.drop (HT.sIx xs.length 0 lo)).take (HT.sIx xs.length xs.length hi - HT.sIx xs.length 0 lo),QI.new _ _⟩
end
noncomputable def ixN (n:Nat)(i:Int):Option Nat:=if 0<=i then (if i<n then some i.toNat else none) else if -(n:Int)<=i then some (i+n).toNat else none
noncomputable def atI {α:Type}(xs:List α)(i:Int):Option α:=(ixN xs.length i).bind fun j=>xs[j]?
theorem Va {n:Nat}{i:Int}{j:Nat}(h:ixN n i=some j):seqIndex? i n=some j/\j<n/\-(n:Int)<=i/\i<n:=by
 unfold ixN at h
 by_cases h0:0<=i
 ·rw [if_pos h0] at h
  by_cases h1:i<n
  ·rw [if_pos h1] at h
   have e:i.toNat=j:=Option.some.inj h
   exact ⟨by rw [seqIndex_of h0 h1,e],by omega,by omega,h1⟩
  ·rw [if_neg h1] at h;cases h
 ·rw [if_neg h0] at h
  by_cases h1:-(n:Int)<=i
  ·rw [if_pos h1] at h
   have e:(i+n).toNat=j:=Option.some.inj h
   exact ⟨by rw [seqIndex_neg (by omega) h1,e],by omega,h1,by omega⟩
  ·rw [if_neg h1] at h;cases h
theorem Qg {α:Type}{xs:List α}{i:Int}{v:α}(h:atI xs i=some v):∃ j,seqIndex? i xs.length=some j/\xs[j]?=some v/\j<xs.length/\-(xs.length:Int)<=i/\i<xs.length:=by
 unfold atI at h
 cases e:ixN xs.length i with
 | none=>rw [e] at h;cases h
 | some j=>
  rw [e] at h
  obtain ⟨h1,h2,h3,h4⟩:=Va e
  exact ⟨j,h1,h,h2,h3,h4⟩
theorem E3 {α:Type}{xs:List α}{j:Nat}{v:α}(h:xs[j]?=some v):atI xs (j:Int)=some v:=by
 have hj:j<xs.length:=(List.getElem?_eq_some_iff.mp h).1
 have e:ixN xs.length (j:Int)=some j:=by
  unfold ixN
  rw [if_pos (by omega),if_pos (by omega)];simp
 unfold atI;rw [e];exact h
noncomputable def Fo (b:Expr):Prop:=∀ o i,subscripted b false o i=operate [o,i] (getItem o i)
noncomputable def IxR (X:Cx)(r:R2):Prop:=
 ∀ (value slice:Expr) (pins:List (Addr × Obj)) (s:Shared) (σ:St) (H:Hp) (x y:V) (v u:Value) (Q:VK),Inv X pins σ H s->zI x v->zI y u->r x y H Q ->
  subscripted slice false v u=operate [v,u] (getItem v u)->wpAny (model X.prog X.w) X.A (subscriptTail value slice v u) (EP X pins σ Q) X.xe s
noncomputable def MtR (X:Cx)(id:String)(r:V->List V->Hp->VK->Prop):Prop:=
 ∀ (pins:List (Addr × Obj)) (s:Shared) (σ:St) (H:Hp) (x:V) (xs:List V) (v:Value) (us:List Value) (Q:VK),Inv X pins σ H s->zI x v->zH xs us->r x xs H Q ->
  wpAny (model X.prog X.w) X.A (call (.builtin id) (v :: us)) (EP X pins σ Q) X.xe s
section
variable {X:Cx}{a b:Expr}{ta tb:TE}{pos:Pos}
theorem zF {r:R2}(hr:IxR X r)(ha:PE X a ta)(hb:PE X b tb)(hs:Fo b):PE X (.Subscript a b pos) (tOp r ta tb):=by
 intro pins s σ H Q I h
 exact Subscript_ (Hw ha hb I h fun v u s2 x y H2 I2 rx ry q=>hr a b pins s2 σ H2 x y v u Q I2 rx ry q (hs _ _))
noncomputable def Lp (K:PySem.W.Frag):R2:=fun x y H Q=>∃ p xs i v,x=.ref p/\y=.int i/\SqL K H p xs/\atI xs i=some v/\Q v H
noncomputable def MF (K:PySem.W.Frag):R2:=fun x y H Q=>∃ p xs i v,x=.ref p/\y=.int i/\SqT K H p xs/\atI xs i=some v/\Q v H
theorem zS:IxR X (Lp X.K):=by
  intro value slice pins s σ H x y v u Q I rx ry h hs
  obtain ⟨p,xs,i,z,rfl,rfl,hq,he,q⟩:=h
  cases rx
  obtain ⟨t,rfl⟩:=ry
  obtain ⟨its,r,pl,hz⟩:=I.list hq
  obtain ⟨j,h1,h2,h3,h4,h5⟩:=Qg he
  obtain ⟨w,ew,rw'⟩:=r.get h2
  have hl:=r.length
  have hn:=yY
  have fin:EP X pins σ Q w s:=⟨z,H,I,rw',q⟩
  by_cases h0:0<=i
  · have hj : i.toNat = j := by
      rw [seqIndex_of h0 h5] at h1
      exact Option.some.inj h1
    exact item_listR pl.isList h0 (by omega) (by rw [hj];simpa using ew) fin hs
  · have hj : (i + (its.toArray.size : Int)).toNat = j := by
      rw [seqIndex_neg (by omega) h4] at h1
      rw [List.size_toArray,<- hl]
      exact Option.some.inj h1
    exact subscriptTail_builtinR (x:=w) pl.isList.typeIs slot_list_getitem.lookup
      (wpAny_getItem_list_neg (Q:=fun r s'=>r=w/\EP X pins σ Q r s') pl.isList (by omega) (by rw [List.size_toArray] <;> omega) (by omega) (by rw [hj];simpa using ew) ⟨rfl,fin⟩) hs
theorem kM:IxR X (MF X.K):=by
 intro value slice pins s σ H x y v u Q I rx ry h hs
 obtain ⟨p,xs,i,z,rfl,rfl,hq,he,q⟩:=h
 cases rx
 obtain ⟨t,rfl⟩:=ry
 obtain ⟨its,r,pl,hz⟩:=I.tuple hq
 obtain ⟨j,h1,h2,h3,h4,h5⟩:=Qg he
 obtain ⟨w,ew,rw'⟩:=r.get h2
 have hl:=r.length
 have hn:=yY
 have fin:EP X pins σ Q w s:=⟨z,H,I,rw',q⟩
 exact subscriptTail_builtinR (x:=w) pl.typeIs slot_tuple_getitem.lookup
  (getItem_tuple (j:=j) (Q:=fun r s'=>r=w/\EP X pins σ Q r s') pl (by omega) (by omega) (by rw [List.size_toArray,<- hl];exact h1) (by simpa using ew) ⟨rfl,fin⟩) hs
theorem Xr (its:List Value)(n j:Nat)(u:Value):Obj.mapSeq (·.setIfInBounds j u) { cls:=.type "list",data:=.seq its.toArray n }={ cls:=.type "list",data:=.seq (its.set j u).toArray n }:=by
 simp [Obj.mapSeq]
theorem Inv.lst {pins:List (Addr × Obj)}{σ:St}{H:Hp}{s:Shared}{p:Addr}{xs:List V}(I:Inv X pins σ H s)(h:H p=some (.lst xs)) :
  ∃ (its:List Value) (n:Nat),zH xs its/\s.heap.get? p=some { cls:=.type "list",data:=.seq its.toArray n }/\xs.length<=sizeLine:=by
 obtain ⟨z,its,n,r,e⟩:=I.hok p _ h
 exact ⟨its,n,r,e,z⟩
theorem Inv.lstUpd {pins:List (Addr × Obj)}{σ:St}{H:Hp}{s:Shared}{p:Addr}{xs ys:List V}{its its':List Value}{n n':Nat}{f:Obj->Obj}(I:Inv X pins σ H s)(h:H p=some (.lst xs))
  (ho:s.heap.get? p=some { cls:=.type "list",data:=.seq its.toArray n }) (hf:f { cls:=.type "list",data:=.seq its.toArray n }={ cls:=.type "list",data:=.seq its'.toArray n' }) (r:zH ys its') (hz:ys.length<=sizeLine) (t:Nat) :
  Inv X pins σ (upd H p (.lst ys)) { s with heap:=s.heap.update p f,toks:=t }:=by
 have e:(s.heap.update p f).get? p=some { cls:=.type "list",data:=.seq its'.toArray n' }:=by
  rw [Heap.get?_update_self f ho (by rw [hf] <;> rfl),hf]
 refine I.write (x:=p) (e:=p) (by rw [h];trivial) (.inl rfl) (fun b u hb q=>(Heap.get?_update_other _ _ (Ne.symm hb)).trans q) ⟨_,e⟩ ?_
 exact ⟨hz,its',n',r,e⟩
noncomputable def GU:V->V->V->Hp->(Hp->Prop)->Prop:=fun o i v H Q=>∃ p xs k j,o=.ref p/\i=.int k/\H p=some (.lst xs)/\ixN xs.length k=some j/\Q (upd H p (.lst (xs.set j v)))
theorem BW:Eh X GU:=by
  intro pins s σ H o i v ov iv u Q I ro ri rv h
  obtain ⟨p,xs,k,j,rfl,rfl,hp,hj,q⟩:=h
  cases ro
  obtain ⟨t,rfl⟩:=ri
  obtain ⟨its,n,r,ho,hz⟩:=I.lst hp
  obtain ⟨h1,h2,h3,h4⟩:=Va hj
  have hl:=r.length
  have hn:=yY
  have I':Inv X pins σ (upd H p (.lst (xs.set j v))) { s with heap:=s.heap.update p (Obj.mapSeq (·.setIfInBounds j u)) }:=
    I.lstUpd hp ho (Xr its n j u) (r.set rv j) (by rw [List.length_set];exact hz) s.toks
  by_cases h0:0<=k
  · have hk : k.toNat = j := by
      rw [seqIndex_of h0 h4] at h1
      exact Option.some.inj h1
    exact PySem.W.ki_setAt ho h0 (by omega) (by rw [List.size_toArray,<- hl];exact h4) (by rw [hk];exact ⟨_,I',q⟩)
  · have hk : (k + (its.toArray.size : Int)).toNat = j := by
      rw [seqIndex_neg (by omega) h3] at h1
      rw [List.size_toArray,<- hl]
      exact Option.some.inj h1
    exact PySem.W.ki_setBack ho (by omega) (by rw [List.size_toArray,<- hl];exact h3) (by omega) (by rw [hk];exact ⟨_,I',q⟩)
theorem QV (lo hi:Option Int)(n:Nat):(sliceBounds lo hi none n).1=((HT.sIx n 0 lo:Nat):Int)/\(sliceBounds lo hi none n).2.1=((HT.sIx n n hi:Nat):Int)/\(sliceBounds lo hi none n).2.2=1:=by
 refine ⟨?_,?_,rfl⟩
 ·cases lo with
  | none=>simp [sliceBounds,HT.sIx]
  | some i=>
   simp only [sliceBounds,HT.sIx,Option.getD_none,show (1:Int) > 0 by decide,if_true]
   by_cases h:i<0
   ·simp only [h,if_true] <;> omega
   ·simp only [h,if_false] <;> omega
 ·cases hi with
  | none=>simp [sliceBounds,HT.sIx]
  | some i=>
   simp only [sliceBounds,HT.sIx,Option.getD_none,show (1:Int) > 0 by decide,if_true]
   by_cases h:i<0
   ·simp only [h,if_true] <;> omega
   ·simp only [h,if_false] <;> omega
theorem Zm (its:List Value)(lo hi:Option Int):slicePick its.toArray lo hi none=((its.drop (HT.sIx its.length 0 lo)).take (HT.sIx its.length its.length hi - HT.sIx its.length 0 lo)).toArray:=by
 obtain ⟨h1,h2,h3⟩:=QV lo hi its.toArray.size
 unfold slicePick
 rw [h1,h2,h3]
 simp only [sliceRange_one,pick_run,List.size_toArray] <;> rfl
noncomputable def EJ (K:PySem.W.Frag):V->Option Int->Option Int->Hp->VK->Prop:=fun x lo hi H Q=>∃ a xs,x=.ref a/\SqL K H a xs/\∀ p,H p=none->Q (.ref p) (upd H p (.lst (vy xs lo hi)))
theorem xN:SlR X (EJ X.K):=by
 intro pins s σ H x v vl vu lo hi sl Q I rx hs pl pu h
 obtain ⟨a,xs,rfl,hx,q⟩:=h
 cases rx
 obtain ⟨its,r,ht,hz⟩:=I.list hx
 have hlen:=r.length
 refine ⟨"list",_,slot_list_getitem.lookup,ht.isList.typeIs,?_⟩
 refine wpAny_getItem_list_slice ht.isList hs pl pu .none (by simp) ?_ (by rw [List.size_toArray] <;> omega)
 rw [Zm,<- hlen]
 refine ⟨.ref s.heap.objs.size,_,I.laid (t':=s.toks) (o:=.lst (vy xs lo hi)) (fun b ob q=>Heap.get?_push_of_some _ q) (Nat.le_refl _) ?_,rfl,q _ (I.hok.fresh (Nat.le_refl _))⟩
 exact ⟨Nat.le_trans (vk xs lo hi) hz,_,0,(r.drop (HT.sIx xs.length 0 lo)).take (HT.sIx xs.length xs.length hi - HT.sIx xs.length 0 lo),Heap.get?_push_size _ rfl⟩
noncomputable def Zt:V->Bool
 | .non=>true
 | .bl _=>true
 | .int _=>true
 | .str _=>true
 | _=>false
noncomputable def eqV:V->V->Bool
 | .non,.non=>true
 | .bl a,.bl b=>a == b
 | .bl a,.int b=>(if a then 1 else 0) == b
 | .int a,.bl b=>a == (if b then 1 else 0)
 | .int a,.int b=>a == b
 | .str a,.str b=>a == b
 | _,_=>false
theorem LI {A:Around}{s:Shared}{y x:V}{u v:Value}(ry:zI y u)(rx:zI x v)(fy:Zt y=true)(fx:Zt x=true):SeqAt.EqAt A s u v (eqV y x):=by
 cases y with
 | non=>
  cases ry
  cases x with
  | non=>cases rx;exact SeqAt.EqAt.same _
  | bl b=>cases rx;exact SeqAt.EqAt.none_bool b
  | int b=>obtain ⟨t,rfl⟩:=rx;exact SeqAt.EqAt.none_int b t
  | str b=>obtain ⟨t,rfl⟩:=rx;exact SeqAt.EqAt.none_str b t
  | _=>exact absurd (show false=true from fx) Bool.false_ne_true
 | bl a=>
  cases ry
  cases x with
  | non=>cases rx;exact SeqAt.EqAt.bool_none a
  | bl b=>cases rx;exact SeqAt.EqAt.bool_bool a b
  | int b=>obtain ⟨t,rfl⟩:=rx;exact SeqAt.EqAt.bool_int a b t
  | str b=>obtain ⟨t,rfl⟩:=rx;exact SeqAt.EqAt.bool_str a b t
  | _=>exact absurd (show false=true from fx) Bool.false_ne_true
 | int a=>
  obtain ⟨t',rfl⟩:=ry
  cases x with
  | non=>cases rx;exact SeqAt.EqAt.int_none a t'
  | bl b=>cases rx;exact SeqAt.EqAt.int_bool a t' b
  | int b=>obtain ⟨t,rfl⟩:=rx;exact SeqAt.EqAt.int_int a t' b t
  | str b=>obtain ⟨t,rfl⟩:=rx;exact SeqAt.EqAt.int_str a t' b t
  | _=>exact absurd (show false=true from fx) Bool.false_ne_true
 | str a=>
  obtain ⟨t',rfl⟩:=ry
  cases x with
  | non=>cases rx;exact SeqAt.EqAt.str_none a t'
  | bl b=>cases rx;exact SeqAt.EqAt.str_bool a t' b
  | int b=>obtain ⟨t,rfl⟩:=rx;exact SeqAt.EqAt.str_int a t' b t
  | str b=>obtain ⟨t,rfl⟩:=rx;exact SeqAt.EqAt.str_str a t' b t
  | _=>exact absurd (show false=true from fx) Bool.false_ne_true
 | _=>exact absurd (show false=true from fy) Bool.false_ne_true
noncomputable def eqU (x:V)(u:Value):Bool:=match u with
 | .none=>eqV .non x
 | .bool b=>eqV (.bl b) x
 | .int i _=>eqV (.int i) x
 | .str z _=>eqV (.str z) x
 | _=>false
theorem HF {x y:V}{u:Value}(r:zI y u)(f:Zt y=true):eqU x u=eqV y x:=by
 cases y with
 | non=>cases r;rfl
 | bl b=>cases r;rfl
 | int i=>obtain ⟨t,rfl⟩:=r;rfl
 | str z=>obtain ⟨t,rfl⟩:=r;rfl
 | _=>exact absurd (show false=true from f) Bool.false_ne_true
theorem JY {A:Around}{s:Shared}{x:V}{v:Value}(rx:zI x v)(fx:Zt x=true):∀ {xs:List V} {us:List Value},zH xs us->xs.all Zt=true->∀ u ∈ us,SeqAt.EqAt A s u v (eqU x u)
 | _,_,.nil,_=>fun u hu=>by cases hu
 | y :: xs,u :: us,.cons r t,f=>fun u' hu=>by
  rw [List.all_cons,Bool.and_eq_true] at f
  rcases List.mem_cons.mp hu with rfl | hu
  ·rw [HF r f.1];exact LI r rx f.1 fx
  ·exact JY rx fx t f.2 u' hu
theorem zp:jg X (.builtin "len") (fun xs H Q=>∃ p ys,xs=[.ref p]/\(SqL X.K H p ys \/ SqT X.K H p ys)/\Q (.int ys.length) H):=by
 intro pins s σ H xs us Q I r h
 obtain ⟨p,ys,rfl,hq,q⟩:=h
 obtain ⟨u,rfl,rx⟩:=ky r
 cases rx
 have hn:=yY
 rcases hq with hq | hq
 ·obtain ⟨its,r',pl,hz⟩:=I.list hq
  have hlen:=r'.length
  exact Calls.call_len_list pl.isList (by simp only [List.size_toArray] <;> omega) ⟨.int ys.length,H,I.tok _,⟨s.toks+1,by rw [List.size_toArray,hlen]⟩,q⟩
 ·obtain ⟨its,r',pl,hz⟩:=I.tuple hq
  have hlen:=r'.length
  exact len_tuple pl (by simp only [List.size_toArray] <;> omega) ⟨.int ys.length,H,I.tok _,⟨s.toks+1,by rw [List.size_toArray,hlen]⟩,q⟩
theorem Qe:jg X (.type "list") (fun xs H Q=>∃ p ys,xs=[.ref p]/\(SqL X.K H p ys \/ SqT X.K H p ys)/\∀ l,H l=none->Q (.ref l) (upd H l (.lst ys))):=by
 intro pins s σ H xs us Q I r h
 obtain ⟨p,ys,rfl,hq,q⟩:=h
 obtain ⟨u,rfl,rx⟩:=ky r
 cases rx
 have fin:∀ (its:List Value),zH ys its->ys.length<=sizeLine->∀ (h':Heap) (c':Nat),(∀ b o',s.heap.get? b=some o'->h'.get? b=some o') ->
   h'.get? s.heap.objs.size=some { cls:=.type "list",dict:=none,data:=.seq its.toArray c',slots:=#[] }->EP X pins σ Q (.ref s.heap.objs.size) { s with heap:=h' }:=fun its r' hz h' c' kp e=>
  ⟨.ref s.heap.objs.size,_,I.laid (t':=s.toks) kp (Nat.le_refl _) (show qi X.prog X.w _ h' _ (.lst ys) from ⟨hz,its,c',r',e⟩),rfl,q _ (I.hok.fresh (Nat.le_refl _))⟩
 rcases hq with hq | hq
 ·obtain ⟨its,r',pl,hz⟩:=I.list hq
  have hlen:=r'.length
  obtain ⟨o,ho,hc,n,hd⟩:=pl.isList
  exact call_list_seq p (.inl rfl) ho hc hd (fun h' c' kp e=>fin its r' hz h' c' kp e) (by simp only [List.size_toArray] <;> omega)
 ·obtain ⟨its,r',pl,hz⟩:=I.tuple hq
  have hlen:=r'.length
  obtain ⟨o,ho,hc,n,hd⟩:=pl
  exact call_list_seq p (.inr rfl) ho hc hd (fun h' c' kp e=>fin its r' hz h' c' kp e) (by simp only [List.size_toArray] <;> omega)
theorem kg:jg X (.type "tuple") (fun xs H Q=>∃ p ys,xs=[.ref p]/\((SqL X.K H p ys/\∀ l,H l=none->Q (.ref l) (upd H l (.tup ys))) \/ (SqT X.K H p ys/\Q (.ref p) H))):=by
 intro pins s σ H xs us Q I r h
 obtain ⟨p,ys,rfl,h⟩:=h
 obtain ⟨u,rfl,rx⟩:=ky r
 cases rx
 rcases h with ⟨hq,q⟩ | ⟨hq,q⟩
 ·obtain ⟨its,r',pl,hz⟩:=I.list hq
  have hlen:=r'.length
  refine call_tuple_list pl.isList (fun h' kp=>?_) (by simp only [List.size_toArray] <;> omega)
  have I1:Inv X pins σ H { s with heap:=h' }:=I.kept (t':=s.toks) kp
  have I2:Inv X pins σ (upd H h'.objs.size (.tup ys)) { s with heap:=h'.push { cls:=.type "tuple",data:=.seq its.toArray } }:=
   I1.laid (t':=s.toks) (fun b o e=>Heap.get?_push_of_some _ e) (Nat.le_refl _) (show qi X.prog X.w _ _ _ (.tup ys) from ⟨hz,its,r',QI.new _ _⟩)
  exact ⟨.ref h'.objs.size,_,I2,rfl,q _ (I1.hok.fresh (Nat.le_refl _))⟩
 ·obtain ⟨its,r',pl,hz⟩:=I.tuple hq
  exact call_tuple_same pl ⟨.ref p,H,I,rfl,q⟩
noncomputable def tyV (K:PySem.W.Frag)(T:String)(x:V)(H:Hp):Prop:=match x with
  | .str _=>T="str"
  | .int _=>T="int"
  | .ref p => (T = "list" /\ ∃ xs, SqL K H p xs) \/ (T = "tuple" /\ ((∃ xs, Rd H p (.tup xs)) \/ ∃ o, K.lookup p = some o /\ o.cls = .type "tuple" /\ o.dict = none)) \/
      (T="dict"/\((∃ kvs,H p=some (.dK kvs)) \/ ∃ kvs,H p=some (.dT kvs))) \/ (T="set"/\∃ S n,H p=some (.set S n))
  | _=>False
theorem HL {pins : List (Addr × Obj)}{σ : St}{H : Hp}{s : Shared}{T : String}{x : V}{v : Value}(I : Inv X pins σ H s)(r : zI x v)(ty : tyV X.K T x H) :
    s.TypeIs v T/\∀ a,v=.ref a->∃ ob,s.heap.get? a=some ob/\ob.dict=none:=by
  cases x with
  | str z=>
    obtain ⟨t,rfl⟩:=r
    cases (show T="str" from ty)
    exact ⟨typeIs_str s z t,fun _ e=>nomatch e⟩
  | int i=>
    obtain ⟨t,rfl⟩:=r
    cases (show T="int" from ty)
    exact ⟨typeIs_int s i t,fun _ e=>nomatch e⟩
  | ref p=>
    cases r
    rcases ty with ⟨rfl,xs,hq⟩ | ⟨rfl,⟨xs,hx⟩ | ⟨o,hk,hc,hd⟩⟩ | ⟨rfl,hk⟩ | ⟨rfl,S,n,hk⟩
    · obtain ⟨its,_,pl,_⟩:=I.list hq
      refine ⟨pl.isList.typeIs,fun a e=>?_⟩
      cases e
      obtain ⟨o,n,e,c,hd,_⟩:=pl
      exact ⟨o,e,hd⟩
    · obtain ⟨_,its,_,o,e,c,_,hd⟩:=hx.ok I.hok
      refine ⟨⟨o,e,c⟩,fun a e2=>?_⟩
      cases e2
      exact ⟨o,e,hd⟩
    · refine ⟨⟨o,I.kIn p o hk,hc⟩,fun a e=>?_⟩
      cases e
      exact ⟨o,I.kIn _ o hk,hd⟩
    · have z : ∃ o, s.heap.get? p = some o /\ o.ExactDict := by
        rcases hk with ⟨kvs,hk⟩ | ⟨kvs,hk⟩
        · obtain ⟨_,_,_,_,o,_,_,e,ex,_⟩:=I.hok p _ hk
          exact ⟨o,e,ex⟩
        · obtain ⟨_,_,_,_,o,_,_,e,ex,_⟩:=I.hok p _ hk
          exact ⟨o,e,ex⟩
      obtain ⟨o,e,ex⟩:=z
      refine ⟨⟨o,e,ex.1⟩,fun a e2=>?_⟩
      cases e2
      exact ⟨o,e,ex.2.1⟩
    · obtain ⟨o,_,_,_,e,ex,_⟩:=I.hok p _ hk
      refine ⟨⟨o,e,ex.1⟩,fun a e2=>?_⟩
      cases e2
      exact ⟨o,e,ex.2.1⟩
  | _=>exact False.elim ty
noncomputable def tBM (K:PySem.W.Frag)(T:String)(r:V->List V->Hp->VK->Prop)(to:TE)(t:TA):TE:=fun σ H Q=>to σ H fun x H1=>tyV K T x H1/\t σ H1 fun xs H2=>r x xs H2 Q
variable {o e:Expr}{es:List Expr}{to:TE}{t:TA}{name:Str}{apos cpos:Pos}{T id:String}{r:V->List V->Hp->VK->Prop}
theorem vt (pa:PlainAttrs T)(slot:Slot T name id)(hty:typeOf (.builtin id)=pure (.type "method_descriptor"))(hm:MtR X id r)(ho:PE X o to)(ha:PA X (e :: es) t)
  (hbase:attributeBase o name X.env (eval o X.env)=eval o X.env:=by rfl)
  (hfew:((backTo cpos (starEach (e :: es) X.env)).all (fun x=>!x.1) && (backToKw cpos (keywordEach [] X.env)).all (fun x=>x.1.isSome)
   && decide ((e :: es).length+([]:List Keyword).length+(if ([]:List Keyword).isEmpty then 0 else 1)<30))=true:=by rfl)
  (hline:(apos.endLine == cpos.line)=true:=by rfl) (hs:starEach (e :: es) X.env=(false,eval e X.env) :: starEach es X.env:=by rfl) (hplain:(backTo cpos (starEach es X.env)).any (·.1)=false:=by rfl) :
  PE X (.Call (.Attribute o name apos) (e :: es) [] cpos) (tBM X.K T r to t):=by
 intro pins s σ H Q I h
 refine wpAny_Call_method_late hbase hfew hline rfl (thn (ho pins s σ H _ I h) fun v s1 ⟨x,H1,I1,r1,ty,q1⟩=>?_)
 obtain ⟨h1,h2⟩:=HL I1 r1 ty
 refine ⟨T,id,pa,slot,hty,h1,h2,?_⟩
 have hA:=ha cpos pins s1 σ H1 _ I1 q1
 rw [hs] at hA ⊢
 refine Calls.callWith_builtin (by show (false || (backTo cpos (starEach es X.env)).any (·.1))=false;rw [hplain] <;> rfl) (Calls.evalArgs_plain ?_)
 exact thn hA fun us s2 ⟨vs,H2,I2,r2,q2⟩=>hm pins s2 σ H2 x vs v us Q I2 r1 r2 q2
/- xs.append(e),list.index on a module's tuple .. are MtR facts of 06m -/
end
noncomputable def MtM (X:Cx)(id:String)(r:V->List V->Hp->VK->Prop):Prop:=
 ∀ (pins:List (Addr × Obj)) (s:Shared) (σ:St) (H:Hp) (x:V) (xs:List V) (v:Value) (us:List Value) (Q:VK),Inv X pins σ H s->zI x v->zH xs us->r x xs H Q ->
  wpAny (model X.prog X.w) X.A (call (.builtin id) (v :: us)) (EP X pins σ Q) X.xe s
theorem zH.one:∀ {x:V} {us:List Value},zH [x] us->∃ u,us=[u]/\zI x u
 | _,_,.cons r .nil=>⟨_,rfl,r⟩
theorem zH.two:∀ {x y:V} {us:List Value},zH [x,y] us->∃ u v,us=[u,v]/\zI x u/\zI y v
 | _,_,_,.cons r (.cons q .nil)=>⟨_,_,rfl,r,q⟩
theorem zH.dropLast {xs:List V}{us:List Value}(h:zH xs us):zH xs.dropLast us.dropLast:=by
 induction h with
 | nil=>exact .nil
 | cons r t ih=>
  cases t with
  | nil=>exact .nil
  | cons q t'=>exact .cons r ih
theorem zH.rep {xs:List V}{us:List Value}(h:zH xs us):∀ k:Nat,zH (List.replicate k xs).flatten (List.replicate k us).flatten
 | 0=>.nil
 | k+1=>by
  rw [List.replicate_succ,List.replicate_succ,List.flatten_cons,List.flatten_cons]
  exact zH.append h (zH.rep h k)
theorem Z0 (its:List Value):∀ (k:Nat) (acc:List Value),
  List.foldl (fun x1 x2=>x1 ++ x2) acc.toArray (List.replicate k its.toArray)=(acc ++ (List.replicate k its).flatten).toArray
 | 0,acc=>by simp
 | k+1,acc=>by
  have e:acc.toArray ++ its.toArray=(acc ++ its).toArray:=by simp
  have e2:(acc ++ its) ++ (List.replicate k its).flatten=acc ++ (List.replicate (k+1) its).flatten:=by
   rw [List.replicate_succ,List.flatten_cons,List.append_assoc]
  rw [<- e2,<- Z0 its k (acc ++ its),<- e,List.replicate_succ,List.foldl_cons]
section
variable {X:Cx}{pins:List (Addr × Obj)}{σ:St}{H:Hp}{s:Shared}{l b:Addr}{xs ys zs:List V}
theorem Inv.lset {its its':List Value}{n:Nat}{f:Array Value->Array Value}{t':Nat}(I:Inv X pins σ H s)(hH:H l=some (.lst xs))
  (e:s.heap.get? l=some { cls:=.type "list",data:=.seq its.toArray n }) (hf:f its.toArray=its'.toArray) (hv:zH ys its') (hz:ys.length<=sizeLine) :
  Inv X pins σ (upd H l (.lst ys)) { s with heap:=s.heap.update l (Obj.mapSeq f),toks:=t' }:=by
 have q:=PySem.IsL.update e f
 rw [hf] at q
 refine I.write (x:=l) (e:=l) (by rw [hH];exact trivial) (.inl rfl) (fun b' u hb hu=>(Heap.get?_update_other s.heap (Obj.mapSeq f) (Ne.symm hb)).trans hu) ⟨_,q⟩ ?_
 exact ⟨hz,its',_,hv,q⟩
theorem Inv.lnew {its:List Value}{t':Nat}(I:Inv X pins σ H s)(hv:zH ys its)(hz:ys.length<=sizeLine) :
  Inv X pins σ (upd H s.heap.objs.size (.lst ys)) { s with heap:=s.heap.push { cls:=.type "list",data:=.seq its.toArray },toks:=t' }:=
 I.laid (fun _ _ q=>Heap.get?_push_of_some _ q) (Nat.le_refl _) ⟨hz,its,0,hv,Heap.get?_push_size _ rfl⟩
theorem Inv.fresh (I:Inv X pins σ H s):H s.heap.objs.size=none:=I.hok.fresh (Nat.le_refl _)
theorem Inv.lstM (I:Inv X pins σ H s)(hH:H l=some (.lst xs)):xs.length<=sizeLine/\∃ (its:List Value) (n:Nat),zH xs its/\xs.length=its.length/\s.heap.get? l=some { cls:=.type "list",data:=.seq its.toArray n }:=by
 obtain ⟨z,its,n,r,e⟩:=I.hok l _ hH
 exact ⟨z,its,n,r,r.length,e⟩
theorem Q4 {n:Nat}(h:n<=sizeLine):Builtin.List.listTooLong n=false:=by
 unfold Builtin.List.listTooLong
 exact decide_eq_false (by omega)
end
section
variable {X:Cx}
noncomputable def vS:V->List V->Hp->VK->Prop:=fun x vs H Q=>∃ l xs y,x=.ref l/\vs=[y]/\H l=some (.lst xs)/\xs.length<sizeLine/\Q .non (upd H l (.lst (xs ++ [y])))
theorem yZ:MtM X "list.append" vS:=by
 intro pins s σ H x vs v us Q I rx rv h
 obtain ⟨l,xs,y,rfl,rfl,hH,hz,q⟩:=h
 cases rx
 obtain ⟨u,rfl,ru⟩:=rv.one
 obtain ⟨z,its,n,r,hl,e⟩:=I.lstM hH
 refine call_meets F.slot_list_append ⟨_,e,rfl⟩ F.entry_list_append (F.args_list_append_2 _ _) (PySem.list_append l its.toArray n u (by rw [List.size_toArray];omega)) ⟨e,?_⟩
 refine ⟨.non,_,I.lset (its':=its ++ [u]) hH e (by simp) (r.append (.cons ru .nil)) ?_,rfl,q⟩
 rw [List.length_append,List.length_singleton]
 omega
noncomputable def vT:V->List V->Hp->VK->Prop:=fun x vs H Q=>∃ l b xs zs,x=.ref l/\vs=[.ref b]/\H l=some (.lst xs)/\H b=some (.lst zs)/\xs.length+zs.length<=sizeLine/\Q .non (upd H l (.lst (xs ++ zs)))
theorem V6:MtM X "list.extend" vT:=by
 intro pins s σ H x vs v us Q I rx rv h
 obtain ⟨l,b,xs,zs,rfl,rfl,hH,hB,hz,q⟩:=h
 cases rx
 obtain ⟨u,rfl,ru⟩:=rv.one
 cases ru
 obtain ⟨z,its,n,r,hl,e⟩:=I.lstM hH
 obtain ⟨z2,its2,n2,r2,hl2,e2⟩:=I.lstM hB
 have hsz:its.toArray.size+its2.toArray.size<=sizeLine:=by rw [List.size_toArray,List.size_toArray];omega
 have hlong:¬ (!its.toArray.isEmpty && Builtin.List.listTooLong (its.toArray.size+its2.toArray.size))=true:=by
  rw [Q4 hsz,Bool.and_false]
  exact Bool.false_ne_true
 refine call_meets F.slot_list_extend ⟨_,e,rfl⟩ F.entry_list_extend (F.args_list_extend_2 _ _)
  (AutoSeq1.list_extend_list_list_0 l its.toArray n b its2.toArray n2 hlong (by rw [List.size_toArray];omega) (by omega)) ⟨e,e2,?_⟩
 refine ⟨.non,_,I.lset (its':=its ++ its2) hH e (by simp) (r.append r2) ?_,rfl,q⟩
 rw [List.length_append]
 omega
noncomputable def Gg:R2:=fun x y H Q=>∃ l b xs zs,x=.ref l/\y=.ref b/\H l=some (.lst xs)/\H b=some (.lst zs)/\xs.length+zs.length<=sizeLine/\∀ p,H p=none->Q (.ref p) (upd H p (.lst (xs ++ zs)))
theorem yP:OpR X (binaryOp .Add) Gg:=by
 intro pins s σ H x y v u Q I rx ry h
 obtain ⟨l,b,xs,zs,rfl,rfl,hH,hB,hz,q⟩:=h
 cases rx
 cases ry
 obtain ⟨z,its,n,r,hl,e⟩:=I.lstM hH
 obtain ⟨z2,its2,n2,r2,hl2,e2⟩:=I.lstM hB
 refine PySem.P.add_list e e2 ?_ (by rw [List.size_toArray,List.size_toArray];omega)
 have ea:its.toArray ++ its2.toArray=(its ++ its2).toArray:=by simp
 rw [ea]
 exact ⟨.ref _,_,I.lnew (t':=s.toks) (r.append r2) (by rw [List.length_append];omega),rfl,q _ I.fresh⟩
noncomputable def LG:R2:=fun x y H Q=>∃ l k xs,x=.ref l/\y=.int k/\H l=some (.lst xs)/\-(2 ^ 63)<=k/\k<2 ^ 63/\xs.length * k.toNat<=sizeLine /\
 ∀ p,H p=none->Q (.ref p) (upd H p (.lst (List.replicate k.toNat xs).flatten))
theorem Gw {α:Type}(xs:List α)(k:Nat):(List.replicate k xs).flatten.length=k * xs.length:=by
 induction k with
 | zero=>simp
 | succ k ih=>rw [List.replicate_succ,List.flatten_cons,List.length_append,ih,Nat.succ_mul,Nat.add_comm]
theorem xg:OpR X (binaryOp .Mult) LG:=by
 intro pins s σ H x y v u Q I rx ry h
 obtain ⟨l,k,xs,rfl,rfl,hH,h1,h2,hz,q⟩:=h
 cases rx
 obtain ⟨t,rfl⟩:=ry
 obtain ⟨z,its,n,r,hl,e⟩:=I.lstM hH
 have hlen:its.toArray.size * k.toNat<=sizeLine:=by rw [List.size_toArray,<- hl];exact hz
 have hcap:¬ its.toArray.size * k.toNat > (2 ^ 63 - 1) / 8:=by
  have:(sizeLine:Nat)<=(2 ^ 63 - 1) / 8:=by decide
  omega
 have hfit:¬ (!Builtin.List.listFitsIndex k)=true:=by
  rw [fitsIndex_both h1 h2]
  exact Bool.false_ne_true
 have hlong:¬ Builtin.List.listTooLong (its.toArray.size * k.toNat)=true:=by
  rw [Q4 hlen]
  exact Bool.false_ne_true
 have hnew:List.foldl (fun x1 x2=>x1 ++ x2) #[] (List.replicate (if its.toArray.isEmpty=true then 0 else k.toNat) its.toArray)=(List.replicate k.toNat its).flatten.toArray:=by
  have f0:∀ m:Nat,List.foldl (fun x1 x2=>x1 ++ x2) #[] (List.replicate m its.toArray)=(List.replicate m its).flatten.toArray:=fun m=>by
   have:=Z0 its m []
   rw [List.nil_append] at this
   exact this
  rw [f0]
  cases its with
  | nil=>simp
  | cons a r'=>rw [if_neg (by simp)]
 refine wpAny_binaryOp_repeat_ref (T:="list") (U:="int") (by decide) ⟨_,e,rfl⟩ (fun s'=>typeIs_int s' k t) noFill_list_mul F.fills_int_mul F.slot_int_rmul repeat_list F.slot_int_index.lookup
  (call_meets F.slot_int_rmul (typeIs_int s k t) F.entry_int_rmul (F.args_int_rmul_2 _ _) (int___rmul___int_list k t l its.toArray n)
   ⟨e,rfl,⟨_,e,rfl⟩,call_meets F.slot_list_mul ⟨_,e,rfl⟩ F.entry_list_mul (F.args_list_mul_2 _ _) (AutoListH.list___mul___list_int_3 l its.toArray n k t hfit hcap hlong) ⟨e,?_⟩⟩)
 rw [hnew]
 exact ⟨.ref _,_,I.lnew (t':=s.toks) (r.rep k.toNat) (by rw [Gw,Nat.mul_comm];exact hz),rfl,q _ I.fresh⟩
end
section
variable {prog:Program}{w:World}{A:Around}{E:Value->Shared->Prop}{s:Shared}
end
section
variable {X:Cx}
end
end L2
namespace Att
open PySem PySem.W PySem.Calls PyProof.Rows
theorem vC {P:Params}{h:Heap}:∀ (ns:List Int) (vs:List Value),WellAll P h vs (ns.map WData.int)->IntsAre vs ns:=by
 intro ns
 induction ns with
 | nil=>
  intro vs w
  rw [List.map_nil] at w
  cases w
  exact .nil
 | cons n ns ih=>
  intro vs w
  rw [List.map_cons] at w
  cases w with
  | cons a b=>
   cases a
   exact .cons _ _ (ih _ b)
theorem WN {l:OpenLaw}{n:Nat}(hn:l.most=some n){P:Params}{h:Heap}{args:List WData}{vals:List Value}
  (hpre:l.row.toRowW.claim.pre args=true) (hwl:WellAll P h vals args) :
  ∃ a vs ns,vals=[Value.ref a]/\args=[WData.list (ns.map WData.int)]/\h.get? a=some { cls:=.type "list",data:=.seq vs.toArray }/\IntsAre vs ns/\ns.length<=n:=by
 have hsh:WShape.hasAll [] args [.list .int]=true:=(pre_splitW hpre).1
 have hc:l.pre.holds [] { args:=args }=true:=(pre_splitW hpre).2
 obtain ⟨d,r,rfl,h1,h2⟩:=hasAllW_cons hsh
 obtain rfl:=hasAllW_nil h2
 obtain ⟨xs,rfl,h3⟩:=hasW_list h1
 obtain ⟨ns,rfl⟩:=items_int h3
 have hlen:ns.length<=n:=by
  unfold OpenLaw.pre at hc
  have h4:(WTm.not (.lt (.lit (.int (n:Int))) (.len (.arg 0)))).holds [] { args:=[.list (ns.map .int)] }=true:=by
   have h4:=(holds_andW hc).1
   rw [hn] at h4
   exact h4
  have h5:=condW_of h4 (w_not (w_lt w_lit (w_len_list (w_arg rfl))))
  rw [List.length_map] at h5
  refine Nat.le_of_not_lt fun q=>?_
  have q':(n:Int)<((ns.length:Nat):Int):=by omega
  first
   | (rw [decide_eq_true q'] at h5;exact absurd h5 (by decide))
   | (simp at h5;omega)
 cases hwl with
 | cons w1 w2=>
  cases w2
  cases w1 with
  | list ho hall=>exact ⟨_,_,ns,rfl,rfl,ho,vC ns _ hall,hlen⟩
theorem Wy (l:OpenLaw)(args:List WData):l.row.toRowW.claim.post args (.bool true) args=true:=
 postW_of (r:=l.row.toRowW) (X:=(true == true))
  (show WShape.has [] (.bool true) .bool=true by first | rfl | decide | simp [WShape.has,WShape.arms,WShape.armsAll])
  (show (WTm.eq .res (.lit (.bool true))).value [] { args:=args,res:=some (.bool true),after:=args }=some (.bool (true == true)) from w_eq_bool (w_res rfl) w_lit) rfl
theorem attach_call {l:OpenLaw}{n:Nat}{q:Program}{loose:List Str}{XP:(Str->Option Value)->Heap->Prop}{YP:World->Heap->Prop}{d:DefRec}
  (hn:l.most=some n) (hdf:d.params.defaults=[])
  (call:∀ (w:World) (s₀ s₁:Shared) (mg mb:Str->Option Value) (fa:Addr) (o:Obj) (pm cd doc:Value) (a:Addr) (vs:List Value) (ns:List Int),
   Ground q loose [] XP w s₀ mg mb s₁.heap->YP w s₁.heap ->
   s₁.heap.get? fa=some o->o.data=.func (docDef d.name d.params d.body d.scope pm cd doc)->s₁.heap.CodeRec cd d.name->mg d.name=some (.ref fa) ->
   s₁.heap.get? a=some { cls:=.type "list",data:=.seq vs.toArray }->IntsAre vs ns->ns.length<=n->s₁.gens=#[] ->
   codeAny (model l.prog w) callerA (.call (.ref fa) ⟨[.ref a],[]⟩) (fun r s'=>r=.ok (.ret (.bool true))/\OldK s₁.heap s'.heap/\s'.os=s₁.os/\AllBare s'.gens) s₁) :
  WalkO q loose XP YP l.row.toRowW d [] (fun f vs=>PySem.call f vs):=by
 intro w s₀ s₁ mg mb G Y fa o pm cd doc dV kV ho hd hcd hD hmg hg args vals as hpre hlay hrd hwl hlo
 obtain rfl:dV=.none:=Dflts.none hD hdf
 obtain rfl:kV=.none:=Dflts.noKw hD
 obtain ⟨a,vs,ns,rfl,rfl,hobj,hints,hlen⟩:=WN hn hpre hwl
 refine enter_call (codeAny_mono (call w s₀ s₁ mg mb fa o pm cd doc a vs ns G Y ho (fd_plain hd) hcd hmg hobj hints hlen hg) fun r s' hq=>?_)
 obtain ⟨rfl,h2,h3,h4⟩:=hq
 exact ⟨.inl ⟨.bool true,.bool true,[],rfl,fun _=>rfl,.bool true,Wy l _,fun _=>⟨List.Pairwise.nil,fun _ hm=>(nomatch hm)⟩⟩,h2,h3,h4⟩
section
variable {prog:Program}{w:World}{A:Around}{E:Value->Shared->Prop}{s:Shared}{K:Frag}
noncomputable def Nf (h:Heap)(L d:Addr):List (Addr × Obj):=(List.range h.objs.size).filterMap fun a=>if a=L \/ a=d then none else (h.get? a).map fun o=>(a,o)
end
end Att
namespace L2
open PySem PySem.Spec PyProof.Rows
theorem yO:∀ {vs:List Value} {ns:List Int},IntsAre vs ns->zH (ns.map V.int) vs
 | _,_,.nil=>.nil
 | _,_,.cons n t h=>.cons ⟨t,rfl⟩ (yO h)
noncomputable def Ij (H:Hp):Prop:=∀ b,H b=none \/ ∃ o xs,H b=some (.frz o (.lst xs))
theorem AY {P:Program}{w:World}{K:PySem.W.Frag}{mg mb:Str->Option Value}{CX:CXT}{k:Nat}{fa a:Addr}{fd:FuncData}{x:Str}{sp:Sp}{s₁:Shared}{vs:List Value}{ns:List Int}
  (KX:K.In s₁.heap) (hns:s₁.heap.Ns mainGlobals mg) (hb:s₁.heap.Ns builtinsNs mb) (hbb:∀ x:Str,x ≠ "__name__"->mb x=bootBuiltins x) (hlim:s₁.heap.NoLimit) (hg:s₁.gens=#[])
  (ha:s₁.heap.get? a=some { cls:=.type "list",data:=.seq vs.toArray }) (hi:IntsAre vs ns) (hl:ns.length<=sizeLine) (hr:qJ k callerA)
  (F:∀ base:Heap,K.In base->base.Ns mainGlobals mg->jH P w K mg base CX k fa fd [x] sp) (hbind:∀ (s:Shared) (u:Value),BindsTo s fd ⟨[u],[]⟩ [(x,u)])
  (hsp:∀ H:Hp,Ij H->SqL K H a (ns.map V.int)->sp [.ref a] H (fun v _=>v=.bl true) fun _ _ _=>False)
  (hCX:∀ H e s',CX [] H s₁ (fun _ _ _=>False) e s'->False) :
  codeAny (model P w) callerA (.call (.ref fa) ⟨[.ref a],[]⟩) (fun r s'=>r=.ok (.ret (.bool true))/\OldK s₁.heap s'.heap/\s'.os=s₁.os/\AllBare s'.gens) s₁:=by
 have rv:=yO hi
 have lenV:=hi.length
 have core:∀ H:Hp,Ij H->SqL K H a (ns.map V.int)->HOk P w H s₁.heap->(∀ b,H b ≠ none->b=a)->(H a ≠ none->K.lookup a=none) ->
   codeAny (model P w) callerA (.call (.ref fa) ⟨[.ref a],[]⟩) (fun r s'=>r=.ok (.ret (.bool true))/\OldK s₁.heap s'.heap/\s'.os=s₁.os/\AllBare s'.gens) s₁:=by
  intro H hO hS hok hA hK
  have base_of:∀ {b:Addr} {o:Obj},s₁.heap.get? b=some o->H b=none->(QJ s₁.heap H).get? b=some o:=fun e n=>Af e n
  have noA:∀ {b:Addr} {o:Obj} {es:Array DictEntry} {ep:Nat},s₁.heap.get? b=some o->o.data=.dict es ep->H b=none:=fun {b o es ep} e d=>by
   cases q:H b with
   | none=>rfl
   | some u=>
    have e':b=a:=hA b (by rw [q];simp)
    subst e'
    rw [ha] at e;cases e
    have d':Data.seq vs.toArray _=Data.dict es ep:=d
    cases d'
  have nsK:∀ {b:Addr} {m:Str->Option Value},s₁.heap.Ns b m->(QJ s₁.heap H).Ns b m:=fun {b m} ⟨o,es,ep,e,d,r⟩=>⟨o,es,ep,base_of e (noA e d),d,r⟩
  have hKb:K.In (QJ s₁.heap H):=fun b o e=>base_of (KX b o e) (by
   cases q:H b with
   | none=>rfl
   | some u=>
    have e':b=a:=hA b (by rw [q];simp)
    subst e'
    rw [hK (by rw [q];simp)] at e;cases e)
  have hM:Mod K mg (QJ s₁.heap H):=⟨hKb,nsK hns,⟨mb,nsK hb,hbb⟩,let ⟨mc,h1,h2⟩:=hlim;⟨mc,nsK h1,h2⟩⟩
  have e0:XJ P w K mg (QJ s₁.heap H) callerA [] s₁ H:=⟨rfl,hM,fun b o e=>Fm e,Nat.le_of_eq (VM _ _),trivial,fun b hb=>absurd (show b ∈ ([]:List Addr) from hb) (by simp),hok,.of_eq hg⟩
  refine codeAny_mono ((F _ hKb (nsK hns)).run callerA [] s₁ H ⟨[.ref a],[]⟩ [.ref a] [.ref a] _ _ hr e0 (hbind s₁ (.ref a)) (.cons rfl .nil) (hsp H hO hS)) fun r s' h=>?_
  cases r with
  | error e=>exact (hCX H e s' h).elim
  | ok fl=>
   cases fl with
   | next=>exact False.elim h
   | brk=>exact False.elim h
   | cont=>exact False.elim h
   | ret u=>
    obtain ⟨v,H',os,bare,un,hok',r',q⟩:=h
    have q':v=.bl true:=q
    subst q'
    obtain rfl:u=Value.bool true:=r'
    refine ⟨rfl,OldK.of_keep fun b o e=>?_,os,bare⟩
    cases q:H b with
    | none=>exact un.keep b o e q (by intro z;exact absurd (show b ∈ ([]:List Addr) from z) (by simp)) (by simp)
    | some u=>
     rcases hO b with z | ⟨ob,xs,z⟩
     ·rw [q] at z;cases z
     ·have z2:=un.frzs b ob _ z
      obtain ⟨e1,_⟩:=hok b _ z
      obtain ⟨e2,_⟩:=hok' b _ z2
      rw [e] at e1;cases e1
      exact e2
 cases hk:K.lookup a with
 | some o=>
  have e:=KX a o hk
  rw [ha] at e
  cases e
  refine core (fun _=>none) (fun _=>.inl rfl) (.inr ⟨_,vs.toArray,_,hk,rfl,rfl,rfl,by rw [List.size_toArray,lenV];exact hl,by simpa using rv⟩) (fun b u z=>by have z':(none:Option HO)=some u:=z;cases z') (fun b z=>absurd rfl z) fun z=>absurd rfl z
 | none=>
  refine core (fun b=>if b=a then some (.frz { cls:=.type "list",data:=.seq vs.toArray } (.lst (ns.map V.int))) else none) (fun b=>?_) (.inl (.inr ⟨{ cls:=.type "list",data:=.seq vs.toArray },if_pos rfl⟩)) (fun b u z=>?_) (fun b z=>?_) fun _=>hk
  ·by_cases hb:b=a
   ·exact .inr ⟨_,_,if_pos hb⟩
   ·exact .inl (if_neg hb)
  ·by_cases hb:b=a
   ·have z':=(if_pos hb).symm.trans z
    cases z'
    subst hb
    exact ⟨ha,by rw [List.length_map];exact hl,vs,_,rv,ha⟩
   ·have z':=(if_neg hb).symm.trans z
    cases z'
  ·by_cases hb:b=a
   ·exact hb
   ·exact absurd (if_neg hb) z
noncomputable abbrev KOf {K:PySem.W.Frag}{h:Heap}(_:K.In h):PySem.W.Frag:=K
theorem walk_of {l:PySem.W.OpenLaw}{n k:Nat}{q:Program}{loose:List Str}{XP:(Str->Option Value)->Heap->Prop}{YP:World->Heap->Prop}{d:DefRec}{K:Params->PySem.W.Frag}{CX:World->CXT}{sp:World->Sp}{x:Str}
  (hn:l.most=some n) (hn2:n<=sizeLine) (hdf:d.params.defaults=[]) (hr:qJ k callerA)
  (hY:∀ (w:World) (h:Heap),YP w h->(K w.params).In h)
  (F:∀ (w:World) (mg:Str->Option Value) (fa:Addr) (h:Heap),(K w.params).In h->h.Ns mainGlobals mg->mg d.name=some (.ref fa) ->
   ∃ fd:FuncData,(∀ (s:Shared) (u:Value),BindsTo s fd ⟨[u],[]⟩ [(x,u)]) /\
    ∀ base:Heap,(K w.params).In base->base.Ns mainGlobals mg->jH l.prog w (K w.params) mg base (CX w) k fa fd [x] (sp w))
  (hsp:∀ (w:World) (H:Hp) (a:Addr) (ns:List Int),ns.length<=n->Ij H->SqL (K w.params) H a (ns.map V.int)->sp w [.ref a] H (fun v _=>v=.bl true) fun _ _ _=>False)
  (hCX:∀ (w:World) (H:Hp) (s:Shared) (e:Value) (s':Shared),CX w [] H s (fun _ _ _=>False) e s'->False) :
  PySem.W.WalkO q loose XP YP l.row.toRowW d [] (fun f vs=>PySem.call f vs):=by
 refine Att.attach_call hn hdf fun w s₀ s₁ mg mb fa o pm cd doc a vs ns G Y ho hd hcd hmg hobj hints hlen hg=>?_
 have KX:=hY w _ Y
 obtain ⟨fd,hb,hF⟩:=F w mg fa _ KX G.T.g hmg
 exact AY KX G.T.g G.T.b G.T.builtins G.T.nolimit hg hobj hints (Nat.le_trans hlen hn2) hr hF hb (fun H hO hS=>hsp w H a ns hlen hO hS) fun H e s'=>hCX w H s₁ e s'
end L2
/- THE LAST THEOREM (shape;LID,My.* are yours):
   My.Adr: a structure of the addresses that your layer names (classes,functions);My.Txt K t: a structure (Prop) of the equations over K;
   My.txt_mk:{K} {implicit addresses ..} (e1:nsIn K mainGlobals "law"=some (some (.ref f))) (e2:K.lookup f=some ⟨oc,od,.func (fnOf "law" "law" params body scope dV kV doc pm an cdv ct),sl⟩) (e3:codeIn K cdv "law"=true) ..:∃ t,My.Txt K t
set_option maxRecDepth 100000 in
set_option maxHeartbeats 0 in
theorem PySem.Challenge.cw_LID_holds:PySem.Challenge.rw_LID.Holds:=by
 w_on;o_law;k_head;(case hw=>w_witness2)
 k_fill
 refine L2.walk_of (l:=PySem.Challenge.rw_LID) (n:=63) (k:=40) (x:="script") (CX:=fun w=>..) (sp:=fun _=>My.sp_law) rfl (by decide) rfl ⟨rfl,by decide,by decide⟩ (fun w h Y=>PySem.W.kIn_of Y) ?F ?S ?C
 case F=>
  intro w mg fa h KX G hmg
  have T:∃ t,My.Txt (L2.KOf KX) t:=by
   dsimp only [L2.KOf]                          -- K must stand as «<heap const> w.params» for k_is
   refine' My.txt_mk ?e1 ?e2 ?e3 ..
   (case e1=>PySem.W.k_is)                    -- in the order: a name->its address->its object->its parts
   (case e2=>PySem.W.k_is)
   ..
  obtain ⟨t,T⟩:=T
  have e0:=hmg.symm.trans (PySem.W.mg_of KX G T.law)
  cases e0                                       -- fa is the law's own address
  exact ⟨_,fun s u=>.of_eq rfl,fun base kb nb=>My.law_fn T kb nb⟩     -- if «.of_eq rfl» comes too early: refine' ⟨_,?b,fun base kb nb=>My.law_fn T kb nb⟩;exact fun s u=>.of_eq rfl
 case S=>exact fun w H a ns hl hO hS=>..
 case C=>exact ..
(the tactic k_is has no namespace: write k_is) -/
namespace L2
open PySem PySem.Spec PyProof.Rows
noncomputable def jo (s:Stmt)(j:Nat):Stmt:=match s with
 | .ClassDef _ _ _ body _ _ _ _ _ _ _=>body.getD j (.Pass ⟨0,0,0,0⟩)
 | _=>.Pass ⟨0,0,0,0⟩
noncomputable def jc (s:Stmt):Arguments:=match s with
 | .FunctionDef _ a _ _ _ _ _ _ _ _=>a
 | _=>{ posonlyargs:=[],args:=[],vararg:=none,kwonlyargs:=[],kw_defaults:=[],kwarg:=none,defaults:=[] }
noncomputable def qr (s:Stmt):List Stmt:=match s with
 | .FunctionDef _ _ b _ _ _ _ _ _ _=>b
 | _=>[]
noncomputable def zg (s:Stmt):Scope:=match s with
 | .FunctionDef _ _ _ _ _ _ sc _ _ _=>sc
 | _=>{ kind:=.function,names:=[],isGenerator:=false,isCoroutine:=false }
noncomputable abbrev CX0:CXT:=fun _ _ _ _ _ _=>False
noncomputable abbrev E0:XK:=fun _ _ _=>False
theorem Vh {X:Cx}:xE CX0 X E0:=fun _ _ _ _ _ _ _ h=>h.elim
structure Fun (K:PySem.W.Frag)(x qual:Str)(st:Stmt)(f:Addr)(fd:FuncData):Prop where
 ex:∃ (oc:Value) (od:Option Addr) (kV doc pm:Value) (an:Option Addr) (cdv ct:Value) (osl:Array (Option Value)),
  fd=PySem.W.fnOf x qual (jc st) (qr st) (zg st) .none kV doc pm an cdv ct/\K.lookup f=some ⟨oc,od,.func fd,osl⟩/\PySem.W.codeIn K cdv qual=true
 kp:PySem.W.keepIn K (.ref f)=true
section
variable {P:Program}{w:World}{K:PySem.W.Frag}{mg:Str->Option Value}{base:Heap}
theorem Fun.ok {x qual:Str}{st:Stmt}{f:Addr}{fd:FuncData}{N ps:List Str}{k:Nat}{sp:Sp}(F:Fun K x qual st f fd)(S:zo N ps (zg st))(len:∀ vs H Q E,sp vs H Q E->vs.length=ps.length)
  (hbody:∀ (cdv:Value) (A:Around) (outer:List Env) (s:Shared) (H:Hp) (vs:List V) (Q:VK) (E:XK),qJ k (A.deeper (envOfC qual (zg st) s.heap.objs.size f cdv))->sp vs H Q E ->
   ∃ t,PSs (ym CX0 P w K mg base N qual (zg st) f cdv A outer s H E).nox (qr st) t/\t { nx:=fun _ H'=>Q .non H',rt:=Q } (start N vs) H):jH P w K mg base CX0 (k+1) f fd ps sp:=by
 obtain ⟨oc,od,kV,doc,pm,an,cdv,ct,osl,rfl,lk,hcd⟩:=F.ex
 refine GY lk hcd S len fun A outer s H vs Q E hr hsp=>?_
 obtain ⟨t,h,q⟩:=hbody cdv A outer s H vs Q E hr hsp
 exact ⟨t,h.nox,q⟩
theorem Fun.binds {x qual:Str}{st:Stmt}{f:Addr}{fd:FuncData}{ps:List Str}(F:Fun K x qual st f fd)
  (h:∀ (kV doc pm:Value) (an:Option Addr) (cdv ct:Value) (us:List Value),us.length=ps.length->bindArgs (PySem.W.fnOf x qual (jc st) (qr st) (zg st) .none kV doc pm an cdv ct) ⟨us,[]⟩=pure (ps.zip us)):j4 K fd ps []:=by
 obtain ⟨oc,od,kV,doc,pm,an,cdv,ct,osl,rfl,lk,hcd⟩:=F.ex
 exact .all (h kV doc pm an cdv ct)
theorem By {x qual:Str}{st:Stmt}{f:Addr}{oc:Value}{od an:Option Addr}{osl:Array (Option Value)}{kV doc pm cdv ct:Value}(l:K.lookup f=some ⟨oc,od,.func (PySem.W.fnOf x qual (jc st) (qr st) (zg st) .none kV doc pm an cdv ct),osl⟩)
  (c:PySem.W.codeIn K cdv qual=true) (k:PySem.W.keepIn K (.ref f)=true):Fun K x qual st f (PySem.W.fnOf x qual (jc st) (qr st) (zg st) .none kV doc pm an cdv ct):=⟨⟨oc,od,kV,doc,pm,an,cdv,ct,osl,rfl,l,c⟩,k⟩
end
theorem Wb {n:Nat}(h:n<=1000):n<sizeLine:=Nat.lt_of_le_of_lt h (by decide)
section
variable {X:Cx}
theorem pv (i:Nat){x:Str}{pos:Pos}(hN:X.N[i]?=some x:=by rfl)(hv:Vis X.env.scope x:=by first | exact Or.inl rfl | exact Or.inr (Or.inl rfl) | exact Or.inr (Or.inr rfl))(hd:(x == ("__debug__":Str))=false:=by decide)
  (hcd:(x == ("__classdict__":Str))=false:=by decide):PE X (.Name x pos) (BH i):=IS hN hv hd hcd
end
theorem yw {c A B:Prop}[Decidable c](h1:c->A)(h2:¬ c->B):if c then A else B:=by
 by_cases h:c
 ·rw [if_pos h]
  exact h1 h
 ·rw [if_neg h]
  exact h2 h
section
variable {κ:Type}[DecidableEq κ]
noncomputable def yJ (kvs:List (κ × V))(k:κ):Option V:=(kvs.find? fun kv=>decide (kv.1=k)).map (·.2)
theorem Ah {p:κ × V}{r:List (κ × V)}{k:κ}(e:p.1=k):yJ (p :: r) k=some p.2:=by simp [yJ,List.find?_cons,e]
theorem Bs {p:κ × V}{r:List (κ × V)}{k:κ}(e:¬ p.1=k):yJ (p :: r) k=yJ r k:=by simp [yJ,List.find?_cons,e]
theorem y8.getD {o:Option V}{u:Option Value}{d:V}{d':Value}(r:y8 o u)(rd:zI d d'):zI (o.getD d) (u.getD d'):=by
 cases o with
 | none=>cases u with
  | none=>exact rd
  | some _=>exact (show False from r).elim
 | some _=>cases u with
  | none=>exact (show False from r).elim
  | some _=>exact r
theorem KV.val {kvs:List (κ × V)}{vs:List (κ × Value)}(r:KV kvs vs)(k:κ):y8 (yJ kvs k) (valueAt vs k):=by
 unfold KV at r
 induction r with
 | nil=>exact True.intro
 | @cons p q ps qs h t ih=>
  obtain ⟨h1,h2⟩:=h
  by_cases e:p.1=k
  ·have e':q.1=k:=h1.symm.trans e
   have b:valueAt (q :: qs) k=some q.2:=by simp [valueAt,List.find?_cons,e']
   rw [Ah e,b];exact h2
  ·have e':¬ q.1=k:=fun z=>e (h1.trans z)
   have b:valueAt (q :: qs) k=valueAt qs k:=by simp [valueAt,List.find?_cons,e']
   rw [Bs e,b];exact ih
end
theorem LU {P:Program}{w:World}{k:Key}{u:Value}(r:zI (kV k) u):(jG P w).is k u=true:=by
 cases k with
 | inl i=>obtain ⟨t,e⟩:=(show ∃ t,u=Value.int i t from r);subst e;exact Q5 P w i t
 | inr x=>obtain ⟨t,e⟩:=(show ∃ t,u=Value.str x t from r);subst e;exact Jy P w x t
section
variable {P:Program}{w:World}{H:Hp}{h:Heap}{a:Addr}
end
section
variable {X:Cx}{pins:List (Addr × Obj)}{σ:St}{H:Hp}{s:Shared}{a:Addr}{y v:V}{u r:Value}{o:Option V}{A:Around}{E:Value->Shared->Prop}
end
section
variable {X:Cx}{pins:List (Addr × Obj)}{σ:St}{H:Hp}{s:Shared}{a:Addr}{kvs:List (Key × V)}{k:Key}{u:Value}{A:Around}{E:Value->Shared->Prop}
end
section
variable {X:Cx}{o i e value:Expr}{pos pos' tpos:Pos}{td ty tv:TE}
end
section
variable {X:Cx}{pos:Pos}
end
structure M1 (X:Cx)(o:Expr)(m:Str)(apos:Pos)(e:Expr)(cpos:Pos):Prop where
 base:attributeBase o m X.env (eval o X.env)=eval o X.env
 few:((backTo cpos (starEach [e] X.env)).all (fun x=>!x.1) && (backToKw cpos (keywordEach [] X.env)).all (fun x=>x.1.isSome)
  && decide (([e]:List Expr).length+([]:List Keyword).length+(if ([]:List Keyword).isEmpty then 0 else 1)<30))=true
 line:(apos.endLine == cpos.line)=true
 trees:backTo cpos (starEach [e] X.env)=[(false,eval e X.env)]
structure M2 (X:Cx)(o:Expr)(m:Str)(apos:Pos)(e f:Expr)(cpos:Pos):Prop where
 base:attributeBase o m X.env (eval o X.env)=eval o X.env
 few:((backTo cpos (starEach [e,f] X.env)).all (fun x=>!x.1) && (backToKw cpos (keywordEach [] X.env)).all (fun x=>x.1.isSome)
  && decide (([e,f]:List Expr).length+([]:List Keyword).length+(if ([]:List Keyword).isEmpty then 0 else 1)<30))=true
 line:(apos.endLine == cpos.line)=true
 trees:backTo cpos (starEach [e,f] X.env)=[(false,eval e X.env),(false,eval f X.env)]
section
variable {X:Cx}{pins:List (Addr × Obj)}{σ:St}{H:Hp}{s:Shared}{a:Addr}{y d:V}{u r:Value}{o:Option V}{A:Around}{E:Value->Shared->Prop}
end
section
variable {X:Cx}{o e f:Expr}{apos cpos:Pos}{td ty tx:TE}
end
section
variable {X:Cx}{pins:List (Addr × Obj)}{σ:St}{H:Hp}{s:Shared}{a:Addr}{kvs:List (Key × V)}{A:Around}{E:Value->Shared->Prop}
end
section
variable {X:Cx}{pins:List (Addr × Obj)}{σ:St}{H:Hp}{s:Shared}{a:Addr}{y:V}{u:Value}{A:Around}{E:Value->Shared->Prop}
end
section
variable {κ:Type}[DecidableEq κ]
end
end L2
set_option Elab.async false
set_option linter.all false
set_option maxRecDepth 100000
set_option maxHeartbeats 4000000
namespace L2
open PySem PySem.Spec PyProof.Rows
noncomputable def Xc (N:List Str)(ts:List Nat)(sc:Scope)(kind:Str->Option NameKind):Bool:=
 sc.kind == .function && sc.names.all (fun y=>y.2 != .cell && (y.2 != .local || sc.names.lookup y.1 == some .local) && (y.2 != .free || kind y.1 == some .cell || kind y.1 == some .free)) &&
  N.zipIdx.all (fun p=>sc.names.lookup p.1 != some .local || ts.contains p.2)
noncomputable def jd (cells:List (Str × Addr)):List (Str × NameKind)->List (Str × Addr)->List (Str × Addr)
 | [],acc=>acc
 | (n,k) :: r,acc=>jd cells r (if k=.free then (n,(cells.lookup n).getD 0) :: acc else acc)
theorem QO {env:Env}:∀ (names:List (Str × NameKind)) (acc:List (Str × Addr)),(∀ y ∈ names,y.2=.free->∃ c,env.cells.lookup y.1=some c) ->
  (forIn names acc fun (x:Str × NameKind) (cs:List (Str × Addr))=>(match x with | (name,kind)=>if (kind == NameKind.free)=true then (do let c <- cellOf env name;pure (ForInStep.yield ((name,c) :: cs))) else pure (ForInStep.yield cs):Sem (ForInStep (List (Str × Addr)))))=pure (jd env.cells names acc)
 | [],acc,_=>rfl
 | (n,k) :: r,acc,h=>by
  rw [List.forIn_cons]
  by_cases hk:k=.free
  ·subst hk
   obtain ⟨c,hc⟩:=h (n,.free) List.mem_cons_self rfl
   have e1:cellOf env n=pure c:=by unfold cellOf;rw [hc]
   simp only [beq_self_eq_true,if_true,e1,pure_bind]
   rw [QO r _ fun y hy=>h y (List.mem_cons_of_mem _ hy)]
   show _=pure (jd env.cells r (if NameKind.free=.free then _ else _))
   rw [if_pos rfl,hc];rfl
  ·have hb:(k == NameKind.free)=false:=by simpa using hk
   simp only [hb,Bool.false_eq_true,if_false,pure_bind]
   rw [QO r _ fun y hy=>h y (List.mem_cons_of_mem _ hy)]
   show _=pure (jd env.cells r (if k=.free then _ else _))
   rw [if_neg hk]
theorem yM {cells : List (Str × Addr)} : ∀ (names : List (Str × NameKind)) (acc : List (Str × Addr)), (∀ y ∈ names, y.2 = .free -> ∃ c, cells.lookup y.1 = some c) -> (∀ x c, acc.lookup x = some c -> cells.lookup x = some c) ->
    (∀ x c,(jd cells names acc).lookup x=some c->cells.lookup x=some c)/\(∀ x c,acc.lookup x=some c->∃ c',(jd cells names acc).lookup x=some c')/\∀ y ∈ names,y.2=.free->∃ c,(jd cells names acc).lookup y.1=some c
  | [],acc,_,h2=>⟨h2,fun x c e=>⟨c,e⟩,fun y hy=>nomatch hy⟩
  | (n,k) :: r,acc,h1,h2=>by
    by_cases hk:k=.free
    · subst hk
      obtain ⟨c,hc⟩:=h1 (n,.free) List.mem_cons_self rfl
      have hc:cells.lookup n=some c:=hc
      have e:jd cells ((n,.free) :: r) acc=jd cells r ((n,c) :: acc):=by
        show jd cells r (if NameKind.free=.free then _ else _)=_
        rw [if_pos rfl,hc];rfl
      rw [e]
      obtain ⟨q1,q2,q3⟩:=yM (cells:=cells) r ((n,c) :: acc) (fun y hy=>h1 y (List.mem_cons_of_mem _ hy)) (fun x c' e'=>by
        rw [List.lookup_cons] at e'
        cases hx:x == n with
        | true => rw [hx] at e'; have : x = n := by simpa using hx
                  subst this;cases e';exact hc
        | false=>rw [hx] at e';exact h2 x c' e')
      refine ⟨q1,fun x c' e'=>?_,fun y hy hf=>?_⟩
      · cases hx:x == n with
        | true=>exact q2 x c (by rw [List.lookup_cons,hx])
        | false=>exact q2 x c' (by rw [List.lookup_cons,hx];exact e')
      · rcases List.mem_cons.mp hy with rfl | hy
        · exact q2 n c (by rw [List.lookup_cons,beq_self_eq_true])
        · exact q3 y hy hf
    · have e : jd cells ((n, k) :: r) acc = jd cells r acc := by
        show jd cells r (if k=.free then _ else _)=_
        rw [if_neg hk]
      rw [e]
      obtain ⟨q1,q2,q3⟩:=yM (cells:=cells) r acc (fun y hy=>h1 y (List.mem_cons_of_mem _ hy)) h2
      refine ⟨q1,q2,fun y hy hf=>?_⟩
      rcases List.mem_cons.mp hy with rfl | hy
      · exact absurd hf hk
      · exact q3 y hy hf
theorem wD {scope:Scope}{env:Env}(h:∀ y ∈ scope.names,y.2=.free->∃ c,env.cells.lookup y.1=some c) :
  ∃ cl,closureFor scope env=pure cl/\(∀ x c,cl.lookup x=some c->env.cells.lookup x=some c)/\∀ y ∈ scope.names,y.2=.free->∃ c,cl.lookup y.1=some c:=by
 obtain ⟨q1,_,q3⟩:=yM (cells:=env.cells) scope.names [] h (fun x c e=>nomatch e)
 refine ⟨jd env.cells scope.names [],?_,q1,q3⟩
 unfold closureFor
 have:=QO (env:=env) scope.names [] h
 first
  | exact this
  | (simp only [bind_pure];exact this)
  | (refine Eq.trans ?_ this;simp)
theorem yx {env:Env}:∀ {names:List (Str × NameKind)} {x:Str},(names.map fun (n,k)=>if (k == NameKind.free && env.scope.kind == .function && env.kindOf n == some .cell) then (n,NameKind.cell) else (n,k)).lookup x =
  (names.lookup x).map fun k=>if (k == NameKind.free && env.scope.kind == .function && env.kindOf x == some .cell) then NameKind.cell else k
 | [],_=>rfl
 | (n,k) :: r,x=>by
  have ih:=@yx env r x
  rw [List.map_cons]
  cases hx:x == n with
  | true=>
   have e:x=n:=by simpa using hx
   subst e
   rw [List.lookup_cons (as:=r),beq_self_eq_true]
   show List.lookup x ((if (k == NameKind.free && env.scope.kind == .function && env.kindOf x == some .cell)=true then (x,NameKind.cell) else (x,k)) :: _)=some _
   by_cases hc:(k == NameKind.free && env.scope.kind == .function && env.kindOf x == some .cell)=true
   ·rw [if_pos hc,List.lookup_cons,beq_self_eq_true];dsimp only;rw [if_pos hc]
   ·rw [if_neg hc,List.lookup_cons,beq_self_eq_true];dsimp only;rw [if_neg hc]
  | false=>
   rw [List.lookup_cons (as:=r),hx]
   show List.lookup x ((if (k == NameKind.free && env.scope.kind == .function && env.kindOf n == some .cell)=true then (n,NameKind.cell) else (n,k)) :: _)=_
   by_cases hc:(k == NameKind.free && env.scope.kind == .function && env.kindOf n == some .cell)=true
   ·rw [if_pos hc,List.lookup_cons,hx];exact ih
   ·rw [if_neg hc,List.lookup_cons,hx];exact ih
noncomputable abbrev cxC (X:Cx)(scope:Scope)(cl:List (Str × Addr))(s:Shared)(H:Hp)(fp:List Addr):Cx:=
 { X with s₀:=s,H₀:=H,env:=compEnvC scope cl s.heap.objs.size X.env,outer:=X.stack,ex:=fp,fn:=fun _=>false,pn:=[],xe:=fun _ _=>False }
noncomputable def clr:List Nat->St->St
 | [],σ=>σ
 | j :: r,σ=>clr r (σ.set j none)
theorem YB:∀ (ts:List Nat) (σ:St),(clr ts σ).length=σ.length
 | [],_=>rfl
 | j :: r,σ=>by show (clr r (σ.set j none)).length=_;rw [YB r];simp
theorem Kb:∀ (ts:List Nat) (σ:St) (i:Nat) (v:V),(clr ts σ)[i]?=some (some v)->i ∉ ts/\σ[i]?=some (some v)
 | [],_,_,_,h=>⟨by simp,h⟩
 | j :: r,σ,i,v,h=>by
  obtain ⟨h1,h2⟩:=Kb r (σ.set j none) i v h
  by_cases e:j=i
  ·subst e
   rw [List.getElem?_set] at h2
   simp at h2
  ·rw [List.getElem?_set_ne e] at h2
   exact ⟨by simp [h1,Ne.symm e],h2⟩
structure ScF (X:Cx)(ts:List Nat)(scope:Scope):Prop where
 kind:scope.kind=.function
 cell:∀ y ∈ scope.names,y.2 ≠ .cell
 loc:∀ y ∈ scope.names,y.2=.local->scope.names.lookup y.1=some .local
 free:∀ y ∈ scope.names,y.2=.free->X.env.kindOf y.1=some .cell \/ X.env.kindOf y.1=some .free
 ts:∀ (i:Nat) x,X.N[i]?=some x->scope.names.lookup x=some .local->i ∈ ts
theorem B1 {X:Cx}{ts:List Nat}{scope:Scope}(h:Xc X.N ts scope X.env.kindOf=true):ScF X ts scope:=by
  unfold Xc at h
  simp only [Bool.and_eq_true,List.all_eq_true,bne_iff_ne,ne_eq,Bool.or_eq_true,beq_iff_eq] at h
  obtain ⟨⟨h1,h2⟩,h3⟩:=h
  refine ⟨h1,fun y hy=>(h2 y hy).1.1,fun y hy e=>?_,fun y hy e=>?_,fun i x e1 e2=>?_⟩
  · rcases (h2 y hy).1.2 with z | z
    · exact absurd e z
    · exact z
  · rcases (h2 y hy).2 with (z | z) | z
    · exact absurd e z
    · exact .inl z
    · exact .inr z
  · have hm : (x, i) ∈ X.N.zipIdx := by
      rw [List.mem_zipIdx_iff_getElem?];exact e1
    rcases h3 _ hm with z | z
    · exact absurd e2 z
    · simpa using z
section
variable {X:Cx}{ts:List Nat}{scope:Scope}{pins:List (Addr × Obj)}{σ:St}{H:Hp}{s:Shared}{fp:List Addr}
theorem wX (I:Inv X pins σ H s)(S:ScF X ts scope)(hf:∀ b ∈ fp,xO X pins H b)(hfl:∀ b ∈ fp,b<s.heap.objs.size){cl:List (Str × Addr)}(c1:∀ x c,cl.lookup x=some c->X.env.cells.lookup x=some c)
  (c2:∀ y ∈ scope.names,y.2=.free->∃ c,cl.lookup y.1=some c) {h1:Heap} {t1:Nat} (hns:h1.Ns s.heap.objs.size (fun x=>([]:List (Str × Value)).reverse.lookup x))
  (hk:∀ b o,s.heap.get? b=some o->h1.get? b=some o):Inv (cxC X scope cl s H fp) [] (clr ts σ) H { s with heap:=h1,toks:=t1 }:=by
 have hlk:∀ x,(relabel scope X.env).names.lookup x=(scope.names.lookup x).map fun k=>if (k == NameKind.free && X.env.scope.kind == .function && X.env.kindOf x == some .cell) then NameKind.cell else k:=fun x=>yx
 have cfree:∀ x,((relabel scope X.env).names.lookup x=some .cell \/ (relabel scope X.env).names.lookup x=some .free)->(x,NameKind.free) ∈ scope.names:=fun x hx=>by
  rw [hlk] at hx
  cases e:scope.names.lookup x with
  | none=>rw [e] at hx;rcases hx with hx | hx <;> cases hx
  | some k=>
   have hm:=mem_of_lookup_some e
   cases k with
   | free=>exact hm
   | cell=>exact absurd rfl (S.cell _ hm)
   | «local»=>rw [e] at hx;rcases hx with hx | hx <;> cases hx
   | globalExplicit=>rw [e] at hx;rcases hx with hx | hx <;> cases hx
   | globalImplicit=>rw [e] at hx;rcases hx with hx | hx <;> cases hx
 have ccell:∀ x c,cl.lookup x=some c->∃ v,s.heap.IsCell c v:=fun x c e=>I.cell x c (c1 x c e)
 have fpne:∀ b ∈ fp,b ∉ frs X.stack:=fun b hb z=>by
  obtain ⟨_,f1,f2,_⟩:=hf b hb
  rcases List.mem_cons.mp (I.stkSub b z) with e | e
  ·exact f1 e
  ·exact f2 e
 refine ⟨⟨I.ok.mod,S.kind,I.ok.glob,I.ok.blt,Nat.le_refl _,fun x y c e1 e2=>I.ok.inj x y c (c1 x c e1) (c1 y c e2),fun x hx=>c2 (x,.free) (cfree x hx) rfl,(fun x c hx=>nomatch hx),I.ok.hd,I.ok.frames,.inl rfl,fun b hb=>⟨Nat.ne_of_lt (hfl b hb),fun x c e=>(hf b hb).2.2.2.2.1 x c (c1 x c e)⟩,
  I.bs,Nat.le_trans I.ok.bsz I.sz,fun b o e hb=>?_,fpne,I.stack,I.stkFree⟩,rfl,I.bare,Un.kept hk,⟨_,hns,fun i x v e1 e2 e3=>?_⟩,fun x c e=>?_,I.hok.fresh (Nat.le_refl _),fun x c e=>I.freeC x c (c1 x c e),fun p hp=>absurd hp (by simp),I.hok.kept hk,by rw [YB];exact I.len⟩
 ·rcases (hf b hb).2.2.2.1 with z | z
  ·exact I.ok.noex b o e z
  ·exact absurd (Nat.lt_of_lt_of_le (Heap.lt_size e) (Nat.le_trans I.ok.bsz z)) (Nat.lt_irrefl _)
 ·obtain ⟨nt,e2⟩:=Kb ts σ i v e2
  have e3':(relabel scope X.env).names.lookup x=some .local \/ (relabel scope X.env).names.lookup x=some .cell \/ (relabel scope X.env).names.lookup x=some .free:=e3
  rcases e3' with z | z
  ·rw [hlk] at z
   cases e:scope.names.lookup x with
   | none=>rw [e] at z;cases z
   | some k=>
    rw [e] at z
    have z':(if (k == NameKind.free && X.env.scope.kind == .function && X.env.kindOf x == some .cell)=true then NameKind.cell else k)=.local:=Option.some.inj z
    split at z'
    ·cases z'
    ·subst z'
     exact absurd (S.ts i x e1 e) nt
  ·have hm:=cfree x z
   obtain ⟨c,hc⟩:=c2 _ hm rfl
   obtain ⟨m,hn,hl⟩:=I.loc
   have vis:Vis X.env.scope x:=by
    rcases S.free _ hm rfl with q | q
    ·exact .inr (.inl q)
    ·exact .inr (.inr q)
   obtain ⟨u,r,l⟩:=hl i x v e1 e2 vis
   refine ⟨u,r,.inr ⟨z,c,hc,?_⟩⟩
   rcases l with ⟨q,_⟩ | ⟨_,c',hc',hcell⟩
   ·rcases S.free _ hm rfl with q' | q'
    ·rw [q'] at q;cases q
    ·rw [q'] at q;cases q
   ·rw [c1 x c hc] at hc'
    cases hc'
    obtain ⟨o,ho,hd⟩:=hcell
    exact ⟨o,hk _ _ ho,hd⟩
 ·obtain ⟨v,o,ho,hd⟩:=ccell x c e
  exact ⟨v,o,hk _ _ ho,hd⟩
end
section
variable {prog:Program}{w:World}{A:Around}{R:Result->Shared->Prop}{s:Shared}
theorem xR {elt target iter : Expr}{ifs : List Expr}{scope : Scope}{pos : Pos}{it acc : Value}{env : Env}(I : Nat -> Shared -> Prop)
    (turn:∀ n s,I n s->wpAny (model prog w) A (pyNext it) (fun r s₁=>match r with
      | none=>R (.ok .next) s₁
      | some v => wpAny (model prog w) A (letOwnedTupleGo target it v) (fun _ s₀ => wpAny (model prog w) A (assign target env v) (fun _ s₂ =>
          wpAny (model prog w) A (forIn ifs true fun c r=>if r=true then do let ok <- isTrue c env (eval c env);pure (ForInStep.yield ok) else pure (ForInStep.yield r)) (fun ok s₃=>
            if ok=true then wpAny (model prog w) A (eval elt env) (fun x s₄=>
              wpAny (model prog w) A (call (.builtin "list.append") [acc,x]) (fun _ s₅=>∃ m,m<n/\I m s₅) (fun _ _=>False) s₄) (fun _ _=>False) s₃
            else ∃ m,m<n/\I m s₃) (fun _ _=>False) s₂) (fun _ _=>False) s₀) (fun _ _=>False) s₁) (fun _ _=>False) s)
    (n:Nat) (h:I n s) :
    codeAny (model prog w) A (.compLoop (.ListComp elt [⟨target,iter,ifs,0⟩] scope pos) 0 it acc env) R s:=by
  refine codeAny_loop rfl I (fun n s hI=>?_) n h
  show wpAny _ A ((compTurn (.ListComp elt [⟨target,iter,ifs,0⟩] scope pos) 0 it acc env).onRaise (fun x=>do noteFrame x env;theTreesLotGoes x)) _ _ s
  refine wpAny_noted ?_
  rw [compTurn_list]
  refine wpAny_bind (wpAny_standAt (wpAny_bind (wpAny_mono (turn n s hI) (fun r s₁ h₁=>?_) fun _ _ h'=>h'.elim)))
  cases r with
  | none=>exact wpAny_pure h₁
  | some v=>
    refine wpAny_bind (wpAny_mono h₁ (fun _ s₀ h₀=>?_) fun _ _ h'=>h'.elim)
    refine wpAny_bind (wpAny_mono h₀ (fun _ s₂ h₂=>wpAny_bind (wpAny_mono h₂ (fun ok s₃ h₃=>?_) fun _ _ h'=>h'.elim)) fun _ _ h'=>h'.elim)
    cases ok with
    | false=>exact wpAny_pure ⟨rfl,h₃⟩
    | true=>
      exact wpAny_bind (wpAny_bind (wpAny_mono h₃ (fun x s₄ h₄=>wpAny_bind (wpAny_mono h₄ (fun _ s₅ h₅=>wpAny_pure (wpAny_pure ⟨rfl,h₅⟩)) fun _ _ h'=>h'.elim)) fun _ _ h'=>h'.elim))
end
noncomputable def DA:TT:=fun _ H Q=>Q true H
noncomputable def PIf (X:Cx)(ifs:List Expr)(t:TT):Prop:=
 ∀ (pins:List (Addr × Obj)) (s:Shared) (σ:St) (H:Hp) (Q:Bool->Hp->Prop),Inv X pins σ H s->t σ H Q ->
  wpAny (model X.prog X.w) X.A (forIn ifs true fun c r=>if r=true then do let ok <- isTrue c X.env (eval c X.env);pure (ForInStep.yield ok) else pure (ForInStep.yield r)) (TP X pins σ Q) X.xe s
theorem qG {X:Cx}:PIf X [] DA:=fun _ _ _ H _ I h=>wpAny_tests_nil ⟨H,I,h⟩
theorem Qt {X:Cx}{c:Expr}{t:TT}(h:PT X c t):PIf X [c] t:=fun pins s σ H Q I hq=>wpAny_tests_one (h pins s σ H Q I hq)
noncomputable def J1 (ts:List Nat)(wi:TI)(g:TG)(tt:TT)(te:TE):TE:=fun σ H Q=>wi σ H fun J H1=>∀ D,H1 D=none->∃ W:Nat->Nat->St->Hp->Prop,(∃ m,W 0 m (clr ts σ) (upd H1 D (.lst [])))/\∀ i m τ H2,W i m τ H2 ->
 (J.stop i H2/\Q (.ref D) H2) \/ (J.go i H2/\∃ N:St->Hp->Prop,(∀ τ' H',N τ' H'->∃ m',m'<m/\W (i+1) m' τ' H')/\∀ x H',J.yld i H2 x H'->g x τ H' fun τ2 H3=>tt τ2 H3 fun b H4=>
  if b=true then te τ2 H4 fun v H5=>∃ ys,H5 D=some (.lst ys)/\ys.length<sizeLine/\N τ2 (upd H5 D (.lst (ys ++ [v]))) else N τ2 H4)
section
variable {X:Cx}{ts:List Nat}{scope:Scope}{tg iter elt:Expr}{ifs:List Expr}{wi:TI}{g:TG}{tt:TT}{te:TE}{pos:Pos}
theorem Jn (hc:X.calm=true)(hsc:Xc X.N ts scope X.env.kindOf=true)(hi:PI X tg iter wi)(hg:∀ cl s H fp,PG (cxC X scope cl s H fp) tg g)(ht:∀ cl s H fp,PIf (cxC X scope cl s H fp) ifs tt)(he:∀ cl s H fp,PE (cxC X scope cl s H fp) elt te)
  {pins:List (Addr × Obj)} {s:Shared} {σ:St} {H:Hp} {Q:VK} (I:Inv X pins σ H s) (h:J1 ts wi g tt te σ H Q) {use:Option (Value->Sem Unit)} {Q':Value->Shared->Prop}
  (fin:∀ (D C:Addr) (H':Hp) (s':Shared),Inv X pins σ H' s'->(∃ m,s'.heap.Ns C m)->H' C=none->C ≠ X.env.locals->(∀ x c,X.env.cells.lookup x=some c->c ≠ C)->X.s₀.heap.objs.size<=C->(∀ p ∈ X.pn ++ pins,p.1 ≠ C)->C ∉ X.fs->Q (.ref D) H' ->
   compPost (model X.prog X.w) X.A X.xe use Q' (.ref D) C (.ok .next) s')
  (hs:∀ x,foldedSetIterable iter X.env x=pure x) :
  wpAny (model X.prog X.w) X.A (comprehension (.ListComp elt [⟨tg,iter,ifs,0⟩] scope pos) scope X.env (firstIterPos [⟨tg,iter,ifs,0⟩] pos) (newList []) false (eval iter X.env) use) Q' X.xe s:=by
 have S:=B1 hsc
 obtain ⟨cl,hcl,c1,c2⟩:=wD (scope:=scope) (env:=X.env) fun y hy e=>I.ok.has y.1 (S.free y hy e)
 refine wpAny_comprehension_free (use:=use) rfl hs hcl S.kind S.loc ?_
 refine wpAny_mono (hi pins s σ H _ I h) (fun v s1 h1=>wpAny_mono h1 (fun itv s2 h2=>?_) fun _ _ e=>e) fun _ _ e=>e
 obtain ⟨it,fp,tn,J,H2,e,I2,T,st2,f2,q2⟩:=h2
 subst e
 have hD:H2 s2.heap.objs.size=none:=I2.hok.fresh (Nat.le_refl _)
 obtain ⟨W,⟨m0,w0⟩,turn⟩:=q2 _ hD
 refine wpAny_newObj_type (wpAny_newFunctionEnv S.cell (by intro y hy;simp at hy) (fun h₁ hns₁ hsb₁=>?_) S.kind)
 dsimp only at hns₁ hsb₁ ⊢
 generalize hh3:s2.heap.push { cls:=.type "list",dict:=none,data:=.seq ([]:List Value).toArray }=g3 at hns₁ hsb₁ ⊢
 have I3:Inv X pins σ (upd H2 s2.heap.objs.size (.lst [])) { s2 with heap:=g3 }:=by
  rw [<- hh3]
  exact I2.laid (t':=s2.toks) (fun b u e=>Heap.get?_push_of_some _ e) (Nat.le_refl _) ⟨Nat.zero_le _,[],_,.nil,Heap.get?_push_size _ rfl⟩
 have st3:tn 0 g3:=T.keep _ _ _ st2 fun b _ o e=>by rw [<- hh3];exact Heap.get?_push_of_some _ e
 have lt2:∀ b ∈ fp,b<s2.heap.objs.size:=fun b hb=>by obtain ⟨o,e,_⟩:=T.obj _ _ st2 b hb;exact Heap.lt_size e
 have hsz3:g3.objs.size=s2.heap.objs.size+1:=by rw [<- hh3,Heap.size_push]
 have f3:∀ b ∈ fp,xO X pins (upd H2 s2.heap.objs.size (.lst [])) b:=fun b hb=>⟨by rw [zm (Nat.ne_of_lt (lt2 b hb))];exact (f2 b hb).1,(f2 b hb).2⟩
 have lt3:∀ b ∈ fp,b<g3.objs.size:=fun b hb=>by rw [hsz3];exact Nat.lt_succ_of_lt (lt2 b hb)
 have old:∀ b o,g3.get? b=some o->h₁.get? b=some o:=fun b o e=>hsb₁.extBut b o (Nat.ne_of_lt (Heap.lt_size e)) (Heap.get?_push_of_some _ e)
 have hns:h₁.Ns g3.objs.size (fun x=>([]:List (Str × Value)).reverse.lookup x):=hns₁
 have I4:∀ t,Inv (cxC X scope cl { s2 with heap:=g3 } (upd H2 s2.heap.objs.size (.lst [])) fp) [] (clr ts σ) (upd H2 s2.heap.objs.size (.lst [])) { s2 with heap:=h₁,toks:=t }:=fun t=>wX I3 S f3 lt3 c1 c2 hns old
 have fpne:∀ b ∈ fp,b ∉ frs X.stack:=fun b hb z=>by
  obtain ⟨_,f1,f2,_⟩:=f3 b hb
  rcases List.mem_cons.mp (I3.stkSub b z) with e | e
  ·exact f1 e
  ·exact f2 e
 have stat:∀ {H':Hp},(∀ b ∈ fp,H' b=none)->∀ b ∈ fp,xO (cxC X scope cl { s2 with heap:=g3 } (upd H2 s2.heap.objs.size (.lst [])) fp) [] H' b:=fun hn b hb=>
  ⟨hn b hb,Nat.ne_of_lt (lt3 b hb),fpne b hb,.inl hb,fun x c e=>(f2 b hb).2.2.2.2.1 x c (c1 x c e),fun p hp=>absurd hp (by simp)⟩
 have loop:∀ t,codeAny (model X.prog X.w) X.A (.compLoop (.ListComp elt [⟨tg,iter,ifs,0⟩] scope pos) 0 (.ref it) (.ref s2.heap.objs.size) (compEnvC scope cl g3.objs.size X.env))
   (compPost (model X.prog X.w) X.A X.xe use Q' (.ref s2.heap.objs.size) g3.objs.size) { s2 with heap:=h₁,toks:=t }:=by
  intro t
  refine xR (fun n s'=>∃ i τ H',Inv (cxC X scope cl { s2 with heap:=g3 } (upd H2 s2.heap.objs.size (.lst [])) fp) [] τ H' s'/\tn i s'.heap/\(∀ b ∈ fp,H' b=none)/\W i n τ H') ?_ m0
   ⟨0,clr ts σ,_,I4 t,T.keep _ _ _ st3 fun b _ o e=>old b o e,fun b hb=>(f3 b hb).1,w0⟩
  rintro n s5 ⟨i,τ,H5,I5,st5,fr5,w5⟩
  rcases turn i n τ H5 w5 with ⟨stop,qn⟩ | ⟨go,N,hN,step⟩
  ·refine thn (T.done (cxC X scope cl { s2 with heap:=g3 } (upd H2 s2.heap.objs.size (.lst [])) fp) rfl rfl rfl hc i [] s5 τ H5 _ I5 (stat fr5) st5 stop) fun r s6 ⟨hr,I6⟩=>?_
   subst hr
   have base:Un (frs X.stack) fp (upd H2 s2.heap.objs.size (.lst [])) H5 g3 s6.heap:=I6.base
   have J6:Inv X pins σ H5 s6:=I3.call' (ch:=fp) I6.os base I6.hok I6.bare fun b hb=>⟨(f3 b hb).2.2.2.1,(f3 b hb).2.1,(f3 b hb).2.2.2.2.1,(f3 b hb).2.2.2.2.2⟩
   obtain ⟨m6,n6,_⟩:=I6.loc
   have hC:g3.get? g3.objs.size=none:=Heap.get?_none_of_le (Nat.le_refl _)
   refine fin _ g3.objs.size H5 s6 J6 ⟨m6,n6⟩ I6.free (Nat.ne_of_gt I3.lt) (fun x c e z=>?_) I3.sz (fun p hp z=>?_) (I3.nofs (Nat.le_refl _)) qn
   ·obtain ⟨v,q⟩:=I3.cell x c e
    exact absurd q.lt (by rw [z];exact Nat.lt_irrefl _)
   ·exact absurd (Heap.lt_size (I3.pin p hp).1) (by rw [z];exact Nat.lt_irrefl _)
  ·refine thn (T.item (cxC X scope cl { s2 with heap:=g3 } (upd H2 s2.heap.objs.size (.lst [])) fp) rfl rfl rfl hc i [] s5 τ H5 _ I5 (stat fr5) st5 go) fun r s6 ⟨u,hr,h6⟩=>?_
   subst hr
   refine thn h6 fun _ s7 ⟨x,H7,I7,r7,y7,st7,fr7⟩=>?_
   have I7':=I7.pinned (stat fr7) (T.obj _ _ st7)
   refine thn (hg cl { s2 with heap:=g3 } _ fp _ s7 τ H7 x u _ I7' r7 (step x H7 y7)) fun _ s8 ⟨τ8,H8,I8,q8⟩=>?_
   refine thn (ht cl { s2 with heap:=g3 } _ fp _ s8 τ8 H8 _ I8 q8) fun b s9 ⟨H9,I9,q9⟩=>?_
   have again:∀ {τ9:St} {H9:Hp} {s9:Shared},Inv (cxC X scope cl { s2 with heap:=g3 } (upd H2 s2.heap.objs.size (.lst [])) fp) ([] ++ y6 fp s7.heap) τ9 H9 s9->N τ9 H9 ->
     ∃ m,m<n/\∃ i τ H',Inv (cxC X scope cl { s2 with heap:=g3 } (upd H2 s2.heap.objs.size (.lst [])) fp) [] τ H' s9/\tn i s9.heap/\(∀ b ∈ fp,H' b=none)/\W i m τ H':=fun {τ9 H9 s9} I9 n9=>by
    obtain ⟨m',hm,w9⟩:=hN _ _ n9
    refine ⟨m',hm,i+1,τ9,H9,I9.unpinned,T.keep _ _ _ st7 fun b hb o e=>(I9.pin (b,o) (List.mem_append_right _ (List.mem_append_right _ (jj hb e)))).1,fun b hb=>?_,w9⟩
    obtain ⟨o,e,d⟩:=T.obj _ _ st7 b hb
    exact (I9.pin (b,o) (List.mem_append_right _ (List.mem_append_right _ (jj hb e)))).2.1
   cases b with
   | false=>
    rw [if_neg Bool.false_ne_true] at q9 ⊢
    exact again I9 q9
   | true=>
    rw [if_pos rfl] at q9 ⊢
    refine thn (he cl { s2 with heap:=g3 } _ fp _ s9 τ8 H9 _ I9 q9) fun y s10 ⟨v,H10,I10,r10,ys,hys,hlen,n10⟩=>?_
    exact thn (yZ (X:=cxC X scope cl { s2 with heap:=g3 } (upd H2 s2.heap.objs.size (.lst [])) fp) _ s10 τ8 H10 (.ref s2.heap.objs.size) [v] (.ref s2.heap.objs.size) [y] (fun _ H11=>N τ8 H11) I10 rfl (.cons r10 .nil) ⟨_,ys,v,rfl,rfl,hys,hlen,n10⟩) fun _ s11 ⟨_,H11,I11,_,n11⟩=>again I11 n11
 have LW:=loop (s2.toks+([]:List (Str × Value)).length)
 exact codeAny_compStart_list LW (T.self _ 0 _ _ _ (T.keep _ _ _ st3 fun b _ o e=>old b o e) LW)
end
section
variable {X:Cx}{ts:List Nat}{scope:Scope}{tg iter elt:Expr}{ifs:List Expr}{wi:TI}{g:TG}{tt:TT}{te:TE}{pos:Pos}
theorem qI (hc:X.calm=true)(hsc:Xc X.N ts scope X.env.kindOf=true)(hi:PI X tg iter wi)(hg:∀ cl s H fp,PG (cxC X scope cl s H fp) tg g)(ht:∀ cl s H fp,PIf (cxC X scope cl s H fp) ifs tt)(he:∀ cl s H fp,PE (cxC X scope cl s H fp) elt te)
  (hs:∀ x,foldedSetIterable iter X.env x=pure x:=by intro _;rfl):PE X (.ListComp elt [⟨tg,iter,ifs,0⟩] scope pos) (J1 ts wi g tt te):=by
 intro pins s σ H Q I h
 rw [eval_ListComp]
 refine Jn hc hsc hi hg ht he I h (use:=none) (fun D C H' s' I' ⟨m,hn⟩ hC hL hce hsz hp hfs q=>⟨m,hn,fun h' hs'=>?_⟩) hs
 exact ⟨.ref D,H',I'.turned (t':=s'.toks) (it:=C) (fun b o hb e=>(hs'.2 b hb).trans e) hC hL (.inr hsz) hce hp,rfl,q⟩
theorem Gi {j:Nat}{y:Str}{py spos:Pos}(hc:X.calm=true)(hN:X.N.Nodup)(hj:X.N[j]?=some y)(hy:Loc X.env.scope y)(hsc:Xc X.N ts scope X.env.kindOf=true)(hi:PI X tg iter wi)(hg:∀ cl s H fp,PG (cxC X scope cl s H fp) tg g)(ht:∀ cl s H fp,PIf (cxC X scope cl s H fp) ifs tt)(he:∀ cl s H fp,PE (cxC X scope cl s H fp) elt te)
  (hsw:swapsWith (.ListComp elt [⟨tg,iter,ifs,0⟩] scope pos) (some (.Name y py)) spos.line X.env=pure true:=by rfl)
  (hs:∀ x,foldedSetIterable iter X.env x=pure x:=by intro _;rfl) (hf:X.fn y=true \/ X.env.scope.names.lookup y=some .local:=by first | exact .inl rfl | exact .inr rfl | assumption) :
  PS X (.Assign [.Name y py] (.ListComp elt [⟨tg,iter,ifs,0⟩] scope pos) spos) (VG (J1 ts wi g tt te) (JW j)):=by
 intro pins s σ H D I h
 rw [exec_Assign_Name_used _ _ _ _ hsw]
 refine wpAny_bind (wpAny_standAt (wpAny_bind ?_))
 show wpAny _ _ (do let _ <- comprehension (.ListComp elt [⟨tg,iter,ifs,0⟩] scope pos) scope X.env _ (newList []) false (eval iter X.env) (some (assign (.Name y py) X.env))) _ _ s
 refine wpAny_bind (wpAny_mono (Jn hc hsc hi hg ht he I h (use:=some (assign (.Name y py) X.env)) (Q':=fun _ s'=>SP X pins D .next s') (fun D' C H' s' I' ⟨m,hn⟩ hC hL hce hsz hp hfs q=>?_) hs) (fun _ s' hq=>wpAny_pure (wpAny_pure hq)) fun _ _ e=>e)
 show wpAny _ _ (assign (.Name y py) X.env (.ref D')) _ _ _
 refine wpAny_assign_Name (ZE (v:=.ref D') I' hN hj hy rfl (fun s2 I2 ⟨a,hsb,ha⟩=>?_) hf)
 have hCa:C ≠ a:=by
  rcases ha with rfl | ha
  ·exact hL
  ·exact Ne.symm (hce y a ha)
 refine ⟨m,hn.sameBut hsb hCa,fun h' hs'=>?_⟩
 exact ⟨_,H',I2.turned (t':=s2.toks) (it:=C) (fun b o hb e=>(hs'.2 b hb).trans e) hC hL (.inr hsz) hce hp,q⟩
end
noncomputable def Ite (K:PySem.W.Frag)(a:Addr):It:=
 ⟨fun i H=>∃ xs x,SqL K H a xs/\xs[i]?=some x,fun i H y H'=>∃ p x,H p=none/\y=.ref p/\(∀ xs,SqL K H a xs->xs[i]?=some x)/\H'=upd H p (.tup [.int i,x]),fun i H=>∃ xs,SqL K H a xs/\xs.length<=i⟩
theorem ZD {P:Program}{w:World}{K:PySem.W.Frag}{es:List Expr}{kt:Nat}{tp:Pos}(a e it:Addr)(hei:e ≠ it):Qq P w K (.Tuple es kt tp) (Ite K a) [e,it] e (fun i h=>(∃ old,IsEnum h e it (i:Nat) old)/\h.IsListIter it a i) where
 mem:=by simp
 obj:=fun i h st b hb=>by
  obtain ⟨⟨old,he⟩,⟨o,e1,c,d⟩⟩:=st
  rcases List.mem_cons.mp hb with rfl | hb
  ·exact ⟨_,he,fun v z=>by have z':Data.fields _=Data.cell v:=z;cases z'⟩
  ·have e2:b=it:=by simpa using hb
   subst e2
   exact ⟨o,e1,fun v z=>by rw [d] at z;cases z⟩
 keep:=fun i h h' st k=>by
  obtain ⟨⟨old,he⟩,st⟩:=st
  exact ⟨⟨old,k e (by simp) _ he⟩,st.at fun o e=>k it (by simp) o e⟩
 item:=by
  intro X hP hw hK hc i pins s σ H E I hf st hg
  subst hP hw hK
  obtain ⟨⟨old,he⟩,st⟩:=st
  obtain ⟨xs,x,hq,hx⟩:=hg
  obtain ⟨its,rv,p,hz⟩:=I.list hq
  obtain ⟨u,hu,ru⟩:=rv.get hx
  have fe:=hf e (by simp)
  have fi:=hf it (by simp)
  refine wpAny_pyNext_enum_item he st p.isList (x:=u) (by simpa using hu) hei fun h1 heo hit1 ht1 hz1 hk1=>?_
  refine ⟨.ref s.heap.objs.size,rfl,wpAny_letOwnedTupleGo_enum heo fun h2 he2 hs2=>?_⟩
  replace hs2:Heap.SameBut e h1 h2:=hs2
  have elt:e<s.heap.objs.size:=Heap.lt_size he
  have hfr:H s.heap.objs.size=none:=I.hok.fresh (Nat.le_refl _)
  have ht2:h2.get? s.heap.objs.size=some { cls:=.type "tuple",data:=.seq #[.int i s.toks,u] }:=(hs2.2 _ (Nat.ne_of_gt elt)).trans ht1
  have kk:∀ b o,b ∉ [e,it]->s.heap.get? b=some o->h2.get? b=some o:=fun b o hc q=>by
   have n1:b ≠ e:=fun z=>hc (by simp [z])
   have n2:b ≠ it:=fun z=>hc (by simp [z])
   exact (hs2.2 b n1).trans (hk1 b o n1 n2 q)
  have nb:∀ c v,H c=some v->c ∉ [e,it]:=fun c v z hm=>by
   rcases List.mem_cons.mp hm with z' | z'
   ·rw [z',fe.1] at z;cases z
   ·have e2:c=it:=by simpa using z'
    rw [e2,fi.1] at z;cases z
  have I2:Inv X pins σ (upd H s.heap.objs.size (.tup [.int i,x])) { s with heap:=h2,toks:=s.toks+1 }:=by
   refine I.step (g':=s.gens) (d':=s.drawn) (ch:=[e,it]) (fun b hb=>?_) (fun b o _ _ hc q _=>kk b o hc q) (fun b o _ _ hc q _=>⟨o.slots,kk b o hc q⟩) (fun b o _ q n=>by rw [zm (Nat.ne_of_lt (Heap.lt_size q))];exact n) (fun b o hc q=>⟨o,kk b o hc q⟩)
    (fun b xs q=>by rw [zm (zh q hfr)];exact q) (fun b o u q=>by rw [zm (zh q hfr)];exact q) (fun b ps q=>⟨#[],by rw [zm (zh q hfr),q];simp⟩) (fun m hm=>?_) (fun b v q=>?_) I.bare
   ·rcases List.mem_cons.mp hb with z | hb
    ·rw [z];exact ⟨fe.2.2.2.1,fe.2.1,fe.2.2.2.2.1,fe.2.2.2.2.2⟩
    ·have e2:b=it:=by simpa using hb
     rw [e2];exact ⟨fi.2.2.2.1,fi.2.1,fi.2.2.2.2.1,fi.2.2.2.2.2⟩
   ·obtain ⟨o,es,ep,ho,r⟩:=hm
    exact ⟨o,es,ep,kk _ o (by simp [Ne.symm fe.2.1,Ne.symm fi.2.1]) ho,r⟩
   ·by_cases hb:b=s.heap.objs.size
    ·subst hb
     rw [zf] at q
     cases q
     exact ⟨by show 2<=sizeLine;decide,[.int i s.toks,u],.cons ⟨_,rfl⟩ (.cons ru .nil),_,ht2,rfl,⟨_,rfl⟩,rfl⟩
    ·rw [zm hb] at q
     refine (I.hok b v q).stay (fun c o hc q'=>kk c o ?_ q') (fun c z=>by rw [zm (zh z hfr)];exact z) fun c xs z=>by rw [zm (zh z hfr)];exact z
     rcases hc with z | z
     ·rw [z];exact nb b v q
     ·exact nb c _ z
  refine ⟨.ref s.heap.objs.size,_,I2,rfl,⟨s.heap.objs.size,x,hfr,rfl,fun ys hy=>by rw [I.list_inj hy hq];exact hx,rfl⟩,⟨⟨_,by simpa using he2⟩,hit1.extBut hs2.extBut (Ne.symm hei)⟩,fun b hb=>?_⟩
  have hlt:b<s.heap.objs.size:=by
   rcases List.mem_cons.mp hb with rfl | hb
   ·exact elt
   ·have e2:b=it:=by simpa using hb
    subst e2
    obtain ⟨o,e1,_⟩:=st
    exact Heap.lt_size e1
  rw [zm (Nat.ne_of_lt hlt)]
  exact (hf b hb).1
 done:=by
  intro X hP hw hK hc i pins s σ H E I hf st hg
  subst hP hw hK
  obtain ⟨⟨old,he⟩,st⟩:=st
  obtain ⟨xs,hq,hx⟩:=hg
  obtain ⟨its,rv,p,hz⟩:=I.list hq
  obtain ⟨f0,f1,f2,f3,f4,f5⟩:=hf it (by simp)
  have hl:=rv.length
  exact wpAny_pyNext_enum_end (I.ok.hd hc) he st p.isList (by simp;omega) fun h' eb=>⟨rfl,I.turned (t':=s.toks) (fun b o hb e=>eb b o hb e) f0 f1 f3 f4 f5⟩
 self:=fun _ _ _ _ _ st h=>by
  obtain ⟨⟨old,he⟩,_⟩:=st
  exact wpAny_pyIter_enum he h
section
variable {X:Cx}{pins:List (Addr × Obj)}{σ:St}{H:Hp}{s:Shared}
theorem Inv.yieldTup {ch:List Addr}{h2:Heap}{tk:Nat}{T:Addr}{xs:List V}{us:List Value}(I:Inv X pins σ H s)(hf:∀ b ∈ ch,xO X pins H b)(kk:∀ b o,b ∉ ch->s.heap.get? b=some o->h2.get? b=some o)(hT:s.heap.objs.size<=T)
  (ht2:h2.get? T=some { cls:=.type "tuple",data:=.seq us.toArray }) (rv:zH xs us) (hz:xs.length<=sizeLine):Inv X pins σ (upd H T (.tup xs)) { s with heap:=h2,toks:=tk }:=by
 have hfr:H T=none:=I.hok.fresh hT
 have nb:∀ c v,H c=some v->c ∉ ch:=fun c v z hm=>by rw [(hf c hm).1] at z;cases z
 refine I.step (g':=s.gens) (d':=s.drawn) (ch:=ch) (fun b hb=>⟨(hf b hb).2.2.2.1,(hf b hb).2.1,(hf b hb).2.2.2.2.1,(hf b hb).2.2.2.2.2⟩) (fun b o _ _ hc q _=>kk b o hc q) (fun b o _ _ hc q _=>⟨o.slots,kk b o hc q⟩)
  (fun b o _ q n=>by rw [zm (Nat.ne_of_lt (Nat.lt_of_lt_of_le (Heap.lt_size q) hT))];exact n) (fun b o hc q=>⟨o,kk b o hc q⟩)
  (fun b xs q=>by rw [zm (zh q hfr)];exact q) (fun b o u q=>by rw [zm (zh q hfr)];exact q) (fun b ps q=>⟨#[],by rw [zm (zh q hfr),q];simp⟩) (fun m hm=>?_) (fun b v q=>?_) I.bare
 ·obtain ⟨o,es,ep,ho,r⟩:=hm
  exact ⟨o,es,ep,kk _ o (fun z=>(hf _ z).2.1 rfl) ho,r⟩
 ·by_cases hb:b=T
  ·subst hb
   rw [zf] at q
   cases q
   exact ⟨hz,us,rv,_,ht2,rfl,⟨_,rfl⟩,rfl⟩
  ·rw [zm hb] at q
   refine (I.hok b v q).stay (fun c o hc q'=>kk c o ?_ q') (fun c z=>by rw [zm (zh z hfr)];exact z) fun c xs z=>by rw [zm (zh z hfr)];exact z
   rcases hc with z | z
   ·rw [z];exact nb b v q
   ·exact nb c _ z
theorem Inv.turnedL {ch:List Addr}{h2:Heap}{tk:Nat}(I:Inv X pins σ H s)(hf:∀ b ∈ ch,xO X pins H b)(kk:∀ b o,b ∉ ch->s.heap.get? b=some o->h2.get? b=some o):Inv X pins σ H { s with heap:=h2,toks:=tk }:=by
 have nb:∀ c v,H c=some v->c ∉ ch:=fun c v z hm=>by rw [(hf c hm).1] at z;cases z
 refine I.step (g':=s.gens) (d':=s.drawn) (ch:=ch) (fun b hb=>⟨(hf b hb).2.2.2.1,(hf b hb).2.1,(hf b hb).2.2.2.2.1,(hf b hb).2.2.2.2.2⟩) (fun b o _ _ hc q _=>kk b o hc q) (fun b o _ _ hc q _=>⟨o.slots,kk b o hc q⟩)
  (fun b o _ q n=>n) (fun b o hc q=>⟨o,kk b o hc q⟩) (fun b xs q=>q) (fun b o u q=>q) (fun b ps q=>⟨#[],by rw [q];simp⟩) (fun m hm=>?_) (fun b v q=>?_) I.bare
 ·obtain ⟨o,es,ep,ho,r⟩:=hm
  exact ⟨o,es,ep,kk _ o (fun z=>(hf _ z).2.1 rfl) ho,r⟩
 ·refine (I.hok b v q).stay (fun c o hc q'=>kk c o ?_ q') (fun c z=>z) fun c xs z=>z
  rcases hc with z | z
  ·rw [z];exact nb b v q
  ·exact nb c _ z
end
noncomputable def Itz (K:PySem.W.Frag)(a b:Addr):It:=
 ⟨fun i H=>∃ xs ys x y,SqL K H a xs/\SqL K H b ys/\xs[i]?=some x/\ys[i]?=some y,fun i H z H'=>∃ p x y,H p=none/\z=.ref p/\(∀ xs,SqL K H a xs->xs[i]?=some x)/\(∀ ys,SqL K H b ys->ys[i]?=some y)/\H'=upd H p (.tup [x,y]),
  fun i H=>∃ xs ys,SqL K H a xs/\SqL K H b ys/\(xs.length<=i \/ ys.length<=i)⟩
theorem JH {P:Program}{w:World}{K:PySem.W.Frag}{es:List Expr}{kt:Nat}{tp:Pos}(l1 l2 z TI TO i1 i2:Addr)(D:ZipApart z TI TO i1 i2 l1 l2) :
  Qq P w K (.Tuple es kt tp) (Itz K l1 l2) [z,TI,TO,i1,i2] z (fun i h=>IsZip h z TI TO .none/\IsPair h TI (.ref i1) (.ref i2)/\(∃ a b,IsPair h TO a b)/\h.IsListIter i1 l1 i/\h.IsListIter i2 l2 i) where
 mem:=by simp
 obj:=fun i h st b hb=>by
  obtain ⟨hz,hTI,⟨a,c,hTO⟩,⟨o1,e1,c1,d1⟩,⟨o2,e2,c2,d2⟩⟩:=st
  simp only [List.mem_cons,List.not_mem_nil,or_false] at hb
  rcases hb with rfl | rfl | rfl | rfl | rfl
  ·exact ⟨_,hz,fun v q=>by have q':Data.fields _=Data.cell v:=q;cases q'⟩
  ·exact ⟨_,hTI,fun v q=>by have q':Data.seq _ _=Data.cell v:=q;cases q'⟩
  ·exact ⟨_,hTO,fun v q=>by have q':Data.seq _ _=Data.cell v:=q;cases q'⟩
  ·exact ⟨o1,e1,fun v q=>by rw [d1] at q;cases q⟩
  ·exact ⟨o2,e2,fun v q=>by rw [d2] at q;cases q⟩
 keep:=fun i h h' st k=>by
  obtain ⟨hz,hTI,⟨a,c,hTO⟩,h1,h2⟩:=st
  exact ⟨k _ (by simp) _ hz,k _ (by simp) _ hTI,⟨a,c,k _ (by simp) _ hTO⟩,h1.at fun o e=>k _ (by simp) o e,h2.at fun o e=>k _ (by simp) o e⟩
 item:=by
  intro X hP hw hK hc i pins s σ H E I hf st hg
  subst hP hw hK
  obtain ⟨hz,hTI,⟨a,c,hTO⟩,h1,h2⟩:=st
  obtain ⟨xs,ys,x,y,hq1,hq2,hx,hy⟩:=hg
  obtain ⟨its1,rv1,p1,hz1⟩:=I.list hq1
  obtain ⟨its2,rv2,p2,hz2⟩:=I.list hq2
  obtain ⟨u,hu,ru⟩:=rv1.get hx
  obtain ⟨v,hv,rvv⟩:=rv2.get hy
  refine wpAny_pyNext_zip_item D hz hTI hTO h1 h2 p1.isList p2.isList (x:=u) (y:=v) (by simpa using hu) (by simpa using hv) fun g1 b1 b2 b3 b4 b5 b6 hk=>?_
  refine ⟨.ref s.heap.objs.size,rfl,wpAny_letOwnedTupleGo_zip b1 fun g2 hz2' hs2=>?_⟩
  replace hs2:Heap.SameBut z g1 g2:=hs2
  have zlt:z<s.heap.objs.size:=Heap.lt_size hz
  have I2:Inv X pins σ (upd H s.heap.objs.size (.tup [x,y])) { s with heap:=g2,toks:=s.toks }:=by
   refine I.yieldTup (us:=[u,v]) hf (fun b o hb e=>?_) (Nat.le_refl _) ((hs2.2 _ (Nat.ne_of_gt zlt)).trans b5) (.cons ru (.cons rvv .nil)) (by show 2<=sizeLine;decide)
   simp only [List.mem_cons,List.not_mem_nil,or_false,not_or] at hb
   exact (hs2.2 b hb.1).trans (hk b o hb.1 hb.2.2.1 hb.2.2.2.1 hb.2.2.2.2 e)
  refine ⟨.ref s.heap.objs.size,_,I2,rfl,⟨s.heap.objs.size,x,y,I.hok.fresh (Nat.le_refl _),rfl,fun xs' h'=>by rw [I.list_inj h' hq1];exact hx,fun ys' h'=>by rw [I.list_inj h' hq2];exact hy,rfl⟩,
   ⟨hz2',(hs2.2 _ D.TIz).trans (hk _ _ D.TIz D.TITO D.TIi1 D.TIi2 hTI),⟨_,_,(hs2.2 _ D.TOz).trans b2⟩,b3.extBut hs2.extBut D.i1z,b4.extBut hs2.extBut D.i2z⟩,fun b hb=>?_⟩
  have hlt:b<s.heap.objs.size:=by
   simp only [List.mem_cons,List.not_mem_nil,or_false] at hb
   rcases hb with rfl | rfl | rfl | rfl | rfl
   ·exact zlt
   ·exact Heap.lt_size hTI
   ·exact Heap.lt_size hTO
   ·obtain ⟨o,e,_⟩:=h1;exact Heap.lt_size e
   ·obtain ⟨o,e,_⟩:=h2;exact Heap.lt_size e
  rw [zm (Nat.ne_of_lt hlt)]
  exact (hf b hb).1
 done:=by
  intro X hP hw hK hc i pins s σ H E I hf st hg
  subst hP hw hK
  obtain ⟨hz,hTI,⟨a,c,hTO⟩,h1,h2⟩:=st
  obtain ⟨xs,ys,hq1,hq2,hend⟩:=hg
  obtain ⟨its1,rv1,p1,hz1⟩:=I.list hq1
  obtain ⟨its2,rv2,p2,hz2⟩:=I.list hq2
  have l1:=rv1.length
  have l2:=rv2.length
  refine wpAny_pyNext_zip_end (I.ok.hd hc) D hz hTI hTO h1 h2 p1.isList p2.isList (by simp;omega) fun h' hk=>⟨rfl,I.turnedL (tk:=s.toks) hf fun b o hb e=>?_⟩
  simp only [List.mem_cons,List.not_mem_nil,or_false,not_or] at hb
  exact hk b o hb.1 hb.2.2.1 hb.2.2.2.1 hb.2.2.2.2 e
 self:=fun _ _ _ _ _ st h=>wpAny_pyIter_zip st.1 h
theorem wZ:bootBuiltins "enumerate"=some (.type "enumerate"):=by decide +kernel
theorem Zy:bootBuiltins "zip"=some (.type "zip"):=by decide +kernel
section
variable {X:Cx}{es:List Expr}{kt:Nat}{tp:Pos}
noncomputable def G9 (K:PySem.W.Frag)(ta:TA):TI:=fun σ H R=>ta σ H fun vs H1=>∃ a,vs=[.ref a]/\(∃ xs,SqL K H1 a xs)/\R (Ite K a) H1
theorem F9 {e:Expr}{ta:TA}{p pos:Pos}(hg:Gl X "enumerate")(hm:X.mg "enumerate"=none)(ha:PA X [e] ta)(hs:starEach [e] X.env=[(false,eval e X.env)]:=by rfl) :
  PI X (.Tuple es kt tp) (.Call (.Name "enumerate" p) [e] [] pos) (G9 X.K ta):=by
 intro pins s σ H R I h
 refine Call_ (kJ I hg hm (wZ) (PyProof.Rows.callWith_type1 (thn (ha pos pins s σ H _ I h) fun us s1 ⟨vs,H1,I1,r1,q1⟩=>?_) hs rfl))
 obtain ⟨a,e,⟨xs,hq⟩,q⟩:=q1
 subst e
 obtain ⟨u,rfl,ru⟩:=ky r1
 cases ru
 obtain ⟨its,rv,pl,hz⟩:=I1.list hq
 refine call_enumerate_list pl.isList fun h' he hit hsz hk=>wpAny_pyIter_enum he ?_
 have I2:Inv X pins σ H1 { s1 with heap:=h' }:=I1.kept (t':=s1.toks) hk
 refine ⟨s1.heap.objs.size+1,[s1.heap.objs.size+1,s1.heap.objs.size],_,_,H1,rfl,I2,ZD a _ _ (Nat.succ_ne_self _),⟨⟨_,he⟩,hit⟩,fun b hb=>?_,q⟩
 have hb':s1.heap.objs.size<=b:=by
  simp only [List.mem_cons,List.not_mem_nil,or_false] at hb
  rcases hb with rfl | rfl
  ·exact Nat.le_succ _
  ·exact Nat.le_refl _
 exact I1.fpOk hb' (I1.hok.fresh hb')
noncomputable def L4 (K:PySem.W.Frag)(ta:TA):TI:=fun σ H R=>ta σ H fun vs H1=>∃ a b,vs=[.ref a,.ref b]/\(∃ xs,SqL K H1 a xs)/\(∃ ys,SqL K H1 b ys)/\R (Itz K a b) H1
theorem HB {e1 e2:Expr}{ta:TA}{p pos:Pos}(hg:Gl X "zip")(hm:X.mg "zip"=none)(ha:PA X [e1,e2] ta)(hs:starEach [e1,e2] X.env=[(false,eval e1 X.env),(false,eval e2 X.env)]:=by rfl)(hs2:starEach [e2] X.env=[(false,eval e2 X.env)]:=by rfl) :
  PI X (.Tuple es kt tp) (.Call (.Name "zip" p) [e1,e2] [] pos) (L4 X.K ta):=by
 intro pins s σ H R I h
 refine Call_ (kJ I hg hm Zy (PyProof.Rows.callWith_type1 (thn (ha pos pins s σ H _ I h) fun us s1 ⟨vs,H1,I1,r1,q1⟩=>?_) (by rw [hs,hs2]) (by rw [hs2];rfl)))
 obtain ⟨a,b,e,⟨xs,hq1⟩,⟨ys,hq2⟩,q⟩:=q1
 subst e
 obtain ⟨u,v,rfl,ru,rv⟩:=ZX r1
 cases ru
 cases rv
 obtain ⟨its1,rv1,p1,hz1⟩:=I1.list hq1
 obtain ⟨its2,rv2,p2,hz2⟩:=I1.list hq2
 have la:a<s1.heap.objs.size:=by obtain ⟨o,e,_⟩:=p1.isList;exact Heap.lt_size e
 have lb:b<s1.heap.objs.size:=by obtain ⟨o,e,_⟩:=p2.isList;exact Heap.lt_size e
 refine call_zip_2 p1.isList p2.isList fun h' b1 b2 b3 b4 b5 hsz hk=>wpAny_pyIter_zip b1 ?_
 have I2:Inv X pins σ H1 { s1 with heap:=h' }:=I1.kept (t':=s1.toks) hk
 refine ⟨s1.heap.objs.size+4,[s1.heap.objs.size+4,s1.heap.objs.size+2,s1.heap.objs.size+3,s1.heap.objs.size,s1.heap.objs.size+1],_,_,H1,rfl,I2,JH a b _ _ _ _ _ (zipApart_new la lb),⟨b1,b2,⟨_,_,b3⟩,b4,b5⟩,fun c hb=>?_,q⟩
 have hb':s1.heap.objs.size<=c:=by
  simp only [List.mem_cons,List.not_mem_nil,or_false] at hb
  rcases hb with rfl | rfl | rfl | rfl | rfl <;> first | exact Nat.le_refl _ | exact Nat.le_add_right _ _
 exact I1.fpOk hb' (I1.hok.fresh hb')
end
theorem BE {K:PySem.W.Frag}{a:Addr}{xs:List V}{g:TG}{tb:TS}{D:j8}{σ:St}{H:Hp}(Pv:Nat->St->Hp->Prop)(h0:Pv 0 σ H)(hl:∀ i σ H,i<=xs.length->Pv i σ H->SqL K H a xs)
  (hs:∀ i x p σ H,xs[i]?=some x->H p=none->Pv i σ H->g (.ref p) σ (upd H p (.tup [.int i,x])) fun σ2 H2=>tb { D with nx:=Pv (i+1),ct:=Pv (i+1),bk:=D.nx } σ2 H2) (hd:∀ σ H,Pv xs.length σ H->D.nx σ H) :
  ∃ W:Nat->Nat->St->Hp->Prop,(∃ m,W 0 m σ H)/\∀ i m σ H,W i m σ H ->
   ((Ite K a).stop i H/\D.nx σ H) \/ ((Ite K a).go i H/\∃ N:St->Hp->Prop,(∀ σ' H',N σ' H'->∃ m',m'<m/\W (i+1) m' σ' H')/\∀ x H',(Ite K a).yld i H x H'->g x σ H' fun σ2 H2=>tb { D with nx:=N,ct:=N,bk:=D.nx } σ2 H2):=by
 refine ⟨fun i m σ H=>m=xs.length - i/\i<=xs.length/\Pv i σ H,⟨xs.length,by simp,Nat.zero_le _,h0⟩,?_⟩
 rintro i m σ H ⟨rfl,hi,p⟩
 have q:=hl i σ H hi p
 by_cases hlt:i<xs.length
 ·refine .inr ⟨⟨xs,xs[i],q,by simp [hlt]⟩,Pv (i+1),fun σ' H' p'=>⟨xs.length - (i+1),by omega,rfl,hlt,p'⟩,fun x H' y=>?_⟩
  obtain ⟨pp,x',hp,rfl,y,rfl⟩:=y
  exact hs i x' pp σ _ (y xs q) hp p
 ·have e:i=xs.length:=by omega
  subst e
  exact .inl ⟨⟨xs,q,Nat.le_refl _⟩,hd σ H p⟩
noncomputable def jN (p:Addr)(a b c:Int):HO:=.ext fun h=>∃ t u v,h.get? p=some { cls:=.type "range",data:=.fields #[.int a t,.int b u,.int c v] }
theorem Dt {P:Program}{w:World}{H:Hp}{h:Heap}{p:Addr}{a b c:Int}{t u v:Tok}(e:h.get? p=some { cls:=.type "range",data:=.fields #[.int a t,.int b u,.int c v] }):qi P w H h p (jN p a b c):=
 ⟨⟨t,u,v,e⟩,⟨_,e⟩,fun h1 h2 ⟨t,u,v,q⟩ k=>⟨t,u,v,k _ q⟩⟩
noncomputable def zJ (a c:Int)(n:Nat):List Int:=(List.range n).map fun (i:Nat)=>a+(i:Int) * c
theorem zr (a c:Int)(n:Nat):(zJ a c n).length=n:=by simp [zJ]
theorem Xv {a c:Int}:∀ {n:Nat} {acc:Array Value},ItemsOf (fun (i:Nat) (v:Value)=>∃ t,v=Value.int (a+(i:Int) * c) t) acc n->zH ((zJ a c n).map V.int) acc.toList:=by
 intro n acc ⟨hs,hi⟩
 have key:∀ (k:Nat) (l:List Value),l.length=k->(∀ (j:Nat) v,l[j]?=some v->∃ t,v=Value.int (a+(j:Int) * c) t)->zH ((zJ a c k).map V.int) l:=by
  intro k
  induction k with
  | zero=>intro l hl _;cases l with
   | nil=>exact .nil
   | cons=>simp at hl
  | succ k ih=>
   intro l hl hv
   obtain ⟨l',x,rfl⟩:∃ l' x,l=l' ++ [x]:=⟨l.dropLast,l.getLast (by intro e;rw [e] at hl;simp at hl),(List.dropLast_concat_getLast _).symm⟩
   have hl':l'.length=k:=by simpa using hl
   have e:(zJ a c (k+1)).map V.int=(zJ a c k).map V.int ++ [.int (a+(k:Int) * c)]:=by simp [zJ,List.range_succ]
   rw [e]
   refine (ih l' hl' fun j v hj=>hv j v ?_).append (.cons ?_ .nil)
   ·rw [List.getElem?_append_left (List.getElem?_eq_some_iff.mp hj).1];exact hj
   ·obtain ⟨t,rfl⟩:=hv k x (by rw [List.getElem?_append_right (by omega),hl'];simp)
    exact ⟨t,rfl⟩
 exact key n acc.toList (by simpa using hs) fun j v hj=>hi j v (by simpa using hj)
section
variable {X:Cx}
theorem qK:jg X (.type "range") (fun xs H Q=>∃ b:Int,xs=[.int b]/\∀ p,H p=none->Q (.ref p) (upd H p (jN p 0 b 1))):=by
 intro pins s σ H xs us Q I r h
 obtain ⟨b,rfl,q⟩:=h
 obtain ⟨u,rfl,t,rfl⟩:=ky r
 refine call_range_1 ⟨.ref s.heap.objs.size,_,I.laid (fun b o e=>Heap.get?_push_of_some _ e) (Nat.le_refl _) ?_,rfl,q _ (I.hok.fresh (Nat.le_refl _))⟩
 exact Dt (Heap.get?_push_size _ rfl)
theorem Ke:jg X (.type "range") (fun xs H Q=>∃ a b c:Int,xs=[.int a,.int b,.int c]/\c ≠ 0/\c.natAbs<1073741824/\∀ p,H p=none->Q (.ref p) (upd H p (jN p a b c))):=by
 intro pins s σ H xs us Q I r h
 obtain ⟨a,b,c,rfl,hc,hb,q⟩:=h
 cases r with
 | cons r1 r=>cases r with
  | cons r2 r=>cases r with
   | cons r3 r=>
    cases r
    obtain ⟨t1,rfl⟩:=r1
    obtain ⟨t2,rfl⟩:=r2
    obtain ⟨t3,rfl⟩:=r3
    refine call_range_3 hc ⟨.ref s.heap.objs.size,_,I.laid (t':=s.toks) (fun b o e=>Heap.get?_push_of_some _ e) (Nat.le_refl _) ?_,rfl,q _ (I.hok.fresh (Nat.le_refl _))⟩ (.inl (PyProof.noPylong_small (by omega)))
    exact Dt (Heap.get?_push_size _ rfl)
theorem qj (hc:X.calm=true):jg X (.type "list") (fun xs H Q=>∃ p a b c n,xs=[.ref p]/\H p=some (jN p a b c)/\Builtin.Range.small a b c=true/\Builtin.Range.rangeSize a b c=((n:Nat):Int)/\n<=100000/\∀ l,H l=none->Q (.ref l) (upd H l (.lst ((zJ a c n).map V.int)))):=by
 intro pins s σ H xs us Q I r h
 obtain ⟨p,a,b,c,n,rfl,hp,hs,hn,hz,q⟩:=h
 obtain ⟨u,rfl,rx⟩:=ky r
 cases rx
 obtain ⟨⟨t,u,v,e⟩,_⟩:=(show qi X.prog X.w H s.heap p (jN p a b c) from I.hok _ _ hp)
 refine call_list_range (I.ok.hd hc) e hs hn (Nat.le_trans hz (by decide)) fun h' tk acc c' hk he hi=>?_
 refine ⟨.ref s.heap.objs.size,_,I.laid hk (Nat.le_refl _) (show qi X.prog X.w _ h' _ (.lst ((zJ a c n).map V.int)) from ⟨?_,acc.toList,c',Xv hi,by simpa using he⟩),rfl,q _ (I.hok.fresh (Nat.le_refl _))⟩
 rw [List.length_map,zr]
 exact Nat.le_trans hz (by decide)
theorem Fe {i:Int}(h0:0<=i)(h1:i<2 ^ 62):¬(!Builtin.List.listFitsIndex i)=true:=by
 unfold Builtin.List.listFitsIndex
 simp
 omega
noncomputable def vO:V->List V->Hp->VK->Prop:=fun x vs H Q=>∃ l xs i y,x=.ref l/\vs=[.int i,y]/\H l=some (.lst xs)/\0<=i/\i<=xs.length/\xs.length<sizeLine/\Q .non (upd H l (.lst (xs.take i.toNat ++ y :: xs.drop i.toNat)))
theorem zH.insert {xs:List V}{us:List Value}{y:V}{u:Value}(r:zH xs us)(ry:zI y u)(k:Nat):zH (xs.take k ++ y :: xs.drop k) (us.take k ++ u :: us.drop k):=(r.take k).append (.cons ry (r.drop k))
theorem WD:MtM X "list.insert" vO:=by
 intro pins s σ H x vs v us Q I rx rv h
 obtain ⟨l,xs,i,y,rfl,rfl,hH,h0,h1,hz,q⟩:=h
 cases rx
 obtain ⟨u,w,rfl,⟨t,rfl⟩,rw'⟩:=rv.two
 obtain ⟨z,its,n,r,hl,e⟩:=I.lstM hH
 have l63:=yY
 have hb:i<2 ^ 62:=by
  have:sizeLine<2 ^ 62:=by rw [sizeLine_eq];decide
  omega
 refine call_meets F.slot_list_insert ⟨_,e,rfl⟩ F.entry_list_insert (F.args_list_insert_3 _ _ _) (PySem.AutoSeq1.list_insert_list_int_val_1 l its.toArray n i t w (Fe h0 hb) (by rw [List.size_toArray];omega)) ⟨e,?_⟩
 refine ⟨.non,_,I.lset (its':=its.take i.toNat ++ w :: its.drop i.toNat) hH e ?_ (r.insert rw' i.toNat) ?_,rfl,q⟩
 ·dsimp only
  rw [if_neg (by omega)]
  have hm:min i.toNat its.toArray.size=i.toNat:=by rw [List.size_toArray];omega
  rw [hm]
  apply Array.ext'
  simp
  first | done | omega | (rw [List.take_of_length_le (by simp)])
 ·rw [List.length_append,List.length_cons,List.length_take,List.length_drop];omega
theorem Ql:jg X (.builtin "sorted") (fun xs H Q=>∃ p ns,xs=[.ref p]/\SqL X.K H p (List.map V.int ns)/\ns.length<64/\∀ l ns',H l=none->ns'.Perm ns->ns'.Pairwise (·<=·)->Q (.ref l) (upd H l (.lst (List.map V.int ns')))):=by
 intro pins s σ H xs us Q I r h
 obtain ⟨p,ns,rfl,hq,h64,q⟩:=h
 obtain ⟨u,rfl,rx⟩:=ky r
 cases rx
 obtain ⟨its,rv,pl,hz⟩:=I.list hq
 have hlen:=rv.length
 rw [List.length_map] at hlen
 refine sorted_ints pl.isList (Xz rv) (by omega) fun out ns' a1 a2 a3=>?_
 obtain ⟨k,he⟩:=sortedAll_at s.heap its out
 refine ⟨.ref (s.heap.objs.size+1),_,I.laid (t':=s.toks) (fun _ _=>sortedAll_old) (Nat.le_succ _) (show qi X.prog X.w _ _ _ (.lst (List.map V.int ns')) from ⟨?_,out.toList,k,yO a1,by simpa [seqObj] using he⟩),rfl,q _ _ (I.hok.fresh (Nat.le_succ _)) a2 a3⟩
 rw [List.length_map,a2.length_eq]
 exact Nat.le_of_lt (Wb (by omega))
end
section
variable {X:Cx}
noncomputable def isT (t c:String):Option Bool:=if (Value.type t == Value.type c)=true then some true else if PySem.W.kitMeta c=true then (fastBuiltinMro t).map (·.contains (Value.type c)) else none
theorem Yw (K:PySem.W.Frag)(t c:String):PySem.W.kitOne K (.type t) (.type c)=isT t c:=rfl
noncomputable def yG (t:String):List String->Option Bool
 | []=>some false
 | c :: r=>match isT t c with
  | some true=>some true
  | some false=>yG t r
  | none=>none
theorem Kg (K:PySem.W.Frag)(t:String):∀ cs:List String,PySem.W.kitAny K (.type t) (cs.map Value.type)=yG t cs
 | []=>rfl
 | c :: r=>by
  show (match PySem.W.kitOne K (.type t) (.type c) with | some true=>some true | some false=>PySem.W.kitAny K (.type t) (r.map Value.type) | none=>none)=_
  rw [Yw,Kg K t r];rfl
theorem jx:jg X (.builtin "isinstance") (fun xs H Q=>∃ x t c b,xs=[x,.ty c]/\xa X.K H x (.type t)/\isT t c=some b/\Q (.bl b) H):=by
 intro pins s σ H xs us Q I r h
 obtain ⟨x,t,c,b,rfl,ty,e,q⟩:=h
 obtain ⟨u,v,rfl,ru,rv⟩:=ZX r
 cases rv
 exact VD I ru ty (by rw [Yw];exact e) fun tk=>⟨.bl b,H,I.tok _,rfl,q⟩
theorem Kv:∀ {cs:List String} {us:List Value},zH (cs.map V.ty) us->us=cs.map Value.type
 | [],_,.nil=>rfl
 | c :: cs,_,.cons r t=>by rw [Kv t];cases r;rfl
theorem Vx:jg X (.builtin "isinstance") (fun xs H Q=>∃ x t p cs b,xs=[x,.ref p]/\H p=some (.tup (List.map V.ty cs))/\xa X.K H x (.type t)/\yG t cs=some b/\Q (.bl b) H):=by
 intro pins s σ H xs us Q I r h
 obtain ⟨x,t,p,cs,b,rfl,hp,ty,e,q⟩:=h
 obtain ⟨u,v,rfl,rx,rv⟩:=ZX r
 cases rv
 obtain ⟨_,its,rt,o,ho,hc,⟨n,hd⟩,_⟩:=(show qi X.prog X.w H s.heap p (.tup (List.map V.ty cs)) from I.hok _ _ hp)
 obtain ⟨oc,od,odt,osl⟩:=o
 simp only at hc hd
 subst hc hd
 have e':PySem.W.kitAny X.K (.type t) its=some b:=by rw [Kv rt,Kg];exact e
 have fin:∀ tk,EP X pins σ Q (.bool b) { s with toks:=tk }:=fun tk=>⟨.bl b,H,I.tok _,rfl,q⟩
 cases ty with
 | non=>cases (show u=Value.none from rx);exact PySem.W.kia_tup PySem.W.kitx_none I.kIn True.intro ho e' (fun z=>nomatch z) fin
 | bl y=>cases (show u=Value.bool y from rx);exact PySem.W.kia_tup PySem.W.kitx_bool I.kIn True.intro ho e' (fun z=>nomatch z) fin
 | int i=>obtain ⟨t,q⟩:=(show ∃ t,u=Value.int i t from rx);cases q;exact PySem.W.kia_tup PySem.W.kitx_int I.kIn True.intro ho e' (fun z=>nomatch z) fin
 | str y=>obtain ⟨t,q⟩:=(show ∃ t,u=Value.str y t from rx);cases q;exact PySem.W.kia_tup PySem.W.kitx_str I.kIn True.intro ho e' (fun z=>nomatch z) fin
 | flt y=>obtain ⟨t,q⟩:=(show ∃ t,u=Value.float y t from rx);cases q;exact PySem.W.kia_tup PySem.W.kitx_float I.kIn True.intro ho e' (fun z=>nomatch z) fin
 | @lst a xs ea=>
  cases (show u=Value.ref a from rx)
  obtain ⟨_,_,n,_,h1⟩:=(show qi X.prog X.w H s.heap a (.lst xs) from I.hok a _ ea)
  exact PySem.W.kia_tup PySem.W.kitx_list I.kIn ⟨_,h1,rfl⟩ ho e' (fun z=>nomatch z) fin
 | @frz a ob xs ea=>
  cases (show u=Value.ref a from rx)
  obtain ⟨_,_,_,n,_,h1⟩:=(show qi X.prog X.w H s.heap a (.frz ob (.lst xs)) from I.hok a _ ea)
  exact PySem.W.kia_tup PySem.W.kitx_list I.kIn ⟨_,h1,rfl⟩ ho e' (fun z=>nomatch z) fin
 | @tup a xs ea=>
  cases (show u=Value.ref a from rx)
  obtain ⟨_,_,_,p⟩:=(show qi X.prog X.w H s.heap a (.tup xs) from I.hok a _ ea)
  obtain ⟨o,h1,h2,_⟩:=p
  exact PySem.W.kia_tup PySem.W.kitx_tuple I.kIn ⟨o,h1,h2⟩ ho e' (fun z=>nomatch z) fin
 | @dK a kvs ea=>
  cases (show u=Value.ref a from rx)
  obtain ⟨_,_,vs,_,p⟩:=(show qi X.prog X.w H s.heap a (.dK kvs) from I.hok a _ ea)
  obtain ⟨o,es,ep,h1,h2,_⟩:=p
  exact PySem.W.kia_tup PySem.W.kitx_dict I.kIn ⟨o,h1,h2.1⟩ ho e' (fun z=>nomatch z) fin
 | @dT a kvs ea=>
  cases (show u=Value.ref a from rx)
  obtain ⟨_,_,xs,_,o,es,ep,h1,h2,_⟩:=(show qi X.prog X.w H s.heap a (.dT kvs) from I.hok a _ ea)
  exact PySem.W.kia_tup PySem.W.kitx_dict I.kIn ⟨o,h1,h2.1⟩ ho e' (fun z=>nomatch z) fin
theorem KO {lo:Int}{n:Nat}{g:TG}{tt:TT}{te:TE}{Q:VK}{τ:St}{H1:Hp}{D:Addr}(Pv:Nat->St->Hp->Prop)(h0:Pv 0 τ (upd H1 D (.lst [])))
  (hs:∀ i τ H,i<n->Pv i τ H->g (.int (lo+i)) τ H fun τ2 H3=>tt τ2 H3 fun b H4=>if b=true then te τ2 H4 fun v H5=>∃ ys,H5 D=some (.lst ys)/\ys.length<sizeLine/\Pv (i+1) τ2 (upd H5 D (.lst (ys ++ [v]))) else Pv (i+1) τ2 H4)
  (hd:∀ τ H,Pv n τ H->Q (.ref D) H) :
  ∃ W:Nat->Nat->St->Hp->Prop,(∃ m,W 0 m τ (upd H1 D (.lst [])))/\∀ i m τ H2,W i m τ H2 ->
   ((Itr lo n).stop i H2/\Q (.ref D) H2) \/ ((Itr lo n).go i H2/\∃ N:St->Hp->Prop,(∀ τ' H',N τ' H'->∃ m',m'<m/\W (i+1) m' τ' H')/\∀ x H',(Itr lo n).yld i H2 x H'->g x τ H' fun τ2 H3=>tt τ2 H3 fun b H4=>
    if b=true then te τ2 H4 fun v H5=>∃ ys,H5 D=some (.lst ys)/\ys.length<sizeLine/\N τ2 (upd H5 D (.lst (ys ++ [v]))) else N τ2 H4):=by
 refine ⟨fun i m τ H=>m=n - i/\i<=n/\Pv i τ H,⟨n,by simp,Nat.zero_le _,h0⟩,?_⟩
 rintro i m τ H ⟨rfl,hi,p⟩
 by_cases hlt:i<n
 ·refine .inr ⟨hlt,Pv (i+1),fun σ' H' p'=>⟨n - (i+1),by omega,rfl,hlt,p'⟩,fun x H' y=>?_⟩
  obtain ⟨e,y⟩:=y
  subst e y
  exact hs i τ _ hlt p
 ·have e:i=n:=by omega
  subst e
  exact .inl ⟨Nat.le_refl _,hd τ H p⟩
end
noncomputable def At (K:PySem.W.Frag)(mg:Str->Option Value)(x:Str)(st:Stmt):Prop:=∃ f fd,Fun K x x st f fd/\mg x=some (.ref f)
noncomputable def Df (P:Program)(w:World)(K:PySem.W.Frag)(mg:Str->Option Value)(base:Heap)(x:Str)(ps:List Str)(k:Nat)(sp:Sp):Prop:=
 ∃ f fd,jH P w K mg base CX0 k f fd ps sp/\j4 K fd ps []/\PySem.W.keepIn K (.ref f)=true/\mg x=some (.ref f)/\∃ oc od osl,K.lookup f=some ⟨oc,od,.func fd,osl⟩
theorem Df.mono {P:Program}{w:World}{K:PySem.W.Frag}{mg:Str->Option Value}{base:Heap}{x:Str}{ps:List Str}{j k:Nat}{sp:Sp}(D:Df P w K mg base x ps j sp)(h:j<=k):Df P w K mg base x ps k sp:=
 let ⟨f,fd,F,r⟩:=D
 ⟨f,fd,F.mono h,r⟩
section
variable {X:Cx}{k:Nat}{x:Str}{ps:List Str}{sp:Sp}{p pos:Pos}{e:Expr}{es:List Expr}{t:TA}
theorem zA (D:Df X.prog X.w X.K X.mg X.base x ps k sp)(hr:qJ k X.A)(hg:Gl X x)(ha:PA X (e :: es) t)(hdb:(x == ("__debug__":Str))=false:=by decide)
  (he:starEach (e :: es) X.env=(false,eval e X.env) :: starEach es X.env:=by rfl) (hpl:(backTo pos (starEach es X.env)).any (·.1)=false:=by rfl):PE X (.Call (.Name x p) (e :: es) [] pos) (Ye sp [] E0 t):=by
 obtain ⟨f,fd,F,b,kp,m,_⟩:=D
 exact FY F hr hg m kp b .nil Vh ha hdb he hpl
end
theorem jh {P:Program}{w:World}{K:PySem.W.Frag}{mg:Str->Option Value}{base:Heap}{x:Str}{st:Stmt}{N ps:List Str}{k:Nat}{sp:Sp}(a:At K mg x st)(S:zo N ps (zg st))
  (hb:∀ (kV doc pm:Value) (an:Option Addr) (cdv ct:Value) (us:List Value),us.length=ps.length->bindArgs (PySem.W.fnOf x x (jc st) (qr st) (zg st) .none kV doc pm an cdv ct) ⟨us,[]⟩=pure (ps.zip us))
  (len:∀ vs H Q E,sp vs H Q E->vs.length=ps.length)
  (hbody:∀ (f:Addr) (cdv:Value) (A:Around) (outer:List Env) (s:Shared) (H:Hp) (vs:List V) (Q:VK) (E:XK),qJ k (A.deeper (envOfC x (zg st) s.heap.objs.size f cdv))->sp vs H Q E ->
   ∃ t,PSs (ym CX0 P w K mg base N x (zg st) f cdv A outer s H E).nox (qr st) t/\t { nx:=fun _ H'=>Q .non H',rt:=Q } (start N vs) H):Df P w K mg base x ps (k+1) sp:=by
 obtain ⟨f,fd,F,m⟩:=a
 obtain ⟨oc,od,kV,doc,pm,an,cdv,ct,osl,_,lk,_⟩:=id F.ex
 exact ⟨f,fd,F.ok S len fun cdv A outer s H vs Q E=>hbody f cdv A outer s H vs Q E,F.binds hb,F.kp,m,oc,od,osl,lk⟩
theorem at_mk {K:PySem.W.Frag}{mg:Str->Option Value}{h:Heap}{x:Str}{st:Stmt}{f:Addr}{oc:Value}{od an:Option Addr}{osl:Array (Option Value)}{kV doc pm cdv ct:Value}(X:K.In h)(G:h.Ns mainGlobals mg)(a:PySem.W.nsIn K mainGlobals x=some (some (.ref f)))
  (l:K.lookup f=some ⟨oc,od,.func (PySem.W.fnOf x x (jc st) (qr st) (zg st) .none kV doc pm an cdv ct),osl⟩) (c:PySem.W.codeIn K cdv x=true) (k:PySem.W.keepIn K (.ref f)=true):At K mg x st:=⟨f,_,By l c k,PySem.W.mg_of X G a⟩
theorem Df.fn {P:Program}{w:World}{K:PySem.W.Frag}{mg:Str->Option Value}{base:Heap}{x:Str}{ps:List Str}{k:Nat}{sp:Sp}{f:Addr}{fd:FuncData}{oc:Value}{od:Option Addr}{osl:Array (Option Value)}(D:Df P w K mg base x ps k sp)(m:mg x=some (.ref f))(l:K.lookup f=some ⟨oc,od,.func fd,osl⟩):jH P w K mg base CX0 k f fd ps sp:=by
 obtain ⟨f',fd',F,_,_,m',oc',od',osl',l'⟩:=D
 rw [m] at m'
 cases m'
 rw [l] at l'
 cases l'
 exact F
structure Blt (mg:Str->Option Value):Prop where
 len:mg "len"=none
 range:mg "range"=none
 list:mg "list"=none
 tuple:mg "tuple"=none
 int:mg "int"=none
 bool:mg "bool"=none
 str:mg "str"=none
 abs:mg "abs"=none
 divmod:mg "divmod"=none
 enumerate:mg "enumerate"=none
 zip:mg "zip"=none
 sorted:mg "sorted"=none
 max:mg "max"=none
 min:mg "min"=none
 isinstance:mg "isinstance"=none
 all:mg "all"=none
theorem blt_mk {K:PySem.W.Frag}{mg:Str->Option Value}{h:Heap}(X:K.In h)(G:h.Ns mainGlobals mg)(z1:PySem.W.nsIn K mainGlobals "len"=some none)(z2:PySem.W.nsIn K mainGlobals "range"=some none)(z3:PySem.W.nsIn K mainGlobals "list"=some none)(z4:PySem.W.nsIn K mainGlobals "tuple"=some none)(z5:PySem.W.nsIn K mainGlobals "int"=some none)(z6:PySem.W.nsIn K mainGlobals "bool"=some none)(z7:PySem.W.nsIn K mainGlobals "str"=some none)(z8:PySem.W.nsIn K mainGlobals "abs"=some none)
  (z9:PySem.W.nsIn K mainGlobals "divmod"=some none) (z10:PySem.W.nsIn K mainGlobals "enumerate"=some none) (z11:PySem.W.nsIn K mainGlobals "zip"=some none) (z12:PySem.W.nsIn K mainGlobals "sorted"=some none) (z13:PySem.W.nsIn K mainGlobals "max"=some none) (z14:PySem.W.nsIn K mainGlobals "min"=some none) (z15:PySem.W.nsIn K mainGlobals "isinstance"=some none) (z16:PySem.W.nsIn K mainGlobals "all"=some none):Blt mg:=
 ⟨PySem.W.mg_none_of X G z1,PySem.W.mg_none_of X G z2,PySem.W.mg_none_of X G z3,PySem.W.mg_none_of X G z4,PySem.W.mg_none_of X G z5,PySem.W.mg_none_of X G z6,PySem.W.mg_none_of X G z7,PySem.W.mg_none_of X G z8,PySem.W.mg_none_of X G z9,PySem.W.mg_none_of X G z10,PySem.W.mg_none_of X G z11,PySem.W.mg_none_of X G z12,PySem.W.mg_none_of X G z13,PySem.W.mg_none_of X G z14,PySem.W.mg_none_of X G z15,PySem.W.mg_none_of X G z16⟩
theorem qb:bootBuiltins "isinstance"=some (.builtin "isinstance"):=by decide +kernel
theorem Vy:bootBuiltins "sorted"=some (.builtin "sorted"):=by decide +kernel
theorem Xu:bootBuiltins "abs"=some (.builtin "abs"):=by decide +kernel
theorem Wp:bootBuiltins "divmod"=some (.builtin "divmod"):=by decide +kernel
theorem D1:bootBuiltins "max"=some (.builtin "max"):=by decide +kernel
theorem zZ:bootBuiltins "len"=some (.builtin "len"):=by decide +kernel
theorem je:bootBuiltins "list"=some (.type "list"):=by decide +kernel
theorem kj:bootBuiltins "tuple"=some (.type "tuple"):=by decide +kernel
theorem Qr:bootBuiltins "int"=some (.type "int"):=by decide +kernel
theorem Y7:bootBuiltins "bool"=some (.type "bool"):=by decide +kernel
theorem Ai:bootBuiltins "str"=some (.type "str"):=by decide +kernel
theorem jw:bootBuiltins "range"=some (.type "range"):=by decide +kernel
noncomputable def Kp (bs:List Addr)(H H':Hp):Prop:=∀ c o,c ∉ bs->H c=some o->H' c=some o
theorem Kp.refl {bs:List Addr}{H:Hp}:Kp bs H H:=fun _ _ _ h=>h
theorem Kp.trans {bs:List Addr}{H H1 H2:Hp}(a:Kp bs H H1)(b:Kp bs H1 H2):Kp bs H H2:=fun c o n h=>b c o n (a c o n h)
theorem Kp.new {bs:List Addr}{H:Hp}{p:Addr}(o:HO)(h:H p=none):Kp bs H (upd H p o):=fun c u _ q=>by rw [zm (zh q h)];exact q
theorem Kp.set {bs:List Addr}{H:Hp}{p:Addr}(o:HO)(h:p ∈ bs):Kp bs H (upd H p o):=fun c u n q=>by have hne:c ≠ p:=(fun e=>n (by rw [e];exact h));rw [zm hne];exact q
theorem Kp.mono {bs bs':List Addr}{H H':Hp}(a:Kp bs H H')(h:∀ b ∈ bs,b ∈ bs'):Kp bs' H H':=fun c o n q=>a c o (fun z=>n (h c z)) q
theorem Kp.free {H H':Hp}(e:Kp [] H H'){l:Addr}(h:H' l=Option.none):H l=Option.none:=by
 cases q:H l with
 | none=>rfl
 | some o=>rw [e l o (by simp) q] at h;cases h
noncomputable def Bx (H:Hp)(b:Addr)(N:Nat):Prop:=∃ x y z:Int,H b=some (.lst [.int x,.int y,.int z])/\0<=x/\0<=y/\y<2147483648/\0<=z/\z<=N
noncomputable abbrev il (ns:List Int):HO:=.lst (ns.map V.int)
theorem cxK {CX:CXT}{P:Program}{w:World}{K:PySem.W.Frag}{mg:Str->Option Value}{base:Heap}{N:List Str}{qual:Str}{scope:Scope}{f:Addr}{cd:Value}{A:Around}{outer:List Env}{s:Shared}{H:Hp}{E:XK} :
  (ym CX P w K mg base N qual scope f cd A outer s H E).K=K:=rfl
noncomputable def XC (J:It)(g:TG)(tb:TS)(D:j8)(σ:St)(H:Hp):Prop:=∃ W:Nat->Nat->St->Hp->Prop,(∃ m,W 0 m σ H)/\∀ i m σ H,W i m σ H ->
 (J.stop i H/\D.nx σ H) \/ (J.go i H/\∃ N:St->Hp->Prop,(∀ σ' H',N σ' H'->∃ m',m'<m/\W (i+1) m' σ' H')/\∀ x H',J.yld i H x H'->g x σ H' fun σ2 H2=>tb { D with nx:=N,ct:=N,bk:=D.nx } σ2 H2)
theorem QK {wi:TI}{g:TG}{tb:TS}{D:j8}{σ:St}{H:Hp}:Ge wi g tb D σ H=wi σ H (fun J H1=>XC J g tb D σ H1):=rfl
noncomputable def WY (J:It)(g:TG)(tt:TT)(te:TE)(D:Addr)(Q:VK)(τ:St)(H:Hp):Prop:=∃ W:Nat->Nat->St->Hp->Prop,(∃ m,W 0 m τ H)/\∀ i m τ H2,W i m τ H2 ->
 (J.stop i H2/\Q (.ref D) H2) \/ (J.go i H2/\∃ N:St->Hp->Prop,(∀ τ' H',N τ' H'->∃ m',m'<m/\W (i+1) m' τ' H')/\∀ x H',J.yld i H2 x H'->g x τ H' fun τ2 H3=>tt τ2 H3 fun b H4=>
  if b=true then te τ2 H4 fun v H5=>∃ ys,H5 D=some (.lst ys)/\ys.length<sizeLine/\N τ2 (upd H5 D (.lst (ys ++ [v]))) else N τ2 H4)
theorem DR {ts:List Nat}{wi:TI}{g:TG}{tt:TT}{te:TE}{σ:St}{H:Hp}{Q:VK} :
  J1 ts wi g tt te σ H Q=wi σ H (fun J H1=>∀ D,H1 D=none->WY J g tt te D Q (clr ts σ) (upd H1 D (.lst []))):=rfl
theorem yo {lo:Int}{n:Nat}{g:TG}{tb:TS}{D:j8}{σ:St}{H:Hp}(Pv:Nat->St->Hp->Prop)(h0:Pv 0 σ H)
  (hs:∀ i σ H,i<n->Pv i σ H->g (.int (lo+i)) σ H fun σ2 H2=>tb { D with nx:=Pv (i+1),ct:=Pv (i+1),bk:=D.nx } σ2 H2) (hd:∀ σ H,Pv n σ H->D.nx σ H):XC (Itr lo n) g tb D σ H:=V2 Pv h0 hs hd
theorem FR {K:PySem.W.Frag}{a:Addr}{xs:List V}{g:TG}{tb:TS}{D:j8}{σ:St}{H:Hp}(Pv:Nat->St->Hp->Prop)(h0:Pv 0 σ H)(hl:∀ i σ H,i<=xs.length->Pv i σ H->SqL K H a xs)
  (hs:∀ i x σ H,xs[i]?=some x->Pv i σ H->g x σ H fun σ2 H2=>tb { D with nx:=Pv (i+1),ct:=Pv (i+1),bk:=D.nx } σ2 H2) (hd:∀ σ H,Pv xs.length σ H->D.nx σ H):XC (Itl K a) g tb D σ H:=WT Pv h0 hl hs hd
theorem YZ {K:PySem.W.Frag}{a:Addr}{xs:List V}{g:TG}{tb:TS}{D:j8}{σ:St}{H:Hp}(Pv:Nat->St->Hp->Prop)(h0:Pv 0 σ H)(hl:∀ i σ H,i<=xs.length->Pv i σ H->SqL K H a xs)
  (hs:∀ i x p σ H,xs[i]?=some x->H p=none->Pv i σ H->g (.ref p) σ (upd H p (.tup [.int i,x])) fun σ2 H2=>tb { D with nx:=Pv (i+1),ct:=Pv (i+1),bk:=D.nx } σ2 H2) (hd:∀ σ H,Pv xs.length σ H->D.nx σ H):XC (Ite K a) g tb D σ H:=BE Pv h0 hl hs hd
theorem Gj {K:PySem.W.Frag}{a b:Addr}{xs ys:List V}{g:TG}{tb:TS}{D:j8}{σ:St}{H:Hp}(Pv:Nat->St->Hp->Prop)(hlen:ys.length<=xs.length)(h0:Pv 0 σ H)(hl:∀ i σ H,i<=ys.length->Pv i σ H->SqL K H a xs/\SqL K H b ys)
  (hs:∀ i x y p σ H,xs[i]?=some x->ys[i]?=some y->H p=none->Pv i σ H->g (.ref p) σ (upd H p (.tup [x,y])) fun σ2 H2=>tb { D with nx:=Pv (i+1),ct:=Pv (i+1),bk:=D.nx } σ2 H2) (hd:∀ σ H,Pv ys.length σ H->D.nx σ H):XC (Itz K a b) g tb D σ H:=by
 refine ⟨fun i m σ H=>m=ys.length - i/\i<=ys.length/\Pv i σ H,⟨ys.length,by simp,Nat.zero_le _,h0⟩,?_⟩
 rintro i m σ H ⟨rfl,hi,p⟩
 obtain ⟨q,q'⟩:=hl i σ H hi p
 by_cases hlt:i<ys.length
 ·refine .inr ⟨⟨xs,ys,xs[i]'(by omega),ys[i],q,q',by first | (simp;done) | (simp;omega),by simp [hlt]⟩,Pv (i+1),fun σ' H' p'=>⟨ys.length - (i+1),by omega,rfl,hlt,p'⟩,fun x H' y=>?_⟩
  obtain ⟨pp,x',y',hp,rfl,y1,y2,rfl⟩:=y
  exact hs i x' y' pp σ _ (y1 xs q) (y2 ys q') hp p
 ·have e:i=ys.length:=by omega
  subst e
  exact .inl ⟨⟨xs,ys,q,q',.inr (Nat.le_refl _)⟩,hd σ H p⟩
theorem yj {lo:Int}{n:Nat}{g:TG}{tt:TT}{te:TE}{Q:VK}{τ:St}{H1:Hp}{D:Addr}(Pv:Nat->St->Hp->Prop)(h0:Pv 0 τ (upd H1 D (.lst [])))
  (hs:∀ i τ H,i<n->Pv i τ H->g (.int (lo+i)) τ H fun τ2 H3=>tt τ2 H3 fun b H4=>if b=true then te τ2 H4 fun v H5=>∃ ys,H5 D=some (.lst ys)/\ys.length<sizeLine/\Pv (i+1) τ2 (upd H5 D (.lst (ys ++ [v]))) else Pv (i+1) τ2 H4)
  (hd:∀ τ H,Pv n τ H->Q (.ref D) H):WY (Itr lo n) g tt te D Q τ (upd H1 D (.lst [])):=KO Pv h0 hs hd
noncomputable def Aj (i j k:Nat)(ta:TA):TS:=fun D σ H=>ta σ H fun vs H1=>∃ v w x,vs=[v,w,x]/\D.nx (((σ.set i (some v)).set j (some w)).set k (some x)) H1
theorem FS {X:Cx}{pos:Pos}{i j k:Nat}{x y z:Str}{a b c:Expr}{ta:TA}{px py pz pt:Pos}{kt k2 pt2}(hc:X.calm=true)(hN:X.N.Nodup)(hi:X.N[i]?=some x)(hj:X.N[j]?=some y)(hk:X.N[k]?=some z)(hij:i ≠ j)(hik:i ≠ k)(hjk:j ≠ k)
  (hx:X.env.scope.names.lookup x=some .local) (hy:X.env.scope.names.lookup y=some .local) (hz:X.env.scope.names.lookup z=some .local) (ha:PA X [a,b,c] ta)
  (hw:swappedStores [.Tuple [.Name x px,.Name y py,.Name z pz] kt pt] (.Tuple [a,b,c] k2 pt2) X.env=pure (some [x,y,z]))
  (hs:swapsWithSole [.Tuple [.Name x px,.Name y py,.Name z pz] kt pt] (.Tuple [a,b,c] k2 pt2) pos.line X.env=pure false:=by rfl) :
  PS X (.Assign [.Tuple [.Name x px,.Name y py,.Name z pz] kt pt] (.Tuple [a,b,c] k2 pt2) pos) (Aj i j k ta):=by
 intro pins s σ H D I h
 rw [exec_Assign_arm]
 refine wpAny_bind (wpAny_standAt ?_)
 rw [hs]
 refine wpAny_bind (wpAny_pure ?_)
 rw [if_neg (by decide)]
 refine wpAny_bind (Tuple_ (thn (ha _ pins s σ H _ I h) fun us s1 ⟨vs,H1,I1,r1,q1⟩=>?_))
 obtain ⟨v,w,v3,e1,q1⟩:=q1
 subst e1
 obtain ⟨u1,u2,u3,rfl,rv,rw',r3⟩:∃ u1 u2 u3,us=[u1,u2,u3]/\zI v u1/\zI w u2/\zI v3 u3:=by
  cases r1 with
  | cons p q=>
   cases q with
   | cons p' q'=>
    cases q' with
    | cons p'' q''=>
     cases q''
     exact ⟨_,_,_,rfl,p,p',p''⟩
 refine wpAny_newObj_type ?_ (by show 3<=sizeLine;decide)
 have I2:Inv X pins σ H1 { s1 with heap:=s1.heap.push { cls:=.type "tuple",data:=.seq [u1,u2,u3].toArray } }:=I1.kept (t':=s1.toks) fun b o e=>Heap.get?_push_of_some _ e
 rw [hw]
 refine wpAny_bind (wpAny_pure ?_)
 show wpAny (model X.prog X.w) X.A (do rule "assign.swapped-stores";let items <- unpackItems (.ref s1.heap.objs.size) 3 none;assignInOrder [fun v=>bindName X.env z v,fun v=>bindName X.env y v,fun v=>bindName X.env x v] items.reverse;pure Flow.next) _ _ _
 refine wpAny_bind (wpAny_rule (wpAny_bind (unpackItems_tuple (items:=#[u1,u2,u3]) (I.ok.hd hc) (IsTup.new s1.heap _) fun h' hx'=>?_)))
 have I3:=I2.kept (h':=h') (t':=s1.toks) fun b o e=>hx' b o (Nat.ne_of_lt (Heap.lt_size e)) e
 show wpAny _ _ (assignInOrder [fun v=>bindName X.env z v,fun v=>bindName X.env y v,fun v=>bindName X.env x v] [u3,u2,u1] >>= fun _=>pure Flow.next) _ _ _
 refine wpAny_bind (assignInOrder_cons (wpAny_bindName (jt I3 hN hk (.inl hz) r3 (fun s2 I4=>?_) (.inr hz))))
 refine assignInOrder_cons (wpAny_bindName (jt I4 hN hj (.inl hy) rw' (fun s3 I5=>?_) (.inr hy)))
 refine assignInOrder_cons (wpAny_bindName (jt I5 hN hi (.inl hx) rv (fun s4 I6=>assignInOrder_nil (wpAny_pure ?_)) (.inr hx)))
 rw [List.set_comm _ _ (Ne.symm hij),List.set_comm _ _ (Ne.symm hik),List.set_comm _ _ (Ne.symm hjk)] at I6
 refine ⟨_,H1,?_,q1⟩
 first | exact I6 | (rw [List.set_comm _ _ hij] at I6;exact I6) | (have e:∀ τ:St,((τ.set k (some v3)).set j (some w)).set i (some v)=((τ.set i (some v)).set j (some w)).set k (some v3):=fun τ=>by rw [List.set_comm _ _ (Ne.symm hij),List.set_comm _ _ (Ne.symm hik),List.set_comm _ _ (Ne.symm hjk)];exact I6)
theorem Pn1_ {α:Type}{p:List α->Prop}(f:∀ a,p [a]):∀ us:List α,us.length=1->p us
 | [_],_=>f _
theorem Pn2_ {α:Type}{p:List α->Prop}(f:∀ a b,p [a,b]):∀ us:List α,us.length=2->p us
 | [_,_],_=>f _ _
theorem Pn3_ {α:Type}{p:List α->Prop}(f:∀ a b c,p [a,b,c]):∀ us:List α,us.length=3->p us
 | [_,_,_],_=>f _ _ _
theorem Pn4_ {α:Type}{p:List α->Prop}(f:∀ a b c d,p [a,b,c,d]):∀ us:List α,us.length=4->p us
 | [_,_,_,_],_=>f _ _ _ _
noncomputable def Jj_:Expr->Option Int
 | .Constant (.int i) _ _=>some i
 | _=>none
noncomputable def Xq:List Expr->Option (List Int)
 | []=>some []
 | e :: r=>match Jj_ e with
  | some i=>(Xq r).map (i :: ·)
  | none=>none
noncomputable def Gx (is:List Int):TA:=fun _ H Q=>Q (is.map V.int) H
theorem Yx {X:Cx}:∀ {es:List Expr} {is:List Int},Xq es=some is->PA X es (Gx is)
 | [],is,h=>by
  cases (show some []=some is from h)
  exact zb
 | e :: r,is,h=>by
  unfold Xq at h
  split at h
  ·rename_i i hi
   obtain ⟨js,e',rfl⟩:=Option.map_eq_some_iff.mp h
   unfold Jj_ at hi
   split at hi
   ·cases hi;exact za (te:=tC (.int i)) ze (Yx e')
   ·cases hi
  ·cases h
theorem Z5 {X:Cx}:jg X (.type "int") (fun xs H Q=>∃ k,xs=[.bl k]/\Q (.int (if k then 1 else 0)) H):=by
 intro pins s σ H xs us Q I r h
 exact V8 pins s σ H xs us Q I r (.inr h)
theorem Bx.mono {H:Hp}{b:Addr}{N M:Nat}(h:Bx H b N)(le:N<=M):Bx H b M:=let ⟨x,y,z,h1,h2,h3,h4,h5,h6⟩:=h;⟨x,y,z,h1,h2,h3,h4,h5,by omega⟩
theorem Bx.new {H:Hp}{b p:Addr}{N:Nat}{o:HO}(h:Bx H b N)(hp:H p=none):Bx (upd H p o) b N:=let ⟨x,y,z,h1,r⟩:=h;⟨x,y,z,(zm (zh h1 hp)).trans h1,r⟩
theorem Bx.kp {H H':Hp}{b:Addr}{N:Nat}(h:Bx H b N)(k:Kp [] H H'):Bx H' b N:=let ⟨x,y,z,h1,r⟩:=h;⟨x,y,z,k _ _ (by simp) h1,r⟩
theorem Fd {X:Cx}:PIp X .FloorDiv (rI W3 fun i j=>.int (i / j)):=B7
noncomputable def zj (n:Nat)(ns:List Int):Prop:=ns.length=n/\ns.Nodup/\∀ x ∈ ns,0<=x/\x<(n:Int)
theorem zj.nil:zj 0 []:=⟨rfl,List.nodup_nil,fun x h=>nomatch h⟩
theorem Kx {α:Type}(xs:List α)(i:Nat)(y:α):(xs.take i ++ y :: xs.drop i).Perm (y :: xs):=by
 refine (List.perm_middle).trans ?_
 rw [List.take_append_drop]
theorem zj.insert {k:Nat}{ns:List Int}(h:zj k ns)(i:Nat):zj (k+1) (ns.take i ++ (k:Int) :: ns.drop i):=by
 obtain ⟨h1,h2,h3⟩:=h
 have pm:=Kx ns i (k:Int)
 refine ⟨by rw [pm.length_eq,List.length_cons,h1],?_,fun x hx=>?_⟩
 ·refine pm.nodup_iff.mpr (List.nodup_cons.mpr ⟨fun hm=>?_,h2⟩)
  have:=(h3 _ hm).2
  omega
 ·rcases List.mem_cons.mp (pm.mem_iff.mp hx) with rfl | hx
  ·omega
  ·have:=h3 x hx;omega
theorem wV:∀ (n:Nat) (l:List Int),l.Nodup->(∀ x ∈ l,0<=x/\x<(n:Int))->l.length<=n
 | 0,l,_,h=>by
  cases l with
  | nil=>exact Nat.le_refl _
  | cons x r=>have:=h x List.mem_cons_self;omega
 | n+1,l,hn,h=>by
  have ih:=wV n (l.erase (n:Int)) (hn.erase _) (fun x hx=>by
   have h1:=h x (List.mem_of_mem_erase hx)
   have h2:x ≠ (n:Int):=fun e=>by
    subst e
    exact (hn.not_mem_erase) hx
   omega)
  by_cases hm:(n:Int) ∈ l
  ·rw [List.length_erase_of_mem hm] at ih;omega
  ·rw [List.erase_of_not_mem hm] at ih;omega
theorem zj.surj {n:Nat}{ns:List Int}(h:zj n ns){x:Int}(h0:0<=x)(h1:x<n):x ∈ ns:=by
 obtain ⟨l,d,b⟩:=h
 refine Classical.byContradiction fun hm=>?_
 have:=wV n (x :: ns) (List.nodup_cons.mpr ⟨hm,d⟩) (fun y hy=>by
  rcases List.mem_cons.mp hy with rfl | hy
  ·exact ⟨h0,h1⟩
  ·exact b y hy)
 rw [List.length_cons,l] at this
 omega
theorem zj.getD {n:Nat}{ns:List Int}(h:zj n ns){i:Nat}(hi:i<n):0<=ns.getD i 0/\ns.getD i 0<n:=by
 obtain ⟨l,d,b⟩:=h
 have hi':i<ns.length:=by omega
 have e:ns.getD i 0=ns[i]:=by rw [List.getD_eq_getElem?_getD,List.getElem?_eq_getElem hi'];rfl
 rw [e]
 exact b _ (List.getElem_mem hi')
theorem zU {ns:List Int}{i:Nat}(h:i<ns.length):ns.getD i 0=ns[i]:=by rw [List.getD_eq_getElem?_getD,List.getElem?_eq_getElem h];rfl
theorem zj.inj {n:Nat}{ns:List Int}(h:zj n ns){i j:Nat}(hi:i<n)(hj:j<n)(e:ns.getD i 0=ns.getD j 0):i=j:=by
 obtain ⟨l,d,b⟩:=h
 rw [zU (by omega),zU (by omega)] at e
 exact (List.getElem_inj d).mp e
theorem jv {n:Nat}{ns:List Int}(l:ns.length=n)(b:∀ i,i<n->0<=ns.getD i 0/\ns.getD i 0<n)(j:∀ i k,i<n->k<n->ns.getD i 0=ns.getD k 0->i=k):zj n ns:=by
 refine ⟨l,?_,fun x hx=>?_⟩
 ·rw [List.nodup_iff_pairwise_ne,List.pairwise_iff_getElem]
  intro i k hi hk hik e
  have:=j i k (by omega) (by omega) (by rw [zU hi,zU hk];exact e)
  omega
 ·obtain ⟨i,hi,rfl⟩:=List.mem_iff_getElem.mp hx
  have:=b i (by omega)
  rwa [zU hi] at this
theorem zj.ex {n:Nat}{ns:List Int}(h:zj n ns){j:Nat}(hj:j<n):∃ i,i<n/\ns.getD i 0=(j:Int):=by
 have hm:=h.surj (x:=(j:Int)) (by omega) (by omega)
 obtain ⟨i,hi,e⟩:=List.mem_iff_getElem.mp hm
 exact ⟨i,by rw [<- h.1];exact hi,by rw [zU hi];exact e⟩
theorem zY (n:Nat){i:Nat}(h:i<n):(zJ 0 1 n).getD i 0=(i:Int):=by
 rw [zU (by rw [zr];exact h)]
 simp [zJ]
theorem zj.rng (n:Nat):zj n (zJ 0 1 n):=by
 refine jv (zr 0 1 n) (fun i hi=>?_) (fun i k hi hk e=>?_)
 ·rw [zY n hi];omega
 ·rw [zY n hi,zY n hk] at e;omega
theorem Kp.drop1 {bs:List Addr}{H H':Hp}{p:Addr}{o:HO}(hp:H p=none)(k:Kp (p :: bs) (upd H p o) H'):Kp bs H H':=fun c u n h=>by
 have hne:c ≠ p:=zh h hp
 refine k c u ?_ ((zm hne).trans h)
 intro hm
 rcases List.mem_cons.mp hm with e | e
 ·exact hne e
 ·exact n e
theorem Bx.ne {H:Hp}{b p:Addr}{N:Nat}(h:Bx H b N)(hp:H p=none):b ≠ p:=let ⟨_,_,_,h1,_⟩:=h;zh h1 hp
theorem Bx.there {H:Hp}{b:Addr}{N:Nat}(h:Bx H b N):∃ o,H b=some o:=let ⟨_,_,_,h1,_⟩:=h;⟨_,h1⟩
theorem Bx.keep {H H':Hp}{b:Addr}{N:Nat}{bs:List Addr}(h:Bx H b N)(k:Kp bs H H')(hb:b ∉ bs):Bx H' b N:=let ⟨x,y,z,h1,r⟩:=h;⟨x,y,z,k _ _ hb h1,r⟩
theorem qW {ns:List Int}{i j:Nat}{v:Int}(h:i<ns.length):(ns.set i v).getD j 0=if j=i then v else ns.getD j 0:=by
 rw [List.getD_eq_getElem?_getD,List.getElem?_set]
 by_cases e:i=j
 ·subst e;simp [h]
 ·rw [if_neg e,if_neg (Ne.symm e),List.getD_eq_getElem?_getD]
theorem xo {xs ys:List Int}(l:xs.length=ys.length)(h:∀ i,i<xs.length->xs.getD i 0=ys.getD i 0):xs=ys:=by
 refine List.ext_getElem l fun i h1 h2=>?_
 have:=h i h1
 rwa [zU h1,zU h2] at this
noncomputable def K9:V->V->V->Hp->(Hp->Prop)->Prop:=fun o i v H Q=>∃ k,i=.int k/\∃ p,o=.ref p/\∃ xs,H p=some (.lst xs)/\∃ j,ixN xs.length k=some j/\Q (upd H p (.lst (xs.set j v)))
section
variable {X:Cx}
theorem xM:MtR X "list.append" vS:=yZ
theorem Zs:MtR X "list.insert" vO:=WD
theorem qO {es:List Expr}{k:Nat}{t:TGs}{pos:Pos}{K:PySem.W.Frag}(n:Nat)(h:X.K=K)(hc:X.calm=true)(hs:PGs X es t)(hn:(assignEach es X.env).length=n:=by rfl)(hst:(assignEach es X.env).findIdx? (·.1)=none:=by rfl):PG X (.Tuple es k pos) (BQ K n t):=h ▸ Lm hc hs hn hst
theorem zE:Eh X K9:=by
 intro pins s σ H o i v ov iv u Q I ro ri rv h
 obtain ⟨k,e1,p,e2,xs,h1,j,h2,q⟩:=h
 exact BW pins s σ H o i v ov iv u Q I ro ri rv ⟨p,xs,k,j,e2,e1,h1,h2,q⟩
theorem BD {K:PySem.W.Frag}(h:X.K=K):SlR X (EJ K):=h ▸ xN
end
noncomputable def aft (one other:List Int):List Int:=one.map fun x=>other.getD x.toNat 0
theorem zT (a b:List Int):(aft a b).length=a.length:=List.length_map _
theorem qq {a:List Int}(b:List Int){i:Nat}(h:i<a.length):(aft a b).getD i 0=b.getD (a.getD i 0).toNat 0:=by
 rw [zU (by rw [zT];exact h),zU h]
 exact List.getElem_map _
theorem zj.aft {n:Nat}{a b:List Int}(ha:zj n a)(hb:zj n b):zj n (aft a b):=by
 refine jv (by rw [zT,ha.1]) (fun i hi=>?_) (fun i k hi hk e=>?_)
 ·rw [qq b (by rw [ha.1];exact hi)]
  have:=ha.getD hi
  exact hb.getD (by omega)
 ·rw [qq b (by rw [ha.1];exact hi),qq b (by rw [ha.1];exact hk)] at e
  have h1:=ha.getD hi
  have h2:=ha.getD hk
  have:=hb.inj (by omega) (by omega) e
  exact ha.inj hi hk (by omega)
theorem ZC {n:Nat}{a b c:List Int}(ha:zj n a)(hb:b.length=n):aft (aft a b) c=aft a (aft b c):=by
 refine xo (by rw [zT,zT,zT]) fun i hi=>?_
 rw [zT,zT,ha.1] at hi
 have h1:=ha.getD hi
 rw [qq c (by rw [zT,ha.1];exact hi),qq b (by rw [ha.1];exact hi),qq _ (by rw [ha.1];exact hi),qq c (by omega)]
theorem kI {n:Nat}{b:List Int}(hb:b.length=n):aft (zJ 0 1 n) b=b:=by
 refine xo (by rw [zT,zr,hb]) fun i hi=>?_
 rw [zT,zr] at hi
 rw [qq b (by rw [zr];exact hi),zY n hi,Int.toNat_natCast]
theorem xT {n:Nat}{a:List Int}(ha:zj n a):aft a (zJ 0 1 n)=a:=by
 refine xo (by rw [zT]) fun i hi=>?_
 rw [zT,ha.1] at hi
 have h1:=ha.getD hi
 rw [qq _ (by rw [ha.1];exact hi),zY n (by omega)]
 omega
noncomputable def qD (os bs:List Int):Prop:=bs.length=os.length/\∀ i,i<os.length->bs.getD (os.getD i 0).toNat 0=(i:Int)
theorem qD.at {n:Nat}{os bs:List Int}(ho:zj n os)(h:qD os bs){j:Nat}(hj:j<n):∃ i:Nat,i<n/\os.getD i 0=(j:Int)/\bs.getD j 0=(i:Int):=by
 obtain ⟨i,hi,e⟩:=ho.ex hj
 refine ⟨i,hi,e,?_⟩
 have:=h.2 i (by rw [ho.1];exact hi)
 rw [e,Int.toNat_natCast] at this
 exact this
theorem qD.ord {n:Nat}{os bs:List Int}(ho:zj n os)(h:qD os bs):zj n bs:=by
 refine jv (by rw [h.1,ho.1]) (fun j hj=>?_) (fun j k hj hk e=>?_)
 ·obtain ⟨i,hi,_,e⟩:=h.at ho hj
  rw [e];omega
 ·obtain ⟨i,hi,e1,e2⟩:=h.at ho hj
  obtain ⟨i',hi',e1',e2'⟩:=h.at ho hk
  have:i=i':=by omega
  subst this
  omega
theorem qD.right {n:Nat}{os bs:List Int}(ho:zj n os)(h:qD os bs):aft os bs=zJ 0 1 n:=by
 refine xo (by rw [zT,zr,ho.1]) fun i hi=>?_
 rw [zT] at hi
 rw [qq bs hi,h.2 i hi,zY n (by rw [<- ho.1];exact hi)]
theorem qD.unique {n:Nat}{os bs cs:List Int}(ho:zj n os)(h:qD os bs)(hc:cs.length=n)(e:aft os cs=zJ 0 1 n):cs=bs:=by
 refine xo (by rw [hc,h.1,ho.1]) fun j hj=>?_
 obtain ⟨i,hi,e1,e2⟩:=h.at ho (by omega:j<n)
 have:=congrArg (fun l=>l.getD i 0) e
 rw [qq cs (by rw [ho.1];exact hi),e1,Int.toNat_natCast,zY n hi] at this
 rw [this,e2]
noncomputable def yN (os:List Int)(k:Nat):Nat:=((List.range k).filter fun (i:Nat)=>!decide (os.getD i 0=(i:Int))).length
noncomputable def pwl (n:Nat)(b:List Int):Nat->List Int
 | 0=>zJ 0 1 n
 | k+1=>aft (pwl n b k) b
theorem jF {n:Nat}{b:List Int}(hb:zj n b):∀ k,zj n (pwl n b k)
 | 0=>zj.rng n
 | k+1=>(jF hb k).aft hb
theorem vN {n:Nat}{b:List Int}(hb:zj n b)(j:Nat):∀ k,aft (pwl n b j) (pwl n b k)=pwl n b (j+k)
 | 0=>xT (jF hb j)
 | k+1=>by
  show aft (pwl n b j) (aft (pwl n b k) b)=aft (pwl n b (j+k)) b
  rw [<- ZC (jF hb j) (jF hb k).1,vN hb j k]
theorem QG {n:Nat}{b:List Int}(hb:zj n b):pwl n b 1=b:=kI hb.1
theorem Y9 {n:Nat}{b:List Int}(hb:zj n b):∀ k,pwl n (aft b b) k=pwl n b (2 * k)
 | 0=>rfl
 | k+1=>by
  show aft (pwl n (aft b b) k) (aft b b)=_
  have e:aft b b=pwl n b 2:=by
   show aft b b=aft (aft (zJ 0 1 n) b) b
   rw [kI hb.1]
  rw [Y9 hb k,e,vN hb]
  rfl
section
variable {X:Cx}
noncomputable def YV (K:PySem.W.Frag):R2:=fun x y H Q=>∃ p xs i v,x=.ref p/\y=.int i/\(SqL K H p xs \/ SqT K H p xs)/\atI xs i=some v/\Q v H
theorem qm:IxR X (YV X.K):=by
 intro value slice pins s σ H x y v u Q I rx ry h hs
 obtain ⟨p,xs,i,z,e1,e2,hq | hq,he,q⟩:=h
 ·exact zS value slice pins s σ H x y v u Q I rx ry ⟨p,xs,i,z,e1,e2,hq,he,q⟩ hs
 ·exact kM value slice pins s σ H x y v u Q I rx ry ⟨p,xs,i,z,e1,e2,hq,he,q⟩ hs
theorem xY {K:PySem.W.Frag}(h:X.K=K):IxR X (YV K):=h ▸ qm
theorem Hn:bootBuiltins "all"=some (.builtin "all"):=by decide +kernel
theorem wR:∀ {bs:List Bool} {us:List Value},zH (bs.map V.bl) us->us=bs.map Value.bool
 | [],_,h=>by cases h;rfl
 | b :: bs,_,h=>by
  cases h with
  | cons r rs=>cases r;rw [wR rs];rfl
theorem XZ (bs:List Bool):((List.range bs.length).all fun i=>(bs[i]?).getD true)=bs.all id:=by
 rw [Bool.eq_iff_iff,List.all_eq_true,List.all_eq_true]
 constructor
 ·intro h x hx
  obtain ⟨i,hi,rfl⟩:=List.getElem_of_mem hx
  have:=h i (by simpa using hi)
  simpa [List.getElem?_eq_getElem hi] using this
 ·intro h i hi
  have hi':i<bs.length:=by simpa using hi
  simpa [List.getElem?_eq_getElem hi'] using h bs[i] (List.getElem_mem hi')
theorem WJ (hc:X.calm=true):jg X (.builtin "all") (fun xs H Q=>∃ p bs,xs=[.ref p]/\SqL X.K H p (List.map V.bl bs)/\Q (.bl (bs.all id)) H):=by
  intro pins s σ H xs us Q I r h
  obtain ⟨p,bs,rfl,hq,q⟩:=h
  obtain ⟨u,rfl,rx⟩:=ky r
  cases rx
  obtain ⟨its,rv,pl,hz⟩:=I.list hq
  have hu:=wR rv
  subst hu
  have hlt:p<s.heap.objs.size:=by obtain ⟨_,e,_⟩:=pl.isList;exact Heap.lt_size e
  refine call_all_walk (wpAny_pyIter_list pl.isList ?_)
  refine ⟨s.heap.objs.size,[s.heap.objs.size,p],[s.heap.objs.size],(bs.map Value.bool).toArray.size,_,_,fun i=>(bs[i]?).getD true,rfl,Walks.list (A:=X.A.in1) (I.ok.hd hc) _ p (Nat.ne_of_lt hlt) (bs.map Value.bool).toArray,
    ⟨⟨_,Heap.get?_push_size _ rfl,rfl,rfl⟩,pl.isList.push _⟩,fun i v s' Q' E' hP hQ=>?_,fun h' tk hk=>?_⟩
  · have hP':(bs.map Value.bool)[i]?=some v:=by simpa using hP
    rw [List.getElem?_map] at hP'
    cases e:bs[i]? with
    | none=>rw [e] at hP';cases hP'
    | some b=>
      rw [e] at hP'
      cases hP'
      simp only [e,Option.getD_some] at hQ
      exact wpAny_truthy_bool hQ
  · have e : ((List.range (bs.map Value.bool).toArray.size).all fun i => (bs[i]?).getD true) = bs.all id := by
      rw [List.size_toArray,List.length_map];exact XZ bs
    rw [e]
    refine ⟨.bl (bs.all id),H,I.turnedL (ch:=[]) (tk:=tk) (fun b hb=>nomatch hb) (fun b o _ eb=>?_),rfl,q⟩
    exact hk b o (fun hm=>by rw [List.mem_singleton.mp hm] at eb;exact Nat.lt_irrefl _ (Heap.lt_size eb)) (Heap.get?_push_of_some _ eb)
end
noncomputable def nxt (os:List Int)(p:Int):Int:=os.getD p.toNat 0
noncomputable def itn (os:List Int):Nat->Int->Int
 | 0,p=>p
 | k+1,p=>nxt os (itn os k p)
theorem qU {n:Nat}{os:List Int}(h:zj n os){p:Int}(p0:0<=p)(p1:p<n):∀ k,0<=itn os k p/\itn os k p<n
 | 0=>⟨p0,p1⟩
 | k+1=>by
  have:=qU h p0 p1 k
  exact h.getD (by omega)
theorem kR (os:List Int)(p:Int)(b:Nat):∀ a,itn os (a+b) p=itn os a (itn os b p)
 | 0=>by rw [Nat.zero_add];rfl
 | a+1=>by
  rw [show a+1+b=(a+b)+1 by omega]
  show nxt os (itn os (a+b) p)=nxt os (itn os a (itn os b p))
  rw [kR os p b a]
theorem EN {n:Nat}{os:List Int}(h:zj n os){x y:Int}(x0:0<=x)(x1:x<n)(y0:0<=y)(y1:y<n)(e:nxt os x=nxt os y):x=y:=by
 have:=h.inj (i:=x.toNat) (j:=y.toNat) (by omega) (by omega) e
 omega
theorem Z7 {n:Nat}{os:List Int}(h:zj n os){x y:Int}(x0:0<=x)(x1:x<n)(y0:0<=y)(y1:y<n):∀ k,itn os k x=itn os k y->x=y
 | 0,e=>e
 | k+1,e=>by
  have bx:=qU h x0 x1 k
  have by':=qU h y0 y1 k
  exact Z7 h x0 x1 y0 y1 k (EN h bx.1 bx.2 by'.1 by'.2 e)
theorem YW {n:Nat}{os:List Int}(h:zj n os){p:Int}(p0:0<=p)(p1:p<n):∃ M,1<=M/\M<=n/\itn os M p=p:=by
 apply Classical.byContradiction
 intro hno
 have hp:((List.range (n+1)).map fun i=>itn os i p).Nodup:=by
  rw [List.Nodup,List.pairwise_map]
  refine List.Pairwise.imp_of_mem (R:=fun a b=>a<b) ?_ List.pairwise_lt_range
  intro a b ha hb hlt e
  have hb':b<n+1:=by simpa using hb
  refine hno ⟨b - a,by omega,by omega,?_⟩
  have bb:=qU h p0 p1 (b - a)
  refine (Z7 h p0 p1 bb.1 bb.2 a ?_).symm
  rw [<- kR,show a+(b - a)=b by omega]
  exact e
 have:=wV n _ hp (fun x hx=>by
  obtain ⟨i,_,rfl⟩:=List.mem_map.mp hx
  exact qU h p0 p1 i)
 rw [List.length_map,List.length_range] at this
 omega
section
variable {P:Program}{w:World}{A:Around}{E:Value->Shared->Prop}{s:Shared}{j t:Addr}{i:Nat}{its:Array Value}{Q:Value->Shared->Prop}
theorem kT {x:Value}(hj:s.heap.IsTupleIter j t i)(ht:s.heap.IsTuple t its)(hx:its[i]?=some x)(hQ:∀ h',h'.IsTupleIter j t (i+1)->Heap.SameBut j s.heap h'->Q x { s with heap:=h' }):wpAny (model P w) A (Builtin.SmallTypes.nextOf (.ref j)) Q E s:=by
 obtain ⟨o,ho,hc,hd⟩:=id hj
 obtain ⟨ot,hot,_,nt,hdt⟩:=ht
 unfold Builtin.SmallTypes.nextOf
 refine wpAny_bind (wpAny_callSpecial?_slot (name:=Str.ofString "__next__") hj.typeIs F.slot_tuple_iterator_next (wpAny_call_entry F.slot_tuple_iterator_next hj.typeIs F.entry_tuple_iterator_next ?_ (F.args_tuple_iterator_next_1 _)))
 refine wpAny_bind (m:=field (.ref j) 0) (wpAny_field ho hd (x:=.ref t) rfl ?_);show wpAny _ _ (if (Value.ref t == Value.none)=true then _ else _) _ _ s;rw [if_neg (show ¬ ((Value.ref t == Value.none)=true) from Bool.false_ne_true)]
 refine wpAny_bind (m:=field (.ref j) 1) (wpAny_field ho hd (x:=.int i 0) rfl ?_);refine wpAny_bind (m:=seqItems? (.ref t)) (wpAny_seqItems hot hdt ?_);simp only [Int.toNat_natCast,hx]
 refine wpAny_bind (wpAny_setField ho hd (by simp) (wpAny_pure ⟨x,rfl,wpAny_pure (hQ _ ⟨_,Heap.get?_update_self _ ho (Obj.isFreed_of_fields (Obj.data_mapFields hd _)),(Obj.cls_mapFields ..).trans hc,by rw [Obj.data_mapFields hd];simp [rawInt]⟩ (Heap.SameBut.update ..))⟩))
theorem xp (hh:A.handled=none)(hj:s.heap.IsTupleIter j t i)(ht:s.heap.IsTuple t its)(hx:its[i]?=none)(hE:∀ h' e,Heap.ExtBut j s.heap h'->(∃ o,h'.get? e=some o/\o.cls=.type "StopIteration")->E (.ref e) { s with heap:=h' }):wpAny (model P w) A (Builtin.SmallTypes.nextOf (.ref j)) Q E s:=by
 obtain ⟨o,ho,hc,hd⟩:=id hj
 obtain ⟨ot,hot,_,nt,hdt⟩:=ht
 unfold Builtin.SmallTypes.nextOf
 refine wpAny_bind (wpAny_callSpecial?_slot (name:=Str.ofString "__next__") hj.typeIs F.slot_tuple_iterator_next (wpAny_call_entry F.slot_tuple_iterator_next hj.typeIs F.entry_tuple_iterator_next ?_ (F.args_tuple_iterator_next_1 _)))
 refine wpAny_bind (m:=field (.ref j) 0) (wpAny_field ho hd (x:=.ref t) rfl ?_);show wpAny _ _ (if (Value.ref t == Value.none)=true then _ else _) _ _ s;rw [if_neg (show ¬ ((Value.ref t == Value.none)=true) from Bool.false_ne_true)]
 refine wpAny_bind (m:=field (.ref j) 1) (wpAny_field ho hd (x:=.int i 0) rfl ?_);refine wpAny_bind (m:=seqItems? (.ref t)) (wpAny_seqItems hot hdt ?_);simp only [Int.toNat_natCast,hx]
 refine wpAny_bind (wpAny_rule (wpAny_bind (wpAny_setField ho hd (by simp) ?_)));refine wpAny_bind (m:=newExc (.type "StopIteration") []) ?_;simp only [newExc,newTuple];refine wpAny_bind (wpAny_newObj_type ?_ (by size_fits));refine wpAny_bind (m:=firstArgMember _ _) (wpAny_of_eq (a:=Value.none) (by first | rfl | (simp only [firstArgMember];rfl)) ?_);refine wpAny_newObj_type ?_ (by size_fits);simp only [raiseNew];refine wpAny_bind (wpAny_handled ?_)
 (first | rw [show A.in1.handled=none from hh] | rw [hh]);refine wpAny_bind (wpAny_pure (wpAny_throw ?_));exact hE _ _ (((Heap.SameBut.update ..).extBut.push _).push _) ⟨_,Heap.get?_push_size _ rfl,rfl⟩
end
theorem WL {P:Program}{w:World}{A:Around}(hh:A.handled=none)(j t:Addr)(hne:t ≠ j)(its:Array Value) :
  Draws P w A j [j,t] its.size (fun i v=>its[i]?=some v) (fun i h=>h.IsTupleIter j t i/\h.IsTuple t its) where
 live:=fun _ _ st=>let ⟨o,ho,_⟩:=st.1;⟨o,ho⟩
 frame:=fun _ _ _ st hk=>⟨st.1.at fun o e=>hk j (by simp) o e,let ⟨o,ho,r⟩:=st.2;⟨o,hk t (by simp) o ho,r⟩⟩
 item:=fun i s Q E hi st hQ=>by
  refine kT st.1 st.2 (x:=its[i]) (by simp [hi]) fun h' hit' hs'=>?_
  exact hQ _ h' s.toks (by simp [hi]) ⟨hit',let ⟨o,ho,r⟩:=st.2;⟨o,(hs'.2 t hne).trans ho,r⟩⟩ hs'
 done:=fun s Q E st hE=>xp hh st.1 st.2 (by simp) hE
open AutoSeq1 (wpAny_loadPart') in
theorem Wh (l:Addr)(its:Array Value)(n:Nat)(dct:Option Addr)(sl:Array (Option Value)) :
  Meets (Builtin.«enumerate.__new__» ⟨[.type "enumerate",.ref l],[]⟩) (fun _ R s=>s.heap.get? l=some { cls:=.type "tuple",dict:=dct,data:=.seq its n,slots:=sl }/\R (.ok (.ret (.ref (s.heap.push { cls:=.type "tuple_iterator",data:=.fields #[.ref l,.int 0 0] }).objs.size))) { s with heap:=(s.heap.push { cls:=.type "tuple_iterator",data:=.fields #[.ref l,.int 0 0] }).push { cls:=.type "enumerate",data:=.fields #[.none,.bool false,.ref s.heap.objs.size,rawInt 0,.none,.none] } }):=
 .of_wp fun prog w A R s h=>by
  obtain ⟨hp,g,d,tk,os⟩:=s
  obtain ⟨hl,h⟩:=h
  have hsub:=sub_enumerate
  have hT:Heap.IsTuple (Shared.heap ⟨hp,g,d,tk,os⟩) l its:=⟨_,hl,rfl,n,rfl⟩
  wp_walk using wpAny_loadPart' hl
  refine wpAny_stack_any fun st=>wpAny_pure ?_
  split
  ·rename_i c _ _ _ _ _
   cases (c == Value.type "enumerate")
   ·wp_walk using wpAny_loadPart' hl,wpAny_pyIter_tuple hT;exact ⟨_,rfl,h⟩
   ·wp_walk using wpAny_loadPart' hl,wpAny_pyIter_tuple hT;exact ⟨_,rfl,h⟩
  ·wp_walk using wpAny_loadPart' hl,wpAny_pyIter_tuple hT;exact ⟨_,rfl,h⟩
theorem KQ {P:Program}{w:World}{A:Around}{E:Value->Shared->Prop}{s:Shared}{l:Addr}{its:Array Value}{Q:Value->Shared->Prop}(hT:s.heap.IsTuple l its)
  (h:∀ h',IsEnum h' (s.heap.objs.size+1) s.heap.objs.size 0 .none->h'.IsTupleIter s.heap.objs.size l 0->(∀ b o,s.heap.get? b=some o->h'.get? b=some o)->Q (.ref (s.heap.objs.size+1)) { s with heap:=h' }) :
  wpAny (model P w) A (call (.type "enumerate") [.ref l]) Q E s:=by
 obtain ⟨⟨c,dct,dt,sl⟩,hl,hc,n,hd⟩:=hT
 replace hc:c=.type "tuple":=hc
 replace hd:dt=.seq its n:=hd
 subst hc hd
 refine callType_new F.called_enumerate (by decide) (F.typeCall_enumerate_1 _) (F.newCall_enumerate_1 _) (fun obj=>F.args_object_init_2 obj _) F.entry_enumerate_new (Wh l its n dct sl) ⟨hl,?_⟩
 have hz:(s.heap.push { cls:=.type "tuple_iterator",data:=.fields #[.ref l,.int 0 0] }).objs.size=s.heap.objs.size+1:=Heap.size_push ..
 show _/\_
 rw [hz]
 have he:IsEnum ((s.heap.push { cls:=.type "tuple_iterator",data:=.fields #[.ref l,.int 0 0] }).push { cls:=.type "enumerate",data:=.fields #[.none,.bool false,.ref s.heap.objs.size,rawInt 0,.none,.none] }) (s.heap.objs.size+1) s.heap.objs.size 0 .none:=by
  have hg:=Heap.get?_push_size (s.heap.push { cls:=.type "tuple_iterator",data:=.fields #[.ref l,.int 0 0] }) (o:={ cls:=.type "enumerate",data:=.fields #[.none,.bool false,.ref s.heap.objs.size,rawInt 0,.none,.none] }) rfl
  rw [hz] at hg;exact hg
 exact ⟨⟨_,he,rfl⟩,h _ he ⟨_,Heap.get?_push_of_some _ (Heap.get?_push_size _ rfl),rfl,rfl⟩ fun b o x=>Heap.get?_push_of_some _ (Heap.get?_push_of_some _ x)⟩
theorem VZ {P:Program}{w:World}{A:Around}{E:Value->Shared->Prop}{s:Shared}{e j t:Addr}{i:Nat}{its:Array Value}{old:Value}{Q:Option Value->Shared->Prop}(hh:A.handled=none)
  (he:IsEnum s.heap e j i old) (hj:s.heap.IsTupleIter j t i) (ht:s.heap.IsTuple t its) (hx:its[i]?=none) (hQ:∀ h',Heap.ExtBut j s.heap h'->Q none { s with heap:=h' }):wpAny (model P w) A (pyNext (.ref e)) Q E s:=by
 have hT:s.TypeIs (.ref e) "enumerate":=⟨_,he,rfl⟩
 unfold pyNext
 refine wpAny_bind (wpAny_attempt (wpAny_callSpecial?_slot (name:=Str.ofString "__next__") hT F.slot_enumerate_next (wpAny_call_entry F.slot_enumerate_next hT F.entry_enumerate_next ?_ (F.args_enumerate_next_1 _))))
 refine wpAny_bind (m:=field (.ref e) 2) (wpAny_field he rfl (x:=.ref j) rfl ?_);refine wpAny_bind (xp hh hj ht hx fun h' x he' hx'=>?_)
 obtain ⟨o,ho,hc⟩:=hx'
 refine wpAny_bind (wpAny_isInstance (T:="StopIteration") (b:=true) ⟨o,ho,hc⟩ isSubtype_stop ?_);exact wpAny_pure (hQ _ he')
noncomputable def F2 (K:PySem.W.Frag)(a:Addr):It:=
 ⟨fun i H=>∃ xs x,SqT K H a xs/\xs[i]?=some x,fun i H y H'=>∃ p x,H p=none/\y=.ref p/\(∀ xs,SqT K H a xs->xs[i]?=some x)/\H'=upd H p (.tup [.int i,x]),fun i H=>∃ xs,SqT K H a xs/\xs.length<=i⟩
theorem KZ {P:Program}{w:World}{K:PySem.W.Frag}{es:List Expr}{kt:Nat}{tp:Pos}(a e it:Addr)(hei:e ≠ it)(hea:e ≠ a)(hai:a ≠ it):Qq P w K (.Tuple es kt tp) (F2 K a) [e,it] e (fun i h=>(∃ old,IsEnum h e it (i:Nat) old)/\h.IsTupleIter it a i) where
 mem:=by simp
 obj:=fun i h st b hb=>by
  obtain ⟨⟨old,he⟩,⟨o,e1,c,d⟩⟩:=st
  rcases List.mem_cons.mp hb with rfl | hb
  ·exact ⟨_,he,fun v z=>by have z':Data.fields _=Data.cell v:=z;cases z'⟩
  ·have e2:b=it:=by simpa using hb
   subst e2
   exact ⟨o,e1,fun v z=>by rw [d] at z;cases z⟩
 keep:=fun i h h' st k=>by
  obtain ⟨⟨old,he⟩,st⟩:=st
  exact ⟨⟨old,k e (by simp) _ he⟩,st.at fun o e=>k it (by simp) o e⟩
 item:=by
  intro X hP hw hK hc i pins s σ H E I hf st hg
  subst hP hw hK
  obtain ⟨⟨old,he⟩,st⟩:=st
  obtain ⟨xs,x,hq,hx⟩:=hg
  obtain ⟨its,rv,p,hz⟩:=I.tuple hq
  obtain ⟨u,hu,ru⟩:=rv.get hx
  have hlt:i<its.toArray.size:=by
   have:=(List.getElem?_eq_some_iff.mp hu).1
   simpa using this
  refine wpAny_pyNext_enum_itemD (WL (A:=X.A.in1) (I.ok.hd hc) it a hai its.toArray) he ⟨st,p⟩ hlt hei (by simp [hei,hea]) fun x' h1 tk hP heo hit1 ht1 hz1 hk1=>?_
  have hxu:x'=u:=by
   have h1':its[i]?=some x':=by simpa using hP
   rw [hu] at h1';cases h1';rfl
  subst hxu
  refine ⟨.ref s.heap.objs.size,rfl,wpAny_letOwnedTupleGo_enum heo fun h2 he2 hs2=>?_⟩
  replace hs2:Heap.SameBut e h1 h2:=hs2
  have elt:e<s.heap.objs.size:=Heap.lt_size he
  have ht2:=(hs2.2 _ (Nat.ne_of_gt elt)).trans ht1
  have I2:Inv X pins σ (upd H s.heap.objs.size (.tup [.int i,x])) { s with heap:=h2,toks:=tk+1 }:=by
   refine I.yieldTup (us:=[.int i tk,x']) hf (fun b o hb q=>?_) (Nat.le_refl _) ht2 (.cons ⟨_,rfl⟩ (.cons ru .nil)) (by show 2<=sizeLine;decide)
   have n1:b ≠ e:=fun z=>hb (by simp [z])
   have n2:b ≠ it:=fun z=>hb (by simp [z])
   exact (hs2.2 b n1).trans (hk1 b o n1 n2 q)
  refine ⟨.ref s.heap.objs.size,_,I2,rfl,⟨s.heap.objs.size,x,I.hok.fresh (Nat.le_refl _),rfl,fun ys hy=>by rw [I.tuple_inj hy hq];exact hx,rfl⟩,⟨⟨_,by simpa using he2⟩,hit1.1.extBut hs2.extBut (Ne.symm hei)⟩,fun b hb=>?_⟩
  have hlt:b<s.heap.objs.size:=by
   rcases List.mem_cons.mp hb with rfl | hb
   ·exact elt
   ·have e2:b=it:=by simpa using hb
    subst e2
    obtain ⟨o,e1,_⟩:=st
    exact Heap.lt_size e1
  rw [zm (Nat.ne_of_lt hlt)]
  exact (hf b hb).1
 done:=by
  intro X hP hw hK hc i pins s σ H E I hf st hg
  subst hP hw hK
  obtain ⟨⟨old,he⟩,st⟩:=st
  obtain ⟨xs,hq,hx⟩:=hg
  obtain ⟨its,rv,p,hz⟩:=I.tuple hq
  obtain ⟨f0,f1,f2,f3,f4,f5⟩:=hf it (by simp)
  have hl:=rv.length
  exact VZ (I.ok.hd hc) he st p (by simp;omega) fun h' eb=>⟨rfl,I.turned (t':=s.toks) (fun b o hb e=>eb b o hb e) f0 f1 f3 f4 f5⟩
 self:=fun _ _ _ _ _ st h=>by
  obtain ⟨⟨old,he⟩,_⟩:=st
  exact wpAny_pyIter_enum he h
section
variable {X:Cx}{es:List Expr}{kt:Nat}{tp:Pos}
noncomputable def QC (K:PySem.W.Frag)(ta:TA):TI:=fun σ H R=>ta σ H fun vs H1=>∃ a,vs=[.ref a]/\(((∃ xs,SqL K H1 a xs)/\R (Ite K a) H1) \/ ((∃ xs,SqT K H1 a xs)/\R (F2 K a) H1))
theorem kz {e:Expr}{ta:TA}{p pos:Pos}(hg:Gl X "enumerate")(hm:X.mg "enumerate"=none)(ha:PA X [e] ta)(hs:starEach [e] X.env=[(false,eval e X.env)]:=by rfl) :
  PI X (.Tuple es kt tp) (.Call (.Name "enumerate" p) [e] [] pos) (QC X.K ta):=by
 intro pins s σ H R I h
 refine Call_ (kJ I hg hm (wZ) (PyProof.Rows.callWith_type1 (thn (ha pos pins s σ H _ I h) fun us s1 ⟨vs,H1,I1,r1,q1⟩=>?_) hs rfl))
 obtain ⟨a,e,q⟩:=q1
 subst e
 obtain ⟨u,rfl,ru⟩:=ky r1
 cases ru
 have hb':∀ b ∈ [s1.heap.objs.size+1,s1.heap.objs.size],s1.heap.objs.size<=b:=by
  intro b hb
  simp only [List.mem_cons,List.not_mem_nil,or_false] at hb
  omega
 rcases q with ⟨⟨xs,hq⟩,q⟩ | ⟨⟨xs,hq⟩,q⟩
 ·obtain ⟨its,rv,pl,hz⟩:=I1.list hq
  refine call_enumerate_list pl.isList fun h' he hit hsz hk=>wpAny_pyIter_enum he ?_
  have I2:Inv X pins σ H1 { s1 with heap:=h' }:=I1.kept (t':=s1.toks) hk
  exact ⟨s1.heap.objs.size+1,[s1.heap.objs.size+1,s1.heap.objs.size],_,_,H1,rfl,I2,ZD a _ _ (Nat.succ_ne_self _),⟨⟨_,he⟩,hit⟩,fun b hb=>I1.fpOk (hb' b hb) (I1.hok.fresh (hb' b hb)),q⟩
 ·obtain ⟨its,rv,pl,hz⟩:=I1.tuple hq
  have alt:a<s1.heap.objs.size:=by obtain ⟨o,e,_⟩:=pl;exact Heap.lt_size e
  refine KQ pl fun h' he hit hk=>wpAny_pyIter_enum he ?_
  have I2:Inv X pins σ H1 { s1 with heap:=h' }:=I1.kept (t':=s1.toks) hk
  exact ⟨s1.heap.objs.size+1,[s1.heap.objs.size+1,s1.heap.objs.size],_,_,H1,rfl,I2,KZ a (s1.heap.objs.size+1) s1.heap.objs.size (Nat.succ_ne_self _) (Nat.ne_of_gt (Nat.lt_succ_of_lt alt)) (Nat.ne_of_lt alt),⟨⟨_,he⟩,hit⟩,fun b hb=>I1.fpOk (hb' b hb) (I1.hok.fresh (hb' b hb)),q⟩
end
theorem X8 {K:PySem.W.Frag}{H H':Hp}{a:Addr}{xs:List V}(h:SqT K H a xs)(e:Kp [] H H'):SqT K H' a xs:=by
 rcases h with (h | ⟨o,h⟩) | h
 ·exact .inl (.inl (e _ _ (by simp) h))
 ·exact .inl (.inr ⟨o,e _ _ (by simp) h⟩)
 ·exact .inr h
theorem KY {K:PySem.W.Frag}{H H':Hp}{a:Addr}{xs:List V}(h:SqL K H a xs)(e:Kp [] H H'):SqL K H' a xs:=by
 rcases h with (h | ⟨o,h⟩) | h
 ·exact .inl (.inl (e _ _ (by simp) h))
 ·exact .inl (.inr ⟨o,e _ _ (by simp) h⟩)
 ·exact .inr h
theorem qD.same {n:Nat}{os bs cs:List Int}(ho:zj n os)(h:qD os bs)(h':qD os cs):cs=bs:=qD.unique ho h (h'.ord ho).1 (h'.right ho)
theorem wg {K:PySem.W.Frag}{a:Addr}{xs:List V}{g:TG}{tb:TS}{D:j8}{σ:St}{H0 H:Hp}(hq:SqL K H0 a xs \/ SqT K H0 a xs)(Pv:Nat->St->Hp->Prop)(h0:Pv 0 σ H)(hl:∀ i σ H',Pv i σ H'->Kp [] H0 H')
  (hs:∀ i x p σ H,xs[i]?=some x->H p=none->Pv i σ H->g (.ref p) σ (upd H p (.tup [.int i,x])) fun σ2 H2=>tb { D with nx:=Pv (i+1),ct:=Pv (i+1),bk:=D.nx } σ2 H2) (hd:∀ σ H,Pv xs.length σ H->D.nx σ H) :
  ((∃ xs,SqL K H a xs)/\XC (Ite K a) g tb D σ H) \/ ((∃ xs,SqT K H a xs)/\XC (F2 K a) g tb D σ H):=by
 rcases hq with hq | hq
 ·exact .inl ⟨⟨_,KY hq (hl 0 σ H h0)⟩,YZ Pv h0 (fun i σ H' _ p=>KY hq (hl i σ H' p)) hs hd⟩
 ·refine .inr ⟨⟨_,X8 hq (hl 0 σ H h0)⟩,fun i m σ H=>m=xs.length - i/\i<=xs.length/\Pv i σ H,⟨xs.length,by simp,Nat.zero_le _,h0⟩,?_⟩
  rintro i m σ H' ⟨rfl,hi,p⟩
  have q:=X8 hq (hl i σ H' p)
  by_cases hlt:i<xs.length
  ·refine .inr ⟨⟨xs,xs[i],q,by simp [hlt]⟩,Pv (i+1),fun σ' H' p'=>⟨xs.length - (i+1),by omega,rfl,hlt,p'⟩,fun x H' y=>?_⟩
   obtain ⟨pp,x',hp,rfl,y,rfl⟩:=y
   exact hs i x' pp σ _ (y xs q) hp p
  ·have e:i=xs.length:=by omega
   subst e
   exact .inl ⟨⟨xs,q,Nat.le_refl _⟩,hd σ H' p⟩
noncomputable def ME (t:TE):Prop:=∀ σ H Q Q',(∀ v H1,Q v H1->Q' v H1)->t σ H Q->t σ H Q'
noncomputable def MT (t:TT):Prop:=∀ σ H Q Q',(∀ v H1,Q v H1->Q' v H1)->t σ H Q->t σ H Q'
noncomputable def MR (r:R2):Prop:=∀ x y H Q Q',(∀ z H1,Q z H1->Q' z H1)->r x y H Q->r x y H Q'
theorem Dj {i:Nat}:ME (BH i):=fun _ _ _ _ hq ⟨v,e,h⟩=>⟨v,e,hq _ _ h⟩
theorem Ml {r:R2}{ta tb:TE}(hr:MR r)(ha:ME ta)(hb:ME tb):ME (tOp r ta tb):=fun _ _ _ _ hq h=>ha _ _ _ _ (fun _ _ h1=>hb _ _ _ _ (fun _ _ h2=>hr _ _ _ _ _ hq h2) h1) h
theorem Gn {t:TE}(h:ME t):MT (YC t):=fun _ _ _ _ hq q=>h _ _ _ _ (fun _ _ ⟨k,e,z⟩=>⟨k,e,hq _ _ z⟩) q
theorem wK {p:Nat->Prop}:∀ n,p n->∃ m,p m/\∀ j,j<m->¬ p j:=by
 intro n
 induction n using Nat.strongRecOn with
 | _ n ih=>
  intro h
  by_cases hx:∃ j,j<n/\p j
  ·obtain ⟨j,hj,pj⟩:=hx
   exact ih j hj pj
  ·exact ⟨n,h,fun j hj pj=>hx ⟨j,hj,pj⟩⟩
noncomputable def kA (os:List Int)(p:Int)(m:Nat):Prop:=1<=m/\itn os m p=p/\∀ j,1<=j->j<m->itn os j p ≠ p
theorem kA.uniq {os:List Int}{p:Int}{m m':Nat}(h:kA os p m)(h':kA os p m'):m=m':=by
 obtain ⟨a1,a3,a4⟩:=h
 obtain ⟨b1,b3,b4⟩:=h'
 rcases Nat.lt_trichotomy m m' with z | z | z
 ·exact absurd a3 (b4 m a1 z)
 ·exact z
 ·exact absurd b3 (a4 m' b1 z)
theorem ja {n:Nat}{os:List Int}(h:zj n os){p:Int}(p0:0<=p)(p1:p<n):∃ m,kA os p m/\m<=n:=by
 obtain ⟨M,h1,h2,h3⟩:=YW h p0 p1
 obtain ⟨m,⟨m1,m2⟩,m3⟩:=wK (p:=fun k=>1<=k/\itn os k p=p) M ⟨h1,h3⟩
 refine ⟨m,⟨m1,m2,fun j j1 jm e=>m3 j jm ⟨j1,e⟩⟩,?_⟩
 rcases Nat.lt_or_ge M m with z | z
 ·exact absurd ⟨h1,h3⟩ (m3 M z)
 ·omega
open Classical in
noncomputable def per (os:List Int)(p:Int):Nat:=if h:∃ m,kA os p m then Classical.choose h else 0
theorem kA.per {os:List Int}{p:Int}{m:Nat}(h:kA os p m):per os p=m:=by
 have hx:∃ m,kA os p m:=⟨m,h⟩
 unfold L2.per
 rw [dif_pos hx]
 exact (Classical.choose_spec hx).uniq h
noncomputable def itl (os:List Int)(p:Int)(k:Nat):List Int:=(List.range k).map fun i=>itn os i p
theorem Bz (os:List Int)(p:Int)(k:Nat):itl os p (k+1)=itl os p k ++ [itn os k p]:=by
 unfold itl;rw [List.range_succ,List.map_append];rfl
theorem qz (os:List Int)(p:Int)(k:Nat):(itl os p k).length=k:=by simp [itl]
theorem qw {os:List Int}{p:Int}{k:Nat}{x:Int}:x ∈ itl os p k ↔ ∃ i,i<k/\itn os i p=x:=by
 unfold itl
 rw [List.mem_map]
 constructor
 ·rintro ⟨i,hi,e⟩
  exact ⟨i,by simpa using hi,e⟩
 ·rintro ⟨i,hi,e⟩
  exact ⟨i,by simpa using hi,e⟩
noncomputable def zG (os:List Int)(p:Int):List Int:=itl os p (per os p)
noncomputable def Rch (os:List Int)(q x:Int):Prop:=∃ k,itn os k q=x
theorem Rch.refl {os:List Int}{p:Int}:Rch os p p:=⟨0,rfl⟩
theorem Rch.trans {os:List Int}{p q r:Int}(a:Rch os p q)(b:Rch os q r):Rch os p r:=by
 obtain ⟨i,rfl⟩:=a
 obtain ⟨j,rfl⟩:=b
 exact ⟨j+i,kR os p i j⟩
theorem vP {os:List Int}{p:Int}{m:Nat}(h:itn os m p=p):∀ k,itn os (k * m) p=p
 | 0=>by rw [Nat.zero_mul];rfl
 | k+1=>by rw [Nat.succ_mul,Nat.add_comm,kR,vP h k,h]
theorem Vc {os:List Int}{p:Int}{m:Nat}(h:itn os m p=p)(k:Nat):itn os k p=itn os (k % m) p:=by
 have e:k=k % m+(k / m) * m:=by rw [Nat.mul_comm];exact (Nat.mod_add_div k m).symm
 conv=>lhs;rw [e]
 rw [kR,vP h]
theorem Rch.symm {n:Nat}{os:List Int}(h:zj n os){p q:Int}(p0:0<=p)(p1:p<n)(a:Rch os p q):Rch os q p:=by
 obtain ⟨k,rfl⟩:=a
 obtain ⟨M,h1,_,h3⟩:=YW h p0 p1
 refine ⟨(k+1) * M - k,?_⟩
 have hle:k<=(k+1) * M:=Nat.le_trans (Nat.le_succ k) (Nat.le_mul_of_pos_right _ h1)
 rw [<- kR,Nat.sub_add_cancel hle,vP h3]
theorem Rch.mem_ring {os:List Int}{p x:Int}{m:Nat}(h:kA os p m):Rch os p x ↔ x ∈ itl os p m:=by
 rw [qw]
 constructor
 ·rintro ⟨k,rfl⟩
  exact ⟨k % m,Nat.mod_lt _ h.1,(Vc h.2.1 k).symm⟩
 ·rintro ⟨i,_,e⟩
  exact ⟨i,e⟩
noncomputable def j3 (os:List Int)(p:Nat):Prop:=∀ q:Nat,q<p->¬ Rch os (q:Int) (p:Int)
open Classical in
noncomputable def zk (os:List Int):Nat->List (List Int)
 | 0=>[]
 | i+1=>zk os i ++ if j3 os i/\1<per os (i:Int) then [zG os (i:Int)] else []
noncomputable def qp (os:List Int)(i:Nat)(x:Int):Prop:=∃ q:Nat,q<i/\Rch os (q:Int) x
theorem qp.succ {os:List Int}{i:Nat}{x:Int}:qp os (i+1) x ↔ qp os i x \/ Rch os (i:Int) x:=by
 constructor
 ·rintro ⟨q,hq,r⟩
  by_cases e:q=i
  ·subst e;exact .inr r
  ·exact .inl ⟨q,by omega,r⟩
 ·rintro (⟨q,hq,r⟩ | r)
  ·exact ⟨q,by omega,r⟩
  ·exact ⟨i,by omega,r⟩
theorem jS {os:List Int}{i:Nat}:j3 os i ↔ ¬ qp os i (i:Int):=by
 constructor
 ·rintro h ⟨q,hq,r⟩;exact h q hq r
 ·intro h q hq r;exact h ⟨q,hq,r⟩
theorem qp.step {n:Nat}{os:List Int}(h:zj n os){i:Nat}(hi:i<n)(hs:qp os i (i:Int)){x:Int}:qp os (i+1) x ↔ qp os i x:=by
 rw [qp.succ]
 constructor
 ·rintro (z | z)
  ·exact z
  ·obtain ⟨q,hq,r⟩:=hs
   exact ⟨q,hq,r.trans z⟩
 ·exact .inl
theorem qp.apart {n:Nat}{os:List Int}(h:zj n os){i:Nat}(hi:i<n)(hs:¬ qp os i (i:Int)){x:Int}(r:Rch os (i:Int) x):¬ qp os i x:=by
 rintro ⟨q,hq,rq⟩
 exact hs ⟨q,hq,rq.trans (r.symm h (by omega) (by omega))⟩
theorem jk (os:List Int):∀ i,(zk os i).length<=i
 | 0=>Nat.le_refl _
 | i+1=>by
  unfold zk
  rw [List.length_append]
  have:=jk os i
  split <;> simp <;> omega
theorem qu {n:Nat}{os:List Int}(h:zj n os){r:List Int}:∀ {i:Nat},i<=n->r ∈ zk os i->1<r.length/\r.length<=n
 | 0,_,hr=>by simp [zk] at hr
 | i+1,hi,hr=>by
  unfold zk at hr
  rcases List.mem_append.mp hr with z | z
  ·exact qu h (by omega) z
  ·by_cases c:j3 os i/\1<per os (i:Int)
   ·rw [if_pos c] at z
    rw [List.mem_singleton.mp z]
    obtain ⟨m,hm,hle⟩:=ja h (p:=(i:Int)) (by omega) (by omega)
    unfold zG
    rw [qz]
    have:=hm.per
    omega
   ·rw [if_neg c] at z;cases z
noncomputable def iLT (K:PySem.W.Frag)(tl:TE):TI:=fun σ H R=>tl σ H fun x H1=>∃ a,x=.ref a/\(((∃ xs,SqL K H1 a xs)/\R (Itl K a) H1) \/ ((∃ xs,SqT K H1 a xs)/\R (Itt K a) H1))
theorem ju {X:Cx}{tg:Expr}{l:Expr}{tl:TE}(hl:PE X l tl):PI X tg l (iLT X.K tl):=by
 intro pins s σ H R I h
 refine thn (hl pins s σ H _ I h) fun v s1 ⟨x,H1,I1,r1,q1⟩=>?_
 obtain ⟨a,e,q⟩:=q1
 subst e
 cases r1
 have fo:∀ b ∈ [s1.heap.objs.size],xO X pins H1 b:=fun b hb=>by
  have e:b=s1.heap.objs.size:=by simpa using hb
  subst e
  exact I1.fpOk (Nat.le_refl _) (I1.hok.fresh (Nat.le_refl _))
 rcases q with ⟨⟨xs,hq⟩,q⟩ | ⟨⟨xs,hq⟩,q⟩
 ·obtain ⟨its,rv,p,hz⟩:=I1.list hq
  refine wpAny_pyIter_list p.isList ?_
  exact ⟨s1.heap.objs.size,[s1.heap.objs.size],_,_,H1,rfl,I1.kept (t':=s1.toks) fun b o e=>Heap.get?_push_of_some _ e,ZF a _,⟨_,Heap.get?_push_size _ rfl,rfl,rfl⟩,fo,q⟩
 ·obtain ⟨its,rv,p,hz⟩:=I1.tuple hq
  refine wpAny_pyIter_tuple (show s1.heap.IsTuple a its.toArray from p) ?_
  exact ⟨s1.heap.objs.size,[s1.heap.objs.size],_,_,H1,rfl,I1.kept (t':=s1.toks) fun b o e=>Heap.get?_push_of_some _ e,wF a _,⟨_,Heap.get?_push_size _ rfl,rfl,rfl⟩,fo,q⟩
theorem Ik {K:PySem.W.Frag}{a:Addr}{xs:List V}{g:TG}{tt:TT}{te:TE}{Q:VK}{τ:St}{H1:Hp}{D:Addr}(Pv:Nat->St->Hp->Prop)(h0:Pv 0 τ (upd H1 D (.lst [])))(hl:∀ i τ H,i<=xs.length->Pv i τ H->SqT K H a xs)
  (hs:∀ i x τ H,xs[i]?=some x->Pv i τ H->g x τ H fun τ2 H3=>tt τ2 H3 fun b H4=>if b=true then te τ2 H4 fun v H5=>∃ ys,H5 D=some (.lst ys)/\ys.length<sizeLine/\Pv (i+1) τ2 (upd H5 D (.lst (ys ++ [v]))) else Pv (i+1) τ2 H4)
  (hd:∀ τ H,Pv xs.length τ H->Q (.ref D) H):WY (Itt K a) g tt te D Q τ (upd H1 D (.lst [])):=by
 refine ⟨fun i m τ H=>m=xs.length - i/\i<=xs.length/\Pv i τ H,⟨xs.length,by simp,Nat.zero_le _,h0⟩,?_⟩
 rintro i m τ H ⟨rfl,hi,p⟩
 have q:=hl i τ H hi p
 by_cases hlt:i<xs.length
 ·refine .inr ⟨⟨xs,xs[i],q,by simp [hlt]⟩,Pv (i+1),fun σ' H' p'=>⟨xs.length - (i+1),by omega,rfl,hlt,p'⟩,fun x H' y=>?_⟩
  obtain ⟨e,y⟩:=y
  subst e
  exact hs i x τ _ (y xs q) p
 ·have e:i=xs.length:=by omega
  subst e
  exact .inl ⟨⟨xs,q,Nat.le_refl _⟩,hd τ H p⟩
theorem YE {n:Nat}{b:List Int}(hb:zj n b){i:Nat}(hi:i<n):∀ k,(pwl n b k).getD i 0=itn b k (i:Int)
 | 0=>zY n hi
 | k+1=>by
  show (aft (pwl n b k) b).getD i 0=nxt b (itn b k (i:Int))
  rw [qq b (by rw [(jF hb k).1];exact hi),YE hb hi k]
  rfl
noncomputable def Mz (n:Nat)(os:List Int)(many:Int)(rs:List Int):Prop:=∃ bs,zj n bs/\(0<=many->bs=os)/\(many<0->qD os bs)/\rs=pwl n bs many.natAbs
theorem wY {os:List Int}{q:Nat}(hq:j3 os q)(hp:1<per os (q:Int)):∀ {i:Nat},q<i->zG os (q:Int) ∈ zk os i
 | 0,h=>by omega
 | i+1,h=>by
  unfold zk
  by_cases e:q=i
  ·subst e
   rw [if_pos ⟨hq,hp⟩]
   simp
  ·exact List.mem_append_left _ (wY hq hp (by omega))
theorem Qw {n:Nat}{os:List Int}(h:zj n os){x:Nat}(hx:x<n):(∃ r ∈ zk os n,(x:Int) ∈ r) \/ kA os (x:Int) 1:=by
 obtain ⟨q,⟨q1,q2⟩,q3⟩:=wK (p:=fun q=>q<n/\Rch os (q:Int) (x:Int)) x ⟨hx,Rch.refl⟩
 have hL:j3 os q:=fun q' hq' r=>q3 q' hq' ⟨by omega,r.trans q2⟩
 obtain ⟨m,hm,_⟩:=ja h (p:=(q:Int)) (by omega) (by omega)
 by_cases c:1<m
 ·refine .inl ⟨_,wY hL (by rw [hm.per];exact c) q1,?_⟩
  unfold zG
  rw [hm.per]
  exact (Rch.mem_ring hm).mp q2
 ·have hm1:m=1:=by have:=hm.1;omega
  subst hm1
  obtain ⟨i,hi,e⟩:=qw.mp ((Rch.mem_ring hm).mp q2)
  have:i=0:=by omega
  subst this
  have e':(q:Int)=(x:Int):=e
  rw [<- e']
  exact .inr hm
section
variable {X:Cx}
end
noncomputable def tfs (ps:List (Addr × List V)):List V:=ps.map fun r=>V.ref r.1
section
variable {X:Cx}
end
theorem Vu {X:Cx}:MtR X "list.extend" vT:=V6
noncomputable def xr (prog:Program)(w:World)(A:Around)(elt:Expr)(gens:List Comprehension)(scope:Scope)(pos:Pos)(d:Nat)(acc:Value)(env:Env)(Q:Shared->Prop)(s:Shared):Prop:=
  match gens[d+1]? with
  | some g' => wpAny (model prog w) A (eval g'.iter env) (fun x s1 => wpAny (model prog w) A (foldedSetIterable g'.iter env x) (fun x s2 => wpAny (model prog w) A (pyIter x) (fun it s3 =>
      wpAny (model prog w) A (runOwn (Code.compStart (.ListComp elt gens scope pos) (d+1) it acc env) env) (fun _ s4=>Q s4) (fun _ _=>False) s3) (fun _ _=>False) s2) (fun _ _=>False) s1) (fun _ _=>False) s
  | none=>wpAny (model prog w) A (eval elt env) (fun v s1=>wpAny (model prog w) A (call (.builtin "list.append") [acc,v]) (fun _ s2=>Q s2) (fun _ _=>False) s1) (fun _ _=>False) s
section
variable {prog:Program}{w:World}{A:Around}{R:Result->Shared->Prop}{s:Shared}
theorem Ko {elt:Expr}{gens:List Comprehension}{d:Nat}{scope:Scope}{pos:Pos}{acc:Value}{env:Env}{Q Q':Shared->Prop}(h:xr prog w A elt gens scope pos d acc env Q s)(hq:∀ s,Q s->Q' s):xr prog w A elt gens scope pos d acc env Q' s:=by
 unfold xr at h ⊢
 cases e:gens[d+1]? with
 | none=>
  simp only [e] at h ⊢
  exact wpAny_mono h (fun x s₄ h₄=>wpAny_mono h₄ (fun _ s₅ h₅=>hq _ h₅) fun _ _ h'=>h') fun _ _ h'=>h'
 | some g'=>
  simp only [e] at h ⊢
  exact wpAny_mono h (fun x s₄ h₄=>wpAny_mono h₄ (fun x s₅ h₅=>wpAny_mono h₅ (fun it s₆ h₆=>wpAny_mono h₆ (fun _ s₇ h₇=>hq _ h₇) fun _ _ h'=>h') fun _ _ h'=>h') fun _ _ h'=>h') fun _ _ h'=>h'
theorem xt {elt target iter : Expr}{ifs : List Expr}{gens : List Comprehension}{d : Nat}{scope : Scope}{pos : Pos}{it acc : Value}{env : Env}(hg : gens[d]? = some ⟨target, iter, ifs, 0⟩)(hn : ∀ g', gens[d + 1]? = some g' -> g'.is_async = 0)(I : Nat -> Shared -> Prop)
    (turn:∀ n s,I n s->wpAny (model prog w) A (pyNext it) (fun r s₁=>match r with
      | none=>R (.ok .next) s₁
      | some v => wpAny (model prog w) A (letOwnedTupleGo target it v) (fun _ s₀ => wpAny (model prog w) A (assign target env v) (fun _ s₂ =>
          wpAny (model prog w) A (forIn ifs true fun c r=>if r=true then do let ok <- isTrue c env (eval c env);pure (ForInStep.yield ok) else pure (ForInStep.yield r)) (fun ok s₃=>
            if ok=true then xr prog w A elt gens scope pos d acc env (fun s₅=>∃ m,m<n/\I m s₅) s₃
            else ∃ m,m<n/\I m s₃) (fun _ _=>False) s₂) (fun _ _=>False) s₀) (fun _ _=>False) s₁) (fun _ _=>False) s)
    (n:Nat) (h:I n s) :
    codeAny (model prog w) A (.compLoop (.ListComp elt gens scope pos) d it acc env) R s:=by
  refine codeAny_loop rfl I (fun n s hI=>?_) n h
  show wpAny _ A ((compTurn (.ListComp elt gens scope pos) d it acc env).onRaise (fun x=>do noteFrame x env;theTreesLotGoes x)) _ _ s
  refine wpAny_noted ?_
  unfold compTurn
  simp only [hg]
  refine wpAny_bind (wpAny_standAt ?_)
  rw [if_neg (by decide)]
  refine wpAny_bind (wpAny_mono (turn n s hI) (fun r s₁ h₁=>?_) fun _ _ h'=>h'.elim)
  cases r with
  | none=>exact wpAny_pure h₁
  | some v=>
    refine wpAny_bind (wpAny_mono h₁ (fun _ s₀ h₀=>?_) fun _ _ h'=>h'.elim)
    refine wpAny_bind (wpAny_mono h₀ (fun _ s₂ h₂=>wpAny_bind (wpAny_mono h₂ (fun ok s₃ h₃=>?_) fun _ _ h'=>h'.elim)) fun _ _ h'=>h'.elim)
    cases ok with
    | false=>exact wpAny_pure ⟨rfl,h₃⟩
    | true=>
      rw [if_pos rfl] at h₃ ⊢
      unfold xr at h₃
      cases e:gens[d+1]? with
      | none=>
        simp only [e] at h₃ ⊢
        exact wpAny_bind (wpAny_bind (wpAny_mono h₃ (fun x s₄ h₄=>wpAny_bind (wpAny_mono h₄ (fun _ s₅ h₅=>wpAny_pure (wpAny_pure ⟨rfl,h₅⟩)) fun _ _ h'=>h'.elim)) fun _ _ h'=>h'.elim))
      | some g'=>
        simp only [e] at h₃ ⊢
        have ha:=hn g' e
        refine wpAny_bind (wpAny_mono h₃ (fun x s₄ h₄=>?_) fun _ _ h'=>h'.elim)
        refine wpAny_bind (wpAny_standAt ?_)
        rw [if_neg (by rw [ha];decide)]
        refine wpAny_bind (wpAny_mono h₄ (fun x s₅ h₅=>?_) fun _ _ h'=>h'.elim)
        refine wpAny_bind (wpAny_holding ?_)
        rw [if_neg (by rw [ha];decide)]
        refine wpAny_mono h₅ (fun it s₆ h₆=>?_) fun _ _ h'=>h'.elim
        exact wpAny_bind (wpAny_mono h₆ (fun _ s₇ h₇=>wpAny_pure ⟨rfl,h₇⟩) fun _ _ h'=>h'.elim)
theorem xc {elt target iter:Expr}{ifs:List Expr}{gens:List Comprehension}{d:Nat}{scope:Scope}{pos:Pos}{it acc:Value}{env:Env}(hg:gens[d]?=some ⟨target,iter,ifs,0⟩)
  (h1:codeAny (model prog w) A (.compLoop (.ListComp elt gens scope pos) d it acc env) R s)
  (h2:wpAny (model prog w) A (pyIter it) (fun it' s'=>codeAny (model prog w) A (.compLoop (.ListComp elt gens scope pos) d it' acc env) R s') (fun _ _=>False) s) :
  codeAny (model prog w) A (.compStart (.ListComp elt gens scope pos) d it acc env) R s:=by
 refine codeAny_loop' rfl (fun _ s'=>s'=s) (fun n s' hI=>?_) 0 rfl
 subst hI
 show wpAny _ A ((compStart (.ListComp elt gens scope pos) d it acc env).onRaise (fun x=>do noteFrame x env;standAt theWindowsPlace)) _ _ _
 refine wpAny_onRaise ?_
 unfold compStart
 have hc:(clausesOf (.ListComp elt gens scope pos))[d]?=some ⟨target,iter,ifs,0⟩:=hg
 simp only [hc]
 rw [if_neg (by show ¬ ((0:Nat) != 0)=true;decide)]
 refine wpAny_bind (wpAny_askSetting ?_)
 split
 ·exact wpAny_pure (.inr ⟨rfl,h1⟩)
 ·refine wpAny_bind (wpAny_rule ?_)
  refine wpAny_bind (wpAny_standAt ?_)
  exact wpAny_bind (wpAny_mono h2 (fun it' s' h'=>wpAny_pure (.inr ⟨rfl,h'⟩)) fun _ _ h'=>h'.elim)
end
noncomputable def CL (J:It)(g:TG)(tt:TT)(tr:St->Hp->(St->Hp->Prop)->Prop)(N:St->Hp->Prop)(σ:St)(H:Hp):Prop:=∃ W:Nat->Nat->St->Hp->Prop,(∃ m,W 0 m σ H)/\∀ i m τ H2,W i m τ H2 ->
 (J.stop i H2/\N τ H2) \/ (J.go i H2/\∃ N1:St->Hp->Prop,(∀ τ' H',N1 τ' H'->∃ m',m'<m/\W (i+1) m' τ' H')/\∀ x H',J.yld i H2 x H'->g x τ H' fun τ2 H3=>tt τ2 H3 fun b H4=>
  if b=true then tr τ2 H4 N1 else N1 τ2 H4)
noncomputable abbrev TR:=St->Hp->(St->Hp->Prop)->Prop
noncomputable def wJ (te:TE)(D:Addr):TR:=fun σ H N=>te σ H fun v H5=>∃ ys,H5 D=some (.lst ys)/\ys.length<sizeLine/\N σ (upd H5 D (.lst (ys ++ [v])))
noncomputable def Qj (wi:TI)(g:TG)(tt:TT)(tr:Addr->TR)(D:Addr):TR:=fun σ H N=>wi σ H fun J H1=>CL J g tt (tr D) N σ H1
noncomputable def PR (C:Cx)(elt:Expr)(gens:List Comprehension)(scope:Scope)(pos:Pos)(d:Nat)(D:Addr)(tr:TR):Prop:=
 ∀ (pins:List (Addr × Obj)) (s:Shared) (σ:St) (H:Hp) (N:St->Hp->Prop),Inv C pins σ H s->tr σ H N->xr C.prog C.w C.A elt gens scope pos d (.ref D) C.env (fun s'=>∃ σ' H',Inv C pins σ' H' s'/\N σ' H') s
section
variable {C:Cx}{elt tg iter:Expr}{ifs:List Expr}{gens:List Comprehension}{scope:Scope}{pos:Pos}{d:Nat}{D:Addr}{g:TG}{tt:TT}{te:TE}{tr:TR}
theorem YO (hc:C.calm=true)(hgd:gens[d]?=some ⟨tg,iter,ifs,0⟩)(hn:∀ g',gens[d+1]?=some g'->g'.is_async=0)(hg:PG C tg g)(ht:PIf C ifs tt)(hr:PR C elt gens scope pos d D tr)(hxe:∀ e s,¬ C.xe e s)
  {it:Addr} {fp:List Addr} {tn:Nat->Heap->Prop} {J:It} (T:Qq C.prog C.w C.K tg J fp it tn) {pins:List (Addr × Obj)} {s:Shared} {σ:St} {H:Hp} (I:Inv C pins σ H s) (st:tn 0 s.heap) (hf:∀ b ∈ fp,xO C pins H b) {N:St->Hp->Prop} (h:CL J g tt tr N σ H)
  {R:Result->Shared->Prop} (fin:∀ s' σ' H',Inv C pins σ' H' s'->N σ' H'->R (.ok .next) s') :
  codeAny (model C.prog C.w) C.A (.compLoop (.ListComp elt gens scope pos) d (.ref it) (.ref D) C.env) R s:=by
 obtain ⟨W,⟨m0,w0⟩,turn⟩:=h
 have no:∀ {α:Type} {m:Sem α} {Q:α->Shared->Prop} {s:Shared},wpAny (model C.prog C.w) C.A m Q C.xe s->wpAny (model C.prog C.w) C.A m Q (fun _ _=>False) s:=fun h=>wpAny_mono h (fun _ _ q=>q) fun e s q=>hxe e s q
 have stat:∀ {H':Hp},(∀ b ∈ fp,H' b=none)->∀ b ∈ fp,xO C pins H' b:=fun hn b hb=>⟨hn b hb,(hf b hb).2⟩
 refine xt hgd hn (fun n s'=>∃ i τ H',Inv C pins τ H' s'/\tn i s'.heap/\(∀ b ∈ fp,H' b=none)/\W i n τ H') ?_ m0 ⟨0,σ,H,I,st,fun b hb=>(hf b hb).1,w0⟩
 rintro n s5 ⟨i,τ,H5,I5,st5,fr5,w5⟩
 rcases turn i n τ H5 w5 with ⟨stop,qn⟩ | ⟨go,N1,hN,step⟩
 ·refine thn (T.done C rfl rfl rfl hc i pins s5 τ H5 _ I5 (stat fr5) st5 stop) fun r s6 ⟨hr,I6⟩=>?_
  subst hr
  exact fin s6 τ H5 I6 qn
 ·refine thn (T.item C rfl rfl rfl hc i pins s5 τ H5 _ I5 (stat fr5) st5 go) fun r s6 ⟨u,hr',h6⟩=>?_
  subst hr'
  refine thn h6 fun _ s7 ⟨x,H7,I7,r7,y7,st7,fr7⟩=>?_
  have I7':=I7.pinned (stat fr7) (T.obj _ _ st7)
  refine thn (no (hg _ s7 τ H7 x u _ I7' r7 (step x H7 y7))) fun _ s8 ⟨τ8,H8,I8,q8⟩=>?_
  refine thn (no (ht _ s8 τ8 H8 _ I8 q8)) fun b s9 ⟨H9,I9,q9⟩=>?_
  have again:∀ {τ9:St} {H9:Hp} {s9:Shared},Inv C (pins ++ y6 fp s7.heap) τ9 H9 s9->N1 τ9 H9 ->
    ∃ m,m<n/\∃ i τ H',Inv C pins τ H' s9/\tn i s9.heap/\(∀ b ∈ fp,H' b=none)/\W i m τ H':=fun {τ9 H9 s9} I9 n9=>by
   obtain ⟨m',hm,w9⟩:=hN _ _ n9
   refine ⟨m',hm,i+1,τ9,H9,I9.unpinned,T.keep _ _ _ st7 fun b hb o e=>(I9.pin (b,o) (List.mem_append_right _ (List.mem_append_right _ (jj hb e)))).1,fun b hb=>?_,w9⟩
   obtain ⟨o,e,d⟩:=T.obj _ _ st7 b hb
   exact (I9.pin (b,o) (List.mem_append_right _ (List.mem_append_right _ (jj hb e)))).2.1
  cases b with
  | false=>
   rw [if_neg Bool.false_ne_true] at q9 ⊢
   exact again I9 q9
  | true=>
   rw [if_pos rfl] at q9 ⊢
   exact Ko (hr _ s9 τ8 H9 _ I9 q9) fun s11 ⟨τ9,H11,I11,n11⟩=>again I11 n11
theorem Em (hg2:gens[d+1]?=none)(he:PE C elt te)(hxe:∀ e s,¬ C.xe e s):PR C elt gens scope pos d D (wJ te D):=by
 intro pins s σ H N I h
 have no:∀ {α:Type} {m:Sem α} {Q:α->Shared->Prop} {s:Shared},wpAny (model C.prog C.w) C.A m Q C.xe s->wpAny (model C.prog C.w) C.A m Q (fun _ _=>False) s:=fun h=>wpAny_mono h (fun _ _ q=>q) fun e s q=>hxe e s q
 unfold xr
 simp only [hg2]
 refine thn (no (he pins s σ H _ I h)) fun y s10 ⟨v,H10,I10,r10,ys,hys,hlen,n10⟩=>?_
 exact thn (no (yZ (X:=C) _ s10 σ H10 (.ref D) [v] (.ref D) [y] (fun _ H11=>N σ H11) I10 rfl (.cons r10 .nil) ⟨_,ys,v,rfl,rfl,hys,hlen,n10⟩)) fun _ s11 ⟨_,H11,I11,_,n11⟩=>⟨σ,H11,I11,n11⟩
theorem FU {tr:Addr->TR}{wi:TI}(hc:C.calm=true)(hgd:gens[d+1]?=some ⟨tg,iter,ifs,0⟩)(hn:∀ g',gens[d+2]?=some g'->g'.is_async=0)(hi:PI C tg iter wi)(hs:∀ x,foldedSetIterable iter C.env x=pure x)(hg:PG C tg g)(ht:PIf C ifs tt)
  (hr:PR C elt gens scope pos (d+1) D (tr D)) (hxe:∀ e s,¬ C.xe e s):PR C elt gens scope pos d D (Qj wi g tt tr D):=by
 intro pins s σ H N I h
 have no:∀ {α:Type} {m:Sem α} {Q:α->Shared->Prop} {s:Shared},wpAny (model C.prog C.w) C.A m Q C.xe s->wpAny (model C.prog C.w) C.A m Q (fun _ _=>False) s:=fun h=>wpAny_mono h (fun _ _ q=>q) fun e s q=>hxe e s q
 unfold xr
 simp only [hgd]
 refine thn (no (hi pins s σ H _ I h)) fun v s1 h1=>?_
 rw [hs v]
 refine wpAny_pure (thn (no h1) fun itv s2 h2=>?_)
 obtain ⟨it,fp,tn,J,H2,e,I2,T,st2,f2,q2⟩:=h2
 subst e
 refine wpAny_runOwn ?_
 show codeAny _ C.A _ _ _
 have loop:=YO (R:=fun r s'=>match r with | .ok f=>(∃ σ' H',Inv C pins σ' H' s'/\N σ' H') | .error e=>cameBackBy (model C.prog C.w) C.A C.env (fun _ _=>False) e s') hc hgd hn hg ht hr hxe T I2 st2 f2 q2 fun s' σ' H' I' n'=>⟨σ',H',I',n'⟩
 exact xc hgd loop (T.self _ 0 _ _ _ st2 loop)
end
noncomputable def wB (ts:List Nat)(wi:TI)(g:TG)(tt:TT)(tr:Addr->TR):TE:=fun σ H Q=>wi σ H fun J H1=>∀ D,H1 D=none->CL J g tt (tr D) (fun _ H2=>Q (.ref D) H2) (clr ts σ) (upd H1 D (.lst []))
section
variable {X:Cx}{ts:List Nat}{scope:Scope}{tg iter elt:Expr}{ifs:List Expr}{jP:List Comprehension}{wi:TI}{g:TG}{tt:TT}{tr:Addr->TR}{pos:Pos}
theorem Vv (hc:X.calm=true)(hsc:Xc X.N ts scope X.env.kindOf=true)(hi:PI X tg iter wi)(hn:∀ g',jP[0]?=some g'->g'.is_async=0)(hg:∀ cl s H fp,PG (cxC X scope cl s H fp) tg g)(ht:∀ cl s H fp,PIf (cxC X scope cl s H fp) ifs tt)
  (hr:∀ cl s H fp D,PR (cxC X scope cl s H fp) elt (⟨tg,iter,ifs,0⟩ :: jP) scope pos 0 D (tr D))
  {pins:List (Addr × Obj)} {s:Shared} {σ:St} {H:Hp} {Q:VK} (I:Inv X pins σ H s) (h:wB ts wi g tt tr σ H Q) {use:Option (Value->Sem Unit)} {Q':Value->Shared->Prop}
  (fin:∀ (D C:Addr) (H':Hp) (s':Shared),Inv X pins σ H' s'->(∃ m,s'.heap.Ns C m)->H' C=none->C ≠ X.env.locals->(∀ x c,X.env.cells.lookup x=some c->c ≠ C)->X.s₀.heap.objs.size<=C->(∀ p ∈ X.pn ++ pins,p.1 ≠ C)->C ∉ X.fs->Q (.ref D) H' ->
   compPost (model X.prog X.w) X.A X.xe use Q' (.ref D) C (.ok .next) s')
  (hs:∀ x,foldedSetIterable iter X.env x=pure x) :
  wpAny (model X.prog X.w) X.A (comprehension (.ListComp elt (⟨tg,iter,ifs,0⟩ :: jP) scope pos) scope X.env (firstIterPos (⟨tg,iter,ifs,0⟩ :: jP) pos) (newList []) false (eval iter X.env) use) Q' X.xe s:=by
 have S:=B1 hsc
 obtain ⟨cl,hcl,c1,c2⟩:=wD (scope:=scope) (env:=X.env) fun y hy e=>I.ok.has y.1 (S.free y hy e)
 refine wpAny_comprehension_free (use:=use) rfl hs hcl S.kind S.loc ?_
 refine wpAny_mono (hi pins s σ H _ I h) (fun v s1 h1=>wpAny_mono h1 (fun itv s2 h2=>?_) fun _ _ e=>e) fun _ _ e=>e
 obtain ⟨it,fp,tn,J,H2,e,I2,T,st2,f2,q2⟩:=h2
 subst e
 have hD:H2 s2.heap.objs.size=none:=I2.hok.fresh (Nat.le_refl _)
 have q3:=q2 _ hD
 refine wpAny_newObj_type (wpAny_newFunctionEnv S.cell (by intro y hy;simp at hy) (fun h₁ hns₁ hsb₁=>?_) S.kind)
 dsimp only at hns₁ hsb₁ ⊢
 generalize hh3:s2.heap.push { cls:=.type "list",dict:=none,data:=.seq ([]:List Value).toArray }=g3 at hns₁ hsb₁ ⊢
 have I3:Inv X pins σ (upd H2 s2.heap.objs.size (.lst [])) { s2 with heap:=g3 }:=by
  rw [<- hh3]
  exact I2.laid (t':=s2.toks) (fun b u e=>Heap.get?_push_of_some _ e) (Nat.le_refl _) ⟨Nat.zero_le _,[],_,.nil,Heap.get?_push_size _ rfl⟩
 have st3:tn 0 g3:=T.keep _ _ _ st2 fun b _ o e=>by rw [<- hh3];exact Heap.get?_push_of_some _ e
 have lt2:∀ b ∈ fp,b<s2.heap.objs.size:=fun b hb=>by obtain ⟨o,e,_⟩:=T.obj _ _ st2 b hb;exact Heap.lt_size e
 have hsz3:g3.objs.size=s2.heap.objs.size+1:=by rw [<- hh3,Heap.size_push]
 have f3:∀ b ∈ fp,xO X pins (upd H2 s2.heap.objs.size (.lst [])) b:=fun b hb=>⟨by rw [zm (Nat.ne_of_lt (lt2 b hb))];exact (f2 b hb).1,(f2 b hb).2⟩
 have lt3:∀ b ∈ fp,b<g3.objs.size:=fun b hb=>by rw [hsz3];exact Nat.lt_succ_of_lt (lt2 b hb)
 have old:∀ b o,g3.get? b=some o->h₁.get? b=some o:=fun b o e=>hsb₁.extBut b o (Nat.ne_of_lt (Heap.lt_size e)) (Heap.get?_push_of_some _ e)
 have hns:h₁.Ns g3.objs.size (fun x=>([]:List (Str × Value)).reverse.lookup x):=hns₁
 have I4:∀ t,Inv (cxC X scope cl { s2 with heap:=g3 } (upd H2 s2.heap.objs.size (.lst [])) fp) [] (clr ts σ) (upd H2 s2.heap.objs.size (.lst [])) { s2 with heap:=h₁,toks:=t }:=fun t=>wX I3 S f3 lt3 c1 c2 hns old
 have fpne:∀ b ∈ fp,b ∉ frs X.stack:=fun b hb z=>by
  obtain ⟨_,f1,f2,_⟩:=f3 b hb
  rcases List.mem_cons.mp (I3.stkSub b z) with e | e
  ·exact f1 e
  ·exact f2 e
 have stat:∀ {H':Hp},(∀ b ∈ fp,H' b=none)->∀ b ∈ fp,xO (cxC X scope cl { s2 with heap:=g3 } (upd H2 s2.heap.objs.size (.lst [])) fp) [] H' b:=fun hn b hb=>
  ⟨hn b hb,Nat.ne_of_lt (lt3 b hb),fpne b hb,.inl hb,fun x c e=>(f2 b hb).2.2.2.2.1 x c (c1 x c e),fun p hp=>absurd hp (by simp)⟩
 have loop:∀ t,codeAny (model X.prog X.w) X.A (.compLoop (.ListComp elt (⟨tg,iter,ifs,0⟩ :: jP) scope pos) 0 (.ref it) (.ref s2.heap.objs.size) (compEnvC scope cl g3.objs.size X.env))
   (compPost (model X.prog X.w) X.A X.xe use Q' (.ref s2.heap.objs.size) g3.objs.size) { s2 with heap:=h₁,toks:=t }:=by
  intro t
  refine YO (C:=cxC X scope cl { s2 with heap:=g3 } (upd H2 s2.heap.objs.size (.lst [])) fp) hc rfl (fun g' e=>hn g' (by simpa using e)) (hg _ _ _ _) (ht _ _ _ _) (hr _ _ _ _ _) (fun _ _ z=>z) T (I4 t) (T.keep _ _ _ st3 fun b _ o e=>old b o e) (stat fun b hb=>(f3 b hb).1) q3 fun s6 σ6 H5 I6 qn=>?_
  have base:Un (frs X.stack) fp (upd H2 s2.heap.objs.size (.lst [])) H5 g3 s6.heap:=I6.base
  have J6:Inv X pins σ H5 s6:=I3.call' (ch:=fp) I6.os base I6.hok I6.bare fun b hb=>⟨(f3 b hb).2.2.2.1,(f3 b hb).2.1,(f3 b hb).2.2.2.2.1,(f3 b hb).2.2.2.2.2⟩
  obtain ⟨m6,n6,_⟩:=I6.loc
  refine fin _ g3.objs.size H5 s6 J6 ⟨m6,n6⟩ I6.free (Nat.ne_of_gt I3.lt) (fun x c e z=>?_) I3.sz (fun p hp z=>?_) (I3.nofs (Nat.le_refl _)) qn
  ·obtain ⟨v,q⟩:=I3.cell x c e
   exact absurd q.lt (by rw [z];exact Nat.lt_irrefl _)
  ·exact absurd (Heap.lt_size (I3.pin p hp).1) (by rw [z];exact Nat.lt_irrefl _)
 have LW:=loop (s2.toks+([]:List (Str × Value)).length)
 exact codeAny_compStart_list LW (T.self _ 0 _ _ _ (T.keep _ _ _ st3 fun b _ o e=>old b o e) LW)
theorem W1 (hc:X.calm=true)(hsc:Xc X.N ts scope X.env.kindOf=true)(hi:PI X tg iter wi)(hg:∀ cl s H fp,PG (cxC X scope cl s H fp) tg g)(ht:∀ cl s H fp,PIf (cxC X scope cl s H fp) ifs tt)
  (hr:∀ cl s H fp D,PR (cxC X scope cl s H fp) elt (⟨tg,iter,ifs,0⟩ :: jP) scope pos 0 D (tr D)) (hn:∀ g',jP[0]?=some g'->g'.is_async=0:=by intro _ e;cases e;rfl)
  (hs:∀ x,foldedSetIterable iter X.env x=pure x:=by intro _;rfl):PE X (.ListComp elt (⟨tg,iter,ifs,0⟩ :: jP) scope pos) (wB ts wi g tt tr):=by
 intro pins s σ H Q I h
 rw [eval_ListComp]
 refine Vv hc hsc hi hn hg ht hr I h (use:=none) (fun D C H' s' I' ⟨m,hn⟩ hC hL hce hsz hp hfs q=>⟨m,hn,fun h' hs'=>?_⟩) hs
 exact ⟨.ref D,H',I'.turned (t':=s'.toks) (it:=C) (fun b o hb e=>(hs'.2 b hb).trans e) hC hL (.inr hsz) hce hp,rfl,q⟩
end
theorem Wz {ts:List Nat}{wi:TI}{g:TG}{tt:TT}{tr:Addr->TR}{σ:St}{H:Hp}{Q:VK} :
  wB ts wi g tt tr σ H Q=wi σ H (fun J H1=>∀ D,H1 D=none->CL J g tt (tr D) (fun _ H2=>Q (.ref D) H2) (clr ts σ) (upd H1 D (.lst []))):=rfl
theorem Wl {wi:TI}{g:TG}{tt:TT}{tr:Addr->TR}{D:Addr}{σ:St}{H:Hp}{N:St->Hp->Prop}:Qj wi g tt tr D σ H N=wi σ H (fun J H1=>CL J g tt (tr D) N σ H1):=rfl
theorem VT {te:TE}{D:Addr}{σ:St}{H:Hp}{N:St->Hp->Prop}:wJ te D σ H N=te σ H (fun v H5=>∃ ys,H5 D=some (.lst ys)/\ys.length<sizeLine/\N σ (upd H5 D (.lst (ys ++ [v])))):=rfl
section
variable {P:Program}{w:World}{A:Around}{E:Value->Shared->Prop}{it l:Addr}{items:Array Value}
end
section
variable {X:Cx}{pos:Pos}
end
noncomputable def rep (o:Nat)(G:List Int):List Int:=(List.range (o * G.length)).map fun (i:Nat)=>((i / G.length * G.length:Nat):Int)+G.getD (i % G.length) 0
section
variable {P:Program}{w:World}{A:Around}{E:Value->Shared->Prop}{s:Shared}{z TI TO i1 i2 l1 l2:Addr}{k:Nat}{xs ys:Array Value}{x y a b:Value}{Q:Option Value->Shared->Prop}
theorem VL (D:ZipApart z TI TO i1 i2 l1 l2)(hz:IsZip s.heap z TI TO .none)(hTI:IsPair s.heap TI (.ref i1) (.ref i2))(hTO:IsPair s.heap TO a b)(h1:s.heap.IsTupleIter i1 l1 k)(h2:s.heap.IsTupleIter i2 l2 k)(p1:s.heap.IsTuple l1 xs)(p2:s.heap.IsTuple l2 ys)(hx:xs[k]?=some x)(hy:ys[k]?=some y)
  (hQ:∀ h',IsZip h' z TI TO (rawInt s.heap.objs.size)->IsPair h' TO x y->h'.IsTupleIter i1 l1 (k+1)->h'.IsTupleIter i2 l2 (k+1)->IsPair h' s.heap.objs.size x y->h'.objs.size=s.heap.objs.size+1->(∀ c o,c ≠ z->c ≠ TO->c ≠ i1->c ≠ i2->s.heap.get? c=some o->h'.get? c=some o)->Q (some (.ref s.heap.objs.size)) { s with heap:=h' }) :
  wpAny (model P w) A (pyNext (.ref z)) Q E s:=by
 have hT:s.TypeIs (.ref z) "zip":=⟨_,hz,rfl⟩
 unfold pyNext
 refine wpAny_bind (wpAny_attempt (wpAny_callSpecial?_slot (name:=Str.ofString "__next__") hT F.slot_zip_next (wpAny_call_entry F.slot_zip_next hT F.entry_zip_next ?_ (F.args_zip_next_1 _))))
 refine wpAny_bind (m:=field (.ref z) 2) (wpAny_field hz rfl (x:=.bool false) rfl ?_)
 refine wpAny_bind (m:=field (.ref z) 3) (wpAny_field hz rfl (x:=.ref TI) rfl ?_)
 refine wpAny_bind (m:=seqItems? (.ref TI)) (wpAny_seqItems hTI rfl ?_)
 refine wpAny_bind (m:=Builtin.SmallTypes.ownedTupleIsFree (.ref z)) ?_
 unfold Builtin.SmallTypes.ownedTupleIsFree
 refine wpAny_bind (wpAny_field hz rfl (x:=.none) rfl (wpAny_pure ?_))
 refine wpAny_bind (m:=rule "zip.__next__.owned-tuple-again") (wpAny_rule ?_)
 refine wpAny_bind (m:=field (.ref z) 4) (wpAny_field hz rfl (x:=.ref TO) rfl ?_)
 refine wpAny_bind (m:=setField (.ref z) 0 .ellipsis) (wpAny_setField hz rfl (by simp) ?_)
 have sb1:=Heap.SameBut.update s.heap z (Obj.mapFields fun x_1=>x_1.setIfInBounds 0 Value.ellipsis)
 have g1:(s.heap.update z (Obj.mapFields fun x_1=>x_1.setIfInBounds 0 Value.ellipsis)).get? z=some { cls:=Value.type "zip",data:=Data.fields #[.ellipsis,Value.bool false,Value.bool false,Value.ref TI,Value.ref TO] }:=Heap.get?_update_self _ hz (Obj.isFreed_of_fields (Obj.data_mapFields rfl _))
 generalize s.heap.update z (Obj.mapFields fun x_1=>x_1.setIfInBounds 0 Value.ellipsis)=h1' at *
 refine wpAny_bind ?_
 rw [show (#[Value.ref i1,Value.ref i2].toList.zipIdx:List (Value × Nat))=[(.ref i1,0),(.ref i2,1)] from rfl,List.forIn_cons]
 dsimp only
 have it1:h1'.IsTupleIter i1 l1 k:=by obtain ⟨o,ho,r⟩:=h1;exact ⟨o,(sb1.2 i1 D.i1z).trans ho,r⟩
 have tp1:h1'.IsTuple l1 xs:=by obtain ⟨o,ho,r⟩:=p1;exact ⟨o,(sb1.2 l1 D.l1z).trans ho,r⟩
 refine wpAny_bind (wpAny_bind (wpAny_onRaise ?_))
 show wpAny _ _ (Builtin.SmallTypes.nextOf (.ref i1) >>= fun v=>pure (some v)) _ _ _
 refine wpAny_bind (kT it1 tp1 hx fun h2' it2 sb2=>wpAny_pure ?_)
 dsimp only
 have gTO2:IsPair h2' TO a b:=((sb2.2 TO D.TOi1).trans (sb1.2 TO D.TOz)).trans hTO
 refine wpAny_bind (wpAny_seqItems gTO2 rfl ?_)
 dsimp only
 refine wpAny_bind (wpAny_updateSeq_pair gTO2 fun h3' g3 sb3=>?_)
 refine wpAny_bind (wpAny_letGo (wpAny_pure ?_))
 dsimp only
 have g3':IsPair h3' TO x b:=g3
 have it3:h3'.IsTupleIter i2 l2 k:=by obtain ⟨o,ho,r⟩:=h2;exact ⟨o,(((sb3.2 i2 (Ne.symm D.TOi2)).trans (sb2.2 i2 (Ne.symm D.i12))).trans (sb1.2 i2 D.i2z)).trans ho,r⟩
 have tp3:h3'.IsTuple l2 ys:=by obtain ⟨o,ho,r⟩:=p2;exact ⟨o,(((sb3.2 l2 D.l2TO).trans (sb2.2 l2 D.l2i1)).trans (sb1.2 l2 D.l2z)).trans ho,r⟩
 rw [List.forIn_cons]
 refine wpAny_bind (wpAny_bind (wpAny_onRaise ?_))
 show wpAny _ _ (Builtin.SmallTypes.nextOf (.ref i2) >>= fun v=>pure (some v)) _ _ _
 refine wpAny_bind (kT it3 tp3 hy fun h4' it4 sb4=>wpAny_pure ?_)
 dsimp only
 have gTO4:IsPair h4' TO x b:=(sb4.2 TO D.TOi2).trans g3'
 refine wpAny_bind (wpAny_seqItems gTO4 rfl ?_)
 dsimp only
 refine wpAny_bind (wpAny_updateSeq_pair gTO4 fun h5' g5 sb5=>?_)
 refine wpAny_bind (wpAny_letGo (wpAny_pure ?_))
 dsimp only
 have g5':IsPair h5' TO x y:=g5
 rw [List.forIn_nil]
 refine wpAny_pure ?_
 dsimp only
 refine wpAny_bind (wpAny_seqItems g5' rfl ?_)
 dsimp only
 have sz5:h5'.objs.size=s.heap.objs.size:=((((sb5.1).trans sb4.1).trans sb3.1).trans sb2.1).trans sb1.1
 refine wpAny_bind (wpAny_newTuple ?_ (by show 2<=sizeLine;decide))
 have gz5:h5'.get? z=some { cls:=Value.type "zip",data:=Data.fields #[.ellipsis,Value.bool false,Value.bool false,Value.ref TI,Value.ref TO] }:=((((sb5.2 z (Ne.symm D.TOz)).trans (sb4.2 z (Ne.symm D.i2z))).trans (sb3.2 z (Ne.symm D.TOz))).trans (sb2.2 z (Ne.symm D.i1z))).trans g1
 have zlt:z<h5'.objs.size:=Heap.lt_size gz5
 have g6:(h5'.push { cls:=Value.type "tuple",data:=Data.seq #[x,y] }).get? z=_:=Heap.get?_push_of_some _ gz5
 have n6:(h5'.push { cls:=Value.type "tuple",data:=Data.seq #[x,y] }).get? h5'.objs.size=some { cls:=Value.type "tuple",data:=Data.seq #[x,y] }:=Heap.get?_push_size _ rfl
 have ex6:∀ c o,h5'.get? c=some o->(h5'.push { cls:=Value.type "tuple",data:=Data.seq #[x,y] }).get? c=some o:=fun c o e=>Heap.get?_push_of_some _ e
 have sz6:(h5'.push { cls:=Value.type "tuple",data:=Data.seq #[x,y] }).objs.size=h5'.objs.size+1:=Heap.size_push ..
 show wpAny _ _ (Builtin.SmallTypes.ownedTupleHandOut (.ref z) (.ref h5'.objs.size) >>= _) _ _ { s with heap:=h5'.push { cls:=Value.type "tuple",data:=Data.seq #[x,y] } }
 generalize h5'.push { cls:=Value.type "tuple",data:=Data.seq #[x,y] }=h6' at *
 unfold Builtin.SmallTypes.ownedTupleHandOut
 refine wpAny_bind (wpAny_bind (wpAny_setField g6 rfl (by simp) (wpAny_setField (Heap.get?_update_self _ g6 (Obj.isFreed_of_fields (Obj.data_mapFields rfl _))) rfl (by simp) ?_)))
 have sb7:=Heap.SameBut.update h6' z (Obj.mapFields fun x_1=>x_1.setIfInBounds 0 (rawInt h5'.objs.size))
 have g7:(h6'.update z (Obj.mapFields fun x_1=>x_1.setIfInBounds 0 (rawInt h5'.objs.size))).get? z=some { cls:=Value.type "zip",data:=Data.fields #[rawInt h5'.objs.size,Value.bool false,Value.bool false,Value.ref TI,Value.ref TO] }:=Heap.get?_update_self _ g6 (Obj.isFreed_of_fields (Obj.data_mapFields rfl _))
 dsimp only
 generalize h6'.update z (Obj.mapFields fun x_1=>x_1.setIfInBounds 0 (rawInt h5'.objs.size))=h7' at *
 have sb8:=Heap.SameBut.update h7' z (Obj.mapFields fun x_1=>x_1.setIfInBounds 1 (Value.bool false))
 have g8:(h7'.update z (Obj.mapFields fun x_1=>x_1.setIfInBounds 1 (Value.bool false))).get? z=some { cls:=Value.type "zip",data:=Data.fields #[rawInt h5'.objs.size,Value.bool false,Value.bool false,Value.ref TI,Value.ref TO] }:=Heap.get?_update_self _ g7 (Obj.isFreed_of_fields (Obj.data_mapFields rfl _))
 generalize h7'.update z (Obj.mapFields fun x_1=>x_1.setIfInBounds 1 (Value.bool false))=h8' at *
 have far:∀ c o,c ≠ z->h6'.get? c=some o->h8'.get? c=some o:=fun c o hc e=>((sb8.2 c hc).trans (sb7.2 c hc)).trans e
 refine wpAny_pure ⟨_,rfl,wpAny_pure ?_⟩
 rw [sz5] at g8 n6 sz6 zlt ⊢
 refine hQ h8' g8 (far _ _ D.TOz (ex6 _ _ g5')) ?_ ?_ (far _ _ (Nat.ne_of_gt zlt) n6) (by rw [sb8.1,sb7.1,sz6]) fun c o c1 c2 c3 c4 e=>?_
 ·obtain ⟨o,ho,r⟩:=it2
  exact ⟨o,far _ _ D.i1z (ex6 _ _ (((sb5.2 i1 (Ne.symm D.TOi1)).trans (sb4.2 i1 D.i12)).trans ((sb3.2 i1 (Ne.symm D.TOi1)).trans ho))),r⟩
 ·obtain ⟨o,ho,r⟩:=it4
  exact ⟨o,far _ _ D.i2z (ex6 _ _ ((sb5.2 i2 (Ne.symm D.TOi2)).trans ho)),r⟩
 ·exact far _ _ c1 (ex6 _ _ ((sb5.2 c c2).trans ((sb4.2 c c4).trans ((sb3.2 c c2).trans ((sb2.2 c c3).trans ((sb1.2 c c1).trans e))))))
theorem DK (hh:A.handled=none)(D:ZipApart z TI TO i1 i2 l1 l2)(hz:IsZip s.heap z TI TO .none)(hTI:IsPair s.heap TI (.ref i1) (.ref i2))(h1:s.heap.IsTupleIter i1 l1 k)(p1:s.heap.IsTuple l1 xs)(hx:xs[k]?=none)
  (hQ:∀ h',(∀ c o,c ≠ z->c ≠ TO->c ≠ i1->c ≠ i2->s.heap.get? c=some o->h'.get? c=some o)->Q none { s with heap:=h' }):wpAny (model P w) A (pyNext (.ref z)) Q E s:=by
 have hT:s.TypeIs (.ref z) "zip":=⟨_,hz,rfl⟩
 unfold pyNext
 refine wpAny_bind (wpAny_attempt (wpAny_callSpecial?_slot (name:=Str.ofString "__next__") hT F.slot_zip_next (wpAny_call_entry F.slot_zip_next hT F.entry_zip_next ?_ (F.args_zip_next_1 _))))
 refine wpAny_bind (m:=field (.ref z) 2) (wpAny_field hz rfl (x:=.bool false) rfl ?_)
 refine wpAny_bind (m:=field (.ref z) 3) (wpAny_field hz rfl (x:=.ref TI) rfl ?_)
 refine wpAny_bind (m:=seqItems? (.ref TI)) (wpAny_seqItems hTI rfl ?_)
 refine wpAny_bind (m:=Builtin.SmallTypes.ownedTupleIsFree (.ref z)) ?_
 unfold Builtin.SmallTypes.ownedTupleIsFree
 refine wpAny_bind (wpAny_field hz rfl (x:=.none) rfl (wpAny_pure ?_))
 refine wpAny_bind (m:=rule "zip.__next__.owned-tuple-again") (wpAny_rule ?_)
 refine wpAny_bind (m:=field (.ref z) 4) (wpAny_field hz rfl (x:=.ref TO) rfl ?_)
 refine wpAny_bind (m:=setField (.ref z) 0 .ellipsis) (wpAny_setField hz rfl (by simp) ?_)
 have sb1:=Heap.SameBut.update s.heap z (Obj.mapFields fun x_1=>x_1.setIfInBounds 0 Value.ellipsis)
 have g1:(s.heap.update z (Obj.mapFields fun x_1=>x_1.setIfInBounds 0 Value.ellipsis)).get? z=some { cls:=Value.type "zip",data:=Data.fields #[.ellipsis,Value.bool false,Value.bool false,Value.ref TI,Value.ref TO] }:=Heap.get?_update_self _ hz (Obj.isFreed_of_fields (Obj.data_mapFields rfl _))
 generalize s.heap.update z (Obj.mapFields fun x_1=>x_1.setIfInBounds 0 Value.ellipsis)=h1' at *
 refine wpAny_bind ?_
 rw [show (#[Value.ref i1,Value.ref i2].toList.zipIdx:List (Value × Nat))=[(.ref i1,0),(.ref i2,1)] from rfl,List.forIn_cons]
 dsimp only
 have it1:h1'.IsTupleIter i1 l1 k:=by obtain ⟨o,ho,r⟩:=h1;exact ⟨o,(sb1.2 i1 D.i1z).trans ho,r⟩
 have tp1:h1'.IsTuple l1 xs:=by obtain ⟨o,ho,r⟩:=p1;exact ⟨o,(sb1.2 l1 D.l1z).trans ho,r⟩
 refine wpAny_bind (wpAny_bind (wpAny_onRaise ?_))
 show wpAny _ _ (Builtin.SmallTypes.nextOf (.ref i1) >>= fun v=>pure (some v)) _ _ _
 refine wpAny_bind (xp (by first | exact hh | (show A.in1.handled=none;exact hh)) it1 tp1 hx fun h2' e ex2 ⟨oe,hoe,hce⟩=>?_)
 have gz2:h2'.get? z=some { cls:=Value.type "zip",data:=Data.fields #[.ellipsis,Value.bool false,Value.bool false,Value.ref TI,Value.ref TO] }:=ex2 z _ (Ne.symm D.i1z) g1
 have hez:e ≠ z:=by
  intro h
  subst h
  have hoe':h2'.get? e=some oe:=hoe
  rw [gz2] at hoe'
  cases hoe'
  exact absurd (show Value.type "zip"=Value.type "StopIteration" from hce) (by decide)
 refine wpAny_setField gz2 rfl (by simp) ?_
 have sb3:=Heap.SameBut.update h2' z (Obj.mapFields fun x_1=>x_1.setIfInBounds 0 Value.none)
 dsimp only
 generalize h2'.update z (Obj.mapFields fun x_1=>x_1.setIfInBounds 0 Value.none)=h3' at *
 refine wpAny_bind (wpAny_isInstance (T:="StopIteration") (b:=true) ⟨oe,(sb3.2 e hez).trans hoe,hce⟩ isSubtype_stop ?_)
 refine wpAny_pure (hQ h3' fun c o c1 c2 c3 c4 ec=>?_)
 exact (sb3.2 c c1).trans (ex2 c o c3 ((sb1.2 c c1).trans ec))
end
open AutoSeq1 (wpAny_loadPart') in
theorem Dz (l1 l2:Addr)(xs ys:Array Value)(n1 n2:Nat)(d1 d2:Option Addr)(s1 s2:Array (Option Value)) :
  Meets (Builtin.«zip.__new__» ⟨[.type "zip",.ref l1,.ref l2],[]⟩) (fun _ R s=>s.heap.get? l1=some { cls:=.type "tuple",dict:=d1,data:=.seq xs n1,slots:=s1 }/\s.heap.get? l2=some { cls:=.type "tuple",dict:=d2,data:=.seq ys n2,slots:=s2 } /\
   ∀ g1 g2 g3 g4 g5,g1=s.heap.push { cls:=.type "tuple_iterator",data:=.fields #[.ref l1,.int 0 0] }->g2=g1.push { cls:=.type "tuple_iterator",data:=.fields #[.ref l2,.int 0 0] }->g3=g2.push { cls:=.type "tuple",data:=.seq #[.ref s.heap.objs.size,.ref g1.objs.size] }->g4=g3.push { cls:=.type "tuple",data:=.seq #[.none,.none] }->g5=g4.push { cls:=.type "zip",data:=.fields #[.none,.bool false,.bool false,.ref g2.objs.size,.ref g3.objs.size] }->R (.ok (.ret (.ref g4.objs.size))) { s with heap:=g5 }):=
 .of_wp fun prog w A R s h=>by
  obtain ⟨hp,g,d,tk,os⟩:=s
  obtain ⟨hl1,hl2,h⟩:=h
  have hT1:Heap.IsTuple (Shared.heap ⟨hp,g,d,tk,os⟩) l1 xs:=⟨_,hl1,rfl,n1,rfl⟩
  have hT2:Heap.IsTuple (hp.push { cls:=.type "tuple_iterator",data:=.fields #[.ref l1,.int 0 0] }) l2 ys:=⟨_,Heap.get?_push_of_some _ hl2,rfl,n2,rfl⟩
  have hsub:isSubtype (Value.type "zip") (Value.type "zip")=pure true:=by first | exact sub_zip | rfl
  wp_walk using wpAny_loadPart' hl1,wpAny_pyIter_tuple hT1,wpAny_pyIter_tuple hT2
  exact ⟨_,rfl,h _ _ _ _ _ rfl rfl rfl rfl rfl⟩
theorem Wa {P:Program}{w:World}{A:Around}{E:Value->Shared->Prop}{s:Shared}{l1 l2:Addr}{xs ys:Array Value}{Q:Value->Shared->Prop}(hT1:s.heap.IsTuple l1 xs)(hT2:s.heap.IsTuple l2 ys)
  (h:∀ h',IsZip h' (s.heap.objs.size+4) (s.heap.objs.size+2) (s.heap.objs.size+3) .none->IsPair h' (s.heap.objs.size+2) (.ref s.heap.objs.size) (.ref (s.heap.objs.size+1))->IsPair h' (s.heap.objs.size+3) .none .none->h'.IsTupleIter s.heap.objs.size l1 0->h'.IsTupleIter (s.heap.objs.size+1) l2 0->(∀ b o,s.heap.get? b=some o->h'.get? b=some o)->Q (.ref (s.heap.objs.size+4)) { s with heap:=h' }) :
  wpAny (model P w) A (call (.type "zip") [.ref l1,.ref l2]) Q E s:=by
 obtain ⟨⟨c1,d1,dt1,sl1⟩,hl1,hc1,n1,hd1⟩:=hT1
 replace hc1:c1=.type "tuple":=hc1
 replace hd1:dt1=.seq xs n1:=hd1
 subst hc1 hd1
 obtain ⟨⟨c2,d2,dt2,sl2⟩,hl2,hc2,n2,hd2⟩:=hT2
 replace hc2:c2=.type "tuple":=hc2
 replace hd2:dt2=.seq ys n2:=hd2
 subst hc2 hd2
 refine callType_new F.called_zip (by decide) (F.typeCall_zip_2 _ _) (F.newCall_zip_2 _ _) (fun obj=>F.args_object_init_3 obj _ _) F.entry_zip_new (Dz l1 l2 xs ys n1 n2 d1 d2 sl1 sl2) ⟨hl1,hl2,?_⟩
 intro g1 g2 g3 g4 g5 e1 e2 e3 e4 e5
 have z1:g1.objs.size=s.heap.objs.size+1:=by rw [e1,Heap.size_push]
 have z2:g2.objs.size=s.heap.objs.size+2:=by rw [e2,Heap.size_push,z1]
 have z3:g3.objs.size=s.heap.objs.size+3:=by rw [e3,Heap.size_push,z2]
 have z4:g4.objs.size=s.heap.objs.size+4:=by rw [e4,Heap.size_push,z3]
 have k1:∀ b o,s.heap.get? b=some o->g1.get? b=some o:=fun b o x=>by rw [e1];exact Heap.get?_push_of_some _ x
 have k2:∀ b o,g1.get? b=some o->g2.get? b=some o:=fun b o x=>by rw [e2];exact Heap.get?_push_of_some _ x
 have k3:∀ b o,g2.get? b=some o->g3.get? b=some o:=fun b o x=>by rw [e3];exact Heap.get?_push_of_some _ x
 have k4:∀ b o,g3.get? b=some o->g4.get? b=some o:=fun b o x=>by rw [e4];exact Heap.get?_push_of_some _ x
 have k5:∀ b o,g4.get? b=some o->g5.get? b=some o:=fun b o x=>by rw [e5];exact Heap.get?_push_of_some _ x
 have p1:g1.get? s.heap.objs.size=some { cls:=.type "tuple_iterator",data:=.fields #[.ref l1,.int 0 0] }:=by rw [e1];exact Heap.get?_push_size _ rfl
 have p2:g2.get? (s.heap.objs.size+1)=some { cls:=.type "tuple_iterator",data:=.fields #[.ref l2,.int 0 0] }:=by
  have:=Heap.get?_push_size g1 (o:={ cls:=.type "tuple_iterator",data:=.fields #[.ref l2,.int 0 0] }) rfl
  rw [z1] at this;rw [e2];exact this
 have p3:g3.get? (s.heap.objs.size+2)=some { cls:=.type "tuple",data:=.seq #[.ref s.heap.objs.size,.ref (s.heap.objs.size+1)] }:=by
  have:=Heap.get?_push_size g2 (o:={ cls:=.type "tuple",data:=.seq #[.ref s.heap.objs.size,.ref g1.objs.size] }) rfl
  rw [z2] at this;rw [e3,this,z1]
 have p4:g4.get? (s.heap.objs.size+3)=some { cls:=.type "tuple",data:=.seq #[.none,.none] }:=by
  have:=Heap.get?_push_size g3 (o:={ cls:=.type "tuple",data:=.seq #[.none,.none] }) rfl
  rw [z3] at this;rw [e4,this]
 have p5:g5.get? (s.heap.objs.size+4)=some { cls:=.type "zip",data:=.fields #[.none,.bool false,.bool false,.ref (s.heap.objs.size+2),.ref (s.heap.objs.size+3)] }:=by
  have:=Heap.get?_push_size g4 (o:={ cls:=.type "zip",data:=.fields #[.none,.bool false,.bool false,.ref g2.objs.size,.ref g3.objs.size] }) rfl
  rw [z4] at this;rw [e5,this,z2,z3]
 show _/\_
 rw [z4]
 exact ⟨⟨_,p5,rfl⟩,h _ p5 (k5 _ _ (k4 _ _ p3)) (k5 _ _ p4) ⟨_,k5 _ _ (k4 _ _ (k3 _ _ (k2 _ _ p1))),rfl,rfl⟩ ⟨_,k5 _ _ (k4 _ _ (k3 _ _ p2)),rfl,rfl⟩ fun b o x=>k5 _ _ (k4 _ _ (k3 _ _ (k2 _ _ (k1 _ _ x))))⟩
noncomputable def Iy (K:PySem.W.Frag)(a b:Addr):It:=
 ⟨fun i H=>∃ xs ys x y,SqT K H a xs/\SqT K H b ys/\xs[i]?=some x/\ys[i]?=some y,fun i H z H'=>∃ p x y,H p=none/\z=.ref p/\(∀ xs,SqT K H a xs->xs[i]?=some x)/\(∀ ys,SqT K H b ys->ys[i]?=some y)/\H'=upd H p (.tup [x,y]),
  fun i H=>∃ xs,SqT K H a xs/\xs.length<=i⟩
theorem VI {P:Program}{w:World}{K:PySem.W.Frag}{es:List Expr}{kt:Nat}{tp:Pos}(l1 l2 z TI TO i1 i2:Addr)(D:ZipApart z TI TO i1 i2 l1 l2) :
  Qq P w K (.Tuple es kt tp) (Iy K l1 l2) [z,TI,TO,i1,i2] z (fun i h=>IsZip h z TI TO .none/\IsPair h TI (.ref i1) (.ref i2)/\(∃ a b,IsPair h TO a b)/\h.IsTupleIter i1 l1 i/\h.IsTupleIter i2 l2 i) where
 mem:=by simp
 obj:=fun i h st b hb=>by
  obtain ⟨hz,hTI,⟨a,c,hTO⟩,⟨o1,e1,c1,d1⟩,⟨o2,e2,c2,d2⟩⟩:=st
  simp only [List.mem_cons,List.not_mem_nil,or_false] at hb
  rcases hb with rfl | rfl | rfl | rfl | rfl
  ·exact ⟨_,hz,fun v q=>by have q':Data.fields _=Data.cell v:=q;cases q'⟩
  ·exact ⟨_,hTI,fun v q=>by have q':Data.seq _ _=Data.cell v:=q;cases q'⟩
  ·exact ⟨_,hTO,fun v q=>by have q':Data.seq _ _=Data.cell v:=q;cases q'⟩
  ·exact ⟨o1,e1,fun v q=>by rw [d1] at q;cases q⟩
  ·exact ⟨o2,e2,fun v q=>by rw [d2] at q;cases q⟩
 keep:=fun i h h' st k=>by
  obtain ⟨hz,hTI,⟨a,c,hTO⟩,h1,h2⟩:=st
  exact ⟨k _ (by simp) _ hz,k _ (by simp) _ hTI,⟨a,c,k _ (by simp) _ hTO⟩,h1.at fun o e=>k _ (by simp) o e,h2.at fun o e=>k _ (by simp) o e⟩
 item:=by
  intro X hP hw hK hc i pins s σ H E I hf st hg
  subst hP hw hK
  obtain ⟨hz,hTI,⟨a,c,hTO⟩,h1,h2⟩:=st
  obtain ⟨xs,ys,x,y,hq1,hq2,hx,hy⟩:=hg
  obtain ⟨its1,rv1,p1,hz1⟩:=I.tuple hq1
  obtain ⟨its2,rv2,p2,hz2⟩:=I.tuple hq2
  obtain ⟨u,hu,ru⟩:=rv1.get hx
  obtain ⟨v,hv,rvv⟩:=rv2.get hy
  refine VL D hz hTI hTO h1 h2 p1 p2 (x:=u) (y:=v) (by simpa using hu) (by simpa using hv) fun g1 b1 b2 b3 b4 b5 b6 hk=>?_
  refine ⟨.ref s.heap.objs.size,rfl,wpAny_letOwnedTupleGo_zip b1 fun g2 hz2' hs2=>?_⟩
  replace hs2:Heap.SameBut z g1 g2:=hs2
  have zlt:z<s.heap.objs.size:=Heap.lt_size hz
  have I2:Inv X pins σ (upd H s.heap.objs.size (.tup [x,y])) { s with heap:=g2,toks:=s.toks }:=by
   refine I.yieldTup (us:=[u,v]) hf (fun b o hb e=>?_) (Nat.le_refl _) ((hs2.2 _ (Nat.ne_of_gt zlt)).trans b5) (.cons ru (.cons rvv .nil)) (by show 2<=sizeLine;decide)
   simp only [List.mem_cons,List.not_mem_nil,or_false,not_or] at hb
   exact (hs2.2 b hb.1).trans (hk b o hb.1 hb.2.2.1 hb.2.2.2.1 hb.2.2.2.2 e)
  refine ⟨.ref s.heap.objs.size,_,I2,rfl,⟨s.heap.objs.size,x,y,I.hok.fresh (Nat.le_refl _),rfl,fun xs' h'=>by rw [I.tuple_inj h' hq1];exact hx,fun ys' h'=>by rw [I.tuple_inj h' hq2];exact hy,rfl⟩,
   ⟨hz2',(hs2.2 _ D.TIz).trans (hk _ _ D.TIz D.TITO D.TIi1 D.TIi2 hTI),⟨_,_,(hs2.2 _ D.TOz).trans b2⟩,b3.extBut hs2.extBut D.i1z,b4.extBut hs2.extBut D.i2z⟩,fun b hb=>?_⟩
  have hlt:b<s.heap.objs.size:=by
   simp only [List.mem_cons,List.not_mem_nil,or_false] at hb
   rcases hb with rfl | rfl | rfl | rfl | rfl
   ·exact zlt
   ·exact Heap.lt_size hTI
   ·exact Heap.lt_size hTO
   ·obtain ⟨o,e,_⟩:=h1;exact Heap.lt_size e
   ·obtain ⟨o,e,_⟩:=h2;exact Heap.lt_size e
  rw [zm (Nat.ne_of_lt hlt)]
  exact (hf b hb).1
 done:=by
  intro X hP hw hK hc i pins s σ H E I hf st hg
  subst hP hw hK
  obtain ⟨hz,hTI,⟨a,c,hTO⟩,h1,h2⟩:=st
  obtain ⟨xs,hq1,hend⟩:=hg
  obtain ⟨its1,rv1,p1,hz1⟩:=I.tuple hq1
  have l1:=rv1.length
  refine DK (I.ok.hd hc) D hz hTI h1 p1 (by simp;omega) fun h' hk=>⟨rfl,I.turnedL (tk:=s.toks) hf fun b o hb e=>?_⟩
  simp only [List.mem_cons,List.not_mem_nil,or_false,not_or] at hb
  exact hk b o hb.1 hb.2.2.1 hb.2.2.2.1 hb.2.2.2.2 e
 self:=fun _ _ _ _ _ st h=>wpAny_pyIter_zip st.1 h
section
variable {X:Cx}{es:List Expr}{kt:Nat}{tp:Pos}
noncomputable def Xf (K:PySem.W.Frag)(ta:TA):TI:=fun σ H R=>ta σ H fun vs H1=>∃ a b,vs=[.ref a,.ref b]/\(((∃ xs,SqL K H1 a xs)/\(∃ ys,SqL K H1 b ys)/\R (Itz K a b) H1) \/ ((∃ xs,SqT K H1 a xs)/\(∃ ys,SqT K H1 b ys)/\R (Iy K a b) H1))
theorem BA {e1 e2:Expr}{ta:TA}{p pos:Pos}(hg:Gl X "zip")(hm:X.mg "zip"=none)(ha:PA X [e1,e2] ta)(hs:starEach [e1,e2] X.env=[(false,eval e1 X.env),(false,eval e2 X.env)]:=by rfl)(hs2:starEach [e2] X.env=[(false,eval e2 X.env)]:=by rfl) :
  PI X (.Tuple es kt tp) (.Call (.Name "zip" p) [e1,e2] [] pos) (Xf X.K ta):=by
 intro pins s σ H R I h
 refine Call_ (kJ I hg hm Zy (PyProof.Rows.callWith_type1 (thn (ha pos pins s σ H _ I h) fun us s1 ⟨vs,H1,I1,r1,q1⟩=>?_) (by rw [hs,hs2]) (by rw [hs2];rfl)))
 obtain ⟨a,b,e,q1⟩:=q1
 subst e
 obtain ⟨u,v,rfl,ru,rv⟩:=ZX r1
 cases ru
 cases rv
 rcases q1 with ⟨⟨xs,hq1⟩,⟨ys,hq2⟩,q⟩ | ⟨⟨xs,hq1⟩,⟨ys,hq2⟩,q⟩
 ·obtain ⟨its1,rv1,p1,hz1⟩:=I1.list hq1
  obtain ⟨its2,rv2,p2,hz2⟩:=I1.list hq2
  have la:a<s1.heap.objs.size:=by obtain ⟨o,e,_⟩:=p1.isList;exact Heap.lt_size e
  have lb:b<s1.heap.objs.size:=by obtain ⟨o,e,_⟩:=p2.isList;exact Heap.lt_size e
  refine call_zip_2 p1.isList p2.isList fun h' b1 b2 b3 b4 b5 hsz hk=>wpAny_pyIter_zip b1 ?_
  have I2:Inv X pins σ H1 { s1 with heap:=h' }:=I1.kept (t':=s1.toks) hk
  refine ⟨s1.heap.objs.size+4,[s1.heap.objs.size+4,s1.heap.objs.size+2,s1.heap.objs.size+3,s1.heap.objs.size,s1.heap.objs.size+1],_,_,H1,rfl,I2,JH a b _ _ _ _ _ (zipApart_new la lb),⟨b1,b2,⟨_,_,b3⟩,b4,b5⟩,fun c hb=>?_,q⟩
  have hb':s1.heap.objs.size<=c:=by
   simp only [List.mem_cons,List.not_mem_nil,or_false] at hb
   rcases hb with rfl | rfl | rfl | rfl | rfl <;> first | exact Nat.le_refl _ | exact Nat.le_add_right _ _
  exact I1.fpOk hb' (I1.hok.fresh hb')
 ·obtain ⟨its1,rv1,p1,hz1⟩:=I1.tuple hq1
  obtain ⟨its2,rv2,p2,hz2⟩:=I1.tuple hq2
  have la:a<s1.heap.objs.size:=by obtain ⟨o,e,_⟩:=p1;exact Heap.lt_size e
  have lb:b<s1.heap.objs.size:=by obtain ⟨o,e,_⟩:=p2;exact Heap.lt_size e
  refine Wa p1 p2 fun h' b1 b2 b3 b4 b5 hk=>wpAny_pyIter_zip b1 ?_
  have I2:Inv X pins σ H1 { s1 with heap:=h' }:=I1.kept (t':=s1.toks) hk
  refine ⟨s1.heap.objs.size+4,[s1.heap.objs.size+4,s1.heap.objs.size+2,s1.heap.objs.size+3,s1.heap.objs.size,s1.heap.objs.size+1],_,_,H1,rfl,I2,VI a b _ _ _ _ _ (zipApart_new la lb),⟨b1,b2,⟨_,_,b3⟩,b4,b5⟩,fun c hb=>?_,q⟩
  have hb':s1.heap.objs.size<=c:=by
   simp only [List.mem_cons,List.not_mem_nil,or_false] at hb
   rcases hb with rfl | rfl | rfl | rfl | rfl <;> first | exact Nat.le_refl _ | exact Nat.le_add_right _ _
  exact I1.fpOk hb' (I1.hok.fresh hb')
end
noncomputable def slV (xs:List V)(lo hi st:Option Int):List V:=(sliceRange (sliceBounds lo hi st xs.length).1 (sliceBounds lo hi st xs.length).2.1 (sliceBounds lo hi st xs.length).2.2).filterMap fun k=>xs[k]?
theorem ZL {xs:List V}{us:List Value}(r:zH xs us):∀ ks:List Nat,zH (ks.filterMap fun k=>xs[k]?) (ks.filterMap fun k=>us[k]?)
 | []=>.nil
 | k :: ks=>by
  have ih:=ZL r ks
  have hl:=r.length
  by_cases h:k<xs.length
  ·have e1:xs[k]?=some xs[k]:=List.getElem?_eq_getElem h
   obtain ⟨u,hu,ru⟩:=r.get e1
   rw [List.filterMap_cons_some e1,List.filterMap_cons_some hu]
   exact .cons ru ih
  ·have e1:xs[k]?=none:=List.getElem?_eq_none (by omega)
   have e2:us[k]?=none:=List.getElem?_eq_none (by omega)
   rw [List.filterMap_cons_none e1,List.filterMap_cons_none e2]
   exact ih
noncomputable def L8 (K:PySem.W.Frag):V->Option Int->Option Int->Option Int->Hp->VK->Prop:=fun x lo hi st H Q=>∃ a xs,x=.ref a/\SqL K H a xs/\st ≠ some 0/\∀ p,H p=none->Q (.ref p) (upd H p (.lst (slV xs lo hi st)))
noncomputable def La (K:PySem.W.Frag)(te:TE)(tl th ts:TO):TE:=fun σ H Q=>te σ H fun x H1=>tl σ H1 fun l H2=>th σ H2 fun u H3=>ts σ H3 fun z H4=>L8 K x l u z H4 Q
section
variable {X:Cx}{e st:Expr}{te:TE}{lo hi:Option Expr}{tl th ts:TO}{p2 pos:Pos}
theorem V4 (he:PE X e te)(hl:PO X lo tl)(hu:PO X hi th)(hst:PO X (some st) ts):PE X (.Subscript e (.Slice lo hi (some st) p2) pos) (La X.K te tl th ts):=by
 intro pins s σ H Q I h
 refine Subscript_ (thn (he pins s σ H _ I h) fun v s1 ⟨x,H1,I1,r1,q1⟩=>?_)
 refine wpAny_Slice (thn (hl pins s1 σ H1 _ I1 q1) fun vl s2 ⟨l,H2,I2,pl,q2⟩=>thn (hu pins s2 σ H2 _ I2 q2) fun vu s3 ⟨u,H3,I3,pu,q3⟩=>thn (hst pins s3 σ H3 _ I3 q3) fun vs s4 ⟨z,H4,I4,pz,q4⟩=>?_)
 have I5:Inv X pins σ H4 { s4 with heap:=s4.heap.push { cls:=.type "slice",data:=.fields #[vl,vu,vs] } }:=I4.kept (t':=s4.toks) fun b ob q=>Heap.get?_push_of_some _ q
 obtain ⟨a,xs,rfl,hx,hz0,q⟩:=q4
 cases r1
 obtain ⟨its,r,ht,hz⟩:=I5.list hx
 have hlen:=r.length
 show wpAny (model X.prog X.w) X.A (subscriptTail e (.Slice lo hi (some st) p2) (.ref a) (.ref s4.heap.objs.size)) (EP X pins σ Q) X.xe { s4 with heap:=s4.heap.push { cls:=.type "slice",data:=.fields #[vl,vu,vs] } }
 refine tail_any (ops:=[.ref a,.ref s4.heap.objs.size]) ht.isList.typeIs slot_list_getitem.lookup ?_ rfl
 refine wpAny_getItem_list_slice ht.isList (Heap.IsSliceOf.new ..) pl pu pz hz0 ?_ (by rw [List.size_toArray];omega)
 have e1:slicePick its.toArray l u z=(List.filterMap (fun x=>its[x]?) (sliceRange (sliceBounds l u z xs.length).1 (sliceBounds l u z xs.length).2.1 (sliceBounds l u z xs.length).2.2)).toArray:=by
  unfold slicePick
  rw [List.size_toArray,<- hlen]
  simp only [List.getElem?_toArray]
 have hsz:=slicePick_size_le its.toArray l u z
 rw [e1] at hsz ⊢
 have rr:=ZL r (sliceRange (sliceBounds l u z xs.length).1 (sliceBounds l u z xs.length).2.1 (sliceBounds l u z xs.length).2.2)
 have hl2:=rr.length
 refine ⟨.ref _,_,I5.laid (t':=s4.toks) (o:=.lst (slV xs l u z)) (fun b ob q=>Heap.get?_push_of_some _ q) (Nat.le_refl _) ?_,rfl,q _ (I5.hok.fresh (Nat.le_refl _))⟩
 refine ⟨?_,_,0,rr,Heap.get?_push_size _ rfl⟩
 rw [List.size_toArray,List.size_toArray] at hsz
 show (slV xs l u z).length<=_
 unfold slV
 omega
end
theorem Ay (xs:List V):slV xs none (some 0) (some (-1))=(xs.drop 1).reverse:=by
 have hb:sliceBounds none (some 0) (some (-1)) xs.length=((xs.length:Int) - 1,max (-1) (min 0 ((xs.length:Int) - 1)),-1):=rfl
 unfold slV
 rw [hb]
 have key:∀ n,n=xs.length->sliceRange ((n:Int) - 1) (max (-1) (min 0 ((n:Int) - 1))) (-1)=(List.range (n - 1)).map fun k=>n - 1 - k:=by
  intro n _
  unfold sliceRange
  dsimp only
  rw [if_neg (by decide)]
  have hc:((if (n:Int) - 1 > max (-1) (min 0 ((n:Int) - 1)) then ((n:Int) - 1 - max (-1) (min 0 ((n:Int) - 1)) - -1 - 1) / - -1 else 0).toNat)=n - 1:=by
   rcases Nat.eq_zero_or_pos n with z | z
   ·subst z;decide
   ·have e:max (-1) (min 0 ((n:Int) - 1))=0:=by omega
    rw [e]
    split
    ·rw [show - -(1:Int)=1 from rfl,Int.ediv_one];omega
    ·omega
  rw [hc]
  refine List.map_congr_left fun k hk=>?_
  have:k<n - 1:=by simpa using hk
  omega
 show List.filterMap (fun k=>xs[k]?) (sliceRange ((xs.length:Int) - 1) (max (-1) (min 0 ((xs.length:Int) - 1))) (-1))=_
 rw [key xs.length rfl,List.filterMap_map]
 refine List.ext_getElem? fun i=>?_
 have hall:∀ k,k<xs.length - 1->((fun k=>xs[k]?) ∘ fun k=>xs.length - 1 - k) k=some (xs.getD (xs.length - 1 - k) .non):=fun k hk=>by
  show xs[xs.length - 1 - k]?=_
  rw [List.getD_eq_getElem?_getD,List.getElem?_eq_getElem (by omega)];rfl
 have hfm:List.filterMap ((fun k=>xs[k]?) ∘ fun k=>xs.length - 1 - k) (List.range (xs.length - 1))=(List.range (xs.length - 1)).map fun k=>xs.getD (xs.length - 1 - k) .non:=by
  have go:∀ (ks:List Nat),(∀ k ∈ ks,k<xs.length - 1)->List.filterMap ((fun k=>xs[k]?) ∘ fun k=>xs.length - 1 - k) ks=ks.map fun k=>xs.getD (xs.length - 1 - k) .non:=by
   intro ks
   induction ks with
   | nil=>intro _;rfl
   | cons k ks ih=>
    intro hk
    rw [List.filterMap_cons_some (hall k (hk k (by simp))),ih fun j hj=>hk j (by simp [hj])];rfl
  exact go _ fun k hk=>by simpa using hk
 rw [hfm,List.getElem?_map]
 by_cases h:i<xs.length - 1
 ·rw [List.getElem?_range h,List.getElem?_reverse (by rw [List.length_drop];omega),List.getElem?_drop,List.length_drop]
  show some (xs.getD (xs.length - 1 - i) .non)=xs[1+(xs.length - 1 - 1 - i)]?
  rw [List.getD_eq_getElem?_getD,show 1+(xs.length - 1 - 1 - i)=xs.length - 1 - i by omega,List.getElem?_eq_getElem (by omega)];rfl
 ·rw [List.getElem?_eq_none (by rw [List.length_range];omega),List.getElem?_eq_none (by rw [List.length_reverse,List.length_drop];omega)];rfl
theorem xx {α:Type}(p q:α->Bool):∀ (l:List α),(∀ x ∈ l,¬ (p x=true/\q x=true))->l.countP (fun x=>p x || q x)=l.countP p+l.countP q
 | [],_=>rfl
 | x :: l,h=>by
  have ih:=xx p q l fun y hy=>h y (by simp [hy])
  have hx:=h x (by simp)
  rw [List.countP_cons,List.countP_cons,List.countP_cons,ih]
  cases hp:p x <;> cases hq:q x
  ·simp
  ·simp;omega
  ·simp;omega
  ·exact absurd ⟨hp,hq⟩ hx
theorem KR (n y:Nat)(h:y<n):(List.range n).countP (fun x=>decide (x=y))=1:=by
 induction n with
 | zero=>omega
 | succ n ih=>
  rw [List.range_succ,List.countP_append]
  by_cases e:y=n
  ·subst e
   have:(List.range y).countP (fun x=>decide (x=y))=0:=by
    rw [List.countP_eq_zero]
    intro x hx
    have:x<y:=by simpa using hx
    simp;omega
   rw [this];simp
  ·rw [ih (by omega)]
   have:¬ n=y:=fun z=>e z.symm
   simp [this]
theorem wI (n:Nat):∀ (R:List Nat),R.Nodup->(∀ x ∈ R,x<n)->(List.range n).countP (fun x=>decide (x ∈ R))=R.length
 | [],_,_=>by simp
 | y :: R,nd,hb=>by
  have hy:=List.nodup_cons.mp nd
  have e:(fun x=>decide (x ∈ y :: R))=fun x=>decide (x=y) || decide (x ∈ R):=by
   funext x
   rw [Bool.eq_iff_iff]
   simp
  rw [e,xx,KR n y (hb y (by simp)),wI n R hy.2 fun x hx=>hb x (by simp [hx]),List.length_cons,Nat.add_comm]
  intro x _ ⟨h1,h2⟩
  have h1':x=y:=by simpa using h1
  subst h1'
  exact hy.1 (by simpa using h2)
theorem Z8 {n:Nat}{os:List Int}(h:zj n os){i:Nat}(hi:i<n):1<per os (i:Int) ↔ ¬ os.getD i 0=(i:Int):=by
 obtain ⟨M,hM,hMn⟩:=ja h (p:=(i:Int)) (by omega) (by omega)
 rw [hM.per]
 have e1:itn os 1 (i:Int)=os.getD i 0:=by
  show os.getD ((i:Int)).toNat 0=_
  rw [Int.toNat_natCast]
 constructor
 ·intro z e
  exact hM.2.2 1 (Nat.le_refl _) z (by rw [e1,e])
 ·intro z
  rcases Nat.lt_or_ge 1 M with y | y
  ·exact y
  ·have:M=1:=by have:=hM.1;omega
   rw [this] at hM
   exact absurd (by rw [<- e1,hM.2.1]) z
theorem kl {n:Nat}{os:List Int}(h:zj n os){p:Int}(p0:0<=p)(p1:p<n){M:Nat}(hM:kA os p M):(itl os p M).Nodup:=by
 rw [List.nodup_iff_pairwise_ne,List.pairwise_iff_getElem]
 intro i j hi hj hij e
 rw [qz] at hi hj
 have e':itn os i p=itn os j p:=by
  have e1:(itl os p M)[i]'(by rw [qz];exact hi)=itn os i p:=by simp [itl]
  have e2:(itl os p M)[j]'(by rw [qz];exact hj)=itn os j p:=by simp [itl]
  rw [<- e1,<- e2];exact e
 have b:=qU h p0 p1 (j - i)
 have e2:itn os (j - i) p=p:=by
  refine (Z7 h p0 p1 b.1 b.2 i ?_).symm
  rw [<- kR,show i+(j - i)=j by omega]
  exact e'
 exact hM.2.2 (j - i) (by omega) (by omega) e2
theorem K7 {n:Nat}{os:List Int}(h:zj n os){i x:Nat}(hi:i<n)(hx:x<n)(hp:1<per os (i:Int))(r:Rch os (i:Int) (x:Int)):¬ os.getD x 0=(x:Int):=by
 intro e
 have r2:=r.symm h (by omega) (by omega)
 obtain ⟨k,hk⟩:=r2
 have hfix:∀ k,itn os k (x:Int)=(x:Int):=by
  intro k
  induction k with
  | zero=>rfl
  | succ k ih=>
   show nxt os (itn os k (x:Int))=_
   rw [ih]
   show os.getD ((x:Int)).toNat 0=_
   rw [Int.toNat_natCast,e]
 rw [hfix k] at hk
 have:x=i:=by omega
 subst this
 exact (Z8 h hi).mp hp e
open Classical in
noncomputable def Zn (os:List Int)(n i:Nat):Nat:=(List.range n).countP fun (x:Nat)=>decide (qp os i (x:Int)/\¬ os.getD x 0=(x:Int))
noncomputable def vE (rs:List (List Int)):Nat:=(rs.map List.length).sum
theorem DU (a b:List (List Int)):vE (a ++ b)=vE a+vE b:=by unfold vE;rw [List.map_append,List.sum_append]
open Classical in
theorem wl {n:Nat}{os:List Int}(h:zj n os):∀ i,i<=n->vE (zk os i)=Zn os n i
 | 0,_=>by
  unfold Zn
  have:(List.range n).countP (fun (x:Nat)=>decide (qp os 0 (x:Int)/\¬ os.getD x 0=(x:Int)))=0:=by
   rw [List.countP_eq_zero]
   intro x _ hx
   have:=(of_decide_eq_true hx).1
   obtain ⟨q,hq,_⟩:=this
   omega
  rw [this];rfl
 | i+1,hi=>by
  have ih:=wl h i (by omega)
  show vE (zk os i ++ _)=_
  rw [DU,ih]
  obtain ⟨M,hM,hMn⟩:=ja h (p:=(i:Int)) (by omega) (by omega)
  by_cases hL:j3 os i
  ·have hns:=jS.mp hL
   by_cases hp:1<per os (i:Int)
   ·rw [if_pos ⟨hL,hp⟩]
    have e:(fun x:Nat=>decide (qp os (i+1) (x:Int)/\¬ os.getD x 0=(x:Int)))=fun x:Nat=>decide (qp os i (x:Int)/\¬ os.getD x 0=(x:Int)) || decide (Rch os (i:Int) (x:Int)/\¬ os.getD x 0=(x:Int)):=by
     funext x
     rw [Bool.eq_iff_iff,Bool.or_eq_true,decide_eq_true_eq,decide_eq_true_eq,decide_eq_true_eq,qp.succ]
     constructor
     ·rintro ⟨a | a,b⟩
      ·exact .inl ⟨a,b⟩
      ·exact .inr ⟨a,b⟩
     ·rintro (⟨a,b⟩ | ⟨a,b⟩)
      ·exact ⟨.inl a,b⟩
      ·exact ⟨.inr a,b⟩
    unfold Zn
    rw [e,xx]
    ·congr 1
     have e2:(List.range n).countP (fun x:Nat=>decide (Rch os (i:Int) (x:Int)/\¬ os.getD x 0=(x:Int)))=(List.range n).countP (fun x:Nat=>decide (x ∈ (itl os (i:Int) M).map Int.toNat)):=by
      refine List.countP_congr fun x hx=>?_
      have hx':x<n:=by simpa using hx
      rw [decide_eq_true_eq,decide_eq_true_eq,List.mem_map]
      constructor
      ·rintro ⟨r,_⟩
       exact ⟨(x:Int),(Rch.mem_ring hM).mp r,by simp⟩
      ·rintro ⟨y,hy,e⟩
       obtain ⟨k,hk,ek⟩:=qw.mp hy
       have b:=qU h (p:=(i:Int)) (by omega) (by omega) k
       have hyx:y=(x:Int):=by omega
       rw [hyx] at hy
       have r:=(Rch.mem_ring hM).mpr hy
       exact ⟨r,K7 h (by omega) hx' hp r⟩
     have hnd:=kl h (p:=(i:Int)) (by omega) (by omega) hM
     rw [e2,wI]
     ·rw [List.length_map,qz]
      unfold vE zG
      rw [hM.per]
      simp [qz]
     ·rw [List.nodup_iff_pairwise_ne,List.pairwise_map]
      refine List.Pairwise.imp_of_mem (fun {a b} ha hb hab e=>?_) (List.nodup_iff_pairwise_ne.mp hnd)
      obtain ⟨k1,_,e1⟩:=qw.mp ha
      obtain ⟨k2,_,e2⟩:=qw.mp hb
      have b1:=qU h (p:=(i:Int)) (by omega) (by omega) k1
      have b2:=qU h (p:=(i:Int)) (by omega) (by omega) k2
      exact hab (by omega)
     ·intro x hx
      obtain ⟨y,hy,e⟩:=List.mem_map.mp hx
      obtain ⟨k,hk,ek⟩:=qw.mp hy
      have b:=qU h (p:=(i:Int)) (by omega) (by omega) k
      omega
    ·intro x _ ⟨h1,h2⟩
     exact qp.apart h (by omega) hns (of_decide_eq_true h2).1 (of_decide_eq_true h1).1
   ·rw [if_neg (fun z=>hp z.2)]
    have e:Zn os n (i+1)=Zn os n i:=by
     unfold Zn
     refine List.countP_congr fun x hx=>?_
     have hx':x<n:=by simpa using hx
     rw [decide_eq_true_eq,decide_eq_true_eq,qp.succ]
     have hfix:os.getD i 0=(i:Int):=Classical.byContradiction fun z=>hp ((Z8 h (by omega)).mpr z)
     constructor
     ·rintro ⟨a | a,b⟩
      ·exact ⟨a,b⟩
      ·exfalso
       obtain ⟨k,hk⟩:=a
       have hstay:∀ k,itn os k (i:Int)=(i:Int):=by
        intro k
        induction k with
        | zero=>rfl
        | succ k ih=>
         show nxt os (itn os k (i:Int))=_
         rw [ih]
         show os.getD ((i:Int)).toNat 0=_
         rw [Int.toNat_natCast,hfix]
       rw [hstay k] at hk
       have:i=x:=by omega
       subst this
       exact b hfix
     ·rintro ⟨a,b⟩
      exact ⟨.inl a,b⟩
    rw [e]
    rfl
  ·rw [if_neg (fun z=>hL z.1)]
   have hs:qp os i (i:Int):=Classical.byContradiction fun z=>hL (jS.mpr z)
   have e:Zn os n (i+1)=Zn os n i:=by
    unfold Zn
    refine List.countP_congr fun x hx=>?_
    rw [decide_eq_true_eq,decide_eq_true_eq,qp.step h (by omega) hs]
   rw [e]
   rfl
open Classical in
theorem J5 {n:Nat}{os:List Int}(h:zj n os):vE (zk os n)=yN os n:=by
 rw [wl h n (Nat.le_refl n)]
 unfold Zn yN
 rw [List.countP_eq_length_filter]
 congr 1
 refine List.filter_congr fun x hx=>?_
 have hx':x<n:=by simpa using hx
 rw [Bool.eq_iff_iff]
 constructor
 ·intro z
  have:=(of_decide_eq_true z).2
  simpa using this
 ·intro z
  have z':¬ os.getD x 0=(x:Int):=by simpa using z
  exact decide_eq_true ⟨⟨x,hx',Rch.refl⟩,z'⟩
noncomputable def sw1 (row:List Int)(s:Nat × Nat):List Int:=(row.set s.1 (row.getD s.2 0)).set s.2 (row.getD s.1 0)
noncomputable def swR (row:List Int)(l:List (Nat × Nat)):List Int:=l.foldl sw1 row
theorem Y0 (row:List Int)(s:Nat × Nat):(sw1 row s).length=row.length:=by unfold sw1;rw [List.length_set,List.length_set]
theorem kQ:∀ (l:List (Nat × Nat)) (row:List Int),(swR row l).length=row.length
 | [],_=>rfl
 | s :: l,row=>by show (swR (sw1 row s) l).length=_;rw [kQ l,Y0]
theorem QP (row:List Int)(a b:List (Nat × Nat)):swR row (a ++ b)=swR (swR row a) b:=by unfold swR;rw [List.foldl_append]
theorem vI {row:List Int}{a b x:Nat}(ha:a<row.length)(hb:b<row.length):(sw1 row (a,b)).getD x 0=if x=b then row.getD a 0 else if x=a then row.getD b 0 else row.getD x 0:=by
 unfold sw1
 rw [qW (by rw [List.length_set];exact hb),qW ha]
noncomputable def zQ (c:List Nat):List (Nat × Nat):=(c.drop 1).map fun p=>(c.getD 0 0,p)
theorem vd {row:List Int}{c:List Nat}(nd:c.Nodup)(hb:∀ x ∈ c,x<row.length)(h0:∀ x ∈ c,row.getD x 0=(x:Int))(hc:1<=c.length):∀ k,k<c.length ->
  (swR row ((zQ c).take k)).getD (c.getD 0 0) 0=((c.getD k 0:Nat):Int)/\(∀ i,1<=i->i<=k->(swR row ((zQ c).take k)).getD (c.getD i 0) 0=((c.getD (i - 1) 0:Nat):Int)) /\
   (∀ i,k<i->i<c.length->(swR row ((zQ c).take k)).getD (c.getD i 0) 0=((c.getD i 0:Nat):Int))/\∀ x,x ∉ c->(swR row ((zQ c).take k)).getD x 0=row.getD x 0
 | 0,h=>by
  have gm:∀ i,i<c.length->c.getD i 0 ∈ c:=fun i hi=>by
   rw [List.getD_eq_getElem?_getD,List.getElem?_eq_getElem hi];exact List.getElem_mem hi
  refine ⟨h0 _ (gm 0 h),fun i h1 h2=>by omega,fun i h1 h2=>h0 _ (gm i h2),fun x hx=>rfl⟩
 | k+1,h=>by
  obtain ⟨i1,i2,i3,i4⟩:=vd nd hb h0 hc k (by omega)
  have gm:∀ i,i<c.length->c.getD i 0 ∈ c:=fun i hi=>by
   rw [List.getD_eq_getElem?_getD,List.getElem?_eq_getElem hi];exact List.getElem_mem hi
  have inj:∀ i j,i<c.length->j<c.length->c.getD i 0=c.getD j 0->i=j:=fun i j hi hj e=>by
   rw [List.getD_eq_getElem?_getD,List.getElem?_eq_getElem hi,List.getD_eq_getElem?_getD,List.getElem?_eq_getElem hj] at e
   exact (List.getElem_inj nd).mp e
  have hsl:(zQ c).length=c.length - 1:=by unfold zQ;rw [List.length_map,List.length_drop]
  have est:(zQ c)[k]?=some (c.getD 0 0,c.getD (k+1) 0):=by
   unfold zQ
   rw [List.getElem?_map,List.getElem?_drop,List.getD_eq_getElem?_getD (i:=k+1),show 1+k=k+1 by omega,List.getElem?_eq_getElem h];rfl
  have htk:(zQ c).take (k+1)=(zQ c).take k ++ [(c.getD 0 0,c.getD (k+1) 0)]:=by rw [List.take_add_one,est];rfl
  rw [htk,QP]
  show (sw1 (swR row ((zQ c).take k)) (c.getD 0 0,c.getD (k+1) 0)).getD _ _=_/\_
  have b0:c.getD 0 0<(swR row ((zQ c).take k)).length:=by rw [kQ];exact hb _ (gm 0 (by omega))
  have b1:c.getD (k+1) 0<(swR row ((zQ c).take k)).length:=by rw [kQ];exact hb _ (gm (k+1) h)
  have ne:c.getD 0 0 ≠ c.getD (k+1) 0:=fun e=>by have:=inj 0 (k+1) (by omega) h e;omega
  refine ⟨?_,fun i h1 h2=>?_,fun i h1 h2=>?_,fun x hx=>?_⟩
  ·rw [vI b0 b1,if_neg ne,if_pos rfl]
   exact i3 (k+1) (by omega) h
  ·show (sw1 _ _).getD _ _=_
   rw [vI b0 b1]
   by_cases e:i=k+1
   ·subst e
    rw [if_pos rfl,i1,show k+1 - 1=k by omega]
   ·rw [if_neg (fun z=>e (inj i (k+1) (by omega) h z)),if_neg (fun z=>by have:=inj i 0 (by omega) (by omega) z;omega)]
    exact i2 i h1 (by omega)
  ·show (sw1 _ _).getD _ _=_
   rw [vI b0 b1,if_neg (fun z=>by have:=inj i (k+1) h2 h z;omega),if_neg (fun z=>by have:=inj i 0 h2 (by omega) z;omega)]
   exact i3 i (by omega) h2
  ·show (sw1 _ _).getD _ _=_
   rw [vI b0 b1,if_neg (fun z=>hx (by rw [z];exact gm (k+1) h)),if_neg (fun z=>hx (by rw [z];exact gm 0 (by omega)))]
   exact i4 x hx
noncomputable def qy (os:List Int)(i:Nat):List (Nat × Nat):=((zk os i).map fun r=>zQ (r.map Int.toNat)).flatten
open Classical in
theorem yh {n:Nat}{os:List Int}(h:zj n os):∀ i,i<=n->(swR (zJ 0 1 n) (qy os i)).length=n/\(∀ t:Nat,t<n->qp os i (t:Int)->(swR (zJ 0 1 n) (qy os i)).getD (os.getD t 0).toNat 0=(t:Int))/\∀ t:Nat,t<n->¬ qp os i (t:Int)->(swR (zJ 0 1 n) (qy os i)).getD t 0=(t:Int)
  | 0,_=>by
    refine ⟨zr 0 1 n,fun t _ ⟨q,hq,_⟩=>by omega,fun t ht _=>?_⟩
    show (zJ 0 1 n).getD t 0=_
    exact zY n ht
  | i+1,hi=>by
    obtain ⟨l,ih1,ih2⟩:=yh h i (by omega)
    obtain ⟨M,hM,hMn⟩:=ja h (p:=(i:Int)) (by omega) (by omega)
    have hst:qy os (i+1)=qy os i ++ (((if j3 os i/\1<per os (i:Int) then [zG os (i:Int)] else []).map fun r=>zQ (r.map Int.toNat)).flatten):=by
      unfold qy
      show ((zk os i ++ _).map _).flatten=_
      rw [List.map_append,List.flatten_append]
    rw [hst,QP]
    generalize swR (zJ 0 1 n) (qy os i)=row at *
    by_cases hL:j3 os i
    · have hns:=jS.mp hL
      by_cases hp:1<per os (i:Int)
      · rw [if_pos ⟨hL,hp⟩]
        have e1:([zG os (i:Int)].map fun r=>zQ (r.map Int.toNat)).flatten=zQ ((itl os (i:Int) M).map Int.toNat):=by
          unfold zG
          rw [hM.per]
          simp
        rw [e1]
        have hcl:((itl os (i:Int) M).map Int.toNat).length=M:=by rw [List.length_map,qz]
        have cg:∀ k,k<M->((itl os (i:Int) M).map Int.toNat).getD k 0=(itn os k (i:Int)).toNat:=fun k hk=>by
          rw [List.getD_eq_getElem?_getD,List.getElem?_map]
          unfold itl
          rw [List.getElem?_map,List.getElem?_range hk];rfl
        have bd:∀ k,0<=itn os k (i:Int)/\itn os k (i:Int)<n:=fun k=>qU h (by omega) (by omega) k
        have hnd:((itl os (i:Int) M).map Int.toNat).Nodup:=by
          rw [List.nodup_iff_pairwise_ne,List.pairwise_map]
          refine List.Pairwise.imp_of_mem (fun {a b} ha hb hab e=>?_) (List.nodup_iff_pairwise_ne.mp (kl h (p:=(i:Int)) (by omega) (by omega) hM))
          obtain ⟨k1,_,e1⟩:=qw.mp ha
          obtain ⟨k2,_,e2⟩:=qw.mp hb
          have b1:=bd k1
          have b2:=bd k2
          exact hab (by omega)
        have hmem:∀ x:Nat,x ∈ (itl os (i:Int) M).map Int.toNat ↔ Rch os (i:Int) (x:Int):=fun x=>by
          rw [List.mem_map,Rch.mem_ring hM]
          constructor
          · rintro ⟨y,hy,e⟩
            obtain ⟨k,hk,ek⟩:=qw.mp hy
            have:=bd k
            rw [show (x:Int)=y by omega];exact hy
          · intro hx
            exact ⟨_,hx,by simp⟩
        have hfree:∀ x ∈ (itl os (i:Int) M).map Int.toNat,x<n/\row.getD x 0=(x:Int):=fun x hx=>by
          have r:=(hmem x).mp hx
          obtain ⟨k,hk⟩:=r
          have:=bd k
          have hxn:x<n:=by omega
          exact ⟨hxn,ih2 x hxn (qp.apart h (by omega) hns ⟨k,hk⟩)⟩
        have hM1:=hM.1
        obtain ⟨s1,s2,s3,s4⟩:=vd hnd (fun x hx=>by rw [l];exact (hfree x hx).1) (fun x hx=>(hfree x hx).2) (by omega) (M - 1) (by omega)
        have htake:(zQ ((itl os (i:Int) M).map Int.toNat)).take (M - 1)=zQ ((itl os (i:Int) M).map Int.toNat):=by
          rw [List.take_of_length_le]
          unfold zQ
          rw [List.length_map,List.length_drop,hcl]
          exact Nat.le_refl _
        rw [htake] at s1 s2 s3 s4
        refine ⟨by rw [kQ];exact l,fun t ht hs=>?_,fun t ht hs=>?_⟩
        · have nx:Rch os (t:Int) (os.getD t 0):=⟨1,by show os.getD ((t:Int)).toNat 0=_;rw [Int.toNat_natCast]⟩
          have gb:=h.getD ht
          rcases qp.succ.mp hs with z | z
          · have hnot : (os.getD t 0).toNat ∉ (itl os (i : Int) M).map Int.toNat := fun hm => by
              have r:=(hmem _).mp hm
              rw [Int.toNat_of_nonneg gb.1] at r
              obtain ⟨q,hq,rq⟩:=z
              exact qp.apart h (by omega) hns r ⟨q,hq,rq.trans nx⟩
            rw [s4 _ hnot]
            exact ih1 t ht z
          · obtain ⟨k,hk,ek⟩:=qw.mp ((Rch.mem_ring hM).mp z)
            have enx:os.getD t 0=itn os (k+1) (i:Int):=by
              show _=nxt os (itn os k (i:Int))
              rw [ek]
              show _=os.getD ((t:Int)).toNat 0
              rw [Int.toNat_natCast]
            rw [enx]
            by_cases hlast:k+1=M
            · rw [hlast,hM.2.1]
              have:((i:Int)).toNat=((itl os (i:Int) M).map Int.toNat).getD 0 0:=by rw [cg 0 (by omega)];rfl
              rw [this,s1,cg (M - 1) (by omega),show M - 1=k by omega,ek]
              simp
            · have:=s2 (k+1) (by omega) (by omega)
              rw [cg (k+1) (by omega),show k+1 - 1=k by omega,cg k hk,ek] at this
              rw [this]
              simp
        · have hnot:t ∉ (itl os (i:Int) M).map Int.toNat:=fun hm=>hs (qp.succ.mpr (.inr ((hmem t).mp hm)))
          rw [s4 t hnot]
          exact ih2 t ht fun z=>hs (qp.succ.mpr (.inl z))
      · rw [if_neg (fun z=>hp z.2)]
        have hfix:os.getD i 0=(i:Int):=Classical.byContradiction fun z=>hp ((Z8 h (by omega)).mpr z)
        have hstay:∀ k,itn os k (i:Int)=(i:Int):=by
          intro k
          induction k with
          | zero=>rfl
          | succ k ih=>
            show nxt os (itn os k (i:Int))=_
            rw [ih]
            show os.getD ((i:Int)).toNat 0=_
            rw [Int.toNat_natCast,hfix]
        refine ⟨l,fun t ht hs=>?_,fun t ht hs=>ih2 t ht fun z=>hs (qp.succ.mpr (.inl z))⟩
        rcases qp.succ.mp hs with z | ⟨k,z⟩
        · exact ih1 t ht z
        · rw [hstay k] at z
          have:i=t:=by omega
          subst this
          rw [hfix,Int.toNat_natCast]
          exact ih2 i ht hns
    · rw [if_neg (fun z=>hL z.1)]
      have hs0:qp os i (i:Int):=Classical.byContradiction fun z=>hL (jS.mpr z)
      exact ⟨l,fun t ht hs=>ih1 t ht ((qp.step h (by omega) hs0).mp hs),fun t ht hs=>ih2 t ht fun z=>hs ((qp.step h (by omega) hs0).mpr z)⟩
theorem JZ {n:Nat}{os:List Int}(h:zj n os){t:Nat}(ht:t<n):(swR (zJ 0 1 n) (qy os n)).getD (os.getD t 0).toNat 0=(t:Int):=
 (yh h n (Nat.le_refl n)).2.1 t ht ⟨t,ht,Rch.refl⟩
noncomputable def XB:V->List V->Hp->VK->Prop:=fun x vs H Q=>∃ l ns i j,x=.ref l/\vs=[.int i]/\H l=some (il ns)/\j<ns.length/\ns.getD j 0=i/\(∀ m,m<j->ns.getD m 0 ≠ i)/\Q (.int (j:Nat)) H
section
variable {X:Cx}
theorem Am:MtR X "list.index" XB:=by
 intro pins s σ H x vs v us Q I rx rv h
 obtain ⟨l,ns,i,j,rfl,rfl,hH,hj,hji,hm,q⟩:=h
 cases rx
 obtain ⟨u,rfl,⟨t,rfl⟩⟩:=rv.one
 obtain ⟨z,its,n,r,hl,e⟩:=I.lstM hH
 have hlen:=r.length
 rw [List.length_map] at hlen
 have hsz:sizeLine<2 ^ 62:=by rw [sizeLine_eq];decide
 have item:∀ m (hmm:m<its.length),∃ tm,its[m]=Value.int (ns.getD m 0) tm:=fun m hmm=>by
  have e1:(ns.map V.int)[m]?=some (.int (ns.getD m 0)):=by
   rw [List.getElem?_map,List.getD_eq_getElem?_getD,List.getElem?_eq_getElem (by omega)];rfl
  obtain ⟨u,hu,⟨tm,ru⟩⟩:=r.get e1
  have:=(List.getElem?_eq_some_iff.mp hu).2
  exact ⟨tm,by rw [this];exact ru⟩
 have fl:(ns.map V.int).all Zt=true:=by
  rw [List.all_eq_true]
  intro x hx
  obtain ⟨k,_,rfl⟩:=List.mem_map.mp hx
  rfl
 refine call_meets F.slot_list_index ⟨_,e,rfl⟩ F.entry_list_index (F.args_list_index_2 _ _) (SeqAt.list_indexAt l its.toArray n none _ (.int i t) (eqU (.int i)) j (by rw [List.size_toArray];omega) (by omega) ?_ ?_) ⟨e,?_,?_⟩
 ·obtain ⟨tm,em⟩:=item j (by omega)
  rw [List.getElem_toArray,em,hji]
  show (i == i)=true
  simp
 ·intro m hmm hmj
  obtain ⟨tm,em⟩:=item m (by rw [List.size_toArray] at hmm;exact hmm)
  rw [List.getElem_toArray,em]
  show (ns.getD m 0 == i)=false
  simpa using hm m hmj
 ·intro y hy
  exact JY (x:=.int i) ⟨t,rfl⟩ rfl r fl y (by simpa using hy)
 ·exact ⟨.int (j:Nat),H,I.kept (t':=s.toks+1) fun b o e=>e,⟨_,rfl⟩,q⟩
variable {o e:Expr}{es:List Expr}{to:TE}{t:TA}{name:Str}{apos cpos:Pos}{T id:String}{r:V->List V->Hp->VK->Prop}{K:PySem.W.Frag}
theorem HC (hK:X.K=K)(pa:PlainAttrs T)(slot:Slot T name id)(hty:typeOf (.builtin id)=pure (.type "method_descriptor"))(hm:MtR X id r)(ho:PE X o to)(ha:PA X (e :: es) t)
  (h1:attributeBase o name X.env (eval o X.env)=eval o X.env:=by rfl)
  (h2:((backTo cpos (starEach (e :: es) X.env)).all (fun x=>!x.1) && (backToKw cpos (keywordEach [] X.env)).all (fun x=>x.1.isSome) && decide ((e :: es).length+([]:List Keyword).length+(if ([]:List Keyword).isEmpty then 0 else 1)<30))=true:=by rfl)
  (h3:(apos.endLine == cpos.line)=true:=by rfl) (h4:starEach (e :: es) X.env=(false,eval e X.env) :: starEach es X.env:=by rfl) (h5:(backTo cpos (starEach es X.env)).any (·.1)=false:=by rfl) :
  PE X (.Call (.Attribute o name apos) (e :: es) [] cpos) (tBM K T r to t):=by
 subst hK
 exact vt pa slot hty hm ho ha h1 h2 h3 h4 h5
end
section
variable {X:Cx}{tg:Expr}
end
inductive Dd where
 | take (p:Nat) | move (p g:Nat) | lay (g:Nat)
noncomputable abbrev RS:=List (Option Int) × Option Int × List Int
noncomputable def inc (mv:List Int)(x:Int):List Int:=mv.set x.toNat (mv.getD x.toNat 0+1)
inductive Do:Dd->RS->RS->Prop
 | take {p:Nat} {row:List (Option Int)} {mv:List Int} {x:Int}:row[p]?=some (some x)->Do (.take p) (row,none,mv) (row.set p none,some x,inc mv x)
 | move {p g:Nat} {row:List (Option Int)} {h:Option Int} {mv:List Int} {x:Int}:row[p]?=some (some x)->row[g]?=some none->Do (.move p g) (row,h,mv) ((row.set p none).set g (some x),h,inc mv x)
 | lay {g:Nat} {row:List (Option Int)} {mv:List Int} {x:Int}:row[g]?=some none->Do (.lay g) (row,some x,mv) (row.set g (some x),none,inc mv x)
inductive Dos:List Dd->RS->RS->Prop
 | nil {s:RS}:Dos [] s s
 | cons {d:Dd} {l:List Dd} {s t u:RS}:Do d s t->Dos l t u->Dos (d :: l) s u
theorem Dos.append {a b:List Dd}{s t u:RS}(h1:Dos a s t)(h2:Dos b t u):Dos (a ++ b) s u:=by
 induction h1 with
 | nil=>exact h2
 | cons d _ ih=>exact .cons d (ih h2)
noncomputable def mvP:Nat->List Nat->List Dd
 | _,[]=>[]
 | g,p :: ps=>.move p g :: mvP p ps
noncomputable def jb (c:List Nat):List Dd:=.take (c.getD 0 0) :: mvP (c.getD 0 0) (c.drop 1).reverse ++ [.lay ((c.drop 1).reverse.getLastD (c.getD 0 0))]
theorem GN:∀ (ps:List Nat) (g:Nat) (row:List (Option Int)) (h:Option Int) (mv:List Int),row[g]?=some none->(g :: ps).Nodup->(∀ p ∈ ps,row[p]?=some (some (p:Int))) ->
  ∃ row',Dos (mvP g ps) (row,h,mv) (row',h,ps.foldl (fun m (p:Nat)=>inc m (p:Int)) mv)/\row'.length=row.length/\row'[ps.getLastD g]?=some none/\(∀ (i p:Nat),ps[i]?=some p->row'[(g :: ps).getD i 0]?=some (some (p:Int)))/\∀ x,x ∉ g :: ps->row'[x]?=row[x]?
 | [],g,row,h,mv,hg,_,_=>⟨row,.nil,rfl,hg,fun i p e=>by simp at e,fun x _=>rfl⟩
 | p :: ps,g,row,h,mv,hg,nd,hp=>by
  have gl:g<row.length:=(List.getElem?_eq_some_iff.mp hg).1
  have hp0:=hp p (by simp)
  have pl:p<row.length:=(List.getElem?_eq_some_iff.mp hp0).1
  rw [List.nodup_cons] at nd
  obtain ⟨n1,n2⟩:=nd
  have ngp:g ≠ p:=fun z=>n1 (by rw [z];simp)
  have at1:∀ x,((row.set p none).set g (some (p:Int)))[x]?=if x=g then some (some (p:Int)) else if x=p then some none else row[x]?:=by
   intro x
   rw [List.getElem?_set,List.getElem?_set,List.length_set]
   by_cases e1:x=g
   ·subst e1;simp [gl]
   ·rw [if_neg (fun z=>e1 z.symm),if_neg e1]
    by_cases e2:x=p
    ·subst e2;simp [pl]
    ·rw [if_neg (fun z=>e2 z.symm),if_neg e2]
  obtain ⟨row',d,l,hl,hs,ho⟩:=GN ps p ((row.set p none).set g (some (p:Int))) h (inc mv (p:Int)) (by rw [at1,if_neg (fun z=>ngp z.symm),if_pos rfl]) n2 (fun q hq=>by
   rw [at1,if_neg (fun z=>n1 (by rw [<- z];simp [hq])),if_neg (fun z=>(List.nodup_cons.mp n2).1 (by rw [<- z];exact hq))]
   exact hp q (by simp [hq]))
  refine ⟨row',.cons (.move hp0 hg) d,by rw [l,List.length_set,List.length_set],?_,fun i q e=>?_,fun x hx=>?_⟩
  ·rw [show (p :: ps).getLastD g=ps.getLastD p by simp [List.getLastD_eq_getLast?,List.getLast?_cons]];exact hl
  ·cases i with
   | zero=>
    have:p=q:=by simpa using e
    subst this
    show row'[g]?=_
    rw [ho g n1,at1,if_pos rfl]
   | succ i=>exact hs i q (by simpa using e)
  ·have hx1:x ≠ g:=fun z=>hx (by simp [z])
   have hx2:x ∉ p :: ps:=fun z=>hx (List.mem_cons_of_mem _ z)
   rw [ho x hx2,at1,if_neg hx1,if_neg (fun z=>hx2 (by simp [z]))]
noncomputable def ZJ (c:List Nat)(mv:List Int):List Int:=inc ((c.drop 1).reverse.foldl (fun m (p:Nat)=>inc m (p:Int)) (inc mv ((c.getD 0 0:Nat):Int))) ((c.getD 0 0:Nat):Int)
theorem EG {R:List Int}{c:List Nat}{mv:List Int}(nd:c.Nodup)(hc:2<=c.length)(hb:∀ x ∈ c,x<R.length)(h0:∀ x ∈ c,R.getD x 0=(x:Int)) :
  Dos (jb c) (R.map some,none,mv) ((swR R (zQ c)).map some,none,ZJ c mv):=by
 obtain ⟨c0,ct,rfl⟩:∃ c0 ct,c=c0 :: ct:=by
  cases c with
  | nil=>simp at hc
  | cons a b=>exact ⟨a,b,rfl⟩
 have hat:∀ x ∈ c0 :: ct,(R.map some)[x]?=some (some (x:Int)):=fun x hx=>by
  rw [List.getElem?_map,List.getElem?_eq_getElem (hb x hx),<- h0 x hx,zU (hb x hx)];rfl
 have l0:c0<R.length:=hb c0 (by simp)
 have nd':=List.nodup_cons.mp nd
 have hrow:((R.map some).set c0 none)[c0]?=some none:=by rw [List.getElem?_set,List.length_map];simp [l0]
 obtain ⟨row',d,l,hl,hs,ho⟩:=GN ct.reverse c0 ((R.map some).set c0 none) (some (c0:Int)) (inc mv (c0:Int)) hrow
  (List.nodup_cons.mpr ⟨by simpa using nd'.1,(by have h:=nd'.2;rw [List.nodup_iff_pairwise_ne] at h ⊢;rw [List.pairwise_reverse];exact h.imp fun z=>z.symm)⟩) (fun p hp=>by
   have hp':p ∈ ct:=by simpa using hp
   rw [List.getElem?_set,if_neg (fun z=>nd'.1 (by rw [z];exact hp'))]
   exact hat p (by simp [hp']))
 have hct:1<=ct.length:=by simpa using hc
 rw [List.length_set,List.length_map] at l
 have last:ct.reverse.getLastD c0=ct.getD 0 0:=by
  cases ct with
  | nil=>simp at hct
  | cons a b=>simp [List.getLastD_eq_getLast?]
 have hl':=hl
 rw [last] at hl
 have e:row'.set (ct.getD 0 0) (some (c0:Int))=(swR R (zQ (c0 :: ct))).map some:=by
  obtain ⟨s1,s2,s3,s4⟩:=vd (row:=R) nd hb h0 (by omega) ((c0 :: ct).length - 1) (by simp)
  have htake:(zQ (c0 :: ct)).take ((c0 :: ct).length - 1)=zQ (c0 :: ct):=by
   rw [List.take_of_length_le]
   unfold zQ
   rw [List.length_map,List.length_drop]
   exact Nat.le_refl _
  rw [htake] at s1 s2 s4
  have lsw:=kQ (zQ (c0 :: ct)) R
  have l1:ct.getD 0 0<row'.length:=by rw [l];exact hb _ (by rw [List.getD_eq_getElem?_getD,List.getElem?_eq_getElem hct];simp)
  refine List.ext_getElem? fun x=>?_
  rw [List.getElem?_set,List.getElem?_map]
  by_cases hx:x<R.length
  ·have ex:(swR R (zQ (c0 :: ct)))[x]?=some ((swR R (zQ (c0 :: ct))).getD x 0):=by rw [List.getD_eq_getElem?_getD,List.getElem?_eq_getElem (by omega)];rfl
   rw [ex]
   show _=some (some _)
   by_cases hm:x ∈ c0 :: ct
   ·obtain ⟨k,hk,ek⟩:=List.mem_iff_getElem.mp hm
    have gd:∀ i (hi:i<(c0 :: ct).length),(c0 :: ct).getD i 0=(c0 :: ct)[i]:=fun i hi=>by rw [List.getD_eq_getElem?_getD,List.getElem?_eq_getElem hi];rfl
    rcases k with _ | _ | k
    ·have ek:c0=x:=ek
     subst ek
     have ne:ct.getD 0 0 ≠ c0:=fun z=>nd'.1 (by rw [<- z,List.getD_eq_getElem?_getD,List.getElem?_eq_getElem hct];simp)
     rw [if_neg ne]
     have:=hs 0 (ct.getD (ct.length - 1) 0) (by rw [List.getElem?_reverse (by omega),List.getD_eq_getElem?_getD,show ct.length - 1 - 0=ct.length - 1 by omega,List.getElem?_eq_getElem (by omega)];rfl)
     rw [show (c0 :: ct.reverse).getD 0 0=c0 from rfl] at this
     rw [this]
     have s1':(swR R (zQ (c0 :: ct))).getD c0 0=_:=s1
     rw [s1',gd _ (by simp)]
     simp only [List.length_cons,Nat.add_sub_cancel]
     rw [List.getD_eq_getElem?_getD,List.getElem?_eq_getElem (by omega)]
     obtain ⟨m,hm'⟩:∃ m,ct.length=m+1:=⟨ct.length - 1,by omega⟩
     simp [hm']
    ·have ek:ct[0]=x:=ek
     have e0:ct.getD 0 0=x:=by rw [List.getD_eq_getElem?_getD,List.getElem?_eq_getElem hct];exact ek
     rw [if_pos e0,if_pos l1]
     have:=s2 1 (Nat.le_refl 1) (by simp;omega)
     rw [gd 1 (by simpa using hk)] at this
     rw [show x=(c0 :: ct)[1] from ek.symm,this]
     rfl
    ·have hk':k+1<ct.length:=by simpa using hk
     have ek:ct[k+1]=x:=ek
     have ne:ct.getD 0 0 ≠ x:=fun z=>by
      rw [List.getD_eq_getElem?_getD,List.getElem?_eq_getElem hct,<- ek] at z
      have:=(List.getElem_inj nd'.2).mp (show ct[0]=ct[k+1] from z)
      omega
     rw [if_neg ne]
     have hi1:ct.length - 1 - (k+1)<ct.reverse.length:=by rw [List.length_reverse];omega
     have:=hs (ct.length - 1 - k) (ct.getD k 0) (by rw [List.getElem?_reverse (by omega),List.getD_eq_getElem?_getD,show ct.length - 1 - (ct.length - 1 - k)=k by omega,List.getElem?_eq_getElem (by omega)];rfl)
     rw [show (c0 :: ct.reverse).getD (ct.length - 1 - k) 0=x by
      rw [show ct.length - 1 - k=(ct.length - 1 - (k+1))+1 by omega,List.getD_eq_getElem?_getD,List.getElem?_cons_succ,List.getElem?_reverse (by omega),show ct.length - 1 - (ct.length - 1 - (k+1))=k+1 by omega,List.getElem?_eq_getElem hk']
      exact ek] at this
     rw [this]
     have s2':=s2 (k+2) (by omega) (by simp;omega)
     rw [gd (k+2) hk,show (c0 :: ct)[k+2]=x from ek] at s2'
     rw [s2',show k+2 - 1=k+1 by omega,gd (k+1) (by simp;omega),List.getD_eq_getElem?_getD,List.getElem?_eq_getElem (by omega)]
     rfl
   ·rw [s4 x hm]
    have hm2:x ∉ c0 :: ct.reverse:=fun z=>hm (by simpa using z)
    have ne:ct.getD 0 0 ≠ x:=fun z=>hm (by rw [<- z,List.getD_eq_getElem?_getD,List.getElem?_eq_getElem hct];simp)
    rw [if_neg ne,ho x hm2,List.getElem?_set,if_neg (fun z=>hm (by simp [z])),List.getElem?_map,zU hx,List.getElem?_eq_getElem hx]
    rfl
  ·have ne:ct.getD 0 0 ≠ x:=fun z=>by omega
   rw [if_neg ne,List.getElem?_eq_none (by omega),List.getElem?_eq_none (by omega)]
   rfl
 refine .cons (.take (hat c0 (by simp))) (Dos.append d (.cons (.lay hl') ?_))
 show Dos [] (row'.set (ct.reverse.getLastD c0) (some (c0:Int)),none,ZJ (c0 :: ct) mv) _
 rw [last,e]
 exact .nil
noncomputable def xX (os:List Int)(i:Nat)(mv:List Int):List Int:=(zk os i).foldl (fun m r=>ZJ (r.map Int.toNat) m) mv
noncomputable def qV (os:List Int)(i:Nat):List Dd:=((zk os i).map fun r=>jb (r.map Int.toNat)).flatten
open Classical in
theorem Kr {n:Nat}{os:List Int}(h:zj n os)(mv:List Int):∀ i,i<=n->Dos (qV os i) ((zJ 0 1 n).map some,none,mv) ((swR (zJ 0 1 n) (qy os i)).map some,none,xX os i mv)
 | 0,_=>.nil
 | i+1,hi=>by
  have d1:=Kr h mv i (by omega)
  obtain ⟨l,ih1,ih2⟩:=yh h i (by omega)
  obtain ⟨M,hM,hMn⟩:=ja h (p:=(i:Int)) (by omega) (by omega)
  have hst:qy os (i+1)=qy os i ++ (((if j3 os i/\1<per os (i:Int) then [zG os (i:Int)] else []).map fun r=>zQ (r.map Int.toNat)).flatten):=by
   unfold qy
   show ((zk os i ++ _).map _).flatten=_
   rw [List.map_append,List.flatten_append]
  have hrp:qV os (i+1)=qV os i ++ (((if j3 os i/\1<per os (i:Int) then [zG os (i:Int)] else []).map fun r=>jb (r.map Int.toNat)).flatten):=by
   unfold qV
   show ((zk os i ++ _).map _).flatten=_
   rw [List.map_append,List.flatten_append]
  have hrm:xX os (i+1) mv=(if j3 os i/\1<per os (i:Int) then [zG os (i:Int)] else []).foldl (fun m r=>ZJ (r.map Int.toNat) m) (xX os i mv):=by
   unfold xX
   show (zk os i ++ _).foldl _ _=_
   rw [List.foldl_append]
  rw [hst,hrp,hrm,QP]
  by_cases hL:j3 os i/\1<per os (i:Int)
  ·rw [if_pos hL]
   have hns:=jS.mp hL.1
   have hM2:1<M:=by rw [<- hM.per];exact hL.2
   have e1:([zG os (i:Int)].map fun r=>zQ (r.map Int.toNat)).flatten=zQ ((itl os (i:Int) M).map Int.toNat):=by
    unfold zG
    rw [hM.per]
    simp
   have e2:([zG os (i:Int)].map fun r=>jb (r.map Int.toNat)).flatten=jb ((itl os (i:Int) M).map Int.toNat):=by
    unfold zG
    rw [hM.per]
    simp
   have e3:[zG os (i:Int)].foldl (fun m r=>ZJ (r.map Int.toNat) m) (xX os i mv)=ZJ ((itl os (i:Int) M).map Int.toNat) (xX os i mv):=by
    unfold zG
    rw [hM.per]
    rfl
   rw [e1,e2,e3]
   have hcl:((itl os (i:Int) M).map Int.toNat).length=M:=by rw [List.length_map,qz]
   have bd:∀ k,0<=itn os k (i:Int)/\itn os k (i:Int)<n:=fun k=>qU h (by omega) (by omega) k
   have hnd:((itl os (i:Int) M).map Int.toNat).Nodup:=by
    rw [List.nodup_iff_pairwise_ne,List.pairwise_map]
    refine List.Pairwise.imp_of_mem (fun {a b} ha hb hab e=>?_) (List.nodup_iff_pairwise_ne.mp (kl h (p:=(i:Int)) (by omega) (by omega) hM))
    obtain ⟨k1,_,e1⟩:=qw.mp ha
    obtain ⟨k2,_,e2⟩:=qw.mp hb
    have b1:=bd k1
    have b2:=bd k2
    exact hab (by omega)
   have hfree:∀ x ∈ (itl os (i:Int) M).map Int.toNat,x<n/\(swR (zJ 0 1 n) (qy os i)).getD x 0=(x:Int):=fun x hx=>by
    obtain ⟨y,hy,e⟩:=List.mem_map.mp hx
    obtain ⟨k,hk,ek⟩:=qw.mp hy
    have:=bd k
    have hxn:x<n:=by omega
    exact ⟨hxn,ih2 x hxn (qp.apart h (by omega) hns ⟨k,by omega⟩)⟩
   have d2:=EG (R:=swR (zJ 0 1 n) (qy os i)) (mv:=xX os i mv) hnd (by omega) (fun x hx=>by rw [l];exact (hfree x hx).1) (fun x hx=>(hfree x hx).2)
   exact d1.append d2
  ·rw [if_neg hL]
   exact d1.append .nil
section
variable {X:Cx}{K:PySem.W.Frag}
end
section
variable {X:Cx}
end
section
variable {X:Cx}
end
section
variable {X:Cx}{e st:Expr}{te:TE}{ts:TO}{p2 pos:Pos}
end
section
variable {X:Cx}
end
noncomputable def AtM (K:PySem.W.Frag)(C:Addr)(m qual:Str)(st:Stmt):Prop:=∃ f fd,Fun K m qual st f fd/\VU K C m f
noncomputable def Dm (P:Program)(w:World)(K:PySem.W.Frag)(mg:Str->Option Value)(base:Heap)(C:Addr)(m:Str)(ps:List Str)(k:Nat)(sp:Sp):Prop:=
 ∃ f fd,jH P w K mg base CX0 k f fd ps sp/\j4 K fd ps []/\VU K C m f
theorem Dm.mono {P:Program}{w:World}{K:PySem.W.Frag}{mg:Str->Option Value}{base:Heap}{C:Addr}{m:Str}{ps:List Str}{j k:Nat}{sp:Sp}(D:Dm P w K mg base C m ps j sp)(h:j<=k):Dm P w K mg base C m ps k sp:=
 let ⟨f,fd,F,r⟩:=D
 ⟨f,fd,F.mono h,r⟩
theorem kf {P:Program}{w:World}{K:PySem.W.Frag}{mg:Str->Option Value}{base:Heap}{C:Addr}{m qual:Str}{st:Stmt}{N ps:List Str}{k:Nat}{sp:Sp}(a:AtM K C m qual st)(S:zo N ps (zg st))
  (hb:∀ (kV doc pm:Value) (an:Option Addr) (cdv ct:Value) (us:List Value),us.length=ps.length->bindArgs (PySem.W.fnOf m qual (jc st) (qr st) (zg st) .none kV doc pm an cdv ct) ⟨us,[]⟩=pure (ps.zip us))
  (len:∀ vs H Q E,sp vs H Q E->vs.length=ps.length)
  (hbody:∀ (f:Addr) (cdv:Value) (A:Around) (outer:List Env) (s:Shared) (H:Hp) (vs:List V) (Q:VK) (E:XK),qJ k (A.deeper (envOfC qual (zg st) s.heap.objs.size f cdv))->sp vs H Q E ->
   ∃ t,PSs (ym CX0 P w K mg base N qual (zg st) f cdv A outer s H E).nox (qr st) t/\t { nx:=fun _ H'=>Q .non H',rt:=Q } (start N vs) H):Dm P w K mg base C m ps (k+1) sp:=by
 obtain ⟨f,fd,F,mt⟩:=a
 exact ⟨f,fd,F.ok S len fun cdv A outer s H vs Q E=>hbody f cdv A outer s H vs Q E,F.binds hb,mt⟩
section
variable {X:Cx}{k:Nat}{C:Addr}{m x:Str}{ps:List Str}{sp:Sp}{p pos apos:Pos}{o e:Expr}{es:List Expr}{t:TA}{to:TE}
theorem v9 {pl:Sem Bool}(c:Cls X.K C)(D:Dm X.prog X.w X.K X.mg X.base C m ps k sp)(hr:qJ k X.A)(ho:PE X o to)(ha:PA X (e :: es) t)
  (hst:starEach (e :: es) X.env=(false,eval e X.env) :: starEach es X.env:=by rfl) (hpl:(backTo pos (starEach es X.env)).any (·.1)=false:=by rfl)
  (ht:eval (.Call (.Attribute o m apos) (e :: es) [] pos) X.env=(do
   let ov <- eval o X.env
   standAt apos.atName
   let (f,first) <- holding [ov] (getMethod ov m pl)
   callWith pos f first (backTo pos (starEach (e :: es) X.env)) (backToKw pos (keywordEach [] X.env))):=by rfl) :
  PE X (.Call (.Attribute o m apos) (e :: es) [] pos) (JP C m sp [] E0 to t):=by
 obtain ⟨f,fd,F,b,mt⟩:=D
 exact Fa ho c mt F hr b .nil Vh ha hst hpl ht
theorem K6 {pl:Sem Bool}(c:Cls X.K C)(D:Dm X.prog X.w X.K X.mg X.base C m ps k sp)(hr:qJ k X.A)(ho:PE X o to)
  (ht:eval (.Call (.Attribute o m apos) [] [] pos) X.env=(do
   let ov <- eval o X.env
   standAt apos.atName
   let (f,first) <- holding [ov] (getMethod ov m pl)
   callWith pos f first (backTo pos (starEach [] X.env)) (backToKw pos (keywordEach [] X.env))):=by rfl) :
  PE X (.Call (.Attribute o m apos) [] [] pos) (JP C m sp [] E0 to AN):=by
 obtain ⟨f,fd,F,b,mt⟩:=D
 exact B3 ho c mt F hr b .nil Vh ht
noncomputable def Mkr (P:Program)(w:World)(K:PySem.W.Frag)(mg:Str->Option Value)(base:Heap)(x:Str)(C:Addr)(ps:List Str)(k:Nat)(sp:Sp):Prop:=
 ∃ f fd,jH P w K mg base CX0 k f fd ps sp/\j4 K fd ps []/\Mk K C f/\mg x=some (.ref C)
theorem Mx (D:Mkr X.prog X.w X.K X.mg X.base x C ps k sp)(hr:qJ (k+1) X.A)(hg:Gl X x)(ha:PA X (e :: es) t)(hdb:(x == ("__debug__":Str))=false:=by decide)
  (he:starEach (e :: es) X.env=(false,eval e X.env) :: starEach es X.env:=by rfl) (hpl:(backTo pos (starEach es X.env)).any (·.1)=false:=by rfl):PE X (.Call (.Name x p) (e :: es) [] pos) (A5 C sp [] E0 t):=by
 obtain ⟨f,fd,F,b,M,hm⟩:=D
 exact FK M F hr hg hm b .nil Vh ha hdb he hpl
end
structure KD (K:PySem.W.Frag)(w:World)(a:Addr)(kvs:List (Key × V)):Prop where
 ex:∃ es ep,K.lookup a=some ⟨.type "dict",none,.dict es ep,#[]⟩/\∀ P:Program,PySem.KeysOf (jG P w) es/\∃ vs,KV kvs vs/\Pairs (jG P w) es.toList vs/\(vs.map (·.1)).Nodup
 ns:(a == sysModules)=false
theorem KD.at {X:Cx}{pins:List (Addr × Obj)}{σ:St}{H:Hp}{s:Shared}{a:Addr}{kvs:List (Key × V)}(d:KD X.K X.w a kvs)(I:Inv X pins σ H s):∃ vs,KV kvs vs/\s.heap.DictOf (jG X.prog X.w) a vs:=by
 obtain ⟨es,ep,hl,h⟩:=d.ex
 obtain ⟨h1,vs,r,h2,h3⟩:=h X.prog
 exact ⟨vs,r,_,es,ep,I.kIn a _ hl,⟨rfl,rfl,rfl⟩,rfl,h1,h2,h3⟩
noncomputable def GG (kvs:List (Key × V))(ty:TE):TE:=fun σ H Q=>ty σ H fun y H2=>∃ k,y=kV k/\Q ((yJ kvs k).getD .non) H2
section
variable {X:Cx}{e:Expr}{ty:TE}{p apos cpos:Pos}{x:Str}{a:Addr}{kvs:List (Key × V)}
theorem FV (d:KD X.K X.w a kvs)(hg:Gl X x)(hm:X.mg x=some (.ref a))(he:PE X e ty)(m:M1 X (.Name x p) "get" apos e cpos)(hdb:(x == ("__debug__":Str))=false:=by decide):PE X (.Call (.Attribute (.Name x p) "get" apos) [e] [] cpos) (GG kvs ty):=by
 intro pins s σ H Q I h
 refine wpAny_Call_method m.base m.few m.line PySem.F.plainAttrs_dict PySem.F.slot_dict_get PySem.F.type_dict_get (yC I hg hm ?_ hdb)
 obtain ⟨vs0,_,dd0⟩:=d.at I
 refine ⟨dd0.typeIs,fun b q=>?_,?_⟩
 ·cases q
  obtain ⟨ob,_,_,h1,h2,_⟩:=dd0
  exact ⟨ob,h1,h2.2.1⟩
 rw [m.trees]
 refine Calls.callWith_builtin rfl (Calls.evalArgs_plain (Calls.spliced_cons (thn (he pins s σ H _ I h) fun iv s2 ⟨y,H2,I2,ry,k,ey,q2⟩=>Calls.spliced_nil ?_)))
 subst ey
 obtain ⟨vs,rel,dd⟩:=d.at I2
 refine call_meetsIn PySem.F.slot_dict_get dd.typeIs PySem.F.entry_dict_get (PySem.F.args_dict_get_2 _ _) (meets_dict_get (jG X.prog X.w) a (LU ry) d.ns) ⟨_,dd.mapOf,?_⟩
 refine ⟨(yJ kvs k).getD .non,H2,I2.tok _,?_,q2⟩
 exact (rel.val k).getD rfl
end
section
variable {X:Cx}
theorem xJ:Mw X (Lp X.K):=by
  intro pins s σ H x y v u Q I rx ry h
  obtain ⟨p,xs,i,z,rfl,rfl,hq,he,q⟩:=h
  cases rx
  obtain ⟨t,rfl⟩:=ry
  obtain ⟨its,r,pl,hz⟩:=I.list hq
  obtain ⟨j,h1,h2,h3,h4,h5⟩:=Qg he
  obtain ⟨w,ew,rw'⟩:=r.get h2
  have hl:=r.length
  have hn:=yY
  have fin:EP X pins σ Q w s:=⟨z,H,I,rw',q⟩
  by_cases h0:0<=i
  · have hj : i.toNat = j := by
      rw [seqIndex_of h0 h5] at h1
      exact Option.some.inj h1
    exact wpAny_getItem_list pl.isList h0 (by omega) (by rw [hj];simpa using ew) fin
  · have hj : (i + (its.toArray.size : Int)).toNat = j := by
      rw [seqIndex_neg (by omega) h4] at h1
      rw [List.size_toArray,<- hl]
      exact Option.some.inj h1
    exact wpAny_getItem_list_neg pl.isList (by omega) (by rw [List.size_toArray] <;> omega) (by omega) (by rw [hj];simpa using ew) fin
end
theorem atm_mk {K:PySem.W.Frag}{C f:Addr}{m qual:Str}{st:Stmt}{oc kV dc pm cd ct:Value}{od an:Option Addr}{sl:Array (Option Value)}(a1:PySem.W.findIn K (.ref C) m=some (some (.ref f)))(i1:PySem.W.isFn K (.ref f)=true)
  (l1:K.lookup f=some ⟨oc,od,.func (PySem.W.fnOf m qual (jc st) (qr st) (zg st) .none kV dc pm an cd ct),sl⟩) (c1:PySem.W.codeIn K cd qual=true) (k1:PySem.W.keepIn K (.ref f)=true):AtM K C m qual st:=⟨f,_,By l1 c1 k1,⟨a1,i1,k1⟩⟩
section
variable {X:Cx}
theorem Fs {body:List Stmt}{h₀:ExceptHandler}{hs:List ExceptHandler}{pos:Pos}{t:TS}(hx:∀ e s,X.xe e s->False)(hb:PSs X body t):PS X (.Try body (h₀ :: hs) [] [] pos) t:=by
 intro pins s σ H D I h
 refine wpAny_Try_except (wpAny_mono (hb pins s σ H D I h) (fun f s1 q=>?_) fun e s1 q=>(hx _ _ q).elim)
 cases f with
 | next=>exact wpAny_execs_nil q
 | brk=>exact q
 | cont=>exact q
 | ret u=>exact q
end
structure ScG (X:Cx)(ts:List Nat)(scope:Scope):Prop where
 kind:scope.kind=.function
 cell:∀ y ∈ scope.names,y.2=.cell->scope.names.lookup y.1=some .cell
 loc:∀ y ∈ scope.names,y.2=.local->scope.names.lookup y.1=some .local
 free:∀ y ∈ scope.names,y.2=.free->X.env.kindOf y.1=some .cell \/ X.env.kindOf y.1=some .free
 ts:∀ (i:Nat) x,X.N[i]?=some x->scope.names.lookup x=some .local \/ scope.names.lookup x=some .cell->i ∈ ts
section
variable {X:Cx}{ts:List Nat}{scope:Scope}{pins:List (Addr × Obj)}{σ:St}{H:Hp}{s:Shared}{fp:List Addr}
end
section
variable {X:Cx}{ts:List Nat}{scope:Scope}{tg iter elt:Expr}{ifs:List Expr}{wi:TI}{g:TG}{tt:TT}{te:TE}{pos:Pos}
end
section
variable {X:Cx}
end
inductive Dat where
 | non | bl (b:Bool) | int (i:Int) | str (x:Str) | ty (n:String) | lst (l:List Dat) | tup (l:List Dat) | rng (lo hi c:Int) | scr (K:PySem.W.Frag) (l:List Int)
inductive AV where
 | d (x:Dat) | ref (a:Addr)
inductive MO where
 | lst (l:List AV) | dK (kvs:List (Key × AV)) | ins (C:Addr) (fs:List (Str × AV)) | exc (C:Addr) (fs:List (Str × V))
noncomputable def M8 (a C:Addr)(d:Option Addr):HO:=.ext fun h=>∃ o,h.get? a=some o/\o.cls=.ref C/\o.dict=d/\∃ vs,o.data=.fields vs
noncomputable abbrev MH:=Addr->Option MO
noncomputable abbrev ASt:=List (Option AV)
noncomputable def mup (M:MH)(a:Addr)(o:MO):MH:=fun b=>if b=a then some o else M b
noncomputable def mdel (M:MH)(a:Addr):MH:=fun b=>if b=a then none else M b
theorem zl {M:MH}{a:Addr}{o:MO}:mup M a o a=some o:=if_pos rfl
theorem zL {M:MH}{a b:Addr}{o:MO}(h:b ≠ a):mup M a o b=M b:=if_neg h
theorem vc {M:MH}{a:Addr}:mdel M a a=none:=if_pos rfl
theorem jK {M:MH}{a b:Addr}(h:b ≠ a):mdel M a b=M b:=if_neg h
theorem xL {M:MH}{a:Addr}{o u:MO}:mup (mup M a o) a u=mup M a u:=by
 funext b;unfold mup;split <;> rfl
noncomputable abbrev Own:=Addr->Prop
inductive Rep (H:Hp) (O:Own):V->Dat->Prop
 | non:Rep H O .non .non
 | bl {b:Bool}:Rep H O (.bl b) (.bl b)
 | int {i:Int}:Rep H O (.int i) (.int i)
 | str {x:Str}:Rep H O (.str x) (.str x)
 | ty {n:String}:Rep H O (.ty n) (.ty n)
 | lst {a:Addr} {xs:List V} {l:List Dat}:¬ O a->H a=some (.lst xs)->xs.length=l.length->(∀ (i:Nat) x d,xs[i]?=some x->l[i]?=some d->Rep H O x d)->Rep H O (.ref a) (.lst l)
 | tup {a:Addr} {xs:List V} {l:List Dat}:¬ O a->H a=some (.tup xs)->xs.length=l.length->(∀ (i:Nat) x d,xs[i]?=some x->l[i]?=some d->Rep H O x d)->Rep H O (.ref a) (.tup l)
 | rng {a:Addr} {lo hi c:Int}:¬ O a->H a=some (jN a lo hi c)->Rep H O (.ref a) (.rng lo hi c)
 | scr {a:Addr} {K:PySem.W.Frag} {l:List Int}:¬ O a->Rd H a (.lst (l.map V.int))->Rep H O (.ref a) (.scr K l)
 | scrK {a:Addr} {K:PySem.W.Frag} {l:List Int}:SqL K (fun _=>none) a (l.map V.int)->Rep H O (.ref a) (.scr K l)
noncomputable def Wk (H:Hp)(O:Own)(xs:List V)(l:List Dat):Prop:=xs.length=l.length/\∀ (i:Nat) x d,xs[i]?=some x->l[i]?=some d->Rep H O x d
noncomputable def zD (H:Hp)(O:Own)(M:MH)(v:V):AV->Prop
 | .d x=>Rep H O v x
 | .ref a=>v=.ref a/\M a ≠ none
noncomputable def zi (H:Hp)(O:Own)(M:MH)(xs:List V)(l:List AV):Prop:=xs.length=l.length/\∀ (i:Nat) x d,xs[i]?=some x->l[i]?=some d->zD H O M x d
noncomputable def Ky {κ:Type}(H:Hp)(O:Own)(M:MH)(xs:List (κ × V))(l:List (κ × AV)):Prop:=xs.map (·.1)=l.map (·.1)/\zi H O M (xs.map (·.2)) (l.map (·.2))
noncomputable def jD (H:Hp)(O:Own)(M:MH)(a:Addr):MO->Prop
 | .lst l=>∃ xs,H a=some (.lst xs)/\zi H O M xs l
 | .dK kvs=>∃ xs,H a=some (.dK xs)/\Ky H O M xs kvs
 | .ins C fs=>∃ dx xs,H a=some (.ins C dx xs)/\Ky H O M xs fs/\O dx/\M dx=none/\H dx=some (.own a)
 | .exc C fs=>∃ d,H a=some (M8 a C d)/\(d=none/\fs=[] \/ ∃ dx,d=some dx/\H dx=some (.xd fs)/\O dx/\M dx=none)
structure Wf (H:Hp)(O:Own)(M:MH):Prop where
 mo:∀ a o,M a=some o->jD H O M a o
 own:∀ a,M a ≠ none->O a
 al:∀ a,O a->∃ o,H a=some o/\∀ xs,o ≠ .tup xs
theorem Wf.ne {H:Hp}{O:Own}{M:MH}(w:Wf H O M)(a:Addr)(h:O a):H a ≠ none:=by obtain ⟨o,e,_⟩:=w.al a h;rw [e];exact fun z=>nomatch z
structure Ext (H:Hp)(O:Own)(M:MH)(H':Hp)(O':Own)(M':MH):Prop where
 fix:∀ a o,¬ O a->H a=some o->H' a=some o/\¬ O' a
 prv:∀ a,O a->M a=none->H' a=H a/\O' a/\M' a=none
 mst:∀ a,M a ≠ none->M' a ≠ none
theorem Ext.refl {H:Hp}{O:Own}{M:MH}:Ext H O M H O M:=⟨fun _ _ h e=>⟨e,h⟩,fun _ h e=>⟨rfl,h,e⟩,fun _ h=>h⟩
theorem Ext.trans {H H1 H2:Hp}{O O1 O2:Own}{M M1 M2:MH}(a:Ext H O M H1 O1 M1)(b:Ext H1 O1 M1 H2 O2 M2):Ext H O M H2 O2 M2:=
 ⟨fun x o h e=>let ⟨e1,h1⟩:=a.fix x o h e;b.fix x o h1 e1,fun x h e=>by
  obtain ⟨e1,h1,n1⟩:=a.prv x h e
  obtain ⟨e2,h2,n2⟩:=b.prv x h1 n1
  exact ⟨e2.trans e1,h2,n2⟩,fun x h=>b.mst x (a.mst x h)⟩
theorem Rep.imp {H H':Hp}{O O':Own}(k:∀ a o,¬ O a->H a=some o->H' a=some o/\¬ O' a){v:V}{d:Dat}(r:Rep H O v d):Rep H' O' v d:=by
 induction r with
 | non=>exact .non
 | bl=>exact .bl
 | int=>exact .int
 | str=>exact .str
 | ty=>exact .ty
 | lst h e l _ ih=>exact .lst (k _ _ h e).2 (k _ _ h e).1 l ih
 | tup h e l _ ih=>exact .tup (k _ _ h e).2 (k _ _ h e).1 l ih
 | rng h e=>exact .rng (k _ _ h e).2 (k _ _ h e).1
 | scr h e=>
  rcases e with e | ⟨o,e⟩
  ·exact .scr (k _ _ h e).2 (.inl (k _ _ h e).1)
  ·exact .scr (k _ _ h e).2 (.inr ⟨o,(k _ _ h e).1⟩)
 | scrK h=>exact .scrK h
theorem FP {H:Hp}{O:Own}{K:PySem.W.Frag}{v:V}{l:List Int}(r:Rep H O v (.scr K l)):∃ a,v=.ref a/\SqL K H a (l.map V.int):=by
 cases r with
 | @scr a _ _ _ h=>exact ⟨a,rfl,.inl h⟩
 | @scrK a _ _ h=>
  rcases h with (h | ⟨o,h⟩) | h
  ·cases h
  ·cases h
  ·exact ⟨a,rfl,.inr h⟩
theorem Ew {H:Hp}{O:Own}{K:PySem.W.Frag}{a:Addr}{l:List Int}(ho:∀ a,¬ O a)(h:SqL K H a (l.map V.int)):Rep H O (.ref a) (.scr K l):=by
 rcases h with h | h
 ·exact .scr (ho a) h
 ·exact .scrK (.inr h)
theorem Rep.ext {H H':Hp}{O O':Own}{M M':MH}(k:Ext H O M H' O' M'){v:V}{d:Dat}(r:Rep H O v d):Rep H' O' v d:=r.imp k.fix
theorem zD.ext {H H':Hp}{O O':Own}{M M':MH}(k:Ext H O M H' O' M'){v:V}{x:AV}(r:zD H O M v x):zD H' O' M' v x:=by
 cases x with
 | d x=>exact Rep.ext k r
 | ref a=>exact ⟨r.1,k.mst a r.2⟩
theorem zi.ext {H H':Hp}{O O':Own}{M M':MH}(k:Ext H O M H' O' M'){xs:List V}{l:List AV}(r:zi H O M xs l):zi H' O' M' xs l:=⟨r.1,fun i x d e1 e2=>(r.2 i x d e1 e2).ext k⟩
theorem Ky.ext {κ:Type}{H H':Hp}{O O':Own}{M M':MH}(k:Ext H O M H' O' M'){xs:List (κ × V)}{l:List (κ × AV)}(r:Ky H O M xs l):Ky H' O' M' xs l:=⟨r.1,r.2.ext k⟩
theorem zi.nil {H:Hp}{O:Own}{M:MH}:zi H O M [] []:=⟨rfl,fun i x d e=>by simp at e⟩
theorem zi.cons {H:Hp}{O:Own}{M:MH}{x:V}{d:AV}{xs:List V}{l:List AV}(h:zD H O M x d)(r:zi H O M xs l):zi H O M (x :: xs) (d :: l):=
 ⟨by simp [r.1],fun i y e h1 h2=>by
  cases i with
  | zero=>simp at h1 h2;subst h1 h2;exact h
  | succ i=>simp at h1 h2;exact r.2 i y e h1 h2⟩
theorem zi.head {H:Hp}{O:Own}{M:MH}{x:V}{d:AV}{xs:List V}{l:List AV}(r:zi H O M (x :: xs) (d :: l)):zD H O M x d/\zi H O M xs l:=
 ⟨r.2 0 x d rfl rfl,by have:=r.1;simpa using this,fun i y e h1 h2=>r.2 (i+1) y e (by simpa using h1) (by simpa using h2)⟩
theorem zi.nil_inv {H:Hp}{O:Own}{M:MH}{xs:List V}(r:zi H O M xs []):xs=[]:=List.length_eq_zero_iff.mp r.1
theorem zi.cons_inv {H:Hp}{O:Own}{M:MH}{xs:List V}{d:AV}{l:List AV}(r:zi H O M xs (d :: l)):∃ x r',xs=x :: r'/\zD H O M x d/\zi H O M r' l:=by
 cases xs with
 | nil=>have:=r.1;simp at this
 | cons x r'=>exact ⟨x,r',rfl,r.head⟩
theorem zi.append {H:Hp}{O:Own}{M:MH}{xs ys:List V}{l m:List AV}(a:zi H O M xs l)(b:zi H O M ys m):zi H O M (xs ++ ys) (l ++ m):=
 ⟨by rw [List.length_append,List.length_append,a.1,b.1],fun i x d h1 h2=>by
  by_cases c:i<xs.length
  ·rw [List.getElem?_append_left c] at h1
   rw [List.getElem?_append_left (by rw [<- a.1];exact c)] at h2
   exact a.2 i x d h1 h2
  ·rw [List.getElem?_append_right (by omega)] at h1
   rw [List.getElem?_append_right (by rw [<- a.1];omega),<- a.1] at h2
   exact b.2 _ x d h1 h2⟩
theorem zi.snoc {H:Hp}{O:Own}{M:MH}{xs:List V}{l:List AV}{x:V}{d:AV}(a:zi H O M xs l)(b:zD H O M x d):zi H O M (xs ++ [x]) (l ++ [d]):=a.append (.cons b .nil)
theorem zi.set {H:Hp}{O:Own}{M:MH}{xs:List V}{l:List AV}{x:V}{d:AV}(a:zi H O M xs l)(b:zD H O M x d)(j:Nat):zi H O M (xs.set j x) (l.set j d):=
 ⟨by rw [List.length_set,List.length_set,a.1],fun i y e h1 h2=>by
  rw [List.getElem?_set] at h1 h2
  by_cases c:j=i
  ·rw [if_pos c] at h1 h2
   split at h1
   ·split at h2
    ·cases h1;cases h2;exact b
    ·cases h2
   ·cases h1
  ·rw [if_neg c] at h1 h2
   exact a.2 i y e h1 h2⟩
theorem zi.get {H:Hp}{O:Own}{M:MH}{xs:List V}{l:List AV}(a:zi H O M xs l){i:Nat}{d:AV}(h:l[i]?=some d):∃ x,xs[i]?=some x/\zD H O M x d:=by
 have hi:=(List.getElem?_eq_some_iff.mp h).1
 have hx:i<xs.length:=by rw [a.1];exact hi
 exact ⟨xs[i],by simp [hx],a.2 i _ _ (by simp [hx]) h⟩
theorem zi.get' {H:Hp}{O:Own}{M:MH}{xs:List V}{l:List AV}(a:zi H O M xs l){i:Nat}{x:V}(h:xs[i]?=some x):∃ d,l[i]?=some d/\zD H O M x d:=by
 have hi:=(List.getElem?_eq_some_iff.mp h).1
 have hx:i<l.length:=by rw [<- a.1];exact hi
 exact ⟨l[i],by simp [hx],a.2 i _ _ h (by simp [hx])⟩
theorem zi.drop {H:Hp}{O:Own}{M:MH}{xs:List V}{l:List AV}(a:zi H O M xs l)(k:Nat):zi H O M (xs.drop k) (l.drop k):=
 ⟨by rw [List.length_drop,List.length_drop,a.1],fun i x d h1 h2=>by rw [List.getElem?_drop] at h1 h2;exact a.2 _ x d h1 h2⟩
theorem zi.take {H:Hp}{O:Own}{M:MH}{xs:List V}{l:List AV}(a:zi H O M xs l)(k:Nat):zi H O M (xs.take k) (l.take k):=
 ⟨by rw [List.length_take,List.length_take,a.1],fun i x d h1 h2=>by
  rw [List.getElem?_take] at h1 h2
  by_cases c:i<k
  ·rw [if_pos c] at h1 h2
   exact a.2 _ x d h1 h2
  ·rw [if_neg c] at h1
   cases h1⟩
theorem Wk.av {H:Hp}{O:Own}{M:MH}{xs:List V}{l:List Dat}(r:Wk H O xs l):zi H O M xs (l.map .d):=
 ⟨by rw [List.length_map];exact r.1,fun i x d h1 h2=>by
  rw [List.getElem?_map] at h2
  cases e:l[i]? with
  | none=>rw [e] at h2;cases h2
  | some y=>rw [e] at h2;cases h2;exact r.2 i x y h1 e⟩
theorem zi.pure {H:Hp}{O:Own}{M:MH}{xs:List V}{l:List Dat}(r:zi H O M xs (l.map .d)):Wk H O xs l:=
 ⟨by have:=r.1;rwa [List.length_map] at this,fun i x d h1 h2=>r.2 i x (.d d) h1 (by rw [List.getElem?_map,h2];rfl)⟩
theorem Wf.fresh {H:Hp}{O:Own}{M:MH}(w:Wf H O M){p:Addr}(h:H p=none):¬ O p/\M p=none:=by
 have:¬ O p:=fun z=>w.ne p z h
 exact ⟨this,by
  cases e:M p with
  | none=>rfl
  | some o=>exact absurd (w.own p (by rw [e];exact fun z=>nomatch z)) this⟩
theorem jD.ext {H H':Hp}{O O':Own}{M M':MH}(k:Ext H O M H' O' M'){a:Addr}{o:MO}(e:H' a=H a)(r:jD H O M a o):jD H' O' M' a o:=by
 cases o with
 | lst l=>obtain ⟨xs,h,r⟩:=r;exact ⟨xs,e.trans h,r.ext k⟩
 | dK l=>obtain ⟨xs,h,r⟩:=r;exact ⟨xs,e.trans h,r.ext k⟩
 | ins C fs=>obtain ⟨dx,xs,h,r,q1,q2,q3⟩:=r;obtain ⟨x1,x2,x3⟩:=k.prv dx q1 q2;exact ⟨dx,xs,e.trans h,r.ext k,x2,x3,x1.trans q3⟩
 | exc C fs=>
  obtain ⟨d,h,r⟩:=r
  refine ⟨d,e.trans h,?_⟩
  rcases r with r | ⟨dx,e1,h1,h2,h3⟩
  ·exact .inl r
  ·obtain ⟨x1,x2,x3⟩:=k.prv dx h2 h3;exact .inr ⟨dx,e1,x1.trans h1,x2,x3⟩
theorem jr {H:Hp}{O:Own}{M:MH}(w:Wf H O M){p:Addr}(h:H p=none)(o:HO):Ext H O M (upd H p o) O M:=
 ⟨fun a u ha e=>⟨by rw [zm (zh e h)];exact e,ha⟩,fun a ha e=>⟨zm (fun z=>w.ne a ha (by rw [z];exact h)),ha,e⟩,fun _ h=>h⟩
theorem wt {H:Hp}{O:Own}{M:MH}(w:Wf H O M){p:Addr}(h:H p=none)(o:HO):Wf (upd H p o) O M:=
 ⟨fun a mo e=>jD.ext (jr w h o) (zm (fun z=>by rw [z,(w.fresh h).2] at e;cases e)) (w.mo a mo e),w.own,fun a ha=>by
  have:a ≠ p:=fun z=>w.ne a ha (by rw [z];exact h)
  rw [zm this];exact w.al a ha⟩
noncomputable def Wg (O:Own)(p:Addr):Own:=fun a=>a=p \/ O a
noncomputable def Qd (O:Own)(p:Addr):Own:=fun a=>a ≠ p/\O a
theorem yD {H:Hp}{O:Own}{M:MH}(w:Wf H O M){p:Addr}(h:M p ≠ none)(o:HO)(mo:MO):Ext H O M (upd H p o) O (mup M p mo):=
 ⟨fun a u ha e=>⟨by rw [zm (fun z=>ha (by rw [z];exact w.own p h))];exact e,ha⟩,fun a ha e=>by
  have hne:a ≠ p:=fun z=>h (by rw [<- z];exact e)
  exact ⟨zm hne,ha,by rw [zL hne];exact e⟩,fun a ha=>by
  by_cases e:a=p
  ·rw [e,zl];exact fun z=>nomatch z
  ·rw [zL e];exact ha⟩
theorem Aq {H:Hp}{O:Own}{M:MH}(w:Wf H O M){p:Addr}(h:M p ≠ none){o:HO}{mo:MO}(ho:∀ xs,o ≠ .tup xs)(r:jD (upd H p o) O (mup M p mo) p mo):Wf (upd H p o) O (mup M p mo):=by
 refine ⟨fun a u e=>?_,fun a ha=>?_,fun a ha=>?_⟩
 ·by_cases c:a=p
  ·subst c;rw [zl] at e;cases e;exact r
  ·rw [zL c] at e
   exact jD.ext (yD w h o mo) (zm c) (w.mo a u e)
 ·by_cases c:a=p
  ·subst c;exact w.own a h
  ·rw [zL c] at ha;exact w.own a ha
 ·by_cases c:a=p
  ·rw [c,zf];exact ⟨o,rfl,ho⟩
  ·rw [zm c];exact w.al a ha
theorem qY {H:Hp}{O:Own}{M:MH}(w:Wf H O M){p:Addr}(h:H p=none)(o:HO):Ext H O M (upd H p o) (Wg O p) M:=
 ⟨fun a u ha e=>⟨by rw [zm (zh e h)];exact e,fun z=>z.elim (zh e h) ha⟩,fun a ha e=>by
  have hne:a ≠ p:=fun z=>w.ne a ha (by rw [z];exact h)
  exact ⟨zm hne,.inr ha,e⟩,fun _ h=>h⟩
theorem yH {H:Hp}{O:Own}{M:MH}(w:Wf H O M){p:Addr}(h:H p=none)(o:HO)(ho:∀ xs,o ≠ .tup xs):Wf (upd H p o) (Wg O p) M:=
 ⟨fun a mo e=>jD.ext (qY w h o) (zm (fun z=>by rw [z,(w.fresh h).2] at e;cases e)) (w.mo a mo e),fun a ha=>.inr (w.own a ha),fun a ha=>by
  by_cases c:a=p
  ·rw [c,zf];exact ⟨o,rfl,ho⟩
  ·rw [zm c];exact w.al a (ha.resolve_left c)⟩
theorem vJ {H:Hp}{O:Own}{p:Addr}(hO:O p)(o:HO):∀ a u,¬ O a->H a=some u->upd H p o a=some u/\¬ O a:=fun a u ha e=>⟨by rw [zm (fun z=>ha (by rw [z];exact hO))];exact e,ha⟩
theorem zD.imp {H H':Hp}{O O':Own}{M M':MH}(k:∀ a o,¬ O a->H a=some o->H' a=some o/\¬ O' a)(hm:∀ a,M a ≠ none->M' a ≠ none){v:V}{x:AV}(r:zD H O M v x):zD H' O' M' v x:=by
 cases x with
 | d x=>exact Rep.imp k r
 | ref a=>exact ⟨r.1,hm a r.2⟩
theorem zi.imp {H H':Hp}{O O':Own}{M M':MH}(k:∀ a o,¬ O a->H a=some o->H' a=some o/\¬ O' a)(hm:∀ a,M a ≠ none->M' a ≠ none){xs:List V}{l:List AV}(r:zi H O M xs l):zi H' O' M' xs l:=⟨r.1,fun i x d e1 e2=>(r.2 i x d e1 e2).imp k hm⟩
theorem jD.imp {H H':Hp}{O O':Own}{M:MH}(k:∀ a o,¬ O a->H a=some o->H' a=some o/\¬ O' a){a:Addr}{o:MO}(e:H' a=H a)(hd:∀ dx x,O dx->M dx=none->H dx=some x->((∃ b,x=.own b) \/ ∃ fs,x=.xd fs)->H' dx=some x/\O' dx)(r:jD H O M a o):jD H' O' M a o:=by
 cases o with
 | lst l=>obtain ⟨xs,h,r⟩:=r;exact ⟨xs,e.trans h,r.imp k fun _ z=>z⟩
 | dK l=>obtain ⟨xs,h,r⟩:=r;exact ⟨xs,e.trans h,r.1,r.2.imp k fun _ z=>z⟩
 | ins C fs=>obtain ⟨dx,xs,h,r,q1,q2,q3⟩:=r;exact ⟨dx,xs,e.trans h,⟨r.1,r.2.imp k fun _ z=>z⟩,(hd dx _ q1 q2 q3 (.inl ⟨_,rfl⟩)).2,q2,(hd dx _ q1 q2 q3 (.inl ⟨_,rfl⟩)).1⟩
 | exc C fs=>
  obtain ⟨d,h,r⟩:=r
  refine ⟨d,e.trans h,?_⟩
  rcases r with r | ⟨dx,e1,h1,h2,h3⟩
  ·exact .inl r
  ·obtain ⟨x1,x2⟩:=hd dx _ h2 h3 h1 (.inr ⟨_,rfl⟩);exact .inr ⟨dx,e1,x1,x2,h3⟩
theorem Xl {H:Hp}{O:Own}{M:MH}(w:Wf H O M){p:Addr}(hO:O p)(hM:M p=none){xs:List V}(hp:H p=some (.lst xs))(o:HO)(ho:∀ xs,o ≠ .tup xs):Wf (upd H p o) O M:=
 ⟨fun a mo e=>jD.imp (vJ hO o) (zm (fun z=>by rw [z,hM] at e;cases e)) (fun dx x h1 _ h3 h4=>⟨by rw [zm (Kf h3 hp (by rcases h4 with ⟨_,rfl⟩ | ⟨_,rfl⟩ <;> exact fun z=>nomatch z))];exact h3,h1⟩) (w.mo a mo e),w.own,fun a ha=>by
  by_cases c:a=p
  ·rw [c,zf];exact ⟨o,rfl,ho⟩
  ·rw [zm c];exact w.al a ha⟩
theorem xI {H:Hp}{O:Own}(p:Addr):∀ a u,¬ O a->H a=some u->H a=some u/\¬ Qd O p a:=fun a u ha e=>⟨e,fun z=>ha z.2⟩
theorem Ap {H:Hp}{O:Own}{M:MH}(w:Wf H O M){p:Addr}(hM:M p=none){xs:List V}(hp:H p=some (.lst xs)):Wf H (Qd O p) M:=
 ⟨fun a mo e=>jD.imp (xI p) rfl (fun dx x h1 _ h3 h4=>⟨h3,⟨Kf h3 hp (by rcases h4 with ⟨_,rfl⟩ | ⟨_,rfl⟩ <;> exact fun z=>nomatch z),h1⟩⟩) (w.mo a mo e),fun a ha=>⟨fun z=>ha (by rw [z];exact hM),w.own a ha⟩,fun a ha=>w.al a ha.2⟩
noncomputable abbrev AK:=AV->MH->Prop
noncomputable abbrev AE:=ASt->MH->AK->Prop
noncomputable abbrev AT:=ASt->MH->(Bool->MH->Prop)->Prop
noncomputable abbrev AA:=ASt->MH->(List AV->MH->Prop)->Prop
structure j5 where
 nx:ASt->MH->Prop
 rt:AK
 bk:ASt->MH->Prop:=fun _ _=>False
 ct:ASt->MH->Prop:=fun _ _=>False
noncomputable abbrev AS:=MH->j5->ASt->MH->Prop
noncomputable abbrev AG:=AV->ASt->MH->(ASt->MH->Prop)->Prop
noncomputable abbrev AGs:=List AV->ASt->MH->(ASt->MH->Prop)->Prop
noncomputable abbrev AI:=ASt->MH->(List AV->(MH->Prop)->MH->Prop)->Prop
structure Er (H:Hp)(O:Own)(M:MH)(σ:St)(ρ:ASt):Prop where
 len:σ.length=ρ.length
 get:∀ (i:Nat) x,ρ[i]?=some (some x)->∃ v,σ[i]?=some (some v)/\zD H O M v x
theorem Er.ext {H H':Hp}{O O':Own}{M M':MH}{σ:St}{ρ:ASt}(e:Er H O M σ ρ)(k:Ext H O M H' O' M'):Er H' O' M' σ ρ:=⟨e.len,fun i x h=>let ⟨v,h1,h2⟩:=e.get i x h;⟨v,h1,h2.ext k⟩⟩
theorem Er.set {H:Hp}{O:Own}{M:MH}{σ:St}{ρ:ASt}(e:Er H O M σ ρ){v:V}{x:AV}(r:zD H O M v x)(j:Nat):Er H O M (σ.set j (some v)) (ρ.set j (some x)):=
 ⟨by rw [List.length_set,List.length_set,e.len],fun i y h=>by
  rw [List.getElem?_set] at h ⊢
  by_cases c:j=i
  ·rw [if_pos c] at h ⊢
   by_cases c2:j<ρ.length
   ·rw [if_pos c2] at h;rw [if_pos (by rw [e.len];exact c2)];cases h;exact ⟨v,rfl,r⟩
   ·rw [if_neg c2] at h;cases h
  ·rw [if_neg c] at h ⊢;exact e.get i y h⟩
noncomputable def EO:List Nat->ASt->ASt
 | [],σ=>σ
 | j :: r,σ=>EO r (σ.set j none)
theorem Er.clr {H:Hp}{O:Own}{M:MH}:∀ (ts:List Nat) {σ:St} {ρ:ASt},Er H O M σ ρ->Er H O M (clr ts σ) (EO ts ρ)
  | [],_,_,e=>e
  | j :: r, σ, ρ, e => Er.clr r ⟨by rw [List.length_set, List.length_set, e.len], fun i y h => by
      rw [List.getElem?_set] at h ⊢
      by_cases c:j=i
      · rw [if_pos c] at h
        split at h <;> cases h
      · rw [if_neg c] at h ⊢;exact e.get i y h⟩
structure ql (t:TE)(a:AE):Prop where
 go:∀ {σ:St} {H:Hp} {O:Own} {ρ:ASt} {M:MH} {Q:VK} {Q':AK},Wf H O M->Er H O M σ ρ->a ρ M Q'->(∀ x M' v H' O',Q' x M'->Ext H O M H' O' M'->Wf H' O' M'->zD H' O' M' v x->Q v H')->t σ H Q
structure xb (t:TT)(a:AT):Prop where
 go:∀ {σ:St} {H:Hp} {O:Own} {ρ:ASt} {M:MH} {Q:Bool->Hp->Prop} {Q':Bool->MH->Prop},Wf H O M->Er H O M σ ρ->a ρ M Q'->(∀ b M' H' O',Q' b M'->Ext H O M H' O' M'->Wf H' O' M'->Q b H')->t σ H Q
structure kF (t:TA)(a:AA):Prop where
 go:∀ {σ:St} {H:Hp} {O:Own} {ρ:ASt} {M:MH} {Q:List V->Hp->Prop} {Q':List AV->MH->Prop},Wf H O M->Er H O M σ ρ->a ρ M Q'->(∀ x M' v H' O',Q' x M'->Ext H O M H' O' M'->Wf H' O' M'->zi H' O' M' v x->Q v H')->t σ H Q
structure Zq (t:TE)(a:ASt->MH->(List AV->MH->Prop)->Prop):Prop where
 go:∀ {σ:St} {H:Hp} {O:Own} {ρ:ASt} {M:MH} {Q:VK} {Q':List AV->MH->Prop},Wf H O M->Er H O M σ ρ->a ρ M Q' ->
  (∀ l M' p xs H' O',Q' l M'->Ext H O M H' O' M'->Wf H' O' M'->O' p->M' p=none->H p=none->H' p=some (.lst xs)->zi H' O' M' xs l->Q (.ref p) H')->t σ H Q
noncomputable abbrev AR2:=AV->AV->MH->AK->Prop
structure Zk (r:R2)(a:AR2):Prop where
 go:∀ {x y:V} {dx dy:AV} {H:Hp} {O:Own} {M:MH} {Q:VK} {Q':AK},Wf H O M->zD H O M x dx->zD H O M y dy->a dx dy M Q'->(∀ x M' v H' O',Q' x M'->Ext H O M H' O' M'->Wf H' O' M'->zD H' O' M' v x->Q v H')->r x y H Q
structure Mf (r:V->Hp->VK->Prop)(a:AV->MH->AK->Prop):Prop where
 go:∀ {x:V} {dx:AV} {H:Hp} {O:Own} {M:MH} {Q:VK} {Q':AK},Wf H O M->zD H O M x dx->a dx M Q'->(∀ x M' v H' O',Q' x M'->Ext H O M H' O' M'->Wf H' O' M'->zD H' O' M' v x->Q v H')->r x H Q
structure Jg (r:List V->Hp->VK->Prop)(a:List AV->MH->AK->Prop):Prop where
 go:∀ {vs:List V} {xs:List AV} {H:Hp} {O:Own} {M:MH} {Q:VK} {Q':AK},Wf H O M->zi H O M vs xs->a xs M Q'->(∀ x M' v H' O',Q' x M'->Ext H O M H' O' M'->Wf H' O' M'->zD H' O' M' v x->Q v H')->r vs H Q
noncomputable def qh (i:Nat):AE:=fun ρ M Q=>∃ x,ρ[i]?=some (some x)/\Q x M
noncomputable def aC (d:Dat):AE:=fun _ M Q=>Q (.d d) M
theorem F5 {i:Nat}:ql (BH i) (qh i):=⟨fun w e ⟨x,h,q⟩ k=>let ⟨v,h1,h2⟩:=e.get i x h;⟨v,h1,k _ _ _ _ _ q .refl w h2⟩⟩
theorem I0 {i:Int}:ql (tC (.int i)) (aC (.int i)):=⟨fun w _ q k=>k _ _ _ _ _ q .refl w .int⟩
theorem Hs {i:Bool}:ql (tC (.bl i)) (aC (.bl i)):=⟨fun w _ q k=>k _ _ _ _ _ q .refl w .bl⟩
theorem Lg:ql (tC .non) (aC .non):=⟨fun w _ q k=>k _ _ _ _ _ q .refl w .non⟩
theorem LO {i:Str}:ql (tC (.str i)) (aC (.str i)):=⟨fun w _ q k=>k _ _ _ _ _ q .refl w .str⟩
theorem Iq {i:String}:ql (tC (.ty i)) (aC (.ty i)):=⟨fun w _ q k=>k _ _ _ _ _ q .refl w .ty⟩
noncomputable def aOp (r:AR2)(a b:AE):AE:=fun ρ M Q=>a ρ M fun x M1=>b ρ M1 fun y M2=>r x y M2 Q
theorem LQ {r:R2}{ra:AR2}{t u:TE}{a b:AE}(hr:Zk r ra)(h1:ql t a)(h2:ql u b):ql (tOp r t u) (aOp ra a b):=
 ⟨fun w e q k=>h1.go w e q fun x M1 v H1 O1 q1 k1 w1 r1=>h2.go w1 (e.ext k1) q1 fun y M2 u H2 O2 q2 k2 w2 r2=>hr.go w2 (r1.ext k2) r2 q2 fun z M3 v3 H3 O3 q3 k3 w3 r3=>k z M3 v3 H3 O3 q3 ((k1.trans k2).trans k3) w3 r3⟩
noncomputable def aUn (r:AV->MH->AK->Prop)(a:AE):AE:=fun ρ M Q=>a ρ M fun x M1=>r x M1 Q
theorem IG {r:V->Hp->VK->Prop}{ra:AV->MH->AK->Prop}{t:TE}{a:AE}(hr:Mf r ra)(h1:ql t a):ql (tUn r t) (aUn ra a):=
 ⟨fun w e q k=>h1.go w e q fun x M1 v H1 O1 q1 k1 w1 r1=>hr.go w1 r1 q1 fun z M3 v3 H3 O3 q3 k3 w3 r3=>k z M3 v3 H3 O3 q3 (k1.trans k3) w3 r3⟩
noncomputable def XQ:AA:=fun _ M Q=>Q [] M
noncomputable def kY (a:AE)(b:AA):AA:=fun ρ M Q=>a ρ M fun x M1=>b ρ M1 fun xs M2=>Q (x :: xs) M2
theorem Fq:kF AN XQ:=⟨fun w _ q k=>k _ _ _ _ _ q .refl w .nil⟩
theorem B4 {t:TE}{u:TA}{a:AE}{b:AA}(h1:ql t a)(h2:kF u b):kF (BP t u) (kY a b):=
 ⟨fun w e q k=>h1.go w e q fun x M1 v H1 O1 q1 k1 w1 r1=>h2.go w1 (e.ext k1) q1 fun y M2 u H2 O2 q2 k2 w2 r2=>k _ _ _ _ _ q2 (k1.trans k2) w2 (.cons (r1.ext k2) r2)⟩
theorem KC {H:Hp}{O:Own}{M:MH}(is:List Int):zi H O M (is.map V.int) (is.map fun i=>.d (.int i)):=by
 induction is with
 | nil=>exact .nil
 | cons i r ih=>exact .cons .int ih
noncomputable def aCB (r:List AV->MH->AK->Prop)(b:AA):AE:=fun ρ M Q=>b ρ M fun xs M1=>r xs M1 Q
theorem Ho {r:List V->Hp->VK->Prop}{ra:List AV->MH->AK->Prop}{u:TA}{b:AA}(hr:Jg r ra)(h2:kF u b):ql (tCB r u) (aCB ra b):=
 ⟨fun w e q k=>h2.go w e q fun x M1 v H1 O1 q1 k1 w1 r1=>hr.go w1 r1 q1 fun z M3 v3 H3 O3 q3 k3 w3 r3=>k z M3 v3 H3 O3 q3 (k1.trans k3) w3 r3⟩
noncomputable abbrev ASp:=List AV->MH->AK->Prop
noncomputable def cSp (a:ASp):Sp:=fun vs H Q _=>∃ xs M O Q',Wf H O M/\zi H O M vs xs/\a xs M Q'/\∀ x M' v H' O',Q' x M'->Ext H O M H' O' M'->Wf H' O' M'->zD H' O' M' v x->Q v H'
noncomputable def GA (sp:ASp)(b:AA):AE:=fun ρ M Q=>b ρ M fun xs M1=>sp xs M1 Q
theorem Bc {sp:ASp}{u:TA}{b:AA}(h:kF u b):ql (Ye (cSp sp) [] E0 u) (GA sp b):=
 ⟨fun w e q k=>h.go w e q fun x M1 v H1 O1 q1 k1 w1 r1=>⟨x,M1,O1,_,w1,by rw [List.append_nil];exact r1,q1,fun z M3 v3 H3 O3 q3 k3 w3 r3=>k z M3 v3 H3 O3 q3 (k1.trans k3) w3 r3⟩⟩
noncomputable def pur:List AV->Option (List Dat)
 | []=>some []
 | .d x :: r=>match pur r with | some l=>some (x :: l) | none=>none
 | .ref _ :: _=>none
theorem EV:pur []=some []:=rfl
theorem Ad {x:Dat}{r:List AV}{l:List Dat}(h:pur r=some l):pur (.d x :: r)=some (x :: l):=by unfold pur;rw [h]
theorem qd (l:List Dat):pur (l.map .d)=some l:=by
 induction l with
 | nil=>rfl
 | cons x r ih=>exact Ad ih
theorem j9:∀ {xs:List AV} {l:List Dat},pur xs=some l->xs=l.map .d
 | [],l,h=>by cases h;rfl
 | .d x :: r,l,h=>by
  unfold pur at h
  cases e:pur r with
  | none=>rw [e] at h;cases h
  | some m=>rw [e] at h;cases h;rw [j9 e];rfl
 | .ref _ :: _,_,h=>by cases h
theorem Ext.shown {H H':Hp}{O O':Own}{M M':MH}{p:Addr}(w:Wf H O M)(k:Ext H O M H' O' M')(h:H p=none):Ext H O M H' (Qd O' p) M':=
 ⟨fun a o ha e=>⟨(k.fix a o ha e).1,fun z=>(k.fix a o ha e).2 z.2⟩,fun a ha e=>⟨(k.prv a ha e).1,⟨fun z=>w.ne a ha (by rw [z];exact h),(k.prv a ha e).2.1⟩,(k.prv a ha e).2.2⟩,k.mst⟩
theorem Ext.owned {H H':Hp}{O O':Own}{M M':MH}{p:Addr}(w:Wf H O M)(k:Ext H O M H' O' M')(h:H p=none)(mo:MO):Ext H O M H' O' (mup M' p mo):=
 ⟨k.fix,fun a ha e=>⟨(k.prv a ha e).1,(k.prv a ha e).2.1,by rw [zL (fun z=>w.ne a ha (by rw [z];exact h))];exact (k.prv a ha e).2.2⟩,fun a ha=>by
  by_cases e:a=p
  ·rw [e,zl];exact fun z=>nomatch z
  ·rw [zL e];exact k.mst a ha⟩
theorem Kl {H:Hp}{O:Own}{M:MH}{p:Addr}(w:Wf H O M)(hO:O p)(hM:M p=none){xs:List V}{l:List AV}(hp:H p=some (.lst xs))(r:zi H O M xs l):Wf H O (mup M p (.lst l)):=by
 have km:∀ a,M a ≠ none->mup M p (.lst l) a ≠ none:=fun a ha=>by
  by_cases e:a=p
  ·rw [e,zl];exact fun z=>nomatch z
  ·rw [zL e];exact ha
 refine ⟨fun a u e=>?_,fun a ha=>?_,w.al⟩
 ·by_cases c:a=p
  ·subst c;rw [zl] at e;cases e;exact ⟨xs,hp,r.imp (fun _ _ z h=>⟨h,z⟩) km⟩
  ·rw [zL c] at e
   have:=w.mo a u e
   cases u with
   | lst m=>obtain ⟨ys,h1,h2⟩:=this;exact ⟨ys,h1,h2.imp (fun _ _ z h=>⟨h,z⟩) km⟩
   | dK m=>obtain ⟨ys,h1,h2⟩:=this;exact ⟨ys,h1,h2.1,h2.2.imp (fun _ _ z h=>⟨h,z⟩) km⟩
   | ins C fs=>
    obtain ⟨dx,ys,h1,h2,h3,h4,h5⟩:=this
    exact ⟨dx,ys,h1,⟨h2.1,h2.2.imp (fun _ _ z h=>⟨h,z⟩) km⟩,h3,by rw [zL (Kf h5 hp (fun z=>nomatch z))];exact h4,h5⟩
   | exc C fs=>
    obtain ⟨d,h1,h2⟩:=this
    refine ⟨d,h1,?_⟩
    rcases h2 with h2 | ⟨dx,e1,h2,h3,h4⟩
    ·exact .inl h2
    ·exact .inr ⟨dx,e1,h2,h3,by rw [zL (Kf h2 hp (fun z=>nomatch z))];exact h4⟩
 ·by_cases c:a=p
  ·rw [c];exact hO
  ·rw [zL c] at ha;exact w.own a ha
noncomputable abbrev AF:=ASt->MH->(List AV->MH->Prop)->Prop
noncomputable def aFz (a:AF):AE:=fun ρ M Q=>a ρ M fun l M'=>∃ ds,pur l=some ds/\Q (.d (.lst ds)) M'
noncomputable def aOw (a:AF):AE:=fun ρ M Q=>a ρ M fun l M'=>∀ p,M p=none->M' p=none->Q (.ref p) (mup M' p (.lst l))
noncomputable def Mr (t:TE):TE:=t
theorem kS {X:Cx}{e:Expr}{t:TE}(h:PE X e t):PE X e (Mr t):=h
theorem YU {t:TE}{a:AF}(h:Zq t a):ql t (aFz a):=
 ⟨fun w e q k=>h.go w e q fun l M' p xs H' O' q1 k1 w1 o1 m1 hp hx r1=>by
  obtain ⟨ds,e1,q2⟩:=q1
  rw [j9 e1] at r1
  have r2:=r1.pure
  exact k _ _ _ _ _ q2 (k1.shown w hp) (Ap w1 m1 hx) (Rep.lst (fun z=>z.1 rfl) hx r2.1 fun i x d e1 e2=>(r2.2 i x d e1 e2).imp (xI p))⟩
theorem Fl {t:TE}{a:AF}(h:Zq t a):ql (Mr t) (aOw a):=
 ⟨fun w e q k=>h.go w e q fun l M' p xs H' O' q1 k1 w1 o1 m1 hp hx r1=>k _ _ _ _ _ (q1 p (w.fresh hp).2 m1) (k1.owned w hp _) (Kl w1 o1 m1 hx r1) ⟨rfl,by rw [zl];exact fun z=>nomatch z⟩⟩
noncomputable def LY (b:AA):AF:=fun ρ M Q=>b ρ M fun xs M1=>xs.length<=sizeLine/\Q xs M1
theorem DH {u:TA}{b:AA}(h:kF u b):Zq (HG u) (LY b):=
 ⟨fun w e q k=>h.go w e q fun x M1 v H1 O1 q1 k1 w1 r1=>⟨by rw [r1.1];exact q1.1,fun p hp=>
  k x M1 p v _ _ q1.2 (k1.trans (qY w1 hp _)) (yH w1 hp _ (fun _ z=>nomatch z)) (.inl rfl) (w1.fresh hp).2 (by
   cases e0:(_:Hp) p with
   | none=>exact e0
   | some o=>
    exfalso
    rename_i H0 O0 _ M0 _ _
    by_cases c:O0 p
    ·by_cases c2:M0 p=none
     ·exact w1.ne p (k1.prv p c c2).2.1 hp
     ·exact w1.ne p (w1.own p (k1.mst p c2)) hp
    ·rw [(k1.fix p o c e0).1] at hp;cases hp) zf (r1.ext (qY w1 hp _))⟩⟩
noncomputable def HY (b:AA):AE:=fun ρ M Q=>b ρ M fun xs M1=>xs.length<=sizeLine/\∃ ds,pur xs=some ds/\Q (.d (.tup ds)) M1
theorem ER {u:TA}{b:AA}(h:kF u b):ql (Gu u) (HY b):=
 ⟨fun w e q k=>h.go w e q fun x M1 v H1 O1 q1 k1 w1 r1=>⟨by rw [r1.1];exact q1.1,fun p hp=>by
  obtain ⟨_,ds,e1,q2⟩:=q1
  rw [j9 e1] at r1
  have r2:=r1.pure
  exact k _ _ _ _ _ q2 (k1.trans (jr w1 hp _)) (wt w1 hp _) (Rep.tup (w1.fresh hp).1 zf r2.1 fun i x d e1 e2=>(r2.2 i x d e1 e2).ext (jr w1 hp _))⟩⟩
noncomputable def aB (a:AE):AT:=fun ρ M Q=>a ρ M fun x M1=>∃ b,x=.d (.bl b)/\Q b M1
theorem QB {H:Hp}{O:Own}{v:V}{b:Bool}(r:Rep H O v (.bl b)):v=.bl b:=by cases r;rfl
theorem zN {H:Hp}{O:Own}{v:V}{b:Int}(r:Rep H O v (.int b)):v=.int b:=by cases r;rfl
theorem vQ {H:Hp}{O:Own}{v:V}{b:Str}(r:Rep H O v (.str b)):v=.str b:=by cases r;rfl
theorem HD {H:Hp}{O:Own}{v:V}{b:String}(r:Rep H O v (.ty b)):v=.ty b:=by cases r;rfl
theorem YK {H:Hp}{O:Own}{v:V}(r:Rep H O v .non):v=.non:=by cases r;rfl
theorem Mt {t:TE}{a:AE}(h:ql t a):xb (tB t) (aB a):=⟨fun w e q k=>h.go w e q fun x M1 v H1 O1 ⟨b,e1,q1⟩ k1 w1 r1=>by
 subst e1;exact ⟨b,QB r1,k _ _ _ _ q1 k1 w1⟩⟩
theorem Dg {t:TE}{a:AE}(h:ql t a):xb (YC t) (aB a):=⟨fun w e q k=>h.go w e q fun x M1 v H1 O1 ⟨b,e1,q1⟩ k1 w1 r1=>by
 subst e1;exact ⟨b,QB r1,k _ _ _ _ q1 k1 w1⟩⟩
noncomputable def Yn:AT:=fun _ M Q=>Q true M
theorem DD:xb DA Yn:=⟨fun w _ q k=>k _ _ _ _ q .refl w⟩
noncomputable def Mg (a b:AT):AT:=fun ρ M Q=>a ρ M fun c M1=>if c=true then b ρ M1 Q else Q false M1
noncomputable def aOr (a b:AT):AT:=fun ρ M Q=>a ρ M fun c M1=>if c=true then Q true M1 else b ρ M1 Q
noncomputable def MC (a:AT):AT:=fun ρ M Q=>a ρ M fun c M1=>Q (!c) M1
theorem Ld {t u:TT}{a b:AT}(h1:xb t a)(h2:xb u b):xb (tOr t u) (aOr a b):=⟨fun w e q k=>h1.go w e q fun c M1 H1 O1 q1 k1 w1=>by
 cases c with
 | false=>exact h2.go w1 (e.ext k1) q1 fun c M2 H2 O2 q2 k2 w2=>k _ _ _ _ q2 (k1.trans k2) w2
 | true=>exact k _ _ _ _ q1 k1 w1⟩
theorem E2 {t:TT}{a:AT}(h1:xb t a):xb (Iw t) (MC a):=⟨fun w e q k=>h1.go w e q fun c M1 H1 O1 q1 k1 w1=>k _ _ _ _ q1 k1 w1⟩
noncomputable def aIf (c:AT)(a b:AE):AE:=fun ρ M Q=>c ρ M fun c M1=>if c=true then a ρ M1 Q else b ρ M1 Q
theorem Ly {c:TT}{t u:TE}{ac:AT}{a b:AE}(hc:xb c ac)(h1:ql t a)(h2:ql u b):ql (tIf c t u) (aIf ac a b):=⟨fun w e q k=>hc.go w e q fun c M1 H1 O1 q1 k1 w1=>by
 cases c with
 | true=>exact h1.go w1 (e.ext k1) q1 fun c M2 v2 H2 O2 q2 k2 w2 r2=>k _ _ _ _ _ q2 (k1.trans k2) w2 r2
 | false=>exact h2.go w1 (e.ext k1) q1 fun c M2 v2 H2 O2 q2 k2 w2 r2=>k _ _ _ _ _ q2 (k1.trans k2) w2 r2⟩
noncomputable def Br (r r':AR2)(a b c:AE):AE:=fun ρ M Q=>a ρ M fun x M1=>b ρ M1 fun y M2=>r x y M2 fun z M3=>∃ k,z=.d (.bl k)/\if k=true then c ρ M3 fun u M4=>r' y u M4 Q else Q (.d (.bl false)) M3
theorem VS {r r':R2}{ar ar':AR2}{t u v:TE}{a b c:AE}(hr:Zk r ar)(hr':Zk r' ar')(h1:ql t a)(h2:ql u b)(h3:ql v c):ql (XG r r' t u v) (Br ar ar' a b c):=
 ⟨fun w e q k=>h1.go w e q fun x M1 v H1 O1 q1 k1 w1 r1=>h2.go w1 (e.ext k1) q1 fun y M2 u H2 O2 q2 k2 w2 r2=>hr.go w2 (r1.ext k2) r2 q2 fun z M3 v3 H3 O3 ⟨c,e3,q3⟩ k3 w3 r3=>by
  subst e3
  refine ⟨c,QB r3,?_⟩
  have k13:=(k1.trans k2).trans k3
  cases c with
  | false=>exact k _ _ _ _ _ q3 k13 w3 .bl
  | true=>exact h3.go w3 (e.ext k13) q3 fun z4 M4 v4 H4 O4 q4 k4 w4 r4=>hr'.go w4 ((r2.ext k3).ext k4) r4 q4 fun z5 M5 v5 H5 O5 q5 k5 w5 r5=>k _ _ _ _ _ q5 ((k13.trans k4).trans k5) w5 r5⟩
structure ED (H0:Hp)(O0:Own)(M0:MH)(D:j8)(D':j5):Prop where
 nx:∀ σ H O ρ M,Wf H O M->Er H O M σ ρ->Ext H0 O0 M0 H O M->D'.nx ρ M->D.nx σ H
 rt:∀ v x H O M,Wf H O M->Ext H0 O0 M0 H O M->zD H O M v x->D'.rt x M->D.rt v H
 bk:∀ σ H O ρ M,Wf H O M->Er H O M σ ρ->Ext H0 O0 M0 H O M->D'.bk ρ M->D.bk σ H
 ct:∀ σ H O ρ M,Wf H O M->Er H O M σ ρ->Ext H0 O0 M0 H O M->D'.ct ρ M->D.ct σ H
theorem ED.tr {H0 H1:Hp}{O0 O1:Own}{M0 M1:MH}{D:j8}{D':j5}(E:ED H0 O0 M0 D D')(k:Ext H0 O0 M0 H1 O1 M1):ED H1 O1 M1 D D':=
 ⟨fun σ H O ρ M w e x q=>E.nx σ H O ρ M w e (k.trans x) q,fun v y H O M w x r q=>E.rt v y H O M w (k.trans x) r q,fun σ H O ρ M w e x q=>E.bk σ H O ρ M w e (k.trans x) q,fun σ H O ρ M w e x q=>E.ct σ H O ρ M w e (k.trans x) q⟩
structure jB (t:TS)(a:AS):Prop where
 go:∀ {H0:Hp} {O0:Own} {M0:MH} {D:j8} {D':j5} {σ:St} {H:Hp} {O:Own} {ρ:ASt} {M:MH},Wf H0 O0 M0->Wf H O M->Er H O M σ ρ->Ext H0 O0 M0 H O M->a M0 D' ρ M->ED H0 O0 M0 D D'->t D σ H
noncomputable def ya:AS:=fun _ D ρ M=>D.nx ρ M
theorem DG:jB DL ya:=⟨fun _ w e x q E=>E.nx _ _ _ _ _ w e x q⟩
noncomputable def jZ (a b:AS):AS:=fun B D ρ M=>a B { D with nx:=b B D } ρ M
theorem EX {t u:TS}{a b:AS}(h1:jB t a)(h2:jB u b):jB (VB t u) (jZ a b):=
 ⟨fun w0 w e x q E=>h1.go w0 w e x q ⟨fun σ H O ρ M w e x q=>h2.go w0 w e x q E,E.rt,E.bk,E.ct⟩⟩
noncomputable def WP (a:AE):AS:=fun _ D ρ M=>a ρ M fun _ M1=>D.nx ρ M1
theorem BB {t:TE}{a:AE}(h:ql t a):jB (YT t) (WP a):=⟨fun _ w e x q E=>h.go w e q fun y M1 v H1 O1 q1 k1 w1 r1=>E.nx _ _ _ _ _ w1 (e.ext k1) (x.trans k1) q1⟩
noncomputable def BO (a:AE):AS:=fun _ D ρ M=>a ρ M D.rt
theorem FQ {t:TE}{a:AE}(h:ql t a):jB (IU t) (BO a):=⟨fun _ w e x q E=>h.go w e q fun y M1 v H1 O1 q1 k1 w1 r1=>E.rt _ _ _ _ _ w1 (x.trans k1) r1 q1⟩
noncomputable def vD (c:AT)(a b:AS):AS:=fun B D ρ M=>c ρ M fun k M1=>if k=true then a B D ρ M1 else b B D ρ M1
theorem FO {c:TT}{t u:TS}{ac:AT}{a b:AS}(hc:xb c ac)(h1:jB t a)(h2:jB u b):jB (F6 c t u) (vD ac a b):=
 ⟨fun w0 w e x q E=>hc.go w e q fun k M1 H1 O1 q1 k1 w1=>by
  cases k with
  | true=>exact h1.go w0 w1 (e.ext k1) (x.trans k1) q1 E
  | false=>exact h2.go w0 w1 (e.ext k1) (x.trans k1) q1 E⟩
noncomputable def Be:AS:=fun _ _ _ _=>False
theorem VV:jB KG Be:=⟨fun _ _ _ _ q _=>q.elim⟩
structure yR (g:TG)(a:AG):Prop where
 go:∀ {v:V} {x:AV} {σ:St} {H:Hp} {O:Own} {ρ:ASt} {M:MH} {Q:St->Hp->Prop} {Q':ASt->MH->Prop},Wf H O M->Er H O M σ ρ->zD H O M v x->a x ρ M Q' ->
  (∀ σ' H' O' ρ' M',Q' ρ' M'->Ext H O M H' O' M'->Wf H' O' M'->Er H' O' M' σ' ρ'->Q σ' H')->g v σ H Q
structure Kc (g:TGs)(a:AGs):Prop where
 go:∀ {v:List V} {x:List AV} {σ:St} {H:Hp} {O:Own} {ρ:ASt} {M:MH} {Q:St->Hp->Prop} {Q':ASt->MH->Prop},Wf H O M->Er H O M σ ρ->zi H O M v x->a x ρ M Q' ->
  (∀ σ' H' O' ρ' M',Q' ρ' M'->Ext H O M H' O' M'->Wf H' O' M'->Er H' O' M' σ' ρ'->Q σ' H')->g v σ H Q
noncomputable def jQ (i:Nat):AG:=fun x ρ M Q=>Q (ρ.set i (some x)) M
theorem Vq {i:Nat}:yR (JW i) (jQ i):=⟨fun w e r q k=>k _ _ _ _ _ q .refl w (e.set r i)⟩
noncomputable def JE:AGs:=fun xs ρ M Q=>xs=[]/\Q ρ M
noncomputable def xh (a:AG)(b:AGs):AGs:=fun xs ρ M Q=>∃ x r,xs=x :: r/\a x ρ M fun ρ' M'=>b r ρ' M' Q
theorem As:Kc Lx JE:=⟨fun w e r q k=>by obtain ⟨e1,q⟩:=q;subst e1;exact ⟨r.nil_inv,k _ _ _ _ _ q .refl w e⟩⟩
theorem Vo {g:TG}{u:TGs}{a:AG}{b:AGs}(h1:yR g a)(h2:Kc u b):Kc (W0 g u) (xh a b):=⟨fun w e r q k=>by
 obtain ⟨x,r',e1,q⟩:=q;subst e1
 obtain ⟨v,vr,e2,rv,rr⟩:=r.cons_inv
 subst e2
 exact ⟨v,vr,rfl,h1.go w e rv q fun σ' H' O' ρ' M' q1 k1 w1 e1=>h2.go w1 e1 (rr.ext k1) q1 fun σ2 H2 O2 ρ2 M2 q2 k2 w2 e2=>k _ _ _ _ _ q2 (k1.trans k2) w2 e2⟩⟩
noncomputable def G7 (n:Nat)(b:AGs):AG:=fun x ρ M Q=>∃ l,x=.d (.tup l)/\l.length=n/\b (l.map .d) ρ M Q
theorem DF {K:PySem.W.Frag}{n:Nat}{u:TGs}{b:AGs}(h:Kc u b):yR (BQ K n u) (G7 n b):=⟨fun {v x σ H O ρ M Q Q'} w e r q k=>by
 obtain ⟨l,e1,ln,q⟩:=q;subst e1
 cases (show Rep H O v (.tup l) from r) with
 | @tup a xs _ o1 h1 l1 r1=>exact ⟨a,xs,rfl,SqT.of h1,l1.trans ln,h.go w e (Wk.av ⟨l1,r1⟩) q k⟩⟩
noncomputable def qC (x:AV)(M:MH):Option (List AV):=match x with
 | .d (.lst l)=>some (l.map .d)
 | .ref a=>match M a with
  | some (.lst l)=>some l
  | _=>none
 | _=>none
noncomputable def Lb (x:AV):Option (List AV):=match x with
 | .d (.tup l)=>some (l.map .d)
 | _=>none
noncomputable def zW (x:AV)(M:MH):Option (List AV):=match x with
 | .d (.lst l)=>some (l.map .d)
 | .d (.tup l)=>some (l.map .d)
 | .ref a=>match M a with
  | some (.lst l)=>some l
  | _=>none
 | _=>none
theorem yS (l:List Dat)(M:MH):qC (.d (.lst l)) M=some (l.map .d):=rfl
theorem LP (l:List Dat):Lb (.d (.tup l))=some (l.map .d):=rfl
theorem y9 (l:List Dat)(M:MH):zW (.d (.lst l)) M=some (l.map .d):=rfl
theorem HU (l:List Dat)(M:MH):zW (.d (.tup l)) M=some (l.map .d):=rfl
theorem kC {a:Addr}{M:MH}{l:List AV}(h:M a=some (.lst l)):qC (.ref a) M=some l:=by unfold qC;dsimp only;rw [h]
theorem qN {a:Addr}{M:MH}{l:List AV}(h:M a=some (.lst l)):zW (.ref a) M=some l:=by unfold zW;dsimp only;rw [h]
theorem yn {x:AV}{M:MH}{l:List AV}(h:qC x M=some l):(∃ m,x=.d (.lst m)/\l=m.map .d) \/ ∃ a,x=.ref a/\M a=some (.lst l):=by
 cases x with
 | d x=>
  cases x with
  | lst m=>cases h;exact .inl ⟨m,rfl,rfl⟩
  | _=>cases h
 | ref a=>
  unfold qC at h
  dsimp only at h
  cases e:M a with
  | none=>rw [e] at h;cases h
  | some o=>
   rw [e] at h
   cases o with
   | lst m=>cases h;exact .inr ⟨a,rfl,e⟩
   | _=>cases h
theorem jy {x:AV}{M:MH}{l:List AV}(h:zW x M=some l):qC x M=some l \/ ∃ m,x=.d (.tup m)/\l=m.map .d:=by
 cases x with
 | d x=>
  cases x with
  | lst m=>cases h;exact .inl rfl
  | tup m=>cases h;exact .inr ⟨m,rfl,rfl⟩
  | _=>cases h
 | ref a=>exact .inl h
theorem qA {H:Hp}{O:Own}{M:MH}{v:V}{x:AV}{l:List AV}(w:Wf H O M)(r:zD H O M v x)(h:qC x M=some l):∃ a xs,v=.ref a/\H a=some (.lst xs)/\zi H O M xs l:=by
 rcases yn h with ⟨m,rfl,rfl⟩ | ⟨a,rfl,e⟩
 ·cases (show Rep H O v (.lst m) from r) with
  | @lst a xs _ o1 h1 l1 r1=>exact ⟨a,xs,rfl,h1,Wk.av ⟨l1,r1⟩⟩
 ·obtain ⟨xs,h1,r1⟩:=w.mo a _ e
  exact ⟨a,xs,r.1,h1,r1⟩
theorem jO {H:Hp}{O:Own}{M:MH}{v:V}{x:AV}{l:List AV}(r:zD H O M v x)(h:Lb x=some l):∃ a xs,v=.ref a/\H a=some (.tup xs)/\zi H O M xs l:=by
 cases x with
 | ref a=>cases h
 | d x=>
  cases x with
  | tup m=>
   cases h
   cases (show Rep H O v (.tup m) from r) with
   | @tup a xs _ o1 h1 l1 r1=>exact ⟨a,xs,rfl,h1,Wk.av ⟨l1,r1⟩⟩
  | _=>cases h
theorem QD {H:Hp}{O:Own}{M:MH}{v:V}{x:AV}{l:List AV}(w:Wf H O M)(r:zD H O M v x)(h:zW x M=some l):∃ a xs,v=.ref a/\(H a=some (.lst xs) \/ H a=some (.tup xs))/\zi H O M xs l:=by
 rcases jy h with e | ⟨m,rfl,rfl⟩
 ·obtain ⟨a,xs,h1,h2,h3⟩:=qA w r e;exact ⟨a,xs,h1,.inl h2,h3⟩
 ·obtain ⟨a,xs,h1,h2,h3⟩:=jO (l:=m.map .d) r rfl;exact ⟨a,xs,h1,.inr h2,h3⟩
structure BL (t:KI)(a:AV->AV->AV->MH->(MH->Prop)->Prop):Prop where
 go:∀ {o i v:V} {ao ai av:AV} {H:Hp} {O:Own} {M:MH} {Q:Hp->Prop} {Q':MH->Prop},Wf H O M->zD H O M o ao->zD H O M i ai->zD H O M v av->a ao ai av M Q'->(∀ M' H' O',Q' M'->Ext H O M H' O' M'->Wf H' O' M'->Q H')->t o i v H Q
noncomputable def xV (a b:AE)(s:AV->AV->AV->MH->(MH->Prop)->Prop):AG:=fun x ρ M Q=>a ρ M fun o M1=>b ρ M1 fun i M2=>s o i x M2 fun M3=>Q ρ M3
theorem AR {to ti:TE}{t:KI}{a b:AE}{s:AV->AV->AV->MH->(MH->Prop)->Prop}(h1:ql to a)(h2:ql ti b)(h3:BL t s):yR (Hd to ti t) (xV a b s):=⟨fun w e r q k=>
 h1.go w e q fun x M1 v H1 O1 q1 k1 w1 r1=>h2.go w1 (e.ext k1) q1 fun y M2 u H2 O2 q2 k2 w2 r2=>h3.go w2 (r1.ext k2) r2 (r.ext (k1.trans k2)) q2 fun M3 H3 O3 q3 k3 w3=>k _ _ _ _ _ q3 ((k1.trans k2).trans k3) w3 (e.ext ((k1.trans k2).trans k3))⟩
theorem jI {M:MH}{p:Addr}{o:MO}(h:M p=some o):M p ≠ none:=by rw [h];exact fun z=>nomatch z
noncomputable def asL:AV->AV->AV->MH->(MH->Prop)->Prop:=fun o i v M Q=>∃ p l k j,o=.ref p/\i=.d (.int k)/\M p=some (.lst l)/\ixN l.length k=some j/\Q (mup M p (.lst (l.set j v)))
theorem BJ:BL K9 asL:=⟨fun w ro ri rv q k=>by
 obtain ⟨p,l,n,j,rfl,rfl,hm,hj,q⟩:=q
 obtain ⟨xs,hx,rx⟩:=w.mo p _ hm
 have np:=jI hm
 refine ⟨n,zN ri,p,ro.1,xs,hx,j,by rw [rx.1];exact hj,k _ _ _ q (yD w np _ _) (Aq w np (fun _ z=>nomatch z) ⟨_,zf,(rx.set rv j).ext (yD w np _ _)⟩)⟩⟩
noncomputable def WO (a:AE)(g:AG):AS:=fun _ D ρ M=>a ρ M fun x M1=>g x ρ M1 D.nx
theorem EF {t:TE}{g:TG}{a:AE}{ag:AG}(h:ql t a)(hg:yR g ag):jB (VG t g) (WO a ag):=⟨fun _ w e x q E=>h.go w e q fun y M1 v H1 O1 q1 k1 w1 r1=>hg.go w1 (e.ext k1) r1 q1 fun σ2 H2 O2 ρ2 M2 q2 k2 w2 e2=>E.nx _ _ _ _ _ w2 e2 ((x.trans k1).trans k2) q2⟩
noncomputable def Ih (i j:Nat)(a:AA):AS:=fun _ D ρ M=>a ρ M fun xs M1=>∃ x y,xs=[x,y]/\D.nx ((ρ.set i (some x)).set j (some y)) M1
theorem FN {i j:Nat}{t:TA}{a:AA}(h:kF t a):jB (LS i j t) (Ih i j a):=⟨fun _ w e x q E=>h.go w e q fun ys M1 vs H1 O1 q1 k1 w1 r1=>by
 obtain ⟨y,z,rfl,q2⟩:=q1
 obtain ⟨v1,r',rfl,a1,r2⟩:=r1.cons_inv
 obtain ⟨v2,r',rfl,a2,r3⟩:=r2.cons_inv
 rw [r3.nil_inv]
 exact ⟨v1,v2,rfl,E.nx _ _ _ _ _ w1 (((e.ext k1).set a1 i).set a2 j) (x.trans k1) q2⟩⟩
noncomputable def GP (i j m:Nat)(a:AA):AS:=fun _ D ρ M=>a ρ M fun xs M1=>∃ x y z,xs=[x,y,z]/\D.nx (((ρ.set i (some x)).set j (some y)).set m (some z)) M1
theorem DZ {i j m:Nat}{t:TA}{a:AA}(h:kF t a):jB (Aj i j m t) (GP i j m a):=⟨fun _ w e x q E=>h.go w e q fun ys M1 vs H1 O1 q1 k1 w1 r1=>by
 obtain ⟨y,z,u,rfl,q2⟩:=q1
 obtain ⟨v1,r',rfl,a1,r2⟩:=r1.cons_inv
 obtain ⟨v2,r',rfl,a2,r3⟩:=r2.cons_inv
 obtain ⟨v3,r',rfl,a3,r4⟩:=r3.cons_inv
 rw [r4.nil_inv]
 exact ⟨v1,v2,v3,rfl,E.nx _ _ _ _ _ w1 ((((e.ext k1).set a1 i).set a2 j).set a3 m) (x.trans k1) q2⟩⟩
structure GE (t:TIp)(a:AR2):Prop where
 go:∀ {x y:V} {dx dy:AV} {H:Hp} {O:Own} {M:MH} {Q:VK} {Q':AK},Wf H O M->zD H O M x dx->zD H O M y dy->a dx dy M Q'->(∀ x M' v H' O',Q' x M'->Ext H O M H' O' M'->Wf H' O' M'->zD H' O' M' v x->Q v H')->t x y H Q
noncomputable def MA (i:Nat)(a:AE)(r:AR2):AS:=fun _ D ρ M=>∃ x,ρ[i]?=some (some x)/\a ρ M fun y M1=>r x y M1 fun z M2=>D.nx (ρ.set i (some z)) M2
theorem FI {i:Nat}{t:TE}{ti:TIp}{a:AE}{r:AR2}(h:ql t a)(hi:GE ti r):jB (Ia i t ti) (MA i a r):=⟨fun _ w e x q E=>by
 obtain ⟨y,hy,q⟩:=q
 obtain ⟨v,hv,rv⟩:=e.get i y hy
 exact ⟨v,hv,h.go w e q fun z M1 u H1 O1 q1 k1 w1 r1=>hi.go w1 (rv.ext k1) r1 q1 fun z2 M2 v2 H2 O2 q2 k2 w2 r2=>E.nx _ _ _ _ _ w2 ((e.ext (k1.trans k2)).set r2 i) (x.trans (k1.trans k2)) q2⟩⟩
noncomputable def Hv (c:AT)(b:AS):AS:=fun B D ρ M=>∃ W:Nat->ASt->MH->Prop,(∃ m,W m ρ M)/\∀ m ρ M,W m ρ M->c ρ M fun k M1=>if k=true then b B { D with nx:=fun ρ' M'=>∃ m',m'<m/\W m' ρ' M',ct:=fun ρ' M'=>∃ m',m'<m/\W m' ρ' M',bk:=D.nx } ρ M1 else D.nx ρ M1
theorem Vw {c:TT}{t:TS}{ac:AT}{a:AS}(hc:xb c ac)(h:jB t a):jB (KH c t) (Hv ac a):=⟨fun {H0 O0 M0 D D' σ H O ρ M} w0 w e x q E=>by
 obtain ⟨W,⟨m,h0⟩,st⟩:=q
 refine ⟨fun m σ H=>∃ O ρ M,Wf H O M/\Er H O M σ ρ/\Ext H0 O0 M0 H O M/\W m ρ M,⟨m,O,ρ,M,w,e,x,h0⟩,?_⟩
 rintro m σ H ⟨O,ρ,M,w,e,x,hw⟩
 refine hc.go w e (st m ρ M hw) fun k M1 H1 O1 q1 k1 w1=>?_
 cases k with
 | false=>exact E.nx _ _ _ _ _ w1 (e.ext k1) (x.trans k1) q1
 | true=>exact ⟨fun σ' H'=>∃ m',m'<m/\∃ O ρ M,Wf H' O M/\Er H' O M σ' ρ/\Ext H0 O0 M0 H' O M/\W m' ρ M,fun σ' H' z=>z,h.go w0 w1 (e.ext k1) (x.trans k1) q1 ⟨fun σ H O ρ M w e x ⟨m',hm,hw⟩=>⟨m',hm,O,ρ,M,w,e,x,hw⟩,E.rt,E.nx,fun σ H O ρ M w e x ⟨m',hm,hw⟩=>⟨m',hm,O,ρ,M,w,e,x,hw⟩⟩⟩⟩
noncomputable def yW (J:It)(H:Hp)(O:Own)(M:MH)(l:List AV)(G:MH->Prop):Prop:=
 ∀ (H':Hp) (O':Own) (M':MH),(∀ a o,¬ O a->H a=some o->H' a=some o/\¬ O' a)->(∀ a,M a ≠ none->M' a ≠ none)->Wf H' O' M'->G M'->∀ i:Nat,(i=l.length->J.stop i H') /\
  ∀ y,l[i]?=some y->J.go i H'/\∀ x H'',J.yld i H' x H''->Ext H' O' M' H'' O' M'/\Wf H'' O' M'/\zD H'' O' M' x y
structure wf (wi:TI)(ai:AI):Prop where
 go:∀ {σ:St} {H:Hp} {O:Own} {ρ:ASt} {M:MH} {R:It->Hp->Prop} {R':List AV->(MH->Prop)->MH->Prop},Wf H O M->Er H O M σ ρ->ai ρ M R'->(∀ l G M' J H' O',R' l G M'->Ext H O M H' O' M'->Wf H' O' M'->yW J H' O' M' l G->R J H')->wi σ H R
noncomputable def Mu (ag:AG)(ab:AS)(B:MH)(D:j5)(G:MH->Prop)(l:List AV)(ρ:ASt)(M:MH):Prop:=
 ∃ Pv:Nat->ASt->MH->Prop,Pv 0 ρ M/\(∀ i x ρ M,l[i]?=some x->Pv i ρ M->G M/\ag x ρ M fun ρ' M'=>ab B { D with nx:=Pv (i+1),ct:=Pv (i+1),bk:=D.nx } ρ' M')/\∀ ρ M,Pv l.length ρ M->G M/\D.nx ρ M
noncomputable def Ff (ai:AI)(ag:AG)(ab:AS):AS:=fun _ D ρ M=>ai ρ M fun l G M1=>Mu ag ab M1 D G l ρ M1
theorem EE {wi:TI}{g:TG}{t:TS}{ai:AI}{ag:AG}{ab:AS}(hi:wf wi ai)(hg:yR g ag)(hb:jB t ab):jB (Ge wi g t) (Ff ai ag ab):=⟨fun {H0 O0 M0 D D' σ H O ρ M} w0 w e x q E=>by
 rw [QK]
 refine hi.go w e q fun l G M1 J H1 O1 q1 k1 w1 hj=>?_
 have E1:=E.tr (x.trans k1)
 obtain ⟨Pv,p0,ps,pd⟩:=q1
 refine ⟨fun i m σ H=>m=l.length - i/\i<=l.length/\∃ O ρ M,Wf H O M/\Er H O M σ ρ/\Ext H1 O1 M1 H O M/\Pv i ρ M,⟨l.length,by simp,Nat.zero_le _,O1,ρ,M1,w1,e.ext k1,.refl,p0⟩,?_⟩
 rintro i m σ H ⟨rfl,hi,O,ρ,M,w,e,x,hf⟩
 by_cases hil:i<l.length
 ·have hy:l[i]?=some l[i]:=List.getElem?_eq_getElem hil
  obtain ⟨hG,q2⟩:=ps i l[i] ρ M hy hf
  obtain ⟨j1,j2⟩:=(hj H O M x.fix x.mst w hG i).2 l[i] hy
  refine .inr ⟨j1,fun σ' H'=>∃ O ρ M,Wf H' O M/\Er H' O M σ' ρ/\Ext H1 O1 M1 H' O M/\Pv (i+1) ρ M,fun σ' H' z=>⟨l.length - (i+1),by omega,rfl,hil,z⟩,fun v H' hv=>?_⟩
  obtain ⟨k2,w2,r2⟩:=j2 v H' hv
  refine hg.go w2 (e.ext k2) r2 q2 fun σ3 H3 O3 ρ3 M3 q3 k3 w3 e3=>?_
  exact hb.go w1 w3 e3 ((x.trans k2).trans k3) q3 ⟨fun σ H O ρ M w e x q=>⟨O,ρ,M,w,e,x,q⟩,E1.rt,E1.nx,fun σ H O ρ M w e x q=>⟨O,ρ,M,w,e,x,q⟩⟩
 ·have e0:i=l.length:=by omega
  subst e0
  obtain ⟨hG,q2⟩:=pd ρ M hf
  exact .inl ⟨(hj H O M x.fix x.mst w hG l.length).1 rfl,E1.nx _ _ _ _ _ w e x q2⟩⟩
theorem xC {H H1:Hp}{O O1:Own}{M M1:MH}(w1:Wf H1 O1 M1)(k1:Ext H O M H1 O1 M1){p:Addr}(hp:H1 p=none):H p=none:=by
 cases e0:H p with
 | none=>rfl
 | some o=>
  exfalso
  by_cases c:O p
  ·by_cases c2:M p=none
   ·exact w1.ne p (k1.prv p c c2).2.1 hp
   ·exact w1.ne p (w1.own p (k1.mst p c2)) hp
  ·rw [(k1.fix p o c e0).1] at hp;cases hp
theorem V1 {K:PySem.W.Frag}{H:Hp}{O:Own}{M:MH}{a:Addr}{x:AV}{l:List AV}(r:zD H O M (.ref a) x)(h:qC x M=some l):yW (Itl K a) H O M l (fun M'=>qC x M'=some l):=by
 intro H' O' M' fix mst w' hG i
 obtain ⟨a',xs,e,h1,r1⟩:=qA w' (r.imp fix mst) hG
 cases e
 refine ⟨fun e=>⟨xs,SqL.of h1,by rw [r1.1];omega⟩,fun y hy=>?_⟩
 obtain ⟨v,hv,rv⟩:=r1.get hy
 refine ⟨⟨xs,v,SqL.of h1,hv⟩,fun z H'' hz=>?_⟩
 obtain ⟨e1,e2⟩:=hz
 subst e1
 have:=e2 xs (SqL.of h1)
 rw [hv] at this;cases this
 exact ⟨.refl,w',rv⟩
theorem Dw {K:PySem.W.Frag}{H:Hp}{O:Own}{M:MH}{a:Addr}{x:AV}{l:List AV}(r:zD H O M (.ref a) x)(h:Lb x=some l):yW (Itt K a) H O M l (fun _=>True):=by
 intro H' O' M' fix mst w' hG i
 obtain ⟨a',xs,e,h1,r1⟩:=jO (r.imp fix mst) h
 cases e
 refine ⟨fun e=>⟨xs,SqT.of h1,by rw [r1.1];omega⟩,fun y hy=>?_⟩
 obtain ⟨v,hv,rv⟩:=r1.get hy
 refine ⟨⟨xs,v,SqT.of h1,hv⟩,fun z H'' hz=>?_⟩
 obtain ⟨e1,e2⟩:=hz
 subst e1
 have:=e2 xs (SqT.of h1)
 rw [hv] at this;cases this
 exact ⟨.refl,w',rv⟩
noncomputable def aiS (a:AE):AI:=fun ρ M R=>a ρ M fun x M1=>∃ l,zW x M1=some l/\R l (fun M'=>zW x M'=some l) M1
theorem yW.mono {J:It}{H:Hp}{O:Own}{M:MH}{l:List AV}{G G':MH->Prop}(h:yW J H O M l G)(k:∀ M,G' M->G M):yW J H O M l G':=fun H' O' M' fix mst w' hG=>h H' O' M' fix mst w' (k _ hG)
theorem Iv {K:PySem.W.Frag}{t:TE}{a:AE}(h:ql t a):wf (iLT K t) (aiS a):=⟨fun w e q k=>h.go w e q fun x M1 v H1 O1 ⟨l,hl,q1⟩ k1 w1 r1=>by
 rcases jy hl with hl' | ⟨m,rfl,rfl⟩
 ·obtain ⟨a,xs,rfl,h1,_⟩:=qA w1 r1 hl'
  refine ⟨a,rfl,.inl ⟨⟨xs,SqL.of h1⟩,k _ _ _ _ _ _ q1 k1 w1 ((V1 r1 hl').mono fun M hM=>?_)⟩⟩
  rcases jy hM with z | ⟨m,rfl,rfl⟩
  ·exact z
  ·cases hl'
 ·obtain ⟨a,xs,rfl,h1,_⟩:=jO (l:=m.map .d) r1 rfl
  exact ⟨a,rfl,.inr ⟨⟨xs,SqT.of h1⟩,k _ _ _ _ _ _ q1 k1 w1 ((Dw r1 rfl).mono fun _ _=>trivial)⟩⟩⟩
noncomputable def Ji (lo c:Int)(n:Nat):List AV:=(List.range n).map fun (k:Nat)=>.d (.int (lo+(k:Int) * c))
theorem J3 (lo c:Int)(n:Nat):(Ji lo c n).length=n:=by simp [Ji]
theorem JJ {lo c:Int}{n i:Nat}{y:AV}(h:(Ji lo c n)[i]?=some y):i<n/\y=.d (.int (lo+(i:Int) * c)):=by
 have hi:=(List.getElem?_eq_some_iff.mp h).1
 rw [J3] at hi
 unfold Ji at h
 rw [List.getElem?_map,List.getElem?_range hi] at h
 cases h
 exact ⟨hi,rfl⟩
theorem Az {H:Hp}{O:Own}{M:MH}(lo:Int)(n:Nat):yW (Itr lo n) H O M (Ji lo 1 n) (fun _=>True):=by
 intro H' O' M' fix mst w' hG i
 refine ⟨fun e=>by rw [J3] at e;exact Nat.le_of_eq e.symm,fun y hy=>?_⟩
 obtain ⟨hi,rfl⟩:=JJ hy
 refine ⟨hi,fun z H'' hz=>?_⟩
 obtain ⟨rfl,rfl⟩:=hz
 rw [Int.mul_one]
 exact ⟨.refl,w',.int⟩
noncomputable def Mn (a:AA):AI:=fun ρ M R=>a ρ M fun xs M1=>∃ j:Int,xs=[.d (.int j)]/\-(2 ^ 62)<=j/\j<2 ^ 62/\R (Ji 0 1 j.toNat) (fun _=>True) M1
theorem FT {t:TA}{a:AA}(h:kF t a):wf (A9 t) (Mn a):=⟨fun w e q k=>h.go w e q fun x M1 v H1 O1 ⟨j,e1,j1,j2,q1⟩ k1 w1 r1=>by
 subst e1
 obtain ⟨v1,r',rfl,a1,r2⟩:=r1.cons_inv
 rw [r2.nil_inv,zN a1]
 exact ⟨j,rfl,j1,j2,k _ _ _ _ _ _ q1 k1 w1 (Az _ _)⟩⟩
noncomputable def wN (m:List Dat):List AV:=(List.range m.length).map fun (i:Nat)=>.d (.tup [.int (i:Int),m.getD i .non])
theorem jL (m:List Dat):(wN m).length=m.length:=by simp [wN]
theorem kB {m:List Dat}{i:Nat}{y:AV}(h:(wN m)[i]?=some y):∃ d,m[i]?=some d/\y=.d (.tup [.int (i:Int),d]):=by
 have hi:=(List.getElem?_eq_some_iff.mp h).1
 rw [jL] at hi
 unfold wN at h
 rw [List.getElem?_map,List.getElem?_range hi] at h
 cases h
 exact ⟨m[i],List.getElem?_eq_getElem hi,by dsimp only;rw [List.getD_eq_getElem?_getD,List.getElem?_eq_getElem hi];rfl⟩
theorem yl {H:Hp}{O:Own}{M:MH}(w:Wf H O M){p:Addr}(hp:H p=none){x y:V}{d e:Dat}(r1:Rep H O x d)(r2:Rep H O y e):Ext H O M (upd H p (.tup [x,y])) O M/\Wf (upd H p (.tup [x,y])) O M/\zD (upd H p (.tup [x,y])) O M (.ref p) (.d (.tup [d,e])):=
 ⟨jr w hp _,wt w hp _,Rep.tup (w.fresh hp).1 zf rfl fun i z f h1 h2=>by
  match i,h1,h2 with
  | 0,h1,h2=>cases h1;cases h2;exact r1.ext (jr w hp _)
  | 1,h1,h2=>cases h1;cases h2;exact r2.ext (jr w hp _)
  | (i+2),h1,_=>cases h1⟩
theorem Wj {K:PySem.W.Frag}{H:Hp}{O:Own}{M:MH}{a:Addr}{x:AV}{m:List Dat}(r:zD H O M (.ref a) x)(h:qC x M=some (m.map .d)):yW (Ite K a) H O M (wN m) (fun M'=>qC x M'=some (m.map .d)):=by
 intro H' O' M' fix mst w' hG i
 obtain ⟨a',xs,e,h1,r1⟩:=qA w' (r.imp fix mst) hG
 cases e
 have l1:=r1.1
 rw [List.length_map] at l1
 refine ⟨fun e=>⟨xs,SqL.of h1,by rw [jL] at e;omega⟩,fun y hy=>?_⟩
 obtain ⟨d,hd,rfl⟩:=kB hy
 obtain ⟨v,hv,rv⟩:=r1.get (i:=i) (d:=.d d) (by rw [List.getElem?_map,hd];rfl)
 refine ⟨⟨xs,v,SqL.of h1,hv⟩,fun z H'' hz=>?_⟩
 obtain ⟨p,x',hp,rfl,e2,rfl⟩:=hz
 have:=e2 xs (SqL.of h1)
 rw [hv] at this;cases this
 exact yl w' hp .int rv
theorem Xo {K:PySem.W.Frag}{H:Hp}{O:Own}{M:MH}{a:Addr}{m:List Dat}(r:zD H O M (.ref a) (.d (.tup m))):yW (F2 K a) H O M (wN m) (fun _=>True):=by
 intro H' O' M' fix mst w' hG i
 obtain ⟨a',xs,e,h1,r1⟩:=jO (l:=m.map .d) (r.imp fix mst) rfl
 cases e
 have l1:=r1.1
 rw [List.length_map] at l1
 refine ⟨fun e=>⟨xs,SqT.of h1,by rw [jL] at e;omega⟩,fun y hy=>?_⟩
 obtain ⟨d,hd,rfl⟩:=kB hy
 obtain ⟨v,hv,rv⟩:=r1.get (i:=i) (d:=.d d) (by rw [List.getElem?_map,hd];rfl)
 refine ⟨⟨xs,v,SqT.of h1,hv⟩,fun z H'' hz=>?_⟩
 obtain ⟨p,x',hp,rfl,e2,rfl⟩:=hz
 have:=e2 xs (SqT.of h1)
 rw [hv] at this;cases this
 exact yl w' hp .int rv
noncomputable def aiE (a:AA):AI:=fun ρ M R=>a ρ M fun xs M1=>∃ x l m,xs=[x]/\zW x M1=some l/\pur l=some m/\R (wN m) (fun M'=>zW x M'=some l) M1
theorem XI {x:AV}{M M':MH}{l l':List AV}(h:qC x M=some l)(h':zW x M'=some l'):qC x M'=some l':=by
 rcases jy h' with z | ⟨m,rfl,rfl⟩
 ·exact z
 ·cases h
theorem Lw {K:PySem.W.Frag}{t:TA}{a:AA}(h:kF t a):wf (QC K t) (aiE a):=⟨fun w e q k=>h.go w e q fun xs M1 v H1 O1 ⟨x,l,m,e1,hl,hm,q1⟩ k1 w1 r1=>by
 subst e1
 obtain ⟨v1,r',rfl,a1,r2⟩:=r1.cons_inv
 rw [r2.nil_inv]
 rw [j9 hm] at hl q1
 rcases jy hl with hl' | ⟨m',rfl,e2⟩
 ·obtain ⟨a,xs,rfl,h1,_⟩:=qA w1 a1 hl'
  exact ⟨a,rfl,.inl ⟨⟨xs,SqL.of h1⟩,k _ _ _ _ _ _ q1 k1 w1 ((Wj a1 hl').mono fun M hM=>XI hl' hM)⟩⟩
 ·obtain rfl:m=m':=by have:=congrArg pur e2;rw [qd,qd] at this;cases this;rfl
  obtain ⟨a,xs,rfl,h1,_⟩:=jO (l:=m.map .d) a1 rfl
  exact ⟨a,rfl,.inr ⟨⟨xs,SqT.of h1⟩,k _ _ _ _ _ _ q1 k1 w1 ((Xo a1).mono fun _ _=>trivial)⟩⟩⟩
noncomputable def K1 (m n:List Dat):List AV:=(List.range (min m.length n.length)).map fun (i:Nat)=>.d (.tup [m.getD i .non,n.getD i .non])
theorem yE (m n:List Dat):(K1 m n).length=min m.length n.length:=by simp [K1]
theorem Zl {m n:List Dat}{i:Nat}{y:AV}(h:(K1 m n)[i]?=some y):∃ d e,m[i]?=some d/\n[i]?=some e/\y=.d (.tup [d,e]):=by
 have hi:=(List.getElem?_eq_some_iff.mp h).1
 rw [yE] at hi
 unfold K1 at h
 rw [List.getElem?_map,List.getElem?_range hi] at h
 cases h
 have h1:i<m.length:=by omega
 have h2:i<n.length:=by omega
 exact ⟨m[i],n[i],List.getElem?_eq_getElem h1,List.getElem?_eq_getElem h2,by dsimp only;rw [List.getD_eq_getElem?_getD,List.getElem?_eq_getElem h1,List.getD_eq_getElem?_getD,List.getElem?_eq_getElem h2];rfl⟩
theorem Bj {K:PySem.W.Frag}{H:Hp}{O:Own}{M:MH}{a b:Addr}{x y:AV}{m n:List Dat}(r:zD H O M (.ref a) x)(h:qC x M=some (m.map .d))(r':zD H O M (.ref b) y)(h':qC y M=some (n.map .d)):yW (Itz K a b) H O M (K1 m n) (fun M'=>qC x M'=some (m.map .d)/\qC y M'=some (n.map .d)):=by
 intro H' O' M' fix mst w' hG i
 obtain ⟨a',xs,e,h1,r1⟩:=qA w' (r.imp fix mst) hG.1
 cases e
 obtain ⟨b',ys,e,h2,r2⟩:=qA w' (r'.imp fix mst) hG.2
 cases e
 have l1:=r1.1
 have l2:=r2.1
 rw [List.length_map] at l1 l2
 refine ⟨fun e=>⟨xs,ys,SqL.of h1,SqL.of h2,by rw [yE] at e;omega⟩,fun z hz=>?_⟩
 obtain ⟨d,f,hd,hf,rfl⟩:=Zl hz
 obtain ⟨v,hv,rv⟩:=r1.get (i:=i) (d:=.d d) (by rw [List.getElem?_map,hd];rfl)
 obtain ⟨u,hu,ru⟩:=r2.get (i:=i) (d:=.d f) (by rw [List.getElem?_map,hf];rfl)
 refine ⟨⟨xs,ys,v,u,SqL.of h1,SqL.of h2,hv,hu⟩,fun z H'' hz=>?_⟩
 obtain ⟨p,x',y',hp,rfl,e2,e3,rfl⟩:=hz
 have:=e2 xs (SqL.of h1)
 rw [hv] at this;cases this
 have:=e3 ys (SqL.of h2)
 rw [hu] at this;cases this
 exact yl w' hp rv ru
theorem VO {K:PySem.W.Frag}{H:Hp}{O:Own}{M:MH}{a b:Addr}{m n:List Dat}(hmn:m.length<=n.length)(r:zD H O M (.ref a) (.d (.tup m)))(r':zD H O M (.ref b) (.d (.tup n))):yW (Iy K a b) H O M (K1 m n) (fun _=>True):=by
 intro H' O' M' fix mst w' hG i
 obtain ⟨a',xs,e,h1,r1⟩:=jO (l:=m.map .d) (r.imp fix mst) rfl
 cases e
 obtain ⟨b',ys,e,h2,r2⟩:=jO (l:=n.map .d) (r'.imp fix mst) rfl
 cases e
 have l1:=r1.1
 have l2:=r2.1
 rw [List.length_map] at l1 l2
 refine ⟨fun e=>⟨xs,SqT.of h1,by rw [yE] at e;omega⟩,fun z hz=>?_⟩
 obtain ⟨d,f,hd,hf,rfl⟩:=Zl hz
 obtain ⟨v,hv,rv⟩:=r1.get (i:=i) (d:=.d d) (by rw [List.getElem?_map,hd];rfl)
 obtain ⟨u,hu,ru⟩:=r2.get (i:=i) (d:=.d f) (by rw [List.getElem?_map,hf];rfl)
 refine ⟨⟨xs,ys,v,u,SqT.of h1,SqT.of h2,hv,hu⟩,fun z H'' hz=>?_⟩
 obtain ⟨p,x',y',hp,rfl,e2,e3,rfl⟩:=hz
 have:=e2 xs (SqT.of h1)
 rw [hv] at this;cases this
 have:=e3 ys (SqT.of h2)
 rw [hu] at this;cases this
 exact yl w' hp rv ru
noncomputable def Mc (a:AA):AI:=fun ρ M R=>a ρ M fun xs M1=>∃ x y m n,xs=[x,y]/\((qC x M1=some (List.map AV.d m)/\qC y M1=some (List.map AV.d n)) \/ (x=.d (.tup m)/\y=.d (.tup n)/\m.length<=n.length))/\R (K1 m n) (fun M'=>qC x M'=qC x M1/\qC y M'=qC y M1) M1
theorem EK {K:PySem.W.Frag}{t:TA}{a:AA}(h:kF t a):wf (Xf K t) (Mc a):=⟨fun w e q k=>h.go w e q fun xs M1 v H1 O1 ⟨x,y,m,n,e1,hxy,q1⟩ k1 w1 r1=>by
 subst e1
 obtain ⟨v1,r',rfl,a1,r2⟩:=r1.cons_inv
 obtain ⟨v2,r',rfl,a2,r3⟩:=r2.cons_inv
 rw [r3.nil_inv]
 rcases hxy with ⟨hx,hy⟩ | ⟨rfl,rfl,hmn⟩
 ·obtain ⟨a,xs,rfl,h1,_⟩:=qA w1 a1 hx
  obtain ⟨b,ys,rfl,h2,_⟩:=qA w1 a2 hy
  exact ⟨a,b,rfl,.inl ⟨⟨xs,SqL.of h1⟩,⟨ys,SqL.of h2⟩,k _ _ _ _ _ _ q1 k1 w1 ((Bj a1 hx a2 hy).mono fun _ z=>⟨z.1.trans hx,z.2.trans hy⟩)⟩⟩
 ·obtain ⟨a,xs,rfl,h1,_⟩:=jO (l:=m.map .d) a1 rfl
  obtain ⟨b,ys,rfl,h2,_⟩:=jO (l:=n.map .d) a2 rfl
  exact ⟨a,b,rfl,.inr ⟨⟨xs,SqT.of h1⟩,⟨ys,SqT.of h2⟩,k _ _ _ _ _ _ q1 k1 w1 ((VO hmn a1 a2).mono fun _ _=>trivial)⟩⟩⟩
structure vB (D:Addr)(H:Hp)(O:Own)(M:MH)(H':Hp)(O':Own)(M':MH):Prop where
 fix:∀ a o,¬ O a->H a=some o->H' a=some o/\¬ O' a
 prv:∀ a,a ≠ D->O a->M a=none->H' a=H a/\O' a/\M' a=none
 mst:∀ a,M a ≠ none->M' a ≠ none
theorem Ext.x {D:Addr}{H H':Hp}{O O':Own}{M M':MH}(k:Ext H O M H' O' M'):vB D H O M H' O' M':=⟨k.fix,fun a _=>k.prv a,k.mst⟩
theorem vB.trans {D:Addr}{H H1 H2:Hp}{O O1 O2:Own}{M M1 M2:MH}(a:vB D H O M H1 O1 M1)(b:vB D H1 O1 M1 H2 O2 M2):vB D H O M H2 O2 M2:=
 ⟨fun x o h e=>let ⟨e1,h1⟩:=a.fix x o h e;b.fix x o h1 e1,fun x hx h e=>by
  obtain ⟨e1,h1,n1⟩:=a.prv x hx h e
  obtain ⟨e2,h2,n2⟩:=b.prv x hx h1 n1
  exact ⟨e2.trans e1,h2,n2⟩,fun x h=>b.mst x (a.mst x h)⟩
theorem vB.set {D:Addr}{H:Hp}{O:Own}{M:MH}(hO:O D)(o:HO):vB D H O M (upd H D o) O M:=⟨vJ hO o,fun a ha h e=>⟨zm ha,h,e⟩,fun _ h=>h⟩
theorem Er.imp {H H':Hp}{O O':Own}{M M':MH}{σ:St}{ρ:ASt}(e:Er H O M σ ρ)(k:∀ a o,¬ O a->H a=some o->H' a=some o/\¬ O' a)(hm:∀ a,M a ≠ none->M' a ≠ none):Er H' O' M' σ ρ:=⟨e.len,fun i x h=>let ⟨v,h1,h2⟩:=e.get i x h;⟨v,h1,h2.imp k hm⟩⟩
noncomputable abbrev ATR:=List AV->ASt->MH->(List AV->ASt->MH->Prop)->Prop
structure ZZ (D:Addr)(tr:TR)(a:ATR):Prop where
 go:∀ {σ:St} {H:Hp} {O:Own} {ρ:ASt} {M:MH} {acc:List AV} {ys:List V} {N:St->Hp->Prop} {N':List AV->ASt->MH->Prop},Wf H O M->Er H O M σ ρ->O D->M D=none->H D=some (.lst ys)->zi H O M ys acc->a acc ρ M N' ->
  (∀ acc' ρ' M' σ' H' O' ys',N' acc' ρ' M'->vB D H O M H' O' M'->Wf H' O' M'->Er H' O' M' σ' ρ'->O' D->M' D=none->H' D=some (.lst ys')->zi H' O' M' ys' acc'->N σ' H')->tr σ H N
noncomputable def v8 (a:AE):ATR:=fun acc ρ M N=>a ρ M fun x M1=>acc.length<sizeLine/\N (acc ++ [x]) ρ M1
theorem wQ {D:Addr}{t:TE}{a:AE}(h:ql t a):ZZ D (wJ t D) (v8 a):=⟨fun {σ H O ρ M acc ys N N'} w e o m hd r q k=>h.go w e q fun x M1 v H1 O1 ⟨q0,q1⟩ k1 w1 r1=>by
 obtain ⟨e1,o1,m1⟩:=k1.prv D o m
 have r':=r.ext k1
 refine ⟨ys,e1.trans hd,by rw [r.1];exact q0,k _ _ _ _ _ _ (ys ++ [v]) q1 (k1.x.trans (vB.set o1 _)) (Xl w1 o1 m1 (e1.trans hd) _ (fun _ z=>nomatch z)) ((e.ext k1).imp (vJ o1 _) (fun _ z=>z)) o1 m1 zf ((r'.snoc r1).imp (vJ o1 _) (fun _ z=>z))⟩⟩
noncomputable def K3 (ag:AG)(at_:AT)(tr:ATR)(G:MH->Prop)(N:List AV->ASt->MH->Prop)(l acc:List AV)(ρ:ASt)(M:MH):Prop:=
 ∃ Pv:Nat->List AV->ASt->MH->Prop,Pv 0 acc ρ M/\(∀ i x acc ρ M,l[i]?=some x->Pv i acc ρ M->G M/\ag x ρ M fun ρ2 M2=>at_ ρ2 M2 fun b M3=>if b=true then tr acc ρ2 M3 (Pv (i+1)) else Pv (i+1) acc ρ2 M3)/\∀ acc ρ M,Pv l.length acc ρ M->G M/\N acc ρ M
theorem W7 {D:Addr}{g:TG}{tt:TT}{tr:TR}{ag:AG}{at_:AT}{atr:ATR}(hg:yR g ag)(ht:xb tt at_)(hr:ZZ D tr atr){J:It}{H1:Hp}{O1:Own}{M1:MH}{l:List AV}{G:MH->Prop}(hj:yW J H1 O1 M1 l G){N':List AV->ASt->MH->Prop}{N:St->Hp->Prop}
  {σ:St} {ρ:ASt} {acc:List AV} {ys:List V} (w:Wf H1 O1 M1) (e:Er H1 O1 M1 σ ρ) (o:O1 D) (m:M1 D=none) (hd:H1 D=some (.lst ys)) (r:zi H1 O1 M1 ys acc) (q:K3 ag at_ atr G N' l acc ρ M1)
  (k:∀ acc' ρ' M' σ' H' O' ys',N' acc' ρ' M'->vB D H1 O1 M1 H' O' M'->Wf H' O' M'->Er H' O' M' σ' ρ'->O' D->M' D=none->H' D=some (.lst ys')->zi H' O' M' ys' acc'->N σ' H'):CL J g tt tr N σ H1:=by
 obtain ⟨Pv,p0,ps,pd⟩:=q
 refine ⟨fun i n σ H=>n=l.length - i/\i<=l.length/\∃ O ρ M acc ys,Wf H O M/\Er H O M σ ρ/\vB D H1 O1 M1 H O M/\O D/\M D=none/\H D=some (.lst ys)/\zi H O M ys acc/\Pv i acc ρ M,
  ⟨l.length,by simp,Nat.zero_le _,O1,ρ,M1,acc,ys,w,e,Ext.refl.x,o,m,hd,r,p0⟩,?_⟩
 rintro i n σ H ⟨rfl,hi,O,ρ,M,acc,ys,w,e,x,o,m,hd,r,hf⟩
 by_cases hil:i<l.length
 ·have hy:l[i]?=some l[i]:=List.getElem?_eq_getElem hil
  obtain ⟨hG,q2⟩:=ps i l[i] acc ρ M hy hf
  obtain ⟨j1,j2⟩:=(hj H O M x.fix x.mst w hG i).2 l[i] hy
  refine .inr ⟨j1,fun σ' H'=>∃ O ρ M acc ys,Wf H' O M/\Er H' O M σ' ρ/\vB D H1 O1 M1 H' O M/\O D/\M D=none/\H' D=some (.lst ys)/\zi H' O M ys acc/\Pv (i+1) acc ρ M,fun σ' H' z=>⟨l.length - (i+1),by omega,rfl,hil,z⟩,fun v H' hv=>?_⟩
  obtain ⟨k2,w2,r2⟩:=j2 v H' hv
  refine hg.go w2 (e.ext k2) r2 q2 fun σ3 H3 O3 ρ3 M3 q3 k3 w3 e3=>?_
  refine ht.go w3 e3 q3 fun b M4 H4 O4 q4 k4 w4=>?_
  have k24:=(k2.trans k3).trans k4
  obtain ⟨d4,o4,m4⟩:=k24.prv D o m
  have r4:=r.ext k24
  cases b with
  | true=>
   exact hr.go w4 (e3.ext k4) o4 m4 (d4.trans hd) r4 q4 fun acc' ρ' M' σ' H' O' ys' q5 k5 w5 e5 o5 m5 d5 r5=>⟨O',ρ',M',acc',ys',w5,e5,(x.trans k24.x).trans k5,o5,m5,d5,r5,q5⟩
  | false=>
   exact ⟨O4,ρ3,M4,acc,ys,w4,e3.ext k4,x.trans k24.x,o4,m4,d4.trans hd,r4,q4⟩
 ·have e0:i=l.length:=by omega
  subst e0
  obtain ⟨hG,q2⟩:=pd acc ρ M hf
  exact .inl ⟨(hj H O M x.fix x.mst w hG l.length).1 rfl,k _ _ _ _ _ _ _ q2 x w e o m hd r⟩
noncomputable def Xd (ai:AI)(ag:AG)(at_:AT)(atr:ATR):ATR:=fun acc ρ M N=>ai ρ M fun l G M1=>K3 ag at_ atr G N l acc ρ M1
theorem ZI {D:Addr}{wi:TI}{g:TG}{tt:TT}{tr:Addr->TR}{ai:AI}{ag:AG}{at_:AT}{atr:ATR}(hi:wf wi ai)(hg:yR g ag)(ht:xb tt at_)(hr:ZZ D (tr D) atr):ZZ D (Qj wi g tt tr D) (Xd ai ag at_ atr):=⟨fun w e o m hd r q k=>by
 refine hi.go w e q fun l G M1 J H1 O1 q1 k1 w1 hj=>?_
 obtain ⟨d1,o1,m1⟩:=k1.prv D o m
 exact W7 hg ht hr hj w1 (e.ext k1) o1 m1 (d1.trans hd) (r.ext k1) q1 fun acc' ρ' M' σ' H' O' ys' q5 k5 w5 e5 o5 m5 d5 r5=>k _ _ _ _ _ _ _ q5 (k1.x.trans k5) w5 e5 o5 m5 d5 r5⟩
noncomputable def Y5 (ts:List Nat)(ai:AI)(ag:AG)(at_:AT)(atr:ATR):AF:=fun ρ M Q=>ai ρ M fun l G M1=>K3 ag at_ atr G (fun acc _ M'=>Q acc M') l [] (EO ts ρ) M1
theorem we {ts:List Nat}{wi:TI}{g:TG}{tt:TT}{tr:Addr->TR}{ai:AI}{ag:AG}{at_:AT}{atr:ATR}(hi:wf wi ai)(hg:yR g ag)(ht:xb tt at_)(hr:∀ D,ZZ D (tr D) atr):Zq (wB ts wi g tt tr) (Y5 ts ai ag at_ atr):=⟨fun {σ H O ρ M Q Q'} w e q k=>by
 refine hi.go w e q fun l G M1 J H1 O1 q1 k1 w1 hj D hD=>?_
 have kp:=qY w1 hD (.lst [])
 have hj':yW J (upd H1 D (.lst [])) (Wg O1 D) M1 l G:=fun H' O' M' fix mst w' hG=>hj H' O' M' (fun a o ha ho=>fix a o (kp.fix a o ha ho).2 (kp.fix a o ha ho).1) mst w' hG
 refine W7 hg ht (hr D) hj' (yH w1 hD _ (fun _ z=>nomatch z)) (((e.ext k1).clr ts).ext kp) (.inl rfl) (w1.fresh hD).2 zf .nil q1 fun acc' ρ' M' σ' H' O' ys' q5 k5 w5 e5 o5 m5 d5 r5=>?_
 have hH:=xC w1 k1 hD
 refine k _ _ _ _ _ _ q5 ⟨fun a o ha ho=>?_,fun a ha hm=>?_,fun a hm=>k5.mst a (k1.mst a hm)⟩ w5 o5 m5 hH d5 r5
 ·obtain ⟨x1,x2⟩:=(k1.trans kp).fix a o ha ho
  exact k5.fix a o x2 x1
 ·obtain ⟨x1,x2,x3⟩:=(k1.trans kp).prv a ha hm
  obtain ⟨y1,y2,y3⟩:=k5.prv a (fun z=>w.ne a ha (by rw [z];exact hH)) x2 x3
  exact ⟨y1.trans x1,y2,y3⟩⟩
theorem WH {ts:List Nat}{wi:TI}{g:TG}{tt:TT}{te:TE}{ai:AI}{ag:AG}{at_:AT}{ae:AE}(hi:wf wi ai)(hg:yR g ag)(ht:xb tt at_)(he:ql te ae):Zq (J1 ts wi g tt te) (Y5 ts ai ag at_ (v8 ae)):=
 ⟨fun w e q k=>(we (ts:=ts) (tr:=wJ te) hi hg ht fun D=>wQ he).go w e q k⟩
noncomputable def aI (C:Int->Int->Prop)(g:Int->Int->Dat):AR2:=fun x y M Q=>∃ i j,x=.d (.int i)/\y=.d (.int j)/\C i j/\Q (.d (g i j)) M
noncomputable def aI0 (g:Int->Int->Dat):AR2:=fun x y M Q=>∃ i j,x=.d (.int i)/\y=.d (.int j)/\Q (.d (g i j)) M
theorem HA {C:Int->Int->Prop}{f:Int->Int->Int}:Zk (rI C fun i j=>.int (f i j)) (aI C fun i j=>.int (f i j)):=⟨fun w r1 r2 ⟨i,j,e1,e2,c,q⟩ k=>by
 subst e1 e2;exact ⟨i,j,zN r1,zN r2,c,k _ _ _ _ _ q .refl w .int⟩⟩
theorem Gv {f:Int->Int->Int}:Zk (rI0 fun i j=>.int (f i j)) (aI0 fun i j=>.int (f i j)):=⟨fun w r1 r2 ⟨i,j,e1,e2,q⟩ k=>by
 subst e1 e2;exact ⟨i,j,zN r1,zN r2,k _ _ _ _ _ q .refl w .int⟩⟩
theorem DC {f:Int->Int->Bool}:Zk (rI0 fun i j=>.bl (f i j)) (aI0 fun i j=>.bl (f i j)):=⟨fun w r1 r2 ⟨i,j,e1,e2,q⟩ k=>by
 subst e1 e2;exact ⟨i,j,zN r1,zN r2,k _ _ _ _ _ q .refl w .bl⟩⟩
theorem Fg {C:Int->Int->Prop}{f:Int->Int->Int}:GE (rI C fun i j=>.int (f i j)) (aI C fun i j=>.int (f i j)):=⟨fun w r1 r2 ⟨i,j,e1,e2,c,q⟩ k=>by
 subst e1 e2;exact ⟨i,j,zN r1,zN r2,c,k _ _ _ _ _ q .refl w .int⟩⟩
noncomputable def aU (g:Int->Dat):AV->MH->AK->Prop:=fun x M Q=>∃ i,x=.d (.int i)/\Q (.d (g i)) M
theorem LL {f:Int->Int}:Mf (rU fun i=>.int (f i)) (aU fun i=>.int (f i)):=⟨fun w r1 ⟨i,e1,q⟩ k=>by
 subst e1;exact ⟨i,zN r1,k _ _ _ _ _ q .refl w .int⟩⟩
noncomputable def eqS:Dat->Dat->Option Bool
 | .non,.non=>some true | .non,.int _=>some false | .int _,.non=>some false | .non,.bl _=>some false | .bl _,.non=>some false | .non,.str _=>some false | .str _,.non=>some false
 | .int i,.int j=>some (decide (i=j)) | .bl a,.bl b=>some (decide (a=b)) | .str a,.str b=>some (decide (a=b))
 | .int _,.str _=>some false | .str _,.int _=>some false | .bl _,.str _=>some false | .str _,.bl _=>some false
 | _,_=>none
noncomputable def kr:AV->Bool
 | .d .non=>true
 | _=>false
theorem JD {H:Hp}{O:Own}{M:MH}{v:V}{x:AV}(r:zD H O M v x):decide (v=V.non)=kr x:=by
 cases x with
 | ref a=>rw [r.1];rfl
 | d x=>cases (show Rep H O v x from r) <;> rfl
noncomputable def vx (f:Bool->Bool):AR2:=fun x y M Q=>y=.d .non/\Q (.d (.bl (f (kr x)))) M
theorem Gd:Zk (fun x y H Q=>y=V.non/\Q (V.bl (decide (x=V.non))) H) (vx id):=⟨fun w r1 r2 ⟨e,q⟩ k=>by
 subst e;exact ⟨YK r2,by rw [JD r1];exact k _ _ _ _ _ q .refl w .bl⟩⟩
theorem B5:Zk (fun x y H Q=>y=V.non/\Q (V.bl (!decide (x=V.non))) H) (vx not):=⟨fun w r1 r2 ⟨e,q⟩ k=>by
 subst e;exact ⟨YK r2,by rw [JD r1];exact k _ _ _ _ _ q .refl w .bl⟩⟩
theorem EQ {H:Hp}{O:Own}{M:MH}{xs:List V}{l:List AV}(r:zi H O M xs l){i:Int}{x:AV}(h:atI l i=some x):∃ v,atI xs i=some v/\zD H O M v x:=by
 unfold atI at h ⊢
 rw [r.1]
 cases e:ixN l.length i with
 | none=>rw [e] at h;cases h
 | some j=>rw [e] at h;exact r.get h
noncomputable def aIx (s:AV->MH->Option (List AV)):AR2:=fun x y M Q=>∃ l i z,s x M=some l/\y=.d (.int i)/\atI l i=some z/\Q z M
theorem Dc {K:PySem.W.Frag}:Zk (YV K) (aIx zW):=⟨fun w r1 r2 ⟨l,i,z,h,e,hz,q⟩ k=>by
 subst e
 obtain ⟨a,xs,rfl,h1,r⟩:=QD w r1 h
 obtain ⟨v,hv,rv⟩:=EQ r hz
 exact ⟨a,xs,i,v,rfl,zN r2,h1.elim (fun h=>.inl (SqL.of h)) (fun h=>.inr (SqT.of h)),hv,k _ _ _ _ _ q .refl w rv⟩⟩
structure WW (r:R2)(a:AV->AV->MH->(List AV->Prop)->Prop):Prop where
 go:∀ {x y:V} {dx dy:AV} {H:Hp} {O:Own} {M:MH} {Q:VK} {Q':List AV->Prop},Wf H O M->zD H O M x dx->zD H O M y dy->a dx dy M Q'->(∀ l ys,Q' l->zi H O M ys l->∀ p,H p=none->Q (.ref p) (upd H p (.lst ys)))->r x y H Q
noncomputable def fOp (r:AV->AV->MH->(List AV->Prop)->Prop)(a b:AE):AF:=fun ρ M Q=>a ρ M fun x M1=>b ρ M1 fun y M2=>r x y M2 fun l=>Q l M2
theorem Vg {r:R2}{ra:AV->AV->MH->(List AV->Prop)->Prop}{t u:TE}{a b:AE}(hr:WW r ra)(h1:ql t a)(h2:ql u b):Zq (tOp r t u) (fOp ra a b):=
 ⟨fun w e q k=>h1.go w e q fun x M1 v H1 O1 q1 k1 w1 r1=>h2.go w1 (e.ext k1) q1 fun y M2 u H2 O2 q2 k2 w2 r2=>hr.go w2 (r1.ext k2) r2 q2 fun l ys q3 r3 p hp=>
  k l M2 p ys _ _ q3 ((k1.trans k2).trans (qY w2 hp _)) (yH w2 hp _ (fun _ z=>nomatch z)) (.inl rfl) (w2.fresh hp).2 (xC w2 (k1.trans k2) hp) zf (r3.ext (qY w2 hp _))⟩
noncomputable def Hm:AV->AV->MH->(List AV->Prop)->Prop:=fun x y M Q=>∃ l m,qC x M=some l/\qC y M=some m/\l.length+m.length<=sizeLine/\Q (l ++ m)
theorem Jc:WW Gg Hm:=⟨fun w r1 r2 ⟨l,m,h1,h2,hs,q⟩ k=>by
 obtain ⟨a,xs,rfl,e1,p1⟩:=qA w r1 h1
 obtain ⟨b,ys,rfl,e2,p2⟩:=qA w r2 h2
 exact ⟨a,b,xs,ys,rfl,rfl,e1,e2,by rw [p1.1,p2.1];exact hs,k _ _ q (p1.append p2)⟩⟩
theorem zi.rep {H:Hp}{O:Own}{M:MH}{xs:List V}{l:List AV}(a:zi H O M xs l):∀ k:Nat,zi H O M (List.replicate k xs).flatten (List.replicate k l).flatten
 | 0=>.nil
 | k+1=>by rw [List.replicate_succ,List.replicate_succ,List.flatten_cons,List.flatten_cons];exact a.append (zi.rep a k)
noncomputable def MN:AV->AV->MH->(List AV->Prop)->Prop:=fun x y M Q=>∃ l k,qC x M=some l/\y=.d (.int k)/\-(2 ^ 63)<=k/\k<2 ^ 63/\l.length * k.toNat<=sizeLine/\Q (List.replicate k.toNat l).flatten
theorem Al:WW LG MN:=⟨fun w r1 r2 ⟨l,n,h1,e,b1,b2,hs,q⟩ k=>by
 subst e
 obtain ⟨a,xs,rfl,e1,p1⟩:=qA w r1 h1
 exact ⟨a,n,xs,rfl,zN r2,e1,b1,b2,by rw [p1.1];exact hs,k _ _ q (p1.rep _)⟩⟩
noncomputable abbrev AO:=ASt->MH->(Option Int->MH->Prop)->Prop
structure Xe (t:TO)(a:AO):Prop where
 go:∀ {σ:St} {H:Hp} {O:Own} {ρ:ASt} {M:MH} {Q:Option Int->Hp->Prop} {Q':Option Int->MH->Prop},Wf H O M->Er H O M σ ρ->a ρ M Q'->(∀ x M' H' O',Q' x M'->Ext H O M H' O' M'->Wf H' O' M'->Q x H')->t σ H Q
noncomputable def Mj:AO:=fun _ M Q=>Q none M
noncomputable def GV (a:AE):AO:=fun ρ M Q=>a ρ M fun x M1=>∃ i,x=.d (.int i)/\Q (some i) M1
theorem EW:Xe QY Mj:=⟨fun w _ q k=>k _ _ _ _ q .refl w⟩
theorem W8 {t:TE}{a:AE}(h:ql t a):Xe (Ao t) (GV a):=⟨fun w e q k=>h.go w e q fun x M1 v H1 O1 ⟨i,e1,q1⟩ k1 w1 r1=>by
 subst e1;exact ⟨i,zN r1,k _ _ _ _ q1 k1 w1⟩⟩
noncomputable def vv {α:Type}(xs:List α)(lo hi:Option Int):List α:=(xs.drop (HT.sIx xs.length 0 lo)).take (HT.sIx xs.length xs.length hi - HT.sIx xs.length 0 lo)
theorem zi.cut {H:Hp}{O:Own}{M:MH}{xs:List V}{l:List AV}(a:zi H O M xs l)(lo hi:Option Int):zi H O M (vy xs lo hi) (vv l lo hi):=by
 unfold vy vv
 rw [a.1]
 exact (a.drop _).take _
theorem JX {α β:Type}(f:α->β)(l:List α)(lo hi:Option Int):vv (l.map f) lo hi=(vv l lo hi).map f:=by
 unfold vv
 rw [List.length_map,<- List.map_drop,<- List.map_take]
noncomputable def fSl (a:AE)(lo hi:AO):AF:=fun ρ M Q=>a ρ M fun x M1=>lo ρ M1 fun i M2=>hi ρ M2 fun j M3=>∃ l,qC x M3=some l/\Q (vv l i j) M3
theorem EY {K:PySem.W.Frag}{t:TE}{tl th:TO}{a:AE}{lo hi:AO}(h1:ql t a)(h2:Xe tl lo)(h3:Xe th hi):Zq (tSl (EJ K) t tl th) (fSl a lo hi):=
 ⟨fun w e q k=>h1.go w e q fun x M1 v H1 O1 q1 k1 w1 r1=>h2.go w1 (e.ext k1) q1 fun i M2 H2 O2 q2 k2 w2=>h3.go w2 (e.ext (k1.trans k2)) q2 fun j M3 H3 O3 ⟨l,hl,q3⟩ k3 w3=>by
  obtain ⟨a,xs,rfl,e1,p1⟩:=qA w3 (r1.ext (k2.trans k3)) hl
  exact ⟨a,xs,rfl,SqL.of e1,fun p hp=>k _ _ p _ _ _ q3 (((k1.trans k2).trans k3).trans (qY w3 hp _)) (yH w3 hp _ (fun _ z=>nomatch z)) (.inl rfl) (w3.fresh hp).2 (xC w3 ((k1.trans k2).trans k3) hp) zf ((p1.cut i j).ext (qY w3 hp _))⟩⟩
theorem E9 {H:Hp}{O:Own}{M:MH}(w:Wf H O M){p:Addr}(hp:H p=none){xs:List V}{l:List Dat}(r:zi H O M xs (l.map .d)):zD (upd H p (.tup xs)) O M (.ref p) (.d (.tup l)):=
 have r2:=r.pure
 Rep.tup (w.fresh hp).1 zf r2.1 fun i x d e1 e2=>(r2.2 i x d e1 e2).ext (jr w hp _)
theorem zi.sl {H:Hp}{O:Own}{M:MH}:∀ (ks:List Nat) {xs:List V} {l:List AV},zi H O M xs l->zi H O M (ks.filterMap fun k=>xs[k]?) (ks.filterMap fun k=>l[k]?)
 | [],_,_,_=>.nil
 | k :: r,xs,l,a=>by
  rw [List.filterMap_cons,List.filterMap_cons]
  cases e:xs[k]? with
  | none=>
   have:l[k]?=none:=by
    rw [List.getElem?_eq_none_iff,<- a.1]
    exact List.getElem?_eq_none_iff.mp e
   rw [this]
   exact zi.sl r a
  | some v=>
   obtain ⟨d,hd,rd⟩:=a.get' e
   rw [hd]
   exact .cons rd (zi.sl r a)
noncomputable def slA {α:Type}(xs:List α)(lo hi st:Option Int):List α:=(sliceRange (sliceBounds lo hi st xs.length).1 (sliceBounds lo hi st xs.length).2.1 (sliceBounds lo hi st xs.length).2.2).filterMap fun k=>xs[k]?
noncomputable def L6 (a:AE)(lo hi st:AO):AF:=fun ρ M Q=>a ρ M fun x M1=>lo ρ M1 fun i M2=>hi ρ M2 fun j M3=>st ρ M3 fun z M4=>∃ l,qC x M4=some l/\z ≠ some 0/\Q (slA l i j z) M4
theorem DQ {K:PySem.W.Frag}{t:TE}{tl th ts:TO}{a:AE}{lo hi st:AO}(h1:ql t a)(h2:Xe tl lo)(h3:Xe th hi)(h4:Xe ts st):Zq (La K t tl th ts) (L6 a lo hi st):=
 ⟨fun w e q k=>h1.go w e q fun x M1 v H1 O1 q1 k1 w1 r1=>h2.go w1 (e.ext k1) q1 fun i M2 H2 O2 q2 k2 w2=>h3.go w2 (e.ext (k1.trans k2)) q2 fun j M3 H3 O3 q3 k3 w3=>h4.go w3 (e.ext ((k1.trans k2).trans k3)) q3 fun z M4 H4 O4 ⟨l,hl,hz,q4⟩ k4 w4=>by
  obtain ⟨a,xs,rfl,e1,p1⟩:=qA w4 (r1.ext ((k2.trans k3).trans k4)) hl
  have k14:=((k1.trans k2).trans k3).trans k4
  have p2:zi H4 O4 M4 (slV xs i j z) (slA l i j z):=by unfold slV slA;rw [p1.1];exact zi.sl _ p1
  exact ⟨a,xs,rfl,SqL.of e1,hz,fun p hp=>k _ _ p _ _ _ q4 (k14.trans (qY w4 hp _)) (yH w4 hp _ (fun _ z=>nomatch z)) (.inl rfl) (w4.fresh hp).2 (xC w4 k14 hp) zf (p2.ext (qY w4 hp _))⟩⟩
mutual
noncomputable def eqD:Dat->Dat->Bool
 | .non,.non=>true
 | .bl a,.bl b=>a == b
 | .bl a,.int b=>(if a then 1 else 0) == b
 | .int a,.bl b=>a == (if b then 1 else 0)
 | .int a,.int b=>a == b
 | .str a,.str b=>a == b
 | .lst a,.lst b=>wL a b
 | .tup a,.tup b=>wL a b
 | _,_=>false
noncomputable def wL:List Dat->List Dat->Bool
 | [],[]=>true
 | a :: r,b :: r'=>eqD a b && wL r r'
 | _,_=>false
end
mutual
noncomputable def dp:Dat->Nat
 | .lst l=>dps l+1
 | .tup l=>dps l+1
 | .rng _ _ _=>1000
 | .scr _ _=>1000
 | .ty _=>1000
 | _=>0
noncomputable def dps:List Dat->Nat
 | []=>0
 | a :: r=>max (dp a) (dps r)
end
theorem X5 {l:List Dat}{n:Nat}(h:∀ d ∈ l,dp d<=n):dps l<=n:=by
 induction l with
 | nil=>exact Nat.zero_le _
 | cons a r ih=>rw [dps];exact Nat.max_le.mpr ⟨h a (by simp),ih fun d hd=>h d (by simp [hd])⟩
theorem qT {l:List Dat}{d:Dat}(h:d ∈ l):dp d<=dps l:=by
 induction l with
 | nil=>cases h
 | cons a r ih=>
  rw [dps]
  rcases List.mem_cons.mp h with rfl | h
  ·exact Nat.le_max_left _ _
  ·exact Nat.le_trans (ih h) (Nat.le_max_right _ _)
theorem xq:∀ (l m:List Dat),l.length=m.length->wL l m=(List.range l.length).all fun j=>eqD (l.getD j .non) (m.getD j .non)
 | [],[],_=>rfl
 | a :: r,b :: r',h=>by
  rw [wL,xq r r' (by simpa using h),List.length_cons,List.range_succ_eq_map,List.all_cons,List.all_map];rfl
 | [],_ :: _,h=>by simp at h
 | _ :: _,[],h=>by simp at h
theorem xj:∀ (l m:List Dat),l.length ≠ m.length->wL l m=false
 | [],[],h=>absurd rfl h
 | a :: r,b :: r',h=>by rw [wL,xj r r' (fun z=>h (by simp [z])),Bool.and_false]
 | [],_ :: _,h=>by simp [wL]
 | _ :: _,[],h=>by simp [wL]
theorem B6 (l m:List Dat):eqD (.lst l) (.tup m)=false:=by simp [eqD]
theorem DE (l m:List Dat):eqD (.tup l) (.lst m)=false:=by simp [eqD]
theorem Eu {p:Dat->Prop}(h:∀ a,(∀ b,dp b<dp a->p b)->p a)(a:Dat):p a:=by
 have:∀ n a,dp a<=n->p a:=fun n=>by
  induction n with
  | zero=>intro a ha;exact h a fun b hb=>absurd hb (by omega)
  | succ n ih=>intro a ha;exact h a fun b hb=>ih b (by omega)
 exact this (dp a) a (Nat.le_refl _)
theorem Zx {l:List Dat}(h:∀ d ∈ l,eqD d d=true):wL l l=true:=by
 induction l with
 | nil=>rfl
 | cons a r ih=>rw [wL,h a (by simp),ih fun d hd=>h d (by simp [hd])];rfl
theorem v0 {a:Dat}:dp a<1000->eqD a a=true:=by
 refine Eu (p:=fun a=>dp a<1000->eqD a a=true) (fun a ih ha=>?_) a
 cases a with
 | non=>rfl
 | bl b=>rw [eqD];simp
 | int i=>rw [eqD];simp
 | str x=>rw [eqD];simp
 | lst l=>
  rw [eqD]
  rw [dp] at ha ih
  exact Zx fun d hd=>ih d (by have:=qT hd;omega) (by have:=qT hd;omega)
 | tup l=>
  rw [eqD]
  rw [dp] at ha ih
  exact Zx fun d hd=>ih d (by have:=qT hd;omega) (by have:=qT hd;omega)
 | rng a b c=>rw [dp] at ha;omega
 | scr _ l=>rw [dp] at ha;omega
 | ty l=>rw [dp] at ha;omega
theorem Rep.fn {H:Hp}{O O':Own}{v:V}{a b:Dat}(r:Rep H O v a):Rep H O' v b->dp a<1000->dp b<1000->a=b:=by
 induction r generalizing b with
 | non=>intro r' _ _;cases r';rfl
 | bl=>intro r' _ _;cases r';rfl
 | int=>intro r' _ _;cases r';rfl
 | str=>intro r' _ _;cases r';rfl
 | ty=>intro r' h _;rw [dp] at h;omega
 | rng _ _=>intro r' h _;rw [dp] at h;omega
 | scr _ _=>intro r' h _;rw [dp] at h;omega
 | scrK _=>intro r' h _;rw [dp] at h;omega
 | @lst a xs l o1 h1 l1 r1 ih=>
  intro r' ha hb
  cases r' with
  | @lst _ ys m o2 h2 l2 r2=>
   rw [h1] at h2;cases h2
   congr 1
   refine List.ext_getElem (l1.symm.trans l2) fun i i1 i2=>?_
   have i0:i<xs.length:=by omega
   rw [dp] at ha hb
   refine ih i xs[i] l[i] (by simp [i0]) (by simp [i1]) (r2 i xs[i] m[i] (by simp [i0]) (by simp [i2])) ?_ ?_
   ·have:=qT (List.getElem_mem i1);omega
   ·have:=qT (List.getElem_mem i2);omega
  | @tup _ ys m o2 h2=>rw [h1] at h2;cases h2
  | rng o2 h2=>rw [dp] at hb;omega
  | scr o2 h2=>rw [dp] at hb;omega
  | scrK _=>rw [dp] at hb;omega
 | @tup a xs l o1 h1 l1 r1 ih=>
  intro r' ha hb
  cases r' with
  | @tup _ ys m o2 h2 l2 r2=>
   rw [h1] at h2;cases h2
   congr 1
   refine List.ext_getElem (l1.symm.trans l2) fun i i1 i2=>?_
   have i0:i<xs.length:=by omega
   rw [dp] at ha hb
   refine ih i xs[i] l[i] (by simp [i0]) (by simp [i1]) (r2 i xs[i] m[i] (by simp [i0]) (by simp [i2])) ?_ ?_
   ·have:=qT (List.getElem_mem i1);omega
   ·have:=qT (List.getElem_mem i2);omega
  | @lst _ ys m o2 h2=>rw [h1] at h2;cases h2
  | rng o2 h2=>rw [dp] at hb;omega
  | scr o2 h2=>rw [dp] at hb;omega
  | scrK _=>rw [dp] at hb;omega
section
variable {X:Cx}{pins:List (Addr × Obj)}{s:Shared}{σ:St}{H:Hp}
theorem xv {xs:List V}{us:List Value}(r:zH xs us){j:Nat}(h:j<us.toArray.size):∃ x,xs[j]?=some x/\zI x us.toArray[j]:=by
 have h':j<us.length:=by simpa using h
 have hx:j<xs.length:=by rw [r.length];exact h'
 obtain ⟨u,hu,ru⟩:=r.get (i:=j) (List.getElem?_eq_getElem hx)
 have e:us.toArray[j]=u:=by
  have:=(List.getElem?_eq_some_iff.mp hu).2
  simpa using this
 exact ⟨xs[j],List.getElem?_eq_getElem hx,by rw [e];exact ru⟩
theorem Ab (I : Inv X pins σ H s){A : Around}{p q : Addr}{O O' : Own}{a b : Dat}(ih : ∀ (c d : Dat) (v u : V) (v' u' : Value), dp c < dp a -> Rep H O v c -> Rep H O' u d -> dp d < 1000 -> zI v v' -> zI u u' -> SeqAt.EqAt A.in1 s v' u' (eqD c d))
    (ra:Rep H O (.ref p) a) (rb:Rep H O' (.ref q) b) (ha:dp a<1000) (hb:dp b<1000) (hu:A.units<cLine):SeqAt.RcAt A s (.ref p) (.ref q) (eqD a b):=by
  cases ra with
  | @lst _ xs l o1 h1 l1 r1=>
    obtain ⟨us,u1,p1,z1⟩:=I.list (SqL.of h1)
    cases rb with
    | @lst _ ys m o2 h2 l2 r2=>
      obtain ⟨ws,u2,p2,z2⟩:=I.list (SqL.of h2)
      have s1:us.toArray.size=l.length:=by rw [List.size_toArray,<- u1.length,l1]
      have s2:ws.toArray.size=m.length:=by rw [List.size_toArray,<- u2.length,l2]
      by_cases e:l.length=m.length
      · have h := SeqAt.RcAt.lists (A := A) (e := fun j => eqD (l.getD j .non) (m.getD j .non)) p1.isList p2.isList (by rw [s1, s2, e]) hu (fun j j1 j2 => by
          obtain ⟨x,hx,rx⟩:=xv u1 j1
          obtain ⟨y,hy,ry⟩:=xv u2 j2
          have k1:j<l.length:=by rw [<- s1];exact j1
          have k2:j<m.length:=by rw [<- s2];exact j2
          rw [dp] at ha hb ih
          refine ih _ _ x y _ _ ?_ (r1 j x _ hx ?_) (r2 j y _ hy ?_) ?_ rx ry
          · rw [List.getD_eq_getElem?_getD,List.getElem?_eq_getElem k1]
            have:=qT (List.getElem_mem k1);show dp l[j]<_;omega
          · rw [List.getD_eq_getElem?_getD,List.getElem?_eq_getElem k1];rfl
          · rw [List.getD_eq_getElem?_getD,List.getElem?_eq_getElem k2];rfl
          · rw [List.getD_eq_getElem?_getD,List.getElem?_eq_getElem k2]
            have:=qT (List.getElem_mem k2);show dp m[j]<_;omega)
        rw [s1,<- xq l m e] at h
        rw [eqD];exact h
      · rw [eqD,xj l m e]
        exact SeqAt.RcAt.lists_lengths p1.isList p2.isList (by rw [s1,s2];simpa using e) hu
    | @tup _ ys m o2 h2 l2 r2=>
      obtain ⟨ws,u2,p2,z2⟩:=I.tuple (SqT.of h2)
      rw [B6]
      exact SeqAt.RcAt.list_tuple p1.isList p2 hu
    | rng o2 h2=>rw [dp] at hb;omega
    | scr o2 h2=>rw [dp] at hb;omega
    | scrK _=>rw [dp] at hb;omega
  | @tup _ xs l o1 h1 l1 r1=>
    obtain ⟨us,u1,p1,z1⟩:=I.tuple (SqT.of h1)
    cases rb with
    | @tup _ ys m o2 h2 l2 r2=>
      obtain ⟨ws,u2,p2,z2⟩:=I.tuple (SqT.of h2)
      have s1:us.toArray.size=l.length:=by rw [List.size_toArray,<- u1.length,l1]
      have s2:ws.toArray.size=m.length:=by rw [List.size_toArray,<- u2.length,l2]
      have h := SeqAt.RcAt.tuples (A := A) (e := fun j => eqD (l.getD j .non) (m.getD j .non)) (show s.heap.IsTuple p us.toArray from p1) (show s.heap.IsTuple q ws.toArray from p2) hu (fun j j1 j2 => by
          obtain ⟨x,hx,rx⟩:=xv u1 j1
          obtain ⟨y,hy,ry⟩:=xv u2 j2
          have k1:j<l.length:=by rw [<- s1];exact j1
          have k2:j<m.length:=by rw [<- s2];exact j2
          rw [dp] at ha hb ih
          refine ih _ _ x y _ _ ?_ (r1 j x _ hx ?_) (r2 j y _ hy ?_) ?_ rx ry
          · rw [List.getD_eq_getElem?_getD,List.getElem?_eq_getElem k1]
            have:=qT (List.getElem_mem k1);show dp l[j]<_;omega
          · rw [List.getD_eq_getElem?_getD,List.getElem?_eq_getElem k1];rfl
          · rw [List.getD_eq_getElem?_getD,List.getElem?_eq_getElem k2];rfl
          · rw [List.getD_eq_getElem?_getD,List.getElem?_eq_getElem k2]
            have:=qT (List.getElem_mem k2);show dp m[j]<_;omega)
      rw [s1,s2] at h
      rw [eqD]
      by_cases e:l.length=m.length
      · rw [<- e,Nat.min_self,beq_self_eq_true,Bool.and_true,<- xq l m e] at h
        exact h
      · rw [xj l m e]
        rw [show (l.length == m.length)=false by simpa using e,Bool.and_false] at h
        exact h
    | @lst _ ys m o2 h2 l2 r2=>
      obtain ⟨ws,u2,p2,z2⟩:=I.list (SqL.of h2)
      rw [DE]
      exact SeqAt.RcAt.tuple_list p1 p2.isList hu
    | rng o2 h2=>rw [dp] at hb;omega
    | scr o2 h2=>rw [dp] at hb;omega
    | scrK _=>rw [dp] at hb;omega
  | rng o2 h2=>rw [dp] at ha;omega
  | scr o2 h2=>rw [dp] at ha;omega
  | scrK _=>rw [dp] at ha;omega
theorem Na (I:Inv X pins σ H s){a:Addr}{xs:List V}(h:H a=some (.lst xs)):∃ us,s.heap.IsList a us:=let ⟨_,_,p,_⟩:=I.list (SqL.of h);⟨_,p.isList⟩
theorem MZ (I:Inv X pins σ H s){a:Addr}{xs:List V}(h:H a=some (.tup xs)):∃ us,s.heap.IsTuple a us:=let ⟨_,_,p,_⟩:=I.tuple (SqT.of h);⟨_,p⟩
local macro_rules | `(tactic| walk_at "sc")=>`(tactic| first
 | with_reducible exact .same _ | with_reducible exact .none_none | with_reducible exact .none_bool _ | with_reducible exact .none_int _ _ | with_reducible exact .none_str _ _ | with_reducible exact .bool_none _ | with_reducible exact .bool_bool _ _ | with_reducible exact .bool_int _ _ _ | with_reducible exact .bool_str _ _ _ | with_reducible exact .int_none _ _ | with_reducible exact .int_bool _ _ _ | with_reducible exact .int_int _ _ _ _ | with_reducible exact .int_str _ _ _ _ | with_reducible exact .str_none _ _ | with_reducible exact .str_bool _ _ _ | with_reducible exact .str_int _ _ _ _ | with_reducible exact .str_str _ _ _ _)
theorem ls_ (I:Inv X pins σ H s){a:Addr}{xs:List V}(h:H a=some (.lst xs)):s.heap.IsList a (Classical.choose (Na I h)):=Classical.choose_spec _
theorem ts_ (I:Inv X pins σ H s){a:Addr}{xs:List V}(h:H a=some (.tup xs)):s.heap.IsTuple a (Classical.choose (MZ I h)):=Classical.choose_spec _
local macro_rules | `(tactic| walk_at "sq")=>`(tactic| first
 | with_reducible exact .none_list (ls_ (by assumption) (by assumption)) (by assumption) | with_reducible exact .bool_list _ (ls_ (by assumption) (by assumption)) (by assumption) | with_reducible exact .int_list _ _ (ls_ (by assumption) (by assumption)) (by assumption) | with_reducible exact .str_list _ _ (ls_ (by assumption) (by assumption)) (by assumption) | with_reducible exact .list_none (ls_ (by assumption) (by assumption)) (by assumption) | with_reducible exact .list_bool _ (ls_ (by assumption) (by assumption)) (by assumption) | with_reducible exact .list_int _ _ (ls_ (by assumption) (by assumption)) (by assumption) | with_reducible exact .list_str _ _ (ls_ (by assumption) (by assumption)) (by assumption)
 | with_reducible exact .none_tuple (ts_ (by assumption) (by assumption)) (by assumption) | with_reducible exact .bool_tuple _ (ts_ (by assumption) (by assumption)) (by assumption) | with_reducible exact .int_tuple _ _ (ts_ (by assumption) (by assumption)) (by assumption) | with_reducible exact .str_tuple _ _ (ts_ (by assumption) (by assumption)) (by assumption) | with_reducible exact .tuple_none (ts_ (by assumption) (by assumption)) (by assumption) | with_reducible exact .tuple_bool _ (ts_ (by assumption) (by assumption)) (by assumption) | with_reducible exact .tuple_int _ _ (ts_ (by assumption) (by assumption)) (by assumption) | with_reducible exact .tuple_str _ _ (ts_ (by assumption) (by assumption)) (by assumption))
theorem Y3 (I : Inv X pins σ H s){O O' : Own}(A : Around)(hu : A.units < cLine)(a b : Dat)(v u : V)(v' u' : Value)(ha : dp a < 1000)(ra : Rep H O v a)(rb : Rep H O' u b)(hb : dp b < 1000)(rv : zI v v')(ru : zI u u')
    (ih:∀ (c d:Dat) (v u:V) (v' u':Value),dp c<dp a->Rep H O v c->Rep H O' u d->dp d<1000->zI v v'->zI u u'->SeqAt.EqAt A.in1 s v' u' (eqD c d)):SeqAt.EqAt A s v' u' (eqD a b):=by
  by_cases hr:∃ p q,v=.ref p/\u=.ref q
  · obtain ⟨p,q,rfl,rfl⟩:=hr
    cases rv
    cases ru
    by_cases e:p=q
    · subst e
      rw [<- ra.fn rb ha hb,v0 ha]
      exact .same _
    · exact .of_refs e (Ab I ih ra rb ha hb hu)
  · cases ra <;> cases rb <;> first
      | with_reducible exact absurd ⟨_,_,rfl,rfl⟩ hr
      | (rw [dp] at ha;omega)
      | (rw [dp] at hb;omega)
      | ((first | (obtain ⟨t0,rfl⟩:=rv) | cases rv);(first | (obtain ⟨t1,rfl⟩:=ru) | cases ru);simp only [eqD,Bool.not_false,Bool.not_true];first | walk_at "sc" | walk_at "sq")
theorem DT (I:Inv X pins σ H s){O O':Own}:∀ (n:Nat) (A:Around),A.units+n<cLine->∀ (a b:Dat) (v u:V) (v' u':Value),dp a<=n->n<1000->Rep H O v a->Rep H O' u b->dp b<1000->zI v v'->zI u u'->SeqAt.EqAt A s v' u' (eqD a b):=by
 intro n
 induction n with
 | zero=>
  intro A hu a b v u v' u' ha _ ra rb hb rv ru
  exact Y3 I A (by omega) a b v u v' u' (by omega) ra rb hb rv ru fun _ _ _ _ _ _ h=>absurd h (by omega)
 | succ n ih=>
  intro A hu a b v u v' u' ha hn ra rb hb rv ru
  exact Y3 I A (by omega) a b v u v' u' (by omega) ra rb hb rv ru fun c d x y x' y' hc rc rd hd rx ry=>ih A.in1 (by show A.units+1+n<_;omega) c d x y x' y' (by omega) (by omega) rc rd hd rx ry
noncomputable def HJ (f:Bool->Bool):R2:=fun x y H Q=>∃ O O' a b,Rep H O x a/\Rep H O' y b/\dp a<=40/\dp b<=40/\Q (.bl (f (eqD a b))) H
theorem LF (I:Inv X pins σ H s){O O':Own}(A:Around)(hu:A.units+41<cLine)(a b:Dat)(v u:V)(v' u':Value)(ha:dp a<=40)(ra:Rep H O v a)(rb:Rep H O' u b)(hb:dp b<=40)(rv:zI v v')(ru:zI u u'):SeqAt.RcAt A s v' u' (eqD a b):=by
  have ih:∀ (c d:Dat) (v u:V) (v' u':Value),dp c<dp a->Rep H O v c->Rep H O' u d->dp d<1000->zI v v'->zI u u'->SeqAt.EqAt A.in1 s v' u' (eqD c d):=fun c d v u v' u' hc rc rd hd rv ru=>DT I 40 A.in1 (by show A.units+1+40<_;omega) c d v u v' u' (by omega) (by omega) rc rd hd rv ru
  replace hu:A.units<cLine:=by omega
  by_cases hr:∃ p q,v=.ref p/\u=.ref q
  · obtain ⟨p,q,rfl,rfl⟩:=hr
    cases rv
    cases ru
    exact Ab I ih ra rb (by omega) (by omega) hu
  · cases ra <;> cases rb <;> first
      | with_reducible exact absurd ⟨_,_,rfl,rfl⟩ hr
      | (rw [dp] at ha;omega)
      | (rw [dp] at hb;omega)
      | ((first | (obtain ⟨t0,rfl⟩:=rv) | cases rv);(first | (obtain ⟨t1,rfl⟩:=ru) | cases ru);simp only [eqD,Bool.not_false,Bool.not_true];first | walk_at "sc" | walk_at "sq")
theorem W5 (I : Inv X pins σ H s){A : Around}{p q : Addr}{O O' : Own}{a b : Dat}(ih : ∀ (c d : Dat) (v u : V) (v' u' : Value), dp c < dp a -> Rep H O v c -> Rep H O' u d -> dp d < 1000 -> zI v v' -> zI u u' -> SeqAt.EqAt A.in1 s v' u' (eqD c d))
    (ra:Rep H O (.ref p) a) (rb:Rep H O' (.ref q) b) (ha:dp a<1000) (hb:dp b<1000) (hu:A.units<cLine):SeqAt.RcNeAt A s (.ref p) (.ref q) (!(eqD a b)):=by
  cases ra with
  | @lst _ xs l o1 h1 l1 r1=>
    obtain ⟨us,u1,p1,z1⟩:=I.list (SqL.of h1)
    cases rb with
    | @lst _ ys m o2 h2 l2 r2=>
      obtain ⟨ws,u2,p2,z2⟩:=I.list (SqL.of h2)
      have s1:us.toArray.size=l.length:=by rw [List.size_toArray,<- u1.length,l1]
      have s2:ws.toArray.size=m.length:=by rw [List.size_toArray,<- u2.length,l2]
      by_cases e:l.length=m.length
      · have h := SeqAt.RcNeAt.lists (A := A) (e := fun j => eqD (l.getD j .non) (m.getD j .non)) p1.isList p2.isList (by rw [s1, s2, e]) hu (fun j j1 j2 => by
          obtain ⟨x,hx,rx⟩:=xv u1 j1
          obtain ⟨y,hy,ry⟩:=xv u2 j2
          have k1:j<l.length:=by rw [<- s1];exact j1
          have k2:j<m.length:=by rw [<- s2];exact j2
          rw [dp] at ha hb ih
          refine ih _ _ x y _ _ ?_ (r1 j x _ hx ?_) (r2 j y _ hy ?_) ?_ rx ry
          · rw [List.getD_eq_getElem?_getD,List.getElem?_eq_getElem k1]
            have:=qT (List.getElem_mem k1);show dp l[j]<_;omega
          · rw [List.getD_eq_getElem?_getD,List.getElem?_eq_getElem k1];rfl
          · rw [List.getD_eq_getElem?_getD,List.getElem?_eq_getElem k2];rfl
          · rw [List.getD_eq_getElem?_getD,List.getElem?_eq_getElem k2]
            have:=qT (List.getElem_mem k2);show dp m[j]<_;omega)
        rw [s1,<- xq l m e] at h
        rw [eqD];exact h
      · rw [eqD,xj l m e]
        exact SeqAt.RcNeAt.lists_lengths p1.isList p2.isList (by rw [s1,s2];simpa using e) hu
    | @tup _ ys m o2 h2 l2 r2=>
      obtain ⟨ws,u2,p2,z2⟩:=I.tuple (SqT.of h2)
      rw [B6]
      exact SeqAt.RcNeAt.list_tuple p1.isList p2 hu
    | rng o2 h2=>rw [dp] at hb;omega
    | scr o2 h2=>rw [dp] at hb;omega
    | scrK _=>rw [dp] at hb;omega
  | @tup _ xs l o1 h1 l1 r1=>
    obtain ⟨us,u1,p1,z1⟩:=I.tuple (SqT.of h1)
    cases rb with
    | @tup _ ys m o2 h2 l2 r2=>
      obtain ⟨ws,u2,p2,z2⟩:=I.tuple (SqT.of h2)
      have s1:us.toArray.size=l.length:=by rw [List.size_toArray,<- u1.length,l1]
      have s2:ws.toArray.size=m.length:=by rw [List.size_toArray,<- u2.length,l2]
      have h := SeqAt.RcNeAt.tuples (A := A) (e := fun j => eqD (l.getD j .non) (m.getD j .non)) (show s.heap.IsTuple p us.toArray from p1) (show s.heap.IsTuple q ws.toArray from p2) hu (fun j j1 j2 => by
          obtain ⟨x,hx,rx⟩:=xv u1 j1
          obtain ⟨y,hy,ry⟩:=xv u2 j2
          have k1:j<l.length:=by rw [<- s1];exact j1
          have k2:j<m.length:=by rw [<- s2];exact j2
          rw [dp] at ha hb ih
          refine ih _ _ x y _ _ ?_ (r1 j x _ hx ?_) (r2 j y _ hy ?_) ?_ rx ry
          · rw [List.getD_eq_getElem?_getD,List.getElem?_eq_getElem k1]
            have:=qT (List.getElem_mem k1);show dp l[j]<_;omega
          · rw [List.getD_eq_getElem?_getD,List.getElem?_eq_getElem k1];rfl
          · rw [List.getD_eq_getElem?_getD,List.getElem?_eq_getElem k2];rfl
          · rw [List.getD_eq_getElem?_getD,List.getElem?_eq_getElem k2]
            have:=qT (List.getElem_mem k2);show dp m[j]<_;omega)
      rw [s1,s2] at h
      rw [eqD]
      by_cases e:l.length=m.length
      · rw [<- e,Nat.min_self,beq_self_eq_true,Bool.and_true,<- xq l m e] at h
        exact h
      · rw [xj l m e]
        rw [show (l.length == m.length)=false by simpa using e,Bool.and_false] at h
        exact h
    | @lst _ ys m o2 h2 l2 r2=>
      obtain ⟨ws,u2,p2,z2⟩:=I.list (SqL.of h2)
      rw [DE]
      exact SeqAt.RcNeAt.tuple_list p1 p2.isList hu
    | rng o2 h2=>rw [dp] at hb;omega
    | scr o2 h2=>rw [dp] at hb;omega
    | scrK _=>rw [dp] at hb;omega
  | rng o2 h2=>rw [dp] at ha;omega
  | scr o2 h2=>rw [dp] at ha;omega
  | scrK _=>rw [dp] at ha;omega
theorem Aw (I:Inv X pins σ H s){O O':Own}(A:Around)(hu:A.units+41<cLine)(a b:Dat)(v u:V)(v' u':Value)(ha:dp a<=40)(ra:Rep H O v a)(rb:Rep H O' u b)(hb:dp b<=40)(rv:zI v v')(ru:zI u u'):SeqAt.RcNeAt A s v' u' (!(eqD a b)):=by
  have ih:∀ (c d:Dat) (v u:V) (v' u':Value),dp c<dp a->Rep H O v c->Rep H O' u d->dp d<1000->zI v v'->zI u u'->SeqAt.EqAt A.in1 s v' u' (eqD c d):=fun c d v u v' u' hc rc rd hd rv ru=>DT I 40 A.in1 (by show A.units+1+40<_;omega) c d v u v' u' (by omega) (by omega) rc rd hd rv ru
  replace hu:A.units<cLine:=by omega
  by_cases hr:∃ p q,v=.ref p/\u=.ref q
  · obtain ⟨p,q,rfl,rfl⟩:=hr
    cases rv
    cases ru
    exact W5 I ih ra rb (by omega) (by omega) hu
  · cases ra <;> cases rb <;> first
      | with_reducible exact absurd ⟨_,_,rfl,rfl⟩ hr
      | (rw [dp] at ha;omega)
      | (rw [dp] at hb;omega)
      | ((first | (obtain ⟨t0,rfl⟩:=rv) | cases rv);(first | (obtain ⟨t1,rfl⟩:=ru) | cases ru);simp only [eqD,Bool.not_false,Bool.not_true];first | walk_at "sc" | walk_at "sq")
theorem Zf (hu:X.A.units+64<cLine):OpR X (compareOp .Eq) (HJ id):=by
 intro pins s σ H x y v u Q I rx ry h
 obtain ⟨O,O',a,b,ra,rb,ha,hb,k⟩:=h
 exact LF I X.A (by omega) a b x y v u ha ra rb hb rx ry _ _ _ _ ⟨.bl _,H,I,rfl,k⟩
theorem qZ (hu:X.A.units+64<cLine):OpR X (compareOp .NotEq) (HJ not):=by
 intro pins s σ H x y v u Q I rx ry h
 obtain ⟨O,O',a,b,ra,rb,ha,hb,k⟩:=h
 exact Aw I X.A (by omega) a b x y v u ha ra rb hb rx ry _ _ _ _ ⟨.bl _,H,I,rfl,k⟩
end
noncomputable def vA (x:AV)(M:MH):Option Dat:=match x with
 | .d x=>some x
 | .ref a=>match M a with
  | some (.lst l)=>(pur l).map .lst
  | _=>none
theorem HP (x:Dat)(M:MH):vA (.d x) M=some x:=rfl
theorem BX {a:Addr}{M:MH}{l:List AV}{ds:List Dat}(h:M a=some (.lst l))(hp:pur l=some ds):vA (.ref a) M=some (.lst ds):=by unfold vA;dsimp only;rw [h];dsimp only;rw [hp];rfl
theorem J4 {H:Hp}{O:Own}{M:MH}{v:V}{x:AV}{d:Dat}(w:Wf H O M)(r:zD H O M v x)(h:vA x M=some d):∃ O',Rep H O' v d:=by
 cases x with
 | d x=>cases h;exact ⟨O,r⟩
 | ref a=>
  unfold vA at h
  dsimp only at h
  cases e:M a with
  | none=>rw [e] at h;cases h
  | some o=>
   rw [e] at h
   cases o with
   | lst l=>
    dsimp only at h
    cases ep:pur l with
    | none=>rw [ep] at h;cases h
    | some ds=>
     rw [ep] at h
     cases h
     obtain ⟨xs,hx,rx⟩:=w.mo a _ e
     rw [j9 ep] at rx
     have rp:=rx.pure
     refine ⟨Qd O a,?_⟩
     rw [r.1]
     exact Rep.lst (fun z=>z.1 rfl) hx rp.1 fun i x d e1 e2=>(rp.2 i x d e1 e2).imp (xI a)
   | _=>cases h
noncomputable def Bh (f:Bool->Bool):AR2:=fun x y M Q=>∃ a b,vA x M=some a/\vA y M=some b/\dp a<=40/\dp b<=40/\Q (.d (.bl (f (eqD a b)))) M
theorem FW {f:Bool->Bool}:Zk (HJ f) (Bh f):=⟨fun w r1 r2 ⟨a,b,e1,e2,h1,h2,q⟩ k=>by
 obtain ⟨O1,p1⟩:=J4 w r1 e1
 obtain ⟨O2,p2⟩:=J4 w r2 e2
 exact ⟨O1,O2,a,b,p1,p2,h1,h2,k _ _ _ _ _ q .refl w .bl⟩⟩
theorem Zc (i:Int):dp (.int i)=0:=by simp [dp]
theorem Yi (ns:List Int):dp (.lst (ns.map .int))<=1:=by
 rw [dp]
 have:dps (ns.map Dat.int)<=0:=X5 fun d hd=>by
  obtain ⟨i,_,rfl⟩:=List.mem_map.mp hd
  rw [Zc];exact Nat.le_refl _
 omega
theorem jV {H:Hp}{O:Own}{M:MH}{vs:List V}{x:AV}(r:zi H O M vs [x]):∃ v,vs=[v]/\zD H O M v x:=by
 obtain ⟨v1,r',rfl,a1,r2⟩:=r.cons_inv
 rw [r2.nil_inv];exact ⟨v1,rfl,a1⟩
theorem kW {H:Hp}{O:Own}{M:MH}{vs:List V}{x y:AV}(r:zi H O M vs [x,y]):∃ v u,vs=[v,u]/\zD H O M v x/\zD H O M u y:=by
 obtain ⟨v1,r',rfl,a1,r2⟩:=r.cons_inv
 obtain ⟨v2,rfl,a2⟩:=jV r2
 exact ⟨v1,v2,rfl,a1,a2⟩
noncomputable def MD:List AV->MH->AK->Prop:=fun xs M Q=>∃ x l,xs=[x]/\zW x M=some l/\Q (.d (.int (l.length:Nat))) M
theorem Gk {K:PySem.W.Frag}:Jg (fun xs H Q=>∃ p ys,xs=[V.ref p]/\(SqL K H p ys \/ SqT K H p ys)/\Q (V.int ys.length) H) MD:=⟨fun w r ⟨x,l,e,h,q⟩ k=>by
 subst e
 obtain ⟨v,rfl,rv⟩:=jV r
 obtain ⟨a,xs,rfl,h1,r1⟩:=QD w rv h
 exact ⟨a,xs,rfl,h1.elim (fun h=>.inl (SqL.of h)) (fun h=>.inr (SqT.of h)),by rw [r1.1];exact k _ _ _ _ _ q .refl w .int⟩⟩
noncomputable def bI1 (f:Int->Int):List AV->MH->AK->Prop:=fun xs M Q=>∃ i,xs=[.d (.int i)]/\Q (.d (.int (f i))) M
theorem E6:Jg (fun xs H Q=>∃ i,xs=[V.int i]/\Q (V.int (if i<0 then -i else i)) H) (bI1 fun i=>if i<0 then -i else i):=⟨fun w r ⟨i,e,q⟩ k=>by
 subst e
 obtain ⟨v,rfl,rv⟩:=jV r
 exact ⟨i,by rw [zN rv],k _ _ _ _ _ q .refl w .int⟩⟩
noncomputable def bI2 (f:Int->Int->Int):List AV->MH->AK->Prop:=fun xs M Q=>∃ i j,xs=[.d (.int i),.d (.int j)]/\Q (.d (.int (f i j))) M
theorem IN {f:Int->Int->Int}:Jg (fun xs H Q=>∃ i j,xs=[V.int i,V.int j]/\Q (V.int (f i j)) H) (bI2 f):=⟨fun w r ⟨i,j,e,q⟩ k=>by
 subst e
 obtain ⟨v,u,rfl,rv,ru⟩:=kW r
 exact ⟨i,j,by rw [zN rv,zN ru],k _ _ _ _ _ q .refl w .int⟩⟩
noncomputable def DO:List AV->MH->AK->Prop:=fun xs M Q=>∃ x l ds,xs=[x]/\zW x M=some l/\pur l=some ds/\Q (.d (.tup ds)) M
theorem Wq {K:PySem.W.Frag}:Jg (fun xs H Q=>∃ p ys,xs=[V.ref p]/\((SqL K H p ys/\∀ l,H l=none->Q (V.ref l) (upd H l (HO.tup ys))) \/ SqT K H p ys/\Q (V.ref p) H)) DO:=⟨fun w r ⟨x,l,ds,e,h,hp,q⟩ k=>by
 subst e
 obtain ⟨v,rfl,rv⟩:=jV r
 rw [j9 hp] at h
 rcases jy h with h' | ⟨m,rfl,e2⟩
 ·obtain ⟨a,xs,rfl,h1,r1⟩:=qA w rv h'
  exact ⟨a,xs,rfl,.inl ⟨SqL.of h1,fun p hp=>k _ _ _ _ _ q (jr w hp _) (wt w hp _) (E9 w hp r1)⟩⟩
 ·obtain rfl:ds=m:=by have:=congrArg pur e2;rw [qd,qd] at this;cases this;rfl
  obtain ⟨a,xs,rfl,h1,r1⟩:=jO (l:=ds.map .d) rv rfl
  exact ⟨a,xs,rfl,.inr ⟨SqT.of h1,k _ _ _ _ _ q .refl w rv⟩⟩⟩
structure GF (r:List V->Hp->VK->Prop)(a:List AV->MH->(List AV->Prop)->Prop):Prop where
 go:∀ {vs:List V} {xs:List AV} {H:Hp} {O:Own} {M:MH} {Q:VK} {Q':List AV->Prop},Wf H O M->zi H O M vs xs->a xs M Q'->(∀ l ys,Q' l->zi H O M ys l->∀ p,H p=none->Q (.ref p) (upd H p (.lst ys)))->r vs H Q
noncomputable def fCB (r:List AV->MH->(List AV->Prop)->Prop)(b:AA):AF:=fun ρ M Q=>b ρ M fun xs M1=>r xs M1 fun l=>Q l M1
theorem Fw {r:List V->Hp->VK->Prop}{ra:List AV->MH->(List AV->Prop)->Prop}{u:TA}{b:AA}(hr:GF r ra)(h:kF u b):Zq (tCB r u) (fCB ra b):=
 ⟨fun w e q k=>h.go w e q fun x M1 v H1 O1 q1 k1 w1 r1=>hr.go w1 r1 q1 fun l ys q3 r3 p hp=>
  k l M1 p ys _ _ q3 (k1.trans (qY w1 hp _)) (yH w1 hp _ (fun _ z=>nomatch z)) (.inl rfl) (w1.fresh hp).2 (xC w1 k1 hp) zf (r3.ext (qY w1 hp _))⟩
theorem xk {H:Hp}{O:Own}{M:MH}:∀ {ns:List Int} {xs:List V},zi H O M xs (ns.map fun i=>AV.d (.int i))->xs=ns.map V.int
 | [],xs,r=>r.nil_inv
 | i :: ns,xs,r=>by
  obtain ⟨v,r',rfl,a1,r2⟩:=r.cons_inv
  rw [zN a1,xk r2];rfl
noncomputable def tyA (x:AV)(M:MH):Option String:=match x with
 | .d .non=>some "NoneType"
 | .d (.bl _)=>some "bool"
 | .d (.int _)=>some "int"
 | .d (.str _)=>some "str"
 | .d (.lst _)=>some "list"
 | .d (.tup _)=>some "tuple"
 | .ref a=>match M a with
  | some (.lst _)=>some "list"
  | some (.dK _)=>some "dict"
  | _=>none
 | _=>none
theorem Li {K:PySem.W.Frag}{H:Hp}{O:Own}{M:MH}{v:V}{x:AV}{t:String}(w:Wf H O M)(r:zD H O M v x)(h:tyA x M=some t):xa K H v (.type t):=by
 cases x with
 | d x=>
  cases (show Rep H O v x from r) with
  | non=>cases h;exact .non
  | bl=>cases h;exact .bl _
  | int=>cases h;exact .int _
  | str=>cases h;exact .str _
  | lst o e=>cases h;exact .lst e
  | tup o e=>cases h;exact .tup e
  | ty=>cases h
  | rng _ _=>cases h
  | scr _ _=>cases h
  | scrK _=>cases h
 | ref a=>
  unfold tyA at h
  dsimp only at h
  rw [r.1]
  cases e:M a with
  | none=>rw [e] at h;cases h
  | some o=>
   rw [e] at h
   have:=w.mo a o e
   cases o with
   | lst l=>cases h;obtain ⟨xs,hx,_⟩:=this;exact .lst hx
   | dK l=>cases h;obtain ⟨xs,hx,_⟩:=this;exact .dK hx
   | ins C fs=>cases h
   | exc C fs=>cases h
noncomputable def ML:List AV->MH->AK->Prop:=fun xs M Q=>∃ x t c b,xs=[x,.d (.ty c)]/\tyA x M=some t/\isT t c=some b/\Q (.d (.bl b)) M
theorem FA {K:PySem.W.Frag}:Jg (fun xs H Q=>∃ x t c b,xs=[x,V.ty c]/\xa K H x (Value.type t)/\isT t c=some b/\Q (V.bl b) H) ML:=⟨fun w r ⟨x,t,c,b,e,h,hb,q⟩ k=>by
 subst e
 obtain ⟨v,u,rfl,rv,ru⟩:=kW r
 exact ⟨v,t,c,b,by rw [HD ru],Li w rv h,hb,k _ _ _ _ _ q .refl w .bl⟩⟩
noncomputable def FM:List Dat->Option (List String)
 | []=>some []
 | .ty n :: r=>(FM r).map (n :: ·)
 | _=>none
noncomputable def G0:List AV->MH->AK->Prop:=fun xs M Q=>∃ i:Int,xs=[.d (.int i)]/\i.natAbs.log2<1920/\Q (.d (.str (Str.ofString (toString i)))) M
theorem Ds:Jg (fun xs H Q=>∃ i:Int,xs=[V.int i]/\i.natAbs.log2<1920/\Q (V.str (Str.ofString (toString i))) H) G0:=⟨fun w r ⟨i,e,h,q⟩ k=>by
 subst e
 obtain ⟨v,rfl,rv⟩:=jV r
 exact ⟨i,by rw [zN rv],h,k _ _ _ _ _ q .refl w .str⟩⟩
noncomputable def GQ:List AV->MH->AK->Prop:=fun xs M Q=>∃ b,xs=[.d (.int b)]/\Q (.d (.rng 0 b 1)) M
theorem BK:Jg (fun xs H Q=>∃ b,xs=[V.int b]/\∀ (p:Addr),H p=none->Q (V.ref p) (upd H p (jN p 0 b 1))) GQ:=⟨fun w r ⟨b,e,q⟩ k=>by
 subst e
 obtain ⟨v,rfl,rv⟩:=jV r
 exact ⟨b,by rw [zN rv],fun p hp=>k _ _ _ _ _ q (jr w hp _) (wt w hp _) (Rep.rng (w.fresh hp).1 zf)⟩⟩
noncomputable def GX:List AV->MH->(List AV->Prop)->Prop:=fun xs M Q=>∃ a b c n,xs=[.d (.rng a b c)]/\Builtin.Range.small a b c=true/\Builtin.Range.rangeSize a b c=((n:Nat):Int)/\n<=100000/\Q ((zJ a c n).map fun i=>AV.d (.int i))
theorem VQ:GF (fun xs H Q=>∃ p a b c n,xs=[.ref p]/\H p=some (jN p a b c)/\Builtin.Range.small a b c=true/\Builtin.Range.rangeSize a b c=((n:Nat):Int)/\n<=100000/\∀ l,H l=none->Q (.ref l) (upd H l (.lst ((zJ a c n).map V.int)))) GX:=⟨fun {vs xs H O M Q Q'} w r ⟨a,b,c,n,e,h1,h2,h3,q⟩ k=>by
 subst e
 obtain ⟨v,rfl,rv⟩:=jV r
 cases (show Rep H O v (.rng a b c) from rv) with
 | rng o h=>exact ⟨_,a,b,c,n,rfl,h,h1,h2,h3,k _ _ q (KC _)⟩⟩
structure AX (r:V->List V->Hp->VK->Prop)(a:AV->List AV->MH->AK->Prop):Prop where
 go:∀ {x:V} {dx:AV} {vs:List V} {xs:List AV} {H:Hp} {O:Own} {M:MH} {Q:VK} {Q':AK},Wf H O M->zD H O M x dx->zi H O M vs xs->a dx xs M Q'->(∀ x M' v H' O',Q' x M'->Ext H O M H' O' M'->Wf H' O' M'->zD H' O' M' v x->Q v H')->r x vs H Q
noncomputable def aBM (r:AV->List AV->MH->AK->Prop)(a:AE)(b:AA):AE:=fun ρ M Q=>a ρ M fun x M1=>(∃ l,qC x M1=some l)/\b ρ M1 fun xs M2=>r x xs M2 Q
theorem Lf {K:PySem.W.Frag}{r:V->List V->Hp->VK->Prop}{ra:AV->List AV->MH->AK->Prop}{t:TE}{u:TA}{a:AE}{b:AA}(hr:AX r ra)(h1:ql t a)(h2:kF u b):ql (tBM K "list" r t u) (aBM ra a b):=
 ⟨fun w e q k=>h1.go w e q fun x M1 v H1 O1 ⟨⟨l,hl⟩,q1⟩ k1 w1 r1=>⟨by
  obtain ⟨a,xs,rfl,hx,_⟩:=qA w1 r1 hl
  exact .inl ⟨rfl,xs,SqL.of hx⟩,h2.go w1 (e.ext k1) q1 fun y M2 u H2 O2 q2 k2 w2 r2=>hr.go w2 (r1.ext k2) r2 q2 fun z M3 v3 H3 O3 q3 k3 w3 r3=>k z M3 v3 H3 O3 q3 ((k1.trans k2).trans k3) w3 r3⟩⟩
theorem Zd {H:Hp}{O:Own}{M:MH}{p:Addr}{l l':List AV}{xs':List V}(w:Wf H O M)(hm:M p=some (.lst l))(r:zi H O M xs' l'):Ext H O M (upd H p (.lst xs')) O (mup M p (.lst l'))/\Wf (upd H p (.lst xs')) O (mup M p (.lst l')):=
 have np:=jI hm
 ⟨yD w np _ _,Aq w np (fun _ z=>nomatch z) ⟨_,zf,r.ext (yD w np _ _)⟩⟩
noncomputable def Yt:AV->List AV->MH->AK->Prop:=fun x xs M Q=>∃ p l y,x=.ref p/\xs=[y]/\M p=some (.lst l)/\l.length<sizeLine/\Q (.d .non) (mup M p (.lst (l ++ [y])))
theorem XE:AX vS Yt:=⟨fun w r1 r2 ⟨p,l,y,e1,e2,hm,hs,q⟩ k=>by
 subst e1 e2
 obtain ⟨v,rfl,rv⟩:=jV r2
 obtain ⟨xs,hx,rx⟩:=w.mo p _ hm
 obtain ⟨k1,w1⟩:=Zd w hm (rx.snoc rv)
 exact ⟨p,xs,v,r1.1,rfl,hx,by rw [rx.1];exact hs,k _ _ _ _ _ q k1 w1 .non⟩⟩
noncomputable def YI:AV->List AV->MH->AK->Prop:=fun x xs M Q=>∃ p l i y,x=.ref p/\xs=[.d (.int i),y]/\M p=some (.lst l)/\0<=i/\i<=l.length/\l.length<sizeLine/\Q (.d .non) (mup M p (.lst (l.take i.toNat ++ y :: l.drop i.toNat)))
theorem XN:AX vO YI:=⟨fun w r1 r2 ⟨p,l,i,y,e1,e2,hm,h0,h1,hs,q⟩ k=>by
 subst e1 e2
 obtain ⟨v,u,rfl,rv,ru⟩:=kW r2
 obtain ⟨xs,hx,rx⟩:=w.mo p _ hm
 obtain ⟨k1,w1⟩:=Zd w hm ((rx.take i.toNat).append (.cons ru (rx.drop i.toNat)))
 exact ⟨p,xs,i,u,r1.1,by rw [zN rv],hx,h0,by rw [rx.1];exact h1,by rw [rx.1];exact hs,k _ _ _ _ _ q k1 w1 .non⟩⟩
noncomputable def Y6:AV->List AV->MH->AK->Prop:=fun x xs M Q=>∃ p l y m,x=.ref p/\xs=[y]/\M p=some (.lst l)/\qC y M=some m/\l.length+m.length<=sizeLine/\Q (.d .non) (mup M p (.lst (l ++ m)))
theorem K0:AX vT Y6:=⟨fun w r1 r2 ⟨p,l,y,m,e1,e2,hm,hy,hs,q⟩ k=>by
 subst e1 e2
 obtain ⟨v,rfl,rv⟩:=jV r2
 obtain ⟨xs,hx,rx⟩:=w.mo p _ hm
 obtain ⟨b,ys,rfl,hb,rb⟩:=qA w rv hy
 obtain ⟨k1,w1⟩:=Zd w hm (rx.append rb)
 exact ⟨p,b,xs,ys,r1.1,rfl,hx,hb,by rw [rx.1,rb.1];exact hs,k _ _ _ _ _ q k1 w1 .non⟩⟩
noncomputable def Ax:AV->List AV->MH->AK->Prop:=fun x xs M Q=>∃ ns i j,qC x M=some (List.map (fun i=>AV.d (.int i)) ns)/\xs=[.d (.int i)]/\j<ns.length/\ns.getD j 0=i/\(∀ m,m<j->ns.getD m 0 ≠ i)/\Q (.d (.int (j:Nat))) M
theorem Vt:AX XB Ax:=⟨fun w r1 r2 ⟨ns,i,j,hl,e,h1,h2,h3,q⟩ k=>by
 subst e
 obtain ⟨u,rfl,ru⟩:=jV r2
 obtain ⟨a,xs,rfl,hx,p1⟩:=qA w r1 hl
 rw [xk p1] at hx
 exact ⟨a,ns,i,j,rfl,by rw [zN ru],hx,h1,h2,h3,k _ _ _ _ _ q .refl w .int⟩⟩
noncomputable def wr (r:Addr):MO->Prop
 | .lst l=>AV.ref r ∈ l
 | .dK kvs=>AV.ref r ∈ kvs.map (·.2)
 | .ins _ fs=>AV.ref r ∈ fs.map (·.2)
 | .exc _ _=>False
inductive Dee (M M2:MH):AV->Dat->Prop
 | d {x:Dat}:Dee M M2 (.d x) x
 | lst {p:Addr} {l:List AV} {ds:List Dat}:M p=some (.lst l)->M2 p=none->l.length=ds.length->(∀ (i:Nat) a b,l[i]?=some a->ds[i]?=some b->Dee M M2 a b)->Dee M M2 (.ref p) (.lst ds)
structure QZ (M0 M':MH)(x x':AV)(M'':MH):Prop where
 sub:∀ q,M'' q=M' q \/ (M0 q=none/\M'' q=none)
 cl:∀ q o,M'' q=some o->M0 q=some o \/ ∀ r,wr r o->M'' r ≠ none
 res:(x'=x/\∀ p,x=.ref p->M'' p ≠ none) \/ (∃ p l ds,x=.ref p/\M' p=some (.lst l)/\pur l=some ds/\M'' p=none/\x'=.d (.lst ds)) \/ ∃ d,Dee M' M'' x d/\x'=.d d
theorem Dee.rep {H:Hp}{O:Own}{M M2:MH}(w:Wf H O M){x:AV}{d:Dat}(h:Dee M M2 x d):∀ {v:V},zD H O M v x->Rep H (fun a=>O a/\¬ (M a ≠ none/\M2 a=none)) v d:=by
 induction h with
 | d=>exact fun r=>Rep.imp (fun a u h e=>⟨e,fun z=>h z.1⟩) r
 | @lst p l ds hm hn hl _ ih=>
  intro v r
  obtain ⟨xs,hx,rx⟩:=w.mo p _ hm
  rw [r.1]
  refine Rep.lst (fun z=>z.2 ⟨jI hm,hn⟩) hx (rx.1.trans hl) fun i x d e1 e2=>?_
  have hi:=(List.getElem?_eq_some_iff.mp e2).1
  have ha:l[i]?=some (l[i]'(by omega)):=List.getElem?_eq_getElem (by omega)
  exact ih i _ d ha e2 (rx.2 i x _ e1 ha)
theorem Ve {H0 H : Hp}{O0 O : Own}{M0 M' M'' : MH}{x x' : AV}{v : V}(w0 : Wf H0 O0 M0)(w : Wf H O M')(k : Ext H0 O0 M0 H O M')(r : zD H O M' v x)(f : QZ M0 M' x x' M'') :
    ∃ O'',Wf H O'' M''/\Ext H0 O0 M0 H O'' M''/\zD H O'' M'' v x'/\∀ a,O a->M' a=none->O'' a/\M'' a=none:=by
  have ks:∀ a u,¬ O a->H a=some u->H a=some u/\¬ (O a/\¬ (M' a ≠ none/\M'' a=none)):=fun a u h e=>⟨e,fun z=>h z.1⟩
  have k0:∀ a,M0 a ≠ none->M'' a=M' a:=fun a h=>(f.sub a).elim (fun z=>z) (fun z=>absurd z.1 h)
  have m0:∀ a,M0 a ≠ none->M'' a ≠ none:=fun a h=>by rw [k0 a h];exact k.mst a h
  have avs:∀ {xs:List V} {l:List AV},zi H O M' xs l->(∀ r,AV.ref r ∈ l->M'' r ≠ none)->zi H (fun a=>O a/\¬ (M' a ≠ none/\M'' a=none)) M'' xs l:=fun {xs l} rr hr=>⟨rr.1,fun i y d e1 e2=>by
    have:=rr.2 i y d e1 e2
    cases d with
    | d d=>exact Rep.imp ks this
    | ref a=>exact ⟨this.1,hr a (List.mem_of_getElem? e2)⟩⟩
  have refs0:∀ q o,M0 q=some o->∀ r,wr r o->M0 r ≠ none:=fun q o e r hr=>by
    have:=w0.mo q o e
    cases o with
    | lst l=>
      obtain ⟨xs,_,rr⟩:=this
      obtain ⟨i,hi⟩:=List.getElem?_of_mem hr
      obtain ⟨y,_,ry⟩:=rr.get hi
      exact ry.2
    | dK l=>
      obtain ⟨xs,_,rr⟩:=this
      obtain ⟨i,hi⟩:=List.getElem?_of_mem hr
      obtain ⟨y,_,ry⟩:=rr.2.get hi
      exact ry.2
    | ins C l=>
      obtain ⟨dx,xs,_,rr,_⟩:=this
      obtain ⟨i,hi⟩:=List.getElem?_of_mem hr
      obtain ⟨y,_,ry⟩:=rr.2.get hi
      exact ry.2
    | exc C l=>exact hr.elim
  refine ⟨fun a=>O a/\¬ (M' a ≠ none/\M'' a=none),⟨fun q o e=>?_,fun a h=>?_,fun a h=>w.al a h.1⟩,⟨fun a u h e=>?_,fun a h e=>?_,m0⟩,?_,fun a h e=>⟨⟨h,fun z=>z.1 e⟩,(f.sub a).elim (fun z=>z.trans e) (fun z=>z.2)⟩⟩
  · have e' : M' q = some o := by
      rcases f.sub q with z | z
      · rw [<- z];exact e
      · rw [z.2] at e;cases e
    have hr:∀ r,wr r o->M'' r ≠ none:=by
      rcases f.cl q o e with z | z
      · exact fun r hr=>m0 r (refs0 q o z r hr)
      · exact z
    have:=w.mo q o e'
    cases o with
    | lst l=>obtain ⟨xs,h1,rr⟩:=this;exact ⟨xs,h1,avs rr hr⟩
    | dK l=>obtain ⟨xs,h1,rr⟩:=this;exact ⟨xs,h1,rr.1,avs rr.2 hr⟩
    | ins C l=>
      obtain ⟨dx,xs,h1,rr,h2,h3,h4⟩:=this
      refine ⟨dx,xs,h1,⟨rr.1,avs rr.2 hr⟩,⟨h2,fun z=>z.1 h3⟩,?_,h4⟩
      rcases f.sub dx with z | z
      · rw [z];exact h3
      · exact z.2
    | exc C l=>
      obtain ⟨d,h1,h2⟩:=this
      refine ⟨d,h1,?_⟩
      rcases h2 with h2 | ⟨dx,e1,h2,h3,h4⟩
      · exact .inl h2
      · refine .inr ⟨dx,e1,h2,⟨h3,fun z=>z.1 h4⟩,?_⟩
        rcases f.sub dx with z | z
        · rw [z];exact h4
        · exact z.2
  · refine ⟨w.own a ?_,fun z=>h z.2⟩
    rcases f.sub a with z | z
    · rw [<- z];exact h
    · exact absurd z.2 h
  · obtain ⟨x1,x2⟩:=k.fix a u h e
    exact ⟨x1,fun z=>x2 z.1⟩
  · obtain ⟨x1,x2,x3⟩:=k.prv a h e
    refine ⟨x1,⟨x2,fun z=>z.1 x3⟩,?_⟩
    rcases f.sub a with z | z
    · rw [z];exact x3
    · exact z.2
  · rcases f.res with ⟨rfl,hp⟩ | ⟨p,l,ds,rfl,hm,hp,hn,rfl⟩ | ⟨d,hd,rfl⟩
    · cases x' with
      | d d=>exact Rep.imp ks r
      | ref a=>exact ⟨r.1,hp a rfl⟩
    · obtain ⟨xs,hx,rx⟩:=w.mo p _ hm
      rw [j9 hp] at rx
      have rp:=rx.pure
      rw [r.1]
      exact Rep.lst (fun z=>z.2 ⟨jI hm,hn⟩) hx rp.1 fun i x d e1 e2=>(rp.2 i x d e1 e2).imp ks
    · exact hd.rep w r
theorem wz {H0 H:Hp}{O0 O:Own}{M0 M' M'':MH}{x x':AV}{v:V}(w0:Wf H0 O0 M0)(w:Wf H O M')(k:Ext H0 O0 M0 H O M')(r:zD H O M' v x)(f:QZ M0 M' x x' M'') :
  ∃ O'',Wf H O'' M''/\Ext H0 O0 M0 H O'' M''/\zD H O'' M'' v x':=let ⟨O2,a,b,c,_⟩:=Ve w0 w k r f;⟨O2,a,b,c⟩
noncomputable def Fr (M0 M:MH):Prop:=∀ q,M0 q ≠ none->M q=M0 q
theorem Fr.refl {M:MH}:Fr M M:=fun _ _=>rfl
theorem Fr.mup {M0 M:MH}(f:Fr M0 M){p:Addr}(h:M0 p=none)(o:MO):Fr M0 (mup M p o):=fun q hq=>by rw [zL (fun z=>hq (by rw [z];exact h))];exact f q hq
theorem Fr.sub {M0 M:MH}(f:Fr M0 M)(q:Addr):M0 q=M q \/ (M0 q=none/\M0 q=none):=by
 cases e:M0 q with
 | none=>exact .inr ⟨rfl,rfl⟩
 | some o=>exact .inl (by rw [f q (by rw [e];exact fun z=>nomatch z),e])
theorem Jo {M0 M:MH}(f:Fr M0 M)(d:Dat):QZ M0 M (.d d) (.d d) M0:=⟨f.sub,fun q o e=>.inl e,.inl ⟨rfl,fun p z=>nomatch z⟩⟩
theorem yp {M0 M:MH}(f:Fr M0 M){p:Addr}{l:List AV}{ds:List Dat}(h0:M0 p=none)(h:M p=some (.lst l))(hp:pur l=some ds):QZ M0 M (.ref p) (.d (.lst ds)) M0:=⟨f.sub,fun q o e=>.inl e,.inr (.inl ⟨p,l,ds,rfl,h,hp,h0,rfl⟩)⟩
theorem vF {l:List AV}{ds:List Dat}(h:pur l=some ds)(r:Addr):AV.ref r ∉ l:=by
 rw [j9 h];intro z
 obtain ⟨d,_,e⟩:=List.mem_map.mp z
 cases e
theorem Ei {M0 M:MH}(f:Fr M0 M){p:Addr}{l:List AV}{ds:List Dat}(h0:M0 p=none)(h:M p=some (.lst l))(hp:pur l=some ds):QZ M0 M (.ref p) (.ref p) (mup M0 p (.lst l)):=by
 refine ⟨fun q=>?_,fun q o e=>?_,.inl ⟨rfl,fun q z=>by cases z;rw [zl];exact fun z=>nomatch z⟩⟩
 ·by_cases c:q=p
  ·rw [c,zl,h];exact .inl rfl
  ·rw [zL c];exact f.sub q
 ·by_cases c:q=p
  ·rw [c,zl] at e
   cases e
   exact .inr fun r hr=>absurd hr (vF hp r)
  ·rw [zL c] at e;exact .inl e
noncomputable def qc (N:List Str)(xs:List AV):ASt:=xs.map some ++ List.replicate (N.length - xs.length) none
theorem Km {H:Hp}{O:Own}{M:MH}{vs:List V}{xs:List AV}(r:zi H O M vs xs)(N:List Str):Er H O M (start N vs) (qc N xs):=by
 unfold start qc
 refine ⟨by simp [r.1],fun i x h=>?_⟩
 by_cases c:i<xs.length
 ·rw [List.getElem?_append_left (by simpa using c),List.getElem?_map] at h
  cases e:xs[i]? with
  | none=>rw [e] at h;cases h
  | some y=>
   rw [e] at h
   cases h
   obtain ⟨v,hv,rv⟩:=r.get e
   exact ⟨v,by rw [List.getElem?_append_left (by rw [List.length_map,r.1];exact c),List.getElem?_map,hv];rfl,rv⟩
 ·rw [List.getElem?_append_right (by simp;omega),List.getElem?_replicate] at h
  split at h <;> cases h
noncomputable def rtA (M0:MH)(Q:AK):AK:=fun x M'=>∃ x' M'',QZ M0 M' x x' M''/\Q x' M''
theorem dfA {P:Program}{w:World}{K:PySem.W.Frag}{mg:Str->Option Value}{base:Heap}{x:Str}{st:Stmt}{N ps:List Str}{k:Nat}{a:ASp}(at_:At K mg x st)(S:zo N ps (zg st))
  (hb:∀ (kV doc pm:Value) (an:Option Addr) (cdv ct:Value) (us:List Value),us.length=ps.length->bindArgs (PySem.W.fnOf x x (jc st) (qr st) (zg st) .none kV doc pm an cdv ct) ⟨us,[]⟩=pure (ps.zip us))
  (len:∀ xs M Q,a xs M Q->xs.length=ps.length)
  (hbody:∀ (f:Addr) (cdv:Value) (A:Around) (outer:List Env) (s:Shared) (H:Hp) (E:XK),qJ k (A.deeper (envOfC x (zg st) s.heap.objs.size f cdv)) ->
   ∃ t,PSs (ym CX0 P w K mg base N x (zg st) f cdv A outer s H E).nox (qr st) t/\∃ b,jB t b/\∀ xs M Q,a xs M Q->b M { nx:=fun _ M'=>rtA M Q (.d .non) M',rt:=rtA M Q } (qc N xs) M):Df P w K mg base x ps (k+1) (cSp a):=by
 refine jh at_ S hb (fun vs H Q E h=>?_) (fun f cdv A outer s H vs Q E hr h=>?_)
 ·obtain ⟨xs,M,O,Q',w,r,q,_⟩:=h
  rw [r.1];exact len xs M Q' q
 ·obtain ⟨t,ht,b,hb,hq⟩:=hbody f cdv A outer s H E hr
  refine ⟨t,ht,?_⟩
  obtain ⟨xs,M,O,Q',w,r,q,kk⟩:=h
  refine hb.go w w (Km r N) .refl (hq xs M Q' q) ⟨fun σ H' O' ρ M' w' e' x' q'=>?_,fun v y H' O' M' w' x' r' q'=>?_,fun _ _ _ _ _ _ _ _ z=>z.elim,fun _ _ _ _ _ _ _ _ z=>z.elim⟩
  ·obtain ⟨y',M'',f,q2⟩:=q'
   obtain ⟨O'',w2,k2,r2⟩:=wz w w' x' (show zD H' O' M' .non (.d .non) from .non) f
   exact kk _ _ _ _ _ q2 k2 w2 r2
  ·obtain ⟨y',M'',f,q2⟩:=q'
   obtain ⟨O'',w2,k2,r2⟩:=wz w w' x' r' f
   exact kk _ _ _ _ _ q2 k2 w2 r2
structure QF (tr:Addr->TR)(a:ATR):Prop where
 go:∀ D,ZZ D (tr D) a
theorem Vr {t:TE}{a:AE}(h:ql t a):QF (wJ t) (v8 a):=⟨fun D=>wQ h⟩
theorem Wx {wi:TI}{g:TG}{tt:TT}{tr:Addr->TR}{ai:AI}{ag:AG}{at_:AT}{atr:ATR}(hi:wf wi ai)(hg:yR g ag)(ht:xb tt at_)(hr:QF tr atr):QF (Qj wi g tt tr) (Xd ai ag at_ atr):=⟨fun D=>ZI hi hg ht (hr.go D)⟩
theorem KW {ts:List Nat}{wi:TI}{g:TG}{tt:TT}{tr:Addr->TR}{ai:AI}{ag:AG}{at_:AT}{atr:ATR}(hi:wf wi ai)(hg:yR g ag)(ht:xb tt at_)(hr:QF tr atr):Zq (wB ts wi g tt tr) (Y5 ts ai ag at_ atr):=we hi hg ht hr.go
theorem AW {t u:TE}{a b:AE}(h1:ql t a)(h2:ql u b):ql (tOp Gg t u) (aFz (fOp Hm a b)):=YU (Vg Jc h1 h2)
theorem ex2 {t:TS}{q:AS->Prop}{b:AS}(h:jB t b)(k:q b):∃ b,jB t b/\q b:=⟨b,h,k⟩
section
variable {X:Cx}{K:PySem.W.Frag}
theorem IB {tg l:Expr}{tl:TE}(h:X.K=K)(hl:PE X l tl):PI X tg l (iLT K tl):=h ▸ ju hl
end
theorem BZ {τ:Type}(R:τ->ASt)(f:AV->AV){ag:AG}{ae:AE}{G:MH->Prop}{N:List AV->ASt->MH->Prop}{l:List AV}{ρ:ASt}{M:MH}(h0:∃ o,ρ=R o)(hG:G M)(hl:l.length<=100000)
  (hs:∀ (o:τ) (x:AV) (Q:AV->ASt->MH->Prop),x ∈ l->(∀ o',Q (f x) (R o') M)->ag x (R o) M fun ρ2 M2=>ae ρ2 M2 fun y M3=>Q y ρ2 M3) (hN:∀ o,N (l.map f) (R o) M):K3 ag Yn (v8 ae) G N l [] ρ M:=by
 have hsl:100000<sizeLine:=by rw [sizeLine_eq];decide
 refine ⟨fun i acc ρ' M'=>i<=l.length/\acc=(l.take i).map f/\M'=M/\∃ o,ρ'=R o,⟨Nat.zero_le _,rfl,rfl,h0⟩,?_,?_⟩
 ·rintro i x acc ρ' M' hx ⟨hi,rfl,rfl,o,rfl⟩
  have hil:=(List.getElem?_eq_some_iff.mp hx).1
  refine ⟨hG,?_⟩
  refine hs o x (fun y ρ2 M3=>((l.take i).map f).length<sizeLine/\(i+1<=l.length/\(l.take i).map f ++ [y]=(l.take (i+1)).map f/\M3=M'/\∃ o,ρ2=R o)) (List.mem_of_getElem? hx) fun o'=>⟨by rw [List.length_map,List.length_take];omega,hil,?_,rfl,o',rfl⟩
  rw [List.take_add_one,hx,List.map_append];rfl
 ·rintro acc ρ' M' ⟨_,rfl,rfl,o,rfl⟩
  rw [List.take_length]
  exact ⟨hG,hN o⟩
theorem xy {α:Type}(F:α->Dat)(l:List α):pur (l.map fun a=>AV.d (F a))=some (l.map F):=by
 have:(l.map fun a=>AV.d (F a))=(l.map F).map .d:=by rw [List.map_map];rfl
 rw [this,qd]
theorem Hu:isT "int" "int"=some true:=by decide +kernel
theorem IP:isT "int" "bool"=some false:=by decide +kernel
theorem Ib:isT "int" "str"=some false:=by decide +kernel
theorem Ht:isT "int" "list"=some false:=by decide +kernel
theorem Lk:isT "int" "tuple"=some false:=by decide +kernel
theorem Io:isT "bool" "int"=some true:=by decide +kernel
theorem Il:isT "bool" "bool"=some true:=by decide +kernel
theorem IT:isT "bool" "str"=some false:=by decide +kernel
theorem He:isT "bool" "list"=some false:=by decide +kernel
theorem HI:isT "bool" "tuple"=some false:=by decide +kernel
theorem IA:isT "str" "int"=some false:=by decide +kernel
theorem HV:isT "str" "bool"=some false:=by decide +kernel
theorem IF:isT "str" "str"=some true:=by decide +kernel
theorem IV:isT "str" "list"=some false:=by decide +kernel
theorem Hx:isT "str" "tuple"=some false:=by decide +kernel
theorem HW:isT "NoneType" "int"=some false:=by decide +kernel
theorem Hc:isT "NoneType" "bool"=some false:=by decide +kernel
theorem Lh:isT "NoneType" "str"=some false:=by decide +kernel
theorem Ll:isT "NoneType" "list"=some false:=by decide +kernel
theorem Ig:isT "NoneType" "tuple"=some false:=by decide +kernel
theorem Le:isT "list" "int"=some false:=by decide +kernel
theorem HK:isT "list" "bool"=some false:=by decide +kernel
theorem Lv:isT "list" "str"=some false:=by decide +kernel
theorem Im:isT "list" "list"=some true:=by decide +kernel
theorem HS:isT "list" "tuple"=some false:=by decide +kernel
theorem Lo:isT "tuple" "int"=some false:=by decide +kernel
theorem IJ:isT "tuple" "bool"=some false:=by decide +kernel
theorem IH:isT "tuple" "str"=some false:=by decide +kernel
theorem Ip:isT "tuple" "list"=some false:=by decide +kernel
theorem IZ:isT "tuple" "tuple"=some true:=by decide +kernel
theorem A3:yG "int" ["list","tuple"]=some false:=by decide +kernel
theorem BY:yG "bool" ["list","tuple"]=some false:=by decide +kernel
theorem BU:yG "str" ["list","tuple"]=some false:=by decide +kernel
theorem Av:yG "NoneType" ["list","tuple"]=some false:=by decide +kernel
theorem AC:yG "list" ["list","tuple"]=some true:=by decide +kernel
theorem Da:yG "tuple" ["list","tuple"]=some true:=by decide +kernel
theorem Ac:FM []=some []:=rfl
theorem Ws {n:String}{r:List Dat}:FM (.ty n :: r)=(FM r).map (n :: ·):=rfl
theorem MI (M:MH):tyA (.d .non) M=some "NoneType":=rfl
theorem Mo (b:Bool)(M:MH):tyA (.d (.bl b)) M=some "bool":=rfl
theorem LZ (i:Int)(M:MH):tyA (.d (.int i)) M=some "int":=rfl
theorem Mv (s:Str)(M:MH):tyA (.d (.str s)) M=some "str":=rfl
theorem MK (l:List Dat)(M:MH):tyA (.d (.lst l)) M=some "list":=rfl
theorem L3 (l:List Dat)(M:MH):tyA (.d (.tup l)) M=some "tuple":=rfl
theorem VH (x:Dat)(r:List AV):pur (.d x :: r)=match pur r with | some l=>some (x :: l) | none=>none:=rfl
theorem Hi (i j:Int):eqS (.int i) (.int j)=some (decide (i=j)):=rfl
theorem LR (i j:Bool):eqS (.bl i) (.bl j)=some (decide (i=j)):=rfl
theorem IM (i j:Str):eqS (.str i) (.str j)=some (decide (i=j)):=rfl
theorem Gc:kr (.d .non)=true:=rfl
theorem FB (i:Int):kr (.d (.int i))=false:=rfl
theorem FL (i:List Dat):kr (.d (.lst i))=false:=rfl
theorem Es (i:List Dat):kr (.d (.tup i))=false:=rfl
theorem E7 (i:Addr):kr (.ref i)=false:=rfl
theorem ET (i:Str):kr (.d (.str i))=false:=rfl
theorem FH (i:Bool):kr (.d (.bl i))=false:=rfl
theorem Qi {H H':Hp}{O:Own}{M:MH}(w:Wf H O M)(k:Kp [] H H'):Ext H O M H' O M/\Wf H' O M:=by
 have e:Ext H O M H' O M:=⟨fun a o h e=>⟨k a o (by simp) e,h⟩,fun a h e=>⟨by
  obtain ⟨o,ho,_⟩:=w.al a h
  rw [ho];exact k a o (by simp) ho,h,e⟩,fun _ h=>h⟩
 refine ⟨e,⟨fun a o h=>jD.ext e ?_ (w.mo a o h),w.own,fun a h=>?_⟩⟩
 ·obtain ⟨u,hu,_⟩:=w.al a (w.own a (by rw [h];exact fun z=>nomatch z))
  rw [hu];exact k a u (by simp) hu
 ·obtain ⟨o,ho,hn⟩:=w.al a h
  exact ⟨o,k a o (by simp) ho,hn⟩
theorem Ie {H H':Hp}{O:Own}{M:MH}(w:Wf H O M){b:Addr}{l:List AV}(hb:M b=some (.lst l))(k:Kp [b] H H'){ns:List Int}(h:H' b=some (.lst (ns.map V.int))) :
  Ext H O M H' O (mup M b (.lst (ns.map fun i=>.d (.int i))))/\Wf H' O (mup M b (.lst (ns.map fun i=>.d (.int i)))):=by
 have hOb:=w.own b (jI hb)
 have kk:∀ a o,a ≠ b->H a=some o->H' a=some o:=fun a o ha e=>k a o (by simpa using ha) e
 have e:Ext H O M H' O (mup M b (.lst (ns.map fun i=>.d (.int i)))):=⟨fun a o h e=>⟨kk a o (fun z=>h (by rw [z];exact hOb)) e,h⟩,fun a ha e=>by
  have hne:a ≠ b:=fun z=>by rw [z,hb] at e;cases e
  obtain ⟨o,ho,_⟩:=w.al a ha
  exact ⟨by rw [ho];exact kk a o hne ho,ha,by rw [zL hne];exact e⟩,fun a ha=>by
  by_cases c:a=b
  ·rw [c,zl];exact fun z=>nomatch z
  ·rw [zL c];exact ha⟩
 refine ⟨e,⟨fun a o ho=>?_,fun a ha=>?_,fun a ha=>?_⟩⟩
 ·by_cases c:a=b
  ·subst c;rw [zl] at ho;cases ho;exact ⟨_,h,KC ns⟩
  ·rw [zL c] at ho
   refine jD.ext e ?_ (w.mo a o ho)
   obtain ⟨u,hu,_⟩:=w.al a (w.own a (jI ho))
   rw [hu];exact kk a u c hu
 ·by_cases c:a=b
  ·rw [c];exact hOb
  ·rw [zL c] at ha;exact w.own a ha
 ·by_cases c:a=b
  ·rw [c];exact ⟨_,h,fun xs z=>nomatch z⟩
  ·obtain ⟨o,ho,hn⟩:=w.al a ha
   exact ⟨o,kk a o c ho,hn⟩
theorem yq {H:Hp}{O:Own}{p:Addr}{ns:List Int}(ho:¬ O p)(h:H p=some (.lst (ns.map V.int))):Rep H O (.ref p) (.lst (ns.map .int)):=
 Rep.lst ho h (by simp) fun i x d e1 e2=>by
  rw [List.getElem?_map] at e1 e2
  cases e:ns[i]? with
  | none=>rw [e] at e1;cases e1
  | some n=>rw [e] at e1 e2;cases e1;cases e2;exact .int
theorem ZS {H:Hp}{O:Own}{p:Addr}{ns:List Int}(ho:¬ O p)(h:H p=some (.tup (ns.map V.int))):Rep H O (.ref p) (.tup (ns.map .int)):=
 Rep.tup ho h (by simp) fun i x d e1 e2=>by
  rw [List.getElem?_map] at e1 e2
  cases e:ns[i]? with
  | none=>rw [e] at e1;cases e1
  | some n=>rw [e] at e1 e2;cases e1;cases e2;exact .int
theorem Wf.tup {H:Hp}{O:Own}{M:MH}(w:Wf H O M){p:Addr}{xs:List V}(h:H p=some (.tup xs)):¬ O p:=fun z=>by
 obtain ⟨o,ho,hn⟩:=w.al p z
 rw [h] at ho;cases ho;exact hn xs rfl
theorem Bf {H:Hp}{O:Own}{M:MH}{v:V}{x:AV}{ns:List Int}(w:Wf H O M)(r:zD H O M v x)(h:zW x M=some (ns.map fun i=>.d (.int i))):∃ a,v=.ref a/\(H a=some (.lst (ns.map V.int)) \/ H a=some (.tup (ns.map V.int))):=by
 obtain ⟨a,xs,rfl,h1,r1⟩:=QD w r h
 rw [xk r1] at h1
 exact ⟨a,rfl,h1⟩
theorem DN {H:Hp}{O:Own}{M:MH}{v:V}{x:AV}{ns:List Int}(w:Wf H O M)(r:zD H O M v x)(h:qC x M=some (ns.map fun i=>.d (.int i))):∃ a,v=.ref a/\H a=some (.lst (ns.map V.int)):=by
 obtain ⟨a,xs,rfl,h1,r1⟩:=qA w r h
 rw [xk r1] at h1
 exact ⟨a,rfl,h1⟩
theorem Df.imp' {P:Program}{w:World}{K:PySem.W.Frag}{mg:Str->Option Value}{base:Heap}{x:Str}{ps:List Str}{sp sp':Sp}{k:Nat}(D:Df P w K mg base x ps k sp)(h:∀ vs H Q E,sp' vs H Q E->sp vs H Q E):Df P w K mg base x ps k sp':=
 let ⟨f,fd,F,r⟩:=D
 ⟨f,fd,F.imp h,r⟩
mutual
noncomputable def wdt:Dat->Nat
 | .lst l=>max l.length (Lr l)
 | .tup l=>max l.length (Lr l)
 | _=>0
noncomputable def Lr:List Dat->Nat
 | []=>0
 | a :: r=>max (wdt a) (Lr r)
end
theorem Dl {x:AV}{M:MH}{l:List Dat}(h:vA x M=some (.lst l)):qC x M=some (l.map .d)/\zW x M=some (l.map .d)/\tyA x M=some "list"/\kr x=false:=by
 cases x with
 | d x=>cases h;exact ⟨rfl,rfl,rfl,rfl⟩
 | ref a=>
  unfold vA at h
  dsimp only at h
  cases e:M a with
  | none=>rw [e] at h;cases h
  | some o=>
   rw [e] at h
   cases o with
   | lst m=>
    dsimp only at h
    cases ep:pur m with
    | none=>rw [ep] at h;cases h
    | some ds=>
     rw [ep] at h
     cases h
     rw [j9 ep] at e
     exact ⟨kC e,qN e,by unfold tyA;dsimp only;rw [e],rfl⟩
   | _=>cases h
theorem ku {x:AV}{M:MH}{d:Dat}(h:vA x M=some d)(hd:∀ l,d ≠ .lst l):x=.d d:=by
 cases x with
 | d x=>cases h;rfl
 | ref a=>
  unfold vA at h
  dsimp only at h
  cases e:M a with
  | none=>rw [e] at h;cases h
  | some o=>
   rw [e] at h
   cases o with
   | lst m=>
    dsimp only at h
    cases ep:pur m with
    | none=>rw [ep] at h;cases h
    | some ds=>rw [ep] at h;cases h;exact absurd rfl (hd ds)
   | _=>cases h
theorem MJ (b:Bool):dp (.bl b)=0:=by simp [dp]
theorem wm (b:Str):dp (.str b)=0:=by simp [dp]
theorem IW:dp .non=0:=by simp [dp]
theorem Iz (a b:Bool):eqD (.bl a) (.bl b)=decide (a=b):=by rw [eqD];cases a <;> cases b <;> rfl
theorem D9 (a b:Int):eqD (.int a) (.int b)=decide (a=b):=by rw [eqD];by_cases h:a=b <;> simp [h]
theorem Qc (a b:Str):eqD (.str a) (.str b)=decide (a=b):=by rw [eqD];by_cases h:a=b <;> simp [h]
theorem Lc:eqD .non .non=true:=by simp [eqD]
theorem IR (i:Int):eqD .non (.int i)=false:=by simp [eqD]
theorem LB (i:Int):eqD (.int i) .non=false:=by simp [eqD]
theorem LD (i:Int)(s:Str):eqD (.int i) (.str s)=false:=by simp [eqD]
theorem Lq (i:Int)(s:Str):eqD (.str s) (.int i)=false:=by simp [eqD]
theorem Hr (s:Str):eqD (.str s) .non=false:=by simp [eqD]
theorem Ic (s:Str):eqD .non (.str s)=false:=by simp [eqD]
theorem W9 {x:AV}{M:MH}{l:List AV}(h:qC x M=some l){p:Addr}(hp:M p=none)(o:MO):qC x (mup M p o)=some l:=by
 rcases yn h with ⟨m,rfl,rfl⟩ | ⟨a,rfl,e⟩
 ·rfl
 ·exact kC (by rw [zL (fun z=>by rw [z,hp] at e;cases e)];exact e)
theorem Bt {x:AV}{M:MH}{l:List AV}(h:zW x M=some l){p:Addr}(hp:M p=none)(o:MO):zW x (mup M p o)=some l:=by
 rcases jy h with h' | ⟨m,rfl,rfl⟩
 ·have:=W9 h' hp o
  rcases yn h' with ⟨m,rfl,rfl⟩ | ⟨a,rfl,e⟩
  ·rfl
  ·exact this
 ·rfl
theorem QT {x:AV}{M M':MH}{l:List AV}(h:zW x M=some l)(f:Fr M M'):zW x M'=some l:=by
 rcases jy h with h' | ⟨m,rfl,rfl⟩
 ·rcases yn h' with ⟨m,rfl,rfl⟩ | ⟨a,rfl,e⟩
  ·rfl
  ·exact qN (by rw [f a (jI e)];exact e)
 ·rfl
theorem xW (ns:List Int):List.map AV.d (List.map Dat.int ns)=List.map (fun i=>AV.d (.int i)) ns:=by rw [List.map_map];rfl
theorem GC (ns:List Bool):List.map AV.d (List.map Dat.bl ns)=List.map (fun i=>AV.d (.bl i)) ns:=by rw [List.map_map];rfl
theorem qx (ns:List Int):pur (List.map (fun i=>AV.d (.int i)) ns)=some (ns.map Dat.int):=by rw [<- xW,qd]
theorem En (ns:List Bool):pur (List.map (fun i=>AV.d (.bl i)) ns)=some (ns.map Dat.bl):=by rw [<- GC,qd]
theorem Gr {α β:Type}(f:α->β)(l:List α)(i:Int):atI (l.map f) i=(atI l i).map f:=by
 unfold atI
 rw [List.length_map]
 cases ixN l.length i with
 | none=>rfl
 | some j=>exact List.getElem?_map ..
theorem ji {n:Nat}{i:Int}(h0:0<=i)(h1:i<n):ixN n i=some i.toNat:=by unfold ixN;rw [if_pos h0,if_pos h1]
theorem HN {α:Type}{l:List α}{i:Int}(h0:0<=i)(h1:i<l.length)(d:α):atI l i=some (l.getD i.toNat d):=by
 unfold atI
 rw [ji h0 h1]
 show l[i.toNat]?=_
 rw [List.getD_eq_getElem?_getD,List.getElem?_eq_getElem (by omega)];rfl
theorem kh {ns:List Int}{i:Int}(h0:0<=i)(h1:i<ns.length):atI (ns.map fun i=>AV.d (.int i)) i=some (.d (.int (ns.getD i.toNat 0))):=by rw [Gr,HN h0 h1 0];rfl
theorem YJ {α β:Type}(f:α->β)(xs:List α)(lo hi st:Option Int):slA (xs.map f) lo hi st=(slA xs lo hi st).map f:=by
 unfold slA
 rw [List.length_map]
 generalize sliceRange _ _ _=ks
 induction ks with
 | nil=>rfl
 | cons k r ih=>
  rw [List.filterMap_cons,List.filterMap_cons,List.getElem?_map]
  cases xs[k]? with
  | none=>exact ih
  | some v=>exact congrArg _ ih
theorem AZ (xs:List V):slA xs none (some 0) (some (-1))=(xs.drop 1).reverse:=Ay xs
theorem VC (ns:List Int):slA ns none (some 0) (some (-1))=(ns.drop 1).reverse:=by
 have h:=AZ (ns.map V.int)
 rw [YJ,<- List.map_drop,<- List.map_reverse] at h
 exact (List.map_inj_right (fun _ _ z=>V.int.inj z)).mp h
theorem ZM {α:Type}(xs:List α)(k:Nat):vv xs (some (k:Int)) none=xs.drop k:=by
 unfold vv
 rw [HT.sIx_nat,HT.sIx_none,List.take_of_length_le (by rw [List.length_drop];omega)]
 by_cases h:k<=xs.length
 ·rw [Nat.min_eq_left h]
 ·rw [Nat.min_eq_right (by omega),List.drop_length,List.drop_of_length_le (by omega)]
theorem EI {α:Type}(xs:List α)(k:Nat):vv xs none (some (k:Int))=xs.take k:=by
 unfold vv
 rw [HT.sIx_nat,HT.sIx_none,List.drop_zero,Nat.sub_zero]
 by_cases h:k<=xs.length
 ·rw [Nat.min_eq_left h]
 ·rw [Nat.min_eq_right (by omega),List.take_of_length_le (Nat.le_refl _),List.take_of_length_le (by omega)]
theorem zw {a jP:AS}{B:MH}{D:j5}{ρ:ASt}{M:MH}(h:∀ r,r=jP->jZ a r B D ρ M):jZ a jP B D ρ M:=h jP rfl
theorem Fr.non {M M':MH}(f:Fr M M'){p:Addr}(h:M' p=none):M p=none:=by
 cases e:M p with
 | none=>rfl
 | some o=>rw [f p (by rw [e];exact fun z=>nomatch z),e] at h;cases h
noncomputable abbrev ilD (os:List Int):Dat:=.lst (os.map .int)
theorem Eg (ns:List Int)(M:MH):qC (.d (ilD ns)) M=some (ns.map fun i=>.d (.int i)):=by rw [yS,xW]
noncomputable def BxM (M:MH)(b:Addr)(N:Nat):Prop:=∃ x y z:Int,M b=some (.lst [.d (.int x),.d (.int y),.d (.int z)])/\0<=x/\0<=y/\y<2147483648/\0<=z/\z<=N
theorem BxM.mono {M:MH}{b:Addr}{N N':Nat}(h:BxM M b N)(hn:N<=N'):BxM M b N':=by
 obtain ⟨x,y,z,h1,h2,h3,h4,h5,h6⟩:=h
 exact ⟨x,y,z,h1,h2,h3,h4,h5,by omega⟩
theorem BxM.ne {M:MH}{b:Addr}{N:Nat}(h:BxM M b N):M b ≠ none:=by obtain ⟨x,y,z,h1,_⟩:=h;exact jI h1
theorem BxM.bx {H:Hp}{O:Own}{M:MH}{b:Addr}{N:Nat}(w:Wf H O M)(h:BxM M b N):Bx H b N:=by
 obtain ⟨x,y,z,h1,h2⟩:=h
 obtain ⟨xs,hx,rx⟩:=w.mo b _ h1
 rw [xk (ns:=[x,y,z]) rx] at hx
 exact ⟨x,y,z,hx,h2⟩
noncomputable def BxS (M M':MH)(b:Addr)(N:Nat):Prop:=BxM M' b N/\∃ o,M'=mup M b o
theorem BxS.at {M M':MH}{b:Addr}{N:Nat}(h:BxS M M' b N){q:Addr}(hq:q ≠ b):M' q=M q:=by
 obtain ⟨_,o,rfl⟩:=h
 exact zL hq
theorem KL {H H':Hp}{O:Own}{M:MH}(w:Wf H O M){b:Addr}{N N':Nat}(hb:BxM M b N)(k:Kp [b] H H')(h:Bx H' b N'):∃ M',BxS M M' b N'/\Ext H O M H' O M'/\Wf H' O M':=by
 obtain ⟨x,y,z,h1,_⟩:=hb
 obtain ⟨x',y',z',g1,g2⟩:=h
 obtain ⟨e1,e2⟩:=Ie w h1 k (ns:=[x',y',z']) g1
 exact ⟨_,⟨⟨x',y',z',zl,g2⟩,_,rfl⟩,e1,e2⟩
mutual
noncomputable def pdD:Dat->PyData
 | .bl b=>.bool b
 | .int i=>.int i
 | .str x=>.str x
 | .lst l=>.list (QM l)
 | .tup l=>.tuple (QM l)
 | _=>.none
noncomputable def QM:List Dat->List PyData
 | []=>[]
 | a :: r=>pdD a :: QM r
end
section
variable {X:Cx}{pins:List (Addr × Obj)}{s:Shared}{σ:St}{H:Hp}{O:Own}
mutual
theorem LK:∀ d:Dat,(pdD d).hasDict=false
 | .non=>by simp [pdD,PyData.hasDict]
 | .bl _=>by simp [pdD,PyData.hasDict]
 | .int _=>by simp [pdD,PyData.hasDict]
 | .str _=>by simp [pdD,PyData.hasDict]
 | .ty _=>by simp [pdD,PyData.hasDict]
 | .rng _ _ _=>by simp [pdD,PyData.hasDict]
 | .scr _ _=>by simp [pdD,PyData.hasDict]
 | .lst l=>by rw [pdD,PyData.hasDict];exact QQ l
 | .tup l=>by rw [pdD,PyData.hasDict];exact QQ l
theorem QQ:∀ l:List Dat,PyData.hasDictAll (QM l)=false
 | []=>by simp [QM,PyData.hasDictAll]
 | a :: r=>by rw [QM,PyData.hasDictAll,LK a,QQ r];rfl
end
mutual
theorem Bd:∀ d:Dat,(pdD d).depth<=dp d
 | .non=>by simp [pdD,PyData.depth]
 | .bl _=>by simp [pdD,PyData.depth]
 | .int _=>by simp [pdD,PyData.depth]
 | .str _=>by simp [pdD,PyData.depth]
 | .ty _=>by simp [pdD,PyData.depth]
 | .rng _ _ _=>by simp [pdD,PyData.depth]
 | .scr _ _=>by simp [pdD,PyData.depth]
 | .lst l=>by rw [pdD,PyData.depth,dp];exact Nat.succ_le_succ (yK l)
 | .tup l=>by rw [pdD,PyData.depth,dp];exact Nat.succ_le_succ (yK l)
theorem yK:∀ l:List Dat,PyData.depthAll (QM l)<=dps l
 | []=>by simp [QM,PyData.depthAll]
 | a :: r=>by rw [QM,PyData.depthAll,dps];exact Nat.max_le.mpr ⟨Nat.le_trans (Bd a) (Nat.le_max_left _ _),Nat.le_trans (yK r) (Nat.le_max_right _ _)⟩
end
end
section
variable {X:Cx}
end
structure Sh (b:Nat)(d:Dat):Prop where
 s:(pdD d).showable=true
 l:(pdD d).shown.length<=b
noncomputable def Md (i:Nat)(t:TS):TS:=t
theorem YL {X:Cx}{ss:List Stmt}{t:TS}(i:Nat)(h:PSs X ss t):PSs X ss (Md i t):=h
noncomputable def Mm (i:Nat)(a:AS):AS:=fun B D ρ M=>∃ p l ds,ρ[i]?=some (some (.ref p))/\M p=some (.lst l)/\pur l=some ds/\B p=none/\(∀ j:Nat,j ≠ i->ρ[j]? ≠ some (some (.ref p)))/\(∀ q o,q ≠ p->M q=some o->B q=some o \/ ¬ wr p o)/\a B D (ρ.set i (some (.d (.lst ds)))) (mdel M p)
theorem A8 {i:Nat}{t:TS}{a:AS}(h:jB t a):jB (Md i t) (Mm i a):=⟨fun {H0 O0 M0 D D' σ H O ρ M} w0 w e x q E=>by
 obtain ⟨p,l,ds,hi,hm,hp,hb,ho,hr,q⟩:=q
 obtain ⟨xs,hx,rx⟩:=w.mo p _ hm
 have rx0:=rx
 rw [j9 hp] at rx
 have rp:=rx.pure
 have ks:=xI (H:=H) (O:=O) p
 have refs0:∀ q o,M0 q=some o->¬ wr p o:=fun q o eq hr'=>by
  have:=w0.mo q o eq
  cases o with
  | lst l=>obtain ⟨xs,_,rr⟩:=this;obtain ⟨i,hi⟩:=List.getElem?_of_mem hr';obtain ⟨y,_,ry⟩:=rr.get hi;exact ry.2 hb
  | dK l=>obtain ⟨xs,_,rr⟩:=this;obtain ⟨i,hi⟩:=List.getElem?_of_mem hr';obtain ⟨y,_,ry⟩:=rr.2.get hi;exact ry.2 hb
  | ins C l=>obtain ⟨dx,xs,_,rr,_⟩:=this;obtain ⟨i,hi⟩:=List.getElem?_of_mem hr';obtain ⟨y,_,ry⟩:=rr.2.get hi;exact ry.2 hb
  | exc C l=>exact hr'.elim
 have av:∀ {v:V} {y:AV},zD H O M v y->y ≠ .ref p->zD H (Qd O p) (mdel M p) v y:=fun {v y} r hy=>by
  cases y with
  | d y=>exact Rep.imp ks r
  | ref a=>exact ⟨r.1,by rw [jK (fun z=>hy (by rw [z]))];exact r.2⟩
 have avs:∀ {vs:List V} {ys:List AV},zi H O M vs ys->AV.ref p ∉ ys->zi H (Qd O p) (mdel M p) vs ys:=fun r hy=>⟨r.1,fun i v y e1 e2=>av (r.2 i v y e1 e2) fun z=>hy (by rw [<- z];exact List.mem_of_getElem? e2)⟩
 have hOd:∀ dx b,O dx->M dx=none->H dx=some b->(∀ xs,b ≠ .lst xs)->Qd O p dx/\mdel M p dx=none:=fun dx b h1 h2 h3 h4=>⟨⟨Kf h3 hx (h4 _),h1⟩,by unfold mdel;split;rfl;exact h2⟩
 refine h.go w0 ⟨fun q o eq=>?_,fun a ha=>?_,fun a (ha:Qd O p a)=>w.al a ha.2⟩ ⟨?_,fun j y hj=>?_⟩ ⟨fun a o ha eo=>⟨(x.fix a o ha eo).1,fun (z:Qd O p a)=>(x.fix a o ha eo).2 z.2⟩,fun a ha eo=>?_,fun a ha=>?_⟩ q E
 ·have hq:q ≠ p:=fun z=>by rw [z,vc] at eq;cases eq
  rw [jK hq] at eq
  have hno:¬ wr p o:=(hr q o hq eq).elim (fun z=>refs0 q o z) (fun z=>z)
  have:=w.mo q o eq
  cases o with
  | lst l=>obtain ⟨xs,h1,rr⟩:=this;exact ⟨xs,h1,avs rr hno⟩
  | dK l=>obtain ⟨xs,h1,rr⟩:=this;exact ⟨xs,h1,rr.1,avs rr.2 hno⟩
  | ins C l=>obtain ⟨dx,xs,h1,rr,h2,h3,h4⟩:=this;exact ⟨dx,xs,h1,⟨rr.1,avs rr.2 hno⟩,(hOd dx _ h2 h3 h4 (fun _ z=>nomatch z)).1,(hOd dx _ h2 h3 h4 (fun _ z=>nomatch z)).2,h4⟩
  | exc C l=>
   obtain ⟨d,h1,h2⟩:=this
   refine ⟨d,h1,?_⟩
   rcases h2 with h2 | ⟨dx,e1,h2,h3,h4⟩
   ·exact .inl h2
   ·exact .inr ⟨dx,e1,h2,(hOd dx _ h3 h4 h2 (fun _ z=>nomatch z)).1,(hOd dx _ h3 h4 h2 (fun _ z=>nomatch z)).2⟩
 ·have hq:a ≠ p:=fun z=>ha (by rw [z,vc])
  rw [jK hq] at ha
  exact ⟨hq,w.own a ha⟩
 ·rw [List.length_set];exact e.len
 ·rw [List.getElem?_set] at hj
  by_cases c:i=j
  ·rw [if_pos c] at hj
   split at hj
   ·cases hj
    obtain ⟨v,hv,rv⟩:=e.get i _ hi
    rw [<- c]
    exact ⟨v,hv,by rw [rv.1];exact Rep.lst (fun z=>z.1 rfl) hx rp.1 fun i x d e1 e2=>(rp.2 i x d e1 e2).imp ks⟩
   ·cases hj
  ·rw [if_neg c] at hj
   obtain ⟨v,hv,rv⟩:=e.get j y hj
   exact ⟨v,hv,av rv fun z=>ho j (fun z'=>c z'.symm) (by rw [<- z];exact hj)⟩
 ·obtain ⟨x1,x2,x3⟩:=x.prv a ha eo
  have hne:a ≠ p:=fun z=>by rw [z,hm] at x3;cases x3
  exact ⟨x1,⟨hne,x2⟩,by rw [jK hne];exact x3⟩
 ·have hq:a ≠ p:=fun z=>ha (by rw [z];exact hb)
  rw [jK hq];exact x.mst a ha⟩
theorem Ek {a b:ASp}(h:∀ xs M Q,b xs M Q->a xs M (rtA M Q))(vs:List V)(H:Hp)(Q:VK)(E:XK)(q:cSp b vs H Q E):cSp a vs H Q E:=by
 obtain ⟨xs,M,O,Q',w,r,q,k⟩:=q
 refine ⟨xs,M,O,_,w,r,h xs M Q' q,fun x M' v H' O' q' e' w' r'=>?_⟩
 obtain ⟨y',M'',f,q2⟩:=q'
 obtain ⟨O'',w2,k2,r2⟩:=wz w w' e' r' f
 exact k _ _ _ _ _ q2 k2 w2 r2
structure SB (M0 M:MH)(b:Addr)(N:Nat):Prop where
 bx:BxM M b N
 fr:∀ q,M0 q ≠ none->q ≠ b->M q=M0 q
 b0:M0 b ≠ none
theorem SB.refl {M:MH}{b:Addr}{N:Nat}(h:BxM M b N):SB M M b N:=⟨h,fun _ _ _=>rfl,h.ne⟩
theorem SB.go {M0 M M':MH}{b:Addr}{N N':Nat}(s:SB M0 M b N)(t:BxS M M' b N'):SB M0 M' b N':=⟨t.1,fun q hq hb=>(t.at hb).trans (s.fr q hq hb),s.b0⟩
theorem SB.mono {M0 M:MH}{b:Addr}{N N':Nat}(s:SB M0 M b N)(h:N<=N'):SB M0 M b N':=⟨s.bx.mono h,s.fr,s.b0⟩
theorem BxM.put {M:MH}{b p:Addr}{N:Nat}(h:BxM M b N)(n:b ≠ p)(o:MO):BxM (mup M p o) b N:=by
 obtain ⟨x,y,z,h1,h2⟩:=h
 exact ⟨x,y,z,by rw [zL n];exact h1,h2⟩
theorem SB.new {M0 M:MH}{b p:Addr}{N:Nat}(s:SB M0 M b N)(hp:M p=none):M0 p=none/\p ≠ b:=by
 have hb:p ≠ b:=fun z=>s.bx.ne (by rw [<- z];exact hp)
 refine ⟨?_,hb⟩
 cases e:M0 p with
 | none=>rfl
 | some o=>rw [s.fr p (by rw [e];exact fun z=>nomatch z) hb,e] at hp;cases hp
theorem SB.put {M0 M:MH}{b p:Addr}{N:Nat}(s:SB M0 M b N)(h0:M0 p=none)(hb:p ≠ b)(o:MO):SB M0 (mup M p o) b N:=
 ⟨s.bx.put (Ne.symm hb) o,fun q hq hqb=>by rw [zL (fun z=>hq (by rw [z];exact h0))];exact s.fr q hq hqb,s.b0⟩
theorem SB.fin {M0 M:MH}{b:Addr}{N:Nat}(s:SB M0 M b N)(d:Dat):∃ M'',QZ M0 M (.d d) (.d d) M''/\BxS M0 M'' b N:=by
 obtain ⟨x,y,z,h1,h2⟩:=s.bx
 refine ⟨mup M0 b (.lst [.d (.int x),.d (.int y),.d (.int z)]),⟨fun q=>?_,fun q o e=>?_,.inl ⟨rfl,fun p z=>nomatch z⟩⟩,⟨x,y,z,zl,h2⟩,_,rfl⟩
 ·by_cases c:q=b
  ·rw [c,zl,h1];exact .inl rfl
  ·rw [zL c]
   cases e:M0 q with
   | none=>exact .inr ⟨rfl,rfl⟩
   | some o=>exact .inl (by rw [s.fr q (by rw [e];exact fun z=>nomatch z) c,e])
 ·by_cases c:q=b
  ·rw [c,zl] at e
   cases e
   exact .inr fun r hr=>absurd hr (vF (ds:=[.int x,.int y,.int z]) rfl r)
  ·rw [zL c] at e;exact .inl e
theorem SB.frz {M0 M:MH}{b p:Addr}{N:Nat}{Q:AK}{l:List AV}{ds:List Dat}(s:SB M0 M b N)(h0:M0 p=none)(hpb:p ≠ b)(h:M p=some (.lst l))(hp:pur l=some ds)(q:∀ M',BxS M0 M' b N->Q (.d (.lst ds)) M'):rtA M0 Q (.ref p) M:=by
 obtain ⟨M'',f,t⟩:=s.fin (.lst ds)
 refine ⟨_,M'',⟨f.sub,f.cl,.inr (.inl ⟨p,l,ds,rfl,h,hp,?_,rfl⟩)⟩,q M'' t⟩
 rw [t.at hpb];exact h0
theorem yy {M0 M:MH}{Q:AK}{d:Dat}(f:Fr M0 M)(q:Q (.d d) M0):rtA M0 Q (.d d) M:=⟨_,_,Jo f d,q⟩
theorem SB.frm {M M2 M':MH}{b:Addr}{N:Nat}(f:Fr M M2)(hb:M b=none)(s:SB M2 M' b N):Fr M M':=fun q hq=>by
 have h1:q ≠ b:=fun z=>hq (by rw [z];exact hb)
 rw [s.fr q (by rw [f q hq];exact hq) h1,f q hq]
theorem Ga (l m:List Dat):pur (l.map AV.d ++ m.map AV.d)=some (l ++ m):=by rw [<- List.map_append,qd]
theorem EU (ns:List Int)(k:Nat):pur (vv (ns.map fun i=>AV.d (.int i)) none (some (k:Int)))=some ((ns.take k).map .int):=by rw [JX,EI,qx]
theorem WA (ns:List Int)(k:Nat):pur (vv (ns.map fun i=>AV.d (.int i)) (some (k:Int)) none)=some ((ns.drop k).map .int):=by rw [JX,ZM,qx]
section
variable {X:Cx}
end
section
open PySem.SeqAt
open PySem.AutoSeq1 (wpAny_loadPart')
open PySem.MeetsSeq PySem.MeetsSeq2 PySem.MeetsSeq3 PySem.SeqRoads2
end
section
variable {X:Cx}
end
section
variable {X:Cx}{pins:List (Addr × Obj)}{σ:St}{H:Hp}{s:Shared}{a b:Addr}{kvs:List (List Key × V)}{k:List Key}{v:V}{r:Value}{A:Around}{E:Value->Shared->Prop}
end
section
variable {prog:Program}{w:World}{A:Around}{E:Value->Shared->Prop}{s:Shared}
end
section
variable {X:Cx}
end
theorem vK {α τ:Type}(R:τ->ASt)(g f:α->AV)(xs:List α){ag:AG}{ae:AE}{G:MH->Prop}{N:List AV->ASt->MH->Prop}{ρ:ASt}{M:MH}(h0:∃ o,ρ=R o)(hG:G M)(hl:xs.length<=100000)
  (hs:∀ (o:τ) (x:α) (Q:AV->ASt->MH->Prop),x ∈ xs->(∀ o',Q (f x) (R o') M)->ag (g x) (R o) M fun ρ2 M2=>ae ρ2 M2 fun y M3=>Q y ρ2 M3) (hN:∀ o,N (xs.map f) (R o) M):K3 ag Yn (v8 ae) G N (xs.map g) [] ρ M:=by
 have hsl:100000<sizeLine:=by rw [sizeLine_eq];decide
 refine ⟨fun i acc ρ' M'=>i<=xs.length/\acc=(xs.take i).map f/\M'=M/\∃ o,ρ'=R o,⟨Nat.zero_le _,rfl,rfl,h0⟩,?_,?_⟩
 ·rintro i x acc ρ' M' hx ⟨hi,rfl,rfl,o,rfl⟩
  rw [List.getElem?_map] at hx
  cases e:xs[i]? with
  | none=>rw [e] at hx;cases hx
  | some y=>
   rw [e] at hx
   cases hx
   have hil:=(List.getElem?_eq_some_iff.mp e).1
   refine ⟨hG,?_⟩
   refine hs o y (fun z ρ2 M3=>((xs.take i).map f).length<sizeLine/\(i+1<=xs.length/\(xs.take i).map f ++ [z]=(xs.take (i+1)).map f/\M3=M'/\∃ o,ρ2=R o)) (List.mem_of_getElem? e) fun o'=>⟨by rw [List.length_map,List.length_take];omega,hil,?_,rfl,o',rfl⟩
   rw [List.take_add_one,e,List.map_append];rfl
 ·rintro acc ρ' M' ⟨_,rfl,rfl,o,rfl⟩
  rw [List.length_map,List.take_length]
  exact ⟨hG,hN o⟩
noncomputable def fl2 (o:Obj):Option Value:=match o.data with
 | .fields vs=>vs[2]?
 | _=>none
noncomputable def SmD (h h':Heap):Prop:=∀ b o,h.get? b=some o->∃ o',h'.get? b=some o'/\o'.dict=o.dict/\fl2 o'=fl2 o
theorem SmD.refl (h:Heap):SmD h h:=fun _ o e=>⟨o,e,rfl,rfl⟩
theorem SmD.trans {h h1 h2:Heap}(a:SmD h h1)(b:SmD h1 h2):SmD h h2:=fun c o e=>
 let ⟨_,e1,d1,f1⟩:=a c o e
 let ⟨o2,e2,d2,f2⟩:=b c _ e1
 ⟨o2,e2,d2.trans d1,f2.trans f1⟩
theorem SmD.push (h:Heap)(o:Obj):SmD h (h.push o):=fun _ u e=>⟨u,Heap.get?_push_of_some _ e,rfl,rfl⟩
theorem SmD.up {h:Heap}{a:Addr}{f:Obj->Obj}(k:∀ o,(f o).dict=o.dict/\fl2 (f o)=fl2 o/\(o.isFreed=false->(f o).isFreed=false)):SmD h (h.update a f):=fun b o e=>by
 by_cases c:a=b
 ·subst c
  exact ⟨_,Heap.get?_update_self f e ((k o).2.2 (Heap.get?_some_iff.mp e).2),(k o).1,(k o).2.1⟩
 ·exact ⟨o,(Heap.get?_update_other _ _ c).trans e,rfl,rfl⟩
structure Kd {α:Type}(t:Sem α):Prop where
 out:∀ (M:Model) (G:PySem.Ctx) (R:α->Pos->Shared->Prop) (Ee:Value->Pos->Shared->Prop) (p:Pos) (s:Shared),Sem.wp M G t R Ee p s->Sem.wp M G t (fun a p' s'=>R a p' s'/\SmD s.heap s'.heap) Ee p s
section
variable {α β:Type}
theorem Q0 (a:α):Kd (Pure.pure a:Sem α):=⟨fun _ _ _ _ _ s h=>⟨h,SmD.refl _⟩⟩
theorem Iu (x:String):Kd (unsupported x:Sem α):=⟨fun _ _ _ _ _ _ h=>h⟩
theorem Yk {m:Sem α}{f:α->Sem β}(hm:Kd m)(hf:∀ a,Kd (f a)):Kd (m >>= f):=⟨fun M G R Ee p s h=>by
 rw [Sem.wp_bind'] at h ⊢
 refine Sem.wp_mono M G m (fun a p1 s1 h1=>?_) (fun _ _ _ z=>z) p s (hm.out M G _ Ee p s h)
 refine Sem.wp_mono M G (f a) (fun b p2 s2 h2=>⟨h2.1,h1.2.trans h2.2⟩) (fun _ _ _ z=>z) p1 s1 ((hf a).out M G R Ee p1 s1 h1.1)⟩
theorem IX {c:Prop}[Decidable c]{t u:Sem α}(ht:Kd t)(hu:Kd u):Kd (if c then t else u):=by split <;> assumption
theorem EM (a:Addr):Kd (PySem.load a):=⟨fun _ _ R _ p s h=>by
 unfold PySem.load at h ⊢
 rw [Sem.wp_load] at h ⊢
 obtain ⟨o,e,h⟩:=h
 exact ⟨o,e,h,SmD.refl _⟩⟩
theorem V0 {a:Addr}{f:Obj->Obj}(k:∀ o,(f o).dict=o.dict/\fl2 (f o)=fl2 o/\(o.isFreed=false->(f o).isFreed=false)):Kd (PySem.update a f):=⟨fun _ _ R _ p s h=>by
 unfold PySem.update at h ⊢
 rw [Sem.wp_update] at h ⊢
 exact ⟨h.1,h.2,SmD.up k⟩⟩
theorem AL:Kd PySem.stack:=⟨fun M G R Ee p s h=>by
 unfold PySem.stack at h ⊢
 rw [Sem.wp_stack] at h ⊢
 exact ⟨h,SmD.refl _⟩⟩
theorem B2 (o:Obj):Kd (PySem.alloc o):=⟨fun _ _ R _ p s h=>by
 unfold PySem.alloc at h ⊢
 rw [Sem.wp_alloc] at h ⊢
 exact ⟨h,SmD.push _ _⟩⟩
theorem Ae (v:Value)(i:Nat):Kd (PySem.field v i):=⟨fun _ G R Ee p s h=>by
 obtain ⟨a,o,vs,x,e1,e2,e3,e4,q⟩:=(wp_field_iff G v i R Ee p s).mp h
 exact (wp_field_iff G v i _ Ee p s).mpr ⟨a,o,vs,x,e1,e2,e3,e4,q,SmD.refl _⟩⟩
theorem Wi {i:Nat}(hi:i ≠ 2)(x:Value)(o:Obj):(Obj.mapFields (·.setIfInBounds i x) o).dict=o.dict/\fl2 (Obj.mapFields (·.setIfInBounds i x) o)=fl2 o/\(o.isFreed=false->(Obj.mapFields (·.setIfInBounds i x) o).isFreed=false):=by
 obtain ⟨c,d,dt,sl⟩:=o
 cases dt
 case fields vs=>exact ⟨rfl,Array.getElem?_setIfInBounds_ne hi,fun h=>h⟩
 all_goals exact ⟨rfl,rfl,fun h=>h⟩
theorem JC (v:Value)(i:Nat)(x:Value)(hi:i ≠ 2):Kd (PySem.setField v i x):=⟨fun _ G R Ee p s h=>by
 obtain ⟨a,o,vs,e1,e2,e3,e4,q⟩:=(wp_setField_iff G v i x R Ee p s).mp h
 exact (wp_setField_iff G v i x _ Ee p s).mpr ⟨a,o,vs,e1,e2,e3,e4,q,SmD.up (Wi hi x)⟩⟩
end
local macro_rules | `(tactic| walk_at "kd")=>`(tactic| repeat' with_reducible first
  | assumption
  | exact Q0 _
  | exact Iu _
  | exact Ae _ _
  | exact JC _ _ _ (by decide)
  | exact EM _
  | exact AL
  | exact B2 _
  | apply IX
  | apply Yk
  | intro _
  | split)
theorem Wd (env:Env)(outer:List Env):Kd (behindIsImport env outer):=by
 unfold behindIsImport
 walk_at "kd"
theorem Wu:Kd underTheClaimsCaller:=by
 unfold underTheClaimsCaller
 walk_at "kd"
theorem FE (env:Env)(i:Bool)(l:List Env):Kd (keptBack env i l):=by
 have:=Wu
 cases l <;> unfold keptBack <;> walk_at "kd"
theorem Kk:∀ l:List Env,Kd (readyFrames l)
 | []=>Q0 _
 | env :: outer=>by
  have ih:=Kk outer
  have h1:=Wd env outer
  have h2:=fun i=>FE env i outer
  unfold readyFrames
  walk_at "kd"
  all_goals first | exact h2 _ | exact V0 fun o=>⟨rfl,rfl,fun z=>by obtain ⟨c,d,dt,sl⟩:=o;cases dt <;> exact z⟩ | skip
theorem Jb (l:List Env):Kd (frameObject l):=by
 cases l with
 | nil=>exact Q0 _
 | cons env outer=>
  have:=Kk (env :: outer)
  unfold frameObject
  walk_at "kd"
theorem QU:Kd frameEnvs:=by
 unfold frameEnvs
 walk_at "kd"
theorem K2 (env:Env):Kd (PySem.frameOf env):=by
 have h1:=QU
 have h2:=Jb
 unfold PySem.frameOf
 walk_at "kd"
 all_goals first | exact h2 _ | skip
theorem D3 (f:Addr)(b:Bool):Kd (entryPlaceOf f b):=by
 unfold entryPlaceOf
 walk_at "kd"
theorem Du (a b c d e:Value)(l:List Value):Kd (EntryCells.newEntry a b c d e l):=by
 unfold EntryCells.newEntry newFields newObj newObjAsIs
 walk_at "kd"
theorem Fk (e:Value)(env:Env):Kd (noteFrame e env):=by
 have h1:=K2 env
 have h2:=D3
 have h3:=Du
 unfold noteFrame
 walk_at "kd"
 all_goals first | exact h2 _ _ | exact h3 _ _ _ _ _ _ | skip
theorem Ww (e:Value)(f:Option Addr):Kd (setFlight e f):=by
 unfold setFlight
 walk_at "kd"
theorem wA (env:Env)(e:Value):Kd (leaving env e):=Yk (Fk e env) fun _=>Ww e none
theorem Kd.any {α:Type}{t:Sem α}(k:Kd t){M:Model}{A:Around}{Q:α->Shared->Prop}{E:Value->Shared->Prop}{s:Shared}(h:wpAny M A t Q E s):wpAny M A t (fun a s'=>Q a s'/\SmD s.heap s'.heap) E s:=
 fun G p hG=>k.out M G _ _ p s (h G p hG)
theorem qi.here {P:Program}{w:World}{H:Hp}{h:Heap}{a:Addr}{o:HO}(x:qi P w H h a o):∃ u,h.get? a=some u:=by
 cases o with
 | lst xs=>obtain ⟨_,_,_,_,e⟩:=x;exact ⟨_,e⟩
 | tup xs=>obtain ⟨_,_,_,o,e,_⟩:=x;exact ⟨_,e⟩
 | dK kvs=>obtain ⟨_,_,_,_,o,_,_,e,_⟩:=x;exact ⟨_,e⟩
 | dT kvs=>obtain ⟨_,_,_,_,o,_,_,e,_⟩:=x;exact ⟨_,e⟩
 | set S n=>obtain ⟨o,_,_,_,e,_⟩:=x;exact ⟨_,e⟩
 | ins C dx fs=>obtain ⟨_,_,_,e,_⟩:=x;exact ⟨_,e⟩
 | own y=>exact x
 | xd fs=>obtain ⟨_,⟨_,_,_,e,_⟩,_⟩:=x;exact ⟨_,e⟩
 | rng lo hi=>obtain ⟨_,_,_,e⟩:=x;exact ⟨_,e⟩
 | frz ob u=>obtain ⟨e,_⟩:=x;exact ⟨_,e⟩
 | tbl ps=>exact ⟨_,x⟩
 | met f y=>exact ⟨_,x⟩
 | ext φ=>exact x.2.1
structure JU (P:Program)(w:World)(outer:List Env)(H:Hp)(s:Shared)(B:Heap)(H':Hp)(s':Shared):Prop where
 os:s'.os=s.os
 bare:AllBare s'.gens
 stay:B.StaysIn s'.heap
 cov:∀ b o,s.heap.get? b=some o->b ∉ frs outer->∃ o',B.get? b=some o'/\(H b=none->o'=o)
 slot:∀ b o,s.heap.get? b=some o->b ∈ frs outer->∃ sl,s'.heap.get? b=some { o with slots:=sl }
 frf:∀ b ∈ frs outer,H b=none
 free:∀ b o,s.heap.get? b=some o->H b=none->H' b=none
 tups:∀ b xs,H b=some (.tup xs)->H' b=some (.tup xs)
 frzs:∀ b o u,H b=some (.frz o u)->H' b=some (.frz o u)
 tbls:∀ b ps,H b=some (.tbl ps)->∃ more,H' b=some (.tbl (ps ++ more))
 hok:HOk P w H' B
section
variable {P:Program}{w:World}{outer:List Env}{H H':Hp}{s s':Shared}{B h':Heap}
theorem JU.step (a:JU P w outer H s B H' s'){B0:Heap}(fr:s'.heap.FunFrames B0 outer)(k:B.StaysIn h')(u:s'.heap.UpToSlots h'):JU P w outer H s B H' { s' with heap:=h' }:=
 ⟨a.os,a.bare,k,a.cov,fun b o e hb=>by
  obtain ⟨sl,z⟩:=a.slot b o e hb
  obtain ⟨_,o2,e2,nf⟩:=fr.mem hb
  rw [z] at e2;cases e2
  obtain ⟨sl2,z2⟩:=u b _ z nf
  exact ⟨sl2,z2⟩,a.frf,a.free,a.tups,a.frzs,a.tbls,a.hok⟩
end
section
variable {X:Cx}{pins:List (Addr × Obj)}{σ:St}{H H':Hp}{s s':Shared}{B h':Heap}
theorem Inv.ltS (I:Inv X pins σ H s){b:Addr}{o:Obj}(e:X.s₀.heap.get? b=some o):b ≠ X.env.locals:=fun z=>by
 have h:=Nat.lt_of_lt_of_le (Heap.lt_size e) I.ok.above
 rw [z] at h
 exact Nat.lt_irrefl _ h
theorem Inv.notStk (I:Inv X pins σ H s){b:Addr}{o:Obj}(e:X.s₀.heap.get? b=some o)(hb:b ∉ frs X.outer):b ∉ frs X.stack:=fun z=>(List.mem_cons.mp (I.stkSub b z)).elim (I.ltS e) hb
theorem ZY {X:Cx}(hs:X.stack=X.env :: X.outer){b:Addr}(hb:b ∈ frs X.outer):b ∈ frs X.stack:=by
 rw [hs];unfold frs;rw [List.filterMap_cons]
 cases X.env.frame with
 | none=>exact hb
 | some f=>exact List.mem_cons_of_mem _ hb
theorem JU.out (I:Inv X pins σ H s)(hs:X.stack=X.env :: X.outer)(hex:X.ex=[])(a:JU X.prog X.w X.stack H s B H' s'):JU X.prog X.w X.outer X.H₀ X.s₀ B H' s':=by
 have nx:∀ b,b ∉ X.ex:=fun b=>by rw [hex];simp
 refine ⟨a.os.trans I.os,a.bare,a.stay,fun b o e hb=>?_,fun b o e hb=>?_,I.ok.frf,fun b o e n=>?_,fun b xs e=>a.tups b xs (I.base.tups b xs e),fun b o u e=>a.frzs b o u (I.base.frzs b o u e),fun b ps e=>?_,a.hok⟩
 ·obtain ⟨o1,e1⟩:=I.base.there b o e (nx b)
  obtain ⟨o',e2,e3⟩:=a.cov b o1 e1 (I.notStk e hb)
  refine ⟨o',e2,fun n=>?_⟩
  have:=I.base.keep b o e n hb (nx b)
  rw [e1] at this;cases this
  exact e3 (I.base.free b o e n (nx b))
 ·obtain ⟨sl,e1⟩:=I.base.slot b o e (I.ok.frf b hb) hb (nx b)
  obtain ⟨sl2,e2⟩:=a.slot b _ e1 (ZY hs hb)
  exact ⟨sl2,e2⟩
 ·obtain ⟨o1,e1⟩:=I.base.there b o e (nx b)
  exact a.free b o1 e1 (I.base.free b o e n (nx b))
 ·obtain ⟨m1,e1⟩:=I.base.tbls b ps e
  obtain ⟨m2,e2⟩:=a.tbls b _ e1
  exact ⟨m1 ++ m2,by rw [e2,Array.append_assoc]⟩
noncomputable def vz (X:Cx)(s:Shared)(x:Addr):Heap:=PySem.W.hideAll s.heap (x :: frs X.stack)
theorem Gb (I:Inv X pins σ H s){x:Addr}(hx:H x=none):HOk X.prog X.w H (vz X s x):=fun a o e=>by
 refine (I.hok a o e).stay (fun b u hb q=>PySem.W.hideAll_get _ q fun z=>?_) (fun _ q=>q) fun _ _ q=>q
 have:H b=none:=by
  rcases List.mem_cons.mp z with rfl | z
  ·exact hx
  ·exact I.stkFree b z
 rcases hb with rfl | hb
 ·rw [e] at this;cases this
 ·rw [hb] at this;cases this
theorem XT (I:Inv X pins σ H s)(hs:X.stack=X.env :: X.outer)(hex:X.ex=[]){x:Addr}(hx0:X.s₀.heap.get? x=none)(hx:H x=none)(st:(vz X s x).StaysIn h')(us:s.heap.UpToSlots h') :
  JU X.prog X.w X.outer X.H₀ X.s₀ (vz X s x) H { s with heap:=h' }:=by
 have nx:∀ b,b ∉ X.ex:=fun b=>by rw [hex];simp
 have hid:∀ b o o',X.s₀.heap.get? b=some o->b ∉ frs X.outer->s.heap.get? b=some o'->(vz X s x).get? b=some o':=fun b o o' e hb e1=>PySem.W.hideAll_get _ e1 fun z=>by
  rcases List.mem_cons.mp z with rfl | z
  ·rw [hx0] at e;cases e
  ·exact I.notStk e hb z
 refine ⟨I.os,I.bare,st,fun b o e hb=>?_,fun b o e hb=>?_,I.ok.frf,fun b o e n=>I.base.free b o e n (nx b),I.base.tups,I.base.frzs,I.base.tbls,Gb I hx⟩
 ·obtain ⟨o1,e1⟩:=I.base.there b o e (nx b)
  refine ⟨o1,hid b o o1 e hb e1,fun n=>?_⟩
  have:=I.base.keep b o e n hb (nx b)
  rw [e1] at this;cases this;rfl
 ·obtain ⟨sl,e1⟩:=I.base.slot b o e (I.ok.frf b hb) hb (nx b)
  obtain ⟨_,o2,e2,nf⟩:=I.stack.mem (ZY hs hb)
  rw [e1] at e2;cases e2
  obtain ⟨sl2,e3⟩:=us b _ e1 nf
  exact ⟨sl2,e3⟩
end
noncomputable def Two (d:Option Addr)(H:Hp):Prop:=∃ dx fs,d=some dx/\H dx=some (.xd fs)/\2<=fs.length
structure Air (P:Program)(w:World)(outer:List Env)(H:Hp)(s:Shared)(x C:Addr)(d:Option Addr)(H':Hp)(s':Shared):Prop where
 ex:∃ B a0,JU P w outer H s B H' s'/\Heap.FlyingW B outer x (.ref C) a0 s'.heap
 dct:∃ o,s'.heap.get? x=some o/\o.dict=d/\(fl2 o=some .none \/ Two d H')
noncomputable def CX1 (P:Program)(w:World):CXT:=fun outer H s E e s'=>∃ x C d H',e=.ref x/\Air P w outer H s x C d H' s'/\E (.ref C) d H'
theorem CX1.imp {P:Program}{w:World}{outer:List Env}{H:Hp}{s s':Shared}{E E':XK}{e:Value}(h:CX1 P w outer H s E e s')(k:∀ c d H',E c d H'->E' c d H'):CX1 P w outer H s E' e s':=
 let ⟨x,C,d,H',e1,a,q⟩:=h
 ⟨x,C,d,H',e1,a,k _ _ _ q⟩
structure DX (X:Cx)(E:XK):Prop where
 stk:X.stack=X.env :: X.outer
 ex:X.ex=[]
 fr:X.env.frame=some X.env.locals
 xe:X.xe=fun e s'=>wpAny (model X.prog X.w) X.A (leaving X.env e) (fun _ s''=>CX1 X.prog X.w X.outer X.H₀ X.s₀ E e s'') (fun e' s''=>CX1 X.prog X.w X.outer X.H₀ X.s₀ E e' s'') s'
section
variable {X:Cx}{E:XK}{pins:List (Addr × Obj)}{σ:St}{H H':Hp}{s s':Shared}
theorem DX.pass (D:DX X E):xE (CX1 X.prog X.w) X E:=by
 intro pins σ H s e s' I h
 obtain ⟨x,C,d,H',rfl,⟨⟨B,a0,a,fl⟩,o,ho,hd,h2⟩,q⟩:=h
 rw [D.xe]
 have hs:=D.stk
 rw [hs] at fl
 refine wpAny_mono ((wA X.env (.ref x)).any (wpAny_leaves_onW (E:=fun _ _=>False) (Q:=fun _ s2=>∃ h',s2={ s' with heap:=h' }/\Heap.FlyingW B X.outer x (.ref C) a0 h'/\s'.heap.UpToSlots h') (by rw [<- hs];exact I.ok.frames) D.fr fl fun h' f1 us=>⟨h',rfl,f1,us⟩)) (fun _ s2 h2=>?_) fun _ _ z=>z.elim
 obtain ⟨⟨h',rfl,f1,us⟩,sd⟩:=h2
 obtain ⟨o',ho',hd',hf'⟩:=sd x o ho
 exact ⟨x,C,d,H',rfl,⟨⟨B,a0,(a.out I hs D.ex).step (B0:=B) (by
  obtain ⟨_,_,f3,_⟩:=fl
  exact f3.2.2) f1.1 us,f1⟩,o',ho',hd'.trans hd,h2.imp (fun z=>hf'.trans z) id⟩,q⟩
theorem DX.raise (D:DX X E)(I:Inv X pins σ H s){x C:Addr}{d:Option Addr}{oe:Obj}{vs:Array Value}{a0:Value}{h1:Heap}(k:∀ b o,b ≠ x->s.heap.get? b=some o->h1.get? b=some o)(kx:∀ o,s.heap.get? x=some o->∃ vs,o.data=.fields vs)
  (he:h1.get? x=some oe) (hc:oe.cls=.ref C) (hd:oe.dict=d) (hf:oe.data=.fields vs) (hv1:vs[1]?=some .none) (hv0:vs[0]?=some a0) (hv2:vs[2]?=some .none \/ Two d H) (hx0:X.s₀.heap.get? x=none) (hx:H x=none) (q:E (.ref C) d H):X.xe (.ref x) { s with heap:=h1 }:=by
 rw [D.xe]
 have hs:=D.stk
 have st1:(vz X s x).StaysIn h1:=fun b o e=>k b o (fun z=>by rw [z,vz,PySem.W.hideAll_none _ (List.mem_cons_self)] at e;cases e) (PySem.W.of_hideAll _ e)
 have us1:s.heap.UpToSlots h1:=fun b o e nf=>by
  by_cases c:b=x
  ·rw [c] at e
   obtain ⟨vs,z⟩:=kx o e
   exact absurd z (nf vs)
  ·exact ⟨o.slots,k b o c e⟩
 have fr0:s.heap.FunFrames (vz X s x) (X.env :: X.outer):=by
  have:=I.stack
  rw [hs] at this
  exact PySem.W.funFrames_hide this fun env he b hb=>List.mem_cons_of_mem _ (by rw [hs];exact List.mem_filterMap.mpr ⟨env,he,hb⟩)
 have fr1:h1.FunFrames (vz X s x) (X.env :: X.outer):=fr0.of_keeps fun b o e nf=>by
  obtain ⟨sl,z⟩:=us1 b o e nf
  exact ⟨_,z,rfl⟩
 have xn:(vz X s x).get? x=none:=PySem.W.hideAll_none _ List.mem_cons_self
 refine wpAny_mono ((wA X.env (.ref x)).any (wpAny_leaving_firstW (s:={ s with heap:=h1 }) (E:=fun _ _=>False) (base:=vz X s x) (Q:=fun _ s2=>∃ h',s2={ s with heap:=h' }/\Heap.LeftW (vz X s x) (X.env :: X.outer) x oe.cls a0 h1 h') (by rw [<- hs];exact I.ok.frames) fr1 D.fr he st1 xn hf hv1 hv0 fun h' hl=>⟨h',rfl,hl⟩)) (fun _ s2 h2=>?_) fun _ _ z=>z.elim
 obtain ⟨⟨h',rfl,l1,l2,l3,l4⟩,sd⟩:=h2
 obtain ⟨o',ho',hd',hf'⟩:=sd x oe he
 have hff:fl2 oe=vs[2]?:=by unfold fl2;rw [hf]
 rw [hc] at l3
 exact ⟨x,C,d,H,rfl,⟨⟨vz X s x,a0,XT I hs D.ex hx0 hx l1 (us1.trans l4),l1,xn,l2.2.2,l3⟩,o',ho',hd'.trans hd,hv2.imp (fun z=>(hf'.trans hff).trans z) id⟩,q⟩
end
noncomputable def Yq (CX:CXT)(X:Cx)(E:St->XK):Prop:=∀ (pins:List (Addr × Obj)) (σ:St) (H:Hp) (s:Shared) (e:Value) (s':Shared),Inv X pins σ H s->CX X.stack H s (E σ) e s'->X.xe e s'
noncomputable def Qx (sp:Sp)(E:St->XK)(t:TA):TE:=fun σ H Q=>t σ H fun vs H1=>sp vs H1 Q (E σ)
noncomputable def DfX (P:Program)(w:World)(K:PySem.W.Frag)(mg:Str->Option Value)(base:Heap)(x:Str)(ps:List Str)(k:Nat)(sp:Sp):Prop:=
 ∃ f fd,jH P w K mg base (CX1 P w) k f fd ps sp/\j4 K fd ps []/\PySem.W.keepIn K (.ref f)=true/\mg x=some (.ref f)
theorem DfX.mono {P:Program}{w:World}{K:PySem.W.Frag}{mg:Str->Option Value}{base:Heap}{x:Str}{ps:List Str}{j k:Nat}{sp:Sp}(D:DfX P w K mg base x ps j sp)(h:j<=k):DfX P w K mg base x ps k sp:=
 let ⟨f,fd,F,r⟩:=D
 ⟨f,fd,F.mono h,r⟩
section
variable {X:Cx}{k:Nat}{x:Str}{ps:List Str}{sp:Sp}{E:St->XK}{p pos:Pos}{e:Expr}{es:List Expr}{t:TA}
theorem Gh {CX:CXT}{f:Addr}{fd:FuncData}{pins:List (Addr × Obj)}{σ:St}{H:Hp}{s:Shared}{Q:VK}{us:List Value}{vs:List V}(F:jH X.prog X.w X.K X.mg X.base CX k f fd ps sp)(hr:qJ k X.A)(hb:j4 X.K fd ps [])(hx:Yq CX X E)
  (I:Inv X pins σ H s) (r:zH vs us) (h:sp vs H Q (E σ)):wpAny (model X.prog X.w) X.A (call (.ref f) us) (EP X pins σ Q) X.xe s:=by
 have hl:(us ++ []).length=ps.length:=by rw [List.append_nil,<- r.length];exact F.len _ _ _ _ h
 have b1:=hb s us I.kIn hl
 rw [List.append_nil] at b1
 refine wpAny_call (codeAny_mono (F.run X.A X.stack s H ⟨us,[]⟩ us vs Q (E σ) hr I.env0 b1 r h) fun r s' hq=>?_)
 cases r with
 | error e=>exact hx pins σ H s e s' I hq
 | ok fl=>
  cases fl with
  | ret u=>exact I.after hq
  | next=>exact False.elim hq
  | brk=>exact False.elim hq
  | cont=>exact False.elim hq
theorem GL (D:DfX X.prog X.w X.K X.mg X.base x ps k sp)(hr:qJ k X.A)(hg:Gl X x)(hx:Yq (CX1 X.prog X.w) X E)(ha:PA X (e :: es) t)(hdb:(x == ("__debug__":Str))=false:=by decide)
  (he:starEach (e :: es) X.env=(false,eval e X.env) :: starEach es X.env:=by rfl) (hpl:(backTo pos (starEach es X.env)).any (·.1)=false:=by rfl):PE X (.Call (.Name x p) (e :: es) [] pos) (Qx sp E t):=by
 obtain ⟨f,fd,F,b,kp,m⟩:=D
 intro pins s σ H Q I h
 refine wpAny_Call_Name_kw (yC I hg m ?_ hdb)
 refine PySem.W.callWith_K (h₀:=X.base) I.ok.mod.kin kp (thn (ha pos pins s σ H _ I h) fun us s1 ⟨vs,H1,I1,r,q⟩=>⟨I1.kIn,?_⟩) he hpl
 exact Gh F hr b hx I1 r q
theorem DX.passX {E0:XK}(D:DX X E0):Yq (CX1 X.prog X.w) X fun _=>E0:=fun pins σ H s e s' I h=>D.pass pins σ H s e s' I h
end
theorem Hg {P:Program}{w:World}{K:PySem.W.Frag}{mg:Str->Option Value}{base:Heap}{x:Str}{st:Stmt}{N ps:List Str}{k:Nat}{sp:Sp}(a:At K mg x st)(S:zo N ps (zg st))
  (hb:∀ (kV doc pm:Value) (an:Option Addr) (cdv ct:Value) (us:List Value),us.length=ps.length->bindArgs (PySem.W.fnOf x x (jc st) (qr st) (zg st) .none kV doc pm an cdv ct) ⟨us,[]⟩=pure (ps.zip us))
  (len:∀ vs H Q E,sp vs H Q E->vs.length=ps.length)
  (hbody:∀ (f:Addr) (cdv:Value) (A:Around) (outer:List Env) (s:Shared) (H:Hp) (vs:List V) (Q:VK) (E:XK),qJ k (A.deeper (envOfC x (zg st) s.heap.objs.size f cdv))->sp vs H Q E ->
   ∃ t,(DX (ym (CX1 P w) P w K mg base N x (zg st) f cdv A outer s H E) E->PSs (ym (CX1 P w) P w K mg base N x (zg st) f cdv A outer s H E) (qr st) t)/\t { nx:=fun _ H'=>Q .non H',rt:=Q } (start N vs) H):DfX P w K mg base x ps (k+1) sp:=by
 obtain ⟨f,fd,F,m⟩:=a
 refine ⟨f,fd,?_,F.binds hb,F.kp,m⟩
 obtain ⟨oc,od,kV,doc,pm,an,cdv,ct,osl,rfl,lk,hcd⟩:=F.ex
 refine GY lk hcd S len fun A outer s H vs Q E hr hsp=>?_
 obtain ⟨t,ht,q⟩:=hbody f cdv A outer s H vs Q E hr hsp
 exact ⟨t,ht ⟨rfl,rfl,rfl,rfl⟩,q⟩
abbrev B9:List Value:=[.type "ValueError",.type "Exception",.type "BaseException",.type "object"]
theorem F8 {K:PySem.W.Frag}{h:Heap}{C:Addr}{bmB:List Value}{newId:String}(X:K.In h)(q:PySem.W.excIn K C bmB newId=true) :
  ∃ bm N nm qn bs hdct sn sub ab col dd k0 k1 k2 k3 k5 mN,h.get? C=some (excClassObj nm qn C N bs bm hdct sn sub ab col dd k0 k1 k2 k3 k5 newId)/\h.Ns N mN/\mN "__init__"=none/\OwnTail h bmB bm:=by
 unfold PySem.W.excIn at q
 split at q
 ·rename_i dd cd sl ho
  split at q
  ·rename_i C' bm k0 k1 k2 k3 n k5 hm hs
   simp only [Bool.and_eq_true,beq_iff_eq,Bool.not_eq_true'] at q
   obtain ⟨⟨⟨⟨⟨z1,z2⟩,z3⟩,z4⟩,z5⟩,z6⟩:=q
   subst z1 z2
   obtain ⟨c1,c2,c3,c4,c5,c6,c7,c8,c9,c10,c11⟩:=cd
   dsimp only at hm z3 z5 z6
   subst hm z3
   have es:sl=#[k0,k1,k2,k3,some (.builtin n),k5]:=Array.ext' hs
   subst es
   exact ⟨bm,c4,c1,c5,c2,c6,c7,c8,c9,c10,dd,k0,k1,k2,k3,k5,_,X _ _ ho,.of_isNs (PySem.W.isNs_of_in X z5),PySem.W.nsMap_none_of_in X z5 z6,PySem.W.tail_of_in X z4⟩
  ·cases q
 ·cases q
noncomputable def Bo (C:Addr)(E:St->XK)(t:TA):TS:=fun _ σ H=>t σ H fun vs H1=>vs.length<=sizeLine/\E σ (.ref C) none H1
section
variable {X:Cx}{E:XK}{C:Addr}{x:Str}{np cpos pos:Pos}{e:Expr}{es:List Expr}{t:TA}
theorem wu (D:DX X E)(hc:X.calm=true)(q:PySem.W.excIn X.K C B9 "ValueError.__new__"=true)(hg:Gl X x)(hm:X.mg x=some (.ref C))(ha:PA X (e :: es) t)(hdb:(x == ("__debug__":Str))=false:=by decide)
  (he:starEach (e :: es) X.env=(false,eval e X.env) :: starEach es X.env:=by rfl) (hpl:(backTo cpos (starEach es X.env)).any (·.1)=false:=by rfl) :
  PS X (.Raise (some (.Call (.Name x np) (e :: es) [] cpos)) none pos) (Bo C (fun _=>E) t):=by
 intro pins s σ H De I h
 obtain ⟨bm,N,nm,qn,bs,hdct,sn,sub,ab,col,dd,k0,k1,k2,k3,k5,mN,hC,hN,hni,T⟩:=F8 I.ok.mod.kin q
 refine wpAny_Raise_call_subU (C:=C) (nm:=nm) (q:=qn) (N:=N) (bs:=bs) (bm:=bm) (hdct:=hdct) (sn:=sn) (sub:=sub) (ab:=ab) (col:=col) (dd:=dd) (k0:=k0) (k1:=k1) (k2:=k2) (k3:=k3) (k5:=k5)
  PySem.F.excBase_ValueError (by decide) PySem.F.excBase_ValueError (mN:=mN) (T.hasType PySem.F.excBase_ValueError.hasBase) (I.ok.hd hc) (by rw [he];show (false || (backTo cpos (starEach es X.env)).any (·.1))=false;rw [hpl];rfl) hni (yC I hg hm ⟨rfl,?_⟩ hdb)
 have:=ha cpos pins s σ H _ I h
 rw [he] at this ⊢
 refine Calls.evalArgs_plain (wpAny_mono this (fun us s2 h2=>?_) fun _ _ y=>y)
 obtain ⟨vs,H1,I1,r,hl,q1⟩:=h2
 refine ⟨rfl,by rw [<- r.length];exact hl,I1.bk _ _ hC,hN.keeps I1.bk,T.keeps I1.bk,fun h' x1 hx=>?_⟩
 obtain ⟨t1,ho,_,_⟩:=hx.there
 have nx:s2.heap.get? x1=none:=hx.new
 refine D.raise (C:=C) (d:=none) I1 (x:=x1) (fun b o _ z=>hx.keeps b o z) (fun o z=>by rw [nx] at z;cases z) ho rfl rfl rfl rfl rfl (.inl rfl) ?_ ?_ q1
 ·cases z:X.s₀.heap.get? x1 with
  | none=>rfl
  | some o=>
   obtain ⟨o',e'⟩:=I1.base.there x1 o z (by rw [D.ex];simp)
   rw [nx] at e';cases e'
 ·cases z:H1 x1 with
  | none=>rfl
  | some o=>
   obtain ⟨u,e'⟩:=(I1.hok x1 o z).here
   rw [nx] at e';cases e'
end
section
variable {X:Cx}{pins:List (Addr × Obj)}{σ:St}{H H':Hp}{s s':Shared}
end
section
variable {X:Cx}{pins pins':List (Addr × Obj)}{σ:St}{H:Hp}{s s':Shared}{xe:Value->Shared->Prop}
end
section
variable {X:Cx}{pins:List (Addr × Obj)}{σ:St}{H H':Hp}{s s':Shared}{B:Heap}{x C:Addr}{d:Option Addr}{a0:Value}
variable {body suite:List Stmt}{b₀:Stmt}{n tx:Str}{i:Nat}{T:Addr}{np hpos pos:Pos}{tb:(St->XK)->TS}{th:TS}
end
open PySem.W (Looks InstAt findIn findObj subIn mroIn)
section
variable {prog:Program}{w:World}{A:Around}{E:Value->Shared->Prop}{h:Heap}{g:Array GenState}{d:Drawn}{t:Nat}{os:OsState}{K:PySem.W.Frag}{x C:Addr}{ox:Obj}{od:Option Obj}{name:Str}
structure Nk (K:PySem.W.Frag)(C:Addr):Prop where
 bx:subIn K (.ref C) (.type "BaseException")=some true
 ga:findIn K (.ref C) "__getattribute__"=some (some (.builtin "BaseException.__getattribute__"))
 gt:findIn K (.ref C) "__getattr__"=some none
 cl:findIn K (.ref C) "__class__"=some (some (.builtin "object.__class__"))
 gs:PySem.W.specialIn K (.builtin "object.__class__") "__get__"=some (some (.builtin "getset_descriptor.__get__"))
 tk:PySem.W.takesIn K (.builtin "object.__class__")=some true
 mo:mroIn K C (.type "object")=some true
 is:(PySem.W.clsIn K C).isSome=true
end
inductive Au (X:Cx):List Expr->List Value->Prop
 | nil:Au X [] []
 | own {x:Str} {p:Pos} {C:Addr} {es:List Expr} {cs:List Value}:Gl X x->X.mg x=some (.ref C)->(x == ("__debug__":Str))=false->Au X es cs->Au X (.Name x p :: es) (.ref C :: cs)
 | blt {x:Str} {p:Pos} {T:String} {es:List Expr} {cs:List Value}:Gl X x->X.mg x=none->bootBuiltins x=some (.type T)->x ≠ "__name__"->(x == ("__debug__":Str))=false->Au X es cs->Au X (.Name x p :: es) (.type T :: cs)
section
variable {X:Cx}{e c:Expr}{es:List Expr}{cs:List Value}{t:TE}{p pos tp:Pos}{kk:Nat}
end
noncomputable abbrev AXK:=Addr->List (Str × V)->MH->Prop
noncomputable abbrev JO:=List AV->MH->AK->AXK->Prop
noncomputable def HQ (H:Hp)(O:Own)(M:MH)(d:Option Addr)(fs:List (Str × V)):Prop:=d=none/\fs=[] \/ ∃ dx,d=some dx/\H dx=some (.xd fs)/\O dx/\M dx=none
noncomputable def JI (a:JO):Sp:=fun vs H Q E=>∃ xs M O Q' E',Wf H O M/\zi H O M vs xs/\a xs M Q' E'/\(∀ x M' v H' O',Q' x M'->Ext H O M H' O' M'->Wf H' O' M'->zD H' O' M' v x->Q v H') /\
 ∀ C fs M' H' O' d,E' C fs M'->Ext H O M H' O' M'->Wf H' O' M'->HQ H' O' M' d fs->E (.ref C) d H'
noncomputable def cE (H0:Hp)(O0:Own)(M0:MH)(E':AXK):XK:=fun c d H'=>∃ C fs M' O',c=.ref C/\E' C fs M'/\Ext H0 O0 M0 H' O' M'/\Wf H' O' M'/\HQ H' O' M' d fs
structure EXs (H0:Hp)(O0:Own)(M0:MH)(E:St->XK)(EA:ASt->AXK):Prop where
 go:∀ σ ρ C fs M' H' O' d,EA ρ C fs M'->Ext H0 O0 M0 H' O' M'->Wf H' O' M'->Er H' O' M' σ ρ->HQ H' O' M' d fs->E σ (.ref C) d H'
theorem Vi {H0:Hp}{O0:Own}{M0:MH}{E':AXK}:EXs H0 O0 M0 (fun _=>cE H0 O0 M0 E') (fun _=>E'):=⟨fun _ _ C fs M' H' O' d q k w _ x=>⟨C,fs,M',O',rfl,q,k,w,x⟩⟩
structure yz (HX:Hp)(OX:Own)(MX:MH)(t:TS)(a:AS):Prop where
 go:∀ {H0:Hp} {O0:Own} {M0:MH} {D:j8} {D':j5} {σ:St} {H:Hp} {O:Own} {ρ:ASt} {M:MH},Ext HX OX MX H0 O0 M0->Wf H0 O0 M0->Wf H O M->Er H O M σ ρ->Ext H0 O0 M0 H O M->a M0 D' ρ M->ED H0 O0 M0 D D'->t D σ H
section
variable {HX:Hp}{OX:Own}{MX:MH}{t u:TS}{a b:AS}{E:St->XK}{EA:ASt->AXK}{sp:JO}{ta:TA}{aa:AA}
theorem Fv (h:jB t a):yz HX OX MX t a:=⟨fun _ w0 w e x q E=>h.go w0 w e x q E⟩
theorem D0 (h1:yz HX OX MX t a)(h2:yz HX OX MX u b):yz HX OX MX (VB t u) (jZ a b):=
 ⟨fun kx w0 w e x q E=>h1.go kx w0 w e x q ⟨fun σ H O ρ M w e x q=>h2.go kx w0 w e x q E,E.rt,E.bk,E.ct⟩⟩
theorem A7 {c:TT}{ac:AT}(hc:xb c ac)(h1:yz HX OX MX t a)(h2:yz HX OX MX u b):yz HX OX MX (F6 c t u) (vD ac a b):=
 ⟨fun kx w0 w e x q E=>hc.go w e q fun k M1 H1 O1 q1 k1 w1=>by
  cases k with
  | true=>exact h1.go kx w0 w1 (e.ext k1) (x.trans k1) q1 E
  | false=>exact h2.go kx w0 w1 (e.ext k1) (x.trans k1) q1 E⟩
theorem Bi {wi:TI}{g:TG}{ai:AI}{ag:AG}(hi:wf wi ai)(hg:yR g ag)(hb:yz HX OX MX t a):yz HX OX MX (Ge wi g t) (Ff ai ag a):=⟨fun {H0 O0 M0 D D' σ H O ρ M} kx w0 w e x q E=>by
 rw [QK]
 refine hi.go w e q fun l G M1 J H1 O1 q1 k1 w1 hj=>?_
 have E1:=E.tr (x.trans k1)
 have kx1:=kx.trans (x.trans k1)
 obtain ⟨Pv,p0,ps,pd⟩:=q1
 refine ⟨fun i m σ H=>m=l.length - i/\i<=l.length/\∃ O ρ M,Wf H O M/\Er H O M σ ρ/\Ext H1 O1 M1 H O M/\Pv i ρ M,⟨l.length,by simp,Nat.zero_le _,O1,ρ,M1,w1,e.ext k1,.refl,p0⟩,?_⟩
 rintro i m σ H ⟨rfl,hi,O,ρ,M,w,e,x,hf⟩
 by_cases hil:i<l.length
 ·have hy:l[i]?=some l[i]:=List.getElem?_eq_getElem hil
  obtain ⟨hG,q2⟩:=ps i l[i] ρ M hy hf
  obtain ⟨j1,j2⟩:=(hj H O M x.fix x.mst w hG i).2 l[i] hy
  refine .inr ⟨j1,fun σ' H'=>∃ O ρ M,Wf H' O M/\Er H' O M σ' ρ/\Ext H1 O1 M1 H' O M/\Pv (i+1) ρ M,fun σ' H' z=>⟨l.length - (i+1),by omega,rfl,hil,z⟩,fun v H' hv=>?_⟩
  obtain ⟨k2,w2,r2⟩:=j2 v H' hv
  refine hg.go w2 (e.ext k2) r2 q2 fun σ3 H3 O3 ρ3 M3 q3 k3 w3 e3=>?_
  exact hb.go kx1 w1 w3 e3 ((x.trans k2).trans k3) q3 ⟨fun σ H O ρ M w e x q=>⟨O,ρ,M,w,e,x,q⟩,E1.rt,E1.nx,fun σ H O ρ M w e x q=>⟨O,ρ,M,w,e,x,q⟩⟩
 ·have e0:i=l.length:=by omega
  subst e0
  obtain ⟨hG,q2⟩:=pd ρ M hf
  exact .inl ⟨(hj H O M x.fix x.mst w hG l.length).1 rfl,E1.nx _ _ _ _ _ w e x q2⟩⟩
noncomputable def QX (sp:JO)(EA:ASt->AXK)(b:AA):AE:=fun ρ M Q=>b ρ M fun xs M1=>sp xs M1 Q (EA ρ)
theorem A2 (hE:EXs HX OX MX E EA)(hu:kF ta aa){σ:St}{H:Hp}{O:Own}{ρ:ASt}{M:MH}{Q:VK}{Q':AK}(kx:Ext HX OX MX H O M)(w:Wf H O M)(e:Er H O M σ ρ)(q:QX sp EA aa ρ M Q')(k:∀ x M' v H' O',Q' x M'->Ext H O M H' O' M'->Wf H' O' M'->zD H' O' M' v x->Q v H'):Qx (JI sp) E ta σ H Q:=
 hu.go w e q fun xs M1 vs H1 O1 q1 k1 w1 r1=>⟨xs,M1,O1,Q',EA ρ,w1,r1,q1,fun x M2 v H2 O2 q2 k2 w2 r2=>k x M2 v H2 O2 q2 (k1.trans k2) w2 r2,fun C fs M' H' O' d q2 k2 w2 xd=>hE.go σ ρ C fs M' H' O' d q2 ((kx.trans k1).trans k2) w2 (e.ext (k1.trans k2)) xd⟩
theorem WI (hE:EXs HX OX MX E EA)(hu:kF ta aa):yz HX OX MX (YT (Qx (JI sp) E ta)) (WP (QX sp EA aa)):=
 ⟨fun kx _ w e x q D=>A2 hE hu (kx.trans x) w e q fun y M1 v H1 O1 q1 k1 w1 r1=>D.nx _ _ _ _ _ w1 (e.ext k1) (x.trans k1) q1⟩
noncomputable def BG (C:Addr)(EA:ASt->AXK)(b:AA):AS:=fun _ _ ρ M=>b ρ M fun xs M1=>xs.length<=sizeLine/\EA ρ C [] M1
theorem Xg {C:Addr}(hE:EXs HX OX MX E EA)(hu:kF ta aa):yz HX OX MX (Bo C E ta) (BG C EA aa):=
 ⟨fun kx _ w e x q D=>hu.go w e q fun xs M1 vs H1 O1 q1 k1 w1 r1=>⟨by rw [r1.1];exact q1.1,hE.go _ _ C [] M1 H1 O1 none q1.2 ((kx.trans x).trans k1) w1 (e.ext k1) (.inl ⟨rfl,rfl⟩)⟩⟩
end
section
variable {K:PySem.W.Frag}{i:Nat}{T:Addr}{tb:(St->XK)->TS}{th:TS}{ab:(ASt->AXK)->AS}{ah:AS}
end
noncomputable def exA (M0:MH)(E:AXK):AXK:=fun C fs M'=>∃ M'',QZ M0 M' (.d .non) (.d .non) M''/\E C fs M''
theorem PSs.wish' {X:Cx}{xe:Value->Shared->Prop}{st:List Stmt}{t:TS}(k:∀ e s,xe e s->X.xe e s)(h:PSs (X.wish xe) st t):PSs X st t:=fun pins s σ H D I hw=>
 wpAny_mono (h pins s σ H D (I.wish _) hw) (fun _ _ q=>q.unwish) fun e s z=>k e s z
theorem Mb {P : Program}{w : World}{K : PySem.W.Frag}{mg : Str -> Option Value}{base : Heap}{x : Str}{st : Stmt}{N ps : List Str}{k : Nat}{a : JO}(at_ : At K mg x st)(S : zo N ps (zg st))
    (hb:∀ (kV doc pm:Value) (an:Option Addr) (cdv ct:Value) (us:List Value),us.length=ps.length->bindArgs (PySem.W.fnOf x x (jc st) (qr st) (zg st) .none kV doc pm an cdv ct) ⟨us,[]⟩=pure (ps.zip us))
    (len:∀ xs M Q E,a xs M Q E->xs.length=ps.length)
    (hbody:∀ (f:Addr) (cdv:Value) (A:Around) (outer:List Env) (s:Shared) (H:Hp) (HX:Hp) (OX:Own) (MX:MH) (E':AXK),qJ k (A.deeper (envOfC x (zg st) s.heap.objs.size f cdv)) ->
      DX (ym (CX1 P w) P w K mg base N x (zg st) f cdv A outer s H (cE HX OX MX E')) (cE HX OX MX E') ->
      ∃ t,PSs (ym (CX1 P w) P w K mg base N x (zg st) f cdv A outer s H (cE HX OX MX E')) (qr st) t/\∃ b,yz HX OX MX t b/\∀ xs Q E0,E'=exA MX E0->a xs MX Q E0->b MX { nx:=fun _ M'=>rtA MX Q (.d .non) M',rt:=rtA MX Q } (qc N xs) MX):DfX P w K mg base x ps (k+1) (JI a):=by
  refine Hg at_ S hb (fun vs H Q E h=>?_) (fun f cdv A outer s H vs Q E hr h=>?_)
  · obtain ⟨xs,M,O,Q',E',w,r,q,_⟩:=h
    rw [r.1];exact len xs M Q' E' q
  · obtain ⟨xs,M,O,Q',E',w0,r,q,kk,ke⟩:=h
    obtain ⟨t,ht,b,hb,hq⟩:=hbody f cdv A outer s H H O M (exA M E') hr ⟨rfl,rfl,rfl,rfl⟩
    refine ⟨t,fun D=>?_,?_⟩
    · have ce : ∀ c d H', cE H O M (exA M E') c d H' -> E c d H' := fun c d H' ⟨C, fs, M', O', e1, ⟨M'', f, q2⟩, k1, w1, xd⟩ => by
        subst e1
        obtain ⟨O'',w2,k2,-,ko⟩:=Ve w0 w1 k1 (show zD H' O' M' .non (.d .non) from .non) f
        refine ke C fs M'' H' O'' d q2 k2 w2 ?_
        rcases xd with xd | ⟨dx,e1,h1,h2,h3⟩
        · exact .inl xd
        · exact .inr ⟨dx,e1,h1,(ko dx h2 h3).1,(ko dx h2 h3).2⟩
      refine PSs.wish' (fun e s' z=>?_) ht
      exact wpAny_mono z (fun _ s'' y=>y.imp ce) fun e' s'' y=>y.imp ce
    · refine hb.go .refl w0 w0 (Km r N) .refl (hq xs Q' E' rfl q) ⟨fun σ H' O' ρ M' w' e' x' q'=>?_,fun v y H' O' M' w' x' r' q'=>?_,fun _ _ _ _ _ _ _ _ z=>z.elim,fun _ _ _ _ _ _ _ _ z=>z.elim⟩
      · obtain ⟨y',M'',f,q2⟩:=q'
        obtain ⟨O'',w2,k2,r2⟩:=wz w0 w' x' (show zD H' O' M' .non (.d .non) from .non) f
        exact kk _ _ _ _ _ q2 k2 w2 r2
      · obtain ⟨y',M'',f,q2⟩:=q'
        obtain ⟨O'',w2,k2,r2⟩:=wz w0 w' x' r' f
        exact kk _ _ _ _ _ q2 k2 w2 r2
theorem DX.po {X:Cx}{E:XK}(D:DX X E):PassesOwn (model X.prog X.w) X.A X.env X.xe:=by rw [D.xe];exact PassesOwn.leaving
theorem IY {X:Cx}:Yq (CX1 X.prog X.w) X fun _=>E0:=fun _ _ _ _ _ _ _ ⟨_,_,_,_,_,_,z⟩=>z.elim
section
variable {X:Cx}{K:PySem.W.Frag}{body suite:List Stmt}{b₀:Stmt}{n tx:Str}{i:Nat}{T:Addr}{np hpos pos tp p:Pos}{tb:(St->XK)->TS}{th:TS}{e c:Expr}{es:List Expr}{cs:List Value}{t:TE}{kk:Nat}
end
theorem KS {sp:JO}{u:TA}{b:AA}(h:kF u b):ql (Qx (JI sp) (fun _=>E0) u) (QX sp (fun _ _ _ _=>False) b):=
 ⟨fun w e q k=>h.go w e q fun xs M1 vs H1 O1 q1 k1 w1 r1=>⟨xs,M1,O1,_,_,w1,r1,q1,fun x M2 v H2 O2 q2 k2 w2 r2=>k x M2 v H2 O2 q2 (k1.trans k2) w2 r2,fun _ _ _ _ _ _ z=>z.elim⟩⟩
theorem exX {HX:Hp}{OX:Own}{MX:MH}{t:TS}{q:AS->Prop}{b:AS}(h:yz HX OX MX t b)(k:q b):∃ b,yz HX OX MX t b/\q b:=⟨b,h,k⟩
noncomputable def Hb:AR2:=fun x y M Q=>∃ i j,x=.d (.str i)/\y=.d (.str j)/\i.length+j.length<=sizeLine/\Q (.d (.str (i ++ j))) M
theorem Ak:Zk (fun x y H Q=>∃ i j,x=V.str i/\y=V.str j/\i.length+j.length<=sizeLine/\Q (V.str (i ++ j)) H) Hb:=⟨fun w r1 r2 ⟨i,j,e1,e2,hz,q⟩ k=>by
 subst e1 e2;exact ⟨i,j,vQ r1,vQ r2,hz,k _ _ _ _ _ q .refl w .str⟩⟩
section
variable {X:Cx}
end
end L2
namespace PySem
open Sem (wp)
section
variable {prog:Program}{w:World}{A:Around}{E:Value->Shared->Prop}{h:Heap}{g:Array GenState}{d:Drawn}{t:Nat}{os:OsState}
variable {nm q:Str}{C N:Addr}{bs bm bmB:List Value}{hdct:Bool}{sn:List Str}{sub:List Value}{ab:Bool}{col:Option Bool}{dd:Option Addr}{k0 k1 k2 k3 k5:Option Value}{B Bn newId nid initId inN:String}{bmN:List Value}
end
section
variable {M:Model}{A:Around}{E:Value->Shared->Prop}{env:Env}
variable {nm q:Str}{C N:Addr}{bs bm:List Value}{hdct:Bool}{sn:List Str}{sub:List Value}{ab:Bool}{col:Option Bool}{dd:Option Addr}{k0 k1 k2 k3 k5:Option Value}{newId:String}
end
section
variable {prog:Program}{w:World}{A:Around}{E:Value->Shared->Prop}{s:Shared}{env:Env}
variable {nm q:Str}{C N:Addr}{bs bm bmB:List Value}{hdct:Bool}{sn:List Str}{sub:List Value}{ab:Bool}{col:Option Bool}{dd:Option Addr}{k0 k1 k2 k3 k5:Option Value}{B Bn newId nid initId inN:String}{bmN:List Value}
end
end PySem
namespace L2
open PySem PySem.Spec PyProof.Rows
open PySem.W (Looks InstAt findIn findObj subIn mroIn clsIn takerIn hasDictIn)
noncomputable def MY:Value->Bool
 | .ref _=>true
 | _=>false
noncomputable def Lz (l:List Value):Bool:=l.dropWhile MY == B9
structure Nl (K:PySem.W.Frag)(C:Addr)(name:Str):Prop where
 s:findIn K (.ref C) "__setattr__"=some (some (.builtin "object.__setattr__"))
 t:takerIn K C name=some none
 hd:hasDictIn K C=true
 mo:mroIn K C (.type "object")=some true
 ve:(clsIn K C).any (fun cd=>Lz cd.mro)=true
section
variable {prog:Program}{w:World}{A:Around}{E:Value->Shared->Prop}{s:Shared}{K:PySem.W.Frag}{x C:Addr}{ox:Obj}{od:Option Obj}{name:Str}{v:Value}
end
open PySem.W (Looks InstAt findIn findObj subIn mroIn clsIn takerIn hasDictIn)
section
variable {X:Cx}{pins:List (Addr × Obj)}{σ:St}{H:Hp}{s:Shared}
variable {o value:Expr}{f:Str}{ta tv:TE}{pos pos':Pos}
end
section
variable {X:Cx}{E:XK}{C:Addr}{x:Str}{np cpos pos:Pos}{e:Expr}{es:List Expr}{t:TA}{k n:Nat}{fn:List V->List (Str × V)}
end
open PySem.W (Looks InstAt findIn findObj subIn mroIn clsIn takerIn hasDictIn)
section
variable {X:Cx}{k:Nat}{C:Addr}{m x:Str}{ps:List Str}{sp:Sp}{E:St->XK}{p pos apos:Pos}{o e:Expr}{es:List Expr}{t:TA}{to:TE}
end
section
variable {prog:Program}{w:World}{A:Around}{E:Value->Shared->Prop}{s:Shared}{K:PySem.W.Frag}{x C:Addr}{ox u:Obj}{name:Str}{v:Value}
end
section
variable {X:Cx}{e:Expr}{ta:TE}{f:Str}{pos:Pos}
end
open PySem.W (findIn hasDictIn)
section
variable {HX:Hp}{OX:Own}{MX:MH}{E:St->XK}{EA:ASt->AXK}{sp:JO}{te:TE}{ae:AE}{ta:TA}{aa:AA}{C:Addr}{m:Str}
end
end L2
namespace PySem
open Sem (wp)
section
variable {prog:Program}{w:World}{A:Around}{E:Value->Shared->Prop}{s:Shared}
end
section
variable {prog:Program}{w:World}{A:Around}{E:Value->Shared->Prop}{env:Env}
variable {nm q:Str}{C N:Addr}{bs bm bmB:List Value}{hdct:Bool}{sn:List Str}{sub:List Value}{ab:Bool}{col:Option Bool}{dd:Option Addr}{k0 k1 k2 k3 k5:Option Value}{B Bn newId nid initId inN:String}{bmN:List Value}
end
end PySem
namespace L2
open PySem PySem.Spec PyProof.Rows
section
variable {M:Model}{A:Around}{E:Value->Shared->Prop}{s:Shared}
end
section
variable {X:Cx}{E:XK}{pins:List (Addr × Obj)}{σ:St}{H:Hp}{s:Shared}
end
open PySem.W (Looks InstAt findIn findObj subIn mroIn clsIn takerIn hasDictIn)
structure Ni (k:Nat)(A:Around):Prop where
 gd:A.guards=some []
 dp:A.depth+3 * k+5<recursionLimit
 un:A.units+16 * k+200<cLine
open PySem.W (Looks InstAt findIn findObj subIn mroIn clsIn takerIn hasDictIn)
section
variable {X:Cx}{E:XK}{body:List Stmt}{n tx cx:Str}{i k nn:Nat}{T C2:Addr}{np cp cpos rpos hpos pos:Pos}{tb:(St->XK)->TS}{ta:TA}{e1:Expr}{es:List Expr}{fn:List V->List (Str × V)}
end
open PySem.W (Looks InstAt findIn findObj subIn mroIn clsIn takerIn hasDictIn)
section
variable {X:Cx}{e:Expr}{ta:TE}{f:Str}{pos:Pos}{K:PySem.W.Frag}
end
section
variable {HX:Hp}{OX:Own}{MX:MH}{K:PySem.W.Frag}{i j:Nat}{T C2:Addr}{f:Str}{fn:List V->List (Str × V)}{E:XK}{EA:ASt->AXK}{tb:(St->XK)->TS}{ab:(ASt->AXK)->AS}
end
section
variable {X:Cx}{K:PySem.W.Frag}{E:XK}{body:List Stmt}{n tx cx:Str}{i k nn:Nat}{T C2:Addr}{np cp cpos rpos hpos pos:Pos}{tb:(St->XK)->TS}{ta:TA}{e1:Expr}{es:List Expr}{fn:List V->List (Str × V)}
end
noncomputable def xU (b:AA)(n:Nat)(ag:AGs):AS:=fun _ D ρ M=>b ρ M fun xs M1=>xs.length=n/\n<=sizeLine/\ag xs ρ M1 fun ρ2 M3=>D.nx ρ2 M3
theorem AD {K:PySem.W.Frag}{u:TA}{b:AA}{n:Nat}{gs:TGs}{ag:AGs}(h:kF u b)(hg:Kc gs ag):jB (VG (Gu u) (BQ K n gs)) (xU b n ag):=⟨fun _ w e x q E=>h.go w e q fun xs M1 vs H1 O1 q1 k1 w1 r1=>
 ⟨by rw [r1.1,q1.1];exact q1.2.1,fun p hp=>
  have k2:=jr w1 hp (.tup vs)
  ⟨p,vs,rfl,SqT.of zf,r1.1.trans q1.1,hg.go (wt w1 hp _) (e.ext (k1.trans k2)) (r1.ext k2) q1.2.2 fun σ3 H3 O3 ρ3 M3 q3 k3 w3 e3=>E.nx _ _ _ _ _ w3 e3 (((x.trans k1).trans k2).trans k3) q3⟩⟩⟩
section
variable {X:Cx}
end
structure DY where
 nx:ASt->MH->Prop
 rt:List AV->MH->Prop
noncomputable abbrev AST:=MH->DY->ASt->MH->Prop
structure Nj (t:TS)(a:AST):Prop where
 go:∀ {H0:Hp} {O0:Own} {M0:MH} {Q:VK} {D':DY} {σ:St} {H:Hp} {O:Own} {ρ:ASt} {M:MH} {nx:St->Hp->Prop},Wf H0 O0 M0->Wf H O M->Er H O M σ ρ->Ext H0 O0 M0 H O M->a M0 D' ρ M ->
  (∀ ys M' us H' O' p,D'.rt ys M'->Ext H0 O0 M0 H' O' M'->Wf H' O' M'->H' p=some (.tup us)->zi H' O' M' us ys->Q (.ref p) H')->t { nx:=nx,rt:=Q } σ H
end L2
namespace Ot
open PySem PySem.Spec PyProof.Rows L2
noncomputable def top (i:Nat):Stmt:=PySem.Challenge.pw_ownturn_k67_whole_orders_and_their_plans.main.body.getD i (.Pass ⟨0,0,0,0⟩)
section
variable {P:Program}{w:World}{K:PySem.W.Frag}{mg:Str->Option Value}{base:Heap}{k:Nat}
local macro_rules | `(tactic| walk_at "rd")=>`(tactic| try simp only [DA,VB,F6,YC,tOp,tUn,rU,BH,tC,tB,Lp,MF,YV,rI0,rI,VG,JW,IU,YT,DL,BQ,W0,Lx,Hd,tCB,BP,AN,Gx,Ye,GU,K9,Gg,LG,rEq,rNe,HG,Gu,tBM,vS,vO,vT,Wz,Xf,La,L8,XB,JP,A5,L9,L0,GG,GJ,ipI,KG,Wl,VT,tIf,tOr,Iw,LS,Aj,Ia,QK,DR,cxK,A9,GD,G4,MS,iLT,G9,QC,L4,tSl,Ao,QY,EJ,List.append_nil,
 List.getElem?_cons_zero,List.getElem?_cons_succ,Option.some.injEq,exists_eq_left',exists_eq_left,V.int.injEq,V.ref.injEq,V.bl.injEq,List.cons.injEq,and_true,true_and,and_assoc,decide_eq_true_eq,Bool.not_eq_true',decide_eq_false_iff_not,Bool.false_eq_true,if_false,if_true,reduceIte,exists_and_left,exists_and_right,List.set_cons_zero,List.set_cons_succ,List.nil_append,List.cons_append])
theorem xB {H:Hp}{a b:Addr}{o:HO}(h':H b=none)(h:H a=some o):a ≠ b:=zh h h'
theorem yv {H H':Hp}{l:Addr}(h:H' l=none)(e:Kp [] H H'):H l=none:=e.free h
theorem KM {K:PySem.W.Frag}{H H':Hp}{a:Addr}{xs:List V}(h:SqL K H a xs)(e:Kp [] H H'):SqL K H' a xs:=by
 rcases h with (h | ⟨o,h⟩) | h
 ·exact .inl (.inl (e _ _ (by simp) h))
 ·exact .inl (.inr ⟨o,e _ _ (by simp) h⟩)
 ·exact .inr h
theorem hsl:100000<sizeLine:=by rw [sizeLine_eq];decide
theorem QN {α:Type}(k:Nat)(v:α):(List.replicate k [v]).flatten=List.replicate k v:=by simp
theorem jU (i:Int){j:Int}(h:0<j):0<=i % j/\i % j<j:=⟨Int.emod_nonneg _ (by omega),Int.emod_lt_of_pos _ h⟩
theorem LH {i j:Int}(h1:0<=i)(h2:i<18446744073709551616):Dx i j:=.inl ⟨by omega,by omega⟩
theorem Xk {i j:Int}(h1:0<=j)(h2:j<18446744073709551616):Dx i j:=.inr ⟨by omega,by omega⟩
theorem b01 (c:Prop)[Decidable c]:0<=(if c then (1:Int) else 0):=by split <;> decide
theorem YQ {i j:Int}(h1:0<j)(h2:j<1073741824):W3 i j:=⟨h1,h2⟩
local macro_rules | `(tactic| walk_at "ne")=>`(tactic| first | (with_reducible assumption) | exact Ne.symm (by with_reducible assumption) | exact xB (by with_reducible assumption) (by walk_at "hp") | exact Ne.symm (xB (by with_reducible assumption) (by walk_at "hp")))
local macro_rules | `(tactic| walk_at "hp")=>`(tactic| first | (with_reducible assumption) | (with_reducible exact zf) | ((with_reducible refine Eq.trans (zm ?ne) ?_);(case ne=>walk_at "ne");walk_at "hp"))
local macro_rules | `(tactic| walk_at "kp")=>`(tactic| first | (with_reducible assumption) | (with_reducible exact Kp.refl) | ((with_reducible refine Kp.trans ?_ (Kp.new _ ?h));(case h=>with_reducible assumption);walk_at "kp") | ((with_reducible refine Kp.trans ?_ (Kp.set _ ?h));(case h=>(simp;done));walk_at "kp"))
local macro_rules | `(tactic| walk_at "fr")=>`(tactic| first | (with_reducible assumption) | exact yv (by with_reducible assumption) (by walk_at "kp"))
local macro_rules | `(tactic| walk_at "sz")=>`(tactic| (simp only [List.length_cons,List.length_nil,List.length_map,List.length_append,List.length_replicate,List.length_take,List.length_drop,zr,QN,Nat.zero_add,Nat.one_mul];omega))
local macro_rules | `(tactic| walk_at "fact")=>`(tactic| first | (with_reducible assumption) | exact rfl | exact SqL.of (by walk_at "hp") | exact SqT.of (by walk_at "hp") | exact Or.inl (SqL.of (by walk_at "hp")) | exact Or.inr (SqT.of (by walk_at "hp")) | exact Or.inl (by with_reducible assumption) | exact KM (by with_reducible assumption) (by walk_at "kp") | exact Or.inl (KM (by with_reducible assumption) (by walk_at "kp")) | exact Exists.intro _ (SqL.of (by walk_at "hp")) | exact Exists.intro _ (KM (by with_reducible assumption) (by walk_at "kp")) | (walk_at "hp") | decide | omega | exact LH (by omega) (by omega) | exact Xk (by omega) (by omega) | exact YQ (by omega) (by omega) | exact ⟨by omega,by omega⟩ | (walk_at "sz") | exact ⟨by decide,by decide,by decide⟩ | exact Xk (b01 _) (b01' _) | (walk_at "fr"))
local macro_rules | `(tactic| walk_at "x1")=>`(tactic| first
 | ((with_reducible refine Exists.intro ?w (And.intro ?h ?_));(case h=>walk_at "fact"))
 | ((with_reducible refine And.intro ?h ?_);(case h=>walk_at "fact"))
 | ((with_reducible refine Exists.intro ?w (Exists.intro ?w2 (And.intro ?h ?_)));(case h=>walk_at "fact")))
local macro_rules | `(tactic| walk_at "xs")=>`(tactic| repeat walk_at "x1")
local macro_rules | `(tactic| walk_at "sim1") => `(tactic| first
 | ((with_reducible apply simX_tryR Vi);intro HX_ OX_ MX_ E_ EA_ hE_)
 | (with_reducible first | apply D0 | apply A7 | apply Bi | apply WI | apply Xg | apply Fv | exact Vi | exact Ak | apply KS)
 | ((with_reducible apply sim_try);intro HX_ OX_ MX_ E_ EA_ hE_)
 | ((with_reducible apply sim_try0);intro HX_ OX_ MX_ E_ EA_ hE_)
 | (with_reducible first | assumption | apply B4 | exact F5 | exact I0 | exact LO | exact Lg | exact Hs | exact Iq | exact Fq | exact DD | exact Vq | exact As | exact EW | exact DG | exact VV | exact FW | exact HA | exact Gv | exact DC | exact Dc | exact Gd | exact B5 | exact LL | exact Fg | exact BJ | exact Gk | exact E6 | exact IN | exact Wq | exact FA | exact Ds | exact BK | exact XE | exact XN | exact K0 | exact Vt | exact Jc | exact Al | exact VQ | apply AD | apply EX | apply FO | apply EF | apply FQ | apply BB | apply EE | apply Vw | apply FN | apply DZ | apply FI | apply DF | apply Vo | apply AR | apply Dg | apply Mt | apply Ld | apply E2 | apply Iv | apply FT | apply Lw | apply EK | apply Bc | apply ER | apply Ly | apply VS | apply W8 | apply Lf | apply IG | apply wQ | apply ZI | apply DH | apply Vg | apply EY | apply DQ | apply Fw | apply WH | apply Fl | apply A8 | apply AW | apply LQ | apply Ho | apply KW | apply Vr | apply Wx | apply YU))
local macro_rules | `(tactic| walk_at "sim")=>`(tactic| repeat' walk_at "sim1")
local macro_rules | `(tactic| walk_at "ra")=>`(tactic| try simp only [ xU,Hb,QX,BG,qh,aC,aOp,aUn,XQ,kY,aCB,GA,aFz,aOw,LY,HY,aB,Yn,Mg,aOr,MC,aIf,Br,ya,jZ,WP,BO,vD,Be,jQ,JE,xh,G7,xV,asL,WO,Ih,GP,MA,Ff,aiS,Mn,aiE,Mc,v8,Xd,Y5,aI,aI0,aU,vx,aIx,fOp,Hm,MN,Mj,GV,fSl,L6,Bh,MD,bI1,bI2,DO,fCB,ML,G0,Mm,GQ,GX,aBM,Yt,YI,Y6,Ax,EO,HP,yS,LP,y9,HU,MI,Mo,LZ,Mv,MK,L3,Ac,Ws,Option.map_some,A3,BY,BU,Av,AC,Da,Hu,IP,Ib,Ht,Lk,Io,Il,IT,He,HI,IA,HV,IF,IV,Hx,HW,Hc,Lh,Ll,Ig,Le,HK,Lv,Im,HS,Lo,IJ,IH,Ip,IZ,EV,VH,qd,qx,En,xW,GC,Hi,LR,IM,Gc,FB,FL,Es,E7,ET,FH,Zc,MJ,wm,IW,Iz,D9,Qc,Lc,IR,LB,LD,Lq,Hr,Ic,id,decide_true,decide_false,Bool.decide_eq_true,not_true_eq_false,not_false_eq_true,xL,
 List.getElem?_cons_zero,List.getElem?_cons_succ,Option.some.injEq,exists_eq_left',exists_eq_left,AV.d.injEq,AV.ref.injEq,Dat.int.injEq,Dat.bl.injEq,Dat.str.injEq,Dat.lst.injEq,Dat.tup.injEq,Dat.ty.injEq,List.cons.injEq,and_true,true_and,and_assoc,decide_eq_true_eq,Bool.not_eq_true',decide_eq_false_iff_not,Bool.false_eq_true,if_false,if_true,reduceIte,exists_and_left,exists_and_right,List.set_cons_zero,List.set_cons_succ,List.nil_append,List.cons_append,List.length_map,List.map_cons,List.map_nil,Nat.zero_le,Bool.not_true,Bool.not_false,Bool.true_eq_false,eq_self,List.length_cons,List.length_nil])
local macro_rules | `(tactic| walk_at "sk")=>`(tactic| (refine zw fun r9 hr9=>?_;walk_at "ra";refine ⟨_,rfl,_,rfl,by rw [wm];omega,?_⟩;rw [Qc,if_neg (by decide +kernel)];subst hr9))
theorem wj (ns:List Int)(lo hi:Option Int):vy (ns.map V.int) lo hi=List.map V.int ((ns.drop (HT.sIx ns.length 0 lo)).take (HT.sIx ns.length ns.length hi - HT.sIx ns.length 0 lo)):=by
 unfold vy
 rw [List.length_map,<- List.map_drop,<- List.map_take]
theorem xH (cs:List Int)(j:Nat)(v:Int):(cs.map V.int).set j (.int v)=(cs.set j v).map V.int:=by rw [List.map_set]
theorem zV {cs:List Int}{k:Int}(h0:0<=k)(h1:k<cs.length):ixN (cs.map V.int).length k=some k.toNat/\atI (cs.map V.int) k=some (.int (cs.getD k.toNat 0)):=by
 have hk:k.toNat<cs.length:=by omega
 have e1:ixN (cs.map V.int).length k=some k.toNat:=by unfold ixN;rw [List.length_map,if_pos h0,if_pos h1]
 refine ⟨e1,?_⟩
 unfold atI
 rw [e1]
 show (cs.map V.int)[k.toNat]?=_
 rw [List.getElem?_map,List.getD_eq_getElem?_getD,List.getElem?_eq_getElem hk];rfl
theorem jJ {ns:List Int}{i:Nat}{x:V}(h:(ns.map V.int)[i]?=some x):x=.int (ns.getD i 0)/\i<ns.length:=by
 rw [List.getElem?_map] at h
 cases e:ns[i]? with
 | none=>rw [e] at h;cases h
 | some v=>
  rw [e] at h
  cases h
  exact ⟨by rw [List.getD_eq_getElem?_getD,e];rfl,(List.getElem?_eq_some_iff.mp e).1⟩
theorem Kp.un {bs:List Addr}{p:Addr}{H H':Hp}(h:Kp (p :: bs) H H')(hp:H p=none):Kp bs H H':=fun c o n e=>h c o (by
 intro z
 rcases List.mem_cons.mp z with z | z
 ·subst z;rw [hp] at e;cases e
 ·exact n z) e
theorem JA {K:PySem.W.Frag}{H H':Hp}{a:Addr}{xs:List V}(h:SqL K H a xs \/ SqT K H a xs)(e:Kp [] H H'):SqL K H' a xs \/ SqT K H' a xs:=h.imp (fun z=>KY z e) (fun z=>X8 z e)
noncomputable def rfs (rs:List (Addr × List Int)):List V:=rs.map fun r=>V.ref r.1
noncomputable abbrev XS:Stmt:=top 39
theorem YA:zo ["_law_box_here","_law_many","_law_once","_law_found"] ["_law_box_here","_law_many"] (zg XS):=⟨rfl,rfl,rfl,by decide +kernel,rfl,by decide +kernel,by decide +kernel⟩
noncomputable def yb:Sp:=fun vs H Q _=>∃ (b:Addr) (many:Int) (N:Nat),vs=[.ref b,.int many]/\Bx H b N/\N<1000000000/\0<many/\many<1073741824/\∀ r H',Kp [b] H H'->Bx H' b (N+1)->0<=r->r<many->Q (.int r) H'
theorem Gs (a:At K mg "_law_take" XS)(B:Blt mg):Df P w K mg base "_law_take" ["_law_box_here","_law_many"] 1 yb:=by
 refine jh (k:=0) a YA (fun _ _ _ _ _ _=>Pn2_ fun _ _=>rfl) (fun vs H Q E h=>?_) (fun f cdv A outer s H vs Q E hr h=>?_)
 ·obtain ⟨b,m,N,rfl,_⟩:=h;rfl
 obtain ⟨b,m,N,rfl,⟨x,y,z,hb,hx,hy,hy',hz,hz'⟩,hN,hm,hm',q⟩:=h
 have sc:=YA
 refine ⟨_,(zc (zP (zn YD (zF zS (pv 0) ze (fun _ _=>rfl)) ze (zy _)) (zc (qk (zt Js rfl B.divmod Wp (za (zF zS (pv 0) ze (fun _ _=>rfl)) (za (pv 1) zb))) (qO (K:=K) 2 rfl rfl (zM (qg (pv 0) ze zE) (zM (zx (i:=3) sc.nd rfl (by first | exact Or.inl rfl | exact Or.inr rfl)) qR))))
  (zd (zq (pv 3)))) zB)
  (zc (qk (zu zX (zF zS (pv 0) ze (fun _ _=>rfl)) ze) (qg (pv 0) ze zE))
  (zc (zC (i:=2) sc.nd rfl (by first | exact Or.inl rfl | exact Or.inr rfl) (zu qS (zu jz (zu zX (zF zS (pv 0) ze (fun _ _=>rfl)) (zu jz ze (zF zS (pv 0) ze (fun _ _=>rfl)))) (zu zX ze (zF zS (pv 0) ze (fun _ _=>rfl)))) ze))
  (zc (qk (zu qS (zu zX (zu jz (pv 2) (zu zX (zu qS (pv 2) ze) ze)) (zF zS (pv 0) ze (fun _ _=>rfl))) ze) (qg (pv 0) ze zE))
  (zd (zq (zu qS (zu xK (zu qS (zu jz (zF zS (pv 0) ze (fun _ _=>rfl)) (zu zX (zu qS (zF zS (pv 0) ze (fun _ _=>rfl)) ze) ze)) ze) ze) (pv 1)))))))),?_⟩
 rw [show start ["_law_box_here","_law_many","_law_once","_law_found"] [V.ref b,V.int m]=[some (.ref b),some (.int m),none,none] from rfl]
 walk_at "rd"
 walk_at "xs"
 refine yw (fun c=>?_) (fun c=>?_)
 ·walk_at "xs"
  refine fun p hp=>?_
  walk_at "xs"
  refine q _ _ ((Kp.new _ hp).trans (Kp.set _ (by simp))) ⟨_,_,_,zf,Int.ediv_nonneg hx (by omega),hy,hy',hz,by omega⟩ (jU x hm).1 (jU x hm).2
 ·walk_at "xs"
  refine q _ _ ((Kp.set _ (by simp)).trans (Kp.set _ (by simp))) ⟨_,_,_,zf,hx,?_,?_,?_,?_⟩ (jU _ hm).1 (jU _ hm).2
  ·exact (jU _ (by decide)).1
  ·exact Int.lt_trans (jU _ (by decide)).2 (by decide)
  ·omega
  ·omega
noncomputable abbrev Dv:Stmt:=top 38
theorem Dr:zo ["_law_script","_law_k","_law_cell"] ["_law_script","_law_k"] (zg Dv):=⟨rfl,rfl,rfl,by decide +kernel,rfl,by decide +kernel,by decide +kernel⟩
noncomputable def G6:Sp:=fun vs H Q _=>∃ (a:Addr) (k:Int) (cs:List Int),vs=[.ref a,.int k]/\H a=some (il cs)/\0<=k/\k<=1000/\cs.length<=1000/\∀ p H',Kp [] H H'->H p=none->Bx H' p 0->Q (.ref p) H'
theorem Ez {cs:List Int}{k:Int}(h0:0<=k):∃ c:Int,atI (cs.map V.int ++ List.replicate (k+1).toNat (V.int 0)) k=some (.int c):=by
 have e:cs.map V.int ++ List.replicate (k+1).toNat (V.int 0)=(cs ++ List.replicate (k+1).toNat 0).map V.int:=by simp
 have ek:k=((k.toNat:Nat):Int):=by omega
 have hk:k.toNat<(cs ++ List.replicate (k+1).toNat (0:Int)).length:=by rw [List.length_append,List.length_replicate];omega
 refine ⟨(cs ++ List.replicate (k+1).toNat 0)[k.toNat],?_⟩
 rw [e]
 have q:atI ((cs ++ List.replicate (k+1).toNat (0:Int)).map V.int) ((k.toNat:Nat):Int)=some (.int (cs ++ List.replicate (k+1).toNat 0)[k.toNat]):=E3 (by rw [List.getElem?_map,List.getElem?_eq_getElem hk] <;> rfl)
 rw [<- ek] at q
 exact q
theorem LJ (a:At K mg "_law_box" Dv)(B:Blt mg):Df P w K mg base "_law_box" ["_law_script","_law_k"] 1 G6:=by
 refine jh (k:=0) a Dr (fun _ _ _ _ _ _=>Pn2_ fun _ _=>rfl) (fun vs H Q E h=>?_) (fun f cdv A outer s H vs Q E hr h=>?_)
 ·obtain ⟨a,k,cs,rfl,_⟩:=h;rfl
 obtain ⟨a,k,cs,rfl,ha,hk,hk',hcs,q⟩:=h
 have sc:=Dr
 have hsl:=hsl
 refine ⟨_,(zc (zC (i:=2) sc.nd rfl (by first | exact Or.inl rfl | exact Or.inr rfl) (zF zS (zu yP (pv 0) (zu xg (qF (za ze zb)) (zu zX (pv 1) ze))) (pv 1) (fun _ _=>rfl)))
  (zd (zq (qF (za (zu jz (zt Zg rfl B.abs Xu (za (pv 2) zb)) (zK Z5 rfl B.int Qr (za (vH Gz (zt Zg rfl B.abs Xu (za (pv 2) zb)) (zu Hh ze ze) (zy _)) zb))) (za (zu qS (zu jz (zu zX (zu zX (zu qS (pv 2) ze) (zu jz ze (pv 1))) ze) ze) ze) (za ze zb))))))),?_⟩
 rw [show start ["_law_script","_law_k","_law_cell"] [V.ref a,V.int k]=[some (.ref a),some (.int k),none] from rfl]
 walk_at "rd"
 walk_at "xs"
 intro p1 hp1
 walk_at "xs"
 intro p2 hp2
 walk_at "xs"
 intro p3 hp3
 simp only [QN] at hp3 ⊢
 obtain ⟨c,hc⟩:=Ez (cs:=cs) hk
 walk_at "xs"
 intro p4 hp4
 refine q _ _ (by walk_at "kp") (by walk_at "fr") ⟨_,_,_,zf,?_,?_,?_,?_,?_⟩
 ·exact Int.mul_nonneg (by split <;> omega) (b01 _)
 ·exact (jU _ (by decide)).1
 ·exact Int.lt_trans (jU _ (by decide)).2 (by decide)
 ·decide
 ·decide
noncomputable abbrev wU:Stmt:=top 40
theorem Zr:zo ["_law_script","_law_many","_law_cells","_law_k","_law_cell"] ["_law_script","_law_many"] (zg wU):=⟨rfl,rfl,rfl,by decide +kernel,rfl,by decide +kernel,by decide +kernel⟩
noncomputable def JS (K:PySem.W.Frag):Sp:=fun vs H Q _=>∃ (a:Addr) (m:Int) (ns:List Int),vs=[.ref a,.int m]/\SqL K H a (ns.map V.int)/\0<m/\m<=60/\ns.length<=63/\∀ p H' cs,Kp [] H H'->H p=none->H' p=some (il cs)->cs.length<=1000->Q (.ref p) H'
theorem V3 (a:At K mg "_law_folded" wU)(B:Blt mg):Df P w K mg base "_law_folded" ["_law_script","_law_many"] 1 (JS K):=by
 refine jh (k:=0) a Zr (fun _ _ _ _ _ _=>Pn2_ fun _ _=>rfl) (fun vs H Q E h=>?_) (fun f cdv A outer s H vs Q E hr h=>?_)
 ·obtain ⟨a,k,cs,rfl,_⟩:=h;rfl
 obtain ⟨a,m,ns,rfl,ha,hm,hm',hns,q⟩:=h
 obtain ⟨M,rfl⟩:∃ M:Nat,m=M:=⟨m.toNat,by omega⟩
 have sc:=Zr
 have hsl:=hsl
 refine ⟨_,(zc (zC (i:=2) sc.nd rfl (by first | exact Or.inl rfl | exact Or.inr rfl) (zK Qe rfl B.list je (za (jT xN (pv 0) kK (jq (pv 1))) zb)))
  (zc (qv PassesOwn.never rfl (F9 rfl B.enumerate (za (jT xN (pv 0) (jq (pv 1)) (jq ze)) zb)) (qO (K:=K) 2 rfl rfl (zM (zx (i:=3) sc.nd rfl (by first | exact Or.inl rfl | exact Or.inr rfl)) (zM (zx (i:=4) sc.nd rfl (by first | exact Or.inl rfl | exact Or.inr rfl)) qR))) (zd (qk (zu zX (zF zS (pv 2) (zu qS (pv 3) (pv 1)) (fun _ _=>rfl)) (zu jz (pv 4) (zu zX (pv 3) ze))) (qg (pv 2) (zu qS (pv 3) (pv 1)) zE))))
  (zd (zq (pv 2))))),?_⟩
 rw [show start ["_law_script","_law_many","_law_cells","_law_k","_law_cell"] [V.ref a,V.int M]=[some (.ref a),some (.int M),none,none,none] from rfl]
 walk_at "rd"
 walk_at "xs"
 intro p1 hp1
 rw [wj]
 walk_at "xs"
 intro p2 hp2
 walk_at "xs"
 intro p3 hp3
 rw [wj]
 have e63:(63:Int)=((63:Nat):Int):=rfl
 simp only [HT.sIx_none,HT.sIx_nat,e63,List.drop_zero,Nat.sub_zero] at hp2 hp3 ⊢
 walk_at "xs"
 generalize hc0:ns.take (min M ns.length)=c0 at hp2 hp3 ⊢
 generalize hd0:(ns.drop (min M ns.length)).take (min 63 ns.length - min M ns.length)=d0 at hp2 hp3 ⊢
 have lc:c0.length=min M ns.length:=by rw [<- hc0,List.length_take];omega
 have ld:d0.length<=ns.length - M:=by rw [<- hd0,List.length_take,List.length_drop];omega
 have n23:p2 ≠ p3:=by walk_at "ne"
 refine YZ (xs:=d0.map V.int) (fun i τ H'=>∃ u v cs,τ=[some (.ref a),some (.int M),some (.ref p2),u,v]/\Kp [p2] (upd (upd (upd H p1 (HO.lst (List.map V.int c0))) p2 (HO.lst (List.map V.int c0))) p3 (HO.lst (List.map V.int d0))) H'/\H' p2=some (il cs)/\cs.length=c0.length) ?_ ?_ ?_ ?_
 ·exact ⟨none,none,c0,rfl,Kp.refl,by walk_at "hp",rfl⟩
 ·rintro i τ H' _ ⟨u,v,cs,rfl,kp,_⟩
  exact SqL.of (kp _ _ (by simp [Ne.symm n23]) (by walk_at "hp"))
 ·rintro i x pp τ H' hx hpp ⟨u,v,cs,rfl,kp,hcs,hl⟩
  obtain ⟨rfl,hi⟩:=jJ hx
  have b1:=jU (i:Int) hm
  obtain ⟨g1,g2⟩:=zV (cs:=cs) (k:=(i:Int) % (M:Int)) b1.1 (by omega)
  have hcs':upd H' pp (HO.tup [V.int i,V.int (d0.getD i 0)]) p2=some (il cs):=by walk_at "hp"
  walk_at "rd"
  walk_at "xs"
  refine ⟨(kp.trans (Kp.new _ hpp)).trans (Kp.set _ (by simp)),_,zf.trans (congrArg some (congrArg HO.lst (xH _ _ _))),by rw [List.length_set];exact hl⟩
 ·rintro τ H' ⟨u,v,cs,rfl,kp,hcs,hl⟩
  walk_at "rd"
  refine q _ _ cs (fun c o hc hh=>kp c o ?_ ((((Kp.new _ hp1).trans (Kp.new _ hp2)).trans (Kp.new _ hp3)) c o hc hh)) (by walk_at "fr") hcs (by omega)
  have:c ≠ p2:=xB (yv hp2 (Kp.new _ hp1)) hh
  simpa using this
noncomputable abbrev Q2:List Int:=[0,1,2,3,4,5,6,7,4,5,6,7]
noncomputable abbrev Ze:Stmt:=top 46
theorem ZK:zo ["_law_box_here","_law_most","_law_few"] ["_law_box_here","_law_most"] (zg Ze):=⟨rfl,rfl,rfl,by decide +kernel,rfl,by decide +kernel,by decide +kernel⟩
noncomputable def JB:Sp:=fun vs H Q _=>∃ (b:Addr) (m:Int) (N:Nat),vs=[.ref b,.int m]/\Bx H b N/\N<100000000/\24<=m/\m<=1000/\∀ r H',Kp [b] H H'->Bx H' b (N+10)->0<=r->r<=m->Q (.int r) H'
theorem Wt (a:At K mg "_law_length" Ze)(B:Blt mg)(D_law_take:Df P w K mg base "_law_take" ["_law_box_here","_law_many"] 1 yb):Df P w K mg base "_law_length" ["_law_box_here","_law_most"] 2 JB:=by
 refine jh (k:=1) a ZK (fun _ _ _ _ _ _=>Pn2_ fun _ _=>rfl) (fun vs H Q E h=>?_) (fun f cdv A outer s H vs Q E hr h=>?_)
 ·obtain ⟨a,k,cs,rfl,_⟩:=h;rfl
 obtain ⟨b,m,N,rfl,hb,hN,hm,hm',q⟩:=h
 have sc:=ZK
 have hsl:=hsl
 refine' ⟨_,zc (zP (zn jW (zA D_law_take hr rfl (za (pv 0) (za ze zb))) ze (zy _)) (zd (zq (zu jX (pv 1) (zA D_law_take hr rfl (za (pv 0) (za (zt (ZU rfl) rfl B.max D1 (za ze (za (zu xK (pv 1) ze) zb))) zb)))))) zB) (zc _ _),?_⟩
 rotate_left 2
 ·refine' zC (i:=2) _ _ _ _ _ _
  rotate_left 1
  ·exact sc.nd
  ·rfl
  ·first | exact Or.inl rfl | exact Or.inr rfl
  ·refine' zF _ _ _ _
   rotate_left 3
   ·exact zS
   ·refine' qF _
    rotate_left 1
    refine' Yx (is:=[0,1,2,3,4,5,6,7,4,5,6,7]) _
    rfl
   ·exact (zA D_law_take hr rfl (za (pv 0) (za ze zb)))
   ·exact (fun _ _=>rfl)
  ·rfl
  ·first | exact .inl rfl | exact .inr rfl | assumption
 ·refine' zd _
  rotate_left 1
  refine' zq _
  rotate_left 1
  refine' zF _ _ _ _
  rotate_left 3
  ·exact zS
  ·refine' qF _
   rotate_left 1
   refine' za _ _ _
   rotate_left 2
   ·exact pv 2
   ·exact (za (zu zX ze (zA D_law_take hr rfl (za (pv 0) (za ze zb)))) zb)
   ·rfl
  ·exact (zK Z5 rfl B.int Qr (za (vH jW (zA D_law_take hr rfl (za (pv 0) (za ze zb))) ze (zy _)) zb))
  ·exact (fun _ _=>rfl)
 rw [show start ["_law_box_here","_law_most","_law_few"] [V.ref b,V.int m]=[some (.ref b),some (.int m),none] from rfl]
 walk_at "rd"
 refine ⟨b,16,N,rfl,hb,by omega,by decide,by decide,fun r1 H1 k1 b1 l1 u1=>⟨rfl,?_⟩⟩
 walk_at "rd"
 refine yw (fun c=>?_) (fun c=>?_)
 ·walk_at "xs"
  refine ⟨b,_,_,rfl,b1,by omega,by split <;> omega,by split <;> omega,fun r2 H2 k2 b2 l2 u2=>⟨_,rfl,?_⟩⟩
  refine q _ _ (k1.trans k2) (b2.mono (by omega)) ?_ ?_
  ·split at u2 <;> omega
  ·omega
 ·walk_at "xs"
  intro p1 hp1
  refine ⟨b,12,_,rfl,b1.new hp1,by omega,by decide,by decide,fun r2 H2 k2 b2 l2 u2=>?_⟩
  have hne:p1 ≠ b:=by obtain ⟨_,_,_,h,_⟩:=b1;exact Ne.symm (zh h hp1)
  have h2:=k2 p1 _ (by simpa using hne) zf
  obtain ⟨e1,e2⟩:=zV (cs:=Q2) (k:=r2) l2 (by simpa using u2)
  refine ⟨_,_,rfl,SqL.of h2,_,e2,b,17,_,rfl,b2,by omega,by decide,by decide,fun r3 H3 k3 b3 l3 u3=>?_⟩
  have hv:0<=Q2.getD r2.toNat 0/\Q2.getD r2.toNat 0<=(24:Int):=by
   have:∀ j:Nat,0<=Q2.getD j 0/\Q2.getD j 0<=(24:Int):=by
    intro j
    by_cases hj:j<12
    ·have hd:∀ j:Nat,j<12->0<=Q2.getD j 0/\Q2.getD j 0<=(24:Int):=by decide
     exact hd j hj
    ·have e:Q2.getD j (0:Int)=0:=by rw [List.getD_eq_getElem?_getD,List.getElem?_eq_none (by simpa using hj)];rfl
     rw [e];decide
   exact this _
  refine ⟨_,rfl,by show 2<=sizeLine;decide,fun p2 hp2=>?_⟩
  refine ⟨b,6,_,rfl,b3.new hp2,by omega,by decide,by decide,fun r4 H4 k4 b4 l4 u4=>⟨rfl,?_⟩⟩
  have hne2:p2 ≠ b:=by obtain ⟨_,_,_,h,_⟩:=b3;exact Ne.symm (zh h hp2)
  have h4:=k4 p2 _ (by simpa using hne2) zf
  have fin:∀ r,0<=r->r<=24->Q (.int r) H4:=fun r g1 g2=>by
   refine q r H4 ?_ (b4.mono (by omega)) g1 (by omega)
   exact (((k1.trans (Kp.new _ hp1)).trans k2).trans k3).trans ((Kp.new _ hp2).trans k4)
  by_cases c4:r4=0
  ·subst c4
   exact ⟨_,SqL.of h4,_,rfl,fin _ (by omega) (by omega)⟩
  ·rw [if_neg (fun z=>c4 (V.int.inj z))]
   exact ⟨_,SqL.of h4,_,rfl,fin _ hv.1 hv.2⟩
noncomputable abbrev yd:Stmt:=top 41
theorem vm:zo ["_law_box_here","_law_n","_law_row","_law_k"] ["_law_box_here","_law_n"] (zg yd):=⟨rfl,rfl,rfl,by decide +kernel,rfl,by decide +kernel,by decide +kernel⟩
noncomputable def kO:Sp:=fun vs H Q _=>∃ (b:Addr) (n N:Nat),vs=[.ref b,.int n]/\Bx H b N/\N<10000000/\n<=1000/\∀ p H' ns,Kp [b] H H'->H p=none->Bx H' b (N+1000)->H' p=some (il ns)->zj n ns->Q (.ref p) H'
theorem EB (ns:List Int)(i:Nat)(v:Int):(ns.map V.int).take i ++ V.int v :: (ns.map V.int).drop i=(ns.take i ++ v :: ns.drop i).map V.int:=by simp [List.map_take,List.map_drop]
theorem Jl (a:At K mg "_law_shuffled" yd)(B:Blt mg)(D_law_take:Df P w K mg base "_law_take" ["_law_box_here","_law_many"] 1 yb):Df P w K mg base "_law_shuffled" ["_law_box_here","_law_n"] 2 kO:=by
 refine jh (k:=1) a vm (fun _ _ _ _ _ _=>Pn2_ fun _ _=>rfl) (fun vs H Q E h=>?_) (fun f cdv A outer s H vs Q E hr h=>?_)
 ·obtain ⟨a,k,cs,rfl,_⟩:=h;rfl
 obtain ⟨b,n,N,rfl,hb,hN,hn,q⟩:=h
 have sc:=vm
 have hsl:=hsl
 refine ⟨_,(zc (zC (i:=2) sc.nd rfl (by first | exact Or.inl rfl | exact Or.inr rfl) (qF zb))
  (zc (qv PassesOwn.never rfl (qP rfl B.range (za (pv 1) zb)) (zx (i:=3) sc.nd rfl (by first | exact Or.inl rfl | exact Or.inr rfl)) (zd (qQ (vt PySem.F.plainAttrs_list PySem.F.slot_list_insert PySem.F.type_list_insert Zs (pv 2) (za (zA D_law_take hr rfl (za (pv 0) (za (zu zX (pv 3) ze) zb))) (za (pv 3) zb))))))
  (zd (zq (pv 2))))),?_⟩
 rw [show start ["_law_box_here","_law_n","_law_row","_law_k"] [V.ref b,V.int n]=[some (.ref b),some (.int n),none,none] from rfl]
 walk_at "rd"
 walk_at "xs"
 intro p hp
 walk_at "xs"
 have hne:b ≠ p:=hb.ne hp
 rw [Int.toNat_natCast]
 refine yo (fun i τ H'=>∃ u ns,τ=[some (.ref b),some (.int n),some (.ref p),u]/\Kp [p,b] (upd H p (.lst [])) H'/\Bx H' b (N+i)/\H' p=some (il ns)/\zj i ns) ?_ ?_ ?_
 ·exact ⟨none,[],rfl,Kp.refl,hb.new hp,zf,zj.nil⟩
 ·rintro i τ H' hi ⟨u,ns,rfl,kp,b1,hns,ho⟩
  walk_at "rd"
  refine ⟨.inl ⟨rfl,_,SqL.of hns⟩,b,_,N+i,rfl,b1,by omega,by omega,by omega,fun r H2 k2 b2 l2 u2=>?_⟩
  have h2:=k2 p _ (by simpa using Ne.symm hne) hns
  have ol:=ho.1
  refine ⟨_,_,rfl,h2,l2,by rw [List.length_map,ol];omega,by rw [List.length_map,ol];omega,(kp.trans (k2.mono (by simp))).trans (Kp.set _ (by simp)),?_,_,zf.trans (by rw [show (0:Int)+(i:Int)=i by omega,EB]),ho.insert _⟩
  exact b2.keep (Kp.set (bs:=[p]) _ (by simp)) (by simpa using hne)
 ·rintro τ H' ⟨u,ns,rfl,kp,b1,hns,ho⟩
  walk_at "rd"
  exact q p H' ns (Kp.drop1 hp kp) hp (b1.mono (by omega)) hns ho
noncomputable abbrev Zb:Stmt:=top 42
theorem Zw:zo ["_law_box_here","_law_n","_law_many","_law_row","_law_order_here","_law_cuts","_law_begin","_law_end","_law_k"] ["_law_box_here","_law_n","_law_many"] (zg Zb):=⟨rfl,rfl,rfl,by decide +kernel,rfl,by decide +kernel,by decide +kernel⟩
noncomputable def Jf:Sp:=fun vs H Q _=>∃ (b:Addr) (n m N:Nat),vs=[.ref b,.int n,.int m]/\Bx H b N/\N<5000000/\2<=n/\n<=1000/\1<=m/\m<=10/\∀ p H' ns,Kp [b] H H'->H p=none->Bx H' b (N+2000)->H' p=some (il ns)->zj n ns->Q (.ref p) H'
noncomputable def QE (n:Nat)(row os:List Int)(c:Nat):Prop:=os.length=n/\(∃ ν:Nat->Nat,(∀ j,j<c->ν j<c)/\(∀ j k,j<c->k<c->ν j=ν k->j=k)/\∀ j,j<c->os.getD (row.getD j 0).toNat 0=row.getD (ν j) 0)/\∀ j,c<=j->j<n->os.getD (row.getD j 0).toNat 0=row.getD j 0
theorem QE.start {n:Nat}{row:List Int}(ho:zj n row):QE n row (zJ 0 1 n) 0:=by
 refine ⟨zr 0 1 n,⟨id,(fun j hj=>absurd hj (Nat.not_lt_zero _)),(fun j k hj=>absurd hj (Nat.not_lt_zero _)),(fun j hj=>absurd hj (Nat.not_lt_zero _))⟩,fun j _ hj=>?_⟩
 have:=ho.getD hj
 rw [zY n (by omega)];omega
theorem QE.fin {n:Nat}{row os:List Int}(ho:zj n row)(h:QE n row os n):zj n os:=by
 obtain ⟨l,⟨ν,h1,h2,h3⟩,_⟩:=h
 refine jv l (fun i hi=>?_) (fun i k hi hk e=>?_)
 ·obtain ⟨j,hj,e⟩:=ho.ex hi
  have:=h3 j hj
  rw [e,Int.toNat_natCast] at this
  rw [this];exact ho.getD (h1 j hj)
 ·obtain ⟨j,hj,e1⟩:=ho.ex hi
  obtain ⟨j',hj',e2⟩:=ho.ex hk
  have a:=h3 j hj
  have b:=h3 j' hj'
  rw [e1,Int.toNat_natCast] at a
  rw [e2,Int.toNat_natCast] at b
  have:=h2 j j' hj hj' (ho.inj (h1 j hj) (h1 j' hj') (by rw [<- a,<- b,e]))
  subst this
  omega
noncomputable def wM (n:Nat)(row os:List Int)(c e t:Nat):Prop:=os.length=n/\(∃ ν:Nat->Nat,(∀ j,j<c->ν j<c)/\(∀ j k,j<c->k<c->ν j=ν k->j=k)/\∀ j,j<c->os.getD (row.getD j 0).toNat 0=row.getD (ν j) 0)/\(∀ j,c<=j->j<c+t->os.getD (row.getD j 0).toNat 0=row.getD (if j+1=e then c else j+1) 0)/\∀ j,c+t<=j->j<n->os.getD (row.getD j 0).toNat 0=row.getD j 0
theorem QE.go {n:Nat}{row os:List Int}{c:Nat}(e:Nat)(h:QE n row os c):wM n row os c e 0:=⟨h.1,h.2.1,fun j h1 h2=>by omega,fun j h1 h2=>h.2.2 j (by omega) h2⟩
theorem wM.step {n:Nat}{row os:List Int}{c e t:Nat}(ho:zj n row)(h:wM n row os c e t)(ht:c+t<e)(he:e<=n):wM n row (os.set (row.getD (c+t) 0).toNat (row.getD (if c+t+1=e then c else c+t+1) 0)) c e (t+1):=by
 obtain ⟨l,⟨ν,h1,h2,h3⟩,h4,h5⟩:=h
 have gt:=ho.getD (i:=c+t) (by omega)
 have g:∀ j,j<n->(os.set (row.getD (c+t) 0).toNat (row.getD (if c+t+1=e then c else c+t+1) 0)).getD (row.getD j 0).toNat 0=if j=c+t then row.getD (if c+t+1=e then c else c+t+1) 0 else os.getD (row.getD j 0).toNat 0:=fun j hj=>by
  have gj:=ho.getD hj
  rw [qW (by omega)]
  by_cases z:j=c+t
  ·subst z;rw [if_pos rfl,if_pos rfl]
  ·rw [if_neg z,if_neg]
   intro z'
   exact z (ho.inj hj (by omega) (by omega))
 refine ⟨by rw [List.length_set,l],⟨ν,h1,h2,fun j hj=>?_⟩,fun j j1 j2=>?_,fun j j1 j2=>?_⟩
 ·rw [g j (by omega),if_neg (by omega)];exact h3 j hj
 ·rw [g j (by omega)]
  by_cases z:j=c+t
  ·rw [if_pos z,z]
  ·rw [if_neg z];exact h4 j j1 (by omega)
 ·rw [g j j2,if_neg (by omega)];exact h5 j (by omega) j2
theorem wM.done {n:Nat}{row os:List Int}{c e:Nat}(h:wM n row os c e (e - c))(hc:c<=e):QE n row os e:=by
 obtain ⟨l,⟨ν,h1,h2,h3⟩,h4,h5⟩:=h
 refine ⟨l,⟨fun j=>if j<c then ν j else if j+1=e then c else j+1,fun j hj=>?_,fun j k hj hk z=>?_,fun j hj=>?_⟩,fun j j1 j2=>h5 j (by omega) j2⟩
 ·dsimp only
  split
  ·have:=h1 j (by assumption);omega
  ·split <;> omega
 ·dsimp only at z
  by_cases a:j<c
  ·rw [if_pos a] at z
   have:=h1 j a
   by_cases b:k<c
   ·rw [if_pos b] at z;exact h2 j k a b z
   ·rw [if_neg b] at z;split at z <;> omega
  ·rw [if_neg a] at z
   by_cases b:k<c
   ·rw [if_pos b] at z
    have:=h1 k b
    split at z <;> omega
   ·rw [if_neg b] at z
    split at z <;> split at z <;> omega
 ·dsimp only
  by_cases a:j<c
  ·rw [if_pos a];exact h3 j a
  ·rw [if_neg a];exact h4 j (by omega) (by omega)
theorem Qs {cs:List Int}(hp:cs.Pairwise (·<=·))(h0:(0:Int) ∈ cs)(hb:∀ x ∈ cs,0<=x):cs.getD 0 0=0:=by
 cases cs with
 | nil=>rfl
 | cons x r=>
  show x=0
  have:=hb x List.mem_cons_self
  rcases List.mem_cons.mp h0 with e | e
  ·exact e.symm
  ·have:=(List.pairwise_cons.mp hp).1 0 e;omega
theorem JL {cs:List Int}{n:Int}(hp:cs.Pairwise (·<=·))(h0:n ∈ cs)(hb:∀ x ∈ cs,x<=n):cs.getD (cs.length - 1) 0=n:=by
 obtain ⟨i,hi,e⟩:=List.mem_iff_getElem.mp h0
 have hl:cs.length - 1<cs.length:=by omega
 rw [zU hl]
 have h1:=hb _ (List.getElem_mem hl)
 by_cases z:i=cs.length - 1
 ·subst z;exact e
 ·have:=List.pairwise_iff_getElem.mp hp i (cs.length - 1) hi hl (by omega);omega
theorem Kh {cs:List Int}(hp:cs.Pairwise (·<=·)){i:Nat}(hi:i+1<cs.length):cs.getD i 0<=cs.getD (i+1) 0:=by
 rw [zU (by omega),zU hi]
 exact List.pairwise_iff_getElem.mp hp i (i+1) (by omega) hi (by omega)
theorem Nh (cs:List Int):vy (cs.map V.int) (some 1) none=List.map V.int ((cs.drop (min 1 cs.length)).take (cs.length - min 1 cs.length)):=by
 rw [wj,show (1:Int)=((1:Nat):Int) from rfl,HT.sIx_nat,HT.sIx_none]
theorem Bp {k b e:Int}(h1:b<=k)(h2:k<e):b+(k+1 - b) % (e - b)=if k+1=e then b else k+1:=by
 by_cases z:k+1=e
 ·rw [if_pos z,show k+1 - b=e - b by omega,Int.emod_self];omega
 ·rw [if_neg z,Int.emod_eq_of_lt (by omega) (by omega)];omega
theorem Vs (a:At K mg "_law_ringed" Zb)(B:Blt mg)(D_law_take:Df P w K mg base "_law_take" ["_law_box_here","_law_many"] 2 yb)(D_law_shuffled:Df P w K mg base "_law_shuffled" ["_law_box_here","_law_n"] 2 kO):Df P w K mg base "_law_ringed" ["_law_box_here","_law_n","_law_many"] 3 Jf:=by
 refine jh (k:=2) a Zw (fun _ _ _ _ _ _=>Pn3_ fun _ _ _=>rfl) (fun vs H Q E h=>?_) (fun f cdv A outer s H vs Q E hr h=>?_)
 ·obtain ⟨b,n,m,N,rfl,_⟩:=h;rfl
 obtain ⟨b,n,m,N,rfl,hb,hN,hn2,hn,hm1,hm,q⟩:=h
 have sc:=Zw
 have hsl:=hsl
 refine ⟨_,(zc (zC (i:=3) sc.nd rfl (by first | exact Or.inl rfl | exact Or.inr rfl) (zA D_law_shuffled hr rfl (za (pv 0) (za (pv 1) zb))))
  (zc (zC (i:=4) sc.nd rfl (by first | exact Or.inl rfl | exact Or.inr rfl) (zK (qj rfl) rfl B.list je (za (zK qK rfl B.range jw (za (pv 1) zb)) zb)))
  (zc (zC (i:=5) sc.nd rfl (by first | exact Or.inl rfl | exact Or.inr rfl) (zt Ql rfl B.sorted Vy (za (zu yP (qF (za ze (za (pv 1) zb))) (qI (ts:=[8]) rfl rfl (qP rfl B.range (za (zu jX (pv 2) ze) zb)) (fun _ _ _ _=>(zx (i:=8) sc.nd rfl (by first | exact Or.inl rfl | exact Or.inr rfl))) (fun _ _ _ _=>qG) (fun _ _ _ _=>(zA D_law_take hr rfl (za (pv 0) (za (zu zX (pv 1) ze) zb)))))) zb)))
  (zc (qv PassesOwn.never rfl (HB rfl B.zip (za (pv 5) (za (jT xN (pv 5) (jq ze) kK) zb))) (qO (K:=K) 2 rfl rfl (zM (zx (i:=6) sc.nd rfl (by first | exact Or.inl rfl | exact Or.inr rfl)) (zM (zx (i:=7) sc.nd rfl (by first | exact Or.inl rfl | exact Or.inr rfl)) qR))) (zd (qv PassesOwn.never rfl (Z3 rfl B.range (za (pv 6) (za (pv 7) zb))) (zx (i:=8) sc.nd rfl (by first | exact Or.inl rfl | exact Or.inr rfl)) (zd (qk (zF zS (pv 3) (zu zX (pv 6) (zu qS (zu jX (zu zX (pv 8) ze) (pv 6)) (zu jX (pv 7) (pv 6)))) (fun _ _=>rfl)) (qg (pv 4) (zF zS (pv 3) (pv 8) (fun _ _=>rfl)) zE))))))
  (zd (zq (pv 4))))))),?_⟩
 rw [show start ["_law_box_here","_law_n","_law_many","_law_row","_law_order_here","_law_cuts","_law_begin","_law_end","_law_k"] [V.ref b,V.int n,V.int m]=[some (.ref b),some (.int n),some (.int m),none,none,none,none,none,none] from rfl]
 walk_at "rd"
 refine ⟨b,n,N,rfl,hb,by omega,by omega,fun p1 H1 row k1 hp1 b1 h1 ho=>?_⟩
 walk_at "rd"
 walk_at "xs"
 intro p2 hp2
 refine ⟨0,n,1,zf,small_one (by omega) (by omega) (by omega) (by omega),n,by rw [rangeSize_one];split <;> omega,by omega,fun p3 hp3=>?_⟩
 walk_at "xs"
 intro p4 hp4
 walk_at "xs"
 intro D hD
 have ol:=ho.1
 have bG:Bx (upd (upd (upd H1 p2 (jN p2 0 n 1)) p3 (il (zJ 0 1 n))) p4 (.lst [.int 0,.int n])) b (N+1000):=((b1.new hp2).new hp3).new hp4
 have nbD:b ≠ D:=bG.ne hD
 have h3G:upd (upd (upd H1 p2 (jN p2 0 n 1)) p3 (il (zJ 0 1 n))) p4 (.lst [.int 0,.int n]) p3=some (il (zJ 0 1 n)):=by walk_at "hp"
 have h4G:upd (upd (upd H1 p2 (jN p2 0 n 1)) p3 (il (zJ 0 1 n))) p4 (.lst [.int 0,.int n]) p4=some (.lst [.int 0,.int n]):=zf
 have h1G:upd (upd (upd H1 p2 (jN p2 0 n 1)) p3 (il (zJ 0 1 n))) p4 (.lst [.int 0,.int n]) p1=some (il row):=by walk_at "hp"
 have kG:Kp [] H1 (upd (upd (upd H1 p2 (jN p2 0 n 1)) p3 (il (zJ 0 1 n))) p4 (.lst [.int 0,.int n])):=by walk_at "kp"
 have hn3:H1 p3=none:=by walk_at "fr"
 have nb1:b ≠ p1:=hb.ne hp1
 have nb3:b ≠ p3:=b1.ne hn3
 generalize upd (upd (upd H1 p2 (jN p2 0 n 1)) p3 (il (zJ 0 1 n))) p4 (.lst [.int 0,.int n])=G at hD bG h3G h4G h1G kG ⊢
 have n3D:p3 ≠ D:=zh h3G hD
 have n4D:p4 ≠ D:=zh h4G hD
 have n1D:p1 ≠ D:=zh h1G hD
 have nb4:b ≠ p4:=fun z=>by
  obtain ⟨x,y,zz,e,_⟩:=bG
  rw [z,h4G] at e;cases e
 rw [show ((m:Int) - 1).toNat=m - 1 by omega]
 refine yj (fun i τ H'=>∃ u ts,τ=[some (.ref b),some (.int n),some (.int m),some (.ref p1),some (.ref p3),none,none,none,u]/\Kp [D,b] (upd G D (.lst [])) H'/\Bx H' b (N+1000+i)/\H' D=some (il ts)/\ts.length=i/\∀ t ∈ ts,0<=t/\t<=(n:Int)) ?_ ?_ ?_
 ·exact ⟨none,[],rfl,Kp.refl,bG.new hD,zf,rfl,fun t ht=>nomatch ht⟩
 ·rintro i τ H' hi ⟨u,ts,rfl,kp,b',hts,hl,hbd⟩
  walk_at "rd"
  refine ⟨b,_,_,rfl,b',by omega,by omega,by omega,fun r H2 k2 b2 l2 u2=>?_⟩
  have h2:=k2 D _ (by simpa using Ne.symm nbD) hts
  refine ⟨_,h2,by rw [List.length_map];omega,((kp.trans (k2.mono (by simp))).trans (Kp.set _ (by simp))),b2.keep (Kp.set (bs:=[D]) _ (by simp)) (by simpa using nbD),ts ++ [r],zf.trans (congrArg some (congrArg HO.lst (by rw [List.map_append];rfl))),by rw [List.length_append,hl];rfl,fun t ht=>?_⟩
  rcases List.mem_append.mp ht with z | z
  ·exact hbd t z
  ·have:t=r:=by simpa using z
   subst this;omega
 ·rintro τ H' ⟨u,ts,rfl,kp,b',hts,hl,hbd⟩
  have kD:Kp [b] G H':=Kp.drop1 hD kp
  have g3:=kD _ _ (by simpa using Ne.symm nb3) h3G
  have g4:=kD _ _ (by simpa using Ne.symm nb4) h4G
  have g1:=kD _ _ (by simpa using Ne.symm nb1) h1G
  refine ⟨D,rfl,_,g4,_,hts,by rw [List.length_map];show 2+_<=_;omega,fun p6 hp6=>?_⟩
  refine ⟨0 :: (n:Int) :: ts,SqL.of (zf.trans rfl),by rw [List.length_cons,List.length_cons];omega,fun p7 cs hp7 pm pw=>?_⟩
  refine ⟨_,SqL.of zf,fun p8 hp8=>?_⟩
  have lcs:cs.length=m+1:=by rw [pm.length_eq,List.length_cons,List.length_cons];omega
  rw [Nh,lcs]
  generalize hd:(cs.drop (min 1 (m+1))).take (m+1 - min 1 (m+1))=d
  have ld:d.length=m:=by rw [<- hd,List.length_take,List.length_drop];omega
  have gd:∀ i,i<m->d.getD i 0=cs.getD (i+1) 0:=fun i hi=>by
   rw [<- hd,List.getD_eq_getElem?_getD,List.getElem?_take,if_pos (by omega),List.getElem?_drop,List.getD_eq_getElem?_getD]
   congr 2;omega
  have bcs:∀ x ∈ cs,0<=x/\x<=(n:Int):=fun x hx=>by
   have:=pm.mem_iff.mp hx
   rcases List.mem_cons.mp this with z | z
   ·omega
   ·rcases List.mem_cons.mp z with z | z
    ·omega
    ·exact hbd x z
  have c0:=Qs pw (pm.mem_iff.mpr List.mem_cons_self) (fun x hx=>(bcs x hx).1)
  have cn:=JL pw (pm.mem_iff.mpr (List.mem_cons_of_mem _ List.mem_cons_self)) (fun x hx=>(bcs x hx).2)
  rw [lcs,Nat.add_sub_cancel] at cn
  have cb:∀ i,i<=m->0<=cs.getD i 0/\cs.getD i 0<=(n:Int):=fun i hi=>by
   rw [zU (by omega)];exact bcs _ (List.getElem_mem _)
  have n36:p3 ≠ p6:=zh g3 hp6
  have h36:upd H' p6 (HO.lst ([V.int 0,V.int n] ++ List.map V.int ts)) p3=some (il (zJ 0 1 n)):=(zm n36).trans g3
  have n37:p3 ≠ p7:=zh h36 hp7
  have n16:p1 ≠ p6:=zh g1 hp6
  have h16:upd H' p6 (HO.lst ([V.int 0,V.int n] ++ List.map V.int ts)) p1=some (il row):=(zm n16).trans g1
  have n17:p1 ≠ p7:=zh h16 hp7
  have n78:p7 ≠ p8:=zh zf hp8
  have g83:upd (upd (upd H' p6 (HO.lst ([V.int 0,V.int n] ++ List.map V.int ts))) p7 (HO.lst (List.map V.int cs))) p8 (HO.lst (List.map V.int d)) p3=some (il (zJ 0 1 n)):=by walk_at "hp"
  have g81:upd (upd (upd H' p6 (HO.lst ([V.int 0,V.int n] ++ List.map V.int ts))) p7 (HO.lst (List.map V.int cs))) p8 (HO.lst (List.map V.int d)) p1=some (il row):=by walk_at "hp"
  have g87:upd (upd (upd H' p6 (HO.lst ([V.int 0,V.int n] ++ List.map V.int ts))) p7 (HO.lst (List.map V.int cs))) p8 (HO.lst (List.map V.int d)) p7=some (il cs):=by walk_at "hp"
  have g88:upd (upd (upd H' p6 (HO.lst ([V.int 0,V.int n] ++ List.map V.int ts))) p7 (HO.lst (List.map V.int cs))) p8 (HO.lst (List.map V.int d)) p8=some (il d):=zf
  have k8:Kp [] H' (upd (upd (upd H' p6 (HO.lst ([V.int 0,V.int n] ++ List.map V.int ts))) p7 (HO.lst (List.map V.int cs))) p8 (HO.lst (List.map V.int d))):=by walk_at "kp"
  refine ⟨⟨_,SqL.of g87⟩,⟨_,SqL.of g88⟩,?_⟩
  generalize upd (upd (upd H' p6 (HO.lst ([V.int 0,V.int n] ++ List.map V.int ts))) p7 (HO.lst (List.map V.int cs))) p8 (HO.lst (List.map V.int d))=G8 at g83 g81 g87 g88 k8 ⊢
  have n38:p3 ≠ p8:=fun z=>by
   have:H' p3 ≠ none:=by rw [g3];simp
   exact this (by
    have:=yv hp8 (((Kp.new (bs:=[]) (HO.lst ([V.int 0,V.int n] ++ List.map V.int ts)) hp6).trans (Kp.new (HO.lst (List.map V.int cs)) hp7)))
    rw [z];exact this)
  have n13:p1 ≠ p3:=zh h1 hn3
  refine Gj (xs:=cs.map V.int) (ys:=d.map V.int) (fun i τ H2=>∃ u v x os,τ=[some (.ref b),some (.int n),some (.int m),some (.ref p1),some (.ref p3),some (.ref p7),u,v,x]/\Kp [p3] G8 H2/\H2 p3=some (il os)/\QE n row os (cs.getD i 0).toNat) ?_ ?_ ?_ ?_ ?_
  ·rw [List.length_map,List.length_map];omega
  ·refine ⟨none,none,none,zJ 0 1 n,rfl,Kp.refl,g83,?_⟩
   rw [c0];exact QE.start ho
  ·rintro i τ H2 _ ⟨u,v,x,os,rfl,kp2,_⟩
   exact ⟨SqL.of (kp2 _ _ (by simpa using Ne.symm n37) g87),SqL.of (kp2 _ _ (by simpa using Ne.symm n38) g88)⟩
  ·rintro i x y pp τ H2 hx hy hpp ⟨u,v,x',os,rfl,kp2,hos,gone⟩
   obtain ⟨rfl,hi⟩:=jJ hx
   obtain ⟨rfl,hi'⟩:=jJ hy
   have him:i<m:=by omega
   rw [gd i him]
   have q1:=cb i (by omega)
   have q2:=cb (i+1) (by omega)
   have q3:=Kh pw (i:=i) (by omega)
   generalize cs.getD (i+1) 0=ei at q2 q3 ⊢
   generalize cs.getD i 0=ci at q1 q3 gone ⊢
   obtain ⟨c,rfl⟩:∃ c:Nat,ci=c:=⟨ci.toNat,by omega⟩
   obtain ⟨e,rfl⟩:∃ e:Nat,ei=e:=⟨ei.toNat,by omega⟩
   rw [Int.toNat_natCast] at gone ⊢
   walk_at "rd"
   walk_at "xs"
   rw [show ((e:Int) - (c:Int)).toNat=e - c by omega]
   have hos':upd H2 pp (HO.tup [V.int c,V.int e]) p3=some (il os):=by walk_at "hp"
   refine yo (fun t τ H4=>∃ x os',τ=[some (.ref b),some (.int n),some (.int m),some (.ref p1),some (.ref p3),some (.ref p7),some (.int c),some (.int e),x]/\Kp [p3] (upd H2 pp (HO.tup [V.int c,V.int e])) H4/\H4 p3=some (il os')/\wM n row os' c e t) ?_ ?_ ?_
   ·exact ⟨_,os,rfl,Kp.refl,hos',gone.go e⟩
   ·rintro t τ H4 ht ⟨x2,os2,rfl,kp4,hos2,going⟩
    have hrow:H4 p1=some (il row):=kp4 _ _ (by simpa using n13) (Kp.new (bs:=[]) _ hpp _ _ (by simp) (kp2 _ _ (by simpa using n13) g81))
    have gl:=going.1
    have gt:=ho.getD (i:=c+t) (by omega)
    have mn:=Bp (k:=(c:Int)+t) (b:=c) (e:=e) (by omega) (by omega)
    obtain ⟨_,a1⟩:=zV (cs:=row) (k:=(c:Int)+((c:Int)+t+1 - c) % ((e:Int) - c)) (by rw [mn];split <;> omega) (by rw [mn];split <;> omega)
    obtain ⟨_,a2⟩:=zV (cs:=row) (k:=(c:Int)+t) (by omega) (by omega)
    rw [show ((c:Int)+t).toNat=c+t by omega] at a2
    have e3:((c:Int)+((c:Int)+t+1 - c) % ((e:Int) - c)).toNat=if c+t+1=e then c else c+t+1:=by
     rw [mn];split <;> split <;> omega
    rw [e3] at a1
    have f1:ixN (List.map V.int os2).length (row.getD (c+t) 0)=some (row.getD (c+t) 0).toNat:=(zV (cs:=os2) gt.1 (by omega)).1
    have st:=going.step ho (by omega) (by omega)
    walk_at "rd"
    walk_at "xs"
    exact ⟨kp4.trans (Kp.set _ (by simp)),_,zf.trans (congrArg some (congrArg HO.lst (xH _ _ _))),st⟩
   ·rintro τ H4 ⟨x2,os2,rfl,kp4,hos2,going⟩
    walk_at "rd"
    exact ⟨⟨_,rfl⟩,(kp2.trans (Kp.new _ hpp)).trans kp4,os2,hos2,going.done (by omega)⟩
  ·rintro τ H2 ⟨u,v,x,os,rfl,kp2,hos,gone⟩
   walk_at "rd"
   rw [List.length_map,ld,cn,Int.toNat_natCast] at gone
   refine q p3 H2 os ?_ ?_ (((b'.keep k8 (by simp)).keep kp2 (by simpa using nb3)).mono (by omega)) hos (gone.fin ho)
   ·intro c o hc hh
    have a1:=k1 c o hc hh
    have c3:c ≠ p3:=zh a1 hn3
    exact kp2 c o (by simpa using c3) (k8 c o (by simp) (kD c o hc (kG c o (by simp) a1)))
   ·cases z:H p3 with
    | none=>rfl
    | some o=>exact absurd (k1 p3 o (by simpa using Ne.symm nb3) z) (by rw [hn3];simp)
noncomputable abbrev xf:Stmt:=top 43
theorem yr:zo ["_law_box_here","_law_n","_law_order_here","_law_row","_law_k","_law_one","_law_other"] ["_law_box_here","_law_n"] (zg xf):=⟨rfl,rfl,rfl,by decide +kernel,rfl,by decide +kernel,by decide +kernel⟩
noncomputable def AH:Sp:=fun vs H Q _=>∃ (b:Addr) (n N:Nat),vs=[.ref b,.int n]/\Bx H b N/\N<5000000/\2<=n/\n<=1000/\∀ p H' ns,Kp [b] H H'->H p=none->Bx H' b (N+2000)->H' p=some (il ns)->zj n ns->Q (.ref p) H'
theorem zj.swap {n:Nat}{os:List Int}(h:zj n os){x y:Nat}(hx:x<n)(hy:y<n)(ne:x ≠ y)(ex:os.getD x 0=(x:Int))(ey:os.getD y 0=(y:Int)):zj n ((os.set x (y:Int)).set y (x:Int)):=by
 have l:=h.1
 have g:∀ i,((os.set x (y:Int)).set y (x:Int)).getD i 0=if i=y then (x:Int) else if i=x then (y:Int) else os.getD i 0:=fun i=>by
  rw [qW (by rw [List.length_set];omega),qW (by omega)]
 refine jv (by rw [List.length_set,List.length_set,l]) (fun i hi=>?_) (fun i k hi hk e=>?_)
 ·rw [g]
  split
  ·omega
  ·split
   ·omega
   ·exact h.getD hi
 ·rw [g,g] at e
  by_cases i1:i=y
  ·rw [if_pos i1] at e
   by_cases k1:k=y
   ·omega
   ·rw [if_neg k1] at e
    by_cases k2:k=x
    ·rw [if_pos k2] at e;omega
    ·rw [if_neg k2,<- ex] at e
     exact absurd (h.inj hx hk e).symm k2
  ·rw [if_neg i1] at e
   by_cases i2:i=x
   ·rw [if_pos i2] at e
    by_cases k1:k=y
    ·rw [if_pos k1] at e;omega
    ·rw [if_neg k1] at e
     by_cases k2:k=x
     ·omega
     ·rw [if_neg k2,<- ey] at e
      exact absurd (h.inj hy hk e).symm k1
   ·rw [if_neg i2] at e
    by_cases k1:k=y
    ·rw [if_pos k1,<- ex] at e
     exact absurd (h.inj hi hx e) i2
    ·rw [if_neg k1] at e
     by_cases k2:k=x
     ·rw [if_pos k2,<- ey] at e
      exact absurd (h.inj hi hy e) i1
     ·rw [if_neg k2] at e
      exact h.inj hi hk e
theorem Qm {j:Int}(h:0<=j):Builtin.Range.rangeSize 0 j 1=(j.toNat:Int):=by rw [rangeSize_one];split <;> omega
theorem QL (a:At K mg "_law_exchanged" xf)(B:Blt mg)(D_law_take:Df P w K mg base "_law_take" ["_law_box_here","_law_many"] 2 yb)(D_law_shuffled:Df P w K mg base "_law_shuffled" ["_law_box_here","_law_n"] 2 kO):Df P w K mg base "_law_exchanged" ["_law_box_here","_law_n"] 3 AH:=by
 refine jh (k:=2) a yr (fun _ _ _ _ _ _=>Pn2_ fun _ _=>rfl) (fun vs H Q E h=>?_) (fun f cdv A outer s H vs Q E hr h=>?_)
 ·obtain ⟨a,k,cs,rfl,_⟩:=h;rfl
 obtain ⟨b,n,N,rfl,hb,hN,hn2,hn,q⟩:=h
 have sc:=yr
 have hsl:=hsl
 refine ⟨_,(zc (zC (i:=2) sc.nd rfl (by first | exact Or.inl rfl | exact Or.inr rfl) (zK (qj rfl) rfl B.list je (za (zK qK rfl B.range jw (za (pv 1) zb)) zb)))
  (zc (zC (i:=3) sc.nd rfl (by first | exact Or.inl rfl | exact Or.inr rfl) (zA D_law_shuffled hr rfl (za (pv 0) (za (pv 1) zb))))
  (zc (qv PassesOwn.never rfl (qP rfl B.range (za (zA D_law_take hr rfl (za (pv 0) (za (zu zX (zu xK (pv 1) ze) ze) zb))) zb)) (zx (i:=4) sc.nd rfl (by first | exact Or.inl rfl | exact Or.inr rfl)) (zc (Qy (i:=5) (j:=6) rfl sc.nd rfl rfl (by decide) rfl rfl (za (zF zS (pv 3) (zu jz ze (pv 4)) (fun _ _=>rfl)) (za (zF zS (pv 3) (zu zX (zu jz ze (pv 4)) ze) (fun _ _=>rfl)) zb)) rfl)
  (zd (qk (jl (za (pv 6) (za (pv 5) zb))) (qO (K:=K) 2 rfl rfl (zM (qg (pv 2) (pv 5) zE) (zM (qg (pv 2) (pv 6) zE) qR)))))))
  (zd (zq (pv 2)))))),?_⟩
 rw [show start ["_law_box_here","_law_n","_law_order_here","_law_row","_law_k","_law_one","_law_other"] [V.ref b,V.int n]=[some (.ref b),some (.int n),none,none,none,none,none] from rfl]
 walk_at "rd"
 walk_at "xs"
 intro p1 hp1
 refine ⟨0,n,1,zf,small_one (by omega) (by omega) (by omega) (by omega),n,Qm (by omega),by omega,fun p2 hp2=>?_⟩
 have hn2':H p2=none:=by walk_at "fr"
 have b2:Bx (upd (upd H p1 (jN p1 0 n 1)) p2 (il (zJ 0 1 n))) b N:=(hb.new hp1).new hp2
 refine ⟨b,n,N,rfl,b2,by omega,by omega,fun p3 H3 row k3 hp3 b3 hrow ho=>?_⟩
 walk_at "rd"
 walk_at "xs"
 refine ⟨b,_,_,rfl,b3,by omega,by omega,by omega,fun m H4 k4 b4 l4 u4=>?_⟩
 refine ⟨m,rfl,by omega,by omega,?_⟩
 have nb2:p2 ≠ b:=by obtain ⟨o,e⟩:=hb.there;exact Ne.symm (zh e hn2')
 have nb3:p3 ≠ b:=by obtain ⟨o,e⟩:=b2.there;exact Ne.symm (zh e hp3)
 have n23:p2 ≠ p3:=zh zf hp3
 have h32:H3 p2=some (il (zJ 0 1 n)):=k3 _ _ (by simpa using nb2) zf
 have h42:H4 p2=some (il (zJ 0 1 n)):=k4 _ _ (by simpa using nb2) h32
 have h43:H4 p3=some (il row):=k4 _ _ (by simpa using nb3) hrow
 refine yo (fun i τ H'=>∃ u v x os,τ=[some (.ref b),some (.int n),some (.ref p2),some (.ref p3),u,v,x]/\Kp [p2] H4 H'/\H' p2=some (il os)/\zj n os/\∀ j:Nat,2 * i<=j->j<n->os.getD (row.getD j 0).toNat 0=row.getD j 0) ?_ ?_ ?_
 ·refine ⟨none,none,none,zJ 0 1 n,rfl,Kp.refl,h42,zj.rng n,fun j _ hj=>?_⟩
  have:=ho.getD hj
  rw [zY n (by omega)];omega
 ·rintro i τ H' hi ⟨u,v,x,os,rfl,kp,hos,oo,hst⟩
  have h3:H' p3=some (il row):=kp _ _ (by simpa using Ne.symm n23) h43
  have ol:=ho.1
  have ool:=oo.1
  have g0:=ho.getD (i:=2 * i) (by omega)
  have g1:=ho.getD (i:=2 * i+1) (by omega)
  obtain ⟨_,e1⟩:=zV (cs:=row) (k:=2 * (0+(i:Int))) (by omega) (by omega)
  obtain ⟨_,e2⟩:=zV (cs:=row) (k:=2 * (0+(i:Int))+1) (by omega) (by omega)
  rw [show (2 * (0+(i:Int))).toNat=2 * i by omega] at e1
  rw [show (2 * (0+(i:Int))+1).toNat=2 * i+1 by omega] at e2
  have f1:ixN (List.map V.int os).length (row.getD (2 * i) 0)=some (row.getD (2 * i) 0).toNat:=(zV (cs:=os) g0.1 (by omega)).1
  have f2:ixN ((List.map V.int os).set (row.getD (2 * i) 0).toNat (V.int (row.getD (2 * i+1) 0))).length (row.getD (2 * i+1) 0)=some (row.getD (2 * i+1) 0).toNat:=by rw [List.length_set];exact (zV (cs:=os) g1.1 (by omega)).1
  walk_at "rd"
  walk_at "xs"
  intro p hp
  have np:p2 ≠ p:=zh hos hp
  refine ⟨_,SqT.of zf,rfl,_,_,rfl,_,rfl,_,(zm np).trans hos,_,f1,_,_,rfl,_,rfl,_,zf,_,f2,rfl,?_⟩
  have s0:=hst (2 * i) (by omega) (by omega)
  have s1:=hst (2 * i+1) (by omega) (by omega)
  have ne01:(row.getD (2 * i) 0).toNat ≠ (row.getD (2 * i+1) 0).toNat:=fun z=>by
   have:=ho.inj (i:=2 * i) (j:=2 * i+1) (by omega) (by omega) (by omega)
   omega
  have sw:=zj.swap oo (x:=(row.getD (2 * i) 0).toNat) (y:=(row.getD (2 * i+1) 0).toNat) (by omega) (by omega) ne01 (by omega) (by omega)
  rw [Int.toNat_of_nonneg g0.1,Int.toNat_of_nonneg g1.1] at sw
  refine ⟨((kp.trans (Kp.new _ hp)).trans (Kp.set _ (by simp))).trans (Kp.set _ (by simp)),_,zf.trans (congrArg some (congrArg HO.lst (by rw [xH,xH]))),sw,fun j hj1 hj2=>?_⟩
  have gj:=ho.getD (i:=j) hj2
  rw [qW (by rw [List.length_set];omega),qW (by omega),if_neg,if_neg]
  ·exact hst j (by omega) hj2
  ·intro z
   have:=ho.inj (i:=j) (j:=2 * i) hj2 (by omega) (by omega)
   omega
  ·intro z
   have:=ho.inj (i:=j) (j:=2 * i+1) hj2 (by omega) (by omega)
   omega
 ·rintro τ H' ⟨u,v,x,os,rfl,kp,hos,oo,hst⟩
  walk_at "rd"
  refine q p2 H' os ?_ hn2' ((b4.keep kp (by simpa using Ne.symm nb2)).mono (by omega)) hos oo
  intro c o hc hh
  have c2:c ≠ p2:=zh hh hn2'
  exact kp c o (by simpa using c2) (k4 c o hc (k3 c o hc (((Kp.new (bs:=[]) _ hp1).trans (Kp.new _ hp2)) c o (by simp) hh)))
noncomputable abbrev Z6:Stmt:=top 44
theorem Ks:zo ["_law_n","_law_rows","_law_columns","_law_place"] ["_law_n","_law_rows"] (zg Z6):=⟨rfl,rfl,rfl,by decide +kernel,rfl,by decide +kernel,by decide +kernel⟩
noncomputable def YN:Sp:=fun vs H Q _=>∃ (n r c:Nat),vs=[.int n,.int r]/\n=r * c/\1<=r/\1<=c/\n<=1000/\∀ p H' ns,Kp [] H H'->H p=none->H' p=some (il ns)->zj n ns->Q (.ref p) H'
noncomputable def Zo (r c n:Nat):List Int:=(List.range n).map fun (i:Nat)=>(i:Int) % (c:Int) * (r:Int)+(i:Int) / (c:Int)
theorem Wr {r c n i:Nat}(h:i<n):(Zo r c n).getD i 0=(i:Int) % (c:Int) * (r:Int)+(i:Int) / (c:Int):=by
 rw [zU (by simp [Zo];exact h)];simp [Zo]
theorem Ar {r c n:Nat}(h:n=r * c)(hr:1<=r)(hc:1<=c):zj n (Zo r c n):=by
 have key:∀ i:Nat,i<n->(i / c<r/\i % c<c/\(Zo r c n).getD i 0=((i % c * r+i / c:Nat):Int)):=fun i hi=>by
  refine ⟨?_,Nat.mod_lt _ hc,?_⟩
  ·rw [Nat.div_lt_iff_lt_mul hc];omega
  ·rw [Wr hi];simp
 have bd:∀ i:Nat,i<n->i % c * r+i / c<n:=fun i hi=>by
  obtain ⟨h1,h2,_⟩:=key i hi
  have:(i % c+1) * r<=c * r:=Nat.mul_le_mul_right r h2
  have e:c * r=n:=by rw [h,Nat.mul_comm]
  have e2:(i % c+1) * r=i % c * r+r:=Nat.succ_mul _ _
  omega
 refine jv (by simp [Zo]) (fun i hi=>?_) (fun i k hi hk e=>?_)
 ·obtain ⟨h1,h2,h3⟩:=key i hi
  have:=bd i hi
  rw [h3];exact ⟨Int.natCast_nonneg _,Int.ofNat_lt.mpr this⟩
 ·obtain ⟨h1,h2,h3⟩:=key i hi
  obtain ⟨k1,k2,k3⟩:=key k hk
  rw [h3,k3] at e
  have e':i % c * r+i / c=k % c * r+k / c:=by omega
  have d1:(i % c * r+i / c) / r=i % c:=by rw [Nat.add_comm,Nat.add_mul_div_right _ _ hr,Nat.div_eq_of_lt h1,Nat.zero_add]
  have d2:(k % c * r+k / c) / r=k % c:=by rw [Nat.add_comm,Nat.add_mul_div_right _ _ hr,Nat.div_eq_of_lt k1,Nat.zero_add]
  have m:i % c=k % c:=by rw [<- d1,<- d2,e']
  have d:i / c=k / c:=by rw [m] at e';omega
  rw [<- Nat.div_add_mod i c,<- Nat.div_add_mod k c,m,d]
theorem Dh (a:At K mg "_law_table" Z6)(B:Blt mg):Df P w K mg base "_law_table" ["_law_n","_law_rows"] 1 YN:=by
 refine jh (k:=0) a Ks (fun _ _ _ _ _ _=>Pn2_ fun _ _=>rfl) (fun vs H Q E h=>?_) (fun f cdv A outer s H vs Q E hr h=>?_)
 ·obtain ⟨n,r,c,rfl,_⟩:=h;rfl
 obtain ⟨n,r,c,rfl,hn,hr1,hc1,hz,q⟩:=h
 have sc:=Ks
 have hsl:=hsl
 have hrn:r<=n:=by rw [hn];exact Nat.le_mul_of_pos_right r hc1
 have hcn:c<=n:=by rw [hn];exact Nat.le_mul_of_pos_left c hr1
 have ec:(n:Int) / (r:Int)=(c:Int):=by
  rw [hn];push_cast;exact Int.mul_ediv_cancel_left _ (by omega)
 refine ⟨_,(zc (zC (i:=2) sc.nd rfl (by first | exact Or.inl rfl | exact Or.inr rfl) (zu xK (pv 0) (pv 1)))
  (zd (zq (qI (ts:=[3]) rfl rfl (qP rfl B.range (za (pv 0) zb)) (fun _ _ _ _=>(zx (i:=3) sc.nd rfl (by first | exact Or.inl rfl | exact Or.inr rfl))) (fun _ _ _ _=>qG) (fun _ _ _ _=>(zu zX (zu jz (zu qS (pv 3) (pv 2)) (pv 1)) (zu xK (pv 3) (pv 2)))))))),?_⟩
 rw [show start ["_law_n","_law_rows","_law_columns","_law_place"] [V.int n,V.int r]=[some (.int n),some (.int r),none,none] from rfl]
 walk_at "rd"
 walk_at "xs"
 intro D hD
 rw [Int.toNat_natCast,ec]
 refine yj (fun i τ H'=>∃ u,τ=[some (.int n),some (.int r),some (.int c),u]/\Kp [D] (upd H D (.lst [])) H'/\H' D=some (il (Zo r c i))) ?_ ?_ ?_
 ·exact ⟨none,rfl,Kp.refl,zf⟩
 ·rintro i τ H' hi ⟨u,rfl,kp,hd⟩
  have m1:=jU (0+(i:Int)) (show (0:Int)<c by omega)
  walk_at "rd"
  walk_at "xs"
  refine ⟨by rw [List.length_map];simp [Zo];omega,kp.trans (Kp.set _ (by simp)),zf.trans (congrArg some (congrArg HO.lst ?_))⟩
  show _=List.map V.int (Zo r c (i+1))
  unfold Zo
  rw [List.range_succ,List.map_append,List.map_append,Int.zero_add];rfl
 ·rintro τ H' ⟨u,rfl,kp,hd⟩
  exact q D H' _ (Kp.drop1 hD kp) hD hd (Ar hn hr1 hc1)
noncomputable abbrev Z9:Stmt:=top 45
theorem Jm:zo ["_law_box_here","_law_n","_law_way","_law_begin","_law_by","_law_some","_law_k","_law_rows"] ["_law_box_here","_law_n"] (zg Z9):=⟨rfl,rfl,rfl,by decide +kernel,rfl,by decide +kernel,by decide +kernel⟩
noncomputable def Y1:Sp:=fun vs H Q _=>∃ (b:Addr) (n N:Nat),vs=[.ref b,.int n]/\Bx H b N/\N<1000000/\n<=1000/\∀ p H' ns,Kp [b] H H'->H p=none->Bx H' b (N+3000)->H' p=some (il ns)->zj n ns->Q (.ref p) H'
theorem Aa {n:Nat}(hn:0<n)(by':Int):zj n ((List.range n).map fun (i:Nat)=>((i:Int)+by') % (n:Int)):=by
  have g:∀ i,i<n->((List.range n).map fun (i:Nat)=>((i:Int)+by') % (n:Int)).getD i 0=((i:Int)+by') % (n:Int):=fun i hi=>by
    rw [zU (by simp;exact hi)];simp
  refine jv (by simp) (fun i hi=>?_) (fun i k hi hk e=>?_)
  · rw [g i hi];exact jU _ (by omega)
  · rw [g i hi,g k hk] at e
    have h1:=Int.emod_emod_of_dvd
    have d:((i:Int) - (k:Int)) % (n:Int)=0:=by
      have:=Int.emod_eq_emod_iff_emod_sub_eq_zero.mp e
      rw [show (i:Int)+by' - ((k:Int)+by')=(i:Int) - k by omega] at this
      exact this
    obtain ⟨z,hz⟩:=Int.dvd_of_emod_eq_zero d
    by_cases z0:z=0
    · rw [z0,Int.mul_zero] at hz;omega
    · have : (n : Int) <= (n : Int) * z \/ (n : Int) * z <= -(n : Int) := by
        rcases Int.lt_or_gt_of_ne z0 with h | h
        · right
          have:=Int.mul_le_mul_of_nonneg_left (show z<=-1 by omega) (show (0:Int)<=n by omega)
          omega
        · left
          have:=Int.mul_le_mul_of_nonneg_left (show 1<=z by omega) (show (0:Int)<=n by omega)
          omega
      omega
theorem VR {n b:Nat}(h:b<=n):zj n (zJ 0 1 b ++ zJ ((n:Int) - 1) (-1) (n - b)):=by
 have g:∀ i,i<n->(zJ 0 1 b ++ zJ ((n:Int) - 1) (-1) (n - b)).getD i 0=if i<b then (i:Int) else (n:Int) - 1 - ((i - b:Nat):Int):=fun i hi=>by
  by_cases z:i<b
  ·rw [if_pos z,List.getD_eq_getElem?_getD,List.getElem?_append_left (by rw [zr];exact z),<- List.getD_eq_getElem?_getD,zY b z]
  ·rw [if_neg z,List.getD_eq_getElem?_getD,List.getElem?_append_right (by rw [zr];omega),zr,<- List.getD_eq_getElem?_getD,zU (by rw [zr];omega)]
   simp [zJ];omega
 refine jv (by rw [List.length_append,zr,zr];omega) (fun i hi=>?_) (fun i k hi hk e=>?_)
 ·rw [g i hi];split <;> omega
 ·rw [g i hi,g k hk] at e
  split at e <;> split at e <;> omega
theorem EZ {n b:Nat}(h:b<=n):Builtin.Range.rangeSize ((n:Int) - 1) ((b:Int) - 1) (-1)=((n - b:Nat):Int):=by
 unfold Builtin.Range.rangeSize
 rw [if_neg (by decide)]
 split
 ·rw [show (-(-1):Int)=1 from rfl,Int.ediv_one];omega
 ·omega
theorem XM {n b:Nat}(h:n<=1000)(hb:b<=1000):Builtin.Range.small ((n:Int) - 1) ((b:Int) - 1) (-1)=true:=by
 unfold Builtin.Range.small
 unfold Builtin.Range.rangeSize
 simp only [Builtin.Range.rangeFitsLong,Bool.and_eq_true,Bool.or_eq_true,decide_eq_true_eq,beq_iff_eq,show ¬ (-1:Int) > 0 by decide,if_false,Int.neg_neg,Int.ediv_one]
 split <;> omega
theorem WV (a:At K mg "_law_order" Z9)(B:Blt mg)(D_law_take:Df P w K mg base "_law_take" ["_law_box_here","_law_many"] 3 yb)(D_law_shuffled:Df P w K mg base "_law_shuffled" ["_law_box_here","_law_n"] 3 kO)(D_law_ringed:Df P w K mg base "_law_ringed" ["_law_box_here","_law_n","_law_many"] 3 Jf)
  (D_law_exchanged:Df P w K mg base "_law_exchanged" ["_law_box_here","_law_n"] 3 AH) (D_law_table:Df P w K mg base "_law_table" ["_law_n","_law_rows"] 3 YN):Df P w K mg base "_law_order" ["_law_box_here","_law_n"] 4 Y1:=by
 refine jh (k:=3) a Jm (fun _ _ _ _ _ _=>Pn2_ fun _ _=>rfl) (fun vs H Q E h=>?_) (fun f cdv A outer s H vs Q E hr h=>?_)
 ·obtain ⟨b,n,N,rfl,_⟩:=h;rfl
 obtain ⟨b,n,N,rfl,hb,hN,hn,q⟩:=h
 have sc:=Jm
 have hsl:=hsl
 refine ⟨_,(zc (zC (i:=2) sc.nd rfl (by first | exact Or.inl rfl | exact Or.inr rfl) (zA D_law_take hr rfl (za (pv 0) (za ze zb))))
  (zc (zP (PW.pt (ki (zn Kw (pv 1) ze (zy _)) (jC (zn jW (pv 2) ze (zy _))))) (zd (zq (zK (qj rfl) rfl B.list je (za (zK qK rfl B.range jw (za (pv 1) zb)) zb)))) zB)
  (zc (zP (zn Kw (pv 2) ze (zy _)) (zd (zq (zA D_law_shuffled hr rfl (za (pv 0) (za (pv 1) zb))))) zB)
  (zc (zP (zn jW (pv 2) ze (zy _)) (zd (zq (zA D_law_ringed hr rfl (za (pv 0) (za (pv 1) (za ze zb)))))) zB)
  (zc (zP (zn jW (pv 2) ze (zy _)) (zd (zq (zA D_law_ringed hr rfl (za (pv 0) (za (pv 1) (za (zu zX ze (zA D_law_take hr rfl (za (pv 0) (za ze zb)))) zb)))))) zB)
  (zc (zP (zn jW (pv 2) ze (zy _)) (zd (zq (zA D_law_exchanged hr rfl (za (pv 0) (za (pv 1) zb))))) zB)
  (zc (zP (zn jW (pv 2) ze (zy _)) (zc (zC (i:=4) sc.nd rfl (by first | exact Or.inl rfl | exact Or.inr rfl) (zA D_law_take hr rfl (za (pv 0) (za (pv 1) zb))))
  (zd (zq (qI (ts:=[6]) rfl rfl (qP rfl B.range (za (pv 1) zb)) (fun _ _ _ _=>(zx (i:=6) sc.nd rfl (by first | exact Or.inl rfl | exact Or.inr rfl))) (fun _ _ _ _=>qG) (fun _ _ _ _=>(zu qS (zu zX (pv 6) (pv 4)) (pv 1))))))) zB)
  (zc (zP (zn jW (pv 2) ze (zy _)) (zc (Gi (j:=5) rfl sc.nd rfl (by first | exact Or.inl rfl | exact Or.inr rfl) (ts:=[7]) rfl (Z3 rfl B.range (za ze (za (zu zX (pv 1) ze) zb))) (fun _ _ _ _=>(zx (i:=7) sc.nd rfl (by first | exact Or.inl rfl | exact Or.inr rfl))) (fun _ _ _ _=>Qt (zn jW (zu qS (pv 1) (pv 7)) ze (zy _))) (fun _ _ _ _=>(pv 7)))
  (zd (zq (zA D_law_table hr rfl (za (pv 1) (za (zF zS (pv 5) (zA D_law_take hr rfl (za (pv 0) (za (zt zp rfl B.len zZ (za (pv 5) zb)) zb))) (fun _ _=>rfl)) zb)))))) zB)
  (zc (zC (i:=3) sc.nd rfl (by first | exact Or.inl rfl | exact Or.inr rfl) (zA D_law_take hr rfl (za (pv 0) (za (pv 1) zb))))
  (zd (zq (zu yP (zK (qj rfl) rfl B.list je (za (zK qK rfl B.range jw (za (pv 3) zb)) zb)) (zK (qj rfl) rfl B.list je (za (zK Ke rfl B.range jw (za (zu jX (pv 1) ze) (za (zu jX (pv 3) ze) (za (Ec X6 ze) zb)))) zb)))))))))))))),?_⟩
 rw [show start ["_law_box_here","_law_n","_law_way","_law_begin","_law_by","_law_some","_law_k","_law_rows"] [V.ref b,V.int n]=[some (.ref b),some (.int n),none,none,none,none,none,none] from rfl]
 walk_at "rd"
 refine ⟨b,9,N,rfl,hb,by omega,by decide,by decide,fun way H1 k1 b1 l1 u1=>?_⟩
 have fr:∀ p,H1 p=none->H p=none:=fun p hp=>by
  cases z:H p with
  | none=>rfl
  | some o=>
   by_cases pb:p=b
   ·subst pb;obtain ⟨o',e⟩:=b1.there;rw [e] at hp;cases hp
   ·exact absurd (k1 p o (by simpa using pb) z) (by rw [hp];simp)
 have bx:∀ p,H1 p=none->b ≠ p:=fun p hp=>b1.ne hp
 have rr:∀ p,H1 p=none->∃ x x_1 x_2,upd H1 p (jN p 0 (n:Int) 1) p=some (jN p x x_1 x_2)/\Builtin.Range.small x x_1 x_2=true/\∃ x_3:Nat,Builtin.Range.rangeSize x x_1 x_2=(x_3:Int)/\x_3<=100000 /\
   ∀ l,upd H1 p (jN p 0 (n:Int) 1) l=none->Q (V.ref l) (upd (upd H1 p (jN p 0 (n:Int) 1)) l (HO.lst (List.map V.int (zJ x x_2 x_3)))):=fun p hp=>by
  refine ⟨0,n,1,zf,small_one (by omega) (by omega) (by omega) (by omega),n,Qm (by omega),by omega,fun l hl=>?_⟩
  have hl1:H1 l=none:=yv hl (Kp.new _ hp)
  exact q l _ _ (k1.trans ((Kp.new _ hp).trans (Kp.new _ hl))) (fr l hl1) (((b1.new hp).new hl).mono (by omega)) zf (zj.rng n)
 refine yw (fun c=>rr) (fun c=>⟨rfl,yw (fun c=>rr) (fun c8=>⟨way,rfl,?_⟩)⟩)
 refine yw (fun c=>?_) (fun c2=>⟨rfl,yw (fun c=>?_) (fun c=>⟨rfl,yw (fun c=>?_) (fun c=>⟨rfl,yw (fun c=>?_) (fun c=>⟨rfl,yw (fun c=>?_) (fun c=>⟨rfl,yw (fun c=>?_) (fun c=>?_)⟩)⟩)⟩)⟩)⟩)
 ·exact ⟨b,n,N+1,rfl,b1,by omega,hn,fun p H' ns k hp b' h' ho=>q p H' ns (k1.trans k) (fr p hp) (b'.mono (by omega)) h' ho⟩
 ·exact ⟨b,n,1,N+1,rfl,b1,by omega,by omega,hn,by omega,by omega,fun p H' ns k hp b' h' ho=>q p H' ns (k1.trans k) (fr p hp) (b'.mono (by omega)) h' ho⟩
 ·refine ⟨b,4,_,rfl,b1,by omega,by decide,by decide,fun r H2 k2 b2 l2 u2=>⟨_,rfl,?_⟩⟩
  have fr2:∀ p,H2 p=none->H p=none:=fun p hp=>by
   cases z:H p with
   | none=>rfl
   | some o=>
    by_cases pb:p=b
    ·subst pb;obtain ⟨o',e⟩:=b2.there;rw [e] at hp;cases hp
    ·exact absurd (k2 p o (by simpa using pb) (k1 p o (by simpa using pb) z)) (by rw [hp];simp)
  refine ⟨b,n,(2+r).toNat,_,?_,b2,by omega,by omega,hn,by omega,by omega,fun p H' ns k hp b' h' ho=>q p H' ns ((k1.trans k2).trans k) (fr2 p hp) (b'.mono (by omega)) h' ho⟩
  rw [show (((2+r).toNat:Nat):Int)=2+r by omega]
 ·exact ⟨b,n,N+1,rfl,b1,by omega,by omega,hn,fun p H' ns k hp b' h' ho=>q p H' ns (k1.trans k) (fr p hp) (b'.mono (by omega)) h' ho⟩
 ·refine ⟨b,_,_,rfl,b1,by omega,by omega,by omega,fun r H2 k2 b2 l2 u2=>⟨by omega,by omega,fun D hD=>?_⟩⟩
  have fr2:∀ p,H2 p=none->H p=none:=fun p hp=>by
   cases z:H p with
   | none=>rfl
   | some o=>
    by_cases pb:p=b
    ·subst pb;obtain ⟨o',e⟩:=b2.there;rw [e] at hp;cases hp
    ·exact absurd (k2 p o (by simpa using pb) (k1 p o (by simpa using pb) z)) (by rw [hp];simp)
  rw [Int.toNat_natCast]
  refine yj (fun i τ H'=>∃ u,τ=[some (.ref b),some (.int n),some (.int way),none,some (.int r),none,u,none]/\Kp [D] (upd H2 D (.lst [])) H'/\H' D=some (il ((List.range i).map fun (i:Nat)=>((i:Int)+r) % (n:Int)))) ?_ ?_ ?_
  ·exact ⟨none,rfl,Kp.refl,zf⟩
  ·rintro i τ H' hi ⟨u,rfl,kp,hd⟩
   walk_at "rd"
   walk_at "xs"
   refine ⟨by rw [List.length_map,List.length_map,List.length_range];omega,kp.trans (Kp.set _ (by simp)),zf.trans (congrArg some (congrArg HO.lst ?_))⟩
   rw [List.range_succ,List.map_append,List.map_append,Int.zero_add];rfl
  ·rintro τ H' ⟨u,rfl,kp,hd⟩
   exact q D H' _ ((k1.trans k2).trans ((Kp.drop1 hD kp).mono (by simp))) (fr2 D hD) ((b2.kp (Kp.drop1 hD kp)).mono (by omega)) hd (Aa (by omega) r)
 ·refine ⟨by decide,by decide,by omega,by omega,fun D hD=>?_⟩
  rw [show ((n:Int)+1 - 1).toNat=n by omega]
  have nbD:=bx D hD
  refine yj (fun i τ H'=>∃ u ts,τ=[some (.ref b),some (.int n),some (.int way),none,none,none,none,u]/\Kp [D] (upd H1 D (.lst [])) H'/\H' D=some (il ts)/\ts.length<=i/\(1<=i->1<=ts.length)/\∀ t ∈ ts,1<=t/\t<=(n:Int)/\(n:Int) % t=0) ?_ ?_ ?_
  ·exact ⟨none,[],rfl,Kp.refl,zf,Nat.le_refl _,(fun h=>absurd h (by decide)),fun t ht=>nomatch ht⟩
  ·rintro i τ H' hi ⟨u,ts,rfl,kp,hd,hl,hl1,hbd⟩
   walk_at "rd"
   refine ⟨by omega,rfl,yw (fun c=>?_) (fun c=>?_)⟩
   ·refine ⟨_,hd,by rw [List.length_map];omega,kp.trans (Kp.set _ (by simp)),ts ++ [1+(i:Int)],zf.trans (congrArg some (congrArg HO.lst (by rw [List.map_append];rfl))),by rw [List.length_append,List.length_singleton];omega,fun _=>by rw [List.length_append,List.length_singleton];omega,fun t ht=>?_⟩
    rcases List.mem_append.mp ht with z | z
    ·exact hbd t z
    ·have:t=1+(i:Int):=by simpa using z
     subst this
     exact ⟨by omega,by omega,c⟩
   ·refine ⟨kp,ts,hd,by omega,fun _=>?_,hbd⟩
    by_cases z:i=0
    ·subst z
     exact absurd (by show (n:Int) % (1+0)=0;rw [Int.add_zero,Int.emod_one]) c
    ·exact hl1 (by omega)
  ·rintro τ H' ⟨u,ts,rfl,kp,hd,hl,hl1,hbd⟩
   have kD:=Kp.drop1 hD kp
   have l1':=hl1 (by omega)
   refine ⟨D,rfl,_,.inl (SqL.of hd),b,_,N+1,rfl,b1.kp kD,by omega,by rw [List.length_map];omega,by rw [List.length_map];omega,fun r H2 k2 b2 l2 u2=>?_⟩
   rw [List.length_map] at u2
   obtain ⟨e1,e2⟩:=zV (cs:=ts) (k:=r) l2 u2
   have hd2:=k2 _ _ (by simpa using Ne.symm nbD) hd
   have hm:ts.getD r.toNat 0 ∈ ts:=by rw [zU (by omega)];exact List.getElem_mem _
   obtain ⟨t1,t2,t3⟩:=hbd _ hm
   refine ⟨D,rfl,_,_,rfl,SqL.of hd2,_,e2,?_⟩
   generalize ts.getD r.toNat 0=t at t1 t2 t3
   obtain ⟨T,rfl⟩:∃ T:Nat,t=T:=⟨t.toNat,by omega⟩
   have dv:T ∣ n:=Int.natCast_dvd_natCast.mp (Int.dvd_of_emod_eq_zero t3)
   obtain ⟨C,hC⟩:=dv
   refine ⟨n,T,C,rfl,hC,by omega,?_,hn,fun p H3 ns k3 hp3 h3 ho=>?_⟩
   ·rcases Nat.eq_zero_or_pos C with z | z
    ·rw [z,Nat.mul_zero] at hC;omega
    ·exact z
   ·refine q p H3 ns (((k1.trans (kD.mono (by simp))).trans k2).trans (k3.mono (by simp))) ?_ ((b2.kp k3).mono (by omega)) h3 ho
    cases z:H p with
    | none=>rfl
    | some o=>
     by_cases pb:p=b
     ·subst pb;obtain ⟨o',e⟩:=b2.there;rw [e] at hp3;cases hp3
     ·exact absurd (k2 p o (by simpa using pb) (kD p o (by simp) (k1 p o (by simpa using pb) z))) (by rw [hp3];simp)
 ·refine ⟨b,_,_,rfl,b1,by omega,by omega,by omega,fun r H2 k2 b2 l2 u2=>?_⟩
  obtain ⟨R,rfl⟩:∃ R:Nat,r=R:=⟨r.toNat,by omega⟩
  have fr2:∀ p,H2 p=none->H p=none:=fun p hp=>by
   cases z:H p with
   | none=>rfl
   | some o=>
    by_cases pb:p=b
    ·subst pb;obtain ⟨o',e⟩:=b2.there;rw [e] at hp;cases hp
    ·exact absurd (k2 p o (by simpa using pb) (k1 p o (by simpa using pb) z)) (by rw [hp];simp)
  refine ⟨_,rfl,fun p hp=>⟨0,R,1,zf,small_one (by omega) (by omega) (by omega) (by omega),R,Qm (by omega),by omega,fun l hl=>?_⟩⟩
  refine ⟨_,rfl,by decide,by decide,fun p1 hp1=>⟨_,_,_,zf,XM hn (by omega),n - R,EZ (by omega),by omega,fun l1 hl1=>?_⟩⟩
  walk_at "xs"
  intro p2 hp2
  refine q p2 _ (zJ 0 1 R ++ zJ ((n:Int) - 1) (-1) (n - R)) ?_ ?_ ?_ (zf.trans (congrArg some (congrArg HO.lst (by rw [List.map_append])))) (VR (by omega))
  ·exact (k1.trans k2).trans (by walk_at "kp")
  ·exact fr2 p2 (by walk_at "fr")
  ·exact (b2.kp (by walk_at "kp")).mono (by omega)
noncomputable def cE:Option Int->V
 | none=>.non
 | some x=>.int x
inductive De where
 | swap (a b:Nat) | take (p:Nat) | move (p g:Nat) | lay (g:Nat)
noncomputable abbrev GM:V:=.str (Str.ofString "swap")
noncomputable abbrev GS:V:=.str (Str.ofString "take")
noncomputable abbrev GO:V:=.str (Str.ofString "move")
noncomputable abbrev Me:V:=.str (Str.ofString "lay")
noncomputable def deV:De->List V
 | .swap a b=>[GM,.int (a:Int),.int (b:Int)]
 | .take p=>[GS,.int (p:Int)]
 | .move p g=>[GO,.int (p:Int),.int (g:Int)]
 | .lay g=>[Me,.int (g:Int)]
noncomputable abbrev ES:=List (Option Int) × Option Int
inductive DoE:De->ES->ES->Prop
 | swap {a b:Nat} {row:List (Option Int)} {h:Option Int} {x y:Int}:a ≠ b->row[a]?=some (some x)->row[b]?=some (some y)->DoE (.swap a b) (row,h) ((row.set a (some y)).set b (some x),h)
 | take {p:Nat} {row:List (Option Int)} {x:Int}:row[p]?=some (some x)->DoE (.take p) (row,none) (row.set p none,some x)
 | move {p g:Nat} {row:List (Option Int)} {h:Option Int} {x:Int}:row[p]?=some (some x)->row[g]?=some none->DoE (.move p g) (row,h) ((row.set p none).set g (some x),h)
 | lay {g:Nat} {row:List (Option Int)} {x:Int}:row[g]?=some none->DoE (.lay g) (row,some x) (row.set g (some x),none)
inductive xA:List De->ES->ES->Prop
 | nil {s:ES}:xA [] s s
 | cons {d:De} {l:List De} {s t u:ES}:DoE d s t->xA l t u->xA (d :: l) s u
theorem xA.append {a b:List De}{s t u:ES}(h1:xA a s t)(h2:xA b t u):xA (a ++ b) s u:=by
 induction h1 with
 | nil=>exact h2
 | cons d _ ih=>exact .cons d (ih h2)
theorem DoE.len {d:De}{s t:ES}(h:DoE d s t):t.1.length=s.1.length:=by
 cases h <;> simp
theorem jY {row:List (Option Int)}{p:Nat}{c:Option Int}(h:row[p]?=some c):ixN (row.map cE).length (p:Int)=some p/\atI (row.map cE) (p:Int)=some (cE c):=by
 have hp:=(List.getElem?_eq_some_iff.mp h).1
 have e:ixN (row.map cE).length (p:Int)=some p:=by rw [List.length_map];unfold ixN;rw [if_pos (by omega),if_pos (by omega),Int.toNat_natCast]
 refine ⟨e,?_⟩
 unfold atI
 rw [e]
 show (row.map cE)[p]?=_
 rw [List.getElem?_map,h];rfl
theorem zO {X jP:TS}{D:j8}{σ:L2.St}{H:Hp}(h:∀ r,r=jP->VB X r D σ H):VB X jP D σ H:=h jP rfl
noncomputable abbrev deP (qs:List (Addr × De)):List (Addr × List V):=qs.map fun q=>(q.1,deV q.2)
theorem DV (a:List (Addr × List V)):(tfs a).length=a.length:=by unfold tfs;rw [List.length_map]
noncomputable def kP (ms:List Int)(x:Int):List Int:=ms.set x.toNat (ms.getD x.toNat 0+1)
noncomputable def vi (ms:List Int):Option Int->List Int
 | none=>ms
 | some x=>kP ms x
noncomputable def HM:De->ES->List (Option Int)
 | .swap a b,s=>[s.1.getD a none,s.1.getD b none]
 | .take p,s=>[s.1.getD p none]
 | .move p g,s=>[s.1.getD p none,s.1.getD g none]
 | .lay _,s=>[s.2]
noncomputable def qH (d:De)(s:ES)(ms:List Int):List Int:=(HM d s).foldl vi ms
theorem Jh (ms:List Int)(x:Int):(kP ms x).length=ms.length:=by unfold kP;rw [List.length_set]
theorem Wn (ms:List Int)(c:Option Int):(vi ms c).length=ms.length:=by cases c;rfl;exact Jh _ _
theorem Vz (cs:List (Option Int))(ms:List Int):(cs.foldl vi ms).length=ms.length:=by
 induction cs generalizing ms with
 | nil=>rfl
 | cons c cs ih=>exact (ih _).trans (Wn _ _)
theorem xi (d:De)(s:ES)(ms:List Int):(qH d s ms).length=ms.length:=Vz _ _
noncomputable def OkM (s:ES)(n:Nat):Prop:=(∀ x,some x ∈ s.1->0<=x/\x<(n:Int))/\∀ x,s.2=some x->0<=x/\x<(n:Int)
theorem DoE.okm {d:De}{s t:ES}{n:Nat}(h:DoE d s t)(o:OkM s n):OkM t n:=by
 obtain ⟨o1,o2⟩:=o
 have ms:∀ {row:List (Option Int)} {i:Nat} {v:Option Int},(∀ x,some x ∈ row->0<=x/\x<(n:Int))->(∀ x,v=some x->0<=x/\x<(n:Int))->∀ x,some x ∈ row.set i v->0<=x/\x<(n:Int):=fun h1 h2 x hx=>by
  rcases List.mem_or_eq_of_mem_set hx with z | z
  ·exact h1 x z
  ·exact h2 x z.symm
 have nn:∀ x:Int,(none:Option Int)=some x->0<=x/\x<(n:Int):=fun x z=>nomatch z
 have so:∀ {x:Int},0<=x/\x<(n:Int)->∀ z,some x=some z->0<=z/\z<(n:Int):=fun hx z e=>by injection e with e;exact e ▸ hx
 cases h with
 | swap ne h1 h2=>exact ⟨ms (ms o1 (so (o1 _ (List.mem_of_getElem? h2)))) (so (o1 _ (List.mem_of_getElem? h1))),o2⟩
 | take h1=>exact ⟨ms o1 nn,so (o1 _ (List.mem_of_getElem? h1))⟩
 | move h1 h2=>exact ⟨ms (ms o1 nn) (so (o1 _ (List.mem_of_getElem? h1))),o2⟩
 | lay h1=>exact ⟨ms o1 (so (o2 _ rfl)),nn⟩
noncomputable abbrev vX (rw_ mv:Addr)(h:Option Int):List (Str × V):=[("row",.ref rw_),("hand",cE h),("moved",.ref mv)]
structure qa (C:Addr)(H:Hp)(p rw_ mv:Addr)(s:ES)(ms:List Int):Prop where
 ex:∃ dx,H p=some (.ins C dx (vX rw_ mv s.2))
 row:H rw_=some (.lst (s.1.map cE))
 mvd:H mv=some (il ms)
 ne:rw_ ≠ mv
theorem qa.kp {C:Addr}{H H':Hp}{p rw_ mv:Addr}{s:ES}{ms:List Int}{bs:List Addr}(r:qa C H p rw_ mv s ms)(k:Kp bs H H')(hp:p ∉ bs)(hr:rw_ ∉ bs)(hm:mv ∉ bs):qa C H' p rw_ mv s ms:=
 let ⟨dx,e⟩:=r.ex
 ⟨⟨dx,k _ _ hp e⟩,k _ _ hr r.row,k _ _ hm r.mvd,r.ne⟩
theorem qa.npr {C:Addr}{H:Hp}{p rw_ mv:Addr}{s:ES}{ms:List Int}(r:qa C H p rw_ mv s ms):p ≠ rw_/\p ≠ mv:=by
 obtain ⟨dx,e⟩:=r.ex
 constructor
 ·intro z;rw [z,r.row] at e;cases e
 ·intro z;rw [z,r.mvd] at e;cases e
theorem lk1 {k k':Str}{v:V}{r:List (Str × V)}(h:(k == k')=true):((k',v) :: r).lookup k=some v:=by rw [List.lookup_cons,h]
theorem lk0 {k k':Str}{v:V}{r:List (Str × V)}(h:(k == k')=false):((k',v) :: r).lookup k=r.lookup k:=by rw [List.lookup_cons,h]
theorem jA (rw_ mv:Addr)(h:Option Int):(vX rw_ mv h).lookup ("row":Str)=some (.ref rw_):=lk1 (by decide +kernel)
theorem yB (rw_ mv:Addr)(h:Option Int):(vX rw_ mv h).lookup ("hand":Str)=some (cE h):=(lk0 (by decide +kernel)).trans (lk1 (by decide +kernel))
theorem xG (rw_ mv:Addr)(h:Option Int):(vX rw_ mv h).lookup ("moved":Str)=some (.ref mv):=(lk0 (by decide +kernel)).trans ((lk0 (by decide +kernel)).trans (lk1 (by decide +kernel)))
theorem Ea (rw_ mv:Addr)(h g:Option Int):qE "hand" (cE g) (vX rw_ mv h)=vX rw_ mv g:=by
 rw [vX,qE,if_neg (by decide +kernel),qE,if_pos rfl]
theorem wn (rw_ mv:Addr)(h:Option Int){m:Str}(h1:(m == ("row":Str))=false)(h2:(m == ("hand":Str))=false)(h3:(m == ("moved":Str))=false):(vX rw_ mv h).lookup m=none:=
 (lk0 h1).trans ((lk0 h2).trans ((lk0 h3).trans rfl))
theorem qa.setRow {C:Addr}{H:Hp}{p rw_ mv:Addr}{s:ES}{ms:List Int}(r:qa C H p rw_ mv s ms)(row':List (Option Int)):qa C (upd H rw_ (.lst (row'.map cE))) p rw_ mv (row',s.2) ms:=
 let ⟨dx,e⟩:=r.ex
 ⟨⟨dx,(zm r.npr.1).trans e⟩,zf,(zm r.ne.symm).trans r.mvd,r.ne⟩
theorem qa.setMv {C:Addr}{H:Hp}{p rw_ mv:Addr}{s:ES}{ms:List Int}(r:qa C H p rw_ mv s ms)(ms':List Int):qa C (upd H mv (il ms')) p rw_ mv s ms':=
 let ⟨dx,e⟩:=r.ex
 ⟨⟨dx,(zm r.npr.2).trans e⟩,(zm r.ne).trans r.row,zf,r.ne⟩
theorem qa.setHand {C:Addr}{H:Hp}{p rw_ mv dx:Addr}{s:ES}{ms:List Int}(r:qa C H p rw_ mv s ms)(g:Option Int):qa C (upd H p (.ins C dx (vX rw_ mv g))) p rw_ mv (s.1,g) ms:=
 ⟨⟨dx,zf⟩,(zm r.npr.1.symm).trans r.row,(zm r.npr.2.symm).trans r.mvd,r.ne⟩
theorem BC (row:List (Option Int))(a:Nat)(c:Option Int):(row.map cE).set a (cE c)=(row.set a c).map cE:=List.map_set.symm
theorem F0 {ms:List Int}(x:Int):(ms.map V.int).set x.toNat (V.int (ms.getD x.toNat 0+1))=(kP ms x).map V.int:=by unfold kP;exact List.map_set.symm
structure RTx (K:PySem.W.Frag)(C:Addr):Prop where
 cl:Cls K C
 nr:kU K C "row"
 nh:kU K C "hand"
 nm:kU K C "moved"
theorem Q8 {ms:List Int}{x:Int}(h0:0<=x)(h1:x<(ms.length:Int)):atI (ms.map V.int) x=some (.int (ms.getD x.toNat 0))/\ixN (ms.map V.int).length x=some x.toNat:=by
 have hx:x.toNat<ms.length:=by omega
 have e:ixN (ms.map V.int).length x=some x.toNat:=by rw [List.length_map];unfold ixN;rw [if_pos h0,if_pos (by omega)]
 refine ⟨?_,e⟩
 unfold atI
 rw [e]
 show (ms.map V.int)[x.toNat]?=_
 rw [List.getElem?_map,List.getElem?_eq_getElem hx,List.getD_eq_getElem?_getD,List.getElem?_eq_getElem hx];rfl
noncomputable abbrev Xh:Stmt:=(jo (top 33) 6)
theorem Yj:zo ["self","a","thing"] ["self","a"] (zg Xh):=⟨rfl,rfl,rfl,by decide +kernel,rfl,by decide +kernel,by decide +kernel⟩
noncomputable def XH (C:Addr):Sp:=fun vs H Q _=>∃ (p rw_ mv:Addr) (s:ES) (ms:List Int) (a:Nat) (x:Int),vs=[.ref p,.int (a:Int)]/\qa C H p rw_ mv s ms/\s.1[a]?=some (some x)/\0<=x/\x<(ms.length:Int) /\
 ∀ H',qa C H' p rw_ mv (s.1.set a none,s.2) (kP ms x)->Kp [rw_,mv] H H'->Q (.int x) H'
theorem Fj {C:Addr}(a:AtM K C "lift" "Room.lift" Xh)(R:RTx K C):Dm P w K mg base C "lift" ["self","a"] 1 (XH C):=by
 refine kf (k:=0) a Yj (fun _ _ _ _ _ _=>Pn2_ fun _ _=>rfl) (fun vs H Q E h=>?_) (fun f cdv A outer s H vs Q E hr h=>?_)
 ·obtain ⟨_,_,_,_,_,_,_,rfl,_⟩:=h;rfl
 obtain ⟨p,rw_,mv,⟨row,hd⟩,ms,a,x,rfl,r,hx,x0,x1,q⟩:=h
 have sc:=Yj
 have hsl:=hsl
 obtain ⟨dx,hp⟩:=r.ex
 obtain ⟨np1,np2⟩:=r.npr
 refine ⟨_,(zc (zC (i:=2) sc.nd rfl (by first | exact Or.inl rfl | exact Or.inr rfl) (zF zS (qo (pv 0) rfl) (pv 1) (fun _ _=>rfl)))
  (zc (zP (zn xm (pv 2) qf (zy _)) (zd qB) zB)
  (zc (qk qf (qg (qo (pv 0) rfl) (pv 1) zE))
  (zc (vU (qo (pv 0) rfl) (pv 2) xJ ze Qf zE)
  (zd (zq (pv 2))))))),?_⟩
 rw [show start ["self","a","thing"] [V.ref p,V.int (a:Int)]=[some (.ref p),some (.int (a:Int)),none] from rfl]
 obtain ⟨c1,c2⟩:=jY hx
 obtain ⟨m1,m2⟩:=Q8 x0 x1
 refine zO fun r1 hr1=>?_
 walk_at "rd"
 refine ⟨_,_,_,hp,R.cl,R.nr,_,jA _ _ _,_,rfl,_,SqL.of r.row,_,c2,?_⟩
 subst hr1
 refine zO fun r1 hr1=>?_
 walk_at "rd"
 rw [if_neg (show ¬ cE (some x)=V.non from fun z=>nomatch z)]
 subst hr1
 refine zO fun r1 hr1=>?_
 walk_at "rd"
 refine ⟨_,_,_,hp,R.cl,R.nr,_,jA _ _ _,_,rfl,_,r.row,_,c1,?_⟩
 have r2:=r.setRow (row.set a none)
 rw [show (List.map cE (row,hd).1).set a V.non=(row.set a none).map cE from BC row a none]
 have k2:=Kp.set (bs:=[rw_,mv]) (p:=rw_) (H:=H) (HO.lst ((row.set a none).map cE)) (by simp)
 generalize upd H rw_ (HO.lst ((row.set a none).map cE))=H2 at *
 obtain ⟨dx2,hp2⟩:=r2.ex
 subst hr1
 walk_at "rd"
 refine ⟨_,_,_,hp2,R.cl,R.nm,_,xG _ _ _,_,rfl,_,_,rfl,SqL.of r2.mvd,_,m1,_,rfl,_,rfl,_,rfl,_,r2.mvd,_,m2,?_⟩
 rw [F0]
 exact q _ (r2.setMv _) (k2.trans (Kp.set _ (by simp)))
noncomputable abbrev K5:Stmt:=(jo (top 33) 2)
theorem Y2:zo ["self","a","b","one","other"] ["self","a","b"] (zg K5):=⟨rfl,rfl,rfl,by decide +kernel,rfl,by decide +kernel,by decide +kernel⟩
noncomputable def D7 (C:Addr)(d:De)(p rw_ mv:Addr)(s:ES)(ms:List Int)(H:Hp)(Q:VK):Prop:=qa C H p rw_ mv s ms/\OkM s ms.length/\∃ t,DoE d s t/\∀ H',qa C H' p rw_ mv t (qH d s ms)->Kp [p,rw_,mv] H H'->Q .non H'
noncomputable def Dp (C:Addr):Sp:=fun vs H Q _=>∃ (p rw_ mv:Addr) (s:ES) (ms:List Int) (a b:Nat),vs=[.ref p,.int (a:Int),.int (b:Int)]/\D7 C (.swap a b) p rw_ mv s ms H Q
noncomputable def BS (C:Addr):Sp:=fun vs H Q _=>∃ (p rw_ mv:Addr) (s:ES) (ms:List Int) (a b:Nat),vs=[.ref p,.int (a:Int),.int (b:Int)]/\D7 C (.move a b) p rw_ mv s ms H Q
noncomputable def YX (C:Addr):Sp:=fun vs H Q _=>∃ (p rw_ mv:Addr) (s:ES) (ms:List Int) (a:Nat),vs=[.ref p,.int (a:Int)]/\D7 C (.take a) p rw_ mv s ms H Q
noncomputable def GB (C:Addr):Sp:=fun vs H Q _=>∃ (p rw_ mv:Addr) (s:ES) (ms:List Int) (a:Nat),vs=[.ref p,.int (a:Int)]/\D7 C (.lay a) p rw_ mv s ms H Q
theorem j6 {row:List (Option Int)}{a:Nat}{c:Option Int}(h:row[a]?=some c):row.getD a none=c:=by rw [List.getD_eq_getElem?_getD,h];rfl
theorem Et {C:Addr}(a:AtM K C "swap" "Room.swap" K5)(R:RTx K C):Dm P w K mg base C "swap" ["self","a","b"] 1 (Dp C):=by
 refine kf (k:=0) a Y2 (fun _ _ _ _ _ _=>Pn3_ fun _ _ _=>rfl) (fun vs H Q E h=>?_) (fun f cdv A outer s H vs Q E hr h=>?_)
 ·obtain ⟨_,_,_,_,_,_,_,rfl,_⟩:=h;rfl
 obtain ⟨p,rw_,mv,s0,ms,a,b,rfl,r,ok,t,hdo,q⟩:=h
 have sc:=Y2
 have hsl:=hsl
 obtain ⟨dx,hp⟩:=r.ex
 cases hdo with
 | @swap _ _ row hd x y ne h1 h2=>
 obtain ⟨c1,c2⟩:=jY h1
 obtain ⟨g1,g2⟩:=jY h2
 obtain ⟨x0,x1⟩:=ok.1 _ (List.mem_of_getElem? h1)
 obtain ⟨y0,y1⟩:=ok.1 _ (List.mem_of_getElem? h2)
 obtain ⟨m1,m2⟩:=Q8 x0 x1
 obtain ⟨n1,n2⟩:=Q8 (ms:=kP ms x) y0 (by rw [Jh];exact y1)
 refine ⟨_,(zc (zP (zn jW (pv 1) (pv 2) (zy _)) (zd qB) zB)
  (zc (zC (i:=3) sc.nd rfl (by first | exact Or.inl rfl | exact Or.inr rfl) (zF zS (qo (pv 0) rfl) (pv 1) (fun _ _=>rfl)))
  (zc (zC (i:=4) sc.nd rfl (by first | exact Or.inl rfl | exact Or.inr rfl) (zF zS (qo (pv 0) rfl) (pv 2) (fun _ _=>rfl)))
  (zc (zP (PW.pt (ki (zn xm (pv 3) qf (zy _)) (jC (zn xm (pv 4) qf (zy _))))) (zd qB) zB)
  (zc (qk (pv 4) (qg (qo (pv 0) rfl) (pv 1) zE))
  (zc (qk (pv 3) (qg (qo (pv 0) rfl) (pv 2) zE))
  (zc (vU (qo (pv 0) rfl) (pv 3) xJ ze Qf zE)
  (zd (vU (qo (pv 0) rfl) (pv 4) xJ ze Qf zE))))))))),?_⟩
 rw [show start ["self","a","b","one","other"] [V.ref p,V.int (a:Int),V.int (b:Int)]=[some (.ref p),some (.int (a:Int)),some (.int (b:Int)),none,none] from rfl]
 refine zO fun r1 hr1=>?_
 walk_at "rd"
 refine ⟨rfl,?_⟩
 rw [if_neg (by omega)]
 subst hr1
 refine zO fun r1 hr1=>?_
 walk_at "rd"
 refine ⟨_,_,_,hp,R.cl,R.nr,_,jA _ _ _,_,rfl,_,SqL.of r.row,_,c2,?_⟩
 subst hr1
 refine zO fun r1 hr1=>?_
 walk_at "rd"
 refine ⟨_,_,_,hp,R.cl,R.nr,_,jA _ _ _,_,rfl,_,SqL.of r.row,_,g2,?_⟩
 subst hr1
 refine zO fun r1 hr1=>?_
 walk_at "rd"
 rw [if_neg (show ¬ cE (some x)=V.non from fun z=>nomatch z),if_neg (show ¬ cE (some y)=V.non from fun z=>nomatch z)]
 subst hr1
 refine zO fun r1 hr1=>?_
 walk_at "rd"
 refine ⟨_,_,_,hp,R.cl,R.nr,_,jA _ _ _,_,rfl,_,r.row,_,c1,?_⟩
 have r2:=r.setRow (row.set a (some y))
 rw [BC]
 have k2:=Kp.set (bs:=[p,rw_,mv]) (p:=rw_) (H:=H) (HO.lst ((row.set a (some y)).map cE)) (by simp)
 generalize upd H rw_ (HO.lst ((row.set a (some y)).map cE))=H2 at *
 obtain ⟨dx2,hp2⟩:=r2.ex
 subst hr1
 refine zO fun r1 hr1=>?_
 walk_at "rd"
 refine ⟨_,_,_,hp2,R.cl,R.nr,_,jA _ _ _,_,rfl,_,r2.row,b,by rw [List.length_map,List.length_set];rw [List.length_map] at g1;exact g1,?_⟩
 have r3:=r2.setRow ((row.set a (some y)).set b (some x))
 rw [BC]
 have k3:=k2.trans (Kp.set (bs:=[p,rw_,mv]) (p:=rw_) (H:=H2) (HO.lst (((row.set a (some y)).set b (some x)).map cE)) (by simp))
 generalize upd H2 rw_ (HO.lst (((row.set a (some y)).set b (some x)).map cE))=H3 at *
 obtain ⟨dx3,hp3⟩:=r3.ex
 subst hr1
 refine zO fun r1 hr1=>?_
 walk_at "rd"
 refine ⟨_,_,_,hp3,R.cl,R.nm,_,xG _ _ _,_,rfl,_,_,rfl,SqL.of r3.mvd,_,m1,_,rfl,_,rfl,_,rfl,_,r3.mvd,_,m2,?_⟩
 rw [F0]
 have r4:=r3.setMv (kP ms x)
 have k4:=k3.trans (Kp.set (bs:=[p,rw_,mv]) (p:=mv) (H:=H3) (il (kP ms x)) (by simp))
 show r1 _ _ (upd H3 mv (il (kP ms x)))
 generalize upd H3 mv (il (kP ms x))=H4 at *
 obtain ⟨dx4,hp4⟩:=r4.ex
 subst hr1
 walk_at "rd"
 refine ⟨_,_,_,hp4,R.cl,R.nm,_,xG _ _ _,_,rfl,_,_,rfl,SqL.of r4.mvd,_,n1,_,rfl,_,rfl,_,rfl,_,r4.mvd,_,n2,?_⟩
 rw [F0]
 refine q _ ?_ (k4.trans (Kp.set _ (by simp)))
 have e:qH (.swap a b) (row,hd) ms=kP (kP ms x) y:=by
  show [row.getD a none,row.getD b none].foldl vi ms=_
  rw [j6 h1,j6 h2];rfl
 rw [e]
 exact r4.setMv _
noncomputable abbrev KF:Stmt:=(jo (top 33) 3)
theorem Je:zo ["self","a"] ["self","a"] (zg KF):=⟨rfl,rfl,rfl,by decide +kernel,rfl,by decide +kernel,by decide +kernel⟩
theorem E4 {C:Addr}(a:AtM K C "take" "Room.take" KF)(R:RTx K C)(M_lift:Dm P w K mg base C "lift" ["self","a"] 1 (XH C)):Dm P w K mg base C "take" ["self","a"] 2 (YX C):=by
 refine kf (k:=1) a Je (fun _ _ _ _ _ _=>Pn2_ fun _ _=>rfl) (fun vs H Q E h=>?_) (fun f cdv A outer s H vs Q E hr h=>?_)
 ·obtain ⟨_,_,_,_,_,_,rfl,_⟩:=h;rfl
 obtain ⟨p,rw_,mv,s0,ms,a,rfl,r,ok,t,hdo,q⟩:=h
 have sc:=Je
 have hsl:=hsl
 have CL:=R.cl
 obtain ⟨dx,hp⟩:=r.ex
 cases hdo with
 | @take _ row x h1=>
 obtain ⟨c1,c2⟩:=jY h1
 obtain ⟨x0,x1⟩:=ok.1 _ (List.mem_of_getElem? h1)
 refine ⟨_,(zc (zP (zn kE (qo (pv 0) rfl) qf (zy _)) (zd qB) zB)
  (zd (wW (pv 0) (v9 CL M_lift hr (pv 0) (za (pv 1) zb)) rfl))),?_⟩
 rw [show start ["self","a"] [V.ref p,V.int (a:Int)]=[some (.ref p),some (.int (a:Int))] from rfl]
 refine zO fun r1 hr1=>?_
 walk_at "rd"
 refine ⟨_,_,_,hp,R.cl,R.nh,_,yB _ _ _,?_⟩
 rw [if_neg (show ¬ ¬ cE none=V.non from not_not_intro rfl)]
 subst hr1
 walk_at "rd"
 refine ⟨_,_,hp,wn _ _ _ (by decide +kernel) (by decide +kernel) (by decide +kernel),p,rw_,mv,(row,none),ms,a,x,rfl,r,h1,x0,x1,fun H2 r2 k2=>?_⟩
 obtain ⟨dx2,hp2⟩:=r2.ex
 refine ⟨_,_,_,hp2,R.cl,R.nh,by show 3<1000;decide,?_⟩
 have e:qH (.take a) (row,none) ms=kP ms x:=by
  show [row.getD a none].foldl vi ms=_
  rw [j6 h1];rfl
 rw [e] at q
 rw [show V.int x=cE (some x) from rfl,Ea]
 exact q _ (r2.setHand _) ((k2.mono (by simp)).trans (Kp.set _ (by simp)))
noncomputable abbrev Xb:Stmt:=(jo (top 33) 4)
theorem Yu:zo ["self","a","b"] ["self","a","b"] (zg Xb):=⟨rfl,rfl,rfl,by decide +kernel,rfl,by decide +kernel,by decide +kernel⟩
theorem Fn {C:Addr}(a:AtM K C "move" "Room.move" Xb)(R:RTx K C)(M_lift:Dm P w K mg base C "lift" ["self","a"] 1 (XH C)):Dm P w K mg base C "move" ["self","a","b"] 2 (BS C):=by
 refine kf (k:=1) a Yu (fun _ _ _ _ _ _=>Pn3_ fun _ _ _=>rfl) (fun vs H Q E h=>?_) (fun f cdv A outer s H vs Q E hr h=>?_)
 ·obtain ⟨_,_,_,_,_,_,_,rfl,_⟩:=h;rfl
 obtain ⟨p,rw_,mv,s0,ms,a,b,rfl,r,ok,t,hdo,q⟩:=h
 have sc:=Yu
 have hsl:=hsl
 have CL:=R.cl
 obtain ⟨dx,hp⟩:=r.ex
 cases hdo with
 | @move _ _ row hd x h1 h2=>
 have ne:a ≠ b:=fun z=>by rw [z,h2] at h1;cases h1
 obtain ⟨c1,c2⟩:=jY h1
 obtain ⟨g1,g2⟩:=jY h2
 obtain ⟨x0,x1⟩:=ok.1 _ (List.mem_of_getElem? h1)
 refine ⟨_,(zc (zP (zn jW (pv 1) (pv 2) (zy _)) (zd qB) zB)
  (zc (zP (zn kE (zF zS (qo (pv 0) rfl) (pv 2) (fun _ _=>rfl)) qf (zy _)) (zd qB) zB)
  (zd (qk (v9 CL M_lift hr (pv 0) (za (pv 1) zb)) (qg (qo (pv 0) rfl) (pv 2) zE))))),?_⟩
 rw [show start ["self","a","b"] [V.ref p,V.int (a:Int),V.int (b:Int)]=[some (.ref p),some (.int (a:Int)),some (.int (b:Int))] from rfl]
 refine zO fun r1 hr1=>?_
 walk_at "rd"
 refine ⟨rfl,?_⟩
 rw [if_neg (by omega)]
 subst hr1
 refine zO fun r1 hr1=>?_
 walk_at "rd"
 refine ⟨_,_,_,hp,R.cl,R.nr,_,jA _ _ _,_,rfl,_,SqL.of r.row,_,g2,?_⟩
 rw [if_neg (show ¬ ¬ cE none=V.non from not_not_intro rfl)]
 subst hr1
 walk_at "rd"
 refine ⟨_,_,hp,wn _ _ _ (by decide +kernel) (by decide +kernel) (by decide +kernel),p,rw_,mv,(row,hd),ms,a,x,rfl,r,h1,x0,x1,fun H2 r2 k2=>?_⟩
 obtain ⟨dx2,hp2⟩:=r2.ex
 refine ⟨_,_,_,hp2,R.cl,R.nr,_,jA _ _ _,_,rfl,_,r2.row,b,by rw [List.length_map] at g1;show ixN ((row.set a none).map cE).length _=_;rw [List.length_map,List.length_set];exact g1,?_⟩
 have e:qH (.move a b) (row,hd) ms=kP ms x:=by
  show [row.getD a none,row.getD b none].foldl vi ms=_
  rw [j6 h1,j6 h2];rfl
 rw [e] at q
 rw [show V.int x=cE (some x) from rfl,BC]
 exact q _ (r2.setRow _) ((k2.mono (by simp)).trans (Kp.set _ (by simp)))
noncomputable abbrev DS:Stmt:=(jo (top 33) 5)
theorem Dy:zo ["self","b"] ["self","b"] (zg DS):=⟨rfl,rfl,rfl,by decide +kernel,rfl,by decide +kernel,by decide +kernel⟩
theorem HR {C:Addr}(a:AtM K C "lay" "Room.lay" DS)(R:RTx K C):Dm P w K mg base C "lay" ["self","b"] 1 (GB C):=by
 refine kf (k:=0) a Dy (fun _ _ _ _ _ _=>Pn2_ fun _ _=>rfl) (fun vs H Q E h=>?_) (fun f cdv A outer s H vs Q E hr h=>?_)
 ·obtain ⟨_,_,_,_,_,_,rfl,_⟩:=h;rfl
 obtain ⟨p,rw_,mv,s0,ms,a,rfl,r,ok,t,hdo,q⟩:=h
 have sc:=Dy
 have hsl:=hsl
 have CL:=R.cl
 obtain ⟨dx,hp⟩:=r.ex
 cases hdo with
 | @lay _ row x h1=>
 obtain ⟨c1,c2⟩:=jY h1
 obtain ⟨x0,x1⟩:=ok.2 _ rfl
 obtain ⟨m1,m2⟩:=Q8 x0 x1
 refine ⟨_,(zc (zP (zn kE (zF zS (qo (pv 0) rfl) (pv 1) (fun _ _=>rfl)) qf (zy _)) (zd qB) zB)
  (zc (zP (zn xm (qo (pv 0) rfl) qf (zy _)) (zd qB) zB)
  (zc (qk (qo (pv 0) rfl) (qg (qo (pv 0) rfl) (pv 1) zE))
  (zc (vU (qo (pv 0) rfl) (qo (pv 0) rfl) xJ ze Qf zE)
  (zd (wW (pv 0) qf rfl)))))),?_⟩
 rw [show start ["self","b"] [V.ref p,V.int (a:Int)]=[some (.ref p),some (.int (a:Int))] from rfl]
 refine zO fun r1 hr1=>?_
 walk_at "rd"
 refine ⟨_,_,_,hp,R.cl,R.nr,_,jA _ _ _,_,rfl,_,SqL.of r.row,_,c2,?_⟩
 rw [if_neg (show ¬ ¬ cE none=V.non from not_not_intro rfl)]
 subst hr1
 refine zO fun r1 hr1=>?_
 walk_at "rd"
 refine ⟨_,_,_,hp,R.cl,R.nh,_,yB _ _ _,?_⟩
 rw [if_neg (show ¬ cE (some x)=V.non from fun z=>nomatch z)]
 subst hr1
 refine zO fun r1 hr1=>?_
 walk_at "rd"
 refine ⟨_,_,_,hp,R.cl,R.nh,_,yB _ _ _,_,_,_,hp,R.cl,R.nr,_,jA _ _ _,_,rfl,_,r.row,_,c1,?_⟩
 have r2:=r.setRow (row.set a (some x))
 rw [BC]
 have k2:=Kp.set (bs:=[p,rw_,mv]) (p:=rw_) (H:=H) (HO.lst ((row.set a (some x)).map cE)) (by simp)
 generalize upd H rw_ (HO.lst ((row.set a (some x)).map cE))=H2 at *
 obtain ⟨dx2,hp2⟩:=r2.ex
 subst hr1
 refine zO fun r1 hr1=>?_
 walk_at "rd"
 refine ⟨_,_,_,hp2,R.cl,R.nm,_,xG _ _ _,_,_,_,hp2,R.cl,R.nh,_,yB _ _ _,_,rfl,_,_,rfl,SqL.of r2.mvd,_,m1,_,rfl,_,rfl,_,rfl,_,r2.mvd,_,m2,?_⟩
 rw [F0]
 have r3:=r2.setMv (kP ms x)
 have k3:=k2.trans (Kp.set (bs:=[p,rw_,mv]) (p:=mv) (H:=H2) (il (kP ms x)) (by simp))
 show r1 _ _ (upd H2 mv (il (kP ms x)))
 generalize upd H2 mv (il (kP ms x))=H3 at *
 obtain ⟨dx3,hp3⟩:=r3.ex
 subst hr1
 walk_at "rd"
 refine ⟨_,_,_,hp3,R.cl,R.nh,by show 3<1000;decide,?_⟩
 rw [show V.non=cE none from rfl,Ea]
 exact q _ (r3.setHand _) (k3.trans (Kp.set _ (by simp)))
noncomputable abbrev XR:Stmt:=(jo (top 33) 7)
theorem YH:zo ["self"] ["self"] (zg XR):=⟨rfl,rfl,rfl,by decide +kernel,rfl,by decide +kernel,by decide +kernel⟩
noncomputable def A4 (C:Addr):Sp:=fun vs H Q _=>∃ (p rw_ mv:Addr) (s:ES) (ms:List Int),vs=[.ref p]/\qa C H p rw_ mv s ms/\s.1.length<=1000/\∀ t H',Kp [] H H'->H' t=some (.tup (s.1.map cE))->Q (.ref t) H'
theorem FF {C:Addr}(a:AtM K C "row_now" "Room.row_now" XR)(R:RTx K C)(B:Blt mg):Dm P w K mg base C "row_now" ["self"] 1 (A4 C):=by
 refine kf (k:=0) a YH (fun _ _ _ _ _ _=>Pn1_ fun _=>rfl) (fun vs H Q E h=>?_) (fun f cdv A outer s H vs Q E hr h=>?_)
 ·obtain ⟨_,_,_,_,_,rfl,_⟩:=h;rfl
 obtain ⟨p,rw_,mv,s0,ms,rfl,r,hl,q⟩:=h
 have sc:=YH
 have hsl:=hsl
 obtain ⟨dx,hp⟩:=r.ex
 refine ⟨_,(zd (zq (zK kg rfl B.tuple kj (za (qo (pv 0) rfl) zb)))),?_⟩
 rw [show start ["self"] [V.ref p]=[some (.ref p)] from rfl]
 walk_at "rd"
 refine ⟨_,_,_,hp,R.cl,R.nr,_,jA _ _ _,_,rfl,_,.inl ⟨SqL.of r.row,fun t ht=>?_⟩⟩
 exact q _ _ (Kp.new _ ht) zf
noncomputable abbrev Xn:Stmt:=(jo (top 33) 9)
theorem Y4:zo ["self"] ["self"] (zg Xn):=⟨rfl,rfl,rfl,by decide +kernel,rfl,by decide +kernel,by decide +kernel⟩
noncomputable def Dq (C:Addr):Sp:=fun vs H Q _=>∃ (p rw_ mv:Addr) (s:ES) (ms:List Int),vs=[.ref p]/\qa C H p rw_ mv s ms/\ms.length<=1000/\∀ t H',Kp [] H H'->H' t=some (.tup (ms.map V.int))->Q (.ref t) H'
theorem EC {C:Addr}(a:AtM K C "moved_now" "Room.moved_now" Xn)(R:RTx K C)(B:Blt mg):Dm P w K mg base C "moved_now" ["self"] 1 (Dq C):=by
 refine kf (k:=0) a Y4 (fun _ _ _ _ _ _=>Pn1_ fun _=>rfl) (fun vs H Q E h=>?_) (fun f cdv A outer s H vs Q E hr h=>?_)
 ·obtain ⟨_,_,_,_,_,rfl,_⟩:=h;rfl
 obtain ⟨p,rw_,mv,s0,ms,rfl,r,hl,q⟩:=h
 have sc:=Y4
 have hsl:=hsl
 obtain ⟨dx,hp⟩:=r.ex
 refine ⟨_,(zd (zq (zK kg rfl B.tuple kj (za (qo (pv 0) rfl) zb)))),?_⟩
 rw [show start ["self"] [V.ref p]=[some (.ref p)] from rfl]
 walk_at "rd"
 refine ⟨_,_,_,hp,R.cl,R.nm,_,xG _ _ _,_,rfl,_,.inl ⟨SqL.of r.mvd,fun t ht=>?_⟩⟩
 exact q _ _ (Kp.new _ ht) zf
noncomputable abbrev Xw:Stmt:=(jo (top 33) 8)
theorem Yy:zo ["self"] ["self"] (zg Xw):=⟨rfl,rfl,rfl,by decide +kernel,rfl,by decide +kernel,by decide +kernel⟩
noncomputable def Bm (C:Addr):Sp:=fun vs H Q _=>∃ (p rw_ mv:Addr) (s:ES) (ms:List Int),vs=[.ref p]/\qa C H p rw_ mv s ms/\Q (cE s.2) H
theorem Fh {C:Addr}(a:AtM K C "hand_now" "Room.hand_now" Xw)(R:RTx K C):Dm P w K mg base C "hand_now" ["self"] 1 (Bm C):=by
 refine kf (k:=0) a Yy (fun _ _ _ _ _ _=>Pn1_ fun _=>rfl) (fun vs H Q E h=>?_) (fun f cdv A outer s H vs Q E hr h=>?_)
 ·obtain ⟨_,_,_,_,_,rfl,_⟩:=h;rfl
 obtain ⟨p,rw_,mv,s0,ms,rfl,r,q⟩:=h
 have sc:=Yy
 have hsl:=hsl
 obtain ⟨dx,hp⟩:=r.ex
 refine ⟨_,(zd (zq (qo (pv 0) rfl))),?_⟩
 rw [show start ["self"] [V.ref p]=[some (.ref p)] from rfl]
 walk_at "rd"
 exact ⟨_,_,_,hp,R.cl,R.nh,_,yB _ _ _,q⟩
noncomputable abbrev yT:Stmt:=top 8
theorem w6:zo ["thing","n"] ["thing","n"] (zg yT):=⟨rfl,rfl,rfl,by decide +kernel,rfl,by decide +kernel,by decide +kernel⟩
theorem LN:isT "int" "int"=some true:=by decide +kernel
theorem IK:isT "int" "bool"=some false:=by decide +kernel
theorem II:isT "tuple" "tuple"=some true:=by decide +kernel
theorem Hy:isT "str" "str"=some true:=by decide +kernel
noncomputable def ZA:Sp:=fun vs H Q _=>∃ (i n:Int),vs=[.int i,.int n]/\Q (.bl (decide (0<=i/\i<n))) H
theorem XU (a:At K mg "is_place" yT)(B:Blt mg):Df P w K mg base "is_place" ["thing","n"] 1 ZA:=by
 refine jh (k:=0) a w6 (fun _ _ _ _ _ _=>Pn2_ fun _ _=>rfl) (fun vs H Q E h=>?_) (fun f cdv A outer s H vs Q E hr h=>?_)
 ·obtain ⟨i,n,rfl,_⟩:=h;rfl
 obtain ⟨i,n,rfl,q⟩:=h
 have sc:=w6
 have hsl:=hsl
 refine ⟨_,(zc (zP (PW.pt (ki (jn (zt jx rfl B.isinstance qb (za (pv 0) (za (jp (v:=.ty "bool") rfl B.bool Y7 rfl) zb))) (fun _=>rfl)) (jC (xD (jn (zt jx rfl B.isinstance qb (za (pv 0) (za (jp (v:=.ty "int") rfl B.int Qr rfl) zb))) (fun _=>rfl)))))) (zd (zq jE)) zB)
  (zd (zq (JM GW Kw ze (pv 0) (pv 1))))),?_⟩
 rw [show start ["thing","n"] [V.int i,V.int n]=[some (.int i),some (.int n)] from rfl]
 walk_at "rd"
 simp only [XG]
 refine ⟨"int",_,rfl,.int i,_,IK,?_⟩
 rw [if_neg (by decide)]
 refine ⟨"int",_,rfl,.int i,_,LN,?_⟩
 rw [if_neg (by decide)]
 walk_at "rd"
 by_cases h0:0<=i
 ·rw [if_pos h0]
  rw [show decide (0<=i/\i<n)=decide (i<n) from decide_eq_decide.mpr ⟨fun z=>z.2,fun z=>⟨h0,z⟩⟩] at q
  exact q
 ·rw [if_neg h0]
  rw [show decide (0<=i/\i<n)=false from decide_eq_false (fun z=>h0 z.1)] at q
  exact q
noncomputable abbrev v7:Stmt:=top 32
theorem ZW:zo ["thing","n","word","part"] ["thing","n"] (zg v7):=⟨rfl,rfl,rfl,by decide +kernel,rfl,by decide +kernel,by decide +kernel⟩
noncomputable def deW:De->V
 | .swap _ _=>GM
 | .take _=>GS
 | .move _ _=>GO
 | .lay _=>Me
noncomputable def xl:De->List Nat
 | .swap a b=>[a,b]
 | .take p=>[p]
 | .move p g=>[p,g]
 | .lay g=>[g]
theorem Ls (d:De):deV d=deW d :: (xl d).map (fun k:Nat=>V.int (k:Int)):=by cases d <;> rfl
theorem DoE.places {d:De}{s t:ES}(h:DoE d s t):∀ k ∈ xl d,k<s.1.length:=by
 have lt:∀ {row:List (Option Int)} {a:Nat} {c:Option Int},row[a]?=some c->a<row.length:=fun h=>(List.getElem?_eq_some_iff.mp h).1
 intro k hk
 cases h with
 | swap ne h1 h2=>
  rcases List.mem_cons.mp hk with z | z
  ·rw [z];exact lt h1
  ·rw [List.mem_singleton.mp z];exact lt h2
 | take h1=>rw [List.mem_singleton.mp hk];exact lt h1
 | move h1 h2=>
  rcases List.mem_cons.mp hk with z | z
  ·rw [z];exact lt h1
  ·rw [List.mem_singleton.mp z];exact lt h2
 | lay h1=>rw [List.mem_singleton.mp hk];exact lt h1
theorem Q7 (d:De):vy (deV d) (some 1) none=(xl d).map (fun k:Nat=>V.int (k:Int)):=by cases d <;> rfl
theorem Qn (d:De):(deV d).length=(xl d).length+1:=by rw [Ls];simp
theorem Q3 (d:De):1<=(xl d).length/\(xl d).length<=2:=by cases d <;> simp [xl]
theorem Bu (d:De):¬ (HT.sIx (deV d).length 0 (some 1)=0/\HT.sIx (deV d).length (deV d).length none=(deV d).length):=by
 rw [Qn]
 rcases show (xl d).length=1 \/ (xl d).length=2 by have:=Q3 d;omega with h | h <;> (rw [h];decide)
noncomputable def JK:Sp:=fun vs H Q _=>∃ (dd:Addr) (d:De) (s t:ES),vs=[.ref dd,.int (s.1.length:Int)]/\H dd=some (.tup (deV d))/\DoE d s t/\∀ H',Kp [] H H'->Q (.bl true) H'
noncomputable abbrev Jq:List (Key × V):=[(Sum.inr (Str.ofString "swap"),.int 2),(Sum.inr (Str.ofString "take"),.int 1),(Sum.inr (Str.ofString "move"),.int 2),(Sum.inr (Str.ofString "lay"),.int 1)]
theorem Wc {K:PySem.W.Frag}{w:World}{pa:Addr}{t1 t2 t3 t4 u1 u2 u3 u4:Tok}{ep:Nat}(lP:K.lookup pa=some ⟨.type "dict",none,.dict #[⟨hashStr w "swap",.str "swap" t1,.int 2 u1⟩,⟨hashStr w "take",.str "take" t2,.int 1 u2⟩,⟨hashStr w "move",.str "move" t3,.int 2 u3⟩,⟨hashStr w "lay",.str "lay" t4,.int 1 u4⟩] ep,#[]⟩)(nP:(pa == sysModules)=false):KD K w pa Jq:=by
 refine ⟨⟨_,_,lP,fun P=>?_⟩,nP⟩
 refine ⟨fun e he=>?_,[(Sum.inr "swap",.int 2 u1),(Sum.inr "take",.int 1 u2),(Sum.inr "move",.int 2 u3),(Sum.inr "lay",.int 1 u4)],?_,?_,by show ([Sum.inr (Str.ofString "swap"),Sum.inr (Str.ofString "take"),Sum.inr (Str.ofString "move"),Sum.inr (Str.ofString "lay")]:List Key).Nodup;decide +kernel⟩
 ·have he:e ∈ [_,_,_,_]:=Array.mem_toList_iff.mpr he
  rcases List.mem_cons.mp he with z | he
  ·exact ⟨Sum.inr "swap",by rw [z];rfl,by rw [z];rfl⟩
  rcases List.mem_cons.mp he with z | he
  ·exact ⟨Sum.inr "take",by rw [z];rfl,by rw [z];rfl⟩
  rcases List.mem_cons.mp he with z | he
  ·exact ⟨Sum.inr "move",by rw [z];rfl,by rw [z];rfl⟩
  rw [List.mem_singleton.mp he]
  exact ⟨Sum.inr "lay",rfl,rfl⟩
 ·exact .cons ⟨rfl,_,rfl⟩ (.cons ⟨rfl,_,rfl⟩ (.cons ⟨rfl,_,rfl⟩ (.cons ⟨rfl,_,rfl⟩ .nil)))
 ·exact .cons rfl rfl (.cons rfl rfl (.cons rfl rfl (.cons rfl rfl .nil)))
theorem EH:(yJ Jq (Sum.inr (Str.ofString "swap"))).getD V.non=V.int 2:=by decide +kernel
theorem Gf:(yJ Jq (Sum.inr (Str.ofString "take"))).getD V.non=V.int 1:=by decide +kernel
theorem F1:(yJ Jq (Sum.inr (Str.ofString "move"))).getD V.non=V.int 2:=by decide +kernel
theorem Hk:(yJ Jq (Sum.inr (Str.ofString "lay"))).getD V.non=V.int 1:=by decide +kernel
theorem Wm {pa:Addr}(a:At K mg "is_deed" v7)(B:Blt mg)(KP:KD K w pa Jq)(MP:mg "PLACES_OF"=some (.ref pa))(D_is_place:Df P w K mg base "is_place" ["thing","n"] 1 ZA):Df P w K mg base "is_deed" ["thing","n"] 2 JK:=by
 refine jh (k:=1) a ZW (fun _ _ _ _ _ _=>Pn2_ fun _ _=>rfl) (fun vs H Q E h=>?_) (fun f cdv A outer s H vs Q E hr h=>?_)
 ·obtain ⟨_,_,_,_,rfl,_⟩:=h;rfl
 obtain ⟨dd,d,s0,t,rfl,hd,hdo,q⟩:=h
 have sc:=ZW
 have hsl:=hsl
 have Ball:=B.all
 refine ⟨_,(zc (zP (PW.pt (ki (xD (jn (zt jx rfl B.isinstance qb (za (pv 0) (za (jp (v:=.ty "tuple") rfl B.tuple kj rfl) zb))) (fun _=>rfl))) (jC (zn jW (zt zp rfl B.len zZ (za (pv 0) zb)) ze (zy _))))) (zd (zq jE)) zB)
  (zc (zC (i:=2) sc.nd rfl (by first | exact Or.inl rfl | exact Or.inr rfl) (zF kM (pv 0) ze (fun _ _=>rfl)))
  (zc (zP (PW.pt (ki (xD (jn (zt jx rfl B.isinstance qb (za (pv 2) (za (jp (v:=.ty "str") rfl B.str Ai rfl) zb))) (fun _=>rfl))) (jC (zn G5 (FV KP rfl MP (pv 2) ⟨rfl,rfl,rfl,rfl⟩) (zu jX (zt zp rfl B.len zZ (za (pv 0) zb)) ze) (zy _))))) (zd (zq jE)) zB)
  (zd (zq (zt (WJ rfl) rfl Ball Hn (za (qI (ts:=[3]) rfl rfl (ID (jT LC (pv 0) (jq ze) kK)) (fun _ _ _ _=>(zx (i:=3) sc.nd rfl (by first | exact Or.inl rfl | exact Or.inr rfl))) (fun _ _ _ _=>qG) (fun _ _ _ _=>(zA D_is_place hr rfl (za (pv 3) (za (pv 1) zb))))) zb))))))),?_⟩
 rw [show start ["thing","n","word","part"] [V.ref dd,V.int (s0.1.length:Int)]=[some (.ref dd),some (.int (s0.1.length:Int)),none,none] from rfl]
 walk_at "rd"
 simp only [MQ]
 obtain ⟨l1,l2⟩:=Q3 d
 have kk:∃ k:Key,deW d=kV k/\(yJ Jq k).getD V.non=V.int ((xl d).length:Int):=by
  cases d with
  | swap a b=>exact ⟨Sum.inr (Str.ofString "swap"),rfl,EH⟩
  | take p=>exact ⟨Sum.inr (Str.ofString "take"),rfl,Gf⟩
  | move p g=>exact ⟨Sum.inr (Str.ofString "move"),rfl,F1⟩
  | lay g=>exact ⟨Sum.inr (Str.ofString "lay"),rfl,Hk⟩
 obtain ⟨k,ek,ev⟩:=kk
 have ts:xa K H (deW d) (.type "str"):=by cases d <;> exact .str _
 refine ⟨"tuple",_,rfl,.tup hd,_,II,?_⟩
 rw [if_neg (by decide)]
 refine ⟨_,.inr (SqT.of hd),rfl,?_⟩
 rw [if_neg (by rw [Qn];omega)]
 refine ⟨_,SqT.of hd,deW d,by cases d <;> rfl,"str",_,rfl,ts,_,Hy,?_⟩
 rw [if_neg (by decide)]
 refine ⟨k,ek,_,.inr (SqT.of hd),?_⟩
 rw [ev,Qn,show (((xl d).length+1:Nat):Int) - 1=((xl d).length:Int) by omega]
 refine ⟨rfl,?_⟩
 rw [if_neg (not_not_intro rfl)]
 refine ⟨dd,deV d,rfl,SqT.of hd,Bu d,fun p hp=>⟨p,rfl,⟨_,SqT.of zf⟩,fun D hD=>?_⟩⟩
 rw [Q7]
 have kn:=Kp.new (bs:=[]) (HO.tup ((xl d).map (fun k:Nat=>V.int (k:Int)))) hp
 have hpp:=zf (H:=H) (a:=p) (o:=HO.tup ((xl d).map (fun k:Nat=>V.int (k:Int))))
 rw [Q7] at hD
 generalize upd H p (HO.tup ((xl d).map (fun k:Nat=>V.int (k:Int))))=H1 at *
 refine Ik (xs:=(xl d).map (fun k:Nat=>V.int (k:Int))) (fun i τ G=>∃ u,τ=[some (.ref dd),some (.int (s0.1.length:Int)),some (deW d),u]/\Kp [D] (upd H1 D (.lst [])) G/\G D=some (.lst ((List.replicate i true).map V.bl))) ?_ ?_ ?_ ?_
 ·exact ⟨none,rfl,Kp.refl,zf⟩
 ·rintro i τ G _ ⟨u,rfl,kq,hq⟩
  exact SqT.of (Kp.drop1 hD kq _ _ (by simp) hpp)
 ·rintro i x τ G hx ⟨u,rfl,kq,hq⟩
  have hi:=(List.getElem?_eq_some_iff.mp hx).1
  rw [List.length_map] at hi
  rw [List.getElem?_map,List.getElem?_eq_getElem hi] at hx
  injection hx with hx
  subst hx
  have hb:=hdo.places _ (List.getElem_mem hi)
  walk_at "rd"
  refine ⟨_,_,rfl,?_⟩
  refine ⟨_,hq,by rw [List.length_map,List.length_replicate];omega,kq.trans (Kp.set _ (by simp)),?_⟩
  rw [zf,List.replicate_succ',List.map_append,decide_eq_true (by omega)];rfl
 ·rintro τ G ⟨u,rfl,kq,hq⟩
  refine ⟨D,rfl,_,SqL.of hq,?_⟩
  rw [show (List.replicate ((xl d).map (fun k:Nat=>V.int (k:Int))).length true).all id=true by simp]
  exact q _ (kn.trans (Kp.drop1 hD kq))
noncomputable abbrev LM:Stmt:=(jo (top 33) 1)
theorem GI:zo ["self","thing","word"] ["self","thing"] (zg LM):=⟨rfl,rfl,rfl,by decide +kernel,rfl,by decide +kernel,by decide +kernel⟩
noncomputable def MB (C:Addr):Sp:=fun vs H Q _=>∃ (p rw_ mv dd:Addr) (s:ES) (ms:List Int) (d:De),vs=[.ref p,.ref dd]/\H dd=some (.tup (deV d))/\s.1.length<=1000/\D7 C d p rw_ mv s ms H Q
theorem Mi {C:Addr}(a:AtM K C "do" "Room.do" LM)(R:RTx K C)(B:Blt mg)(D_is_deed:Df P w K mg base "is_deed" ["thing","n"] 2 JK)(M_swap:Dm P w K mg base C "swap" ["self","a","b"] 2 (Dp C))(M_take:Dm P w K mg base C "take" ["self","a"] 2 (YX C))
  (M_move:Dm P w K mg base C "move" ["self","a","b"] 2 (BS C)) (M_lay:Dm P w K mg base C "lay" ["self","b"] 2 (GB C)):Dm P w K mg base C "do" ["self","thing"] 3 (MB C):=by
 refine kf (k:=2) a GI (fun _ _ _ _ _ _=>Pn2_ fun _ _=>rfl) (fun vs H Q E h=>?_) (fun f cdv A outer s H vs Q E hr h=>?_)
 ·obtain ⟨_,_,_,_,_,_,_,rfl,_⟩:=h;rfl
 obtain ⟨p,rw_,mv,dd,s0,ms,d,rfl,hd,hl,r,ok,t,hdo,q⟩:=h
 have sc:=GI
 have hsl:=hsl
 have CL:=R.cl
 obtain ⟨dx,hp⟩:=r.ex
 refine ⟨_,(zc (zP (xD (jn (zA D_is_deed hr rfl (za (pv 1) (za (zt zp rfl B.len zZ (za (qo (pv 0) rfl) zb)) zb))) (fun _=>rfl))) (zd qB) zB)
  (zc (zC (i:=2) sc.nd rfl (by first | exact Or.inl rfl | exact Or.inr rfl) (zF kM (pv 1) ze (fun _ _=>rfl)))
  (zd (zP (zn jW (pv 2) qM (zy _)) (zd (qQ (v9 CL M_swap hr (pv 0) (za (zF kM (pv 1) ze (fun _ _=>rfl)) (za (zF kM (pv 1) ze (fun _ _=>rfl)) zb))))) (zd (zP (zn jW (pv 2) qM (zy _)) (zd (qQ (v9 CL M_take hr (pv 0) (za (zF kM (pv 1) ze (fun _ _=>rfl)) zb)))) (zd (zP (zn jW (pv 2) qM (zy _)) (zd (qQ (v9 CL M_move hr (pv 0) (za (zF kM (pv 1) ze (fun _ _=>rfl)) (za (zF kM (pv 1) ze (fun _ _=>rfl)) zb))))) (zd (qQ (v9 CL M_lay hr (pv 0) (za (zF kM (pv 1) ze (fun _ _=>rfl)) zb)))))))))))),?_⟩
 rw [show start ["self","thing","word"] [V.ref p,V.ref dd]=[some (.ref p),some (.ref dd),none] from rfl]
 refine zO fun r1 hr1=>?_
 walk_at "rd"
 refine ⟨_,_,_,hp,R.cl,R.nr,_,jA _ _ _,_,rfl,_,.inl (SqL.of r.row),?_⟩
 rw [List.length_map]
 refine ⟨dd,d,s0,t,rfl,hd,hdo,fun H1 k1=>⟨_,rfl,?_⟩⟩
 rw [if_neg (by decide)]
 have r:=r.kp k1 (by simp) (by simp) (by simp)
 have hd:=k1 _ _ (by simp) hd
 obtain ⟨dx,hp⟩:=r.ex
 subst hr1
 refine zO fun r1 hr1=>?_
 walk_at "rd"
 refine ⟨_,SqT.of hd,deW d,by cases d <;> rfl,?_⟩
 subst hr1
 have q:∀ H',qa C H' p rw_ mv t (qH d s0 ms)->Kp [p,rw_,mv] H1 H'->Q .non H':=fun H' r' k'=>q H' r' ((k1.mono (by simp)).trans k')
 have nm:∀ {m:Str},(m == ("row":Str))=false->(m == ("hand":Str))=false->(m == ("moved":Str))=false->(vX rw_ mv s0.2).lookup m=none:=fun h1 h2 h3=>wn _ _ _ h1 h2 h3
 have c1:∀ {x y:String},¬ Str.ofString x=Str.ofString y->¬ V.str (Str.ofString x)=V.str (Str.ofString y):=fun h z=>h (by injection z)
 cases d with
 | swap a b=>
  rw [show deW (De.swap a b)=V.str (Str.ofString "swap") from rfl]
  walk_at "rd"
  refine ⟨rfl,?_⟩
  try rw [if_pos rfl]
  exact ⟨_,_,hp,nm (by decide +kernel) (by decide +kernel) (by decide +kernel),_,SqT.of hd,_,rfl,_,SqT.of hd,_,rfl,p,rw_,mv,s0,ms,a,b,rfl,r,ok,t,hdo,q⟩
 | take a=>
  rw [show deW (De.take a)=V.str (Str.ofString "take") from rfl]
  walk_at "rd"
  refine ⟨rfl,?_⟩
  rw [if_neg (c1 (by decide +kernel))]
  refine ⟨rfl,?_⟩
  try rw [if_pos rfl]
  exact ⟨_,_,hp,nm (by decide +kernel) (by decide +kernel) (by decide +kernel),_,SqT.of hd,_,rfl,p,rw_,mv,s0,ms,a,rfl,r,ok,t,hdo,q⟩
 | move a b=>
  rw [show deW (De.move a b)=V.str (Str.ofString "move") from rfl]
  walk_at "rd"
  refine ⟨rfl,?_⟩
  rw [if_neg (c1 (by decide +kernel))]
  refine ⟨rfl,?_⟩
  rw [if_neg (c1 (by decide +kernel))]
  refine ⟨rfl,?_⟩
  try rw [if_pos rfl]
  exact ⟨_,_,hp,nm (by decide +kernel) (by decide +kernel) (by decide +kernel),_,SqT.of hd,_,rfl,_,SqT.of hd,_,rfl,p,rw_,mv,s0,ms,a,b,rfl,r,ok,t,hdo,q⟩
 | lay a=>
  rw [show deW (De.lay a)=V.str (Str.ofString "lay") from rfl]
  walk_at "rd"
  refine ⟨rfl,?_⟩
  rw [if_neg (c1 (by decide +kernel))]
  refine ⟨rfl,?_⟩
  rw [if_neg (c1 (by decide +kernel))]
  refine ⟨rfl,?_⟩
  rw [if_neg (c1 (by decide +kernel))]
  exact ⟨_,_,hp,nm (by decide +kernel) (by decide +kernel) (by decide +kernel),_,SqT.of hd,_,rfl,p,rw_,mv,s0,ms,a,rfl,r,ok,t,hdo,q⟩
noncomputable abbrev KN:Stmt:=(jo (top 33) 0)
theorem YF:zo ["self","n"] ["self","n"] (zg KN):=⟨rfl,rfl,rfl,by decide +kernel,rfl,by decide +kernel,by decide +kernel⟩
noncomputable def X7 (C:Addr):Sp:=fun vs H Q _=>∃ (p dx:Addr) (n:Nat),vs=[.ref p,.int (n:Int)]/\H p=some (.ins C dx [])/\n<=1000 /\
 ∀ rw_ mv H',H rw_=none->H mv=none->qa C H' p rw_ mv ((zJ 0 1 n).map some,none) (List.replicate n 0)->Kp [p] H H'->Q .non H'
theorem Ey {C:Addr}(a:AtM K C "__init__" "Room.__init__" KN)(R:RTx K C)(B:Blt mg):Dm P w K mg base C "__init__" ["self","n"] 1 (X7 C):=by
 refine kf (k:=0) a YF (fun _ _ _ _ _ _=>Pn2_ fun _ _=>rfl) (fun vs H Q E h=>?_) (fun f cdv A outer s H vs Q E hr h=>?_)
 ·obtain ⟨_,_,_,rfl,_⟩:=h;rfl
 obtain ⟨p,dx,n,rfl,hp,hn,q⟩:=h
 have sc:=YF
 have hsl:=hsl
 have CL:=R.cl
 refine ⟨_,(zc (wW (pv 0) (zK (qj rfl) rfl B.list je (za (zK qK rfl B.range jw (za (pv 1) zb)) zb)) rfl)
  (zc (wW (pv 0) qf rfl)
  (zd (wW (pv 0) (zu xg (qF (za ze zb)) (pv 1)) rfl)))),?_⟩
 rw [show start ["self","n"] [V.ref p,V.int (n:Int)]=[some (.ref p),some (.int (n:Int))] from rfl]
 refine zO fun r1 hr1=>?_
 walk_at "rd"
 refine fun g1 hg1=>⟨_,_,_,zf,small_one (by omega) (by omega) (by omega) (by omega),n,by rw [rangeSize_one];split <;> omega,by omega,fun g2 hg2=>?_⟩
 have ng:=(Kp.new (bs:=[]) (jN g1 0 (n:Int) 1) hg1).trans (Kp.new (HO.lst (List.map V.int (zJ 0 1 n))) hg2)
 have n2:H g2=none:=(Kp.new (bs:=[]) (jN g1 0 (n:Int) 1) hg1).free hg2
 have hg:=zf (H:=upd H g1 (jN g1 0 (n:Int) 1)) (a:=g2) (o:=HO.lst (List.map V.int (zJ 0 1 n)))
 generalize upd (upd H g1 (jN g1 0 (n:Int) 1)) g2 (HO.lst (List.map V.int (zJ 0 1 n)))=H1 at *
 have hp1:=ng _ _ (by simp) hp
 have np2:g2 ≠ p:=fun z=>by rw [z,hp] at n2;cases n2
 refine ⟨_,_,_,hp1,R.cl,R.nr,by show 0<1000;decide,?_⟩
 subst hr1
 refine zO fun r1 hr1=>?_
 walk_at "rd"
 refine ⟨_,_,_,zf,R.cl,R.nh,by show 1<1000;decide,?_⟩
 subst hr1
 have k2:=((ng.mono (bs':=[p]) (by simp)).trans (Kp.set (bs:=[p]) (p:=p) (HO.ins C dx (qE "row" (V.ref g2) [])) (by simp))).trans (Kp.set (bs:=[p]) (p:=p) (HO.ins C dx (qE "hand" V.non (qE "row" (V.ref g2) []))) (by simp))
 have hp2:=zf (H:=upd H1 p (HO.ins C dx (qE "row" (V.ref g2) []))) (a:=p) (o:=HO.ins C dx (qE "hand" V.non (qE "row" (V.ref g2) [])))
 have hg':upd (upd H1 p (HO.ins C dx (qE "row" (V.ref g2) []))) p (HO.ins C dx (qE "hand" V.non (qE "row" (V.ref g2) []))) g2=some (HO.lst (List.map V.int (zJ 0 1 n))):=(zm np2).trans ((zm np2).trans hg)
 generalize upd (upd H1 p (HO.ins C dx (qE "row" (V.ref g2) []))) p (HO.ins C dx (qE "hand" V.non (qE "row" (V.ref g2) [])))=H2 at *
 walk_at "rd"
 refine ⟨by show 1<=sizeLine;omega,fun g3 hg3=>⟨_,zf,by omega,by omega,by rw [Int.toNat_natCast];show 1 * n<=sizeLine;omega,fun g4 hg4=>?_⟩⟩
 rw [Int.toNat_natCast,QN]
 have kn:=(Kp.new (bs:=[]) (HO.lst [V.int 0]) hg3).trans (Kp.new (HO.lst (List.replicate n (V.int 0))) hg4)
 have n4:H2 g4=none:=(Kp.new (bs:=[]) (HO.lst [V.int 0]) hg3).free hg4
 have hg5:=zf (H:=upd H2 g3 (HO.lst [V.int 0])) (a:=g4) (o:=HO.lst (List.replicate n (V.int 0)))
 generalize upd (upd H2 g3 (HO.lst [V.int 0])) g4 (HO.lst (List.replicate n (V.int 0)))=H3 at *
 have np4:g4 ≠ p:=fun z=>by rw [z,hp2] at n4;cases n4
 have n24:g2 ≠ g4:=fun z=>by rw [<- z,hg'] at n4;cases n4
 refine ⟨_,_,_,kn _ _ (by simp) hp2,R.cl,R.nm,by show 2<1000;decide,?_⟩
 have n40:H g4=none:=by
  cases e:H g4 with
  | none=>rfl
  | some o=>rw [k2 _ _ (by simpa using np4) e] at n4;cases n4
 have ef:qE "moved" (V.ref g4) (qE "hand" V.non (qE "row" (V.ref g2) []))=vX g2 g4 none:=by
  show qE "moved" (V.ref g4) (if ("row":Str)="hand" then _ else (("row":Str),V.ref g2) :: qE "hand" V.non [])=_
  rw [if_neg (by decide +kernel)]
  show (if ("row":Str)="moved" then _ else (("row":Str),V.ref g2) :: (if ("hand":Str)="moved" then _ else (("hand":Str),V.non) :: qE "moved" (V.ref g4) []))=_
  rw [if_neg (by decide +kernel),if_neg (by decide +kernel)]
  rfl
 rw [ef]
 refine q g2 g4 _ n2 n40 ⟨⟨dx,zf⟩,?_,?_,n24⟩ ((k2.trans (kn.mono (by simp))).trans (Kp.set _ (by simp)))
 ·exact (zm np2).trans ((kn _ _ (by simp) hg').trans (by rw [List.map_map];rfl))
 ·exact (zm np4).trans (hg5.trans (show _=some (HO.lst ((List.replicate n (0:Int)).map V.int)) by rw [List.map_replicate]))
inductive xQ:List De->ES->ES->List Int->List Int->Prop
 | nil {s:ES} {ms:List Int}:xQ [] s s ms ms
 | cons {d:De} {l:List De} {s t u:ES} {ms ms':List Int}:DoE d s t->xQ l t u (qH d s ms) ms'->xQ (d :: l) s u ms ms'
theorem xA.withM {l:List De}{s t:ES}(h:xA l s t):∀ ms,∃ ms',xQ l s t ms ms':=by
 induction h with
 | nil=>exact fun ms=>⟨ms,.nil⟩
 | cons d _ ih=>
  intro ms
  obtain ⟨ms',h⟩:=ih (qH _ _ ms)
  exact ⟨ms',.cons d h⟩
theorem xQ.len {l:List De}{s t:ES}{ms ms':List Int}(h:xQ l s t ms ms'):t.1.length=s.1.length/\ms'.length=ms.length:=by
 induction h with
 | nil=>exact ⟨rfl,rfl⟩
 | cons d _ ih=>exact ⟨ih.1.trans d.len,ih.2.trans (xi _ _ _)⟩
noncomputable def kL (s:ES):Prop:=s.1.countP (·.isNone)=if s.2.isSome then 1 else 0
theorem V7 {row:List (Option Int)}{a:Nat}{c:Option Int}(h:row[a]?=some c)(v:Option Int):(row.set a v).countP (·.isNone)+(if c.isNone then 1 else 0)=row.countP (·.isNone)+if v.isNone then 1 else 0:=by
 obtain ⟨hl,e⟩:=List.getElem?_eq_some_iff.mp h
 have:=List.countP_set (p:=fun x:Option Int=>x.isNone) (a:=v) hl
 rw [this,e]
 have hp:(if c.isNone=true then 1 else 0)<=row.countP (·.isNone):=by
  split
  ·exact List.countP_pos_iff.mpr ⟨c,List.mem_of_getElem? h,by assumption⟩
  ·exact Nat.zero_le _
 omega
theorem DoE.noneOk {d:De}{s t:ES}(h:DoE d s t)(o:kL s):kL t:=by
 unfold kL at *
 cases h with
 | @swap a b row hd x y ne h1 h2=>
  have e1:=V7 h1 (some y)
  have h2':(row.set a (some y))[b]?=some (some y):=by rw [List.getElem?_set,if_neg ne];exact h2
  have e2:=V7 h2' (some x)
  simp only [Option.isNone_some,Bool.false_eq_true,if_false] at e1 e2
  show ((row.set a (some y)).set b (some x)).countP _=if hd.isSome=true then 1 else 0
  have o:row.countP (·.isNone)=if hd.isSome=true then 1 else 0:=o
  omega
 | @take p row x h1=>
  have e1:=V7 h1 none
  simp only [Option.isNone_some,Option.isNone_none,Bool.false_eq_true,if_false,if_true] at e1
  have o:row.countP (·.isNone)=0:=o
  show (row.set p none).countP _=1
  omega
 | @move p g row hd x h1 h2=>
  have ne:p ≠ g:=fun z=>by rw [z,h2] at h1;cases h1
  have e1:=V7 h1 none
  have h2':(row.set p none)[g]?=some none:=by rw [List.getElem?_set,if_neg ne];exact h2
  have e2:=V7 h2' (some x)
  simp only [Option.isNone_some,Option.isNone_none,Bool.false_eq_true,if_false,if_true] at e1 e2
  show ((row.set p none).set g (some x)).countP _=if hd.isSome=true then 1 else 0
  have o:row.countP (·.isNone)=if hd.isSome=true then 1 else 0:=o
  omega
 | @lay g row x h1=>
  have e1:=V7 h1 (some x)
  simp only [Option.isNone_some,Option.isNone_none,Bool.false_eq_true,if_false,if_true] at e1
  have o:row.countP (·.isNone)=1:=o
  show (row.set g (some x)).countP _=0
  omega
noncomputable abbrev jR (n:Nat):ES:=((zJ 0 1 n).map some,none)
theorem Jx (n:Nat):OkM (jR n) n:=by
 refine ⟨fun x hx=>?_,fun x hx=>nomatch hx⟩
 obtain ⟨y,hy,e⟩:=List.mem_map.mp hx
 injection e with e
 subst e
 unfold zJ at hy
 obtain ⟨k,hk,e⟩:=List.mem_map.mp hy
 rw [List.mem_range] at hk
 omega
theorem XO (n:Nat):kL (jR n):=by
 unfold kL
 show ((zJ 0 1 n).map some).countP _=0
 rw [List.countP_eq_zero]
 intro a ha
 obtain ⟨y,_,e⟩:=List.mem_map.mp ha
 subst e
 simp
theorem Z4 (n:Nat):(jR n).1.length=n:=by show ((zJ 0 1 n).map some).length=n;rw [List.length_map,zr]
theorem D4 {s:ES}(o:kL s)(h:s.2=none):∃ os:List Int,s.1=os.map some:=by
 unfold kL at o
 rw [h] at o
 have o:s.1.countP (·.isNone)=0:=o
 rw [List.countP_eq_zero] at o
 refine ⟨s.1.map fun c=>c.getD 0,?_⟩
 rw [List.map_map]
 refine (List.map_id s.1).symm.trans (List.map_congr_left fun c hc=>?_)
 cases c with
 | none=>exact absurd rfl (o none hc)
 | some x=>rfl
theorem HE {qs:List (Addr × De)}{i:Nat}{x:V}(h:(tfs (deP qs))[i]?=some x):∃ y,y ∈ qs/\qs[i]?=some y/\x=.ref y.1:=by
 unfold tfs deP at h
 rw [List.map_map,List.getElem?_map] at h
 cases e:qs[i]? with
 | none=>rw [e] at h;cases h
 | some y=>
  rw [e] at h
  injection h with h
  exact ⟨y,List.mem_of_getElem? e,rfl,h.symm⟩
noncomputable abbrev vf:Stmt:=top 35
theorem wb:zo ["n","plan","room","at","deed","refusal"] ["n","plan"] (zg vf):=⟨rfl,rfl,rfl,by decide +kernel,rfl,by decide +kernel,by decide +kernel⟩
noncomputable def ZO (C:Addr):Sp:=fun vs H Q _=>∃ (n:Nat) (pp:Addr) (qs:List (Addr × De)) (t:ES) (ms:List Int),vs=[.int (n:Int),.ref pp]/\(H pp=some (.lst (tfs (deP qs))) \/ H pp=some (.tup (tfs (deP qs))))/\(∀ q ∈ qs,H q.1=some (.tup (deV q.2)))/\xQ (qs.map (·.2)) (jR n) t (List.replicate n 0) ms/\n<=1000/\qs.length<=10000 /\
 ∀ p rw_ mv H',H p=none->H rw_=none->H mv=none->Kp [] H H'->qa C H' p rw_ mv t ms->Q (.ref p) H'
theorem Hq:yG "list" ["list","tuple"]=some true:=by decide +kernel
theorem Hz:yG "tuple" ["list","tuple"]=some true:=by decide +kernel
theorem XF {C:Addr}(a:At K mg "room_behind" vf)(R:RTx K C)(B:Blt mg)(M_Room:Mkr P w K mg base "Room" C ["self","n"] 4 (X7 C))(M_do:Dm P w K mg base C "do" ["self","thing"] 5 (MB C)):Df P w K mg base "room_behind" ["n","plan"] 6 (ZO C):=by
 refine jh (k:=5) a wb (fun _ _ _ _ _ _=>Pn2_ fun _ _=>rfl) (fun vs H Q E h=>?_) (fun f cdv A outer s H vs Q E hr h=>?_)
 ·obtain ⟨_,_,_,_,_,rfl,_⟩:=h;rfl
 obtain ⟨n,pp,qs,t,ms,rfl,hpp,hqs,hdo,hn,hl,q⟩:=h
 have sc:=wb
 have hsl:=hsl
 have CL:=R.cl
 refine ⟨_,(zc (zP (xD (jn (zt Vx rfl B.isinstance qb (za (pv 1) (za (jl (za (jp (v:=.ty "list") rfl B.list je rfl) (za (jp (v:=.ty "tuple") rfl B.tuple kj rfl) zb))) zb))) (fun _=>rfl))) (zd qB) zB)
  (zc (zC (i:=2) sc.nd rfl (by first | exact Or.inl rfl | exact Or.inr rfl) (Mx M_Room hr rfl (za (pv 0) zb)))
  (zc (qv PassesOwn.never rfl (kz rfl B.enumerate (za (pv 1) zb)) (qO (K:=K) 2 rfl rfl (zM (zx (i:=3) sc.nd rfl (by first | exact Or.inl rfl | exact Or.inr rfl)) (zM (zx (i:=4) sc.nd rfl (by first | exact Or.inl rfl | exact Or.inr rfl)) qR))) (zd (Fs (fun _ _ z=>z) (zd (qQ (v9 CL M_do hr (pv 2) (za (pv 4) zb)))))))
  (zd (zq (pv 2)))))),?_⟩
 rw [show start ["n","plan","room","at","deed","refusal"] [V.int (n:Int),V.ref pp]=[some (.int (n:Int)),some (.ref pp),none,none,none,none] from rfl]
 refine zO fun r1 hr1=>?_
 walk_at "rd"
 refine ⟨by show 2<=sizeLine;omega,fun g0 hg0=>?_⟩
 have n0:=Kp.new (bs:=[]) (HO.tup [V.ty "list",V.ty "tuple"]) hg0
 have e0:=zf (H:=H) (a:=g0) (o:=HO.tup [V.ty "list",V.ty "tuple"])
 have key:∃ T,xa K (upd H g0 (HO.tup [V.ty "list",V.ty "tuple"])) (V.ref pp) (Value.type T)/\yG T ["list","tuple"]=some true:=by
  rcases hpp with z | z
  ·exact ⟨"list",.lst (n0 _ _ (by simp) z),Hq⟩
  ·exact ⟨"tuple",.tup (n0 _ _ (by simp) z),Hz⟩
 obtain ⟨T,ty,it⟩:=key
 refine ⟨T,["list","tuple"],e0,ty,true,it,?_⟩
 rw [if_neg (by decide)]
 generalize upd H g0 (HO.tup [V.ty "list",V.ty "tuple"])=H1 at *
 subst hr1
 refine zO fun r1 hr1=>?_
 walk_at "rd"
 refine fun x dx hx hdx nxd=>⟨x,dx,n,rfl,zf,by omega,fun rA mA H4 hrA hmA r4 k4=>⟨rfl,?_⟩⟩
 have kN:Kp [] H1 (upd (upd H1 dx (.own x)) x (.ins C dx [])):=fun c o _ hh=>(zm (zh hh hx)).trans ((zm (zh hh hdx)).trans hh)
 have k14:Kp [] H H4:=fun c o hc0 hh=>k4 c o (by simpa using zh (n0 c o hc0 hh) hx) (kN c o hc0 (n0 c o hc0 hh))
 have fx:H x=none:=n0.free hx
 have frA:H rA=none:=n0.free (kN.free hrA)
 have fmA:H mA=none:=n0.free (kN.free hmA)
 subst hr1
 walk_at "rd"
 have hsq:SqL K H pp (tfs (deP qs)) \/ SqT K H pp (tfs (deP qs)):=by
  rcases hpp with z | z
  ·exact .inl (SqL.of z)
  ·exact .inr (SqT.of z)
 have l0:=Z4 n
 refine wg (H0:=H) hsq (fun i τ G=>∃ (s0:ES) (ms0:List Int) (u3 u4:Option V),τ=[some (V.int (n:Int)),some (V.ref pp),some (V.ref x),u3,u4,none]/\Kp [] H G/\qa C G x rA mA s0 ms0/\xQ ((qs.map (·.2)).drop i) s0 t ms0 ms/\OkM s0 ms0.length/\s0.1.length=n/\ms0.length=n) ?_ ?_ ?_ ?_
 ·exact ⟨jR n,List.replicate n 0,none,none,rfl,k14,r4,hdo,by rw [List.length_replicate];exact Jx n,l0,List.length_replicate⟩
 ·rintro i τ G ⟨s0,ms0,u3,u4,rfl,kG,_⟩
  exact kG
 ·rintro i y p τ G hy hp ⟨s0,ms0,u3,u4,rfl,kG,rG,dG,ok,l1,l2⟩
  obtain ⟨z,hz,ez,rfl⟩:=HE hy
  have hi:=(List.getElem?_eq_some_iff.mp ez).1
  have ed:(qs.map (·.2)).drop i=z.2 :: (qs.map (·.2)).drop (i+1):=by
   rw [List.drop_eq_getElem_cons (by rw [List.length_map];exact hi),List.getElem_map,(List.getElem?_eq_some_iff.mp ez).2]
  rw [ed] at dG
  cases dG with
  | @cons _ _ _ t1 _ _ _ hd1 hd2=>
  have np:=Kp.new (bs:=[]) (HO.tup [V.int (i:Int),V.ref z.1]) hp
  have ep:=zf (H:=G) (a:=p) (o:=HO.tup [V.int (i:Int),V.ref z.1])
  generalize upd G p (HO.tup [V.int (i:Int),V.ref z.1])=G1 at *
  have rG1:=rG.kp np (by simp) (by simp) (by simp)
  obtain ⟨dx1,e1⟩:=rG1.ex
  have hz1:=np _ _ (by simp) (kG _ _ (by simp) (hqs z hz))
  have hI:∀ G2,qa C G2 x rA mA t1 (qH z.2 s0 ms0)->Kp [x,rA,mA] G1 G2->Kp [] H G2/\qa C G2 x rA mA t1 (qH z.2 s0 ms0)/\xQ ((qs.map (·.2)).drop (i+1)) t1 t (qH z.2 s0 ms0) ms/\OkM t1 (qH z.2 s0 ms0).length/\t1.1.length=n/\(qH z.2 s0 ms0).length=n:=fun G2 r2 k2=>
   ⟨fun c o hc0 hh=>k2 c o (by simp [zh hh fx,zh hh frA,zh hh fmA]) (np c o hc0 (kG c o hc0 hh)),r2,hd2,by rw [xi];exact hd1.okm ok,by rw [hd1.len];exact l1,by rw [xi];exact l2⟩
  walk_at "rd"
  exact ⟨_,SqT.of ep,rfl,_,_,rfl,_,_,rfl,rfl,_,_,e1,wn _ _ _ (by decide +kernel) (by decide +kernel) (by decide +kernel),x,rA,mA,z.1,s0,ms0,z.2,rfl,hz1,by omega,rG1,ok,t1,hd1,fun G2 r2 k2=>let ⟨h1,h2⟩:=hI G2 r2 k2;⟨h1,_,_,h2⟩⟩
 ·rintro τ G ⟨s0,ms0,u3,u4,rfl,kG,rG,dG,ok,l1,l2⟩
  have el:(qs.map (·.2)).drop (tfs (deP qs)).length=[]:=by rw [DV,List.length_map];exact List.drop_of_length_le (by rw [List.length_map];exact Nat.le_refl _)
  rw [el] at dG
  cases dG
  walk_at "rd"
  exact q x rA mA G fx frA fmA kG rG
noncomputable abbrev Qk:Stmt:=top 13
theorem J0:zo ["order","back","place","goal"] ["order"] (zg Qk):=⟨rfl,rfl,rfl,by decide +kernel,rfl,by decide +kernel,by decide +kernel⟩
noncomputable def jf:List Int->Nat->List Int->List Int
 | [],_,bs=>bs
 | o :: os,i,bs=>jf os (i+1) (bs.set o.toNat (i:Int))
noncomputable def Vm:Sp:=fun vs H Q _=>∃ (a:Addr) (os:List Int),vs=[.ref a]/\H a=some (.tup (os.map V.int))/\os.length<=1000/\(∀ x ∈ os,0<=x/\x<(os.length:Int))/\∀ p H',Kp [] H H'->H p=none->H' p=some (il (jf os 0 (List.replicate os.length 0)))->Q (.ref p) H'
theorem yf:∀ (os:List Int) (i:Nat) (bs:List Int),(jf os i bs).length=bs.length
 | [],_,_=>rfl
 | o :: os,i,bs=>by rw [jf,yf,List.length_set]
theorem DI (a:At K mg "back_of" Qk)(B:Blt mg):Df P w K mg base "back_of" ["order"] 1 Vm:=by
 refine jh (k:=0) a J0 (fun _ _ _ _ _ _=>Pn1_ fun _=>rfl) (fun vs H Q E h=>?_) (fun f cdv A outer s H vs Q E hr h=>?_)
 ·obtain ⟨a,_,rfl,_⟩:=h;rfl
 obtain ⟨a,os,rfl,ha,hl,hb,q⟩:=h
 have sc:=J0
 have hsl:=hsl
 refine ⟨_,(zc (zC (i:=1) sc.nd rfl (by first | exact Or.inl rfl | exact Or.inr rfl) (zu xg (qF (za ze zb)) (zt zp rfl B.len zZ (za (pv 0) zb))))
  (zc (qv PassesOwn.never rfl (kz rfl B.enumerate (za (pv 0) zb)) (qO (K:=K) 2 rfl rfl (zM (zx (i:=2) sc.nd rfl (by first | exact Or.inl rfl | exact Or.inr rfl)) (zM (zx (i:=3) sc.nd rfl (by first | exact Or.inl rfl | exact Or.inr rfl)) qR))) (zd (qk (pv 2) (qg (pv 1) (pv 3) zE))))
  (zd (zq (pv 1))))),?_⟩
 rw [show start ["order","back","place","goal"] [V.ref a]=[some (.ref a),none,none,none] from rfl]
 refine zO fun r1 hr1=>?_
 walk_at "rd"
 refine ⟨by show 1<=sizeLine;omega,fun g3 hg3=>?_⟩
 have n3:=Kp.new (bs:=[]) (HO.lst [V.int 0]) hg3
 have e3:=zf (H:=H) (a:=g3) (o:=HO.lst [V.int 0])
 generalize upd H g3 (HO.lst [V.int 0])=H1 at *
 have ha1:=n3 _ _ (by simp) ha
 refine ⟨_,.inr (SqT.of ha1),_,e3,by omega,by rw [List.length_map];omega,by rw [List.length_map,Int.toNat_natCast];show 1 * _<=_;omega,fun g4 hg4=>?_⟩
 rw [List.length_map,Int.toNat_natCast,QN]
 have n4:=Kp.new (bs:=[]) (HO.lst (List.replicate os.length (V.int 0))) hg4
 have e4:upd H1 g4 (HO.lst (List.replicate os.length (V.int 0))) g4=some (il (List.replicate os.length 0)):=zf.trans (show _=some (HO.lst ((List.replicate os.length (0:Int)).map V.int)) by rw [List.map_replicate])
 generalize upd H1 g4 (HO.lst (List.replicate os.length (V.int 0)))=H2 at *
 have ha2:=n4 _ _ (by simp) ha1
 have f4:H g4=none:=n3.free hg4
 subst hr1
 refine zO fun r1 hr1=>?_
 walk_at "rd"
 refine wg (H0:=H) (.inr (SqT.of ha)) (fun i τ G=>∃ (u v:Option V) (bs:List Int),τ=[some (V.ref a),some (V.ref g4),u,v]/\Kp [] H G/\G g4=some (il bs)/\bs.length=os.length/\jf (os.drop i) i bs=jf os 0 (List.replicate os.length 0)) ?_ ?_ ?_ ?_
 ·exact ⟨none,none,_,rfl,n3.trans n4,e4,List.length_replicate,rfl⟩
 ·rintro i τ G ⟨u,v,bs,rfl,kG,_⟩
  exact kG
 ·rintro i y p τ G hy hp ⟨u,v,bs,rfl,kG,hG,lb,eb⟩
  have hi:=(List.getElem?_eq_some_iff.mp hy).1
  rw [List.length_map] at hi
  rw [List.getElem?_map,List.getElem?_eq_getElem hi] at hy
  injection hy with hy
  subst hy
  obtain ⟨o0,o1⟩:=hb _ (List.getElem_mem hi)
  obtain ⟨m1,m2⟩:=Q8 (ms:=bs) o0 (by rw [lb];exact o1)
  have np:=Kp.new (bs:=[]) (HO.tup [V.int (i:Int),V.int os[i]]) hp
  have ep:=zf (H:=G) (a:=p) (o:=HO.tup [V.int (i:Int),V.int os[i]])
  generalize upd G p (HO.tup [V.int (i:Int),V.int os[i]])=G1 at *
  walk_at "rd"
  refine ⟨_,SqT.of ep,rfl,_,_,rfl,_,_,rfl,rfl,_,rfl,_,np _ _ (by simp) hG,_,m2,fun c o hc0 hh=>(zm (zh hh f4)).trans (np c o hc0 (kG c o hc0 hh)),bs.set os[i].toNat (i:Int),zf.trans (show _=some (HO.lst ((bs.set os[i].toNat (i:Int)).map V.int)) by rw [List.map_set]),by rw [List.length_set];exact lb,?_⟩
  rw [<- eb,List.drop_eq_getElem_cons hi];rfl
 ·rintro τ G ⟨u,v,bs,rfl,kG,hG,lb,eb⟩
  rw [List.length_map,List.drop_length] at eb
  subst hr1
  walk_at "rd"
  exact q g4 G kG f4 (by rw [<- eb];exact hG)
noncomputable abbrev Zj:Stmt:=top 36
theorem Z2:zo ["n","plan","room","row","hand","moved"] ["n","plan"] (zg Zj):=⟨rfl,rfl,rfl,by decide +kernel,rfl,by decide +kernel,by decide +kernel⟩
noncomputable def J7:Sp:=fun vs H Q _=>∃ (n:Nat) (pp:Addr) (qs:List (Addr × De)) (t:ES) (ms:List Int),vs=[.int (n:Int),.ref pp]/\(H pp=some (.lst (tfs (deP qs))) \/ H pp=some (.tup (tfs (deP qs))))/\(∀ q ∈ qs,H q.1=some (.tup (deV q.2)))/\xQ (qs.map (·.2)) (jR n) t (List.replicate n 0) ms/\n<=1000/\qs.length<=10000 /\
 ∀ p pm H',Kp [] H H'->H' pm=some (.tup (ms.map V.int)) ->
  (∀ pr h,t.2=some h->H' pr=some (.tup (t.1.map cE))->H' p=some (.tup [.str (Str.ofString "open"),.ref pr,.int h,.ref pm])->Q (.ref p) H') /\
  (∀ pb os,t.2=none->t.1=os.map some->H' pb=some (il (jf os 0 (List.replicate os.length 0)))->H pb=none->H' p=some (.tup [.str (Str.ofString "done"),.ref pb,.ref pm])->Q (.ref p) H')
theorem xQ.ok {l:List De}{s t:ES}{ms ms':List Int}(h:xQ l s t ms ms')(n:Nat)(o1:OkM s n)(o2:kL s):OkM t n/\kL t:=by
 induction h with
 | nil=>exact ⟨o1,o2⟩
 | cons d _ ih=>exact ih (d.okm o1) (d.noneOk o2)
theorem V5 {C:Addr}(a:At K mg "walked" Zj)(R:RTx K C)(B:Blt mg)(D_room_behind:Df P w K mg base "room_behind" ["n","plan"] 6 (ZO C))(D_back_of:Df P w K mg base "back_of" ["order"] 6 Vm)
  (M_row_now:Dm P w K mg base C "row_now" ["self"] 6 (A4 C)) (M_hand_now:Dm P w K mg base C "hand_now" ["self"] 6 (Bm C)) (M_moved_now:Dm P w K mg base C "moved_now" ["self"] 6 (Dq C)):Df P w K mg base "walked" ["n","plan"] 7 J7:=by
 refine jh (k:=6) a Z2 (fun _ _ _ _ _ _=>Pn2_ fun _ _=>rfl) (fun vs H Q E h=>?_) (fun f cdv A outer s H vs Q E hr h=>?_)
 ·obtain ⟨_,_,_,_,_,rfl,_⟩:=h;rfl
 obtain ⟨n,pp,qs,t,ms,rfl,hpp,hqs,hdo,hn,hl,q⟩:=h
 have sc:=Z2
 have hsl:=hsl
 have CL:=R.cl
 obtain ⟨lt,lm⟩:=hdo.len
 rw [Z4] at lt
 rw [List.length_replicate] at lm
 obtain ⟨ot,on⟩:=hdo.ok n (Jx n) (XO n)
 refine ⟨_,(zc (zC (i:=2) sc.nd rfl (by first | exact Or.inl rfl | exact Or.inr rfl) (zA D_room_behind hr rfl (za (pv 0) (za (pv 1) zb))))
  (zc (zC (i:=3) sc.nd rfl (by first | exact Or.inl rfl | exact Or.inr rfl) (K6 CL M_row_now hr (pv 2)))
  (zc (zC (i:=4) sc.nd rfl (by first | exact Or.inl rfl | exact Or.inr rfl) (K6 CL M_hand_now hr (pv 2)))
  (zc (zC (i:=5) sc.nd rfl (by first | exact Or.inl rfl | exact Or.inr rfl) (K6 CL M_moved_now hr (pv 2)))
  (zc (zP (zn kE (pv 4) qf (zy _)) (zd (zq (jl (za qM (za (pv 3) (za (pv 4) (za (pv 5) zb))))))) zB)
  (zd (zq (jl (za qM (za (zA D_back_of hr rfl (za (pv 3) zb)) (za (pv 5) zb))))))))))),?_⟩
 rw [show start ["n","plan","room","row","hand","moved"] [V.int (n:Int),V.ref pp]=[some (.int (n:Int)),some (.ref pp),none,none,none,none] from rfl]
 refine zO fun r1 hr1=>?_
 walk_at "rd"
 refine ⟨n,pp,qs,t,ms,rfl,hpp,hqs,hdo,hn,hl,fun p rA mA H1 _ _ _ k1 r1'=>?_⟩
 subst hr1
 refine zO fun r1 hr1=>?_
 walk_at "rd"
 obtain ⟨dx1,e1⟩:=r1'.ex
 refine ⟨_,_,e1,wn _ _ _ (by decide +kernel) (by decide +kernel) (by decide +kernel),p,rA,mA,t,ms,rfl,r1',by omega,fun pr H2 k2 hpr=>?_⟩
 have r2':=r1'.kp k2 (by simp) (by simp) (by simp)
 obtain ⟨dx2,e2⟩:=r2'.ex
 subst hr1
 refine zO fun r1 hr1=>?_
 walk_at "rd"
 refine ⟨_,_,e2,wn _ _ _ (by decide +kernel) (by decide +kernel) (by decide +kernel),p,rA,mA,t,ms,rfl,r2',?_⟩
 subst hr1
 refine zO fun r1 hr1=>?_
 walk_at "rd"
 refine ⟨_,_,e2,wn _ _ _ (by decide +kernel) (by decide +kernel) (by decide +kernel),p,rA,mA,t,ms,rfl,r2',by omega,fun pm H3 k3 hpm=>?_⟩
 have hpr3:=k3 _ _ (by simp) hpr
 have k13:=(k1.trans k2).trans k3
 subst hr1
 refine zO fun r1 hr1=>?_
 walk_at "rd"
 cases eh:t.2 with
 | some h=>
  rw [if_pos (show ¬ cE (some h)=V.non from fun z=>nomatch z)]
  refine ⟨by show 4<=sizeLine;omega,fun g hg=>?_⟩
  have ng:=Kp.new (bs:=[]) (HO.tup [V.str (Str.ofString "open"),V.ref pr,cE (some h),V.ref pm]) hg
  exact (q g pm _ (k13.trans ng) (ng _ _ (by simp) hpm)).1 pr h eh (ng _ _ (by simp) hpr3) zf
 | none=>
  rw [if_neg (show ¬ ¬ cE none=V.non from not_not_intro rfl)]
  obtain ⟨os,eo⟩:=D4 on eh
  have lo:os.length=n:=by rw [<- lt,eo,List.length_map]
  subst hr1
  walk_at "rd"
  refine ⟨pr,os,rfl,by rw [hpr3,eo,List.map_map];rfl,by omega,fun x hx=>?_,fun pb H4 k4 npb hpb=>⟨by show 3<=sizeLine;omega,fun g hg=>?_⟩⟩
  ·rw [lo]
   exact ot.1 x (by rw [eo];exact List.mem_map.mpr ⟨x,hx,rfl⟩)
  ·have ng:=Kp.new (bs:=[]) (HO.tup [V.str (Str.ofString "done"),V.ref pb,V.ref pm]) hg
   exact (q g pm _ ((k13.trans k4).trans ng) (ng _ _ (by simp) (k4 _ _ (by simp) hpm))).2 pb os eh eo (ng _ _ (by simp) hpb) (k13.free npb) zf
noncomputable def J2:Dd->De
 | .take p=>.take p
 | .move p g=>.move p g
 | .lay g=>.lay g
theorem Lj {d:Dd}{s t:RS}(h:Do d s t):DoE (J2 d) (s.1,s.2.1) (t.1,t.2.1)/\qH (J2 d) (s.1,s.2.1) s.2.2=t.2.2:=by
 cases h with
 | @take p row mv x h1=>
  refine ⟨.take h1,?_⟩
  show [row.getD p none].foldl vi mv=_
  rw [j6 h1];rfl
 | @move p g row hd mv x h1 h2=>
  refine ⟨.move h1 h2,?_⟩
  show [row.getD p none,row.getD g none].foldl vi mv=_
  rw [j6 h1,j6 h2];rfl
 | @lay g row mv x h1=>exact ⟨.lay h1,rfl⟩
theorem Gm {l:List Dd}{s t:RS}(h:Dos l s t):xQ (l.map J2) (s.1,s.2.1) (t.1,t.2.1) s.2.2 t.2.2:=by
 induction h with
 | nil=>exact .nil
 | cons d _ ih=>
  obtain ⟨h1,h2⟩:=Lj d
  refine .cons h1 ?_
  rw [h2]
  exact ih
noncomputable def swD (s:Nat × Nat):De:=.swap s.1 s.2
theorem Mp {R:List Int}{s:Nat × Nat}(h1:s.1<R.length)(h2:s.2<R.length)(ne:s.1 ≠ s.2):DoE (swD s) (R.map some,none) ((sw1 R s).map some,none):=by
 have e1:(R.map some)[s.1]?=some (some (R.getD s.1 0)):=by rw [List.getElem?_map,List.getElem?_eq_getElem h1,List.getD_eq_getElem?_getD,List.getElem?_eq_getElem h1];rfl
 have e2:(R.map some)[s.2]?=some (some (R.getD s.2 0)):=by rw [List.getElem?_map,List.getElem?_eq_getElem h2,List.getD_eq_getElem?_getD,List.getElem?_eq_getElem h2];rfl
 have:=DoE.swap (h:=none) ne e1 e2
 unfold sw1
 rw [List.map_set,List.map_set]
 exact this
theorem A0:∀ (l:List (Nat × Nat)) (R:List Int),(∀ s ∈ l,s.1<R.length/\s.2<R.length/\s.1 ≠ s.2)->xA (l.map swD) (R.map some,none) ((swR R l).map some,none)
 | [],_,_=>.nil
 | s :: l,R,h=>by
  obtain ⟨h1,h2,h3⟩:=h s (by simp)
  exact .cons (Mp h1 h2 h3) (A0 l (sw1 R s) fun t ht=>by rw [Y0];exact h t (by simp [ht]))
theorem wa:∀ (rs:List Int) (i:Nat) (bs:List Int),rs.Nodup->(∀ x ∈ rs,0<=x/\x<(bs.length:Int))->(∀ j,j<rs.length->(jf rs i bs).getD (rs.getD j 0).toNat 0=((i+j:Nat):Int))/\∀ y:Nat,(y:Int) ∉ rs->(jf rs i bs).getD y 0=bs.getD y 0
 | [],_,_,_,_=>⟨fun j hj=>absurd hj (Nat.not_lt_zero _),fun y _=>rfl⟩
 | r :: rs,i,bs,nd,hb=>by
  have nd':=List.nodup_cons.mp nd
  obtain ⟨r0,r1⟩:=hb r (by simp)
  obtain ⟨g1,g2⟩:=wa rs (i+1) (bs.set r.toNat (i:Int)) nd'.2 (fun x hx=>by rw [List.length_set];exact hb x (by simp [hx]))
  have hrl:r.toNat<bs.length:=by omega
  refine ⟨fun j hj=>?_,fun y hy=>?_⟩
  ·cases j with
   | zero=>
    show (jf rs (i+1) (bs.set r.toNat (i:Int))).getD r.toNat 0=_
    rw [g2 r.toNat (by rw [Int.toNat_of_nonneg r0];exact nd'.1),qW hrl,if_pos rfl];rfl
   | succ j=>
    have:=g1 j (by simpa using hj)
    show (jf rs (i+1) (bs.set r.toNat (i:Int))).getD (rs.getD j 0).toNat 0=_
    rw [this];congr 1;omega
  ·show (jf rs (i+1) (bs.set r.toNat (i:Int))).getD y 0=_
   rw [g2 y (fun z=>hy (by simp [z])),qW hrl,if_neg]
   intro z
   exact hy (by rw [z,Int.toNat_of_nonneg r0];simp)
theorem Qp {a b:List Int}(h:a.length=b.length)(g:∀ x,x<a.length->a.getD x 0=b.getD x 0):a=b:=by
 refine List.ext_getElem h fun i h1 h2=>?_
 have:=g i h1
 rwa [List.getD_eq_getElem?_getD,List.getElem?_eq_getElem h1,List.getD_eq_getElem?_getD,List.getElem?_eq_getElem h2] at this
theorem QS {n:Nat}{os R:List Int}(h:zj n os)(hR:R.length=n)(hg:∀ t:Nat,t<n->R.getD (os.getD t 0).toNat 0=(t:Int)):R.Nodup/\(∀ x ∈ R,0<=x/\x<(n:Int))/\jf R 0 (List.replicate R.length 0)=os:=by
 have at_:∀ j,j<n->∃ t:Nat,t<n/\os.getD t 0=(j:Int)/\R.getD j 0=(t:Int):=fun j hj=>by
  obtain ⟨t,ht,e⟩:=h.ex hj
  have:=hg t ht
  rw [e,Int.toNat_natCast] at this
  exact ⟨t,ht,e,this⟩
 have nd:R.Nodup:=by
  rw [List.nodup_iff_pairwise_ne,List.pairwise_iff_getElem]
  intro i j hi hj hij e
  obtain ⟨t,_,e1,r1⟩:=at_ i (by omega)
  obtain ⟨u,_,e2,r2⟩:=at_ j (by omega)
  rw [List.getD_eq_getElem?_getD,List.getElem?_eq_getElem hi] at r1
  rw [List.getD_eq_getElem?_getD,List.getElem?_eq_getElem hj] at r2
  have r1:R[i]=(t:Int):=r1
  have r2:R[j]=(u:Int):=r2
  have:t=u:=by omega
  subst this
  omega
 have bd:∀ x ∈ R,0<=x/\x<(n:Int):=fun x hx=>by
  obtain ⟨i,hi,e⟩:=List.mem_iff_getElem.mp hx
  obtain ⟨t,ht,_,r1⟩:=at_ i (by omega)
  rw [List.getD_eq_getElem?_getD,List.getElem?_eq_getElem hi] at r1
  have r1:R[i]=(t:Int):=r1
  omega
 refine ⟨nd,bd,Qp (by rw [yf,List.length_replicate,hR,h.1]) fun x hx=>?_⟩
 rw [yf,List.length_replicate,hR] at hx
 obtain ⟨g1,_⟩:=wa R 0 (List.replicate R.length 0) nd (fun y hy=>by rw [List.length_replicate,hR];exact bd y hy)
 obtain ⟨o0,o1⟩:=h.getD hx
 have e:=hg x hx
 have:=g1 (os.getD x 0).toNat (by omega)
 rw [e,Int.toNat_natCast] at this
 rw [this]
 omega
theorem MM:MR rNe:=fun _ _ _ _ _ hq ⟨e,h⟩=>⟨e,hq _ _ h⟩
theorem Zi {ss:List Bool}{i:Nat}(h:i<ss.length):ixN (ss.map V.bl).length (i:Int)=some i/\atI (ss.map V.bl) (i:Int)=some (.bl (ss.getD i false)):=by
 have e1:ixN (ss.map V.bl).length (i:Int)=some i:=by unfold ixN;rw [List.length_map,if_pos (by omega),if_pos (by omega),Int.toNat_natCast]
 refine ⟨e1,?_⟩
 unfold atI
 rw [e1]
 show (ss.map V.bl)[i]?=_
 rw [List.getElem?_map,List.getD_eq_getElem?_getD,List.getElem?_eq_getElem h];rfl
theorem Vp {ss:List Bool}{i j:Nat}{v:Bool}(h:i<ss.length):(ss.set i v).getD j false=if j=i then v else ss.getD j false:=by
 rw [List.getD_eq_getElem?_getD,List.getD_eq_getElem?_getD,List.getElem?_set]
 by_cases e:i=j
 ·subst e;rw [if_pos rfl,if_pos h,if_pos rfl];rfl
 ·rw [if_neg e,if_neg (fun z=>e z.symm)]
noncomputable abbrev xu:Stmt:=top 17
theorem yk:zo ["order","first","ring","place"] ["order","first"] (zg xu):=⟨rfl,rfl,rfl,by decide +kernel,rfl,by decide +kernel,by decide +kernel⟩
noncomputable def wc (K:PySem.W.Frag):Sp:=fun vs H Q _=>∃ (a:Addr) (n:Nat) (os:List Int) (p:Int),vs=[.ref a,.int p]/\(SqL K H a (os.map V.int) \/ SqT K H a (os.map V.int))/\zj n os/\n<=1000/\0<=p/\p<n/\∀ t H',Kp [] H H'->H t=none->H' t=some (il (zG os p))->Q (.ref t) H'
theorem QA (a:At K mg "ring_from" xu)(B:Blt mg):Df P w K mg base "ring_from" ["order","first"] 1 (wc K):=by
  refine jh (k:=0) a yk (fun _ _ _ _ _ _=>Pn2_ fun _ _=>rfl) (fun vs H Q E h=>?_) (fun f cdv A outer s H vs Q E hr h=>?_)
  · obtain ⟨a,_,_,_,rfl,_⟩:=h;rfl
  obtain ⟨a,n,os,p,rfl,ha,ho,hn,p0,p1,q⟩:=h
  have sc:=yk
  have hsl:=hsl
  have ol:=ho.1
  obtain ⟨M,hM,hMn⟩:=ja ho p0 p1
  refine ⟨_,(zc (zC (i:=2) sc.nd rfl (by first | exact Or.inl rfl | exact Or.inr rfl) (qF (za (pv 1) zb)))
    (zc (zC (i:=3) sc.nd rfl (by first | exact Or.inl rfl | exact Or.inr rfl) (zF qm (pv 0) (pv 1) (fun _ _=>rfl)))
    (zc (vW PassesOwn.never (zn G5 (pv 3) (pv 1) (zy _)) (zc (qQ (vt PySem.F.plainAttrs_list PySem.F.slot_list_append PySem.F.type_list_append xM (pv 2) (za (pv 3) zb)))
    (zd (zC (i:=3) sc.nd rfl (by first | exact Or.inl rfl | exact Or.inr rfl) (zF qm (pv 0) (pv 3) (fun _ _=>rfl))))))
    (zd (zq (pv 2)))))),?_⟩
  rw [show start ["order","first","ring","place"] [V.ref a,V.int p]=[some (.ref a),some (.int p),none,none] from rfl]
  walk_at "rd"
  obtain ⟨e1,e2⟩:=zV (cs:=os) (k:=p) p0 (by omega)
  refine ⟨by show 1<=sizeLine;decide,fun t ht=>⟨_,JA ha (Kp.new _ ht),_,e2,?_⟩⟩
  refine Bb (fun τ H'=>∃ (j:Nat),τ=[some (.ref a),some (.int p),some (.ref t),some (.int (itn os j p))]/\Kp [t] (upd H t (.lst [.int p])) H'/\H' t=some (il (itl os p j))/\1<=j/\j<=M/\∀ i,1<=i->i<j->itn os i p ≠ p)
    (fun _ H'=>match H' t with | some (.lst xs)=>M+1 - xs.length | _=>0) ?_ ?_ (Gn (Ml MM Dj Dj))
  · exact ⟨1,rfl,Kp.refl,zf,Nat.le_refl _,hM.1,fun i h1 h2=>by omega⟩
  · rintro τ H' ⟨j,rfl,kp,hH,j1,jM,hj⟩
    have bd:=qU ho p0 p1 j
    have k0:=Kp.drop1 ht kp
    walk_at "rd"
    refine ⟨rfl,yw (fun c=>?_) (fun c=>?_)⟩
    · have jM' : j < M := by
        rcases Nat.lt_or_ge j M with z | z
        · exact z
        · have e:j=M:=by omega
          subst e
          exact absurd hM.2.1 c
      obtain ⟨g1,g2⟩:=zV (cs:=os) (k:=itn os j p) bd.1 (by omega)
      have k1:Kp [] H (upd H' t (HO.lst (List.map V.int (itl os p j) ++ [V.int (itn os j p)]))):=Kp.drop1 ht (kp.trans (Kp.set _ (by simp)))
      refine ⟨.inl ⟨rfl,_,SqL.of hH⟩,_,hH,by rw [List.length_map,qz];omega,_,JA ha k1,_,g2,⟨j+1,rfl,kp.trans (Kp.set _ (by simp)),?_,by omega,by omega,fun i h1 h2=>?_⟩,?_⟩
      · rw [Bz]
        exact zf.trans (congrArg some (congrArg HO.lst (by rw [List.map_append];rfl)))
      · by_cases e:i=j
        · subst e;exact c
        · exact hj i h1 (by omega)
      · rw [zf,hH]
        show M+1 - (List.map V.int (itl os p j) ++ [V.int (itn os j p)]).length<M+1 - (List.map V.int (itl os p j)).length
        rw [List.length_append,List.length_map,qz]
        show M+1 - (j+1)<M+1 - j
        omega
    · have hw:kA os p j:=⟨j1,by by_cases z:itn os j p=p;exact z;exact absurd z c,hj⟩
      refine q _ _ k0 ht ?_
      unfold zG
      rw [hw.per]
      exact hH
noncomputable abbrev QW:Stmt:=top 18
theorem JT:zo ["order","seen","found","first","ring","place"] ["order"] (zg QW):=⟨rfl,rfl,rfl,by decide +kernel,rfl,by decide +kernel,by decide +kernel⟩
noncomputable def YG (K:PySem.W.Frag):Sp:=fun vs H Q _=>∃ (a:Addr) (n:Nat) (os:List Int),vs=[.ref a]/\(SqL K H a (os.map V.int) \/ SqT K H a (os.map V.int))/\zj n os/\n<=1000 /\
 ∀ p H' rs,Kp [] H H'->H p=none->H' p=some (.lst (rfs rs))->(∀ r ∈ rs,H r.1=none/\r.1 ≠ p/\H' r.1=some (il r.2))->rs.map (·.2)=zk os n->Q (.ref p) H'
theorem AQ (a:At K mg "rings" QW)(B:Blt mg)(D_ring_from:Df P w K mg base "ring_from" ["order","first"] 1 (wc K)):Df P w K mg base "rings" ["order"] 2 (YG K):=by
 refine jh (k:=1) a JT (fun _ _ _ _ _ _=>Pn1_ fun _=>rfl) (fun vs H Q E h=>?_) (fun f cdv A outer s H vs Q E hr h=>?_)
 ·obtain ⟨a,_,_,rfl,_⟩:=h;rfl
 obtain ⟨a,n,os,rfl,ha,ho,hn,q⟩:=h
 have sc:=JT
 have hsl:=hsl
 have ol:=ho.1
 refine ⟨_,(zc (zC (i:=1) sc.nd rfl (by first | exact Or.inl rfl | exact Or.inr rfl) (zu xg (qF (za jE zb)) (zt zp rfl B.len zZ (za (pv 0) zb))))
  (zc (zC (i:=2) sc.nd rfl (by first | exact Or.inl rfl | exact Or.inr rfl) (qF zb))
  (zc (qv PassesOwn.never rfl (qP rfl B.range (za (zt zp rfl B.len zZ (za (pv 0) zb)) zb)) (zx (i:=3) sc.nd rfl (by first | exact Or.inl rfl | exact Or.inr rfl)) (zd (zP (xD (jn (zF zS (pv 1) (pv 3) (fun _ _=>rfl)) (fun _=>rfl))) (zc (zC (i:=4) sc.nd rfl (by first | exact Or.inl rfl | exact Or.inr rfl) (zA D_ring_from hr rfl (za (pv 0) (za (pv 3) zb))))
  (zc (qv PassesOwn.never rfl (FZ (pv 4)) (zx (i:=5) sc.nd rfl (by first | exact Or.inl rfl | exact Or.inr rfl)) (zd (qk jE (qg (pv 1) (pv 5) zE))))
  (zd (zP (zn YD (zt zp rfl B.len zZ (za (pv 4) zb)) ze (zy _)) (zd (qQ (vt PySem.F.plainAttrs_list PySem.F.slot_list_append PySem.F.type_list_append xM (pv 2) (za (pv 4) zb)))) zB)))) zB)))
  (zd (zq (pv 2)))))),?_⟩
 rw [show start ["order","seen","found","first","ring","place"] [V.ref a]=[some (.ref a),none,none,none,none,none] from rfl]
 walk_at "rd"
 refine ⟨by show 1<=sizeLine;decide,fun pz hpz=>⟨_,JA ha (Kp.new _ hpz),_,zf,?_⟩⟩
 rw [List.length_map,ol,Int.toNat_natCast,QN]
 refine ⟨by omega,by omega,by show 1 * n<=sizeLine;omega,fun ps hps=>?_⟩
 refine ⟨Nat.zero_le _,fun pf hpf=>?_⟩
 have kH:=((Kp.new (bs:=[]) (HO.lst [V.bl false]) hpz).trans (Kp.new (HO.lst (List.replicate n (V.bl false))) hps)).trans (Kp.new (HO.lst []) hpf)
 have nps:H ps=none:=(Kp.new (bs:=[]) _ hpz).free hps
 have npf:H pf=none:=((Kp.new (bs:=[]) _ hpz).trans (Kp.new _ hps)).free hpf
 have hps0:=(Kp.new (bs:=[]) (HO.lst []) hpf) ps _ (by simp) (zf (H:=upd H pz (HO.lst [V.bl false])) (o:=HO.lst (List.replicate n (V.bl false))))
 have hpf0:=zf (H:=upd (upd H pz (HO.lst [V.bl false])) ps (HO.lst (List.replicate n (V.bl false)))) (a:=pf) (o:=HO.lst [])
 have nsf:ps ≠ pf:=zh zf hpf
 generalize upd (upd (upd H pz (HO.lst [V.bl false])) ps (HO.lst (List.replicate n (V.bl false)))) pf (HO.lst [])=H0 at *
 refine ⟨_,JA ha kH,?_⟩
 rw [List.length_map,ol]
 refine ⟨by omega,by omega,?_⟩
 rw [Int.toNat_natCast]
 refine yo (fun i τ G=>∃ (x3 x4 x5:Option V) (ss:List Bool) (rs:List (Addr × List Int)),τ=[some (.ref a),some (.ref ps),some (.ref pf),x3,x4,x5]/\Kp [ps,pf] H0 G/\G ps=some (.lst (ss.map V.bl))/\ss.length=n/\(∀ x:Nat,x<n->(ss.getD x false=true ↔ qp os i (x:Int)))/\G pf=some (.lst (rfs rs))/\(∀ r ∈ rs,H r.1=none/\r.1 ≠ pf/\r.1 ≠ ps/\G r.1=some (il r.2))/\rs.map (·.2)=zk os i) ?_ ?_ ?_
 ·refine ⟨none,none,none,List.replicate n false,[],rfl,Kp.refl,by rw [List.map_replicate];exact hps0,by simp,fun x hx=>?_,hpf0,fun r hr=>(nomatch hr),rfl⟩
  constructor
  ·intro z
   rw [List.getD_eq_getElem?_getD,List.getElem?_replicate,if_pos hx] at z
   cases z
  ·rintro ⟨q,hq,_⟩;omega
 ·rintro i τ G hi ⟨x3,x4,x5,ss,rs,rfl,kG,gs,ls,hs,gf,hr,er⟩
  have kHG:Kp [] H G:=Kp.un (Kp.un ((kH.mono (by simp)).trans kG) nps) npf
  obtain ⟨s1,s2⟩:=Zi (ss:=ss) (i:=i) (by omega)
  have lrs:rs.length<=i:=by
   have:=jk os i
   rw [<- er,List.length_map] at this
   exact this
  rw [Int.zero_add]
  walk_at "rd"
  refine ⟨_,SqL.of gs,_,s2,_,rfl,yw (fun c=>?_) (fun c=>?_)⟩
  ·have hns:¬ qp os i (i:Int):=by rw [<- hs i hi,c];simp
   refine ⟨a,n,os,i,rfl,JA ha kHG,ho,hn,by omega,by omega,fun t G1 k1 ht h1=>?_⟩
   have gs1:=k1 _ _ (by simp) gs
   have gf1:=k1 _ _ (by simp) gf
   obtain ⟨M,hM,hMn⟩:=ja ho (p:=(i:Int)) (by omega) (by omega)
   have hrl:(zG os (i:Int)).length=M:=by unfold zG;rw [qz,hM.per]
   have nts:t ≠ ps:=Ne.symm (zh gs ht)
   have ntf:t ≠ pf:=Ne.symm (zh gf ht)
   refine ⟨t,rfl,⟨_,SqL.of h1⟩,?_⟩
   refine FR (xs:=(zG os (i:Int)).map V.int) (fun j τ G'=>∃ (x5:Option V) (ss':List Bool),τ=[some (.ref a),some (.ref ps),some (.ref pf),some (.int (i:Int)),some (.ref t),x5]/\Kp [ps] G1 G'/\G' ps=some (.lst (ss'.map V.bl))/\ss'.length=n/\∀ x:Nat,x<n->(ss'.getD x false=true ↔ qp os i (x:Int) \/ (x:Int) ∈ (zG os (i:Int)).take j)) ?_ ?_ ?_ ?_
   ·exact ⟨x5,ss,rfl,Kp.refl,gs1,ls,fun x hx=>by rw [hs x hx];simp⟩
   ·rintro j τ G' _ ⟨_,ss',rfl,kp,_⟩
    exact SqL.of (kp _ _ (by simpa using nts) h1)
   ·rintro j x τ G' hx ⟨y5,ss',rfl,kp,gs',ls',hs'⟩
    obtain ⟨rfl,hj⟩:=jJ hx
    have hm:(zG os (i:Int)).getD j 0 ∈ zG os (i:Int):=by rw [zU hj];exact List.getElem_mem hj
    have hb:0<=(zG os (i:Int)).getD j 0/\(zG os (i:Int)).getD j 0<(n:Int):=by
     obtain ⟨k,_,e⟩:=qw.mp hm
     rw [<- e]
     exact qU ho (by omega) (by omega) k
    have htk:(zG os (i:Int)).take (j+1)=(zG os (i:Int)).take j ++ [(zG os (i:Int)).getD j 0]:=by
     rw [zU hj];exact (List.take_append_getElem hj).symm
    generalize (zG os (i:Int)).getD j 0=v at *
    obtain ⟨vn,rfl⟩:∃ vn:Nat,v=vn:=⟨v.toNat,by omega⟩
    obtain ⟨g1,g2⟩:=Zi (ss:=ss') (i:=vn) (by omega)
    walk_at "rd"
    refine ⟨_,gs',vn,g1,kp.trans (Kp.set _ (by simp)),ss'.set vn true,zf.trans (congrArg some (congrArg HO.lst (by rw [List.map_set]))),by rw [List.length_set];exact ls',fun x hx=>?_⟩
    rw [Vp (by omega),htk,List.mem_append,List.mem_singleton]
    by_cases e:x=vn
    ·subst e;rw [if_pos rfl];simp
    ·have e':¬ ((x:Int)=(vn:Int)):=by omega
     rw [if_neg e,hs' x hx]
     simp [e']
   ·rintro τ G' ⟨y5,ss',rfl,kp,gs',ls',hs'⟩
    rw [List.length_map,List.take_length] at hs'
    have h1':=kp _ _ (by simpa using nts) h1
    have gf':=kp _ _ (by simpa using Ne.symm nsf) gf1
    have hs'':∀ x:Nat,x<n->(ss'.getD x false=true ↔ qp os (i+1) (x:Int)):=fun x hx=>by
     rw [hs' x hx,qp.succ,Rch.mem_ring hM]
     unfold zG
     rw [hM.per]
    have kp2:Kp [ps,pf] H0 G':=(kG.trans (k1.mono (by simp))).trans (kp.mono (by simp))
    have hr':∀ r ∈ rs,H r.1=none/\r.1 ≠ pf/\r.1 ≠ ps/\G' r.1=some (il r.2):=fun r hr0=>by
     obtain ⟨z1,z2,z3,z4⟩:=hr r hr0
     exact ⟨z1,z2,z3,kp _ _ (by simpa using z3) (k1 _ _ (by simp) z4)⟩
    have hL:j3 os i:=jS.mpr hns
    walk_at "rd"
    refine ⟨_,.inl (SqL.of h1'),yw (fun c1=>?_) (fun c1=>?_)⟩
    ·have hpe:1<per os (i:Int):=by rw [hM.per];rw [List.length_map,hrl] at c1;omega
     refine ⟨.inl ⟨rfl,_,SqL.of gf'⟩,_,gf',by unfold rfs;rw [List.length_map];omega,⟨_,rfl⟩,kp2.trans (Kp.set _ (by simp)),ss',(zm nsf).trans gs',ls',hs'',rs ++ [(t,zG os (i:Int))],?_,fun r hr0=>?_,?_⟩
     ·refine zf.trans (congrArg some (congrArg HO.lst ?_))
      unfold rfs;rw [List.map_append];rfl
     ·rcases List.mem_append.mp hr0 with z | z
      ·obtain ⟨z1,z2,z3,z4⟩:=hr' r z
       exact ⟨z1,z2,z3,(zm z2).trans z4⟩
      ·rw [List.mem_singleton.mp z]
       exact ⟨kHG.free ht,ntf,nts,(zm ntf).trans h1'⟩
     ·show _=zk os i ++ _
      rw [if_pos ⟨hL,hpe⟩,List.map_append,er]
      rfl
    ·have hpe:¬ 1<per os (i:Int):=by rw [hM.per];rw [List.length_map,hrl] at c1;omega
     refine ⟨⟨_,rfl⟩,kp2,ss',gs',ls',hs'',rs,gf',hr',?_⟩
     show _=zk os i ++ _
     rw [if_neg (fun z=>hpe z.2),List.append_nil,er]
  ·have hsi:qp os i (i:Int):=(hs i hi).mp (by cases z:ss.getD i false with | true=>rfl | false=>exact absurd z c)
   refine ⟨kG,ss,gs,ls,fun x hx=>by rw [hs x hx,qp.step ho hi hsi],rs,gf,hr,?_⟩
   show _=zk os i ++ _
   rw [if_neg (fun z=>jS.mp z.1 hsi),List.append_nil,er]
 ·rintro τ G ⟨x3,x4,x5,ss,rs,rfl,kG,gs,ls,hs,gf,hr,er⟩
  have kHG:Kp [] H G:=Kp.un (Kp.un ((kH.mono (by simp)).trans kG) nps) npf
  walk_at "rd"
  exact q _ _ rs kHG npf gf (fun r hr0=>⟨(hr r hr0).1,(hr r hr0).2.1,(hr r hr0).2.2.2⟩) er
noncomputable def Gy:ASp:=fun xs M Q=>∃ (b:Addr) (many:Int) (N:Nat),xs=[.ref b,.d (.int many)]/\BxM M b N/\N<1000000000/\0<many/\many<1073741824/\∀ r M',BxS M M' b (N+1)->0<=r->r<many->Q (.d (.int r)) M'
theorem E5 (vs:List V)(H:Hp)(Q:VK)(E:XK)(h:cSp Gy vs H Q E):yb vs H Q E:=by
 obtain ⟨xs,M,O,Q',w,r,⟨b,many,N,rfl,hb,h1,h2,h3,q⟩,k⟩:=h
 obtain ⟨v,u,rfl,rv,ru⟩:=kW r
 rw [zN ru,rv.1]
 refine ⟨b,many,N,rfl,hb.bx w,h1,h2,h3,fun r H' kp hb' r0 r1=>?_⟩
 obtain ⟨M',s,e,w'⟩:=KL w hb kp hb'
 exact k _ _ _ _ _ (q r M' s r0 r1) e w' .int
noncomputable def LX:ASp:=fun xs M Q=>∃ (x:AV) (k:Int) (cs:List Int),xs=[x,.d (.int k)]/\qC x M=some (cs.map fun i=>.d (.int i))/\0<=k/\k<=1000/\cs.length<=1000/\∀ p o,M p=none->BxM (mup M p o) p 0->Q (.ref p) (mup M p o)
theorem HH (vs:List V)(H:Hp)(Q:VK)(E:XK)(h:cSp LX vs H Q E):G6 vs H Q E:=by
 obtain ⟨xs,M,O,Q',w,r,⟨x,n,cs,rfl,hx,h1,h2,h3,q⟩,k⟩:=h
 obtain ⟨v,u,rfl,rv,ru⟩:=kW r
 rw [zN ru]
 obtain ⟨a,rfl,ha⟩:=DN w rv hx
 refine ⟨a,n,cs,rfl,ha,h1,h2,h3,fun p H' kp hp hb'=>?_⟩
 obtain ⟨x',y',z',g1,g2⟩:=hb'
 obtain ⟨e1,w1⟩:=Qi w kp
 have fr:=w.fresh hp
 have e2:=Ext.owned (O':=Wg O p) (p:=p) w ⟨fun a o h e=>⟨(e1.fix a o h e).1,fun z=>z.elim (zh e hp) h⟩,fun a h e=>⟨(e1.prv a h e).1,.inr h,e⟩,fun _ h=>h⟩ hp (.lst ([x',y',z'].map fun i=>.d (.int i)))
 refine k _ _ _ _ _ (q p _ fr.2 ⟨x',y',z',zl,g2⟩) e2 (Kl (O:=Wg O p) (xs:=[V.int x',V.int y',V.int z']) ⟨fun a o h=>?_,fun a h=>.inr (w1.own a h),fun a h=>?_⟩ (.inl rfl) fr.2 g1 (KC [x',y',z'])) ⟨rfl,by rw [zl];exact fun z=>nomatch z⟩
 ·have e3:Ext H O M H' (Wg O p) M:=⟨fun a o h e=>⟨(e1.fix a o h e).1,fun z=>z.elim (zh e hp) h⟩,fun a h e=>⟨(e1.prv a h e).1,.inr h,e⟩,fun _ h=>h⟩
  refine jD.ext e3 ?_ (w.mo a o h)
  obtain ⟨u,hu,_⟩:=w.al a (w.own a (jI h))
  rw [hu];exact kp a u (by simp) hu
 ·rcases h with rfl | h
  ·exact ⟨_,g1,fun xs z=>nomatch z⟩
  ·exact w1.al a h
noncomputable def YR (K:PySem.W.Frag):ASp:=fun xs M Q=>∃ (m:Int) (ns:List Int),xs=[.d (.scr K ns),.d (.int m)]/\0<m/\m<=60/\ns.length<=63/\∀ cs:List Int,cs.length<=1000->Q (.d (.lst (cs.map .int))) M
theorem V9 (vs:List V)(H:Hp)(Q:VK)(E:XK)(h:cSp (YR K) vs H Q E):JS K vs H Q E:=by
 obtain ⟨xs,M,O,Q',w,r,⟨m,ns,rfl,h1,h2,h3,q⟩,k⟩:=h
 obtain ⟨v,u,rfl,rv,ru⟩:=kW r
 rw [zN ru]
 obtain ⟨a,rfl,ha⟩:=FP rv
 refine ⟨a,m,ns,rfl,ha,h1,h2,h3,fun p H' cs kp hp hc lc=>?_⟩
 obtain ⟨e1,w1⟩:=Qi w kp
 exact k _ _ _ _ _ (q cs lc) e1 w1 (yq (w.fresh hp).1 hc)
noncomputable def Yr:ASp:=fun xs M Q=>∃ (b:Addr) (m:Int) (N:Nat),xs=[.ref b,.d (.int m)]/\BxM M b N/\N<100000000/\24<=m/\m<=1000/\∀ r M',BxS M M' b (N+10)->0<=r->r<=m->Q (.d (.int r)) M'
theorem VX (vs:List V)(H:Hp)(Q:VK)(E:XK)(h:cSp Yr vs H Q E):JB vs H Q E:=by
 obtain ⟨xs,M,O,Q',w,r,⟨b,many,N,rfl,hb,h1,h2,h3,q⟩,k⟩:=h
 obtain ⟨v,u,rfl,rv,ru⟩:=kW r
 rw [zN ru,rv.1]
 refine ⟨b,many,N,rfl,hb.bx w,h1,h2,h3,fun r H' kp hb' r0 r1=>?_⟩
 obtain ⟨M',s,e,w'⟩:=KL w hb kp hb'
 exact k _ _ _ _ _ (q r M' s r0 r1) e w' .int
noncomputable def AU:ASp:=fun xs M Q=>∃ (b:Addr) (n N:Nat),xs=[.ref b,.d (.int n)]/\BxM M b N/\N<1000000/\n<=1000/\∀ os M',BxS M M' b (N+3000)->zj n os->Q (.d (.lst (os.map .int))) M'
theorem WZ (vs:List V)(H:Hp)(Q:VK)(E:XK)(h:cSp AU vs H Q E):Y1 vs H Q E:=by
 obtain ⟨xs,M,O,Q',w,r,⟨b,n,N,rfl,hb,h1,h2,q⟩,k⟩:=h
 obtain ⟨v,u,rfl,rv,ru⟩:=kW r
 rw [zN ru,rv.1]
 refine ⟨b,n,N,rfl,hb.bx w,h1,h2,fun p H' ns kp hp hb' hq ho=>?_⟩
 obtain ⟨M',s,e,w'⟩:=KL w hb kp hb'
 exact k _ _ _ _ _ (q ns M' s ho) e w' (yq (w.fresh hp).1 hq)
noncomputable def xw:ASp:=fun xs M Q=>∃ (x:AV) (n:Nat) (os:List Int),xs=[x]/\zW x M=some (os.map fun i=>.d (.int i))/\zj n os/\n<=1000/\Q (.d (.lst ((zk os n).map ilD))) M
theorem An (vs:List V)(H:Hp)(Q:VK)(E:XK)(h:cSp xw vs H Q E):YG K vs H Q E:=by
 obtain ⟨xs,M,O,Q',w,r,⟨x,n,os,rfl,hx,ho,hn,q⟩,k⟩:=h
 obtain ⟨v,rfl,rv⟩:=jV r
 obtain ⟨a,rfl,ha⟩:=Bf w rv hx
 refine ⟨a,n,os,rfl,ha.elim (fun h=>.inl (SqL.of h)) (fun h=>.inr (SqT.of h)),ho,hn,fun p H' rs kp hp h1 h2 er=>?_⟩
 obtain ⟨e1,w1⟩:=Qi w kp
 refine k _ _ _ _ _ q e1 w1 (Rep.lst (w.fresh hp).1 h1 (by rw [<- er];unfold rfs;simp) fun i x d i1 i2=>?_)
 rw [<- er] at i2
 unfold rfs at i1
 rw [List.getElem?_map] at i1 i2
 rw [List.getElem?_map] at i2
 cases e:rs[i]? with
 | none=>rw [e] at i1;cases i1
 | some y=>
  rw [e] at i1 i2
  cases i1;cases i2
  have:=h2 y (List.mem_of_getElem? e)
  exact yq (w.fresh this.1).1 this.2.2
noncomputable def deD:De->Dat
 | .swap a b=>.tup [.str (Str.ofString "swap"),.int (a:Int),.int (b:Int)]
 | .take p=>.tup [.str (Str.ofString "take"),.int (p:Int)]
 | .move p g=>.tup [.str (Str.ofString "move"),.int (p:Int),.int (g:Int)]
 | .lay g=>.tup [.str (Str.ofString "lay"),.int (g:Int)]
noncomputable def cD:Option Int->Dat
 | none=>.non
 | some x=>.int x
theorem IE {H:Hp}{O:Own}(c:Option Int):Rep H O (cE c) (cD c):=by cases c;exact .non;exact .int
theorem F4 {H:Hp}{O:Own}{v:V}{l:List Dat}(r:Rep H O v (.tup l)):∃ a xs,v=.ref a/\H a=some (.tup xs)/\zi H O (fun _=>none) xs (l.map .d):=jO (M:=fun _=>none) (x:=.d (.tup l)) r rfl
theorem Ba {H:Hp}{O:Own}{v:V}{d:De}(r:Rep H O v (deD d)):∃ a,v=.ref a/\H a=some (.tup (deV d)):=by
  cases d <;>
  · obtain ⟨a,xs,rfl,h,rr⟩:=F4 r
    refine ⟨a,rfl,?_⟩
    rw [h]
    simp only [List.map_cons,List.map_nil] at rr
    first
      | (obtain ⟨v1,r',rfl,a1,r2⟩:=rr.cons_inv
         obtain ⟨v2,r',rfl,a2,r3⟩:=r2.cons_inv
         obtain ⟨v3,r',rfl,a3,r4⟩:=r3.cons_inv
         rw [r4.nil_inv,vQ a1,zN a2,zN a3];rfl)
      | (obtain ⟨v1,r',rfl,a1,r2⟩:=rr.cons_inv
         obtain ⟨v2,r',rfl,a2,r3⟩:=r2.cons_inv
         rw [r3.nil_inv,vQ a1,zN a2];rfl)
theorem Yl {H:Hp}{O:Own}{M:MH}:∀ {ds:List De} {xs:List V},zi H O M xs ((ds.map deD).map .d)->∃ qs:List (Addr × De),xs=tfs (deP qs)/\qs.map (·.2)=ds/\∀ q ∈ qs,H q.1=some (.tup (deV q.2))
 | [],xs,r=>⟨[],r.nil_inv,rfl,fun q hq=>nomatch hq⟩
 | d :: ds,xs,r=>by
  obtain ⟨v,r',rfl,a1,r2⟩:=r.cons_inv
  obtain ⟨a,rfl,ha⟩:=Ba a1
  obtain ⟨qs,rfl,rfl,hq⟩:=Yl r2
  exact ⟨(a,d) :: qs,rfl,rfl,fun q h=>by
   rcases List.mem_cons.mp h with rfl | h
   ·exact ha
   ·exact hq q h⟩
theorem ZT {H:Hp}{O:Own}{p:Addr}{xs:List V}{l:List Dat}(ho:¬ O p)(h:H p=some (.tup xs))(r:zi H O (fun _=>none) xs (l.map .d)):Rep H O (.ref p) (.tup l):=Rep.tup ho h r.pure.1 r.pure.2
noncomputable def Yz:ASp:=fun xs M Q=>∃ (n:Nat) (x:AV) (ds:List De) (t:ES) (ms:List Int),xs=[.d (.int n),x]/\zW x M=some ((ds.map deD).map .d)/\xQ ds (jR n) t (List.replicate n 0) ms/\n<=1000/\ds.length<=10000 /\
 (∀ h,t.2=some h->Q (.d (.tup [.str (Str.ofString "open"),.tup (t.1.map cD),.int h,.tup (ms.map .int)])) M) /\
 (∀ os,t.2=none->t.1=os.map some->Q (.d (.tup [.str (Str.ofString "done"),ilD (jf os 0 (List.replicate os.length 0)),.tup (ms.map .int)])) M)
theorem WB (vs:List V)(H:Hp)(Q:VK)(E:XK)(h:cSp Yz vs H Q E):J7 vs H Q E:=by
 obtain ⟨xs,M,O,Q',w,r,⟨n,x,ds,t,ms,rfl,hx,hdo,hn,hl,q1,q2⟩,k⟩:=h
 obtain ⟨v,u,rfl,rv,ru⟩:=kW r
 rw [zN rv]
 obtain ⟨a,ys,rfl,ha,ra⟩:=QD w ru hx
 obtain ⟨qs,rfl,rfl,hqs⟩:=Yl ra
 rw [List.length_map] at hl
 refine ⟨n,a,qs,t,ms,rfl,ha,hqs,hdo,hn,hl,fun p pm H' kp hpm=>?_⟩
 obtain ⟨e1,w1⟩:=Qi w kp
 refine ⟨fun pr h eh hpr hp=>?_,fun pb os eh eo hpb npb hp=>?_⟩
 ·refine k _ _ _ _ _ (q1 h eh) e1 w1 (ZT (w1.tup hp) hp (.cons .str (.cons ?_ (.cons .int (.cons (ZS (w1.tup hpm) hpm) .nil)))))
  refine Rep.tup (w1.tup hpr) hpr (by simp) fun i x d i1 i2=>?_
  rw [List.getElem?_map] at i1 i2
  cases e:t.1[i]? with
  | none=>rw [e] at i1;cases i1
  | some c=>rw [e] at i1 i2;cases i1;cases i2;exact IE c
 ·exact k _ _ _ _ _ (q2 os eh eo) e1 w1 (ZT (w1.tup hp) hp (.cons .str (.cons (yq (w.fresh npb).1 hpb) (.cons (ZS (w1.tup hpm) hpm) .nil))))
theorem vY {n:Nat}{os:List Int}(h:zj n os){r:List Int}:∀ {i:Nat},i<=n->r ∈ zk os i->∀ x ∈ r,0<=x/\x<(n:Int)
 | 0,_,hr=>by simp [zk] at hr
 | i+1,hi,hr=>by
  unfold zk at hr
  rcases List.mem_append.mp hr with z | z
  ·exact vY h (by omega) z
  ·by_cases c:j3 os i/\1<per os (i:Int)
   ·rw [if_pos c] at z
    rw [List.mem_singleton.mp z]
    intro x hx
    obtain ⟨k,_,e⟩:=qw.mp hx
    rw [<- e]
    exact qU h (by omega) (by omega) k
   ·rw [if_neg c] at z;cases z
theorem Kt {n:Nat}{os:List Int}(h:zj n os){r:List Int}(hr:r ∈ zk os n):∀ x ∈ r,0<=x:=fun x hx=>(vY h (Nat.le_refl n) hr x hx).1
theorem yi {α β:Type}(f:α->List β)(l:List α)(i:Nat):(((l.take i).map f).flatten).length<=((l.map f).flatten).length:=by
 have e:(l.map f).flatten=((l.take i).map f).flatten ++ ((l.drop i).map f).flatten:=by
  rw [<- List.flatten_append,<- List.map_append,List.take_append_drop]
 rw [e,List.length_append];omega
theorem xF {α β:Type}{f:α->List β}{g:α->Nat}:∀ (rs:List α),(∀ r ∈ rs,(f r).length=g r)->((rs.map f).flatten).length=(rs.map g).sum
 | [],_=>rfl
 | r :: rs,h=>by
  rw [List.map_cons,List.flatten_cons,List.length_append,xF rs fun x hx=>h x (by simp [hx]),h r (by simp)];rfl
theorem vM:∀ (ps:List Nat) (g:Nat),(mvP g ps).length=ps.length
 | [],_=>rfl
 | p :: ps,g=>by show (mvP p ps).length+1=_;rw [vM ps p];rfl
theorem WM {c:List Nat}(h:1<=c.length):(jb c).length=c.length+1:=by
 unfold jb
 rw [List.length_append,List.length_cons,vM,List.length_reverse,List.length_drop]
 show _+1+1=_
 omega
theorem Jt:∀ (rs:List (List Int)),(rs.map fun r=>r.length+1).sum=vE rs+rs.length
 | []=>rfl
 | r :: rs=>by
  have:=Jt rs
  unfold vE at *
  simp only [List.map_cons,List.sum_cons,List.length_cons] at *
  omega
theorem Ja:∀ (rs:List (List Int)),(∀ r ∈ rs,1<=r.length)->(rs.map fun r=>r.length - 1).sum+rs.length=vE rs
 | [],_=>rfl
 | r :: rs,h=>by
  have:=Ja rs fun x hx=>h x (by simp [hx])
  have h1:=h r (by simp)
  unfold vE at *
  simp only [List.map_cons,List.sum_cons,List.length_cons] at *
  omega
theorem D8 (os:List Int)(n:Nat):yN os n<=n:=by
 have:=List.length_filter_le (fun (i:Nat)=>!decide (os.getD i 0=(i:Int))) (List.range n)
 rw [List.length_range] at this
 exact this
theorem Zh {n:Nat}{os:List Int}(h:zj n os):(qV os n).length=yN os n+(zk os n).length:=by
 unfold qV
 rw [xF (g:=fun r=>r.length+1),Jt,J5 h]
 intro r hr
 have:=qu h (Nat.le_refl n) hr
 rw [WM (by rw [List.length_map];omega),List.length_map]
theorem ZR {n:Nat}{os:List Int}(h:zj n os):(qy os n).length+(zk os n).length=yN os n:=by
 unfold qy
 rw [xF (g:=fun r=>r.length - 1),Ja,J5 h]
 ·intro r hr
  have:=qu h (Nat.le_refl n) hr;omega
 ·intro r _
  unfold zQ
  rw [List.length_map,List.length_drop,List.length_map]
noncomputable abbrev kX:Stmt:=top 25
theorem xS:zo ["ring","deeds","goal","place"] ["ring"] (zg kX):=⟨rfl,rfl,rfl,by decide +kernel,rfl,by decide +kernel,by decide +kernel⟩
noncomputable def ddD (d:Dd):Dat:=deD (J2 d)
noncomputable def Za:ASp:=fun xs M Q=>∃ r:List Int,xs=[.d (ilD r)]/\(∀ x ∈ r,0<=x)/\1<=r.length/\r.length<=1000/\Q (.d (.lst ((jb (r.map Int.toNat)).map ddD))) M
theorem Kq:∀ (ps:List Nat) (g p:Nat),mvP g (ps ++ [p])=mvP g ps ++ [.move p (ps.getLastD g)]
 | [],_,_=>rfl
 | q :: ps,g,p=>by
  show Dd.move q g :: mvP q (ps ++ [p])=_
  rw [Kq ps q p,show (q :: ps).getLastD g=ps.getLastD q by simp [List.getLastD_eq_getLast?,List.getLast?_cons]];rfl
theorem Wo {ps:List Nat}{g p:Nat}:(ps ++ [p]).getLastD g=p:=by simp [List.getLastD_eq_getLast?]
theorem Zp (a:At K mg "round_ring" kX)(B:Blt mg):Df P w K mg base "round_ring" ["ring"] 1 (cSp Za):=by
 refine dfA (k:=0) a xS (fun _ _ _ _ _ _=>Pn1_ fun _=>rfl) (fun xs M Q h=>?_) (fun f cdv A outer s H E hr=>?_)
 ·obtain ⟨_,rfl,_⟩:=h;rfl
 have sc:=xS
 have hsl:=hsl
 refine ⟨_,(zc (zC (i:=1) sc.nd rfl (by first | exact Or.inl rfl | exact Or.inr rfl) (kS (qF (za (jl (za qM (za (zF qm (pv 0) ze (fun _ _=>rfl)) zb))) zb))))
  (zc (zC (i:=2) sc.nd rfl (by first | exact Or.inl rfl | exact Or.inr rfl) (zF qm (pv 0) ze (fun _ _=>rfl)))
  (zc (qv PassesOwn.never rfl (ju (V4 (pv 0) kK (jq ze) (jq (Ec X6 ze)))) (zx (i:=3) sc.nd rfl (by first | exact Or.inl rfl | exact Or.inr rfl)) (zc (qQ (vt PySem.F.plainAttrs_list PySem.F.slot_list_append PySem.F.type_list_append xM (pv 1) (za (jl (za qM (za (pv 3) (za (pv 2) zb)))) zb)))
  (zd (zC (i:=2) sc.nd rfl (by first | exact Or.inl rfl | exact Or.inr rfl) (pv 3)))))
  (zc (qQ (vt PySem.F.plainAttrs_list PySem.F.slot_list_append PySem.F.type_list_append xM (pv 1) (za (jl (za qM (za (pv 2) zb))) zb)))
  (zd (zq (pv 1))))))),?_⟩
 refine ex2 (by walk_at "sim") ?_
 rintro xs M Q ⟨r,rfl,hr0,hc1,hc2,q⟩
 rw [show qc ["ring","deeds","goal","place"] [.d (ilD r)]=[some (.d (ilD r)),none,none,none] from rfl]
 walk_at "ra"
 have h0:=kh (ns:=r) (i:=0) (by omega) (by omega)
 rw [Int.toNat_zero] at h0
 rw [h0]
 walk_at "ra"
 have hg0:0<=r.getD 0 0:=by rw [List.getD_eq_getElem?_getD,List.getElem?_eq_getElem (by omega)];exact hr0 _ (List.getElem_mem _)
 refine ⟨by omega,by omega,fun p hp _=>⟨by decide,?_⟩⟩
 rw [YJ,VC]
 walk_at "ra"
 have hps:∀ i x,((r.drop 1).reverse.map fun i=>AV.d (.int i))[i]?=some x->∃ y:Nat,((r.map Int.toNat).drop 1).reverse[i]?=some y/\x=AV.d (.int (y:Int)):=fun i x hx=>by
  rw [List.getElem?_map] at hx
  rw [<- List.map_drop,<- List.map_reverse]
  cases e:(r.drop 1).reverse[i]? with
  | none=>rw [e] at hx;cases hx
  | some z=>
   rw [e] at hx
   cases hx
   have:z ∈ r:=List.mem_of_mem_drop (List.mem_reverse.mp (List.mem_of_getElem? e))
   exact ⟨z.toNat,by rw [List.getElem?_map,e];rfl,by rw [Int.toNat_of_nonneg (hr0 z this)]⟩
 generalize hps':((r.map Int.toNat).drop 1).reverse=ps at hps
 have lps:((r.drop 1).reverse.map fun i=>AV.d (.int i)).length=ps.length:=by rw [<- hps'];simp
 have lps2:ps.length<=1000:=by rw [<- hps'];simp;omega
 have e0:(r.map Int.toNat).getD 0 0=(r.getD 0 0).toNat:=by
  rw [List.getD_eq_getElem?_getD,List.getElem?_map,List.getD_eq_getElem?_getD]
  cases r[0]? <;> rfl
 generalize (r.drop 1).reverse.map (fun i=>AV.d (.int i))=its at hps lps
 refine ⟨fun i ρ M'=>∃ u,ρ=[some (.d (ilD r)),some (.ref p),some (.d (.int ((ps.take i).getLastD (r.getD 0 0).toNat:Nat))),u]/\M'=mup M p (.lst (((Dd.take (r.getD 0 0).toNat :: mvP (r.getD 0 0).toNat (ps.take i)).map ddD).map .d)),⟨none,?_,?_⟩,?_,?_⟩
 ·show _=[_,_,some (AV.d (.int ((r.getD 0 0).toNat:Int))),_]
  rw [Int.toNat_of_nonneg hg0]
 ·show _=mup M p (.lst [.d (.tup [.str (Str.ofString "take"),.int ((r.getD 0 0).toNat:Int)])])
  rw [Int.toNat_of_nonneg hg0]
 ·rintro i x ρ M' hx ⟨u,rfl,rfl⟩
  obtain ⟨y,hy,rfl⟩:=hps i x hx
  have tk:ps.take (i+1)=ps.take i ++ [y]:=by rw [List.take_add_one,hy];rfl
  have hi:=(List.getElem?_eq_some_iff.mp hy).1
  walk_at "ra"
  refine ⟨⟨_,kC zl⟩,by omega,_,zl,?_,?_⟩
  ·simp only [List.length_map,List.length_cons,vM,List.length_take];omega
  ·refine ⟨by rw [tk,Wo],?_⟩
   rw [tk,Kq,List.map_append,List.map_append];rfl
 ·rintro ρ M' ⟨u,rfl,rfl⟩
  rw [lps,List.take_length]
  walk_at "ra"
  refine ⟨⟨_,kC zl⟩,by omega,_,zl,?_,?_⟩
  ·simp only [List.length_map,List.length_cons,vM];omega
  ·refine ⟨_,_,yp (Fr.refl.mup hp _) hp zl (ds:=(jb (r.map Int.toNat)).map ddD) ?_,q⟩
   rw [<- qd,jb,e0,hps',List.map_append,List.map_append];rfl
noncomputable abbrev yc:Stmt:=top 26
theorem vo:zo ["order","plan","ring"] ["order"] (zg yc):=⟨rfl,rfl,rfl,by decide +kernel,rfl,by decide +kernel,by decide +kernel⟩
noncomputable def Ju:ASp:=fun xs M Q=>∃ (x:AV) (n:Nat) (os:List Int),xs=[x]/\zW x M=some (os.map fun i=>.d (.int i))/\zj n os/\n<=1000/\Q (.d (.lst ((qV os n).map ddD))) M
theorem JG (a:At K mg "by_rings" yc)(B:Blt mg)(D_rings:Df P w K mg base "rings" ["order"] 2 (cSp xw))(D_round_ring:Df P w K mg base "round_ring" ["ring"] 2 (cSp Za)):Df P w K mg base "by_rings" ["order"] 3 (cSp Ju):=by
 refine dfA (k:=2) a vo (fun _ _ _ _ _ _=>Pn1_ fun _=>rfl) (fun xs M Q h=>?_) (fun f cdv A outer s H E hr=>?_)
 ·obtain ⟨_,_,_,rfl,_⟩:=h;rfl
 have sc:=vo
 have hsl:=hsl
 refine ⟨_,(zc (zC (i:=1) sc.nd rfl (by first | exact Or.inl rfl | exact Or.inr rfl) (kS (qF zb)))
  (zc (qv PassesOwn.never rfl (ju (zA D_rings hr rfl (za (pv 0) zb))) (zx (i:=2) sc.nd rfl (by first | exact Or.inl rfl | exact Or.inr rfl)) (zd (qQ (vt PySem.F.plainAttrs_list PySem.F.slot_list_extend PySem.F.type_list_extend Vu (pv 1) (za (zA D_round_ring hr rfl (za (pv 2) zb)) zb)))))
  (zd (zq (pv 1))))),?_⟩
 refine ex2 (by walk_at "sim") ?_
 rintro xs M Q ⟨x,n,os,rfl,hx,ho,hn,q⟩
 rw [show qc ["order","plan","ring"] [x]=[some x,none,none] from rfl]
 walk_at "ra"
 intro p hp _
 refine ⟨x,n,os,rfl,Bt hx hp _,ho,hn,_,rfl,?_⟩
 have hlen:∀ i,(((((zk os n).take i).map fun r=>jb (r.map Int.toNat)).flatten).length)<=2000:=fun i=>by
  have h1:=yi (fun r:List Int=>jb (r.map Int.toNat)) (zk os n) i
  have h2:=Zh ho
  have h3:=D8 os n
  have h4:=jk os n
  unfold qV at h2
  omega
 refine ⟨fun i ρ M'=>∃ u,ρ=[some x,some (.ref p),u]/\M'=mup M p (.lst ((((((zk os n).take i).map fun r=>jb (r.map Int.toNat)).flatten).map ddD).map .d)),⟨none,rfl,rfl⟩,?_,?_⟩
 ·rintro i y ρ M' hy ⟨u,rfl,rfl⟩
  rw [List.getElem?_map,List.getElem?_map] at hy
  cases e:(zk os n)[i]? with
  | none=>rw [e] at hy;cases hy
  | some r=>
   rw [e] at hy
   cases hy
   have hm:=List.mem_of_getElem? e
   have hrl:=qu ho (Nat.le_refl n) hm
   have tk:(zk os n).take (i+1)=(zk os n).take i ++ [r]:=by rw [List.take_add_one,e];rfl
   have l1:=hlen i
   have l2:=hlen (i+1)
   rw [tk,List.map_append,List.flatten_append,List.length_append] at l2
   walk_at "ra"
   refine ⟨⟨_,kC zl⟩,r,rfl,Kt ho hm,by omega,by omega,_,zl,_,rfl,?_,?_⟩
   ·simp only [List.length_map] at *
    have:([jb (r.map Int.toNat)].flatten).length=(jb (r.map Int.toNat)).length:=by simp
    simp only [List.map_cons,List.map_nil] at l2
    omega
   ·rw [xL,tk,List.map_append,List.flatten_append,List.map_append,List.map_append]
    simp
 ·rintro ρ M' ⟨u,rfl,rfl⟩
  rw [List.length_map,List.length_map,List.take_length]
  walk_at "ra"
  exact ⟨_,_,yp (Fr.refl.mup hp _) hp zl (qd _),q⟩
noncomputable abbrev xZ:Stmt:=top 27
theorem vh:zo ["order","ring","place"] ["order"] (zg xZ):=⟨rfl,rfl,rfl,by decide +kernel,rfl,by decide +kernel,by decide +kernel⟩
noncomputable def B8 (s:Nat × Nat):Dat:=deD (swD s)
noncomputable def Jk:ASp:=fun xs M Q=>∃ (x:AV) (n:Nat) (os:List Int),xs=[x]/\zW x M=some (os.map fun i=>.d (.int i))/\zj n os/\n<=1000/\Q (.d (.lst ((qy os n).map B8))) M
theorem Ka (a:At K mg "by_swaps" xZ)(B:Blt mg)(D_rings:Df P w K mg base "rings" ["order"] 2 (cSp xw)):Df P w K mg base "by_swaps" ["order"] 3 (cSp Jk):=by
 refine dfA (k:=2) a vh (fun _ _ _ _ _ _=>Pn1_ fun _=>rfl) (fun xs M Q h=>?_) (fun f cdv A outer s H E hr=>?_)
 ·obtain ⟨_,_,_,rfl,_⟩:=h;rfl
 have sc:=vh
 have hsl:=hsl
 refine ⟨_,(zd (zq (W1 (ts:=[1,2]) rfl rfl (ju (zA D_rings hr rfl (za (pv 0) zb))) (fun _ _ _ _=>(zx (i:=1) sc.nd rfl (by first | exact Or.inl rfl | exact Or.inr rfl))) (fun _ _ _ _=>qG) (fun _ _ _ _ _=>(FU rfl rfl (by intro _ e;cases e <;> rfl) (IB (K:=K) rfl (jT (BD (K:=K) rfl) (pv 1) (jq ze) kK)) (fun _=>rfl) (zx (i:=2) sc.nd rfl (by first | exact Or.inl rfl | exact Or.inr rfl)) qG (Em rfl (jl (za qM (za (zF (xY (K:=K) rfl) (pv 1) ze (fun _ _=>rfl)) (za (pv 2) zb)))) (fun _ _ z=>z)) (fun _ _ z=>z)))))),?_⟩
 refine ex2 (by walk_at "sim") ?_
 rintro xs M Q ⟨x,n,os,rfl,hx,ho,hn,q⟩
 rw [show qc ["order","ring","place"] [x]=[some x,none,none] from rfl]
 walk_at "ra"
 refine ⟨x,n,os,rfl,hx,ho,hn,_,rfl,?_⟩
 have hlen:∀ i,(((((zk os n).take i).map fun r=>zQ (r.map Int.toNat)).flatten).length)<=2000:=fun i=>by
  have h1:=yi (fun r:List Int=>zQ (r.map Int.toNat)) (zk os n) i
  have h2:=ZR ho
  have h3:=D8 os n
  unfold qy at h2
  omega
 refine ⟨fun i acc ρ M'=>M=M'/\(∃ u v,ρ=[some x,u,v])/\acc=((((zk os n).take i).map fun r=>zQ (r.map Int.toNat)).flatten.map B8).map .d,⟨rfl,⟨_,_,rfl⟩,rfl⟩,?_,?_⟩
 ·rintro i y acc ρ M' hy ⟨rfl,⟨u,v,rfl⟩,rfl⟩
  rw [List.getElem?_map,List.getElem?_map] at hy
  cases e:(zk os n)[i]? with
  | none=>rw [e] at hy;cases hy
  | some r=>
   rw [e] at hy
   cases hy
   have hm:=List.mem_of_getElem? e
   have hrl:=qu ho (Nat.le_refl n) hm
   have hr0:=Kt ho hm
   have tk:(zk os n).take (i+1)=(zk os n).take i ++ [r]:=by rw [List.take_add_one,e];rfl
   have l2:=hlen (i+1)
   rw [tk,List.map_append,List.flatten_append,List.length_append,show ([r].map fun r=>zQ (r.map Int.toNat)).flatten=zQ (r.map Int.toNat) by simp] at l2
   have hg0:0<=r.getD 0 0:=by rw [List.getD_eq_getElem?_getD,List.getElem?_eq_getElem (by omega)];exact hr0 _ (List.getElem_mem _)
   have h0:=kh (ns:=r) (i:=0) (by omega) (by omega)
   rw [Int.toNat_zero] at h0
   have hst:zQ (r.map Int.toNat)=(r.drop 1).map fun x=>((r.getD 0 0).toNat,x.toNat):=by
    unfold zQ
    rw [<- List.map_drop,List.map_map]
    have:(r.map Int.toNat).getD 0 0=(r.getD 0 0).toNat:=by
     rw [List.getD_eq_getElem?_getD,List.getElem?_map,List.getD_eq_getElem?_getD]
     cases r[0]? <;> rfl
    rw [this];rfl
   walk_at "ra"
   rw [show (1:Int)=((1:Nat):Int) from rfl,ZM,<- List.map_drop]
   walk_at "ra"
   generalize hpre:List.map AV.d (List.map B8 (List.map (fun r=>zQ (List.map Int.toNat r)) (List.take i (zk os n))).flatten)=pre
   have lpre:pre.length+(r.drop 1).length<=2000:=by
    rw [<- hpre]
    simp only [List.length_map] at *
    rw [hst,List.length_map] at l2
    exact l2
   refine ⟨fun j acc ρ M'=>M=M'/\(∃ v,ρ=[some x,some (.d (ilD r)),v])/\acc=pre ++ (((r.drop 1).take j).map fun x=>((r.getD 0 0).toNat,x.toNat)).map (fun s=>AV.d (B8 s)),⟨rfl,⟨_,rfl⟩,(List.append_nil _).symm⟩,?_,?_⟩
   ·rintro j z acc ρ M' hz ⟨rfl,⟨v,rfl⟩,rfl⟩
    rw [List.getElem?_map] at hz
    cases ez:(r.drop 1)[j]? with
    | none=>rw [ez] at hz;cases hz
    | some t=>
     rw [ez] at hz
     cases hz
     have ht:0<=t:=hr0 t (List.mem_of_mem_drop (List.mem_of_getElem? ez))
     have tk2:(r.drop 1).take (j+1)=(r.drop 1).take j ++ [t]:=by rw [List.take_add_one,ez];rfl
     have hj:=(List.getElem?_eq_some_iff.mp ez).1
     walk_at "ra"
     rw [h0]
     walk_at "ra"
     refine ⟨by omega,by rw [List.length_append,List.length_map,List.length_map,List.length_take];omega,?_⟩
     rw [tk2,List.map_append,List.map_append,List.append_assoc]
     refine ⟨⟨_,rfl⟩,?_⟩
     show _=_ ++ (_ ++ [AV.d (.tup [_,.int ((r.getD 0 0).toNat:Int),.int (t.toNat:Int)])])
     rw [Int.toNat_of_nonneg hg0,Int.toNat_of_nonneg ht]
   ·rintro acc ρ M' ⟨rfl,⟨v,rfl⟩,rfl⟩
    refine ⟨trivial,rfl,⟨_,_,rfl⟩,?_⟩
    rw [List.length_map,List.take_length,tk,List.map_append,List.flatten_append,List.map_append,List.map_append,hpre,show ([r].map fun r=>zQ (r.map Int.toNat)).flatten=zQ (r.map Int.toNat) by simp,hst,List.map_map (g:=AV.d)]
    rfl
 ·rintro acc ρ M' ⟨rfl,_,rfl⟩
  rw [List.length_map,List.length_map,List.take_length]
  exact ⟨rfl,_,qd _,_,_,Jo Fr.refl _,q⟩
theorem Jw {n:Nat}{os:List Int}(h:zj n os){r:List Int}:∀ {i:Nat},i<=n->r ∈ zk os i->∃ k:Nat,k<i/\r=zG os (k:Int)/\1<per os (k:Int)/\j3 os k
 | 0,_,hr=>by simp [zk] at hr
 | i+1,hi,hr=>by
  unfold zk at hr
  rcases List.mem_append.mp hr with z | z
  ·obtain ⟨k,h1,h2⟩:=Jw h (by omega) z
   exact ⟨k,by omega,h2⟩
  ·by_cases c:j3 os i/\1<per os (i:Int)
   ·rw [if_pos c] at z
    exact ⟨i,by omega,List.mem_singleton.mp z,c.2,c.1⟩
   ·rw [if_neg c] at z;cases z
theorem BF {n:Nat}{os:List Int}(h:zj n os){r:List Int}(hr:r ∈ zk os n):r.Nodup:=by
 obtain ⟨k,h1,rfl,h3,h4⟩:=Jw h (Nat.le_refl n) hr
 obtain ⟨m,hm,_⟩:=ja h (p:=(k:Int)) (by omega) (by omega)
 unfold zG
 rw [hm.per]
 exact kl h (by omega) (by omega) hm
theorem F3 {n:Nat}{os:List Int}(h:zj n os){s:Nat × Nat}(hs:s ∈ qy os n):s.1<n/\s.2<n/\s.1 ≠ s.2:=by
 unfold qy at hs
 obtain ⟨l,hl,hs⟩:=List.mem_flatten.mp hs
 obtain ⟨r,hr,rfl⟩:=List.mem_map.mp hl
 have hb:=vY h (Nat.le_refl n) hr
 have nd:=BF h hr
 have hlen:=qu h (Nat.le_refl n) hr
 unfold zQ at hs
 obtain ⟨p,hp,rfl⟩:=List.mem_map.mp hs
 cases r with
 | nil=>simp at hlen
 | cons a l=>
  have hp:p ∈ l.map Int.toNat:=by simpa using hp
  obtain ⟨x,hx,rfl⟩:=List.mem_map.mp hp
  have ha:=hb a (by simp)
  have hx':=hb x (by simp [hx])
  refine ⟨?_,by omega,?_⟩
  ·show ((a :: l).map Int.toNat).getD 0 0<n
   show a.toNat<n
   omega
  ·show ((a :: l).map Int.toNat).getD 0 0 ≠ x.toNat
   show a.toNat ≠ x.toNat
   have:a ≠ x:=fun z=>(List.nodup_cons.mp nd).1 (by rw [z];exact hx)
   omega
theorem xQ.dosE {l:List De}{s t:ES}{m m':List Int}(h:xQ l s t m m'):xA l s t:=by
 induction h with
 | nil=>exact .nil
 | cons d _ ih=>exact .cons d ih
noncomputable abbrev rlb (f:Int->Int)(s:ES):ES:=(s.1.map (Option.map f),s.2.map f)
theorem DoE.rlb (f:Int->Int){d:De}{s t:ES}(h:DoE d s t):DoE d (rlb f s) (rlb f t):=by
 have g:∀ {row:List (Option Int)} {p:Nat} {v:Option Int},row[p]?=some v->(row.map (Option.map f))[p]?=some (v.map f):=fun e=>by rw [List.getElem?_map,e];rfl
 cases h with
 | swap ne h1 h2=>unfold Ot.rlb;rw [List.map_set,List.map_set];exact .swap ne (g h1) (g h2)
 | take h1=>unfold Ot.rlb;rw [List.map_set];exact .take (g h1)
 | move h1 h2=>unfold Ot.rlb;rw [List.map_set,List.map_set];exact .move (g h1) (g h2)
 | lay h1=>unfold Ot.rlb;rw [List.map_set];exact .lay (g h1)
theorem xA.rlb (f:Int->Int){l:List De}{s t:ES}(h:xA l s t):xA l (rlb f s) (rlb f t):=by
 induction h with
 | nil=>exact .nil
 | cons d _ ih=>exact .cons (d.rlb f) ih
theorem Vk (f:Int->Int)(T:List Int):rlb f (T.map some,none)=((T.map f).map some,none):=by
 unfold rlb
 simp only [List.map_map]
 rfl
theorem Fb (n:Nat)(f:Int->Int){T:List Int}(hT:T.length=n)(h:∀ i:Nat,i<n->f (i:Int)=T.getD i 0):(zJ 0 1 n).map f=T:=by
 refine Qp (by rw [List.length_map,zr,hT]) fun x hx=>?_
 rw [List.length_map,zr] at hx
 rw [List.getD_eq_getElem?_getD,List.getElem?_map]
 have e:(zJ 0 1 n)[x]?=some (x:Int):=by
  have h1:=zY n hx
  rw [List.getD_eq_getElem?_getD,List.getElem?_eq_getElem (by rw [zr];exact hx)] at h1
  rw [List.getElem?_eq_getElem (by rw [zr];exact hx)]
  exact congrArg some h1
 rw [e]
 exact h x hx
theorem qq {n:Nat}{a b:List Int}(h:zj n a){t:Nat}(ht:t<n):(aft a b).getD t 0=b.getD (a.getD t 0).toNat 0:=by
 unfold aft
 rw [List.getD_eq_getElem?_getD,List.getElem?_map,List.getElem?_eq_getElem (by rw [h.1];exact ht),List.getD_eq_getElem?_getD (l:=a) (i:=t),List.getElem?_eq_getElem (by rw [h.1];exact ht)];rfl
theorem D6 {T:List Int}(f:Int->Int){x:Nat}(h:x<T.length):(T.map f).getD x 0=f (T.getD x 0):=by
 rw [List.getD_eq_getElem?_getD,List.getElem?_map,List.getElem?_eq_getElem h,List.getD_eq_getElem?_getD,List.getElem?_eq_getElem h];rfl
noncomputable def j7 (n:Nat)(ds:List De)(os:List Int):Prop:=∃ T:List Int,T.length=n/\xA ds (jR n) (T.map some,none)/\∀ t:Nat,t<n->T.getD (os.getD t 0).toNat 0=(t:Int)
theorem j7.append {n:Nat}{a b:List De}{o1 o2:List Int}(h1:j7 n a o1)(h2:j7 n b o2)(i1:zj n o1)(i2:zj n o2):j7 n (a ++ b) (aft o1 o2):=by
 obtain ⟨T1,l1,d1,g1⟩:=h1
 obtain ⟨T2,l2,d2,g2⟩:=h2
 have e:=d2.rlb fun x=>T1.getD x.toNat 0
 rw [show jR n=((zJ 0 1 n).map some,none) from rfl,Vk,Vk,Fb n _ l1 fun i hi=>by rw [Int.toNat_natCast]] at e
 refine ⟨_,by rw [List.length_map];exact l2,d1.append e,fun t ht=>?_⟩
 obtain ⟨a0,a1⟩:=i1.getD ht
 obtain ⟨b0,b1⟩:=i2.getD (i:=(o1.getD t 0).toNat) (by omega)
 rw [qq i1 ht,D6 _ (by omega),g2 _ (by omega),Int.toNat_natCast]
 exact g1 t ht
theorem j7.rings {n:Nat}{os:List Int}(h:zj n os):j7 n ((qV os n).map J2) os:=
 ⟨_,by rw [kQ,zr],(Gm (Kr h (List.replicate n 0) n (Nat.le_refl n))).dosE,fun t ht=>JZ h ht⟩
theorem j7.swaps {n:Nat}{os:List Int}(h:zj n os):j7 n ((qy os n).map swD) os:=
 ⟨_,by rw [kQ,zr],A0 (qy os n) (zJ 0 1 n) (fun s hs=>by rw [zr];exact F3 h hs),fun t ht=>JZ h ht⟩
theorem WK {a b:List Int}(h:a.length=b.length)(g:∀ x,x<a.length->a.getD x 0=b.getD x 0):a=b:=by
 refine List.ext_getElem h fun i h1 h2=>?_
 have:=g i h1
 rwa [List.getD_eq_getElem?_getD,List.getElem?_eq_getElem h1,List.getD_eq_getElem?_getD,List.getElem?_eq_getElem h2] at this
theorem Fz {n:Nat}{os:List Int}{i:Nat}:∃ k:Nat,k<=i/\j3 os k/\Rch os (k:Int) (i:Int):=by
 obtain ⟨m,hm,hl⟩:=wK (p:=fun q=>Rch os ((q:Nat):Int) (i:Int)) i Rch.refl
 refine ⟨m,?_,fun q hq hr=>hl q hq (hr.trans hm),hm⟩
 rcases Nat.lt_or_ge i m with h | h
 ·exact absurd Rch.refl (hl i h)
 ·exact h
theorem Q6 (os:List Int)(a b:Nat)(p:Int):itn os (a+b) p=itn os a (itn os b p):=by
 induction a with
 | zero=>rw [Nat.zero_add];rfl
 | succ a ih=>rw [show a+1+b=(a+b)+1 by omega];show nxt os (itn os (a+b) p)=nxt os (itn os a (itn os b p));rw [ih]
theorem AB {os:List Int}{t:Nat}{p q:Int}(h:itn os t p=p)(r:Rch os p q):itn os t q=q:=by
 obtain ⟨j,rfl⟩:=r
 rw [<- Q6,Nat.add_comm,Q6,h]
theorem Yv {n:Nat}{os:List Int}{k:Nat}(hL:j3 os k)(hp:1<per os (k:Int)):∀ {i:Nat},k<i->zG os (k:Int) ∈ zk os i
 | 0,h=>absurd h (Nat.not_lt_zero _)
 | i+1,h=>by
  unfold zk
  by_cases c:k=i
  ·subst c;rw [if_pos ⟨hL,hp⟩];simp
  ·exact List.mem_append_left _ (Yv (n:=n) hL hp (by omega))
theorem Qb {os:List Int}{r:List Int}:∀ {i:Nat},r ∈ zk os i->∃ k:Nat,k<i/\j3 os k/\1<per os (k:Int)/\r=zG os (k:Int)
 | 0,hr=>by simp [zk] at hr
 | i+1,hr=>by
  unfold zk at hr
  rcases List.mem_append.mp hr with z | z
  ·obtain ⟨k,hk,e⟩:=Qb z
   exact ⟨k,by omega,e⟩
  ·by_cases c:j3 os i/\1<per os (i:Int)
   ·rw [if_pos c] at z
    exact ⟨i,by omega,c.1,c.2,List.mem_singleton.mp z⟩
   ·rw [if_neg c] at z;cases z
noncomputable def XX (os:List Int)(n t:Nat):Prop:=∀ i:Nat,i<n->itn os t (i:Int)=(i:Int)
theorem Eo {os:List Int}{p:Int}{m t:Nat}(h:kA os p m)(e:itn os t p=p):m ∣ t:=by
 rw [Vc h.2.1] at e
 rcases Nat.eq_zero_or_pos (t % m) with z | z
 ·exact Nat.dvd_of_mod_eq_zero z
 ·exact absurd e (h.2.2 _ z (Nat.mod_lt _ h.1))
theorem VA {n:Nat}{os:List Int}(h:zj n os)(t:Nat):XX os n t ↔ ∀ r ∈ zk os n,r.length ∣ t:=by
 constructor
 ·intro hs r hr
  obtain ⟨k,hk,hL,hp,rfl⟩:=Qb hr
  obtain ⟨m,hm,_⟩:=ja h (p:=(k:Int)) (by omega) (by omega)
  unfold zG
  rw [qz,hm.per]
  exact Eo hm (hs k hk)
 ·intro hr i hi
  obtain ⟨k,hk,hL,hrc⟩:=Fz (n:=n) (os:=os) (i:=i)
  obtain ⟨m,hm,_⟩:=ja h (p:=(k:Int)) (by omega) (by omega)
  refine AB ?_ hrc
  have hd:m ∣ t:=by
   by_cases c:1<per os (k:Int)
   ·have:=hr _ (Yv (n:=n) hL c (by omega))
    unfold zG at this
    rwa [qz,hm.per] at this
   ·rw [hm.per] at c
    have:m=1:=by have:=hm.1;omega
    rw [this];exact Nat.one_dvd t
  obtain ⟨z,rfl⟩:=hd
  rw [Nat.mul_comm]
  exact vP hm.2.1 z
noncomputable def vw (t l:Nat):Nat:=t / Nat.gcd t l * l
theorem vV (t l:Nat):vw t l=Nat.lcm t l:=by
 unfold vw Nat.lcm
 rw [Nat.mul_comm t l,Nat.mul_div_assoc _ (Nat.gcd_dvd_left t l),Nat.mul_comm]
noncomputable def xP (rs:List (List Int)):Nat:=rs.foldl (fun t r=>vw t r.length) 1
theorem Ku:∀ (rs:List (List Int)) (t:Nat),(t ∣ rs.foldl (fun t r=>vw t r.length) t/\∀ r ∈ rs,r.length ∣ rs.foldl (fun t r=>vw t r.length) t)/\∀ z,t ∣ z->(∀ r ∈ rs,r.length ∣ z)->rs.foldl (fun t r=>vw t r.length) t ∣ z
 | [],t=>⟨⟨Nat.dvd_refl t,fun r hr=>nomatch hr⟩,fun z hz _=>hz⟩
 | r :: rs,t=>by
  obtain ⟨⟨h1,h2⟩,h3⟩:=Ku rs (vw t r.length)
  rw [List.foldl_cons]
  have a1:t ∣ vw t r.length:=by rw [vV];exact Nat.dvd_lcm_left _ _
  have a2:r.length ∣ vw t r.length:=by rw [vV];exact Nat.dvd_lcm_right _ _
  refine ⟨⟨Nat.dvd_trans a1 h1,fun x hx=>?_⟩,fun z hz hr=>h3 z ?_ fun x hx=>hr x (by simp [hx])⟩
  ·rcases List.mem_cons.mp hx with rfl | hx
   ·exact Nat.dvd_trans a2 h1
   ·exact h2 x hx
  ·rw [vV];exact Nat.lcm_dvd hz (hr r (by simp))
theorem DB {rs:List (List Int)}{r:List Int}(h:r ∈ rs):r.length ∣ xP rs:=(Ku rs 1).1.2 r h
theorem Jp {n:Nat}{os:List Int}(h:zj n os):0<xP (zk os n):=by
 have:∀ (rs:List (List Int)) (t:Nat),0<t->(∀ r ∈ rs,0<r.length)->0<rs.foldl (fun t r=>vw t r.length) t:=by
  intro rs
  induction rs with
  | nil=>intro t ht _;exact ht
  | cons r rs ih=>
   intro t ht hr
   rw [List.foldl_cons]
   refine ih _ ?_ fun x hx=>hr x (by simp [hx])
   rw [vV]
   exact Nat.lcm_pos ht (hr r (by simp))
 exact this _ 1 (by omega) fun r hr=>by have:=qu h (Nat.le_refl n) hr;omega
theorem ZN {n:Nat}{os:List Int}(h:zj n os):XX os n (xP (zk os n)):=(VA h _).mpr fun _ hr=>DB hr
theorem Zv {n:Nat}{os:List Int}(h:zj n os){t:Nat}(hs:XX os n t):pwl n os t=zJ 0 1 n:=by
 refine WK (by rw [(jF h t).1,zr]) fun x hx=>?_
 rw [(jF h t).1] at hx
 rw [YE h hx,hs x hx,zY n hx]
theorem Bq {n:Nat}{os bs:List Int}(h:zj n os)(hb:qD os bs):pwl n os (xP (zk os n) - 1)=bs:=by
 have hp:=Jp h
 refine qD.unique h hb (jF h _).1 ?_
 have:=vN h 1 (xP (zk os n) - 1)
 rw [QG h,show 1+(xP (zk os n) - 1)=xP (zk os n) by omega,Zv h (ZN h)] at this
 exact this
noncomputable def LV:ASp:=fun xs M Q=>∃ (a b:Nat),xs=[.d (.int a),.d (.int b)]/\Q (.d (.int (Nat.gcd a b:Nat))) M
noncomputable abbrev Dn:Stmt:=top 22
theorem BI:zo ["one","other"] ["one","other"] (zg Dn):=⟨rfl,rfl,rfl,by decide +kernel,rfl,by decide +kernel,by decide +kernel⟩
theorem Hf (a:At K mg "common_divisor" Dn)(B:Blt mg):Df P w K mg base "common_divisor" ["one","other"] 1 (cSp LV):=by
 refine dfA (k:=0) a BI (fun _ _ _ _ _ _=>Pn2_ fun _ _=>rfl) (fun xs M Q h=>?_) (fun f cdv A outer s H E hr=>?_)
 ·obtain ⟨_,_,rfl,_⟩:=h;rfl
 have sc:=BI
 have hsl:=hsl
 refine ⟨_,(zc (vW PassesOwn.never (zn YD (pv 1) ze (zy _)) (zd (Qy (i:=0) (j:=1) rfl sc.nd rfl rfl (by decide) rfl rfl (za (pv 1) (za (zu qS (pv 0) (pv 1)) zb)) rfl)))
  (zd (zq (pv 0)))),?_⟩
 refine ex2 (by walk_at "sim") ?_
 rintro xs M Q ⟨a,b,rfl,q⟩
 rw [show qc ["one","other"] [.d (.int a),.d (.int b)]=[some (.d (.int a)),some (.d (.int b))] from rfl]
 refine zw fun r hr0=>?_
 show jZ _ _ _ _ _ _
 unfold jZ
 refine ⟨fun m ρ M'=>M=M'/\∃ u:Nat,ρ=[some (.d (.int u)),some (.d (.int m))]/\Nat.gcd u m=Nat.gcd a b,⟨b,rfl,a,rfl,rfl⟩,?_⟩
 rintro m ρ M' ⟨rfl,u,rfl,e⟩
 walk_at "ra"
 by_cases c:(0:Int)<m
 ·rw [if_pos c]
  walk_at "ra"
  have ml:=Nat.mod_lt u (show 0<m by omega)
  refine ⟨c,u % m,ml,m,rfl,by rw [Int.natCast_emod],?_⟩
  rw [<- e,Nat.gcd_comm u m,Nat.gcd_rec m u,Nat.gcd_comm]
 ·rw [if_neg c]
  have m0:m=0:=by omega
  subst m0
  subst hr0
  walk_at "ra"
  rw [Nat.gcd_zero_right] at e
  rw [e]
  exact yy Fr.refl q
noncomputable def Qa:Dat->Option (List Dat)
 | .lst l=>some l
 | .tup l=>some l
 | _=>none
theorem MU {x:AV}{M:MH}{d:Dat}(h:vA x M=some d)(hd:dp d<=100):∃ t,tyA x M=some t/\yG t ["list","tuple"]=some (Qa d).isSome:=by
 cases d with
 | lst l=>exact ⟨_,(Dl h).2.2.1,AC⟩
 | tup l=>rw [ku h (fun _ z=>nomatch z)];exact ⟨_,rfl,Da⟩
 | non=>rw [ku h (fun _ z=>nomatch z)];exact ⟨_,rfl,Av⟩
 | bl b=>rw [ku h (fun _ z=>nomatch z)];exact ⟨_,rfl,BY⟩
 | int b=>rw [ku h (fun _ z=>nomatch z)];exact ⟨_,rfl,A3⟩
 | str b=>rw [ku h (fun _ z=>nomatch z)];exact ⟨_,rfl,BU⟩
 | ty t=>rw [dp] at hd;omega
 | rng _ _ _=>rw [dp] at hd;omega
 | scr _ _=>rw [dp] at hd;omega
theorem Ii {d:Dat}{l:List Dat}(h:Qa d=some l)(M:MH):zW (.d d) M=some (l.map .d):=by
 cases d with
 | lst m=>cases h;rfl
 | tup m=>cases h;rfl
 | _=>cases h
theorem ka {d:Dat}{os:List Int}(h:Qa d=some (os.map .int))(M:MH):zW (.d d) M=some (os.map fun i=>.d (.int i)):=by rw [Ii h,xW]
theorem YS (n:Nat):Ji 0 1 n=(List.range n).map fun (i:Nat)=>AV.d (.int (i:Int)):=by
 unfold Ji
 exact List.map_congr_left fun i _=>by rw [Int.zero_add,Int.mul_one]
theorem Yi (ns:List Int):dp (ilD ns)<=40:=by
 have:∀ ns:List Int,dps (ns.map .int)<=0:=fun ns=>X5 fun d hd=>by obtain ⟨i,_,rfl⟩:=List.mem_map.mp hd;simp [dp]
 rw [dp];have:=this ns;omega
noncomputable def FX (one other:List Int):List Int:=one.map fun p=>other.getD p.toNat 0
noncomputable abbrev va:Stmt:=top 9
theorem wO:zo ["n"] ["n"] (zg va):=⟨rfl,rfl,rfl,by decide +kernel,rfl,by decide +kernel,by decide +kernel⟩
noncomputable def yQ:ASp:=fun xs M Q=>∃ n:Nat,xs=[.d (.int n)]/\n<=1000/\∀ p,M p=none->Q (.ref p) (mup M p (.lst ((zJ 0 1 n).map fun i=>.d (.int i))))
theorem Jd (a:At K mg "staying" va)(B:Blt mg):Df P w K mg base "staying" ["n"] 1 (cSp yQ):=by
 refine dfA (k:=0) a wO (fun _ _ _ _ _ _=>Pn1_ fun _=>rfl) (fun xs M Q h=>?_) (fun f cdv A outer s H E hr=>?_)
 ·obtain ⟨_,rfl,_⟩:=h;rfl
 have sc:=wO
 have hsl:=hsl
 refine ⟨_,(zd (zq (kS (zK (qj rfl) rfl B.list je (za (zK qK rfl B.range jw (za (pv 0) zb)) zb))))),?_⟩
 refine ex2 (by walk_at "sim") ?_
 rintro xs M Q ⟨n,rfl,hn,q⟩
 rw [show qc ["n"] [.d (.int n)]=[some (.d (.int n))] from rfl]
 walk_at "ra"
 refine ⟨_,_,_,rfl,small_one (by omega) (by omega) (by omega) (by omega),n,by rw [rangeSize_one];split <;> omega,by omega,fun p hp _=>?_⟩
 exact ⟨_,_,Ei (Fr.refl.mup hp _) hp zl (qx _),q p hp⟩
noncomputable def wo:ASp:=fun xs M Q=>∃ n:Nat,xs=[.d (.int n)]/\n<=1000/\Q (.d (ilD (zJ 0 1 n))) M
theorem Xp (vs:List V)(H:Hp)(Q:VK)(E:XK):cSp wo vs H Q E->cSp yQ vs H Q E:=Ek (fun xs M Q ⟨n,e,h1,q⟩=>⟨n,e,h1,fun p hp=>⟨_,_,yp (Fr.refl.mup hp _) hp zl (qx _),q⟩⟩) vs H Q E
noncomputable abbrev vZ:Stmt:=top 8
theorem vj:zo ["thing","n"] ["thing","n"] (zg vZ):=⟨rfl,rfl,rfl,by decide +kernel,rfl,by decide +kernel,by decide +kernel⟩
noncomputable def yA (d:Dat)(n:Int):Bool:=match d with
 | .int i=>decide (0<=i/\i<n)
 | _=>false
noncomputable def Jv:ASp:=fun xs M Q=>∃ (d:Dat) (n:Int),xs=[.d d,.d (.int n)]/\dp d<=100/\Q (.d (.bl (yA d n))) M
theorem Jr (a:At K mg "is_place" vZ)(B:Blt mg):Df P w K mg base "is_place" ["thing","n"] 1 (cSp Jv):=by
 refine dfA (k:=0) a vj (fun _ _ _ _ _ _=>Pn2_ fun _ _=>rfl) (fun xs M Q h=>?_) (fun f cdv A outer s H E hr=>?_)
 ·obtain ⟨_,_,rfl,_⟩:=h;rfl
 have sc:=vj
 have hsl:=hsl
 refine ⟨_,(zc (zP (PW.pt (ki (jn (zt jx rfl B.isinstance qb (za (pv 0) (za (jp (v:=.ty "bool") rfl B.bool Y7 rfl) zb))) (fun _=>rfl)) (jC (xD (jn (zt jx rfl B.isinstance qb (za (pv 0) (za (jp (v:=.ty "int") rfl B.int Qr rfl) zb))) (fun _=>rfl)))))) (zd (zq jE)) zB)
  (zd (zq (JM GW Kw ze (pv 0) (pv 1))))),?_⟩
 refine ex2 (by walk_at "sim") ?_
 rintro xs M Q ⟨d,n,rfl,hd,q⟩
 rw [show qc ["thing","n"] [.d d,.d (.int n)]=[some (.d d),some (.d (.int n))] from rfl]
 have fin:=fun b=>Jo (M0:=M) Fr.refl (.bl b)
 cases d with
 | non=>walk_at "ra";exact ⟨_,_,fin _,q⟩
 | bl b=>walk_at "ra";exact ⟨_,_,fin _,q⟩
 | str b=>walk_at "ra";exact ⟨_,_,fin _,q⟩
 | lst b=>walk_at "ra";exact ⟨_,_,fin _,q⟩
 | tup b=>walk_at "ra";exact ⟨_,_,fin _,q⟩
 | int i=>
  walk_at "ra"
  have q:Q (.d (.bl (decide (0<=i/\i<n)))) M:=q
  by_cases c:0<=i
  ·rw [if_pos c]
   rw [show decide (0<=i/\i<n)=decide (i<n) by simp [c]] at q
   walk_at "ra"
   exact ⟨_,_,fin _,q⟩
  ·rw [if_neg c]
   rw [show decide (0<=i/\i<n)=false by simp [c]] at q
   walk_at "ra"
   exact ⟨_,_,fin _,q⟩
 | ty _=>rw [dp] at hd;omega
 | rng _ _ _=>rw [dp] at hd;omega
 | scr _ _=>rw [dp] at hd;omega
noncomputable abbrev yU:Stmt:=top 19
theorem wH:zo ["order","ring"] ["order"] (zg yU):=⟨rfl,rfl,rfl,by decide +kernel,rfl,by decide +kernel,by decide +kernel⟩
noncomputable def wv (os:List Int)(n:Nat):List Int:=(zk os n).map fun r=>r.getD 0 0
noncomputable def Jj:ASp:=fun xs M Q=>∃ (x:AV) (n:Nat) (os:List Int),xs=[x]/\zW x M=some (os.map fun i=>.d (.int i))/\zj n os/\n<=1000/\Q (.d (ilD (wv os n))) M
noncomputable def hdA:AV->AV
 | .d (.lst (x :: _))=>.d x
 | _=>.d .non
theorem WR {r:List Int}(h:1<=r.length):hdA (.d (ilD r))=.d (.int (r.getD 0 0)):=by
 cases r with
 | nil=>simp at h
 | cons a l=>rfl
theorem X4 {n:Nat}{os:List Int}(ho:zj n os):(((zk os n).map ilD).map AV.d).map hdA=(wv os n).map fun i=>AV.d (.int i):=by
 unfold wv
 rw [List.map_map,List.map_map,List.map_map]
 refine List.map_congr_left fun r hr=>?_
 have:=qu ho (Nat.le_refl n) hr
 exact WR (by omega)
theorem XY (a:At K mg "leaders" yU)(B:Blt mg)(D_rings:Df P w K mg base "rings" ["order"] 2 (cSp xw)):Df P w K mg base "leaders" ["order"] 3 (cSp Jj):=by
 refine dfA (k:=2) a wH (fun _ _ _ _ _ _=>Pn1_ fun _=>rfl) (fun xs M Q h=>?_) (fun f cdv A outer s H E hr=>?_)
 ·obtain ⟨_,_,_,rfl,_⟩:=h;rfl
 have sc:=wH
 have hsl:=hsl
 refine ⟨_,(zd (zq (qI (ts:=[1]) rfl rfl (ju (zA D_rings hr rfl (za (pv 0) zb))) (fun _ _ _ _=>(zx (i:=1) sc.nd rfl (by first | exact Or.inl rfl | exact Or.inr rfl))) (fun _ _ _ _=>qG) (fun _ _ _ _=>(zF (xY (K:=K) rfl) (pv 1) ze (fun _ _=>rfl)))))),?_⟩
 refine ex2 (by walk_at "sim") ?_
 rintro xs M Q ⟨x,n,os,rfl,hx,ho,hn,q⟩
 rw [show qc ["order","ring"] [x]=[some x,none] from rfl]
 walk_at "ra"
 refine ⟨x,n,os,rfl,hx,ho,hn,_,rfl,?_⟩
 refine BZ (fun o=>[some x,o]) hdA ⟨_,rfl⟩ rfl (by rw [List.length_map,List.length_map];have:=jk os n;omega) (fun o y Q hy q=>?_) fun o=>?_
 ·rw [List.map_map] at hy
  obtain ⟨r,hr,rfl⟩:=List.mem_map.mp hy
  have:=qu ho (Nat.le_refl n) hr
  have h0:=kh (ns:=r) (i:=0) (by omega) (by omega)
  rw [Int.toNat_zero] at h0
  show jQ 1 (AV.d (ilD r)) _ _ _
  walk_at "ra"
  rw [h0]
  walk_at "ra"
  have q:=q (some (.d (ilD r)))
  rw [show hdA ((AV.d ∘ ilD) r)=_ from WR (by omega)] at q
  exact q
 ·rw [X4 ho,qx]
  exact ⟨_,rfl,_,_,Jo Fr.refl _,q⟩
noncomputable def Xi:ASp:=fun xs M Q=>∃ (dx dy:Dat) (a b:List Int),xs=[.d dx,.d dy]/\Qa dx=some (a.map .int)/\Qa dy=some (b.map .int)/\a.length=b.length/\b.length<=2000/\(∀ p ∈ a,0<=p/\p<(b.length:Int))/\Q (.d (ilD (FX a b))) M
noncomputable def L5 (b:List Int):AV->AV
 | .d (.int p)=>.d (.int (b.getD p.toNat 0))
 | x=>x
noncomputable abbrev Qu:Stmt:=top 12
theorem Kn:zo ["one","other","place"] ["one","other"] (zg Qu):=⟨rfl,rfl,rfl,by decide +kernel,rfl,by decide +kernel,by decide +kernel⟩
theorem DP (a:At K mg "after" Qu)(B:Blt mg):Df P w K mg base "after" ["one","other"] 1 (cSp Xi):=by
 refine dfA (k:=0) a Kn (fun _ _ _ _ _ _=>Pn2_ fun _ _=>rfl) (fun xs M Q h=>?_) (fun f cdv A outer s H E hr=>?_)
 ·obtain ⟨_,_,_,_,rfl,_⟩:=h;rfl
 have sc:=Kn
 have hsl:=hsl
 refine ⟨_,(zc (zP (zn (qZ hr.units) (zt zp rfl B.len zZ (za (pv 0) zb)) (zt zp rfl B.len zZ (za (pv 1) zb)) (zy _)) (zd qB) zB)
  (zd (zq (qI (ts:=[2]) rfl rfl (ju (pv 0)) (fun _ _ _ _=>(zx (i:=2) sc.nd rfl (by first | exact Or.inl rfl | exact Or.inr rfl))) (fun _ _ _ _=>qG) (fun _ _ _ _=>(zF (xY (K:=K) rfl) (pv 1) (pv 2) (fun _ _=>rfl))))))),?_⟩
 refine ex2 (by walk_at "sim") ?_
 rintro xs M Q ⟨dx,dy,a,b,rfl,hx,hy,hl,hb,hp,q⟩
 rw [show qc ["one","other","place"] [.d dx,.d dy]=[some (.d dx),some (.d dy),none] from rfl]
 walk_at "ra"
 refine ⟨_,ka hx M,_,ka hy M,?_⟩
 rw [List.length_map,List.length_map,if_neg (by omega)]
 refine ⟨_,ka hx M,?_⟩
 refine BZ (fun o=>[some (.d dx),some (.d dy),o]) (L5 b) ⟨_,rfl⟩ (ka hx M) (by rw [List.length_map];omega) (fun o y Q hy2 q=>?_) fun o=>?_
 ·obtain ⟨p,hp2,rfl⟩:=List.mem_map.mp hy2
  have hb2:=hp p hp2
  walk_at "ra"
  exact ⟨_,ka hy M,_,kh hb2.1 hb2.2,q _⟩
 ·rw [show (a.map fun i=>AV.d (.int i)).map (L5 b)=(FX a b).map fun i=>AV.d (.int i) by unfold FX;rw [List.map_map,List.map_map];rfl]
  exact ⟨_,qx _,yy Fr.refl q⟩
noncomputable def Bv:ASp:=fun xs M Q=>∃ (dx:Dat) (n:Nat) (os:List Int),xs=[.d dx]/\Qa dx=some (os.map .int)/\zj n os/\n<=2000/\∀ bs,qD os bs->Q (.d (ilD bs)) M
noncomputable abbrev BR:Stmt:=top 13
theorem Vl:zo ["order","back","place","goal"] ["order"] (zg BR):=⟨rfl,rfl,rfl,by decide +kernel,rfl,by decide +kernel,by decide +kernel⟩
theorem Fx (a:At K mg "back_of" BR)(B:Blt mg):Df P w K mg base "back_of" ["order"] 1 (cSp Bv):=by
 refine dfA (k:=0) a Vl (fun _ _ _ _ _ _=>Pn1_ fun _=>rfl) (fun xs M Q h=>?_) (fun f cdv A outer s H E hr=>?_)
 ·obtain ⟨_,_,_,rfl,_⟩:=h;rfl
 have sc:=Vl
 have hsl:=hsl
 refine ⟨_,(zc (zC (i:=1) sc.nd rfl (by first | exact Or.inl rfl | exact Or.inr rfl) (kS (zu xg (qF (za ze zb)) (zt zp rfl B.len zZ (za (pv 0) zb)))))
  (zc (qv PassesOwn.never rfl (kz rfl B.enumerate (za (pv 0) zb)) (qO (K:=K) 2 rfl rfl (zM (zx (i:=2) sc.nd rfl (by first | exact Or.inl rfl | exact Or.inr rfl)) (zM (zx (i:=3) sc.nd rfl (by first | exact Or.inl rfl | exact Or.inr rfl)) qR))) (zd (qk (pv 2) (qg (pv 1) (pv 3) zE))))
  (zd (zq (pv 1))))),?_⟩
 refine ex2 (by walk_at "sim") ?_
 rintro xs M Q ⟨dx,n,os,rfl,hx,ho,hn,q⟩
 rw [show qc ["order","back","place","goal"] [.d dx]=[some (.d dx),none,none,none] from rfl]
 have h1:=ho.1
 refine zw fun r hr0=>?_
 walk_at "ra"
 refine ⟨by omega,_,ka hx M,by rw [List.length_map];omega,by rw [List.length_map];omega,by rw [List.length_map];omega,fun p hp _=>?_⟩
 rw [List.length_map,h1,Int.toNat_natCast,QN]
 have hp1:=zl (M:=M) (a:=p) (o:=.lst (List.replicate n (AV.d (.int 0))))
 have f1:=(Fr.refl (M:=M)).mup hp (.lst (List.replicate n (AV.d (.int 0))))
 subst hr0
 refine zw fun r hr0=>?_
 walk_at "ra"
 refine ⟨_,ka hx _,_,qx _,?_⟩
 refine ⟨fun i ρ M'=>∃ u v bs,ρ=[some (.d dx),some (.ref p),u,v]/\M'=mup M p (.lst (bs.map fun i=>AV.d (.int i)))/\bs.length=n/\∀ j,j<i->bs.getD (os.getD j 0).toNat 0=(j:Int),⟨none,none,List.replicate n 0,rfl,by rw [List.map_replicate],by simp,fun j hj=>nomatch hj⟩,?_,?_⟩
 ·rintro i y ρ M' hy ⟨u,v,bs,rfl,rfl,lb,hj⟩
  refine ⟨ka hx _,?_⟩
  obtain ⟨d,hd,rfl⟩:=kB hy
  rw [List.getElem?_map] at hd
  cases e:os[i]? with
  | none=>rw [e] at hd;cases hd
  | some k=>
   rw [e] at hd
   cases hd
   have hi:=(List.getElem?_eq_some_iff.mp e).1
   have hk:os.getD i 0=k:=by rw [List.getD_eq_getElem?_getD,e];rfl
   have kb:=ho.2.2 k (List.mem_of_getElem? e)
   walk_at "ra"
   refine ⟨_,zl,k.toNat,by rw [List.length_map,ji kb.1 (by omega)],bs.set k.toNat (i:Int),?_,by rw [List.length_set];exact lb,fun j hj'=>?_⟩
   ·rw [List.map_set]
   ·rw [qW (by omega)]
    by_cases c:j=i
    ·subst c;rw [hk,if_pos rfl]
    ·rw [if_neg,hj j (by omega)]
     intro z
     have gj:=ho.getD (i:=j) (by omega)
     exact c (ho.inj (by omega) (by omega) (by rw [hk];omega))
 ·rintro ρ M' ⟨u,v,bs,rfl,rfl,lb,hj⟩
  refine ⟨ka hx _,?_⟩
  subst hr0
  walk_at "ra"
  refine ⟨_,_,yp (Fr.refl.mup hp _) hp zl (qx _),q bs ⟨by omega,fun i hi=>hj i ?_⟩⟩
  simp only [jL,List.length_map]
  exact hi
theorem Fu {n:Nat}{rr ss:List Int}(hr:zj n rr)(hs:zj n ss)(l:Nat):aft (if l % 2=1 then aft rr ss else rr) (pwl n (aft ss ss) (l / 2))=aft rr (pwl n ss l):=by
 rw [Y9 hs]
 by_cases h:l % 2=1
 ·rw [if_pos h,ZC hr hs.1]
  have e:aft ss (pwl n ss (2 * (l / 2)))=pwl n ss l:=by
   have:=vN hs 1 (2 * (l / 2))
   rw [QG hs] at this
   rw [this]
   congr 1;omega
  rw [e]
 ·rw [if_neg h]
  congr 2;omega
noncomputable def Bw:ASp:=fun xs M Q=>∃ (dx:Dat) (n:Nat) (os rs:List Int) (many:Int),xs=[.d dx,.d (.int many)]/\Qa dx=some (os.map .int)/\zj n os/\n<=1000/\Mz n os many rs/\Q (.d (ilD rs)) M
noncomputable abbrev Qo:Stmt:=top 14
theorem JV:zo ["order","many","step","left","reached"] ["order","many"] (zg Qo):=⟨rfl,rfl,rfl,by decide +kernel,rfl,by decide +kernel,by decide +kernel⟩
theorem WQ (a:At K mg "times" Qo)(B:Blt mg)(D_staying:Df P w K mg base "staying" ["n"] 2 (cSp wo))(D_after:Df P w K mg base "after" ["one","other"] 2 (cSp Xi))(D_back_of:Df P w K mg base "back_of" ["order"] 2 (cSp Bv)):Df P w K mg base "times" ["order","many"] 3 (cSp Bw):=by
 refine dfA (k:=2) a JV (fun _ _ _ _ _ _=>Pn2_ fun _ _=>rfl) (fun xs M Q h=>?_) (fun f cdv A outer s H E hr=>?_)
 ·obtain ⟨_,_,_,_,_,rfl,_⟩:=h;rfl
 have sc:=JV
 have hsl:=hsl
 refine ⟨_,(zc (zC (i:=2) sc.nd rfl (by first | exact Or.inl rfl | exact Or.inr rfl) (W4 (zn Gz (pv 1) ze (zy _)) (pv 0) (zA D_back_of hr rfl (za (pv 0) zb))))
  (zc (zC (i:=3) sc.nd rfl (by first | exact Or.inl rfl | exact Or.inr rfl) (zt Zg rfl B.abs Xu (za (pv 1) zb)))
  (zc (zC (i:=4) sc.nd rfl (by first | exact Or.inl rfl | exact Or.inr rfl) (zA D_staying hr rfl (za (zt zp rfl B.len zZ (za (pv 0) zb)) zb)))
  (zc (vW PassesOwn.never (zn YD (pv 3) ze (zy _)) (zc (zP (zn (Zf hr.units) (zu qS (pv 3) ze) ze (zy _)) (zd (zC (i:=4) sc.nd rfl (by first | exact Or.inl rfl | exact Or.inr rfl) (zA D_after hr rfl (za (pv 4) (za (pv 2) zb))))) zB)
  (zc (zC (i:=2) sc.nd rfl (by first | exact Or.inl rfl | exact Or.inr rfl) (zA D_after hr rfl (za (pv 2) (za (pv 2) zb))))
  (zd (HZ (i:=3) sc.nd rfl (by first | exact Or.inl rfl | exact Or.inr rfl) ze Fd)))))
  (zd (zq (pv 4))))))),?_⟩
 refine ex2 (by walk_at "sim") ?_
 rintro xs M Q ⟨dx,n,os,rs,many,rfl,hx,ho,hn,⟨bs,hb,hp,hm,rfl⟩,q⟩
 rw [show qc ["order","many","step","left","reached"] [.d dx,.d (.int many)]=[some (.d dx),some (.d (.int many)),none,none,none] from rfl]
 refine zw fun r hr0=>?_
 walk_at "ra"
 have key:∀ d:Dat,Qa d=some (bs.map .int)->r M { nx:=fun x M'=>rtA M Q (AV.d Dat.non) M',rt:=rtA M Q } [some (AV.d dx),some (AV.d (Dat.int many)),some (AV.d d),none,none] M:=by
  intro d hd
  have ol:=ho.1
  subst hr0
  refine zw fun r hr0=>?_
  walk_at "ra"
  have hab:(if many<0 then -many else many)=(many.natAbs:Int):=by split <;> omega
  rw [hab]
  generalize many.natAbs=t at *
  subst hr0
  refine zw fun r hr0=>?_
  walk_at "ra"
  refine ⟨_,ka hx _,n,by rw [List.length_map,ol],hn,?_⟩
  subst hr0
  refine zw fun r hr0=>?_
  show jZ _ _ _ _ _ _
  unfold jZ
  refine ⟨fun m ρ M'=>M=M'/\∃ (e:Dat) (b rc:List Int),ρ=[some (.d dx),some (.d (.int many)),some (.d e),some (.d (.int m)),some (.d (ilD rc))]/\Qa e=some (b.map .int)/\zj n b/\zj n rc/\aft rc (pwl n b m)=pwl n bs t,⟨t,rfl,d,bs,_,rfl,hd,hb,zj.rng n,kI (jF hb _).1⟩,?_⟩
  rintro m ρ M' ⟨rfl,e,b,rc,rfl,he,hb2,hrc,eq⟩
  have bl:=hb2.1
  have rl:=hrc.1
  walk_at "ra"
  by_cases c:(0:Int)<m
  ·rw [if_pos c]
   have st:=Fu hrc hb2 m
   have bd:∀ p ∈ b,0<=p/\p<(b.length:Int):=fun p hp=>by rw [bl];exact hb2.2.2 p hp
   have rd:∀ p ∈ rc,0<=p/\p<(b.length:Int):=fun p hp=>by rw [bl];exact hrc.2.2 p hp
   refine ⟨by decide,?_⟩
   by_cases c2:(m:Int) % 2=1
   ·rw [if_pos c2]
    rw [if_pos (by omega)] at st
    exact ⟨_,_,rc,b,rfl,rfl,he,by omega,by omega,rd,_,_,b,b,rfl,he,he,rfl,by omega,bd,⟨by omega,by omega⟩,m / 2,by omega,rfl,_,rfl,by omega,aft b b,aft rc b,rfl,rfl,hb2.aft hb2,hrc.aft hb2,by rw [st];exact eq⟩
   ·rw [if_neg c2]
    rw [if_neg (by omega)] at st
    exact ⟨_,_,b,b,rfl,he,he,rfl,by omega,bd,⟨by omega,by omega⟩,m / 2,by omega,rfl,_,rfl,by omega,aft b b,rc,rfl,rfl,hb2.aft hb2,hrc,by rw [st];exact eq⟩
  ·rw [if_neg c]
   have m0:m=0:=by omega
   subst m0
   subst hr0
   walk_at "ra"
   rw [<- eq,show pwl n b 0=zJ 0 1 n from rfl,xT hrc] at q
   exact yy Fr.refl q
 by_cases c:0<=many
 ·rw [if_pos c]
  exact key dx (by rw [hp c];exact hx)
 ·rw [if_neg c]
  refine ⟨dx,n,os,rfl,hx,ho,by omega,fun bs' hb'=>?_⟩
  exact key _ (by rw [qD.same ho (hm (by omega)) hb'];rfl)
theorem yF {os:List Int}{r:List Int}:∀ {i:Nat},r ∈ zk os i->∃ p:Nat,p<i/\r=zG os (p:Int)
 | 0,h=>by simp [zk] at h
 | i+1,h=>by
  unfold zk at h
  rcases List.mem_append.mp h with z | z
  ·obtain ⟨p,hp,e⟩:=yF z
   exact ⟨p,by omega,e⟩
  ·by_cases c:j3 os i/\1<per os (i:Int)
   ·rw [if_pos c] at z
    exact ⟨i,by omega,List.mem_singleton.mp z⟩
   ·rw [if_neg c] at z;cases z
theorem Ex {n:Nat}{os:List Int}(h:zj n os){r:List Int}(hr:r ∈ zk os n):∀ x ∈ r,0<=x/\x<(n:Int):=by
 obtain ⟨p,hp,e⟩:=yF hr
 subst e
 intro x hx
 obtain ⟨k,_,ek⟩:=qw.mp hx
 rw [<- ek]
 exact qU h (by omega) (by omega) k
theorem Vn {n:Nat}{os:List Int}(h:zj n os){r:List Int}(hr:r ∈ zk os n){k:Nat}(hk:k<r.length):os.getD (r.getD k 0).toNat 0=if k+1=r.length then r.getD 0 0 else r.getD (k+1) 0:=by
 obtain ⟨p,hp,e⟩:=yF hr
 obtain ⟨M,hM,_⟩:=ja h (p:=(p:Int)) (by omega) (by omega)
 have hM1:=hM.1
 unfold zG at e
 rw [hM.per] at e
 have lr:r.length=M:=by rw [e,qz]
 have cg:∀ k,k<M->r.getD k 0=itn os k (p:Int):=fun k hk=>by
  rw [e,List.getD_eq_getElem?_getD]
  unfold itl
  rw [List.getElem?_map,List.getElem?_range hk];rfl
 rw [lr] at hk ⊢
 rw [cg k hk]
 show itn os (k+1) (p:Int)=_
 split
 ·rename_i z
  rw [z,hM.2.1,cg 0 (by omega)];rfl
 ·rw [cg (k+1) (by omega)]
theorem ww {n:Nat}{os:List Int}(h:zj n os){p:Nat}(hp:p<n){x:Int}:x ∈ zG os (p:Int) ↔ Rch os (p:Int) x:=by
 obtain ⟨m,hm,_⟩:=ja h (p:=(p:Int)) (by omega) (by omega)
 unfold zG
 rw [hm.per]
 exact (Rch.mem_ring hm).symm
theorem VJ {n:Nat}{os:List Int}(h:zj n os){p:Nat}(hp:p<n):(zG os (p:Int)).Nodup:=by
 obtain ⟨m,hm,_⟩:=ja h (p:=(p:Int)) (by omega) (by omega)
 unfold zG
 rw [hm.per]
 exact kl h (by omega) (by omega) hm
theorem wy {n:Nat}{os:List Int}(h:zj n os):∀ i,i<=n->(zk os i).flatten.Nodup/\∀ x ∈ (zk os i).flatten,qp os i x
 | 0,_=>by simp [zk]
 | i+1,hi=>by
  obtain ⟨n1,s1⟩:=wy h i (by omega)
  unfold zk
  by_cases c:j3 os i/\1<per os (i:Int)
  ·rw [if_pos c,List.flatten_append,List.flatten_singleton]
   refine ⟨List.nodup_append.mpr ⟨n1,VJ h (by omega),fun a ha b hb e=>?_⟩,fun x hx=>?_⟩
   ·subst e
    obtain ⟨q,hq,r⟩:=s1 a ha
    have r2:=(ww h (by omega)).mp hb
    have a0:=r2
    exact c.1 q hq (r.trans (r2.symm h (by omega) (by omega)))
   ·rcases List.mem_append.mp hx with z | z
    ·exact qp.succ.mpr (.inl (s1 x z))
    ·exact qp.succ.mpr (.inr ((ww h (by omega)).mp z))
  ·rw [if_neg c,List.append_nil]
   exact ⟨n1,fun x hx=>qp.succ.mpr (.inl (s1 x hx))⟩
structure Yo (n:Nat)(os:List Int)(rs:List (List Int)):Prop where
 len:∀ r ∈ rs,2<=r.length/\r.length<=n
 bd:∀ r ∈ rs,∀ x ∈ r,0<=x/\x<(n:Int)
 nx:∀ r ∈ rs,∀ k,k<r.length->os.getD (r.getD k 0).toNat 0=r.getD ((k+1) % r.length) 0
 nd:rs.flatten.Nodup
 st:∀ x:Nat,x<n->(x:Int) ∉ rs.flatten->os.getD x 0=(x:Int)
theorem K4 {n:Nat}{os:List Int}(h:zj n os):Yo n os (zk os n):=by
 refine ⟨fun r hr=>?_,fun r hr=>Ex h hr,fun r hr k hk=>?_,(wy h n (Nat.le_refl n)).1,fun x hx hn=>?_⟩
 ·have:=qu h (Nat.le_refl n) hr;omega
 ·rw [Vn h hr hk]
  by_cases c:k+1=r.length
  ·rw [if_pos c,c,Nat.mod_self]
  ·rw [if_neg c,Nat.mod_eq_of_lt (by omega)]
 ·rcases Qw h hx with ⟨r,hr,hm⟩ | hp
  ·exact absurd (List.mem_flatten.mpr ⟨r,hr,hm⟩) hn
  ·have:os.getD ((x:Int)).toNat 0=(x:Int):=hp.2.1
   rw [Int.toNat_natCast] at this;exact this
noncomputable def Q9 (a b:List Int):Prop:=∃ k,k<b.length/\a=b.drop k ++ b.take k
theorem JQ {b:List Int}{k j:Nat}(hk:k<b.length)(hj:j<b.length):(b.drop k ++ b.take k).getD j 0=b.getD ((j+k) % b.length) 0:=by
 rw [List.getD_eq_getElem?_getD,List.getD_eq_getElem?_getD]
 by_cases c:j<b.length - k
 ·rw [List.getElem?_append_left (by rw [List.length_drop];exact c),List.getElem?_drop,Nat.mod_eq_of_lt (by omega),Nat.add_comm]
 ·rw [List.getElem?_append_right (by rw [List.length_drop];omega),List.length_drop,List.getElem?_take_of_lt (by omega)]
  congr 2
  rw [Nat.mod_eq_sub_mod (by omega),Nat.mod_eq_of_lt (by omega)]
  omega
theorem Ys {a b:List Int}(h:Q9 a b):a.length=b.length:=by
 obtain ⟨k,hk,rfl⟩:=h
 rw [List.length_append,List.length_drop,List.length_take];omega
theorem Ki {a b:List Int}(h:Q9 a b):a.Perm b:=by
 obtain ⟨k,hk,rfl⟩:=h
 exact List.perm_append_comm.trans (by rw [List.take_append_drop])
theorem WC {n:Nat}{os:List Int}{rs rs':List (List Int)}(g:Yo n os rs)(h1:∀ r' ∈ rs',∃ r ∈ rs,Q9 r' r)(h2:rs'.flatten.Perm rs.flatten):Yo n os rs':=by
 refine ⟨fun r' hr'=>?_,fun r' hr' x hx=>?_,fun r' hr' k hk=>?_,h2.nodup_iff.mpr g.nd,fun x hx hn=>g.st x hx fun z=>hn (h2.mem_iff.mpr z)⟩
 ·obtain ⟨r,hr,ro⟩:=h1 r' hr'
  rw [Ys ro];exact g.len r hr
 ·obtain ⟨r,hr,ro⟩:=h1 r' hr'
  exact g.bd r hr x ((Ki ro).mem_iff.mp hx)
 ·obtain ⟨r,hr,ro⟩:=h1 r' hr'
  have rl:=Ys ro
  obtain ⟨j,hj,rfl⟩:=ro
  rw [rl] at hk ⊢
  have hl:=(g.len r hr).1
  rw [JQ hj hk,JQ hj (Nat.mod_lt _ (by omega)),g.nx r hr _ (Nat.mod_lt _ (by omega))]
  congr 1
  rw [Nat.mod_add_mod,Nat.mod_add_mod]
  congr 1
  omega
theorem vL {M:MH}{p:Addr}{o:MO}(h:M p=some o):mup M p o=M:=by
 funext q
 unfold mup
 split
 ·rename_i z;rw [z,h]
 ·rfl
noncomputable abbrev blA (bs:List Bool):List AV:=bs.map fun b=>AV.d (.bl b)
theorem Ft {bs:List Bool}{r:Addr}:AV.ref r ∉ blA bs:=fun h=>by
 obtain ⟨b,_,z⟩:=List.mem_map.mp h
 cases z
theorem Yp {M:MH}{p:Addr}{l:List AV}{cs:List Bool}(h:M p=some (.lst l)){d:Dat}:QZ M (mup M p (.lst (blA cs))) (.d d) (.d d) (mup M p (.lst (blA cs))):=by
 refine ⟨fun q=>.inl rfl,fun q o e=>?_,.inl ⟨rfl,fun p z=>nomatch z⟩⟩
 by_cases c:q=p
 ·subst c
  rw [zl] at e
  cases e
  exact .inr fun r hr=>absurd hr Ft
 ·rw [zL c] at e;exact .inl e
noncomputable def mk0 (bs:List Bool)(d:Dat):Option (List Bool):=match d with
 | .int k=>if 0<=k/\k<(bs.length:Int)/\bs.getD k.toNat true=false then some (bs.set k.toNat true) else none
 | _=>none
noncomputable def mk1:List Bool->List Dat->Option (List Bool)
 | bs,[]=>some bs
 | bs,d :: r=>match mk0 bs d with
  | some cs=>mk1 cs r
  | none=>none
theorem QH:∀ (bs:List Bool) (a b:List Dat),mk1 bs (a ++ b)=match mk1 bs a with | some cs=>mk1 cs b | none=>none
 | bs,[],b=>rfl
 | bs,d :: a,b=>by
  show (match mk0 bs d with | some cs=>mk1 cs (a ++ b) | none=>none)=match (match mk0 bs d with | some cs=>mk1 cs a | none=>none) with | some cs=>mk1 cs b | none=>none
  cases mk0 bs d with
  | none=>rfl
  | some cs=>exact QH cs a b
theorem Yb {bs cs:List Bool}{d:Dat}(h:mk0 bs d=some cs):cs.length=bs.length:=by
 cases d with
 | int k=>
  unfold mk0 at h
  dsimp only at h
  split at h
  ·cases h;exact List.length_set
  ·cases h
 | _=>cases h
theorem QR:∀ {l:List Dat} {bs cs:List Bool},mk1 bs l=some cs->cs.length=bs.length
 | [],bs,cs,h=>by cases h;rfl
 | d :: r,bs,cs,h=>by
  unfold mk1 at h
  cases e:mk0 bs d with
  | none=>rw [e] at h;cases h
  | some ds=>rw [e] at h;rw [QR h,Yb e]
theorem X9 {bs cs:List Bool}{l:List Dat}{i:Nat}{d:Dat}(h:mk1 bs (l.take i)=some cs)(hd:l[i]?=some d)(hb:mk0 cs d=none):mk1 bs l=none:=by
 have hi:=(List.getElem?_eq_some_iff.mp hd).1
 have e:l=l.take i ++ d :: l.drop (i+1):=by
  rw [<- (List.getElem?_eq_some_iff.mp hd).2,<- List.drop_eq_getElem_cons hi,List.take_append_drop]
 rw [e,QH,h]
 show (match mk0 cs d with | some cs=>mk1 cs _ | none=>none)=none
 rw [hb]
theorem Bg {bs cs ds:List Bool}{l:List Dat}{i:Nat}{d:Dat}(h:mk1 bs (l.take i)=some cs)(hd:l[i]?=some d)(hb:mk0 cs d=some ds):mk1 bs (l.take (i+1))=some ds:=by
 rw [List.take_succ,hd,QH,h]
 show (match mk0 cs d with | some cs=>mk1 cs [] | none=>none)=some ds
 rw [hb];rfl
noncomputable def sqD (x:Dat):Option (List Dat):=match x with
 | .lst l=>some l
 | .tup l=>some l
 | _=>none
theorem qL {x:Dat}{l:List Dat}(h:sqD x=some l)(M:MH):zW (.d x) M=some (l.map .d):=by
 cases x <;> first | (cases h;rfl) | cases h
noncomputable def Ed (C:Addr):JO:=fun xs M Q E=>∃ (x:Dat) (l:List Dat) (p:Addr) (bs:List Bool),xs=[.d x,.ref p]/\sqD x=some l/\M p=some (.lst (blA bs))/\l.length<=1000/\(∀ d ∈ l,dp d<=50)/\bs.length<=1000 /\
 (2<=l.length->∀ cs,mk1 bs l=some cs->Q (.d .non) (mup M p (.lst (blA cs))))/\(l.length<2 \/ mk1 bs l=none->∀ cs:List Bool,E C [] (mup M p (.lst (blA cs))))
noncomputable abbrev Qv:Stmt:=top 20
theorem JR:zo ["ring","seen","place"] ["ring","seen"] (zg Qv):=⟨rfl,rfl,rfl,by decide +kernel,rfl,by decide +kernel,by decide +kernel⟩
theorem AM (a:At K mg "mark_ring" Qv)(B:Blt mg){cBadRing:Addr}(XI_BadRing:PySem.W.excIn K cBadRing B9 "ValueError.__new__"=true)(XG_BadRing:mg "BadRing"=some (.ref cBadRing))(D_is_place:Df P w K mg base "is_place" ["thing","n"] 1 (cSp Jv)):DfX P w K mg base "mark_ring" ["ring","seen"] 2 (JI (Ed cBadRing)):=by
 refine Mb (k:=1) a JR (fun _ _ _ _ _ _=>Pn2_ fun _ _=>rfl) (fun xs M Q E h=>?_) (fun f cdv A outer s H HX OX MX E1 hr hD=>?_)
 ·obtain ⟨_,_,_,_,rfl,_⟩:=h;rfl
 have sc:=JR
 have hsl:=hsl
 refine ⟨_,(zc (zP (zn Kw (zt zp rfl B.len zZ (za (pv 0) zb)) ze (zy _)) (zd (wu hD rfl XI_BadRing rfl XG_BadRing (za qM zb))) zB)
  (zd (qv hD.po rfl (ju (pv 0)) (zx (i:=2) sc.nd rfl (by first | exact Or.inl rfl | exact Or.inr rfl)) (zc (zP (xD (jn (zA D_is_place hr rfl (za (pv 2) (za (zt zp rfl B.len zZ (za (pv 1) zb)) zb))) (fun _=>rfl))) (zd (wu hD rfl XI_BadRing rfl XG_BadRing (za qM zb))) zB)
  (zc (zP (jn (zF qm (pv 1) (pv 2) (fun _ _=>rfl)) (fun _=>rfl)) (zd (wu hD rfl XI_BadRing rfl XG_BadRing (za qM zb))) zB)
  (zd (qk jE (qg (pv 1) (pv 2) zE)))))))),?_⟩
 refine exX (by walk_at "sim") ?_
 rintro xs Q E0 rfl ⟨x,l,p,bs,rfl,hx,hp,ll,hdp,lb,q,qe⟩
 rw [show qc ["ring","seen","place"] [.d x,.ref p]=[some (.d x),some (.ref p),none] from rfl]
 have rs:∀ cs:List Bool,(l.length<2 \/ mk1 bs l=none)->exA MX E0 cBadRing [] (mup MX p (.lst (blA cs))):=fun cs h=>⟨_,Yp hp,qe h cs⟩
 refine zw fun r hr0=>?_
 walk_at "ra"
 refine ⟨_,qL hx MX,?_⟩
 rw [List.length_map]
 by_cases c2:l.length<2
 ·rw [if_pos (by omega)]
  have:=rs bs (.inl c2)
  rw [vL hp] at this
  exact ⟨by omega,this⟩
 rw [if_neg (by omega)]
 subst hr0
 walk_at "ra"
 refine ⟨_,qL hx MX,?_⟩
 refine ⟨fun i ρ M'=>∃ (u:Option AV) (cs:List Bool),ρ=[some (.d x),some (.ref p),u]/\M'=mup MX p (.lst (blA cs))/\mk1 bs (l.take i)=some cs,⟨none,bs,rfl,(vL hp).symm,rfl⟩,?_,?_⟩
 ·rintro i y ρ M' hy ⟨u,cs,rfl,rfl,hc⟩
  rw [List.getElem?_map] at hy
  cases e:l[i]? with
  | none=>rw [e] at hy;cases hy
  | some d=>
   rw [e] at hy
   cases hy
   have lc:=QR hc
   refine ⟨qL hx _,?_⟩
   show jZ _ _ _ _ _ _
   walk_at "ra"
   refine ⟨_,qN zl,_,_,rfl,Nat.le_trans (hdp d (List.mem_of_getElem? e)) (by decide),?_⟩
   walk_at "ra"
   by_cases hpl:yA d (cs.length:Int)=false
   ·rw [if_pos hpl]
    refine ⟨by omega,rs cs (.inr (X9 hc e ?_))⟩
    cases d with
    | int k=>
     unfold mk0
     dsimp only
     rw [if_neg]
     intro z
     have:yA (.int k) (cs.length:Int)=true:=by show decide _=true;rw [decide_eq_true_eq];exact ⟨z.1,z.2.1⟩
     rw [hpl] at this;cases this
    | _=>rfl
   ·rw [if_neg hpl]
    obtain ⟨k,rfl,k0,k1⟩:∃ k:Int,d=.int k/\0<=k/\k<(cs.length:Int):=by
     cases d with
     | int k=>
      have:yA (.int k) (cs.length:Int)=true:=by cases z:yA (.int k) (cs.length:Int) with | true=>rfl | false=>exact absurd z hpl
      have:decide (0<=k/\k<(cs.length:Int))=true:=this
      rw [decide_eq_true_eq] at this
      exact ⟨k,rfl,this⟩
     | _=>exact absurd rfl hpl
    obtain ⟨n,rfl⟩:∃ n:Nat,k=n:=⟨k.toNat,by omega⟩
    have hn:n<cs.length:=by omega
    have a1:atI (blA cs) (n:Int)=some (.d (.bl cs[n])):=by
     unfold atI
     rw [List.length_map,ji (by omega) (by omega)]
     show (cs.map fun b=>AV.d (.bl b))[(n:Int).toNat]?=_
     rw [Int.toNat_natCast,List.getElem?_map,List.getElem?_eq_getElem hn];rfl
    have gd:cs.getD (n:Int).toNat true=cs[n]:=by rw [Int.toNat_natCast,List.getD_eq_getElem?_getD,List.getElem?_eq_getElem hn];rfl
    refine ⟨_,qN zl,_,rfl,_,a1,_,rfl,?_⟩
    by_cases cb:cs[n]=true
    ·rw [if_pos cb]
     refine ⟨by omega,rs cs (.inr (X9 hc e ?_))⟩
     unfold mk0
     dsimp only
     rw [if_neg]
     intro z
     rw [gd,cb] at z
     exact absurd z.2.2 (by decide)
    ·rw [if_neg cb]
     refine ⟨_,_,rfl,zl,n,by rw [List.length_map,ji (by omega) (by omega)];rfl,cs.set n true,by unfold blA;rw [List.map_set],Bg hc e ?_⟩
     unfold mk0
     dsimp only
     rw [if_pos ⟨by omega,by omega,by rw [gd];cases z:cs[n] with | true=>exact absurd z cb | false=>rfl⟩,Int.toNat_natCast]
 ·rintro ρ M' ⟨u,cs,rfl,rfl,hc⟩
  refine ⟨qL hx _,?_⟩
  walk_at "ra"
  rw [List.length_map,List.take_length] at hc
  exact ⟨_,_,Yp hp,q (by omega) cs hc⟩
noncomputable def qX {α β:Type}(f:β->α->Option β):β->List α->Option β
 | b,[]=>some b
 | b,a :: r=>match f b a with
  | some c=>qX f c r
  | none=>none
theorem vb {α β:Type}(f:β->α->Option β):∀ (b:β) (x y:List α),qX f b (x ++ y)=match qX f b x with | some c=>qX f c y | none=>none
 | b,[],y=>rfl
 | b,a :: x,y=>by
  show (match f b a with | some c=>qX f c (x ++ y) | none=>none)=match (match f b a with | some c=>qX f c x | none=>none) with | some c=>qX f c y | none=>none
  cases f b a with
  | none=>rfl
  | some c=>exact vb f c x y
theorem VW {α β:Type}{f:β->α->Option β}{b c:β}{l:List α}{i:Nat}{d:α}(h:qX f b (l.take i)=some c)(hd:l[i]?=some d)(hb:f c d=none):qX f b l=none:=by
 have hi:=(List.getElem?_eq_some_iff.mp hd).1
 have e:l=l.take i ++ d :: l.drop (i+1):=by
  rw [<- (List.getElem?_eq_some_iff.mp hd).2,<- List.drop_eq_getElem_cons hi,List.take_append_drop]
 rw [e,vb,h]
 show (match f c d with | some c=>qX f c _ | none=>none)=none
 rw [hb]
theorem Xs {α β:Type}{f:β->α->Option β}{b c e:β}{l:List α}{i:Nat}{d:α}(h:qX f b (l.take i)=some c)(hd:l[i]?=some d)(hb:f c d=some e):qX f b (l.take (i+1))=some e:=by
 rw [List.take_succ,hd,vb,h]
 show (match f c d with | some c=>qX f c [] | none=>none)=some e
 rw [hb];rfl
noncomputable def MG:Dat->Int
 | .int k=>k
 | _=>0
noncomputable def prn (l:List Dat):Nat->List Dat->List Dat
 | 0,os=>os
 | j+1,os=>(prn l j os).set (MG (l.getD (if j=0 then l.length - 1 else j - 1) .non)).toNat (l.getD j .non)
theorem yt (l:List Dat):∀ (j:Nat) (os:List Dat),(prn l j os).length=os.length
 | 0,os=>rfl
 | j+1,os=>by unfold prn;rw [List.length_set,yt l j os]
noncomputable def obs (st:List Bool × List Dat)(l:List Dat):Option (List Bool × List Dat):=if l.length<2 then none else match mk1 st.1 l with
 | some cs=>some (cs,prn l l.length st.2)
 | none=>none
noncomputable def ob0 (n:Nat):List Bool × List Dat:=(List.replicate n false,(zJ 0 1 n).map .int)
theorem JF:∀ {l:List Dat} {bs cs:List Bool},mk1 bs l=some cs->∀ d ∈ l,∃ k:Nat,d=.int k/\k<bs.length
 | [],_,_,_,d,hd=>by simp at hd
 | a :: r,bs,cs,h,d,hd=>by
  unfold mk1 at h
  cases e:mk0 bs a with
  | none=>rw [e] at h;cases h
  | some ds=>
   rw [e] at h
   rcases List.mem_cons.mp hd with rfl | hd
   ·cases d with
    | int k=>
     unfold mk0 at e
     dsimp only at e
     split at e
     ·rename_i z;exact ⟨k.toNat,by rw [Int.toNat_of_nonneg z.1],by omega⟩
     ·cases e
    | _=>cases e
   ·obtain ⟨k,e1,e2⟩:=JF h d hd
    exact ⟨k,e1,by rw [Yb e] at e2;exact e2⟩
theorem F7 {st st':List Bool × List Dat}{l:List Dat}(h:obs st l=some st'):st'.1.length=st.1.length/\st'.2.length=st.2.length:=by
 unfold obs at h
 split at h
 ·cases h
 ·cases e:mk1 st.1 l with
  | none=>rw [e] at h;cases h
  | some cs=>rw [e] at h;cases h;exact ⟨QR e,yt _ _ _⟩
theorem Yg {n:Nat}:∀ {ls:List (List Dat)} {st st':List Bool × List Dat},qX obs st ls=some st'->st.1.length=n/\st.2.length=n->st'.1.length=n/\st'.2.length=n
 | [],st,st',h,k=>by cases h;exact k
 | l :: r,st,st',h,k=>by
  unfold qX at h
  cases e:obs st l with
  | none=>rw [e] at h;cases h
  | some s2=>rw [e] at h;exact Yg h (by have:=F7 e;omega)
theorem DW {M:MH}{p q:Addr}{a b c:MO}(h:q ≠ p):mup (mup (mup M p a) q b) p c=mup (mup M p c) q b:=by
 funext z
 unfold mup
 by_cases c1:z=p
 ·subst c1
  have e1:z ≠ q:=fun e=>h e.symm
  rw [if_pos rfl,if_neg e1,if_pos rfl]
 ·by_cases c2:z=q
  ·rw [if_neg c1,if_pos c2,if_pos c2]
  ·rw [if_neg c1,if_neg c2,if_neg c1,if_neg c2,if_neg c1]
noncomputable def Zu (C:Addr):JO:=fun xs M Q E=>∃ (n:Nat) (x:Dat) (rl:List Dat) (ls:List (List Dat)),xs=[.d (.int n),.d x]/\sqD x=some rl/\rl.map sqD=ls.map some/\n<=1000/\ls.length<=1000/\(∀ l ∈ ls,l.length<=1000/\∀ d ∈ l,dp d<=50) /\
 (∀ st,qX obs (ob0 n) ls=some st->∀ p,M p=none->Q (.ref p) (mup M p (.lst (st.2.map .d))))/\(qX obs (ob0 n) ls=none->E C [] M)
noncomputable abbrev yX:Stmt:=top 21
theorem wG:zo ["n","rings_told","order","seen","ring","at","place"] ["n","rings_told"] (zg yX):=⟨rfl,rfl,rfl,by decide +kernel,rfl,by decide +kernel,by decide +kernel⟩
theorem Xx (a:At K mg "order_by" yX)(B:Blt mg){cBadRing:Addr}(XI_BadRing:PySem.W.excIn K cBadRing B9 "ValueError.__new__"=true)(XG_BadRing:mg "BadRing"=some (.ref cBadRing))(D_staying_o:Df P w K mg base "staying" ["n"] 2 (cSp yQ))(DX_mark_ring:DfX P w K mg base "mark_ring" ["ring","seen"] 2 (JI (Ed cBadRing))):DfX P w K mg base "order_by" ["n","rings_told"] 3 (JI (Zu cBadRing)):=by
 refine Mb (k:=2) a wG (fun _ _ _ _ _ _=>Pn2_ fun _ _=>rfl) (fun xs M Q E h=>?_) (fun f cdv A outer s H HX OX MX E1 hr hD=>?_)
 ·obtain ⟨_,_,_,_,rfl,_⟩:=h;rfl
 have sc:=wG
 have hsl:=hsl
 refine ⟨_,(zc (zC (i:=2) sc.nd rfl (by first | exact Or.inl rfl | exact Or.inr rfl) (zA D_staying_o hr rfl (za (pv 0) zb)))
  (zc (zC (i:=3) sc.nd rfl (by first | exact Or.inl rfl | exact Or.inr rfl) (kS (zu xg (qF (za jE zb)) (pv 0))))
  (zc (qv hD.po rfl (ju (pv 1)) (zx (i:=4) sc.nd rfl (by first | exact Or.inl rfl | exact Or.inr rfl)) (zc (qQ (GL DX_mark_ring hr rfl hD.passX (za (pv 4) (za (pv 3) zb))))
  (zd (qv hD.po rfl (kz rfl B.enumerate (za (pv 4) zb)) (qO (K:=K) 2 rfl rfl (zM (zx (i:=5) sc.nd rfl (by first | exact Or.inl rfl | exact Or.inr rfl)) (zM (zx (i:=6) sc.nd rfl (by first | exact Or.inl rfl | exact Or.inr rfl)) qR))) (zd (qk (pv 6) (qg (pv 2) (zF qm (pv 4) (zu jX (pv 5) ze) (fun _ _=>rfl)) zE)))))))
  (zd (zq (pv 2)))))),?_⟩
 refine exX (by walk_at "sim") ?_
 rintro xs Q E0 rfl ⟨n,x,rl,ls,rfl,hx,hls,hn,hl,hdp,q,qe⟩
 rw [show qc ["n","rings_told","order","seen","ring","at","place"] [.d (.int n),.d x]=[some (.d (.int n)),some (.d x),none,none,none,none,none] from rfl]
 refine zw fun r hr0=>?_
 walk_at "ra"
 refine ⟨n,rfl,hn,fun p hp=>?_⟩
 subst hr0
 refine zw fun r hr0=>?_
 walk_at "ra"
 refine ⟨by omega,by omega,by omega,by omega,fun s0 hs0 hs1=>?_⟩
 subst hr0
 have e0:(List.replicate ((n:Int).toNat) [AV.d (Dat.bl false)]).flatten=blA (List.replicate n false):=by rw [QN,Int.toNat_natCast];simp
 rw [e0]
 have hsp:s0 ≠ p:=fun z=>by rw [z,zl] at hs1;cases hs1
 have hM0:MX s0=none:=by rw [zL hsp] at hs1;exact hs1
 refine zw fun r hr0=>?_
 walk_at "ra"
 refine ⟨_,qL hx _,?_⟩
 have lls:rl.length=ls.length:=by simpa using congrArg List.length hls
 have st0:((ob0 n).2.map AV.d)=(zJ 0 1 n).map fun i=>AV.d (.int i):=by unfold ob0;rw [List.map_map];rfl
 refine ⟨fun i ρ M'=>∃ (u v w:Option AV) (st:List Bool × List Dat),ρ=[some (.d (.int n)),some (.d x),some (.ref p),some (.ref s0),u,v,w]/\M'=mup (mup MX p (.lst (st.2.map .d))) s0 (.lst (blA st.1))/\qX obs (ob0 n) (ls.take i)=some st,⟨none,none,none,ob0 n,rfl,by rw [st0];rfl,rfl⟩,?_,?_⟩
 ·rintro i y ρ M' hy ⟨u,v,w,st,rfl,rfl,hf⟩
  rw [List.getElem?_map] at hy
  cases e:rl[i]? with
  | none=>rw [e] at hy;cases hy
  | some rg=>
   rw [e] at hy
   cases hy
   obtain ⟨l,el,hsq⟩:∃ l,ls[i]?=some l/\sqD rg=some l:=by
    have:=congrArg (fun z:List (Option (List Dat))=>z[i]?) hls
    simp only [List.getElem?_map,e,Option.map_some] at this
    cases z:ls[i]? with
    | none=>rw [z] at this;cases this
    | some l=>rw [z] at this;exact ⟨l,rfl,Option.some.inj this⟩
   obtain ⟨ll,hd50⟩:=hdp l (List.mem_of_getElem? el)
   have sl:=Yg (n:=n) hf ⟨by simp [ob0],by simp [ob0,zr]⟩
   refine ⟨qL hx _,?_⟩
   show jZ _ _ _ _ _ _
   refine zw fun r2 hr2=>?_
   walk_at "ra"
   refine ⟨rg,l,s0,st.1,rfl,hsq,zl,ll,hd50,by omega,fun l2 cs hcs=>?_,fun hb cs=>?_⟩
   ·subst hr2
    rw [xL]
    walk_at "ra"
    have hob:obs st l=some (cs,prn l l.length st.2):=by unfold obs;rw [if_neg (by omega),hcs]
    have his:=JF hcs
    refine ⟨_,qL hsq _,l,qd l,?_⟩
    refine ⟨fun j ρ M'=>∃ (v w:Option AV),ρ=[some (.d (.int n)),some (.d x),some (.ref p),some (.ref s0),some (.d rg),v,w]/\M'=mup (mup MX p (.lst ((prn l j st.2).map .d))) s0 (.lst (blA cs)),⟨_,_,rfl,rfl⟩,?_,?_⟩
    ·rintro j y ρ M' hy ⟨v,w,rfl,rfl⟩
     obtain ⟨d,hd,rfl⟩:=kB hy
     have hj:=(List.getElem?_eq_some_iff.mp hd).1
     obtain ⟨k,rfl,hk⟩:=his d (List.mem_of_getElem? hd)
     refine ⟨qL hsq _,?_⟩
     walk_at "ra"
     obtain ⟨k2,ek2,hk2⟩:∃ k2:Nat,l.getD (if j=0 then l.length - 1 else j - 1) .non=.int k2/\k2<st.1.length:=by
      have hlt:(if j=0 then l.length - 1 else j - 1)<l.length:=by split <;> omega
      rw [List.getD_eq_getElem?_getD,List.getElem?_eq_getElem hlt]
      exact his _ (List.getElem_mem hlt)
     have a1:atI (l.map AV.d) ((j:Int) - 1)=some (.d (.int k2)):=by
      have hlt:(if j=0 then l.length - 1 else j - 1)<l.length:=by split <;> omega
      unfold atI
      have:ixN (l.map AV.d).length ((j:Int) - 1)=some (if j=0 then l.length - 1 else j - 1):=by
       rw [List.length_map]
       by_cases c:j=0
       ·rw [if_pos c]
        unfold ixN
        rw [if_neg (by omega),if_pos (by omega)]
        congr 1
        omega
       ·rw [if_neg c,ji (by omega) (by omega)]
        congr 1
        omega
      rw [this]
      show (l.map AV.d)[(if j=0 then l.length - 1 else j - 1)]?=_
      rw [List.getElem?_map,List.getElem?_eq_getElem hlt]
      rw [List.getD_eq_getElem?_getD,List.getElem?_eq_getElem hlt] at ek2
      exact congrArg (fun d=>some (AV.d d)) ek2
     refine ⟨_,qL hsq _,_,a1,_,_,rfl,by rw [zL (Ne.symm hsp),zl],k2,by rw [List.length_map,yt,ji (by omega) (by omega)];rfl,?_⟩
     rw [DW hsp]
     congr 2
     show _=MO.lst _
     congr 1
     show _=List.map AV.d ((prn l j st.2).set _ _)
     rw [List.map_set,ek2,List.getD_eq_getElem?_getD,hd]
     rfl
    ·rintro ρ M' ⟨v,w,rfl,rfl⟩
     refine ⟨qL hsq _,?_⟩
     dsimp only
     exact ⟨⟨_,_,_,rfl⟩,(cs,prn l l.length st.2),by rw [jL],Xs hf el hob⟩
   ·refine ⟨MX,?_,qe ?_⟩
    ·rw [xL]
     exact Jo ((Fr.refl.mup hp _).mup hM0 _) .non
    ·refine VW hf el ?_
     unfold obs
     rcases hb with hb | hb
     ·rw [if_pos hb]
     ·split
      ·rfl
      ·rw [hb]
 ·rintro ρ M' ⟨u,v,w,st,rfl,rfl,hf⟩
  refine ⟨qL hx _,?_⟩
  subst hr0
  walk_at "ra"
  rw [List.length_map,lls,List.take_length] at hf
  refine ⟨_,_,?_,q st hf p hp⟩
  refine ⟨fun z=>?_,fun z o ez=>?_,.inl ⟨rfl,fun z ez=>by cases ez;rw [zl];exact fun z=>nomatch z⟩⟩
  ·by_cases c1:z=s0
   ·refine .inr ⟨by rw [c1];exact hM0,by rw [c1,zL hsp];exact hM0⟩
   ·exact .inl (by rw [zL c1])
  ·by_cases c1:z=p
   ·rw [c1,zl] at ez
    cases ez
    exact .inr fun r hr=>absurd hr (vF (qd st.2) r)
   ·rw [zL c1] at ez;exact .inl ez
theorem BM:∀ {l:List Int} {bs:List Bool},l.Nodup->(∀ x ∈ l,0<=x/\x<(bs.length:Int)/\bs.getD x.toNat true=false)->∃ cs,mk1 bs (l.map .int)=some cs/\cs.length=bs.length/\∀ i:Nat,i<bs.length->(cs.getD i true=false ↔ bs.getD i true=false/\(i:Int) ∉ l)
 | [],bs,_,_=>⟨bs,rfl,rfl,fun i _=>by simp⟩
 | x :: r,bs,nd,hb=>by
  obtain ⟨x0,x1,x2⟩:=hb x List.mem_cons_self
  have nd':=List.nodup_cons.mp nd
  obtain ⟨cs,h1,h2,h3⟩:=BM (l:=r) (bs:=bs.set x.toNat true) nd'.2 fun y hy=>by
   obtain ⟨y0,y1,y2⟩:=hb y (List.mem_cons_of_mem _ hy)
   refine ⟨y0,by rw [List.length_set];exact y1,?_⟩
   have:y ≠ x:=fun e=>nd'.1 (by rw [<- e];exact hy)
   rw [List.getD_eq_getElem?_getD,List.getElem?_set_ne (by omega),<- List.getD_eq_getElem?_getD];exact y2
  refine ⟨cs,?_,by rw [h2,List.length_set],fun i hi=>?_⟩
  ·show (match mk0 bs (.int x) with | some cs=>mk1 cs (r.map .int) | none=>none)=some cs
   have:mk0 bs (.int x)=some (bs.set x.toNat true):=by unfold mk0;dsimp only;rw [if_pos ⟨x0,x1,x2⟩]
   rw [this];exact h1
  ·rw [h3 i (by rw [List.length_set];exact hi)]
   by_cases c:x.toNat=i
   ·have e:(bs.set x.toNat true).getD i true=true:=by rw [List.getD_eq_getElem?_getD,c,List.getElem?_set_self hi];rfl
    have m:(i:Int) ∈ x :: r:=by rw [show (i:Int)=x by omega];exact List.mem_cons_self
    rw [e]
    exact ⟨fun z=>absurd z.1 (by decide),fun z=>absurd m z.2⟩
   ·have e:(bs.set x.toNat true).getD i true=bs.getD i true:=by rw [List.getD_eq_getElem?_getD,List.getElem?_set_ne c,<- List.getD_eq_getElem?_getD]
    rw [e]
    refine and_congr_right fun _=>?_
    rw [List.mem_cons,not_or]
    exact ⟨fun z=>⟨fun y=>c (by omega),z⟩,fun z=>z.2⟩
theorem y4 {l:List Int}{i:Nat}(h:i<l.length):(l.map Dat.int).getD i .non=.int (l.getD i 0):=by
 rw [List.getD_eq_getElem?_getD,List.getElem?_map,List.getElem?_eq_getElem h,List.getD_eq_getElem?_getD,List.getElem?_eq_getElem h];rfl
theorem Yc {n:Nat}{os:List Int}{l:List Int}(hl:2<=l.length)(hb:∀ x ∈ l,0<=x/\x<(n:Int))(nx:∀ k,k<l.length->os.getD (l.getD k 0).toNat 0=l.getD ((k+1) % l.length) 0){os':List Dat}(ho:os'.length=n) :
  ∀ j,j<=l.length->∀ x:Nat,x<n->(prn (l.map .int) j os').getD x .non=if (∃ k,k<j/\l.getD (if k=0 then l.length - 1 else k - 1) 0=(x:Int)) then .int (os.getD x 0) else os'.getD x .non
 | 0,_,x,_=>by rw [if_neg (by rintro ⟨k,hk,_⟩;omega)];rfl
 | j+1,hj,x,hx=>by
  have ih:=Yc hl hb nx ho j (by omega) x hx
  have pl:(if j=0 then l.length - 1 else j - 1)<l.length:=by split <;> omega
  have gi:=hb _ (List.getElem_mem pl)
  have ge:l.getD (if j=0 then l.length - 1 else j - 1) 0=l[(if j=0 then l.length - 1 else j - 1)]:=by rw [List.getD_eq_getElem?_getD,List.getElem?_eq_getElem pl];rfl
  rw [<- ge] at gi
  unfold prn
  rw [List.length_map,y4 pl,y4 (by omega)]
  show ((prn (l.map .int) j os').set (l.getD (if j=0 then l.length - 1 else j - 1) 0).toNat _).getD x .non=_
  by_cases c:l.getD (if j=0 then l.length - 1 else j - 1) 0=(x:Int)
  ·rw [if_pos (show ∃ k,k<j+1/\l.getD (if k=0 then l.length - 1 else k - 1) 0=(x:Int) from ⟨j,by omega,c⟩),c,Int.toNat_natCast,List.getD_eq_getElem?_getD,List.getElem?_set_self (by rw [yt,ho];exact hx)]
   have:=nx _ pl
   rw [c,Int.toNat_natCast] at this
   have em:((if j=0 then l.length - 1 else j - 1)+1) % l.length=j:=by
    by_cases z:j=0
    ·rw [if_pos z,z,Nat.sub_add_cancel (by omega),Nat.mod_self]
    ·rw [if_neg z,Nat.sub_add_cancel (by omega),Nat.mod_eq_of_lt (by omega)]
   rw [em] at this
   rw [this];rfl
  ·rw [List.getD_eq_getElem?_getD,List.getElem?_set_ne (by omega),<- List.getD_eq_getElem?_getD,ih]
   by_cases c2:∃ k,k<j/\l.getD (if k=0 then l.length - 1 else k - 1) 0=(x:Int)
   ·rw [if_pos c2,if_pos (let ⟨k,h1,h2⟩:=c2;⟨k,by omega,h2⟩)]
   ·rw [if_neg c2,if_neg]
    rintro ⟨k,h1,h2⟩
    by_cases e:k=j
    ·subst e;exact c h2
    ·exact c2 ⟨k,by omega,h2⟩
theorem Y8 {l:List Int}(hl:2<=l.length)(x:Nat):(∃ k,k<l.length/\l.getD (if k=0 then l.length - 1 else k - 1) 0=(x:Int)) ↔ (x:Int) ∈ l:=by
 constructor
 ·rintro ⟨k,hk,e⟩
  have pl:(if k=0 then l.length - 1 else k - 1)<l.length:=by split <;> omega
  rw [List.getD_eq_getElem?_getD,List.getElem?_eq_getElem pl] at e
  rw [<- e];exact List.getElem_mem pl
 ·intro h
  obtain ⟨i,hi,e⟩:=List.getElem_of_mem h
  refine ⟨(i+1) % l.length,Nat.mod_lt _ (by omega),?_⟩
  have:(if (i+1) % l.length=0 then l.length - 1 else (i+1) % l.length - 1)=i:=by
   by_cases c:i+1=l.length
   ·rw [c,Nat.mod_self,if_pos rfl];omega
   ·rw [Nat.mod_eq_of_lt (by omega),if_neg (by omega)];omega
  rw [this,List.getD_eq_getElem?_getD,List.getElem?_eq_getElem hi];exact e
noncomputable abbrev dIs (rs:List (List Int)):List (List Dat):=rs.map fun r=>r.map .int
theorem Vf {n:Nat}{os:List Int}:∀ {rs:List (List Int)} {bs:List Bool} {o:List Dat} {D:List Int},bs.length=n->o.length=n->(∀ r ∈ rs,2<=r.length)->(∀ r ∈ rs,∀ x ∈ r,0<=x/\x<(n:Int))->(∀ r ∈ rs,∀ k,k<r.length->os.getD (r.getD k 0).toNat 0=r.getD ((k+1) % r.length) 0)->(D ++ rs.flatten).Nodup ->
  (∀ i:Nat,i<n->(bs.getD i true=false ↔ (i:Int) ∉ D))->(∀ x:Nat,x<n->o.getD x .non=if (x:Int) ∈ D then .int (os.getD x 0) else .int x) ->
  ∃ st,qX obs (bs,o) (dIs rs)=some st/\st.2.length=n/\∀ x:Nat,x<n->st.2.getD x .non=if (x:Int) ∈ D ++ rs.flatten then .int (os.getD x 0) else .int x
 | [],bs,o,D,hb,ho,_,_,_,_,_,h2=>⟨(bs,o),rfl,ho,fun x hx=>by rw [List.flatten_nil,List.append_nil];exact h2 x hx⟩
 | r :: rs,bs,o,D,hb,ho,hl,hbd,hnx,nd,h1,h2=>by
  have hl0:=hl r List.mem_cons_self
  have hbd0:=hbd r List.mem_cons_self
  have hnx0:=hnx r List.mem_cons_self
  rw [List.flatten_cons,<- List.append_assoc] at nd
  have nd1:=(List.nodup_append.mp nd).1
  have ndr:=(List.nodup_append.mp nd1).2.1
  have dj:=(List.nodup_append.mp nd1).2.2
  obtain ⟨cs,c1,c2,c3⟩:=BM (l:=r) (bs:=bs) ndr fun x hx=>by
   have:=hbd0 x hx
   refine ⟨this.1,by omega,?_⟩
   refine (h1 x.toNat (by omega)).mpr fun z=>?_
   rw [Int.toNat_of_nonneg this.1] at z
   exact dj x z x hx rfl
  obtain ⟨st,e1,e2,e3⟩:=Vf (rs:=rs) (bs:=cs) (o:=prn (r.map .int) (r.map Dat.int).length o) (D:=D ++ r) (by omega) (by rw [yt];exact ho) (fun r' hr'=>hl r' (List.mem_cons_of_mem _ hr')) (fun r' hr'=>hbd r' (List.mem_cons_of_mem _ hr')) (fun r' hr'=>hnx r' (List.mem_cons_of_mem _ hr')) nd
   (fun i hi=>by rw [c3 i (by omega),h1 i hi,List.mem_append,not_or])
   (fun x hx=>by
    rw [List.length_map,Yc (os:=os) hl0 hbd0 hnx0 ho _ (Nat.le_refl _) x hx]
    by_cases c:(x:Int) ∈ r
    ·rw [if_pos ((Y8 hl0 x).mpr c),if_pos (List.mem_append_right _ c)]
    ·rw [if_neg (fun z=>c ((Y8 hl0 x).mp z)),h2 x hx]
     by_cases d:(x:Int) ∈ D
     ·rw [if_pos d,if_pos (List.mem_append_left _ d)]
     ·rw [if_neg d,if_neg (fun z=>(List.mem_append.mp z).elim d c)])
  refine ⟨st,?_,e2,fun x hx=>?_⟩
  ·have:obs (bs,o) (r.map .int)=some (cs,prn (r.map .int) (r.map Dat.int).length o):=by unfold obs;rw [if_neg (by rw [List.length_map];omega),c1]
   rw [show dIs (r :: rs)=r.map .int :: dIs rs from rfl]
   unfold qX
   rw [this];exact e1
  ·rw [e3 x hx,List.flatten_cons,List.append_assoc]
theorem FC {n:Nat}{os:List Int}{rs:List (List Int)}(h:zj n os)(g:Yo n os rs):∃ st,qX obs (ob0 n) (dIs rs)=some st/\st.2=os.map .int:=by
 obtain ⟨st,e1,e2,e3⟩:=Vf (n:=n) (os:=os) (rs:=rs) (bs:=List.replicate n false) (o:=(zJ 0 1 n).map .int) (D:=[]) (by simp) (by rw [List.length_map,zr]) (fun r hr=>(g.len r hr).1) g.bd g.nx (by rw [List.nil_append];exact g.nd)
  (fun i hi=>by rw [List.getD_eq_getElem?_getD,List.getElem?_replicate,if_pos hi];simp)
  (fun x hx=>by rw [if_neg (by simp),y4 (by rw [zr];exact hx),zY n hx])
 refine ⟨st,e1,?_⟩
 refine List.ext_getElem (by rw [e2,List.length_map,h.1]) fun x h1 h2=>?_
 have:=e3 x (by omega)
 rw [List.nil_append,List.getD_eq_getElem?_getD,List.getElem?_eq_getElem h1] at this
 have this:st.2[x]=_:=this
 rw [this,List.getElem_map]
 have eo:os.getD x 0=os[x]'(by rw [h.1];omega):=by rw [List.getD_eq_getElem?_getD,List.getElem?_eq_getElem (by rw [h.1];omega)];rfl
 by_cases c:(x:Int) ∈ rs.flatten
 ·rw [if_pos c,eo]
 ·rw [if_neg c,<- eo,g.st x (by omega) c]
noncomputable abbrev Tst (c:AT)(ρ:ASt)(M:MH)(b:Bool):Prop:=∀ Q,Q b M->c ρ M Q
theorem kZ {c:AT}{ρ:ASt}{M:MH}{b b':Bool}(h:Tst c ρ M b)(e:b=b'):Tst c ρ M b':=e ▸ h
theorem Nd {c d:AT}{ρ:ASt}{M:MH}(h:Tst c ρ M false):Tst (Mg c d) ρ M false:=fun Q q=>h _ (by rw [if_neg (fun z=>nomatch z)];exact q)
theorem KB {c d:AT}{ρ:ASt}{M:MH}{b:Bool}(h:Tst c ρ M false)(h':Tst d ρ M b):Tst (aOr c d) ρ M b:=fun Q q=>h _ (by rw [if_neg (fun z=>nomatch z)];exact h' _ q)
theorem KA {c:AT}{t r:AS}{B:MH}{D:j5}{ρ:ASt}{M:MH}(h:Tst c ρ M false)(k:r B D ρ M):jZ (vD c t ya) r B D ρ M:=h _ (by rw [if_neg (fun z=>nomatch z)];exact k)
theorem El {w:Dat}{ps:List Dat}:atI (AV.d w :: ps.map AV.d) 0=some (.d w):=by
 unfold atI
 rw [ji (by omega) (by rw [List.length_cons];omega)]
 rfl
theorem tW {i:Nat}{w w':Str}{ps:List Dat}{ρ:ASt}{M:MH}(hρ:ρ[i]?=some (some (.d (.tup (.str w :: ps))))):Tst (aB (aOp (Bh id) (aOp (aIx zW) (qh i) (aC (.int 0))) (aC (.str w')))) ρ M (decide (w=w')):=fun Q q=>by
 refine ⟨_,hρ,_,0,.d (.str w),rfl,rfl,El,_,_,rfl,rfl,by rw [wm];omega,by rw [wm];omega,_,rfl,?_⟩
 rw [Qc]
 exact q
theorem tNN {i:Nat}{x:AV}{ρ:ASt}{M:MH}(hρ:ρ[i]?=some (some x)):Tst (aB (aOp (vx not) (qh i) (aC .non))) ρ M (!kr x):=fun Q q=>⟨_,hρ,rfl,_,rfl,q⟩
theorem tIN {i:Nat}{x:AV}{ρ:ASt}{M:MH}(hρ:ρ[i]?=some (some x)):Tst (aB (aOp (vx id) (qh i) (aC .non))) ρ M (kr x):=fun Q q=>⟨_,hρ,rfl,_,rfl,q⟩
theorem ifT {c:AT}{t e:AS}{B:MH}{D:j5}{ρ:ASt}{M:MH}(h:Tst c ρ M true)(k:t B D ρ M):vD c t e B D ρ M:=h _ (by rw [if_pos rfl];exact k)
theorem ifF {c:AT}{t e:AS}{B:MH}{D:j5}{ρ:ASt}{M:MH}(h:Tst c ρ M false)(k:e B D ρ M):vD c t e B D ρ M:=h _ (by rw [if_neg (fun z=>nomatch z)];exact k)
theorem yu {R:List (Option Int)}{p:Nat}{c:Option Int}(h:R[p]?=some c):ixN ((R.map cD).map AV.d).length (p:Int)=some p/\atI ((R.map cD).map AV.d) (p:Int)=some (.d (cD c)):=by
 have hp:=(List.getElem?_eq_some_iff.mp h).1
 have e:ixN ((R.map cD).map AV.d).length (p:Int)=some p:=by rw [ji (by omega) (by rw [List.length_map,List.length_map];omega),Int.toNat_natCast]
 refine ⟨e,?_⟩
 unfold atI
 rw [e]
 show ((R.map cD).map AV.d)[p]?=_
 rw [List.getElem?_map,List.getElem?_map,h];rfl
theorem wq {w:Str}{p:Int}{l:List Dat}:atI (((Dat.str w :: .int p :: l)).map AV.d) 1=some (.d (.int p)):=by
 unfold atI
 rw [ji (by omega) (by simp only [List.length_map,List.length_cons];omega)]
 rfl
theorem Ha {w:Str}{p g:Int}{l:List Dat}:atI (((Dat.str w :: .int p :: .int g :: l)).map AV.d) 2=some (.d (.int g)):=by
 unfold atI
 rw [ji (by omega) (by simp only [List.length_map,List.length_cons];omega)]
 rfl
theorem Qh (R:List (Option Int))(p:Nat)(c:Option Int):((R.map cD).map AV.d).set p (.d (cD c))=((R.set p c).map cD).map AV.d:=by rw [List.map_set,List.map_set]
theorem DM (c:Option Int):kr (.d (cD c))=c.isNone:=by cases c <;> rfl
theorem wx {B M':MH}{D:j5}{pm:Addr}{mv:List Int}{x0:Int}{i:Nat}{ρ:ASt}(h2:M' pm=some (.lst (mv.map fun i=>.d (.int i))))(h5:ρ[5]?=some (some (.ref pm)))(hi:ρ[i]?=some (some (.d (.int x0))))(b0:0<=x0)(b1:x0<mv.length)
  (k:∀ mv':List Int,mv'.length=mv.length->D.nx ρ (mup M' pm (.lst (mv'.map fun i=>.d (.int i))))) :
  WO (aOp (aI0 fun i j=>Dat.int (i+j)) (aOp (aIx zW) (qh 5) (qh i)) (aC (Dat.int 1))) (xV (qh 5) (qh i) asL) B D ρ M':=by
 have e1:=kh (ns:=mv) (i:=x0) b0 (by omega)
 walk_at "ra"
 refine ⟨_,h5,_,hi,_,qN h2,x0,rfl,_,e1,_,rfl,_,h5,_,hi,?_⟩
 refine ⟨pm,rfl,_,x0,rfl,h2,x0.toNat,by rw [List.length_map,ji b0 (by omega)],?_⟩
 have:=k (mv.set x0.toNat (mv.getD x0.toNat 0+1)) (by rw [List.length_set])
 rw [List.map_set] at this
 exact this
theorem VY {B M':MH}{D:j5}{pr pm:Addr}{R:List (Option Int)}{mv:List Int}{x0:Int}{p:Nat}{a0 a1 v w x:Option AV}(ne:pm ≠ pr)(h1:M' pr=some (.lst ((R.map cD).map .d)))(h2:M' pm=some (.lst (mv.map fun i=>.d (.int i))))(g1:R[p]?=some (some x0))(b0:0<=x0)(b1:x0<mv.length)
  (k:∀ mv':List Int,mv'.length=mv.length->D.nx [a0,a1,some (.d (deD (.take p))),some (.ref pr),some (.d (cD (some x0))),some (.ref pm),v,w,x] (mup (mup M' pr (.lst (((R.set p none).map cD).map .d))) pm (.lst (mv'.map fun i=>.d (.int i))))) :
  (jZ
   (vD
    (aOr (aB (aOp (vx not) (qh 4) (aC Dat.non)))
     (aB (aOp (vx id) (aOp (aIx zW) (qh 3) (aOp (aIx zW) (qh 2) (aC (Dat.int 1)))) (aC Dat.non))))
    (BO (aC Dat.non)) ya)
   (jZ
    (xU (kY (aC Dat.non) (kY (aOp (aIx zW) (qh 3) (aOp (aIx zW) (qh 2) (aC (Dat.int 1)))) XQ)) 2
     (xh (xV (qh 3) (aOp (aIx zW) (qh 2) (aC (Dat.int 1))) asL) (xh (jQ 4) JE)))
    (WO (aOp (aI0 fun i j=>Dat.int (i+j)) (aOp (aIx zW) (qh 5) (qh 4)) (aC (Dat.int 1)))
     (xV (qh 5) (qh 4) asL)))) B D [a0,a1,some (.d (deD (.take p))),some (.ref pr),some (.d (cD none)),some (.ref pm),v,w,x] M':=by
 have hsl:=hsl
 refine KA (KB (kZ (tNN rfl) rfl) fun Q q=>?_) ?_
 ·unfold deD
  walk_at "ra"
  exact ⟨_,wq (l:=[]),_,qN h1,_,rfl,_,(yu g1).2,q⟩
 ·refine zw fun r hr0=>?_
  show xU _ _ _ _ _ _ _
  unfold xU deD
  walk_at "ra"
  refine ⟨_,wq (l:=[]),_,qN h1,_,rfl,_,(yu g1).2,by omega,_,wq (l:=[]),_,_,rfl,h1,_,(yu g1).1,?_⟩
  rw [show AV.d .non=AV.d (cD none) from rfl,Qh]
  subst hr0
  exact wx (i:=4) ((zL ne).trans h2) rfl rfl b0 b1 k
theorem BV {B M':MH}{D:j5}{pr pm:Addr}{R:List (Option Int)}{mv:List Int}{x0:Int}{p:Nat}{a0 a1 v w x:Option AV}(ne:pm ≠ pr)(h1:M' pr=some (.lst ((R.map cD).map .d)))(h2:M' pm=some (.lst (mv.map fun i=>.d (.int i))))(g1:R[p]?=some none)(b0:0<=x0)(b1:x0<mv.length)
  (k:∀ mv':List Int,mv'.length=mv.length->D.nx [a0,a1,some (.d (deD (.lay p))),some (.ref pr),some (.d (cD none)),some (.ref pm),v,w,x] (mup (mup M' pm (.lst (mv'.map fun i=>.d (.int i)))) pr (.lst (((R.set p (some x0)).map cD).map .d)))) :
  (jZ
    (vD
     (aOr (aB (aOp (vx id) (qh 4) (aC Dat.non)))
      (aB (aOp (vx not) (aOp (aIx zW) (qh 3) (aOp (aIx zW) (qh 2) (aC (Dat.int 1)))) (aC Dat.non))))
     (BO (aC Dat.non)) ya)
    (jZ
     (WO (aOp (aI0 fun i j=>Dat.int (i+j)) (aOp (aIx zW) (qh 5) (qh 4)) (aC (Dat.int 1)))
      (xV (qh 5) (qh 4) asL))
     (xU (kY (qh 4) (kY (aC Dat.non) XQ)) 2
      (xh (xV (qh 3) (aOp (aIx zW) (qh 2) (aC (Dat.int 1))) asL) (xh (jQ 4) JE))))) B D [a0,a1,some (.d (deD (.lay p))),some (.ref pr),some (.d (cD (some x0))),some (.ref pm),v,w,x] M':=by
 have hsl:=hsl
 refine KA (KB (kZ (tIN rfl) rfl) fun Q q=>?_) ?_
 ·unfold deD
  walk_at "ra"
  exact ⟨_,wq (l:=[]),_,qN h1,_,rfl,_,(yu g1).2,q⟩
 ·show jZ _ _ _ _ _ _
  refine wx (i:=4) h2 rfl rfl b0 b1 fun mv' hm=>?_
  have h3:mup M' pm (.lst (mv'.map fun i=>.d (.int i))) pr=some (.lst ((R.map cD).map .d)):=(zL (Ne.symm ne)).trans h1
  dsimp only
  unfold xU deD
  walk_at "ra"
  refine ⟨by omega,_,wq (l:=[]),_,_,rfl,h3,_,(yu g1).1,?_⟩
  rw [Qh]
  exact k mv' hm
theorem ZQ {B M':MH}{D:j5}{pr pm:Addr}{R:List (Option Int)}{mv:List Int}{x0:Int}{c:Option Int}{p g:Nat}{wd:Str}{b:Bool}{a0 a1 a4 v w x:Option AV}(ne:pm ≠ pr)(h1:M' pr=some (.lst ((R.map cD).map .d)))(h2:M' pm=some (.lst (mv.map fun i=>.d (.int i))))(g1:R[p]?=some (some x0))(g2:R[g]?=some c)(npg:p ≠ g)(b0:0<=x0)(b1:x0<mv.length)(bc:∀ z,c=some z->0<=z/\z<mv.length)(hb:decide (wd=Str.ofString "move")=b)(hc:c.isNone=b)
  (k:∀ (mv':List Int) (u:Dat),mv'.length=mv.length->D.nx [a0,a1,some (.d (.tup [.str wd,.int p,.int g])),some (.ref pr),a4,some (.ref pm),some (.d u),some (.d (.int x0)),some (.d (cD c))] (mup (mup M' pr (.lst ((((R.set p c).set g (some x0)).map cD).map .d))) pm (.lst (mv'.map fun i=>.d (.int i))))) :
  (jZ
    (Ih 7 8
     (kY (aOp (aIx zW) (qh 3) (aOp (aIx zW) (qh 2) (aC (Dat.int 1))))
      (kY (aOp (aIx zW) (qh 3) (aOp (aIx zW) (qh 2) (aC (Dat.int 2)))) XQ)))
    (jZ
     (vD
      (aOr (aB (aOp (vx id) (qh 7) (aC Dat.non)))
       (aB
        (aOp (Bh not) (aOp (vx id) (qh 8) (aC Dat.non))
         (aOp (Bh id) (aOp (aIx zW) (qh 2) (aC (Dat.int 0))) (aC (Dat.str (Str.ofString "move")))))))
      (BO (aC Dat.non)) ya)
     (jZ
      (xU (kY (qh 8) (kY (qh 7) XQ)) 2
       (xh (xV (qh 3) (aOp (aIx zW) (qh 2) (aC (Dat.int 1))) asL)
        (xh (xV (qh 3) (aOp (aIx zW) (qh 2) (aC (Dat.int 2))) asL) JE)))
      (Ff (aiS (HY (kY (qh 7) (kY (qh 8) XQ)))) (jQ 6)
       (vD (aB (aOp (vx not) (qh 6) (aC Dat.non)))
        (WO (aOp (aI0 fun i j=>Dat.int (i+j)) (aOp (aIx zW) (qh 5) (qh 6)) (aC (Dat.int 1)))
         (xV (qh 5) (qh 6) asL))
        ya))))) B D [a0,a1,some (.d (.tup [.str wd,.int p,.int g])),some (.ref pr),a4,some (.ref pm),v,w,x] M':=by
 have hsl:=hsl
 refine zw fun r hr0=>?_
 walk_at "ra"
 refine ⟨_,wq (l:=[.int g]),_,qN h1,_,rfl,_,(yu g1).2,_,Ha (l:=[]),_,qN h1,_,rfl,_,(yu g2).2,?_⟩
 subst hr0
 refine KA (KB (kZ (tIN rfl) rfl) fun Q q=>?_) ?_
 ·walk_at "ra"
  refine ⟨_,rfl,_,rfl,by rw [wm];omega,?_⟩
  rw [DM,Qc,hc,hb,decide_eq_true rfl]
  exact q
 refine zw fun r hr0=>?_
 show xU _ _ _ _ _ _ _
 unfold xU
 walk_at "ra"
 have g3:(R.set p c)[g]?=some c:=by rw [List.getElem?_set,if_neg npg];exact g2
 refine ⟨by omega,_,wq (l:=[.int g]),_,_,rfl,h1,_,(yu g1).1,_,Ha (l:=[]),?_⟩
 rw [Qh]
 refine ⟨_,_,rfl,zl,_,(yu g3).1,?_⟩
 rw [Qh]
 have h3:mup M' pr (.lst ((((R.set p c).set g (some x0)).map cD).map .d)) pm=some (.lst (mv.map fun i=>.d (.int i))):=(zL ne).trans h2
 generalize hM:mup M' pr (.lst ((((R.set p c).set g (some x0)).map cD).map .d))=M2 at *
 subst hr0
 walk_at "ra"
 refine ⟨by omega,fun i ρ M'=>∃ (mv':List Int) (o:Option AV),mv'.length=mv.length/\ρ=[a0,a1,some (.d (.tup [.str wd,.int p,.int g])),some (.ref pr),a4,some (.ref pm),o,some (.d (cD (some x0))),some (.d (cD c))]/\M'=mup M2 pm (.lst (mv'.map fun i=>.d (.int i)))/\(1<=i->∃ u,o=some (.d u)),⟨mv,_,rfl,rfl,(vL h3).symm,fun z=>by omega⟩,?_,?_⟩
 ·rintro i y ρ M3 hy ⟨mv',o,lm,rfl,rfl,-⟩
  have hy:∃ e:Option Int,y=.d (cD e)/\∀ z,e=some z->0<=z/\z<mv.length:=by
   match i,hy with
   | 0,hy=>cases hy;exact ⟨some x0,rfl,fun z hz=>by cases hz;exact ⟨b0,b1⟩⟩
   | 1,hy=>cases hy;exact ⟨c,rfl,bc⟩
   | i+2,hy=>exact absurd hy (by simp)
  obtain ⟨e,rfl,be⟩:=hy
  refine ⟨trivial,?_⟩
  show vD _ _ _ _ _ _ _
  cases e with
  | none=>exact ifF (kZ (tNN (i:=6) rfl) rfl) ⟨mv',_,lm,rfl,rfl,fun _=>⟨_,rfl⟩⟩
  | some z=>
   obtain ⟨z0,z1⟩:=be z rfl
   refine ifT (kZ (tNN (i:=6) rfl) rfl) (wx (i:=6) (x0:=z) zl rfl rfl z0 (by omega) fun mv2 l2=>?_)
   rw [xL]
   exact ⟨mv2,_,by omega,rfl,rfl,fun _=>⟨_,rfl⟩⟩
 ·rintro ρ M3 ⟨mv',o,lm,rfl,rfl,ho⟩
  obtain ⟨u,rfl⟩:=ho (by simp)
  refine ⟨trivial,?_⟩
  exact k mv' u lm
noncomputable def OkE (n:Nat)(s:ES):Prop:=s.1.length=n/\∀ x:Int,(some x ∈ s.1 \/ s.2=some x)->0<=x/\x<(n:Int)
theorem OkE.do {n:Nat}{d:De}{s t:ES}(h:OkE n s)(e:DoE d s t):OkE n t:=by
 obtain ⟨h1,h3⟩:=h
 cases e with
 | swap ne hp hg=>
  refine ⟨by simpa using h1,fun x hx=>?_⟩
  rcases hx with z | z
  ·rcases List.mem_or_eq_of_mem_set z with z | z
   ·rcases List.mem_or_eq_of_mem_set z with z | z
    ·exact h3 x (.inl z)
    ·injection z with z
     subst z
     exact h3 _ (.inl (List.mem_of_getElem? hg))
   ·injection z with z
    subst z
    exact h3 _ (.inl (List.mem_of_getElem? hp))
  ·exact h3 x (.inr z)
 | take hp=>
  refine ⟨by simpa using h1,fun x hx=>?_⟩
  rcases hx with z | z
  ·rcases List.mem_or_eq_of_mem_set z with z | z
   ·exact h3 x (.inl z)
   ·cases z
  ·have z:some _=some x:=z
   injection z with z
   subst z
   exact h3 _ (.inl (List.mem_of_getElem? hp))
 | move hp hg=>
  refine ⟨by simpa using h1,fun x hx=>?_⟩
  rcases hx with z | z
  ·rcases List.mem_or_eq_of_mem_set z with z | z
   ·rcases List.mem_or_eq_of_mem_set z with z | z
    ·exact h3 x (.inl z)
    ·cases z
   ·injection z with z
    subst z
    exact h3 _ (.inl (List.mem_of_getElem? hp))
  ·exact h3 x (.inr z)
 | lay hg=>
  refine ⟨by simpa using h1,fun x hx=>?_⟩
  rcases hx with z | z
  ·rcases List.mem_or_eq_of_mem_set z with z | z
   ·exact h3 x (.inl z)
   ·injection z with z
    subst z
    exact h3 _ (.inr rfl)
  ·cases z
noncomputable def Pu (M0 M:MH):Prop:=∀ q o,M q=some o->M0 q=some o \/ ∀ r,¬ wr r o
theorem Pu.refl {M:MH}:Pu M M:=fun _ _ h=>.inl h
theorem Pu.mup {M0 M:MH}(h:Pu M0 M)(p:Addr)(l:List Dat):Pu M0 (mup M p (.lst (l.map .d))):=fun q o e=>by
 by_cases c:q=p
 ·rw [c,zl] at e
  cases e
  exact .inr fun r hr=>vF (qd l) r hr
 ·rw [zL c] at e;exact h q o e
theorem Pu.mdel {M0 M:MH}(h:Pu M0 M)(p:Addr):Pu M0 (mdel M p):=fun q o e=>by
 by_cases c:q=p
 ·rw [c,vc] at e;cases e
 ·rw [jK c] at e;exact h q o e
noncomputable def BN:ASp:=fun xs M Q=>∃ (n:Nat) (y:AV) (ds:List De) (T:List (Option Int)) (h:Option Int),xs=[.d (.int n),y]/\zW y M=some ((ds.map deD).map .d)/\xA ds (jR n) (T,h)/\n<=1000/\∀ mv:List Int,Q (.d (.tup [.lst (T.map cD),cD h,.lst (mv.map .int)])) M
noncomputable abbrev Xt:Stmt:=top 47
theorem Vj:zo ["_law_n","_law_plan","_law_deed","_law_row","_law_hand","_law_moved","_law_thing","_law_one","_law_other"] ["_law_n","_law_plan"] (zg Xt):=⟨rfl,rfl,rfl,by decide +kernel,rfl,by decide +kernel,by decide +kernel⟩
theorem Gq (a:At K mg "_law_gone" Xt)(B:Blt mg):Df P w K mg base "_law_gone" ["_law_n","_law_plan"] 1 (cSp BN):=by
 refine dfA (k:=0) a Vj (fun _ _ _ _ _ _=>Pn2_ fun _ _=>rfl) (fun xs M Q h=>?_) (fun f cdv A outer s H E hr=>?_)
 ·obtain ⟨_,_,_,_,_,rfl,_⟩:=h;rfl
 have sc:=Vj
 have hsl:=hsl
 refine ⟨_,(zc (FS (i:=3) (j:=4) (k:=5) rfl sc.nd rfl rfl rfl (by decide) (by decide) (by decide) rfl rfl rfl (za (kS (zK (qj rfl) rfl B.list je (za (zK qK rfl B.range jw (za (pv 0) zb)) zb))) (za qf (za (kS (zu xg (qF (za ze zb)) (pv 0))) zb))) rfl)
  (zc (qv PassesOwn.never rfl (ju (pv 1)) (zx (i:=2) sc.nd rfl (by first | exact Or.inl rfl | exact Or.inr rfl)) (zd (zP (zn (Zf hr.units) (zF qm (pv 2) ze (fun _ _=>rfl)) qM (zy _)) (zc (zP (PW.pt (ki (zn kE (pv 4) qf (zy _)) (jC (zn xm (zF qm (pv 3) (zF qm (pv 2) ze (fun _ _=>rfl)) (fun _ _=>rfl)) qf (zy _))))) (zd (zq qf)) zB)
  (zc (qk (jl (za qf (za (zF qm (pv 3) (zF qm (pv 2) ze (fun _ _=>rfl)) (fun _ _=>rfl)) zb))) (qO (K:=K) 2 rfl rfl (zM (qg (pv 3) (zF qm (pv 2) ze (fun _ _=>rfl)) zE) (zM (zx (i:=4) sc.nd rfl (by first | exact Or.inl rfl | exact Or.inr rfl)) qR))))
  (zd (qk (zu zX (zF qm (pv 5) (pv 4) (fun _ _=>rfl)) ze) (qg (pv 5) (pv 4) zE))))) (zd (zP (zn (Zf hr.units) (zF qm (pv 2) ze (fun _ _=>rfl)) qM (zy _)) (zc (zP (PW.pt (ki (zn xm (pv 4) qf (zy _)) (jC (zn kE (zF qm (pv 3) (zF qm (pv 2) ze (fun _ _=>rfl)) (fun _ _=>rfl)) qf (zy _))))) (zd (zq qf)) zB)
  (zc (qk (zu zX (zF qm (pv 5) (pv 4) (fun _ _=>rfl)) ze) (qg (pv 5) (pv 4) zE))
  (zd (qk (jl (za (pv 4) (za qf zb))) (qO (K:=K) 2 rfl rfl (zM (qg (pv 3) (zF qm (pv 2) ze (fun _ _=>rfl)) zE) (zM (zx (i:=4) sc.nd rfl (by first | exact Or.inl rfl | exact Or.inr rfl)) qR))))))) (zc (Qy (i:=7) (j:=8) rfl sc.nd rfl rfl (by decide) rfl rfl (za (zF qm (pv 3) (zF qm (pv 2) ze (fun _ _=>rfl)) (fun _ _=>rfl)) (za (zF qm (pv 3) (zF qm (pv 2) ze (fun _ _=>rfl)) (fun _ _=>rfl)) zb)) rfl)
  (zc (zP (PW.pt (ki (zn xm (pv 7) qf (zy _)) (jC (zn (qZ hr.units) (vH xm (pv 8) qf (zy _)) (vH (Zf hr.units) (zF qm (pv 2) ze (fun _ _=>rfl)) qM (zy _)) (zy _))))) (zd (zq qf)) zB)
  (zc (qk (jl (za (pv 8) (za (pv 7) zb))) (qO (K:=K) 2 rfl rfl (zM (qg (pv 3) (zF qm (pv 2) ze (fun _ _=>rfl)) zE) (zM (qg (pv 3) (zF qm (pv 2) ze (fun _ _=>rfl)) zE) qR))))
  (zd (qv PassesOwn.never rfl (ju (jl (za (pv 7) (za (pv 8) zb)))) (zx (i:=6) sc.nd rfl (by first | exact Or.inl rfl | exact Or.inr rfl)) (zd (zP (zn kE (pv 6) qf (zy _)) (zd (qk (zu zX (zF qm (pv 5) (pv 6) (fun _ _=>rfl)) ze) (qg (pv 5) (pv 6) zE))) zB))))))))))))
  (YL 3 (YL 5 (zd (zq (jl (za (pv 3) (za (pv 4) (za (pv 5) zb)))))))))),?_⟩
 refine ex2 (by walk_at "sim") ?_
 rintro xs M Q ⟨n,y,ds,T,h,rfl,hy,hd,hn,q⟩
 rw [show qc ["_law_n","_law_plan","_law_deed","_law_row","_law_hand","_law_moved","_law_thing","_law_one","_law_other"] [.d (.int n),y]=[some (.d (.int n)),some y,none,none,none,none,none,none,none] from rfl]
 refine zw fun r hr0=>?_
 walk_at "ra"
 refine ⟨_,_,_,rfl,small_one (by omega) (by omega) (by omega) (by omega),n,by rw [rangeSize_one];split <;> omega,by omega,fun pr hpr _=>?_⟩
 refine ⟨by omega,by omega,by omega,by rw [Int.toNat_natCast];omega,fun pm hpm _=>?_⟩
 have nmr:pm ≠ pr:=fun z=>by rw [z,zl] at hpm;cases hpm
 rw [zL nmr] at hpm
 rw [Int.toNat_natCast,QN]
 have f0:Fr M (mup (mup M pr (.lst ((zJ 0 1 n).map fun i=>AV.d (.int i)))) pm (.lst (List.replicate n (AV.d (.int 0))))):=(Fr.refl.mup hpr _).mup hpm _
 have g1:mup (mup M pr (.lst ((zJ 0 1 n).map fun i=>AV.d (.int i)))) pm (.lst (List.replicate n (AV.d (.int 0)))) pr=some (.lst ((((zJ 0 1 n).map some).map cD).map AV.d)):=by rw [zL (Ne.symm nmr),zl,List.map_map,List.map_map];rfl
 have g2:mup (mup M pr (.lst ((zJ 0 1 n).map fun i=>AV.d (.int i)))) pm (.lst (List.replicate n (AV.d (.int 0)))) pm=some (.lst ((List.replicate n (0:Int)).map fun i=>AV.d (.int i))):=by rw [zl,List.map_replicate]
 have pu0:Pu M (mup (mup M pr (.lst ((zJ 0 1 n).map fun i=>AV.d (.int i)))) pm (.lst (List.replicate n (AV.d (.int 0))))):=by
  have:=((Pu.refl (M:=M)).mup pr ((zJ 0 1 n).map .int)).mup pm (List.replicate n (.int 0))
  rw [xW,List.map_replicate] at this
  exact this
 generalize mup (mup M pr (.lst ((zJ 0 1 n).map fun i=>AV.d (.int i)))) pm (.lst (List.replicate n (AV.d (.int 0))))=M0 at *
 have ok0:OkE n (jR n):=by
  refine ⟨by rw [List.length_map,zr],fun x hx=>?_⟩
  rcases hx with z | z
  ·obtain ⟨k,hk,e⟩:=List.mem_map.mp z
   cases e
   obtain ⟨j,_,rfl⟩:=List.mem_map.mp (by unfold zJ at hk;exact hk)
   have:=List.mem_range.mp ‹_›
   constructor <;> omega
  ·cases z
 subst hr0
 refine zw fun r hr0=>?_
 walk_at "ra"
 refine ⟨_,QT hy f0,?_⟩
 refine ⟨fun i ρ M'=>∃ (R:List (Option Int)) (h':Option Int) (mv:List Int) (u v w x:Option Dat),xA (ds.drop i) (R,h') (T,h)/\OkE n (R,h')/\mv.length=n/\ρ=[some (.d (.int n)),some y,u.map .d,some (.ref pr),some (.d (cD h')),some (.ref pm),v.map .d,w.map .d,x.map .d]/\Fr M M'/\Pu M M'/\M' pr=some (.lst ((R.map cD).map .d))/\M' pm=some (.lst (mv.map fun i=>.d (.int i))),⟨_,_,_,none,none,none,none,hd,ok0,by rw [List.length_replicate],rfl,f0,pu0,g1,g2⟩,?_,?_⟩
 ·rintro i x ρ M' hx ⟨R,h',mv,u,v,w,x',hD,ok,lm,rfl,f1,u1,h1,h2⟩
  rw [List.getElem?_map,List.getElem?_map] at hx
  obtain ⟨dd,hdd,rfl⟩:=Option.map_eq_some_iff.mp hx
  obtain ⟨d,hdi,rfl⟩:=Option.map_eq_some_iff.mp hdd
  have hil:=(List.getElem?_eq_some_iff.mp hdi).1
  have hdr:ds.drop i=d :: ds.drop (i+1):=by rw [List.drop_eq_getElem_cons hil,(List.getElem?_eq_some_iff.mp hdi).2]
  rw [hdr] at hD
  refine ⟨by first | exact QT hy f1 | trivial,?_⟩
  cases hD with
  | @cons _ _ _ t _ h3 h4=>
  have ok2:=ok.do h3
  show vD _ _ _ _ _ _ _
  have puI:∀ {M2:MH} (l:List Int) (p:Addr),Pu M M2->Pu M (mup M2 p (.lst (l.map fun i=>AV.d (.int i)))):=fun l p h=>by have:=h.mup p (l.map .int);rw [xW] at this;exact this
  cases h3 with
  | @take p row x0 k1=>
   have bx:=ok.2 x0 (.inl (List.mem_of_getElem? k1))
   refine ifT (kZ (tW (i:=2) rfl) (by decide)) (VY nmr h1 h2 k1 bx.1 (by omega) fun mv' lm'=>?_)
   exact ⟨_,some x0,mv',some (deD (.take p)),v,w,x',h4,ok2,by omega,rfl,(f1.mup hpr _).mup hpm _,puI _ _ (u1.mup _ _),by rw [zL (Ne.symm nmr),zl],zl⟩
  | @lay g row x0 k1=>
   have bx:=ok.2 x0 (.inr rfl)
   refine ifF (kZ (tW (i:=2) rfl) (by decide)) (ifT (kZ (tW (i:=2) rfl) (by decide)) (BV nmr h1 h2 k1 bx.1 (by omega) fun mv' lm'=>?_))
   exact ⟨_,none,mv',some (deD (.lay g)),v,w,x',h4,ok2,by omega,rfl,(f1.mup hpm _).mup hpr _,(puI _ _ u1).mup _ _,zl,by rw [zL nmr,zl]⟩
  | @swap p g row h0 x0 y0 ne k1 k2=>
   have bx:=ok.2 x0 (.inl (List.mem_of_getElem? k1))
   have b2:=ok.2 y0 (.inl (List.mem_of_getElem? k2))
   refine ifF (kZ (tW (i:=2) rfl) (by decide)) (ifF (kZ (tW (i:=2) rfl) (by decide)) (ZQ (wd:=Str.ofString "swap") (b:=false) nmr h1 h2 k1 k2 ne bx.1 (by omega) (fun z hz=>by cases hz;omega) (by decide) rfl fun mv' u' lm'=>?_))
   exact ⟨_,_,mv',some _,some u',some _,some _,h4,ok2,by omega,rfl,(f1.mup hpr _).mup hpm _,puI _ _ (u1.mup _ _),by rw [zL (Ne.symm nmr),zl],zl⟩
  | @move p g row h0 x0 k1 k2=>
   have bx:=ok.2 x0 (.inl (List.mem_of_getElem? k1))
   have ne:p ≠ g:=fun z=>by rw [z,k2] at k1;cases k1
   refine ifF (kZ (tW (i:=2) rfl) (by decide)) (ifF (kZ (tW (i:=2) rfl) (by decide)) (ZQ (wd:=Str.ofString "move") (b:=true) nmr h1 h2 k1 k2 ne bx.1 (by omega) (fun z hz=>nomatch hz) (by decide) rfl fun mv' u' lm'=>?_))
   exact ⟨_,_,mv',some _,some u',some _,some _,h4,ok2,by omega,rfl,(f1.mup hpr _).mup hpm _,puI _ _ (u1.mup _ _),by rw [zL (Ne.symm nmr),zl],zl⟩
 ·rintro ρ M' ⟨R,h',mv,u,v,w,x',hD,ok,lm,rfl,f1,u1,h1,h2⟩
  rw [List.length_map,List.length_map,List.drop_length] at hD
  cases hD
  refine ⟨by first | exact QT hy f1 | trivial,?_⟩
  subst hr0
  walk_at "ra"
  have nd:∀ {o:Option Dat} {p:Addr},o.map AV.d ≠ some (.ref p):=fun {o p} h=>by cases o <;> cases h
  have ny:∀ {p:Addr},M p=none->y ≠ .ref p:=fun {p} h z=>by rw [z] at hy;unfold zW at hy;dsimp only at hy;rw [h] at hy;cases hy
  refine ⟨_,h1,_,qd _,hpr,fun j hj z=>?_,fun q' o hq e=>(u1 q' o e).imp id fun z=>z pr,_,by rw [jK nmr];exact h2,_,qx _,hpm,fun j hj z=>?_,fun q' o hq e=>((u1.mdel pr) q' o e).imp id fun z=>z pm,by omega,?_⟩
  ·match j with
   | 0=>cases z
   | 1=>exact ny hpr (Option.some.inj (Option.some.inj z))
   | 2=>exact nd (Option.some.inj z)
   | 3=>exact hj rfl
   | 4=>cases z
   | 5=>cases z;exact nmr rfl
   | 6=>exact nd (Option.some.inj z)
   | 7=>exact nd (Option.some.inj z)
   | 8=>exact nd (Option.some.inj z)
   | j+9=>cases z
  ·match j with
   | 0=>cases z
   | 1=>exact ny hpm (Option.some.inj (Option.some.inj z))
   | 2=>exact nd (Option.some.inj z)
   | 3=>cases z
   | 4=>cases z
   | 5=>exact hj rfl
   | 6=>exact nd (Option.some.inj z)
   | 7=>exact nd (Option.some.inj z)
   | 8=>exact nd (Option.some.inj z)
   | j+9=>cases z
  ·refine yy (fun q' hq'=>?_) (q mv)
   have n1:q' ≠ pr:=fun z=>hq' (by rw [z];exact hpr)
   have n2:q' ≠ pm:=fun z=>hq' (by rw [z];exact hpm)
   rw [jK n2,jK n1];exact f1 q' hq'
noncomputable def GT:ASp:=fun xs M Q=>∃ (n:Nat) (y:AV) (ds:List De) (os:List Int),xs=[.d (.int n),y]/\zW y M=some ((ds.map deD).map .d)/\j7 n ds os/\zj n os/\n<=1000/\Q (.d (ilD os)) M
noncomputable abbrev Xj:Stmt:=top 48
theorem Yf:zo ["_law_n","_law_plan","_law_row","_law_place"] ["_law_n","_law_plan"] (zg Xj):=⟨rfl,rfl,rfl,by decide +kernel,rfl,by decide +kernel,by decide +kernel⟩
theorem FG (a:At K mg "_law_ends" Xj)(B:Blt mg)(D_law_gone:Df P w K mg base "_law_gone" ["_law_n","_law_plan"] 1 (cSp BN)):Df P w K mg base "_law_ends" ["_law_n","_law_plan"] 2 (cSp GT):=by
  refine dfA (k:=1) a Yf (fun _ _ _ _ _ _=>Pn2_ fun _ _=>rfl) (fun xs M Q h=>?_) (fun f cdv A outer s H E hr=>?_)
  · obtain ⟨_,_,_,_,rfl,_⟩:=h;rfl
  have sc:=Yf
  have hsl:=hsl
  refine ⟨_,(zc (zC (i:=2) sc.nd rfl (by first | exact Or.inl rfl | exact Or.inr rfl) (zF qm (zA D_law_gone hr rfl (za (pv 0) (za (pv 1) zb))) ze (fun _ _=>rfl)))
    (zd (zq (qI (ts:=[3]) rfl rfl (qP rfl B.range (za (pv 0) zb)) (fun _ _ _ _=>(zx (i:=3) sc.nd rfl (by first | exact Or.inl rfl | exact Or.inr rfl))) (fun _ _ _ _=>qG) (fun _ _ _ _=>(HC (K:=K) rfl PySem.F.plainAttrs_list PySem.F.slot_list_index PySem.F.type_list_index Am (pv 2) (za (pv 3) zb))))))),?_⟩
  refine ex2 (by walk_at "sim") ?_
  rintro xs M Q ⟨n,y,ds,os,rfl,hy,⟨T,lT,hd,hg⟩,ho,hn,q⟩
  rw [show qc ["_law_n","_law_plan","_law_row","_law_place"] [.d (.int n),y]=[some (.d (.int n)),some y,none,none] from rfl]
  refine zw fun r hr0=>?_
  walk_at "ra"
  refine ⟨n,y,ds,_,_,rfl,hy,hd,hn,fun mv=>?_⟩
  have eT:(T.map some).map cD=T.map .int:=by rw [List.map_map];rfl
  rw [eT]
  walk_at "ra"
  subst hr0
  walk_at "ra"
  rw [Int.toNat_natCast,YS]
  refine ⟨_,rfl,by omega,by omega,?_⟩
  have nd:=(QS ho lT hg).1
  refine vK (fun o=>[some (.d (.int n)),some y,some (.d (.lst (T.map .int))),o]) _ (fun t:Nat=>.d (.int (os.getD t 0))) (List.range n) ⟨_,rfl⟩ trivial (by rw [List.length_range];omega) (fun o t Q ht q=>?_) fun o=>?_
  · have ht:=List.mem_range.mp ht
    obtain ⟨b0,b1⟩:=ho.getD ht
    have gt:=hg t ht
    walk_at "ra"
    refine ⟨⟨_,rfl⟩,T,rfl,(os.getD t 0).toNat,by omega,gt,fun m hm e=>?_,?_⟩
    · have e1 : T[m] = T[(os.getD t 0).toNat] := by
        rw [List.getD_eq_getElem?_getD,List.getElem?_eq_getElem (by omega)] at e gt
        exact e.trans gt.symm
      have:=(List.getElem_inj (h₀:=by omega) (h₁:=by omega) nd).mp e1
      omega
    · rw [Int.toNat_of_nonneg b0]
      exact q _
  · refine ⟨_,xy _ _,yy Fr.refl ?_⟩
    have:((List.range n).map fun t:Nat=>Dat.int (os.getD t 0))=os.map .int:=by
      have:(List.range n).map (fun t:Nat=>os.getD t 0)=os:=Qp (by rw [List.length_map,List.length_range,ho.1]) fun x hx=>by
        rw [List.length_map,List.length_range] at hx
        rw [List.getD_eq_getElem?_getD,List.getElem?_map,List.getElem?_range hx];rfl
      exact (List.map_map (f:=fun t:Nat=>os.getD t 0) (g:=Dat.int) (l:=List.range n)).symm.trans (congrArg (List.map Dat.int) this)
    rw [this]
    exact q
theorem Fy {n:Nat}{os:List Int}(h:zj n os){r:List Int}(hr:r ∈ zk os n):2<=r.length/\r.length<=n:=by
 obtain ⟨k,hk,hL,hp,rfl⟩:=Qb hr
 obtain ⟨m,hm,hmn⟩:=ja h (p:=(k:Int)) (by omega) (by omega)
 unfold zG
 rw [qz,hm.per] at *
 omega
noncomputable def JN:ASp:=fun xs M Q=>∃ (x:AV) (n:Nat) (os:List Int),xs=[x]/\zW x M=some (os.map fun i=>.d (.int i))/\zj n os/\n<=1000/\Q (.d (.int (xP (zk os n):Nat))) M
noncomputable abbrev yL:Stmt:=top 23
theorem w8:zo ["order","turns","ring"] ["order"] (zg yL):=⟨rfl,rfl,rfl,by decide +kernel,rfl,by decide +kernel,by decide +kernel⟩
theorem Kz (a:At K mg "turns_of" yL)(B:Blt mg)(D_rings:Df P w K mg base "rings" ["order"] 3 (cSp xw))(D_common_divisor:Df P w K mg base "common_divisor" ["one","other"] 3 (cSp LV)):Df P w K mg base "turns_of" ["order"] 4 (cSp JN):=by
 refine dfA (k:=3) a w8 (fun _ _ _ _ _ _=>Pn1_ fun _=>rfl) (fun xs M Q h=>?_) (fun f cdv A outer s H E hr=>?_)
 ·obtain ⟨_,_,_,rfl,_⟩:=h;rfl
 have sc:=w8
 have hsl:=hsl
 refine ⟨_,(zc (zC (i:=1) sc.nd rfl (by first | exact Or.inl rfl | exact Or.inr rfl) ze)
  (zc (qv PassesOwn.never rfl (ju (zA D_rings hr rfl (za (pv 0) zb))) (zx (i:=2) sc.nd rfl (by first | exact Or.inl rfl | exact Or.inr rfl)) (zd (zC (i:=1) sc.nd rfl (by first | exact Or.inl rfl | exact Or.inr rfl) (zu jz (zu xK (pv 1) (zA D_common_divisor hr rfl (za (pv 1) (za (zt zp rfl B.len zZ (za (pv 2) zb)) zb)))) (zt zp rfl B.len zZ (za (pv 2) zb))))))
  (zd (zq (pv 1))))),?_⟩
 refine ex2 (by walk_at "sim") ?_
 rintro xs M Q ⟨x,n,os,rfl,hx,ho,hn,q⟩
 rw [show qc ["order","turns","ring"] [x]=[some x,none,none] from rfl]
 refine zw fun r hr0=>?_
 walk_at "ra"
 subst hr0
 refine zw fun r hr0=>?_
 walk_at "ra"
 refine ⟨x,n,os,rfl,hx,ho,hn,_,rfl,?_⟩
 have lr:=jk os n
 refine ⟨fun i ρ M'=>M=M'/\∃ u,ρ=[some x,some (.d (.int (xP ((zk os n).take i):Nat))),u],⟨rfl,_,rfl⟩,?_,?_⟩
 ·rintro i y ρ M' hy ⟨rfl,u,rfl⟩
  rw [List.map_map,List.getElem?_map] at hy
  cases e:(zk os n)[i]? with
  | none=>rw [e] at hy;cases hy
  | some rg=>
   rw [e] at hy
   cases hy
   obtain ⟨b1,b2⟩:=Fy ho (List.mem_of_getElem? e)
   have st:xP ((zk os n).take (i+1))=vw (xP ((zk os n).take i)) rg.length:=by
    rw [List.take_succ,e]
    show xP (_ ++ [rg])=_
    unfold xP
    rw [List.foldl_append];rfl
   have sr:zW ((AV.d ∘ ilD) rg) M=some (rg.map fun i=>.d (.int i)):=by rw [<- xW];rfl
   have gp:0<Nat.gcd (xP ((zk os n).take i)) rg.length:=Nat.gcd_pos_of_pos_right _ (by omega)
   have gl:Nat.gcd (xP ((zk os n).take i)) rg.length<=rg.length:=Nat.gcd_le_right _ (by omega)
   refine ⟨rfl,?_⟩
   show jQ _ _ _ _ _
   walk_at "ra"
   refine ⟨_,sr,_,rg.length,by rw [List.length_map],_,rfl,YQ (by omega) (by omega),_,sr,Xk (by omega) (by rw [List.length_map];omega),?_⟩
   rw [st,List.length_map]
   unfold vw
   push_cast
   exact ⟨rfl,rfl,_,rfl⟩
 ·rintro ρ M' ⟨rfl,u,rfl⟩
  subst hr0
  walk_at "ra"
  rw [List.take_length]
  exact yy Fr.refl q
noncomputable def E8:ASp:=fun xs M Q=>∃ (x:AV) (n:Nat) (os:List Int),xs=[x]/\zW x M=some (os.map fun i=>.d (.int i))/\os.length=n/\n<=1000/\Q (.d (.int (yN os n:Nat))) M
noncomputable abbrev D2:Stmt:=top 15
theorem Ag:zo ["order","place","goal"] ["order"] (zg D2):=⟨rfl,rfl,rfl,by decide +kernel,rfl,by decide +kernel,by decide +kernel⟩
theorem IL (a:At K mg "off" D2)(B:Blt mg):Df P w K mg base "off" ["order"] 1 (cSp E8):=by
 refine dfA (k:=0) a Ag (fun _ _ _ _ _ _=>Pn1_ fun _=>rfl) (fun xs M Q h=>?_) (fun f cdv A outer s H E hr=>?_)
 ·obtain ⟨_,_,_,rfl,_⟩:=h;rfl
 have sc:=Ag
 have hsl:=hsl
 refine ⟨_,(zd (zq (zt zp rfl B.len zZ (za (qI (ts:=[1,2]) rfl rfl (kz rfl B.enumerate (za (pv 0) zb)) (fun _ _ _ _=>(qO (K:=K) 2 rfl rfl (zM (zx (i:=1) sc.nd rfl (by first | exact Or.inl rfl | exact Or.inr rfl)) (zM (zx (i:=2) sc.nd rfl (by first | exact Or.inl rfl | exact Or.inr rfl)) qR)))) (fun _ _ _ _=>Qt (zn (qZ hr.units) (pv 1) (pv 2) (zy _))) (fun _ _ _ _=>(pv 1))) zb)))),?_⟩
 refine ex2 (by walk_at "sim") ?_
 rintro xs M Q ⟨x,n,os,rfl,hx,ho,hn,q⟩
 rw [show qc ["order","place","goal"] [x]=[some x,none,none] from rfl]
 walk_at "ra"
 refine ⟨_,hx,_,qx _,?_⟩
 refine ⟨fun i acc ρ M'=>M=M'/\(∃ ks:List Int,acc=ks.map (fun k=>AV.d (.int k))/\ks.length=yN os i)/\∃ u v,ρ=[some x,u,v],⟨rfl,⟨[],rfl,rfl⟩,_,_,rfl⟩,?_,?_⟩
 ·rintro i y acc ρ M' hy ⟨rfl,⟨ks,rfl,lk⟩,u,v,rfl⟩
  refine ⟨hx,?_⟩
  obtain ⟨d,hd,rfl⟩:=kB hy
  rw [List.getElem?_map] at hd
  cases e:os[i]? with
  | none=>rw [e] at hd;cases hd
  | some k=>
   rw [e] at hd
   cases hd
   have hk:os.getD i 0=k:=by rw [List.getD_eq_getElem?_getD,e];rfl
   have st:yN os (i+1)=yN os i+if k=(i:Int) then 0 else 1:=by
    unfold yN
    rw [List.range_succ,List.filter_append,List.length_append]
    congr 1
    simp only [List.filter_cons,List.filter_nil,hk]
    by_cases c:k=(i:Int)
    ·simp [c]
    ·simp [c]
   have hi:=(List.getElem?_eq_some_iff.mp e).1
   have le:yN os i<=i:=by have:=List.length_filter_le (fun (i:Nat)=>!decide (os.getD i 0=(i:Int))) (List.range i);rw [List.length_range] at this;exact this
   walk_at "ra"
   by_cases c:k=(i:Int)
   ·rw [if_pos c] at st
    rw [if_neg (not_not_intro c.symm)]
    exact ⟨⟨ks,rfl,by omega⟩,_,rfl⟩
   ·rw [if_neg c] at st
    rw [if_pos (fun z=>c z.symm)]
    exact ⟨Nat.lt_of_lt_of_le (show ks.length<1001 by omega) (by decide),⟨ks ++ [(i:Int)],by rw [List.map_append];rfl,by rw [List.length_append];show _+1=_;omega⟩,_,rfl⟩
 ·rintro acc ρ M' ⟨rfl,⟨ks,rfl,lk⟩,u,v,rfl⟩
  refine ⟨hx,_,qx _,?_⟩
  rw [List.length_map,lk,jL,List.length_map,ho]
  exact yy Fr.refl q
noncomputable def GZ:ASp:=fun xs M Q=>∃ (x:AV) (n:Nat) (os:List Int),xs=[x]/\zW x M=some (os.map fun i=>.d (.int i))/\zj n os/\n<=1000/\Q (.d (.int (yN os n+(zk os n).length))) M
noncomputable abbrev KU:Stmt:=top 28
theorem Yh:zo ["order"] ["order"] (zg KU):=⟨rfl,rfl,rfl,by decide +kernel,rfl,by decide +kernel,by decide +kernel⟩
theorem FJ (a:At K mg "fewest_moves" KU)(B:Blt mg)(D_off:Df P w K mg base "off" ["order"] 3 (cSp E8))(D_rings:Df P w K mg base "rings" ["order"] 3 (cSp xw)):Df P w K mg base "fewest_moves" ["order"] 4 (cSp GZ):=by
 refine dfA (k:=3) a Yh (fun _ _ _ _ _ _=>Pn1_ fun _=>rfl) (fun xs M Q h=>?_) (fun f cdv A outer s H E hr=>?_)
 ·obtain ⟨_,_,_,rfl,_⟩:=h;rfl
 have sc:=Yh
 have hsl:=hsl
 refine ⟨_,(zd (zq (zu zX (zA D_off hr rfl (za (pv 0) zb)) (zt zp rfl B.len zZ (za (zA D_rings hr rfl (za (pv 0) zb)) zb))))),?_⟩
 refine ex2 (by walk_at "sim") ?_
 rintro xs M Q ⟨x,n,os,rfl,hx,ho,hn,q⟩
 rw [show qc ["order"] [x]=[some x] from rfl]
 walk_at "ra"
 refine ⟨x,n,os,rfl,hx,ho.1,hn,x,n,os,rfl,hx,ho,hn,_,rfl,_,rfl,?_⟩
 rw [List.length_map,List.length_map]
 exact yy Fr.refl q
noncomputable def G3:ASp:=fun xs M Q=>∃ (x:AV) (n:Nat) (os:List Int),xs=[x]/\zW x M=some (os.map fun i=>.d (.int i))/\zj n os/\n<=1000/\Q (.d (.int ((yN os n:Nat) - ((zk os n).length:Nat)))) M
noncomputable abbrev XA:Stmt:=top 29
theorem Ya:zo ["order"] ["order"] (zg XA):=⟨rfl,rfl,rfl,by decide +kernel,rfl,by decide +kernel,by decide +kernel⟩
theorem Ef (a:At K mg "fewest_swaps" XA)(B:Blt mg)(D_off:Df P w K mg base "off" ["order"] 3 (cSp E8))(D_rings:Df P w K mg base "rings" ["order"] 3 (cSp xw)):Df P w K mg base "fewest_swaps" ["order"] 4 (cSp G3):=by
 refine dfA (k:=3) a Ya (fun _ _ _ _ _ _=>Pn1_ fun _=>rfl) (fun xs M Q h=>?_) (fun f cdv A outer s H E hr=>?_)
 ·obtain ⟨_,_,_,rfl,_⟩:=h;rfl
 have sc:=Ya
 have hsl:=hsl
 refine ⟨_,(zd (zq (zu jX (zA D_off hr rfl (za (pv 0) zb)) (zt zp rfl B.len zZ (za (zA D_rings hr rfl (za (pv 0) zb)) zb))))),?_⟩
 refine ex2 (by walk_at "sim") ?_
 rintro xs M Q ⟨x,n,os,rfl,hx,ho,hn,q⟩
 rw [show qc ["order"] [x]=[some x] from rfl]
 walk_at "ra"
 refine ⟨x,n,os,rfl,hx,ho.1,hn,x,n,os,rfl,hx,ho,hn,_,rfl,_,rfl,?_⟩
 rw [List.length_map,List.length_map]
 exact yy Fr.refl q
noncomputable def VN:Dat->Bool
 | .non=>true | .bl _=>true | .int _=>true | .str _=>true
 | _=>false
noncomputable def Mh:ASp:=fun _ _ _=>False
noncomputable def Dk:ASp:=fun xs M Q=>∃ d:Dat,xs=[.d d]/\VN d=true/\Q (.d d) M
noncomputable abbrev vG:Stmt:=top 10
theorem v6:zo ["thing","part"] ["thing"] (zg vG):=⟨rfl,rfl,rfl,by decide +kernel,rfl,by decide +kernel,by decide +kernel⟩
theorem WU (a:At K mg "own_copy" vG)(B:Blt mg)(D_own_copy:Df P w K mg base "own_copy" ["thing"] 1 (cSp Mh)):Df P w K mg base "own_copy" ["thing"] 2 (cSp Dk):=by
 refine dfA (k:=1) a v6 (fun _ _ _ _ _ _=>Pn1_ fun _=>rfl) (fun xs M Q h=>?_) (fun f cdv A outer s H E hr=>?_)
 ·obtain ⟨_,rfl,_⟩:=h;rfl
 have sc:=v6
 have hsl:=hsl
 refine ⟨_,(zc (zP (jn (zt jx rfl B.isinstance qb (za (pv 0) (za (jp (v:=.ty "list") rfl B.list je rfl) zb))) (fun _=>rfl)) (zd (zq (qI (ts:=[1]) rfl rfl (ju (pv 0)) (fun _ _ _ _=>(zx (i:=1) sc.nd rfl (by first | exact Or.inl rfl | exact Or.inr rfl))) (fun _ _ _ _=>qG) (fun _ _ _ _=>(zA D_own_copy hr rfl (za (pv 1) zb)))))) zB)
  (zc (zP (jn (zt jx rfl B.isinstance qb (za (pv 0) (za (jp (v:=.ty "tuple") rfl B.tuple kj rfl) zb))) (fun _=>rfl)) (zd (zq (zK kg rfl B.tuple kj (za (qI (ts:=[1]) rfl rfl (ju (pv 0)) (fun _ _ _ _=>(zx (i:=1) sc.nd rfl (by first | exact Or.inl rfl | exact Or.inr rfl))) (fun _ _ _ _=>qG) (fun _ _ _ _=>(zA D_own_copy hr rfl (za (pv 1) zb)))) zb)))) zB)
  (zd (zq (pv 0))))),?_⟩
 refine ex2 (by walk_at "sim") ?_
 rintro xs M Q ⟨d,rfl,hd,q⟩
 rw [show qc ["thing","part"] [.d d]=[some (.d d),none] from rfl]
 cases d with
 | non=>walk_at "ra";exact yy Fr.refl q
 | bl b=>walk_at "ra";exact yy Fr.refl q
 | int b=>walk_at "ra";exact yy Fr.refl q
 | str b=>walk_at "ra";exact yy Fr.refl q
 | _=>cases hd
theorem VF (a:At K mg "own_copy" vG):Df P w K mg base "own_copy" ["thing"] 1 (cSp Mh):=
 jh (k:=0) a v6 (fun _ _ _ _ _ _=>Pn1_ fun _=>rfl) (fun vs H Q E h=>by obtain ⟨_,_,_,_,_,_,h,_⟩:=h;exact h.elim) (fun f cdv A outer s H vs Q E hr h=>by obtain ⟨_,_,_,_,_,_,h,_⟩:=h;exact h.elim)
noncomputable def DJ (ts:List Dat)(os:List Int)(rs:List Dat):Prop:=rs.length=os.length/\∀ i,i<os.length->rs[(os.getD i 0).toNat]?=ts[i]?
noncomputable def GH:ASp:=fun xs M Q=>∃ (n:Nat) (ts:List Dat) (os:List Int),xs=[.d (.lst ts),.d (ilD os)]/\ts.length=n/\(∀ t ∈ ts,VN t=true)/\zj n os/\n<=1000/\∀ rs,DJ ts os rs->Q (.d (.lst rs)) M
noncomputable def oDD:Option Dat->Dat
 | none=>.non
 | some d=>d
noncomputable abbrev WS:Stmt:=top 11
theorem Bk:zo ["things","order","row","place","thing"] ["things","order"] (zg WS):=⟨rfl,rfl,rfl,by decide +kernel,rfl,by decide +kernel,by decide +kernel⟩
theorem Hl (a:At K mg "put" WS)(B:Blt mg)(D_own_copy:Df P w K mg base "own_copy" ["thing"] 2 (cSp Dk)):Df P w K mg base "put" ["things","order"] 3 (cSp GH):=by
 refine dfA (k:=2) a Bk (fun _ _ _ _ _ _=>Pn2_ fun _ _=>rfl) (fun xs M Q h=>?_) (fun f cdv A outer s H E hr=>?_)
 ·obtain ⟨_,_,_,rfl,_⟩:=h;rfl
 have sc:=Bk
 have hsl:=hsl
 refine ⟨_,(zc (zP (zn (qZ hr.units) (zt zp rfl B.len zZ (za (pv 0) zb)) (zt zp rfl B.len zZ (za (pv 1) zb)) (zy _)) (zd qB) zB)
  (zc (zC (i:=2) sc.nd rfl (by first | exact Or.inl rfl | exact Or.inr rfl) (kS (zu xg (qF (za qf zb)) (zt zp rfl B.len zZ (za (pv 1) zb)))))
  (zc (qv PassesOwn.never rfl (BA rfl B.zip (za (pv 1) (za (pv 0) zb))) (qO (K:=K) 2 rfl rfl (zM (zx (i:=3) sc.nd rfl (by first | exact Or.inl rfl | exact Or.inr rfl)) (zM (zx (i:=4) sc.nd rfl (by first | exact Or.inl rfl | exact Or.inr rfl)) qR))) (zd (qk (zA D_own_copy hr rfl (za (pv 4) zb)) (qg (pv 2) (pv 3) zE))))
  (zd (zq (pv 2)))))),?_⟩
 refine ex2 (by walk_at "sim") ?_
 rintro xs M Q ⟨n,ts,os,rfl,tl,tf,ho,hn,q⟩
 rw [show qc ["things","order","row","place","thing"] [.d (.lst ts),.d (ilD os)]=[some (.d (.lst ts)),some (.d (ilD os)),none,none,none] from rfl]
 have ol:=ho.1
 refine zw fun r hr0=>?_
 walk_at "ra"
 rw [if_neg (by omega)]
 subst hr0
 refine zw fun r hr0=>?_
 walk_at "ra"
 refine ⟨by omega,by omega,by omega,by omega,fun p hp _=>?_⟩
 rw [ol,Int.toNat_natCast,QN]
 subst hr0
 refine zw fun r hr0=>?_
 walk_at "ra"
 refine ⟨os.map .int,ts,.inl ⟨(xW os).symm,rfl⟩,?_⟩
 refine ⟨fun i ρ M'=>∃ u v cs,ρ=[some (.d (.lst ts)),some (.d (ilD os)),some (.ref p),u,v]/\M'=mup M p (.lst (cs.map fun c=>AV.d (oDD c)))/\cs.length=n/\∀ j,j<i->cs[(os.getD j 0).toNat]?=some ts[j]?,⟨none,none,List.replicate n none,rfl,by rw [List.map_replicate];rfl,by simp,fun j hj=>nomatch hj⟩,?_,?_⟩
 ·rintro i y ρ M' hy ⟨u,v,cs,rfl,rfl,lc,hj⟩
  refine ⟨trivial,?_⟩
  obtain ⟨d,e,h1,h2,rfl⟩:=Zl hy
  rw [List.getElem?_map] at h1
  cases e1:os[i]? with
  | none=>rw [e1] at h1;cases h1
  | some k=>
   rw [e1] at h1
   cases h1
   have hi:=(List.getElem?_eq_some_iff.mp e1).1
   have hk:os.getD i 0=k:=by rw [List.getD_eq_getElem?_getD,e1];rfl
   have kb:=ho.2.2 k (List.mem_of_getElem? e1)
   walk_at "ra"
   refine ⟨_,rfl,tf e (List.mem_of_getElem? h2),_,zl,k.toNat,by rw [List.length_map,ji kb.1 (by omega)],cs.set k.toNat (some e),by rw [xL,List.map_set];rfl,by rw [List.length_set];exact lc,fun j hj'=>?_⟩
   rw [List.getElem?_set]
   by_cases c:j=i
   ·subst c;rw [hk,if_pos rfl,if_pos (by omega),h2]
   ·rw [if_neg,hj j (by omega)]
    intro z
    have gj:=ho.getD (i:=j) (by omega)
    exact c (ho.inj (by omega) (by omega) (by rw [hk];omega))
 ·rintro ρ M' ⟨u,v,cs,rfl,rfl,lc,hj⟩
  refine ⟨trivial,?_⟩
  rw [yE,List.length_map] at hj
  subst hr0
  walk_at "ra"
  refine ⟨_,_,yp (Fr.refl.mup hp _) hp zl (ds:=cs.map oDD) (xy _ _),q _ ⟨by rw [List.length_map];omega,fun i hi=>?_⟩⟩
  have:=hj i (by omega)
  rw [List.getElem?_map,this]
  have:i<ts.length:=by omega
  rw [List.getElem?_eq_getElem this];rfl
noncomputable def Yd:ASp:=fun xs M Q=>∃ (b:Addr) (N:Nat) (rs:List (List Int)),xs=[.ref b,.d (.lst (rs.map ilD))]/\BxM M b N/\N<100000/\rs.length<=1000/\(∀ r ∈ rs,0<r.length/\r.length<=1000)/\∀ (rs':List (List Int)) M',BxS M M' b (N+2 * rs.length)->(∀ r' ∈ rs',∃ r ∈ rs,Q9 r' r)->rs'.flatten.Perm rs.flatten->rs'.length=rs.length->Q (.d (.lst (rs'.map ilD))) M'
noncomputable abbrev yg:Stmt:=top 49
theorem vp:zo ["_law_box_here","_law_some","_law_found","_law_ring","_law_at"] ["_law_box_here","_law_some"] (zg yg):=⟨rfl,rfl,rfl,by decide +kernel,rfl,by decide +kernel,by decide +kernel⟩
theorem Jz (a:At K mg "_law_turned" yg)(B:Blt mg)(D_law_take:Df P w K mg base "_law_take" ["_law_box_here","_law_many"] 1 (cSp Gy)):Df P w K mg base "_law_turned" ["_law_box_here","_law_some"] 2 (cSp Yd):=by
 refine dfA (k:=1) a vp (fun _ _ _ _ _ _=>Pn2_ fun _ _=>rfl) (fun xs M Q h=>?_) (fun f cdv A outer s H E hr=>?_)
 ·obtain ⟨_,_,_,rfl,_⟩:=h;rfl
 have sc:=vp
 have hsl:=hsl
 refine ⟨_,(zc (zC (i:=2) sc.nd rfl (by first | exact Or.inl rfl | exact Or.inr rfl) (kS (qF zb)))
  (zc (qv PassesOwn.never rfl (ju (pv 1)) (zx (i:=3) sc.nd rfl (by first | exact Or.inl rfl | exact Or.inr rfl)) (zc (zC (i:=4) sc.nd rfl (by first | exact Or.inl rfl | exact Or.inr rfl) (zA D_law_take hr rfl (za (pv 0) (za (zt zp rfl B.len zZ (za (pv 3) zb)) zb))))
  (zd (qQ (vt PySem.F.plainAttrs_list PySem.F.slot_list_insert PySem.F.type_list_insert Zs (pv 2) (za (zA D_law_take hr rfl (za (pv 0) (za (zu zX (zt zp rfl B.len zZ (za (pv 2) zb)) ze) zb))) (za (zu yP (jT xN (pv 3) (jq (pv 4)) kK) (jT xN (pv 3) kK (jq (pv 4)))) zb)))))))
  (zd (zq (pv 2))))),?_⟩
 refine ex2 (by walk_at "sim") ?_
 rintro xs M Q ⟨b,N,rs,rfl,hb,hN,hl,hr2,q⟩
 rw [show qc ["_law_box_here","_law_some","_law_found","_law_ring","_law_at"] [.ref b,.d (.lst (rs.map ilD))]=[some (.ref b),some (.d (.lst (rs.map ilD))),none,none,none] from rfl]
 refine zw fun r hr0=>?_
 walk_at "ra"
 intro p hp _
 subst hr0
 refine zw fun r hr0=>?_
 walk_at "ra"
 have sb0:=SB.refl hb
 have hpb:=(sb0.new hp).2
 refine ⟨fun i ρ M'=>∃ (u v:Option AV) (rs':List (List Int)),ρ=[some (.ref b),some (.d (.lst (rs.map ilD))),some (.ref p),u,v]/\SB M M' b (N+2 * i)/\M' p=some (.lst (rs'.map fun r=>.d (ilD r)))/\(∀ r' ∈ rs',∃ r ∈ rs,Q9 r' r)/\rs'.flatten.Perm (rs.take i).flatten/\rs'.length=i,⟨none,none,[],rfl,sb0.put hp hpb _,zl,by simp,by simp,rfl⟩,?_,?_⟩
 ·rintro i y ρ M' hy ⟨u,v,rs',rfl,sb,hp',h1,h2,h3⟩
  rw [List.getElem?_map,List.getElem?_map] at hy
  cases e:rs[i]? with
  | none=>rw [e] at hy;cases hy
  | some g=>
   rw [e] at hy
   cases hy
   have hi:=(List.getElem?_eq_some_iff.mp e).1
   have hg:=List.mem_of_getElem? e
   obtain ⟨g0,g1⟩:=hr2 g hg
   refine ⟨trivial,?_⟩
   show jZ _ _ _ _ _ _
   refine zw fun r2 hr2=>?_
   walk_at "ra"
   refine ⟨b,g.length,_,rfl,sb.bx,by omega,by omega,by omega,fun k M2 s2 k0 k1=>?_⟩
   obtain ⟨k,rfl⟩:∃ j:Nat,k=j:=⟨k.toNat,by omega⟩
   have sb2:=sb.go s2
   subst hr2
   walk_at "ra"
   have hm:=(s2.at hpb).trans hp'
   refine ⟨⟨_,kC hm⟩,_,qN hm,b,(i:Int)+1,_,by rw [List.length_map,h3],sb2.bx,by omega,by omega,by omega,fun j M3 s3 j0 j1=>?_⟩
   obtain ⟨j,rfl⟩:∃ z:Nat,j=z:=⟨j.toNat,by omega⟩
   have sb3:=sb2.go s3
   refine ⟨_,WA _ _,_,EU _ _,?_,_,Ga _ _,_,_,rfl,(s3.at hpb).trans hm,by omega,by rw [List.length_map];omega,?_,⟨_,rfl⟩,(sb3.put hp hpb _).mono (by omega),rs'.take j ++ (g.drop k ++ g.take k) :: rs'.drop j,?_,?_,?_,?_⟩
   ·rw [List.length_map,List.length_map,List.length_drop,List.length_take];omega
   ·rw [List.length_map];omega
   ·rw [zl,Int.toNat_natCast,List.map_append,List.map_cons,List.map_take,List.map_drop]
    show some (MO.lst (_ ++ AV.d (.lst _) :: _))=some (MO.lst (_ ++ AV.d (.lst _) :: _))
    rw [List.map_append]
    simp only [List.map_take,List.map_drop]
   ·intro r' hr'
    rcases List.mem_append.mp hr' with z | z
    ·exact h1 r' (List.mem_of_mem_take z)
    ·rcases List.mem_cons.mp z with rfl | z
     ·exact ⟨g,hg,k,by omega,rfl⟩
     ·exact h1 r' (List.mem_of_mem_drop z)
   ·rw [List.take_succ,e,List.flatten_append,List.flatten_append,List.flatten_cons]
    have p1:(g.drop k ++ g.take k).Perm g:=Ki ⟨k,by omega,rfl⟩
    have p2:(rs'.take j).flatten ++ (rs'.drop j).flatten=rs'.flatten:=by rw [<- List.flatten_append,List.take_append_drop]
    have p3:((rs'.take j).flatten ++ ((g.drop k ++ g.take k) ++ (rs'.drop j).flatten)).Perm (((rs'.take j).flatten ++ (rs'.drop j).flatten) ++ (g.drop k ++ g.take k)):=by
     rw [List.append_assoc (rs'.take j).flatten]
     exact List.Perm.append_left _ List.perm_append_comm
    rw [p2] at p3
    refine p3.trans ?_
    show (rs'.flatten ++ (g.drop k ++ g.take k)).Perm ((rs.take i).flatten ++ [g].flatten)
    rw [List.flatten_singleton]
    exact h2.append p1
   ·rw [List.length_append,List.length_cons,List.length_take,List.length_drop];omega
 ·rintro ρ M' ⟨u,v,rs',rfl,sb,hp',h1,h2,h3⟩
  refine ⟨trivial,?_⟩
  subst hr0
  walk_at "ra"
  have e:(rs'.map fun r=>AV.d (ilD r))=(rs'.map ilD).map .d:=by rw [List.map_map];rfl
  rw [e] at hp'
  rw [List.length_map,List.length_map] at *
  rw [List.take_length] at h2
  exact sb.frz hp hpb hp' (qd _) fun M' s=>q rs' M' s h1 h2 h3
noncomputable def VE:Dd->Bool
 | .take _=>true
 | _=>false
noncomputable def Ir:Dd->Bool
 | .lay _=>true
 | _=>false
noncomputable def W2:Dd->Int
 | .take p=>(p:Int)
 | _=>0
theorem GK:∀ (ps:List Nat) (g:Nat),(mvP g ps).filter VE=[]/\(mvP g ps).filter Ir=[]
 | [],_=>⟨rfl,rfl⟩
 | p :: ps,g=>GK ps p
theorem Fp (c:List Nat):((jb c).filter VE).map W2=[((c.getD 0 0:Nat):Int)]/\((jb c).filter Ir).length=1:=by
 unfold jb
 obtain ⟨h1,h2⟩:=GK (c.drop 1).reverse (c.getD 0 0)
 rw [List.cons_append,List.filter_cons,List.filter_cons,List.filter_append,List.filter_append,h1,h2]
 exact ⟨rfl,rfl⟩
theorem Mq {r:List Int}(h:∀ x ∈ r,0<=x)(hl:1<=r.length):(((r.map Int.toNat).getD 0 0:Nat):Int)=r.getD 0 0:=by
 cases r with
 | nil=>simp at hl
 | cons x r=>have:=h x (List.mem_cons_self ..);show ((x.toNat:Nat):Int)=x;omega
theorem ZV:∀ (rs:List (List Int)),(∀ r ∈ rs,(∀ x ∈ r,0<=x)/\1<=r.length)->(((rs.map fun r=>jb (r.map Int.toNat)).flatten).filter VE).map W2=rs.map (fun r=>r.getD 0 0)/\(((rs.map fun r=>jb (r.map Int.toNat)).flatten).filter Ir).length=rs.length
 | [],_=>⟨rfl,rfl⟩
 | r :: rs,h=>by
  obtain ⟨i1,i2⟩:=ZV rs fun q hq=>h q (List.mem_cons_of_mem _ hq)
  obtain ⟨a1,a2⟩:=h r (List.mem_cons_self ..)
  obtain ⟨t1,t2⟩:=Fp (r.map Int.toNat)
  rw [List.map_cons,List.flatten_cons,List.filter_append,List.filter_append,List.map_append,List.length_append,t1,t2,i1,i2,Mq a1 a2,List.map_cons,List.length_cons]
  exact ⟨rfl,by omega⟩
noncomputable abbrev W6:Stmt:=top 50
theorem D5:zo ["_law_script","_law_k","_law_box_here","_law_n","_law_words","_law_row","_law_told","_law_many","_law_one","_law_other","_law_place","_law_deed","_law_ring"] ["_law_script"] (zg W6):=⟨rfl,rfl,rfl,by decide +kernel,rfl,by decide +kernel,by decide +kernel⟩
noncomputable def Vd (K:PySem.W.Frag):Sp:=fun vs H Q _=>∃ (a:Addr) (ns:List Int),vs=[.ref a]/\SqL K H a (ns.map V.int)/\ns.length<=63/\∀ H',Q (.bl true) H'
noncomputable def L7 (K:PySem.W.Frag):ASp:=fun xs M Q=>∃ ns:List Int,xs=[.d (.scr K ns)]/\ns.length<=63/\Q (.d (.bl true)) M
theorem sp_law (vs:List V)(H:Hp)(Q:VK)(E:XK)(h:Vd K vs H Q E):cSp (L7 K) vs H Q E:=by
 obtain ⟨a,ns,rfl,ha,hn,q⟩:=h
 refine ⟨[.d (.scr K ns)],fun _=>none,fun _=>False,fun x _=>x=.d (.bl true),⟨(fun a o e=>nomatch e),(fun a h=>h rfl),fun a h=>h.elim⟩,.cons (Ew (fun _ z=>z) ha) .nil,⟨ns,rfl,hn,rfl⟩,fun x M' v H' O' hx _ _ r=>?_⟩
 subst hx
 rw [QB r]
 exact q H'
theorem X1 {α τ:Type}(R:τ->ASt)(g f:α->AV)(p:α->Bool)(xs:List α){ag:AG}{at_:AT}{ae:AE}{G:MH->Prop}{N:List AV->ASt->MH->Prop}{ρ:ASt}{M:MH}(h0:∃ o,ρ=R o)(hG:G M)(hl:xs.length<=100000)
  (hs:∀ (o:τ) (x:α) (Q:Option AV->ASt->MH->Prop),x ∈ xs->(∀ o',Q (if p x then some (f x) else none) (R o') M)->ag (g x) (R o) M fun ρ2 M2=>at_ ρ2 M2 fun b M3=>if b=true then ae ρ2 M3 fun y M4=>Q (some y) ρ2 M4 else Q none ρ2 M3)
  (hN:∀ o,N ((xs.filter p).map f) (R o) M):K3 ag at_ (v8 ae) G N (xs.map g) [] ρ M:=by
 have hsl:100000<sizeLine:=by rw [sizeLine_eq];decide
 refine ⟨fun i acc ρ' M'=>i<=xs.length/\acc=((xs.take i).filter p).map f/\M'=M/\∃ o,ρ'=R o,⟨Nat.zero_le _,rfl,rfl,h0⟩,?_,?_⟩
 ·rintro i z acc ρ' M' hx ⟨hi,rfl,rfl,o,rfl⟩
  rw [List.getElem?_map] at hx
  cases e0:xs[i]? with
  | none=>rw [e0] at hx;cases hx
  | some x=>
   rw [e0] at hx
   cases hx
   have hil:=(List.getElem?_eq_some_iff.mp e0).1
   have tk:xs.take (i+1)=xs.take i ++ [x]:=by rw [List.take_add_one,e0];rfl
   have hlen:(((xs.take i).filter p).map f).length<=i:=by
    rw [List.length_map]
    exact Nat.le_trans (List.length_filter_le _ _) (by rw [List.length_take];omega)
   refine ⟨hG,?_⟩
   refine hs o x (fun y ρ2 M3=>match y with | some y=>(((xs.take i).filter p).map f).length<sizeLine/\(i+1<=xs.length/\((xs.take i).filter p).map f ++ [y]=((xs.take (i+1)).filter p).map f/\M3=M'/\∃ o,ρ2=R o) | none=>i+1<=xs.length/\((xs.take i).filter p).map f=((xs.take (i+1)).filter p).map f/\M3=M'/\∃ o,ρ2=R o) (List.mem_of_getElem? e0) fun o'=>?_
   rw [tk,List.filter_append]
   cases e:p x with
   | true=>rw [if_pos rfl];exact ⟨by omega,hil,by rw [List.filter_cons_of_pos e,List.map_append];rfl,rfl,o',rfl⟩
   | false=>rw [if_neg (by decide)];exact ⟨hil,by rw [List.filter_cons_of_neg (by rw [e];decide),List.filter_nil,List.append_nil],rfl,o',rfl⟩
 ·rintro acc ρ' M' ⟨_,rfl,rfl,o,rfl⟩
  rw [List.length_map,List.take_length]
  exact ⟨hG,hN o⟩
theorem EL {n:Nat}{os T:List Int}{ws rs:List Dat}(ho:zj n os)(lw:ws.length=n)(lT:T.length=n)(hg:∀ t:Nat,t<n->T.getD (os.getD t 0).toNat 0=(t:Int))(hp:DJ ws os rs):T.map (fun x=>ws.getD x.toNat .non)=rs:=by
 have lo:=ho.1
 refine List.ext_getElem? fun x=>?_
 by_cases hx:x<n
 ·obtain ⟨t,ht,e⟩:=ho.ex hx
  have h1:=hp.2 t (by omega)
  have h2:=hg t ht
  rw [e,Int.toNat_natCast] at h1 h2
  rw [List.getElem?_map,List.getElem?_eq_getElem (by omega)]
  rw [List.getD_eq_getElem?_getD,List.getElem?_eq_getElem (by omega)] at h2
  have h3:T[x]=(t:Int):=h2
  rw [h3,h1]
  show some (ws.getD (t:Int).toNat .non)=_
  rw [Int.toNat_natCast,List.getD_eq_getElem?_getD,List.getElem?_eq_getElem (by omega)];rfl
 ·rw [List.getElem?_eq_none (by rw [List.length_map];omega),List.getElem?_eq_none (by have:=hp.1;omega)]
theorem FD:∀ i:Nat,i<101->(Str.ofString (toString (i:Int))).length<=10:=by decide +kernel
theorem Ln (a:At K mg "law" W6)(B:Blt mg)(D_law_box:Df P w K mg base "_law_box" ["_law_script","_law_k"] 19 (cSp LX))(D_law_folded:Df P w K mg base "_law_folded" ["_law_script","_law_many"] 19 (cSp (YR K)))(D_law_length:Df P w K mg base "_law_length" ["_law_box_here","_law_most"] 19 (cSp Yr))(D_law_order:Df P w K mg base "_law_order" ["_law_box_here","_law_n"] 19 (cSp AU))
  (D_law_gone:Df P w K mg base "_law_gone" ["_law_n","_law_plan"] 19 (cSp BN)) (D_law_ends:Df P w K mg base "_law_ends" ["_law_n","_law_plan"] 19 (cSp GT)) (D_law_turned:Df P w K mg base "_law_turned" ["_law_box_here","_law_some"] 19 (cSp Yd)) (D_by_rings:Df P w K mg base "by_rings" ["order"] 19 (cSp Ju)) (D_by_swaps:Df P w K mg base "by_swaps" ["order"] 19 (cSp Jk)) (D_put:Df P w K mg base "put" ["things","order"] 19 (cSp GH)) (D_after:Df P w K mg base "after" ["one","other"] 19 (cSp Xi)) (D_walked:Df P w K mg base "walked" ["n","plan"] 19 (cSp Yz)) (D_back_of:Df P w K mg base "back_of" ["order"] 19 (cSp Bv)) (D_staying:Df P w K mg base "staying" ["n"] 19 (cSp wo)) (D_rings:Df P w K mg base "rings" ["order"] 19 (cSp xw))
  {cBadRing:Addr} (DX_order_by_o:DfX P w K mg base "order_by" ["n","rings_told"] 19 (JI (Zu cBadRing))) (D_leaders:Df P w K mg base "leaders" ["order"] 19 (cSp Jj)) (D_off:Df P w K mg base "off" ["order"] 19 (cSp E8)) (D_fewest_moves:Df P w K mg base "fewest_moves" ["order"] 19 (cSp GZ)) (D_fewest_swaps:Df P w K mg base "fewest_swaps" ["order"] 19 (cSp G3)) (D_turns_of:Df P w K mg base "turns_of" ["order"] 19 (cSp JN)) (D_times:Df P w K mg base "times" ["order","many"] 19 (cSp Bw)) :
  Df P w K mg base "law" ["_law_script"] 20 (cSp (L7 K)):=by
 refine dfA (k:=19) a D5 (fun _ _ _ _ _ _=>Pn1_ fun _=>rfl) (fun xs M Q h=>?_) (fun f cdv A outer s H E hr=>?_)
 ·obtain ⟨_,rfl,_⟩:=h;rfl
 have sc:=D5
 have hsl:=hsl
 refine ⟨_,(zc (zC (i:=0) sc.nd rfl (by first | exact Or.inl rfl | exact Or.inr rfl) (zA D_law_folded hr rfl (za (pv 0) (za ze zb))))
  (zc (qv PassesOwn.never rfl (qP rfl B.range (za (zt (ZU rfl) rfl B.max D1 (za ze (za (zt zp rfl B.len zZ (za (pv 0) zb)) zb))) zb)) (zx (i:=1) sc.nd rfl (by first | exact Or.inl rfl | exact Or.inr rfl)) (zc (zC (i:=2) sc.nd rfl (by first | exact Or.inl rfl | exact Or.inr rfl) (zA D_law_box hr rfl (za (pv 0) (za (pv 1) zb))))
  (zc (zC (i:=3) sc.nd rfl (by first | exact Or.inl rfl | exact Or.inr rfl) (zA D_law_length hr rfl (za (pv 2) (za ze zb))))
  (zc (Qy (i:=8) (j:=9) rfl sc.nd rfl rfl (by decide) rfl rfl (za (zA D_law_order hr rfl (za (pv 2) (za (pv 3) zb))) (za (zA D_law_order hr rfl (za (pv 2) (za (pv 3) zb))) zb)) rfl)
  (zc (zC (i:=4) sc.nd rfl (by first | exact Or.inl rfl | exact Or.inr rfl) (qI (ts:=[10]) rfl rfl (qP rfl B.range (za (pv 3) zb)) (fun _ _ _ _=>(zx (i:=10) sc.nd rfl (by first | exact Or.inl rfl | exact Or.inr rfl))) (fun _ _ _ _=>qG) (fun _ _ _ _=>(zu K8 qM (zK Qz rfl B.str Ai (za (pv 10) zb))))))
  (zc (zC (i:=5) sc.nd rfl (by first | exact Or.inl rfl | exact Or.inr rfl) (zF qm (zA D_law_gone hr rfl (za (pv 3) (za (zA D_by_rings hr rfl (za (pv 8) zb)) zb))) ze (fun _ _=>rfl)))
  (zc (zP (zn (qZ hr.units) (zA D_put hr rfl (za (pv 4) (za (pv 8) zb))) (qI (ts:=[10]) rfl rfl (ju (pv 5)) (fun _ _ _ _=>(zx (i:=10) sc.nd rfl (by first | exact Or.inl rfl | exact Or.inr rfl))) (fun _ _ _ _=>qG) (fun _ _ _ _=>(zF (xY (K:=K) rfl) (pv 4) (pv 10) (fun _ _=>rfl)))) (zy _)) (zd (zq jE)) zB)
  (zc (zP (zn (qZ hr.units) (zA D_law_ends hr rfl (za (pv 3) (za (zu yP (zA D_by_rings hr rfl (za (pv 8) zb)) (zA D_by_swaps hr rfl (za (pv 9) zb))) zb))) (zA D_after hr rfl (za (pv 8) (za (pv 9) zb))) (zy _)) (zd (zq jE)) zB)
  (zc (zP (zn (qZ hr.units) (zF qm (zA D_walked hr rfl (za (pv 3) (za (zu yP (zA D_by_swaps hr rfl (za (pv 8) zb)) (zA D_by_rings hr rfl (za (zA D_back_of hr rfl (za (pv 8) zb)) zb))) zb))) ze (fun _ _=>rfl)) (zA D_staying hr rfl (za (pv 3) zb)) (zy _)) (zd (zq jE)) zB)
  (zc (zC (i:=6) sc.nd rfl (by first | exact Or.inl rfl | exact Or.inr rfl) (zA D_rings hr rfl (za (pv 8) zb)))
  (zc (zP (PW.pt (ki (zn (qZ hr.units) (GL DX_order_by_o hr rfl IY (za (pv 3) (za (zA D_law_turned hr rfl (za (pv 2) (za (pv 6) zb))) zb))) (pv 8) (zy _)) (jC (zn (qZ hr.units) (zA D_leaders hr rfl (za (pv 8) zb)) (qI (ts:=[12]) rfl rfl (ju (pv 6)) (fun _ _ _ _=>(zx (i:=12) sc.nd rfl (by first | exact Or.inl rfl | exact Or.inr rfl))) (fun _ _ _ _=>qG) (fun _ _ _ _=>(zF (xY (K:=K) rfl) (pv 12) ze (fun _ _=>rfl)))) (zy _))))) (zd (zq jE)) zB)
  (zc (zP (zn (qZ hr.units) (qI (ts:=[11]) rfl rfl (ju (zA D_by_rings hr rfl (za (pv 8) zb))) (fun _ _ _ _=>(zx (i:=11) sc.nd rfl (by first | exact Or.inl rfl | exact Or.inr rfl))) (fun _ _ _ _=>Qt (zn (Zf hr.units) (zF (xY (K:=K) rfl) (pv 11) ze (fun _ _=>rfl)) qM (zy _))) (fun _ _ _ _=>(zF (xY (K:=K) rfl) (pv 11) ze (fun _ _=>rfl)))) (zA D_leaders hr rfl (za (pv 8) zb)) (zy _)) (zd (zq jE)) zB)
  (zc (zP (PW.pt (ki (zn (qZ hr.units) (zu zX (zA D_off hr rfl (za (pv 8) zb)) (zt zp rfl B.len zZ (za (pv 6) zb))) (zA D_fewest_moves hr rfl (za (pv 8) zb)) (zy _)) (jC (zn (qZ hr.units) (zu jX (zA D_off hr rfl (za (pv 8) zb)) (zt zp rfl B.len zZ (za (pv 6) zb))) (zA D_fewest_swaps hr rfl (za (pv 8) zb)) (zy _))))) (zd (zq jE)) zB)
  (zc (zC (i:=7) sc.nd rfl (by first | exact Or.inl rfl | exact Or.inr rfl) (zA D_turns_of hr rfl (za (pv 8) zb)))
  (zd (zP (PW.pt (ki (zn (qZ hr.units) (zA D_times hr rfl (za (pv 8) (za (pv 7) zb))) (zA D_staying hr rfl (za (pv 3) zb)) (zy _)) (ki (zn (qZ hr.units) (zA D_times hr rfl (za (pv 8) (za (zu jX (pv 7) ze) zb))) (zA D_back_of hr rfl (za (pv 8) zb)) (zy _)) (jC (zn (qZ hr.units) (zA D_times hr rfl (za (pv 8) (za (Ec X6 ze) zb))) (zA D_back_of hr rfl (za (pv 8) zb)) (zy _)))))) (zd (zq jE)) zB))))))))))))))))
  (zd (zq jE)))),?_⟩
 refine ex2 (by walk_at "sim") ?_
 rintro xs M Q ⟨ns,rfl,hn,q⟩
 rw [show qc ["_law_script","_law_k","_law_box_here","_law_n","_law_words","_law_row","_law_told","_law_many","_law_one","_law_other","_law_place","_law_deed","_law_ring"] [.d (.scr K ns)]=[some (.d (.scr K ns)),none,none,none,none,none,none,none,none,none,none,none,none] from rfl]
 refine zw fun r hr0=>?_
 walk_at "ra"
 refine ⟨4,ns,rfl,by omega,by omega,hn,fun cs lc=>?_⟩
 subst hr0
 refine zw fun r hr0=>?_
 walk_at "ra"
 have e2:(if (cs.length:Int) > 2 then (cs.length:Int) else 2)=((max 2 cs.length:Nat):Int):=by split <;> omega
 rw [e2,Int.toNat_natCast]
 refine ⟨by omega,by omega,?_⟩
 refine ⟨fun i ρ M'=>(∃ x1 x2 x3 x4 x5 x6 x7 x8 x9 x10 x11 x12,ρ=[some (.d (ilD cs)),x1,x2,x3,x4,x5,x6,x7,x8,x9,x10,x11,x12])/\Fr M M',⟨⟨_,_,_,_,_,_,_,_,_,_,_,_,rfl⟩,Fr.refl⟩,?_,?_⟩
 ·rintro i y ρ M1 hy ⟨⟨x1,x2,x3,x4,x5,x6,x7,x8,x9,x10,x11,x12,rfl⟩,f1⟩
  obtain ⟨hi,rfl⟩:=JJ hy
  refine ⟨trivial,?_⟩
  rw [Int.zero_add,Int.mul_one]
  show jZ _ _ _ _ _ _
  refine zw fun r2 hr2=>?_
  walk_at "ra"
  refine ⟨_,i,cs,rfl,Eg _ _,by omega,by omega,by omega,fun b o hb bx=>?_⟩
  have b0:=f1.non hb
  have f2:=f1.mup b0 o
  have sb:=SB.refl bx
  generalize mup M1 b o=M2 at *
  subst hr2
  refine zw fun r2 hr2=>?_
  walk_at "ra"
  refine ⟨b,100,0,rfl,sb.bx,by omega,by omega,by omega,fun n M3 s3 n0 n1=>?_⟩
  have sb:=sb.go s3
  obtain ⟨n,rfl⟩:∃ k:Nat,n=k:=⟨n.toNat,by omega⟩
  subst hr2
  refine zw fun r2 hr2=>?_
  walk_at "ra"
  refine ⟨b,n,_,rfl,sb.bx,by omega,by omega,fun os M4 s4 ho=>?_⟩
  have sb:=sb.go s4
  refine ⟨b,n,_,rfl,sb.bx,by omega,by omega,fun o2 M5 s5 ho2=>?_⟩
  have sb:=sb.go s5
  subst hr2
  refine zw fun r2 hr2=>?_
  walk_at "ra"
  rw [Int.toNat_natCast,YS]
  refine ⟨by omega,by omega,?_⟩
  refine vK (fun o=>[some (.d (ilD cs)),some (.d (.int i)),some (.ref b),some (.d (.int n)),x4,x5,x6,x7,some (.d (.lst (os.map .int))),some (.d (.lst (o2.map .int))),o,x11,x12]) _ (fun k:Nat=>.d (.str (Str.ofString "w" ++ Str.ofString (toString (k:Int))))) (List.range n) ⟨_,rfl⟩ trivial (by rw [List.length_range];omega) (fun o k Q hk q=>?_) fun o=>?_
  ·have hk:=List.mem_range.mp hk
   have:=FD k (by omega)
   walk_at "ra"
   refine ⟨Nat.lt_of_le_of_lt (Nat.log2_le_self _) (by omega),?_,q _⟩
   rw [show (Str.ofString "w").length=1 from by decide +kernel]
   omega
  obtain ⟨ws,hws⟩:∃ ws:List Dat,ws=(List.range n).map fun k:Nat=>.str (Str.ofString "w" ++ Str.ofString (toString (k:Int))):=⟨_,rfl⟩
  refine ⟨ws,by rw [hws];exact xy _ _,?_⟩
  have lw:ws.length=n:=by rw [hws,List.length_map,List.length_range]
  have fw:∀ t ∈ ws,VN t=true:=fun t ht=>by rw [hws] at ht;obtain ⟨k,_,rfl⟩:=List.mem_map.mp ht;rfl
  have dw:∀ l:List Dat,(∀ t ∈ l,VN t=true)->dp (.lst l)<=40:=fun l hl=>by
   rw [dp]
   refine Nat.le_trans (Nat.succ_le_succ (X5 (n:=0) fun d hd=>?_)) (by decide)
   have:=hl d hd
   cases d <;> first | (simp [VN] at this;done) | simp [dp]
  clear hws
  obtain ⟨T,lT,hdT,hgT⟩:=j7.rings ho
  have br:∀ {o:List Int},(qV o n).map ddD=((qV o n).map J2).map deD:=fun {o}=>by rw [List.map_map];rfl
  have bs_:∀ {o:List Int},(qy o n).map B8=((qy o n).map swD).map deD:=fun {o}=>by rw [List.map_map];rfl
  have so:∀ (o:List Int) (M:MH),zW (.d (.lst (o.map .int))) M=some (o.map fun i=>AV.d (.int i)):=fun o M=>by rw [y9,xW]
  subst hr2
  refine zw fun r2 hr2=>?_
  walk_at "ra"
  refine ⟨_,n,os,rfl,so _ _,ho,by omega,n,_,_,_,_,rfl,by rw [br];exact y9 _ _,hdT,by omega,fun mv=>?_⟩
  have eT:(T.map some).map cD=T.map .int:=by rw [List.map_map];rfl
  rw [eT]
  walk_at "ra"
  refine ⟨_,rfl,?_⟩
  subst hr2
  refine zw fun r2 hr2=>?_
  walk_at "ra"
  refine ⟨n,ws,os,rfl,lw,fw,ho,by omega,fun rs hp=>?_⟩
  have er:=EL ho lw lT hgT hp
  have fr_:∀ t ∈ rs,VN t=true:=fun t ht=>by
   rw [<- er] at ht
   obtain ⟨x,_,rfl⟩:=List.mem_map.mp ht
   rw [List.getD_eq_getElem?_getD]
   cases e:ws[x.toNat]? with
   | none=>rfl
   | some d=>exact fw d (List.mem_of_getElem? e)
  have bT:∀ x ∈ T,0<=x/\x<(n:Int):=(QS ho lT hgT).2.1
  show K3 _ _ _ _ _ _ _ _ _
  refine vK (fun o=>[some (.d (ilD cs)),some (.d (.int i)),some (.ref b),some (.d (.int n)),some (.d (.lst ws)),some (.d (.lst (T.map .int))),x6,x7,some (.d (.lst (os.map .int))),some (.d (.lst (o2.map .int))),o,x11,x12]) _ (fun x:Int=>.d (ws.getD x.toNat .non)) T ⟨_,rfl⟩ trivial (by omega) (fun o x Q hx q=>?_) fun o=>?_
  ·obtain ⟨y0,y1⟩:=bT x hx
   walk_at "ra"
   refine ⟨_,?_,q _⟩
   unfold atI
   rw [ji y0 (by rw [List.length_map];omega)]
   show (ws.map AV.d)[x.toNat]?=_
   rw [List.getElem?_map,List.getD_eq_getElem?_getD,List.getElem?_eq_getElem (by omega)];rfl
  refine ⟨rs,by rw [<- er];exact xy _ _,_,rfl,dw _ fr_,dw _ fr_,?_⟩
  rw [if_neg (by rw [v0 (Nat.lt_of_le_of_lt (dw _ fr_) (by decide))];decide)]
  clear er fr_ hp hgT hdT bT
  have dpl:∀ ns:List Int,dp (.lst (ns.map .int))<=40:=fun ns=>Nat.le_trans (Yi ns) (by decide)
  have eqs:∀ ns:List Int,¬ (eqD (.lst (ns.map .int)) (.lst (ns.map .int))=false):=fun ns h=>by rw [v0 (Nat.lt_of_le_of_lt (dpl ns) (by decide))] at h;cases h
  have oi:∀ {o:List Int},zj n o->∀ p ∈ o,0<=p/\p<(n:Int):=fun h=>h.2.2
  subst hr2
  refine zw fun r2 hr2=>?_
  walk_at "ra"
  refine ⟨_,n,os,rfl,so _ _,ho,by omega,_,n,o2,rfl,so _ _,ho2,by omega,?_⟩
  have lr:∀ {o:List Int},zj n o->(qV o n).length<=2000/\(qy o n).length<=2000:=fun {o} h=>by
   have:=D8 o n
   have:=ZR h
   rw [Zh h]
   constructor <;> omega
  have l1:=lr ho
  have l2:=lr ho2
  refine ⟨_,yS _ _,_,yS _ _,by simp only [List.length_map];omega,(((qV os n).map J2 ++ (qy o2 n).map swD).map deD),by rw [br,bs_,<- List.map_append,<- List.map_append];exact qd _,?_⟩
  refine ⟨n,_,_,aft os o2,rfl,y9 _ _,(j7.rings ho).append (j7.swaps ho2) ho ho2,ho.aft ho2,by omega,?_⟩
  refine ⟨_,_,os,o2,rfl,rfl,rfl,by rw [ho.1,ho2.1],by rw [ho2.1];omega,by rw [ho2.1];exact oi ho,_,rfl,_,rfl,dpl _,dpl _,?_⟩
  rw [show ilD (aft os o2)=.lst ((aft os o2).map .int) from rfl,show ilD (FX os o2)=.lst ((aft os o2).map .int) from rfl,if_neg (eqs _)]
  subst hr2
  refine zw fun r2 hr2=>?_
  walk_at "ra"
  refine ⟨_,n,os,rfl,so _ _,ho,by omega,_,n,os,rfl,rfl,ho,by omega,fun bs hb=>?_⟩
  have hob:=hb.ord ho
  have l3:=lr hob
  refine ⟨_,n,bs,rfl,so bs _,hob,by omega,?_⟩
  have cw:=(j7.swaps ho).append (j7.rings hob) ho hob
  rw [hb.right ho] at cw
  obtain ⟨W,lW,hdW,hgW⟩:=cw
  obtain ⟨ms,hm⟩:=hdW.withM (List.replicate n 0)
  have hr_:=zj.rng n
  have eW:=(QS hr_ lW hgW).2.2
  refine ⟨_,yS _ _,_,yS _ _,by simp only [List.length_map];omega,(((qy os n).map swD ++ (qV bs n).map J2).map deD),by rw [br,bs_,<- List.map_append,<- List.map_append];exact qd _,?_⟩
  refine ⟨n,_,_,_,ms,rfl,y9 _ _,hm,by omega,by simp only [List.length_append,List.length_map];omega,(fun h z=>nomatch z),fun W' _ e=>?_⟩
  obtain rfl:W=W':=by
   have:=congrArg (List.map fun c:Option Int=>c.getD 0) e
   simpa [List.map_map,Function.comp_def] using this
  rw [eW]
  refine ⟨_,rfl,_,rfl,n,rfl,by omega,_,rfl,_,rfl,dpl _,dpl _,?_⟩
  rw [show ilD (zJ 0 1 n)=.lst ((zJ 0 1 n).map .int) from rfl,if_neg (eqs _)]
  clear hm eW hgW hdW lW
  subst hr2
  refine zw fun r2 hr2=>?_
  walk_at "ra"
  refine ⟨_,n,os,rfl,so _ _,ho,by omega,?_⟩
  subst hr2
  refine zw fun r2 hr2=>?_
  walk_at "ra"
  have g0:=K4 ho
  have lrs:=jk os n
  refine ⟨b,_,zk os n,rfl,sb.bx,by omega,by omega,fun r hr=>by have:=g0.len r hr;omega,fun rs' M6 s6 h1 h2 h3=>?_⟩
  have sb:=sb.go s6
  have g:=WC g0 h1 h2
  obtain ⟨st,st1,st2⟩:=FC ho g
  refine ⟨n,_,rs'.map ilD,dIs rs',rfl,rfl,by rw [List.map_map,List.map_map];rfl,by omega,by rw [List.length_map];omega,fun l hl=>?_,fun st' e' p' hp'=>?_,fun z=>by rw [st1] at z;cases z⟩
  ·obtain ⟨r,hr,rfl⟩:=List.mem_map.mp hl
   have:=g.len r hr
   refine ⟨by rw [List.length_map];omega,fun d hd=>?_⟩
   obtain ⟨x,_,rfl⟩:=List.mem_map.mp hd
   rw [Zc];omega
  rw [st1] at e'
  cases e'
  rw [st2]
  obtain ⟨p0',hpb'⟩:=sb.new hp'
  refine ⟨_,BX zl (qd _),dpl _,dpl _,?_⟩
  rw [if_neg (eqs _)]
  have sb:=sb.put p0' hpb' (.lst ((os.map .int).map .d))
  generalize mup M6 p' _=M7 at *
  have fm:=SB.frm f2 b0 sb
  clear sb s6 s5 s4 s3 bx st1 st2 h1 h2 h3
  refine ⟨_,n,os,rfl,so _ _,ho,by omega,?_⟩
  rw [List.map_map]
  refine vK (fun o=>[some (.d (ilD cs)),some (.d (.int i)),some (.ref b),some (.d (.int n)),some (.d (.lst ws)),some (.d (.lst (T.map .int))),some (.d (.lst ((zk os n).map ilD))),x7,some (.d (.lst (os.map .int))),some (.d (.lst (o2.map .int))),x10,x11,o]) _ (fun r:List Int=>.d (.int (r.getD 0 0))) (zk os n) ⟨_,rfl⟩ trivial (by omega) (fun o r Q hr q=>?_) fun o=>?_
  ·have:=g0.len r hr
   have e0:=kh (ns:=r) (i:=0) (by omega) (by omega)
   have q:=q (some (.d (ilD r)))
   show jQ 12 (AV.d (ilD r)) _ _ _
   walk_at "ra"
   exact ⟨_,by rw [<- xW] at e0 ⊢;exact e0,q⟩
  refine ⟨(wv os n).map .int,by unfold wv;rw [List.map_map];exact xy _ _,_,rfl,dpl _,dpl _,?_⟩
  rw [show ilD (wv os n)=.lst ((wv os n).map .int) from rfl,if_neg (eqs _)]
  subst hr2
  refine zw fun r2 hr2=>?_
  walk_at "ra"
  obtain ⟨tk1,tk2⟩:=ZV (zk os n) fun r hr=>⟨fun x hx=>(g0.bd r hr x hx).1,by have:=(g0.len r hr).1;omega⟩
  have tk:((qV os n).filter VE).map W2=wv os n:=tk1
  refine ⟨_,n,os,rfl,so _ _,ho,by omega,_,rfl,?_⟩
  rw [List.map_map]
  refine X1 (fun o=>[some (.d (ilD cs)),some (.d (.int i)),some (.ref b),some (.d (.int n)),some (.d (.lst ws)),some (.d (.lst (T.map .int))),some (.d (.lst ((zk os n).map ilD))),x7,some (.d (.lst (os.map .int))),some (.d (.lst (o2.map .int))),x10,o,x12]) _ (fun d=>AV.d (.int (W2 d))) VE _ ⟨_,rfl⟩ (by rw [y9,List.map_map]) (by omega) (fun o d Q hd q=>?_) fun o=>?_
  ·cases d with
   | take x=>
    have q:=q (some (.d (ddD (.take x))))
    show jQ 11 (AV.d (.tup [.str "take",.int (x:Int)])) _ _ _
    walk_at "ra"
    refine ⟨_,rfl,_,rfl,by decide +kernel,?_⟩
    rw [if_pos (by decide +kernel)]
    exact ⟨_,rfl,q⟩
   | move x y=>
    have q:=q (some (.d (ddD (.move x y))))
    show jQ 11 (AV.d (.tup [.str "move",.int (x:Int),.int (y:Int)])) _ _ _
    walk_at "ra"
    refine ⟨_,rfl,_,rfl,by decide +kernel,?_⟩
    rw [if_neg (by decide +kernel)]
    exact q
   | lay x=>
    have q:=q (some (.d (ddD (.lay x))))
    show jQ 11 (AV.d (.tup [.str "lay",.int (x:Int)])) _ _ _
    walk_at "ra"
    refine ⟨_,rfl,_,rfl,by decide +kernel,?_⟩
    rw [if_neg (by decide +kernel)]
    exact q
  rw [show ((qV os n).filter VE).map (fun d=>AV.d (.int (W2 d)))=(wv os n).map fun i=>AV.d (.int i) by rw [<- tk,List.map_map];rfl]
  refine ⟨_,qx _,_,n,os,rfl,so _ _,ho,by omega,?_⟩
  refine ⟨_,rfl,dpl _,dpl _,?_⟩
  rw [show ilD (wv os n)=.lst ((wv os n).map .int) from rfl,if_neg (eqs _)]
  have lo:=ho.1
  subst hr2
  refine zw fun r2 hr2=>?_
  walk_at "ra"
  refine ⟨_,n,os,rfl,so _ _,lo,by omega,?_⟩
  have eqi:∀ i j:Int,i=j->¬ (eqD (.int i) (.int j)=false):=fun i j e h=>by rw [D9,decide_eq_true e] at h;cases h
  refine ⟨_,rfl,_,n,os,rfl,so _ _,ho,by omega,_,rfl,by rw [Zc];omega,?_⟩
  rw [if_neg (eqi _ _ (by push_cast;rfl))]
  refine ⟨_,n,os,rfl,so _ _,lo,by omega,_,rfl,_,n,os,rfl,so _ _,ho,by omega,_,rfl,by rw [Zc];omega,?_⟩
  rw [if_neg (eqi _ _ rfl)]
  have L1:=Jp ho
  have ps:=Zv ho (ZN ho)
  have pb:=fun bs=>Bq (bs:=bs) ho
  subst hr2
  refine zw fun r2 hr2=>?_
  walk_at "ra"
  refine ⟨_,n,os,rfl,so _ _,ho,by omega,?_⟩
  generalize hL:xP (zk os n)=L at *
  subst hr2
  walk_at "ra"
  refine ⟨_,n,os,_,_,rfl,rfl,ho,by omega,⟨os,ho,fun _=>rfl,fun h=>by omega,rfl⟩,n,rfl,by omega,_,rfl,_,rfl,dpl _,dpl _,?_⟩
  rw [show pwl n os (L:Int).natAbs=pwl n os L from rfl,ps,show ilD (zJ 0 1 n)=.lst ((zJ 0 1 n).map .int) from rfl,if_neg (eqs _)]
  refine ⟨_,n,os,_,_,rfl,rfl,ho,by omega,⟨os,ho,fun _=>rfl,fun h=>by omega,rfl⟩,_,n,os,rfl,rfl,ho,by omega,fun bs' hb'=>?_⟩
  rw [show ((L:Int) - 1).natAbs=L - 1 by omega,pb bs' hb']
  refine ⟨_,rfl,_,rfl,dpl _,dpl _,?_⟩
  rw [show ilD bs'=.lst (bs'.map .int) from rfl,if_neg (eqs _)]
  refine ⟨_,n,os,_,_,rfl,rfl,ho,by omega,⟨bs,hob,fun h=>by omega,fun _=>hb,rfl⟩,_,n,os,rfl,rfl,ho,by omega,fun bs2 hb2=>?_⟩
  rw [show (-1:Int).natAbs=1 from rfl,QG hob,qD.same ho hb hb2]
  refine ⟨_,rfl,_,rfl,dpl _,dpl _,?_⟩
  rw [show ilD bs=.lst (bs.map .int) from rfl,if_neg (eqs _)]
  exact ⟨⟨_,rfl⟩,fm⟩
 ·rintro ρ M1 ⟨⟨x1,x2,x3,x4,x5,x6,x7,x8,x9,x10,x11,x12,rfl⟩,f1⟩
  refine ⟨trivial,?_⟩
  subst hr0
  walk_at "ra"
  exact yy f1 q
end
theorem all_mk {l:PySem.W.OpenLaw}{w:World}{K:PySem.W.Frag}{h:Heap}{mg:Str->Option Value}{fa C pa cBadRing:Addr}(X:K.In h)(G:h.Ns mainGlobals mg)(hfa:mg "law"=some (.ref fa))(a:At K mg "law" W6)(B:Blt mg)
  (a__law_take:At K mg "_law_take" XS) (a__law_box:At K mg "_law_box" Dv) (a__law_folded:At K mg "_law_folded" wU) (a__law_length:At K mg "_law_length" Ze) (a__law_shuffled:At K mg "_law_shuffled" yd) (a__law_ringed:At K mg "_law_ringed" Zb) (a__law_exchanged:At K mg "_law_exchanged" xf) (a__law_table:At K mg "_law_table" Z6) (a__law_order:At K mg "_law_order" Z9) (a_is_place:At K mg "is_place" yT) (a_is_deed:At K mg "is_deed" v7) (a_room_behind:At K mg "room_behind" vf) (a_walked:At K mg "walked" Zj) (a_back_of:At K mg "back_of" Qk) (a_ring_from:At K mg "ring_from" xu) (a_rings:At K mg "rings" QW) (a_leaders:At K mg "leaders" yU) (a_round_ring:At K mg "round_ring" kX) (a_by_rings:At K mg "by_rings" yc) (a_by_swaps:At K mg "by_swaps" xZ) (a_fewest_moves:At K mg "fewest_moves" KU) (a_fewest_swaps:At K mg "fewest_swaps" XA) (a_off:At K mg "off" D2) (a_common_divisor:At K mg "common_divisor" Dn) (a_turns_of:At K mg "turns_of" yL) (a_staying:At K mg "staying" va) (a_after:At K mg "after" Qu) (a_times:At K mg "times" Qo) (a_own_copy:At K mg "own_copy" vG) (a_put:At K mg "put" WS) (a_mark_ring:At K mg "mark_ring" Qv) (a_order_by:At K mg "order_by" yX) (a__law_gone:At K mg "_law_gone" Xt) (a__law_ends:At K mg "_law_ends" Xj) (a__law_turned:At K mg "_law_turned" yg)
  (ag_BadRing:PySem.W.nsIn K mainGlobals "BadRing"=some (some (.ref cBadRing)))
  (XI_BadRing:PySem.W.excIn K cBadRing B9 "ValueError.__new__"=true)
  (aP:PySem.W.nsIn K mainGlobals "PLACES_OF"=some (some (.ref pa))) {t1 t2 t3 t4 u1 u2 u3 u4:Tok} {ep:Nat}
  (lP:K.lookup pa=some ⟨.type "dict",none,.dict #[⟨hashStr w "swap",.str "swap" t1,.int 2 u1⟩,⟨hashStr w "take",.str "take" t2,.int 1 u2⟩,⟨hashStr w "move",.str "move" t3,.int 2 u3⟩,⟨hashStr w "lay",.str "lay" t4,.int 1 u4⟩] ep,#[]⟩) (nP:(pa == sysModules)=false)
  (aC:PySem.W.nsIn K mainGlobals "Room"=some (some (.ref C))) (pg:PySem.W.plainGet K C Str.empty=true) (hd:PySem.W.hasDictIn K C=true) (po:PySem.W.plainOver K C=true) (sa:PySem.W.findIn K (.ref C) "__setattr__"=some (some (.builtin "object.__setattr__"))) (mk:PySem.W.makesIn K C=true) (kc:PySem.W.keepIn K (.ref C)=true)
  (nr:PySem.W.findIn K (.ref C) "row"=some none) (nh:PySem.W.findIn K (.ref C) "hand"=some none) (nm:PySem.W.findIn K (.ref C) "moved"=some none)
  (m0:AtM K C "__init__" "Room.__init__" KN) (m1:AtM K C "do" "Room.do" LM) (m2:AtM K C "swap" "Room.swap" K5) (m3:AtM K C "take" "Room.take" KF) (m4:AtM K C "move" "Room.move" Xb) (m5:AtM K C "lay" "Room.lay" DS) (m6:AtM K C "lift" "Room.lift" Xh) (m7:AtM K C "row_now" "Room.row_now" XR) (m8:AtM K C "hand_now" "Room.hand_now" Xw) (m9:AtM K C "moved_now" "Room.moved_now" Xn)
 :∃ fd:FuncData,(∀ (s:Shared) (v:Value),BindsTo s fd ⟨[v],[]⟩ [("_law_script",v)])/\∀ base:Heap,K.In base->base.Ns mainGlobals mg->jH l.prog w K mg base CX0 20 fa fd ["_law_script"] (Vd K):=by
 obtain ⟨f,fd,F,m⟩:=id a
 obtain rfl:fa=f:=by rw [hfa] at m;cases m;rfl
 obtain ⟨oc,od,kV,doc,pm,an,cdv,ct,osl,e,lk,hcd⟩:=F.ex
 refine ⟨fd,fun s v=>?_,fun base _ _=>?_⟩
 ·subst e;exact .of_eq rfl
 ·have T:=Gs (P:=l.prog) (w:=w) (base:=base) a__law_take B
  have XG_BadRing:=PySem.W.mg_of X G ag_BadRing
  have R:RTx K C:=⟨⟨pg,hd,po,sa⟩,nr,nh,nm⟩
  have KP:KD K w pa Jq:=Wc lP nP
  have d1:=Wm (P:=l.prog) (w:=w) (base:=base) a_is_deed B KP (PySem.W.mg_of X G aP) (XU a_is_place B)
  have ml:=Fj (P:=l.prog) (w:=w) (mg:=mg) (base:=base) m6 R
  have md:=Mi (P:=l.prog) (w:=w) (base:=base) m1 R B d1 ((Et m2 R).mono (by decide)) (E4 m3 R ml) (Fn m4 R ml) ((HR m5 R).mono (by decide))
  obtain ⟨fi,fdi,Fi,bi,mi⟩:=(Ey (P:=l.prog) (w:=w) (base:=base) m0 R B).mono (show 1<=4 by decide)
  have MR:Mkr l.prog w K mg base "Room" C ["self","n"] 4 (X7 C):=⟨fi,fdi,Fi,bi,⟨mk,mi.at_,mi.fn,kc⟩,PySem.W.mg_of X G aC⟩
  have rb:=XF (P:=l.prog) (w:=w) (base:=base) a_room_behind R B MR (md.mono (by decide))
  have wk:=(V5 (P:=l.prog) (w:=w) (base:=base) a_walked R B rb ((DI a_back_of B).mono (by decide)) ((FF m7 R B).mono (by decide)) ((Fh m8 R).mono (by decide)) ((EC m9 R B).mono (by decide))).imp' WB
  have tk:=T.imp' E5
  have sh:=Jl (P:=l.prog) (w:=w) (base:=base) a__law_shuffled B T
  have od:=WV (P:=l.prog) (w:=w) (base:=base) a__law_order B (T.mono (by decide)) (sh.mono (by decide)) (Vs a__law_ringed B (T.mono (by decide)) sh) (QL a__law_exchanged B (T.mono (by decide)) sh) ((Dh a__law_table B).mono (by decide))
  have rg:=(AQ (P:=l.prog) (w:=w) (base:=base) a_rings B (QA a_ring_from B)).imp' An
  have ip:=Jr (P:=l.prog) (w:=w) (base:=base) a_is_place B
  have gc:=Hf (P:=l.prog) (w:=w) (base:=base) a_common_divisor B
  have tn:=Kz (P:=l.prog) (w:=w) (base:=base) a_turns_of B (rg.mono (by decide)) (gc.mono (by decide))
  have st0:=Jd (P:=l.prog) (w:=w) (base:=base) a_staying B
  have st:=st0.imp' Xp
  have af:=DP (P:=l.prog) (w:=w) (base:=base) a_after B
  have bk:=Fx (P:=l.prog) (w:=w) (base:=base) a_back_of B
  have tm:=WQ (P:=l.prog) (w:=w) (base:=base) a_times B (st.mono (by decide)) (af.mono (by decide)) (bk.mono (by decide))
  have ob:=Xx (P:=l.prog) (w:=w) (base:=base) a_order_by B XI_BadRing XG_BadRing (st0.mono (by decide)) (AM a_mark_ring B XI_BadRing XG_BadRing ip)
  have of:=IL (P:=l.prog) (w:=w) (base:=base) a_off B
  have gn:=Gq (P:=l.prog) (w:=w) (base:=base) a__law_gone B
  have br:=JG (P:=l.prog) (w:=w) (base:=base) a_by_rings B rg ((Zp a_round_ring B).mono (by decide))
  have bw:=Ka (P:=l.prog) (w:=w) (base:=base) a_by_swaps B rg
  have pt:=Hl (P:=l.prog) (w:=w) (base:=base) a_put B ((WU a_own_copy B (VF a_own_copy)).mono (by decide))
  have L:=Ln (P:=l.prog) (w:=w) (base:=base) a B (((LJ a__law_box B).imp' HH).mono (by decide)) (((V3 a__law_folded B).imp' V9).mono (by decide)) (((Wt a__law_length B T).imp' VX).mono (by decide)) ((od.imp' WZ).mono (by decide)) (gn.mono (by decide)) ((FG a__law_ends B (gn.mono (by decide))).mono (by decide)) ((Jz a__law_turned B tk).mono (by decide)) (br.mono (by decide)) (bw.mono (by decide)) (pt.mono (by decide)) (af.mono (by decide)) (wk.mono (by decide)) (bk.mono (by decide)) (st.mono (by decide)) (rg.mono (by decide)) (ob.mono (by decide)) ((XY a_leaders B rg).mono (by decide)) (of.mono (by decide)) ((FJ a_fewest_moves B (of.mono (by decide)) (rg.mono (by decide))).mono (by decide)) ((Ef a_fewest_swaps B (of.mono (by decide)) (rg.mono (by decide))).mono (by decide)) (tn.mono (by decide)) (tm.mono (by decide))
  exact (L.imp' (sp_law (K:=K))).fn m lk
theorem walk {l:PySem.W.OpenLaw}{q:Program}{loose:List Str}{XP:(Str->Option Value)->Heap->Prop}{YP:World->Heap->Prop}{d:DefRec}{K:Params->PySem.W.Frag}(hn:l.most=some 63)(hdf:d.params.defaults=[])
  (hY:∀ (w:World) (h:Heap),YP w h->(K w.params).In h)
  (F:∀ (w:World) (mg:Str->Option Value) (fa:Addr) (h:Heap),(K w.params).In h->h.Ns mainGlobals mg->mg d.name=some (.ref fa) ->
   ∃ fd:FuncData,(∀ (s:Shared) (u:Value),BindsTo s fd ⟨[u],[]⟩ [("_law_script",u)])/\∀ base:Heap,(K w.params).In base->base.Ns mainGlobals mg->jH l.prog w (K w.params) mg base CX0 20 fa fd ["_law_script"] (Vd (K w.params))) :
  PySem.W.WalkO q loose XP YP l.row.toRowW d [] (fun f vs=>PySem.call f vs):=
 L2.walk_of (n:=63) (k:=20) (x:="_law_script") (CX:=fun _=>CX0) (sp:=fun w=>Vd (K w.params)) hn (by decide) hdf ⟨rfl,rfl,by decide,by decide⟩ hY F (fun _ _ a ns hl _ hS=>⟨a,ns,rfl,hS,hl,fun _=>rfl⟩) fun _ _ _ _ _ z=>z
end Ot
theorem PySem.W.Fast.te3037531933609309878:True:=trivial
theorem PySem.W.Fast.te795011691760433349:True:=trivial
theorem PySem.W.Fast.te2398714089918625167:True:=trivial
namespace PySem.W.Fast
def tw9649199153366894048:=()
def tw11121436471860276859:=()
def tw4405539232925768928:=()
def tw16618462217432815769:=()
def tw5780311992855931806:=()
def tw2872625415965105636:=()
def tw16705679433782832445:=()
def tw9253693761524556934:=()
def tw11391144462222793127:=()
def tw9727849977956425227:=()
def tw16850271239490173144:=()
def tw2429717367369864530:=()
def tw7418692607378468676:=()
def tw6583237679088902088:=()
def tw14600163853286731000:=()
def tw15440099253381197573:=()
def tw14746620995259751190:=()
def tw2075225426985341781:=()
def tw17156605169133406262:=()
def tw9674743684293844167:=()
def tw104337493580211744:=()
def tw12098423010104088781:=()
def tw14808150351042092608:=()
def tw8264862053413231435:=()
def tw17844073117102118171:=()
def tw2200601562504640242:=()
def tw17992972325141058852:=()
def tw5780248007412991016:=()
def tw7568197545741231918:=()
def tw14975331664387723270:=()
def tw4676902529841852637:=()
def tw4119359337016171088:=()
def tw3278447449629716446:=()
def tw5270872309681471616:=()
def tw18389485989221210088:=()
def tw6822748493005767241:=()
def tw16397616008399127157:=()
def tw1079066784774117441:=()
def tw11784981832864381304:=()
def tw6891692076327149188:=()
def tw1138171537966926802:=()
def tw1335185819418670399:=()
def tw7198821510433088277:=()
def tw8803982446270937123:=()
def tw2110098759157396529:=()
def tw11523150020029788629:=()
def tw12016813931920628743:=()
def tw7678117056738274846:=()
def tw15280208929274442268:=()
def tw15737175613027049645:=()
def tw7407115681259499528:=()
def tw11276051390802889461:=()
def tw14131379649083570168:=()
def tw15961197202965899026:=()
def tw14450373438484501326:=()
def tw11824158804521930295:=()
def tw13930415320973774593:=()
def tw11211029208262347033:=()
def tw13330500510894663353:=()
def tw1838881770176417226:=()
def tw1657202643238025553:=()
def tw11184544461973533104:=()
def tw4990201513102402709:=()
def tw1798335429904211164:=()
def tw16186223990720145032:=()
def tw11021336989850509688:=()
def tw14834281306564371063:=()
def tw14914001889534857619:=()
def tw6263776316521322789:=()
def tw14497858339042905229:=()
def tw13851168312179775879:=()
def tw4346301703535906691:=()
def tw15548574442666857391:=()
def tw5307704233661550498:=()
def tw8871421353475541022:=()
def tw8981881603666104894:=()
def tw8560446218052003184:=()
def tw12108475711593058687:=()
def tw6565218310313653572:=()
def tw4024412479318274062:=()
def tw9002715325802514972:=()
def tw8697117591773243549:=()
def tw8625924270588117175:=()
def tw6030085554737562401:=()
def tw10760106316828894020:=()
def tw10730984565405474111:=()
def tw18075721257156369728:=()
def tw319397320125473975:=()
def tw6438401145062282489:=()
def tw14015249983727350328:=()
def tw17629699260058175267:=()
def tw17229486377412454620:=()
def tw7989095950499323459:=()
def tw2764756738883049553:=()
def tw14418305542604874246:=()
def tw14676342648909531795:=()
def tw417831083994243912:=()
def tw13393267110054082241:=()
def tw6924200852855975417:=()
def tw5746635270257359256:=()
def tw15838051579786871722:=()
def tw14889120614376184035:=()
def tw9230856780751686356:=()
def tw3933483572121345777:=()
def tw3876761355678309150:=()
def tw1903127984284394508:=()
def tw3247243430740447227:=()
def tw16039812531835979434:=()
def tw3991352965285397913:=()
def tw15106023987812986989:=()
def tw9285625215221771666:=()
def tw426533362883169456:=()
def tw10882330294892398930:=()
def tw4393984717315755601:=()
def tw15857656378126463323:=()
def tw1117862501167815563:=()
def tw14510689221476355941:=()
def tw12499652839893546320:=()
def tw9647043695028515180:=()
def tw7385746217054801074:=()
def tw6933764256607871415:=()
def tw12931078945465064239:=()
def tw1386228804773650815:=()
def tw5429947310809636390:=()
def tw4589282594380910194:=()
def tw5154568088012658335:=()
def tw2760294749605396217:=()
def tw10785951521701815673:=()
def tw6024080810069087876:=()
def tw16528869612658981952:=()
def tw2292025368684934596:=()
def tw18033937719065790444:=()
def tw129378093124697339:=()
def tw7847791409602558528:=()
def tw486073097282639690:=()
def tw7771927017581064624:=()
def tw7702629143281777774:=()
def tw11034800302301267603:=()
def tw5665807248701618127:=()
def tw8532819222935683634:=()
def tw11357039488345319517:=()
def tw16941575701808699425:=()
def tw11304399710869187039:=()
def tw15193485513698469936:=()
def tw12838084646492098027:=()
def tw846146633206795568:=()
def tw11364385459306224164:=()
def tw1092976207068678161:=()
def tw13944840708492299816:=()
def tw13198965008742616876:=()
def tw14591801489544040889:=()
def tw15221529585482908357:=()
def tw8442845435103721118:=()
def tw14569394049032298520:=()
def tw17977457163544252245:=()
def tw1050187610440145447:=()
def tw16931997218515072069:=()
def tw10970668041524426449:=()
def tw10969967028890498848:=()
def tw14643849406305807335:=()
def tw8138862215284449609:=()
def tw5754173954868329670:=()
def tw17704808051947227358:=()
def tw12540256695549224898:=()
def tw7342103004529901406:=()
def tw13091377993675453072:=()
def tw11379923498277924703:=()
def tw9314978309392216982:=()
def tw6236352726198471963:=()
def tw11628329113162049354:=()
def tw1256749225037031115:=()
def tw16191521183325956063:=()
def tw15951794124261491765:=()
def tw2477084234647328315:=()
def tw14547526993266538121:=()
def tw3848267006156010974:=()
def tw9538216453902815299:=()
def tw8607135765319241256:=()
def tw6158549635356093803:=()
def tw10222251134788256942:=()
def tw5062659551080282114:=()
def tw14503899683606259632:=()
def tw820353970738585190:=()
def tw2653687953020737929:=()
def tw13994038930710357171:=()
def tw15751331658747577097:=()
def tw11977590782773551518:=()
def tw3131932541582868652:=()
def tw17645196555638106448:=()
def tw13930131892629592273:=()
def tw11932598255884962650:=()
def tw14269607225800908262:=()
def tw5920601748790216934:=()
def tw11246541010847476236:=()
def tw14807061864402272966:=()
def tw11810272602091820729:=()
def tw13819025140031480217:=()
def tw9027052053187238158:=()
def tw2301884948801120707:=()
def tw16735298847767224193:=()
def tw15376777454591640405:=()
def tw9607457958518827193:=()
def tw11550842871481328880:=()
def tw18429388564860130389:=()
def tw2852179300841969483:=()
def tw6527369235397767236:=()
def tw17561061549878802637:=()
def tw892602653282479967:=()
def tw10339441498032755075:=()
def tw12717606008518148814:=()
def tw5731050112256605649:=()
def tw7711483625361695090:=()
def tw13259522708003627828:=()
def tw17052132746698673668:=()
def tw5095832991235501276:=()
def tw8035766572408153249:=()
def tw14616814311225962182:=()
def tw5404191508152832771:=()
def tw12055859246833566537:=()
def tw6544577836809113437:=()
def tw17149570075585632317:=()
def tw11667574374709653148:=()
def tw3034722471410778661:=()
def tw1902467164186916425:=()
def tw13691253107030757873:=()
def tw18337907057797643565:=()
def tw16619009006421802217:=()
def tw17412708841884243374:=()
def tw10650019535289547354:=()
def tw11014199033709068690:=()
def tw10888384404328894512:=()
def tw13638055485329608785:=()
def tw1014794478526831873:=()
def tw8272194214568024719:=()
def tw6531810507467254452:=()
def tw3531038519092782753:=()
def tw4198852979180982359:=()
def tw6404602169566726750:=()
def tw3282530664013517284:=()
def tw10581401539502497234:=()
def tw17603371427446494462:=()
def tw17403403577295834110:=()
def tw17396091110734757754:=()
def tw15569447403402991135:=()
def tw9042507069336189747:=()
def tw3171491083501791928:=()
def tw4714537079218898220:=()
def tw15454683098440276481:=()
def tw4950485319714123072:=()
def tw17065482058211302587:=()
def tw3495304382195421016:=()
def tw10961657419258644872:=()
def tw3988910168023600692:=()
def tw12849581533675831117:=()
def tw14460907712849071529:=()
def tw14346407729990818024:=()
def tw12652609776998073902:=()
def tw4103950046917524557:=()
def tw14091036837805797179:=()
def tw17732040797002032703:=()
def tw1075104596931306655:=()
def tw8596430344313286567:=()
def tw6700745020616060546:=()
def tw12121782140570478128:=()
def tw4192611352741717134:=()
def tw4883680302409566125:=()
def tw1135783246770073930:=()
def tw5384779479326480836:=()
def tw13489747340128243492:=()
def tw15152956205450751971:=()
def tw13967995208976579422:=()
def tw16698955039463952208:=()
def tw9389791067172529189:=()
def tw2038867893998304045:=()
def tw13786153590374483383:=()
def tw7350554707434999559:=()
def tw16196287670813794557:=()
def tw7643058601027684861:=()
def tw8993555173709947216:=()
def tw12242552908190824868:=()
def tw9468633803119777826:=()
def tw10393031014498156494:=()
def tw5738445454292325151:=()
def tw6311952945776837719:=()
def tw3885663364772178263:=()
def tw15904227772486012201:=()
def tw7950582469854460272:=()
def tw1547852704177969184:=()
def tw4492140333259815511:=()
def tw6934159787355078571:=()
def tw13567672279395437880:=()
def tw742368926905757493:=()
def tw208681509271292726:=()
def tw6763261453777722597:=()
def tw8661946445267836421:=()
def tw4786817553804600213:=()
def tw4878960256193534498:=()
def tw16020460986671339361:=()
def tw10271170588724164201:=()
def tw11754094996394020467:=()
def tw9504771060375925106:=()
def tw13002761439857610049:=()
def tw2942646599475094439:=()
def tw13993184437125513699:=()
def tw18432247328160618749:=()
def tw8192257184232471453:=()
def tw3650895715856898213:=()
def tw16699608961764525507:=()
def tw10905440719185447299:=()
def tw7885110758071949616:=()
def tw12396141556865233299:=()
def tw4320364049996315013:=()
def tw12762531316851224631:=()
def tw13034486981796763303:=()
def tw2392744460914776594:=()
def tw16170697867380011018:=()
def tw9354778714242120302:=()
def tw13709520418682426000:=()
def tw1598437328750984193:=()
def tw16098161609261603772:=()
def tw9216531398631940368:=()
def tw15879693362923669250:=()
def tw4928628605733964616:=()
def tw8572269738304342129:=()
def tw4523236497050743479:=()
def tw10214507594860113513:=()
def tw3695965374157527167:=()
def tw15306854451360611677:=()
def tw16301920946287170473:=()
def tw17743683497519701828:=()
def tw562716462463458423:=()
def tw13277678279942566646:=()
def tw10864353556799930342:=()
def tw9548044489896660947:=()
def tw2016900943974701530:=()
def tw12563520311133671728:=()
def tw10263407343566968446:=()
def tw7551547864314617992:=()
def tw6102739192655852813:=()
def tw3600616087388890627:=()
def tw13839733034990277993:=()
def tw6618699942799761615:=()
def tw14239148640470494777:=()
def tw1002746260215670405:=()
def tw1698106441481196868:=()
def tw12093558939629187404:=()
def tw17876447716297438813:=()
def tw15838479528359320380:=()
def tw10482649834039371050:=()
def tw7745916086339538097:=()
def tw13976687530078056075:=()
def tw3624118757624171362:=()
def tw5875102482399140208:=()
def tw7744050439564143710:=()
def tw17019387187866977910:=()
def tw14006430880887547730:=()
def tw12054605268595166328:=()
def tw16168868491326617222:=()
def tw14809849455268461403:=()
def tw1782034245402359620:=()
def tw10370519709760252402:=()
def tw15972776973544687044:=()
def tw11193970764398307701:=()
def tw13184752765032239411:=()
def tw3707446373025980195:=()
def tw11094058020970080647:=()
def tw3232560564076332723:=()
def tw616352640262537600:=()
def tw8062771025572800171:=()
def tw876656602096403322:=()
def tw32210210116546448:=()
def tw7090786485226154484:=()
def tw15671068073844839868:=()
def tw11190918920725516184:=()
def tw13317563281458420523:=()
def tw12807312463264735720:=()
def tw13760041081105780995:=()
def tw14099054101038367850:=()
def tw1509057777686597365:=()
def tw13296377270263654543:=()
def tw8502559090177538078:=()
def tw16369961984333944298:=()
def tw4038232980067725905:=()
def tw6003693408657457327:=()
def tw1228292220474381582:=()
def tw5726046429767682030:=()
def tw2475476561741065817:=()
def tw4249132363816135143:=()
def tw5173849496531465108:=()
def tw4439650593075275421:=()
def tw14422160386999453608:=()
def tw7277945852775958068:=()
end PySem.W.Fast
open PySem PySem.W PyProof.Rows
set_option maxRecDepth 100000 in
set_option maxHeartbeats 0 in
theorem PySem.Challenge.cw_ownturn_k67_whole_orders_and_their_plans_holds : PySem.Challenge.rw_ownturn_k67_whole_orders_and_their_plans.Holds := by
 w_on; o_law; k_head; (case hw => w_witness2)
 k_fill
 refine Ot.walk (l := PySem.Challenge.rw_ownturn_k67_whole_orders_and_their_plans) rfl rfl (fun w h Y => PySem.W.kIn_of Y) ?F
 case F =>
  intro w mg fa h KX G hmg
  refine' Ot.all_mk KX G hmg (L2.at_mk KX G ?a0 ?l0 ?c0 ?k0) (L2.blt_mk KX G ?z1 ?z2 ?z3 ?z4 ?z5 ?z6 ?z7 ?z8 ?z9 ?z10 ?z11 ?z12 ?z13 ?z14 ?z15 ?z16) (L2.at_mk KX G ?a1 ?l1 ?c1 ?k1) (L2.at_mk KX G ?a2 ?l2 ?c2 ?k2) (L2.at_mk KX G ?a3 ?l3 ?c3 ?k3) (L2.at_mk KX G ?a4 ?l4 ?c4 ?k4) (L2.at_mk KX G ?a5 ?l5 ?c5 ?k5) (L2.at_mk KX G ?a6 ?l6 ?c6 ?k6) (L2.at_mk KX G ?a7 ?l7 ?c7 ?k7) (L2.at_mk KX G ?a8 ?l8 ?c8 ?k8) (L2.at_mk KX G ?a9 ?l9 ?c9 ?k9) (L2.at_mk KX G ?a10 ?l10 ?c10 ?k10) (L2.at_mk KX G ?a11 ?l11 ?c11 ?k11) (L2.at_mk KX G ?a12 ?l12 ?c12 ?k12) (L2.at_mk KX G ?a13 ?l13 ?c13 ?k13) (L2.at_mk KX G ?a14 ?l14 ?c14 ?k14) (L2.at_mk KX G ?a15 ?l15 ?c15 ?k15) (L2.at_mk KX G ?a16 ?l16 ?c16 ?k16) (L2.at_mk KX G ?a17 ?l17 ?c17 ?k17) (L2.at_mk KX G ?a18 ?l18 ?c18 ?k18) (L2.at_mk KX G ?a19 ?l19 ?c19 ?k19) (L2.at_mk KX G ?a20 ?l20 ?c20 ?k20) (L2.at_mk KX G ?a21 ?l21 ?c21 ?k21) (L2.at_mk KX G ?a22 ?l22 ?c22 ?k22) (L2.at_mk KX G ?a23 ?l23 ?c23 ?k23) (L2.at_mk KX G ?a24 ?l24 ?c24 ?k24) (L2.at_mk KX G ?a25 ?l25 ?c25 ?k25) (L2.at_mk KX G ?a26 ?l26 ?c26 ?k26) (L2.at_mk KX G ?a27 ?l27 ?c27 ?k27) (L2.at_mk KX G ?a28 ?l28 ?c28 ?k28) (L2.at_mk KX G ?a29 ?l29 ?c29 ?k29) (L2.at_mk KX G ?a30 ?l30 ?c30 ?k30) (L2.at_mk KX G ?a31 ?l31 ?c31 ?k31) (L2.at_mk KX G ?a32 ?l32 ?c32 ?k32) (L2.at_mk KX G ?a33 ?l33 ?c33 ?k33) (L2.at_mk KX G ?a34 ?l34 ?c34 ?k34) (L2.at_mk KX G ?a35 ?l35 ?c35 ?k35) ?xgBadRing ?xiBadRing ?aP ?lP ?nP ?aC ?pg ?hd ?po ?sa ?mk ?kc ?nr ?nh ?nm (L2.atm_mk ?ma0 ?mi0 ?ml0 ?mc0 ?mk0) (L2.atm_mk ?ma1 ?mi1 ?ml1 ?mc1 ?mk1) (L2.atm_mk ?ma2 ?mi2 ?ml2 ?mc2 ?mk2) (L2.atm_mk ?ma3 ?mi3 ?ml3 ?mc3 ?mk3) (L2.atm_mk ?ma4 ?mi4 ?ml4 ?mc4 ?mk4) (L2.atm_mk ?ma5 ?mi5 ?ml5 ?mc5 ?mk5) (L2.atm_mk ?ma6 ?mi6 ?ml6 ?mc6 ?mk6) (L2.atm_mk ?ma7 ?mi7 ?ml7 ?mc7 ?mk7) (L2.atm_mk ?ma8 ?mi8 ?ml8 ?mc8 ?mk8) (L2.atm_mk ?ma9 ?mi9 ?ml9 ?mc9 ?mk9)
  (case xgBadRing => k_is)
  (case xiBadRing => k_exc)
  (case aP => k_is); (case lP => k_is); (case nP => first | rfl | decide | k_is); (case aC => k_is)
  (case a0 => k_is); (case l0 => k_is); (case c0 => k_is); (case k0 => k_is)
  (case a1 => k_is); (case l1 => k_is); (case c1 => k_is); (case k1 => k_is)
  (case a2 => k_is); (case l2 => k_is); (case c2 => k_is); (case k2 => k_is)
  (case a3 => k_is); (case l3 => k_is); (case c3 => k_is); (case k3 => k_is)
  (case a4 => k_is); (case l4 => k_is); (case c4 => k_is); (case k4 => k_is)
  (case a5 => k_is); (case l5 => k_is); (case c5 => k_is); (case k5 => k_is)
  (case a6 => k_is); (case l6 => k_is); (case c6 => k_is); (case k6 => k_is)
  (case a7 => k_is); (case l7 => k_is); (case c7 => k_is); (case k7 => k_is)
  (case a8 => k_is); (case l8 => k_is); (case c8 => k_is); (case k8 => k_is)
  (case a9 => k_is); (case l9 => k_is); (case c9 => k_is); (case k9 => k_is)
  (case a10 => k_is); (case l10 => k_is); (case c10 => k_is); (case k10 => k_is)
  (case a11 => k_is); (case l11 => k_is); (case c11 => k_is); (case k11 => k_is)
  (case a12 => k_is); (case l12 => k_is); (case c12 => k_is); (case k12 => k_is)
  (case a13 => k_is); (case l13 => k_is); (case c13 => k_is); (case k13 => k_is)
  (case a14 => k_is); (case l14 => k_is); (case c14 => k_is); (case k14 => k_is)
  (case a15 => k_is); (case l15 => k_is); (case c15 => k_is); (case k15 => k_is)
  (case a16 => k_is); (case l16 => k_is); (case c16 => k_is); (case k16 => k_is)
  (case a17 => k_is); (case l17 => k_is); (case c17 => k_is); (case k17 => k_is)
  (case a18 => k_is); (case l18 => k_is); (case c18 => k_is); (case k18 => k_is)
  (case a19 => k_is); (case l19 => k_is); (case c19 => k_is); (case k19 => k_is)
  (case a20 => k_is); (case l20 => k_is); (case c20 => k_is); (case k20 => k_is)
  (case a21 => k_is); (case l21 => k_is); (case c21 => k_is); (case k21 => k_is)
  (case a22 => k_is); (case l22 => k_is); (case c22 => k_is); (case k22 => k_is)
  (case a23 => k_is); (case l23 => k_is); (case c23 => k_is); (case k23 => k_is)
  (case a24 => k_is); (case l24 => k_is); (case c24 => k_is); (case k24 => k_is)
  (case a25 => k_is); (case l25 => k_is); (case c25 => k_is); (case k25 => k_is)
  (case a26 => k_is); (case l26 => k_is); (case c26 => k_is); (case k26 => k_is)
  (case a27 => k_is); (case l27 => k_is); (case c27 => k_is); (case k27 => k_is)
  (case a28 => k_is); (case l28 => k_is); (case c28 => k_is); (case k28 => k_is)
  (case a29 => k_is); (case l29 => k_is); (case c29 => k_is); (case k29 => k_is)
  (case a30 => k_is); (case l30 => k_is); (case c30 => k_is); (case k30 => k_is)
  (case a31 => k_is); (case l31 => k_is); (case c31 => k_is); (case k31 => k_is)
  (case a32 => k_is); (case l32 => k_is); (case c32 => k_is); (case k32 => k_is)
  (case a33 => k_is); (case l33 => k_is); (case c33 => k_is); (case k33 => k_is)
  (case a34 => k_is); (case l34 => k_is); (case c34 => k_is); (case k34 => k_is)
  (case a35 => k_is); (case l35 => k_is); (case c35 => k_is); (case k35 => k_is)
  (case z1 => k_is)
  (case z2 => k_is)
  (case z3 => k_is)
  (case z4 => k_is)
  (case z5 => k_is)
  (case z6 => k_is)
  (case z7 => k_is)
  (case z8 => k_is)
  (case z9 => k_is)
  (case z10 => k_is)
  (case z11 => k_is)
  (case z12 => k_is)
  (case z13 => k_is)
  (case z14 => k_is)
  (case z15 => k_is)
  (case z16 => k_is)
  (case pg => k_is); (case hd => k_is); (case po => k_is); (case sa => k_is); (case mk => k_is); (case kc => k_is); (case nr => k_is); (case nh => k_is); (case nm => k_is)
  (case ma0 => k_is); (case mi0 => k_is); (case ml0 => k_is); (case mc0 => k_is); (case mk0 => k_is)
  (case ma1 => k_is); (case mi1 => k_is); (case ml1 => k_is); (case mc1 => k_is); (case mk1 => k_is)
  (case ma2 => k_is); (case mi2 => k_is); (case ml2 => k_is); (case mc2 => k_is); (case mk2 => k_is)
  (case ma3 => k_is); (case mi3 => k_is); (case ml3 => k_is); (case mc3 => k_is); (case mk3 => k_is)
  (case ma4 => k_is); (case mi4 => k_is); (case ml4 => k_is); (case mc4 => k_is); (case mk4 => k_is)
  (case ma5 => k_is); (case mi5 => k_is); (case ml5 => k_is); (case mc5 => k_is); (case mk5 => k_is)
  (case ma6 => k_is); (case mi6 => k_is); (case ml6 => k_is); (case mc6 => k_is); (case mk6 => k_is)
  (case ma7 => k_is); (case mi7 => k_is); (case ml7 => k_is); (case mc7 => k_is); (case mk7 => k_is)
  (case ma8 => k_is); (case mi8 => k_is); (case ml8 => k_is); (case mc8 => k_is); (case mk8 => k_is)
  (case ma9 => k_is); (case mi9 => k_is); (case ml9 => k_is); (case mc9 => k_is); (case mk9 => k_is)
