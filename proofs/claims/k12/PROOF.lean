import PyProof.Rows.All
import Wide.All
import OpenK.AllK
import Wide.FinOn
import Lean
import PyProof.EqAt
import PyProof.EqKinds
import PyProof.TupleCall
import PyProof.ExcInit
import PyProof.ExcClass3
import PyProof.InstStoreFacts
import KE.KIsAll
import KE.KTryMore
import PyProof.ExcBaseAll.ValueError
import PyProof.ExcArgsOwn
import KE.RegKIsAll
import KE.RegKTryMore
import PyProof.RulesAs
import PySem.Challenge.RW_ownturn_k12_plans_shown
set_option compiler.extract_closed false
set_option Elab.async false
set_option linter.all false
set_option maxRecDepth 100000
namespace L2
open PySem PySem.Spec PyProof.Rows
noncomputable abbrev Key:=Sum Int Str
noncomputable def wB:Key->Value->Bool
 | .inl k,v=>Value.isInt k v
 | .inr x,v=>Value.isStrOf x v
noncomputable def Lq (w:World):Key->Int
 | .inl k=>hashInt k
 | .inr x=>hashStr w x
theorem qo:∀ {k:Key} {v:Value},wB k v=true->(∃ i t,k=Sum.inl i/\v=Value.int i t) \/ (∃ x t,k=Sum.inr x/\v=Value.str x t)
 | .inl i,v,h=>by
  obtain ⟨t,e⟩:=Value.isInt_shape (k:=i) (v:=v) h
  exact .inl ⟨i,t,rfl,e⟩
 | .inr x,v,h=>by
  obtain ⟨t,e⟩:=Value.isStrOf_shape (x:=x) (v:=v) h
  exact .inr ⟨x,t,rfl,e⟩
theorem YV (i:Int)(t:Tok):wB (.inl i) (.int i t)=true:=by simp [wB,Value.isInt]
theorem Yo (x:Str)(t:Tok):wB (.inr x) (.str x t)=true:=by simp [wB,Value.isStrOf]
theorem G6 (a b:Int):decide ((Sum.inl a:Key)=Sum.inl b)=(a == b):=by
 by_cases e:a=b
 ·subst e;simp
 ·have h:¬ (Sum.inl a:Key)=Sum.inl b:=fun q=>e (Sum.inl.inj q)
  rw [decide_eq_false h]
  exact (beq_eq_false_iff_ne.mpr e).symm
theorem Gj (a b:Str):decide ((Sum.inr a:Key)=Sum.inr b)=decide (a=b):=by
 by_cases e:a=b
 ·subst e;simp
 ·have h:¬ (Sum.inr a:Key)=Sum.inr b:=fun q=>e (Sum.inr.inj q)
  rw [decide_eq_false h,decide_eq_false e]
theorem Gr (a:Int)(b:Str):decide ((Sum.inl a:Key)=Sum.inr b)=false:=decide_eq_false (fun q=>nomatch q)
theorem Hw (a:Str)(b:Int):decide ((Sum.inr a:Key)=Sum.inl b)=false:=decide_eq_false (fun q=>nomatch q)
noncomputable def jT (prog:Program)(w:World):PySem.KeyKind prog w Key where
 is:=wB
 hash:=Lq w
 inj:=fun v a b ha hb=>by
  rcases qo ha with ⟨i,t,rfl,rfl⟩ | ⟨x,t,rfl,rfl⟩
  ·rcases qo hb with ⟨j,u,rfl,e⟩ | ⟨y,u,rfl,e⟩
   ·injection e with e1 _;rw [e1]
   ·exact nomatch e
  ·rcases qo hb with ⟨j,u,rfl,e⟩ | ⟨y,u,rfl,e⟩
   ·exact nomatch e
   ·injection e with e1 _;rw [e1]
 byValue:=fun k v h=>by
  rcases qo h with ⟨i,t,rfl,rfl⟩ | ⟨x,t,rfl,rfl⟩ <;> rfl
 pyHash:=fun hv h=>by
  rcases qo hv with ⟨i,t,rfl,rfl⟩ | ⟨x,t,rfl,rfl⟩
  ·exact wpAny_pyHash_int h
  ·exact wpAny_pyHash_str h
 eqBool:=fun hu hv h=>by
  rcases qo hu with ⟨i,t,rfl,rfl⟩ | ⟨x,t,rfl,rfl⟩
  ·rcases qo hv with ⟨j,u,rfl,rfl⟩ | ⟨y,u,rfl,rfl⟩
   ·rw [G6] at h;exact wpAny_eqBool_int h
   ·rw [Gr] at h;exact SeqAt.EqAt.int_str i t y u _ _ _ _ h
  ·rcases qo hv with ⟨j,u,rfl,rfl⟩ | ⟨y,u,rfl,rfl⟩
   ·rw [Hw] at h;exact SeqAt.EqAt.str_int x t j u _ _ _ _ h
   ·rw [Gj] at h;exact wpAny_eqBool_str h
 «strs»:=fun k x t v h=>by
  rcases qo h with ⟨i,u,rfl,e⟩ | ⟨y,u,rfl,e⟩
  ·exact nomatch e
  ·injection e with e1 _
   subst e1
   cases v <;> rfl
theorem Q6 (prog:Program)(w:World)(i:Int)(t:Tok):(jT prog w).is (.inl i) (.int i t)=true:=YV i t
theorem QV (prog:Program)(w:World)(x:Str)(t:Tok):(jT prog w).is (.inr x) (.str x t)=true:=Yo x t
inductive V where
 | non | bl (b:Bool) | int (i:Int) | str (x:Str) | byt (b:Array UInt8) | flt (b:UInt64) | ref (a:Addr) | ty (n:String)
 deriving DecidableEq
noncomputable def zH:V->Value->Prop
 | .non,u=>u=Value.none
 | .bl b,u=>u=Value.bool b
 | .int i,u=>∃ t,u=Value.int i t
 | .str x,u=>∃ t,u=Value.str x t
 | .byt b,u=>∃ t,u=Value.bytes b t
 | .flt b,u=>∃ t,u=Value.float b t
 | .ref a,u=>u=Value.ref a
 | .ty n,u=>u=Value.type n
noncomputable abbrev zG:List V->List Value->Prop:=Paired zH
theorem zG.length {xs:List V}{us:List Value}(r:zG xs us):xs.length=us.length:=Paired.length r
theorem zG.get:∀ {xs:List V} {us:List Value} {i:Nat} {x:V},zG xs us->xs[i]?=some x->∃ u,us[i]?=some u/\zH x u
 | _,_,_,_,.nil,e=>by simp at e
 | _,_,0,_,.cons r _,e=>by simp at e;subst e;exact ⟨_,rfl,r⟩
 | _,_,i+1,x,.cons _ t,e=>by
  obtain ⟨u,h1,h2⟩:=zG.get (i:=i) (x:=x) t (by simpa using e)
  exact ⟨u,by simpa using h1,h2⟩
theorem zG.set {x:V}{u:Value}(r:zH x u):∀ {xs:List V} {us:List Value} (i:Nat),zG xs us->zG (xs.set i x) (us.set i u)
 | _,_,_,.nil=>.nil
 | _,_,0,.cons _ t=>.cons r t
 | _,_,i+1,.cons q t=>.cons q (zG.set r i t)
theorem zG.append:∀ {xs ys:List V} {us ws:List Value},zG xs us->zG ys ws->zG (xs ++ ys) (us ++ ws)
 | _,_,_,_,.nil,s=>s
 | _,_,_,_,.cons r t,s=>.cons r (zG.append t s)
theorem zG.take:∀ {xs:List V} {us:List Value} (n:Nat),zG xs us->zG (xs.take n) (us.take n)
 | _,_,0,_=>.nil
 | _,_,_+1,.nil=>.nil
 | _,_,n+1,.cons r t=>.cons r (zG.take n t)
theorem zG.drop:∀ {xs:List V} {us:List Value} (n:Nat),zG xs us->zG (xs.drop n) (us.drop n)
 | _,_,0,r=>r
 | _,_,_+1,.nil=>.nil
 | _,_,n+1,.cons _ t=>zG.drop n t
noncomputable def xR:Option V->Option Value->Prop
 | some v,some u=>zH v u
 | none,none=>True
 | _,_=>False
noncomputable def KV {κ:Type}:List (κ × V)->List (κ × Value)->Prop:=Paired fun (p:κ × V) (q:κ × Value)=>p.1=q.1/\zH p.2 q.2
noncomputable def kV:Key->V
 | .inl i=>.int i
 | .inr x=>.str x
inductive HO where
  | lst (xs:List V)
  | tup (xs:List V)
  | dK (kvs:List (Key × V)) | dT (kvs:List (List Key × V))
  | set (S:Int->Bool) (n:Nat)
  | ins (C dx:Addr) (fs:List (Str × V))
  | own (x:Addr)
  | xd (fs:List (Str × V))
  | met (f x:Addr)
  | rng (lo hi:Int)
  | frz (o:Obj) (u:HO)
  | tbl (ps:Array Value)
  | ext (φ:Heap->Prop)
noncomputable abbrev Hp:=Addr->Option HO
noncomputable def upd (H:Hp)(a:Addr)(o:HO):Hp:=fun b=>if b=a then some o else H b
theorem zk {H:Hp}{a:Addr}{o:HO}:upd H a o a=some o:=by unfold upd;rw [if_pos rfl]
theorem zi {H:Hp}{a b:Addr}{o:HO}(h:b ≠ a):upd H a o b=H b:=by unfold upd;rw [if_neg h]
theorem xJ {H:Hp}{a:Addr}{o u:HO}:upd (upd H a o) a u=upd H a u:=by
 funext b;unfold upd;split <;> rfl
theorem QY {H:Hp}{a b:Addr}{o u:HO}(h:H a=some o)(h':H b=some u)(d:o ≠ u):a ≠ b:=by
 intro e;subst e;rw [h] at h';exact d (Option.some.inj h')
theorem zn {H:Hp}{a b:Addr}{o:HO}(h:H a=some o)(h':H b=none):a ≠ b:=by
 intro e;subst e;rw [h] at h';cases h'
noncomputable def wu (h:Heap)(a:Addr)(items:Array Value):Prop:=∃ o,h.get? a=some o/\o.cls=.type "tuple"/\(∃ n,o.data=.seq items n)/\o.dict=none
theorem wu.is {h:Heap}{a:Addr}{items:Array Value}(x:wu h a items):IsTup h a items:=let ⟨o,e,c,n,_⟩:=x;⟨o,e,c,n⟩
theorem wu.lt {h:Heap}{a:Addr}{items:Array Value}(x:wu h a items):a<h.objs.size:=x.is.lt
theorem wu.new (h:Heap)(items:Array Value):wu (h.push { cls:=.type "tuple",data:=.seq items }) h.objs.size items:=⟨_,Heap.get?_push_size _ rfl,rfl,⟨_,rfl⟩,rfl⟩
section
variable (P:Program)(w:World)
noncomputable def zW (H:Hp)(h:Heap)(a:Addr):HO->Prop
  | .lst xs=>xs.length<=sizeLine/\∃ (its:List Value) (n:Nat),zG xs its/\h.get? a=some { cls:=.type "list",data:=.seq its.toArray n }
  | .tup xs=>xs.length<=sizeLine/\∃ its:List Value,zG xs its/\wu h a its.toArray
  | .dK kvs=>kvs.length<=sizeLine/\(a == sysModules)=false/\∃ vs,KV kvs vs/\h.DictOf (jT P w) a vs
  | .dT kvs => kvs.length <= sizeLine /\ (a == sysModules) = false /\ ∃ xs : List (List Key × Addr × Value),
      Paired (fun (p:List Key × V) (q:List Key × Addr × Value)=>p.1=q.1/\H q.2.1=some (.tup (p.1.map kV))/\zH p.2 q.2.2) kvs xs /\
      ∃ o es ep,h.get? a=some o/\o.ExactDict/\o.data=.dict es ep/\es.toList=xs.map (entryOfKey (tupleKind (jT P w)))/\(xs.map (·.1)).Nodup
  | .set S n=>h.SetOf (intKind P w) a S n
  | .ins C dx fs => H dx = some (.own a) /\ fs.length <= 1000 /\ dx ≠ a /\ h.get? a = some (PySem.W.instObj C dx) /\
      ∃ mA,h.Ns1 dx mA/\(∀ f,xR (fs.lookup f) (mA f))/\PySem.Within mA (fs.map (·.1))
  | .own _=>∃ o,h.get? a=some o
  | .xd fs=>∃ mA,h.Ns1 a mA/\∀ f,xR (fs.lookup f) (mA f)
  | .rng lo hi=>∃ t u v,h.get? a=some { cls:=.type "range",data:=.fields #[.int lo t,.int hi u,.int 1 v] }
  | .frz o u=>h.get? a=some o/\zW H h a u
  | .tbl ps=>h.get? a=some { cls:=.none,data:=.fields ps }
  | .met f x=>h.get? a=some (PySem.W.methodObj (.ref f) (.ref x))
  | .ext φ=>φ h/\(∃ o,h.get? a=some o)/\∀ h1 h2:Heap,φ h1->(∀ o,h1.get? a=some o->h2.get? a=some o)->φ h2
noncomputable def HOk (H:Hp)(h:Heap):Prop:=∀ a o,H a=some o->zW P w H h a o
end
section
variable {P:Program}{w:World}{H H':Hp}{h h':Heap}{a:Addr}{o:HO}
theorem zW.lt (x:zW P w H h a o):a<h.objs.size:=by
 cases o with
 | lst xs=>obtain ⟨_,_,_,_,e⟩:=x;exact Heap.lt_size e
 | tup xs=>obtain ⟨_,_,_,p⟩:=x;exact p.lt
 | dK kvs=>obtain ⟨_,_,_,_,o,_,_,e,_⟩:=x;exact Heap.lt_size e
 | dT kvs=>obtain ⟨_,_,_,_,o,_,_,e,_⟩:=x;exact Heap.lt_size e
 | set S n=>obtain ⟨o,_,_,_,e,_⟩:=x;exact Heap.lt_size e
 | ins C dx fs=>obtain ⟨_,_,_,e,_⟩:=x;exact Heap.lt_size e
 | own y=>obtain ⟨_,e⟩:=x;exact Heap.lt_size e
 | xd fs=>obtain ⟨_,⟨_,_,_,e,_⟩,_⟩:=x;exact Heap.lt_size e
 | rng lo hi=>obtain ⟨_,_,_,e⟩:=x;exact Heap.lt_size e
 | frz ob u=>obtain ⟨e,_⟩:=x;exact Heap.lt_size e
 | tbl ps=>exact Heap.lt_size (show h.get? a=some _ from x)
 | met f y=>exact Heap.lt_size (show h.get? a=some _ from x)
 | ext φ=>obtain ⟨_,⟨_,e⟩,_⟩:=x;exact Heap.lt_size e
theorem Paired.mapP {α β:Type}{F G:α->β->Prop}:∀ {l₁:List α} {l₂:List β},Paired F l₁ l₂->(∀ a b,F a b->G a b)->Paired G l₁ l₂
 | _,_,.nil,_=>.nil
 | _,_,.cons r t,f=>.cons (f _ _ r) (Paired.mapP t f)
theorem zW.stay (x:zW P w H h a o)(k:∀ b u,(b=a \/ H b=some (.own a))->h.get? b=some u->h'.get? b=some u)
  (ho:∀ b,H b=some (.own a)->H' b=some (.own a)) (ht:∀ b xs,H b=some (.tup xs)->H' b=some (.tup xs)):zW P w H' h' a o:=by
 induction o with
 | lst xs=>obtain ⟨z,its,n,r,e⟩:=x;exact ⟨z,its,n,r,k _ _ (.inl rfl) e⟩
 | tup xs=>obtain ⟨z,its,r,ob,e,c⟩:=x;exact ⟨z,its,r,ob,k _ _ (.inl rfl) e,c⟩
 | dK kvs=>obtain ⟨z,y,vs,r,ob,es,ep,e,c⟩:=x;exact ⟨z,y,vs,r,ob,es,ep,k _ _ (.inl rfl) e,c⟩
 | dT kvs=>
  obtain ⟨z,y,xs,r,ob,es,ep,e,c⟩:=x
  exact ⟨z,y,xs,Paired.mapP r fun p q z=>⟨z.1,ht _ _ z.2.1,z.2.2⟩,ob,es,ep,k _ _ (.inl rfl) e,c⟩
 | set S n=>obtain ⟨ob,es,ep,t,e,c⟩:=x;exact ⟨ob,es,ep,t,k _ _ (.inl rfl) e,c⟩
 | ins C dx fs=>
  obtain ⟨d,z,ne,e,mA,⟨od,es,ep,e2,c⟩,r⟩:=x
  exact ⟨ho _ d,z,ne,k _ _ (.inl rfl) e,mA,⟨od,es,ep,k _ _ (.inr d) e2,c⟩,r⟩
 | own y=>obtain ⟨ob,e⟩:=x;exact ⟨ob,k _ _ (.inl rfl) e⟩
 | xd fs=>obtain ⟨mA,⟨od,es,ep,e,c⟩,r⟩:=x;exact ⟨mA,⟨od,es,ep,k _ _ (.inl rfl) e,c⟩,r⟩
 | rng lo hi=>obtain ⟨t,u,v,e⟩:=x;exact ⟨t,u,v,k _ _ (.inl rfl) e⟩
 | frz ob u ih=>obtain ⟨e,q⟩:=x;exact ⟨k _ _ (.inl rfl) e,ih q⟩
 | tbl ps=>
  have e:h.get? a=some { cls:=.none,data:=.fields ps }:=x
  show h'.get? a=some { cls:=.none,data:=.fields ps }
  exact k a _ (.inl rfl) e
 | met f y=>
  have e:h.get? a=some (PySem.W.methodObj (.ref f) (.ref y)):=x
  show h'.get? a=some (PySem.W.methodObj (.ref f) (.ref y))
  exact k a _ (.inl rfl) e
 | ext φ=>obtain ⟨p,⟨o,e⟩,st⟩:=x;exact ⟨st _ _ p fun o q=>k _ _ (.inl rfl) q,⟨o,k _ _ (.inl rfl) e⟩,st⟩
theorem HOk.lt (x:HOk P w H h)(e:H a=some o):a<h.objs.size:=(x a o e).lt
theorem HOk.fresh (x:HOk P w H h)(e:h.objs.size<=a):H a=none:=by
 cases q:H a with
 | none=>rfl
 | some u=>exact absurd (Nat.lt_of_lt_of_le (x.lt q) e) (Nat.lt_irrefl _)
theorem HOk.kept (x:HOk P w H h)(k:∀ b u,h.get? b=some u->h'.get? b=some u):HOk P w H h':=fun a o e=>
 (x a o e).stay (fun b u _ q=>k b u q) (fun _ q=>q) fun _ _ q=>q
theorem HOk.laid (x:HOk P w H h)(k:∀ b u,h.get? b=some u->h'.get? b=some u)(hp:h.objs.size<=a)(new:zW P w (upd H a o) h' a o):HOk P w (upd H a o) h':=fun b u e=>by
 have hn:=x.fresh hp
 by_cases hb:b=a
 ·subst hb;rw [zk] at e;cases e;exact new
 ·rw [zi hb] at e
  exact (x b u e).stay (fun c v _ q=>k c v q) (fun c q=>by rw [zi (zn q hn)];exact q) fun c xs q=>by rw [zi (zn q hn)];exact q
end
noncomputable def Rd (H:Hp)(a:Addr)(u:HO):Prop:=H a=some u \/ ∃ o,H a=some (.frz o u)
theorem Rd.ok {P:Program}{w:World}{H:Hp}{h:Heap}{a:Addr}{u:HO}(r:Rd H a u)(x:HOk P w H h):zW P w H h a u:=by
 rcases r with r | ⟨o,r⟩
 ·exact x a u r
 ·obtain ⟨_,q⟩:=x a _ r
  exact q
noncomputable def Mut:Option HO->Prop
 | some (.lst _)=>True
 | some (.dK _)=>True
 | some (.dT _)=>True
 | some (.set _ _)=>True
 | some (.ins _ _ _)=>True
 | some (.ext _)=>True
 | _=>False
section
variable {P:Program}{w:World}{H:Hp}{h h':Heap}{x e:Addr}{o':HO}
theorem HOk.write (ok : HOk P w H h)(mu : Mut (H x))(he : e = x \/ H e = some (.own x))(k : ∀ b u, b ≠ e -> h.get? b = some u -> h'.get? b = some u)(heo : ∃ u, h'.get? e = some u)
    (new:zW P w (upd H x o') h' x o'):HOk P w (upd H x o') h':=fun b u q=>by
  have nown:∀ c y,H c=some (.own y)->c ≠ x:=fun c y r z=>by subst z;rw [r] at mu;exact mu
  have ntup:∀ c xs,H c=some (.tup xs)->c ≠ x:=fun c xs r z=>by subst z;rw [r] at mu;exact mu
  by_cases hb:b=x
  · subst hb;rw [zk] at q;cases q;exact new
  · rw [zi hb] at q
    by_cases hbe:b=e
    · have q' : H b = some (.own x) := by
        rcases he with z | z
        · exact absurd (hbe.trans z) hb
        · rw [hbe];exact z
      rw [q] at q';cases q'
      obtain ⟨v,hv⟩:=heo
      exact ⟨v,by rw [hbe];exact hv⟩
    · refine (ok b u q).stay (fun c v hc r=>k c v ?_ r) (fun c r=>by rw [zi (nown c b r)];exact r) fun c xs r=>by rw [zi (ntup c xs r)];exact r
      rcases hc with rfl | hc
      · exact hbe
      · rintro rfl
        rcases he with z | z
        · exact nown c b hc z
        · rw [hc] at z;cases z;exact hb rfl
end
structure Un (fs ex:List Addr)(H H':Hp)(h h':Heap):Prop where
 keep:∀ b o,h.get? b=some o->H b=none->b ∉ fs->b ∉ ex->h'.get? b=some o
 slot:∀ b o,h.get? b=some o->H b=none->b ∈ fs->b ∉ ex->∃ sl,h'.get? b=some { o with slots:=sl }
 free:∀ b o,h.get? b=some o->H b=none->b ∉ ex->H' b=none
 there:∀ b o,h.get? b=some o->b ∉ ex->∃ o',h'.get? b=some o'
 tups:∀ b xs,H b=some (.tup xs)->H' b=some (.tup xs)
 frzs:∀ b o u,H b=some (.frz o u)->H' b=some (.frz o u)
 tbls:∀ b ps,H b=some (.tbl ps)->∃ more,H' b=some (.tbl (ps ++ more))
section
variable {fs fs' ex ex':List Addr}{H H1 H2:Hp}{h h1 h2 h':Heap}{a x e:Addr}{o:HO}
theorem Un.any (u:Un fs ex H H1 h h1){b:Addr}{ob:Obj}(q:h.get? b=some ob)(n:H b=none)(hx:b ∉ ex):∃ sl,h1.get? b=some { ob with slots:=sl }:=by
 by_cases hb:b ∈ fs
 ·exact u.slot b ob q n hb hx
 ·exact ⟨ob.slots,u.keep b ob q n hb hx⟩
theorem Un.kept (k:∀ b u,h.get? b=some u->h'.get? b=some u):Un fs ex H H h h':=
 ⟨fun b ob q _ _ _=>k b ob q,fun b ob q _ _ _=>⟨ob.slots,k b ob q⟩,fun _ _ _ n _=>n,fun b ob q _=>⟨ob,k b ob q⟩,fun _ _ q=>q,fun _ _ _ q=>q,fun _ ps q=>⟨#[],by rw [q];simp⟩⟩
theorem Un.refl:Un fs ex H H h h:=Un.kept fun _ _ q=>q
theorem Un.laid (k:∀ b u,h.get? b=some u->h'.get? b=some u)(hp:h.objs.size<=a)(hn:H a=none):Un fs ex H (upd H a o) h h' where
 keep:=fun b u q _ _ _=>k b u q
 slot:=fun b u q _ _ _=>⟨u.slots,k b u q⟩
 free:=fun b u q n _=>by rw [zi (Nat.ne_of_lt (Nat.lt_of_lt_of_le (Heap.lt_size q) hp))];exact n
 there:=fun b u q _=>⟨u,k b u q⟩
 tups:=fun b xs q=>by rw [zi (zn q hn)];exact q
 frzs:=fun b u xs q=>by rw [zi (zn q hn)];exact q
 tbls:=fun b ps q=>⟨#[],by rw [zi (zn q hn),q];simp⟩
theorem Un.write (mu:Mut (H x))(he:e=x \/ H e=some (.own x))(k:∀ b u,b ≠ e->h.get? b=some u->h'.get? b=some u)(heo:∃ u,h'.get? e=some u):Un fs ex H (upd H x o) h h':=by
 have hx:∀ b,H b=none->b ≠ x:=fun b n z=>by subst z;rw [n] at mu;exact mu
 have hb:∀ b,H b=none->b ≠ e:=fun b n z=>by
  subst z
  rcases he with r | r
  ·exact hx b n r
  ·rw [n] at r;cases r
 have hm:∀ b u,H b=some u->¬ Mut (some u)->b ≠ x:=fun b u q nm z=>by subst z;rw [q] at mu;exact nm mu
 refine ⟨fun b u q n _ _=>k b u (hb b n) q,fun b u q n _ _=>⟨u.slots,k b u (hb b n) q⟩,fun b u q n _=>by rw [zi (hx b n)];exact n,fun b u q _=>?_,
  fun b xs q=>by rw [zi (hm b _ q fun z=>z)];exact q,fun b u xs q=>by rw [zi (hm b _ q fun z=>z)];exact q,fun b ps q=>⟨#[],by rw [zi (hm b _ q fun z=>z),q];simp⟩⟩
 by_cases hbe:b=e
 ·subst hbe;exact heo
 ·exact ⟨u,k b u hbe q⟩
end
noncomputable def trk (h:Heap)(H:Hp):List Addr:=(List.range h.objs.size).filter fun a=>(H a).isSome
noncomputable def Zq (h:Heap)(H:Hp):Heap:=PySem.W.hideAll h (trk h H)
theorem YL (h:Heap)(H:Hp):(Zq h H).objs.size=h.objs.size:=PySem.W.hideAll_size _ _
theorem Ve {h:Heap}{H:Hp}{b:Addr}{o:Obj}(e:h.get? b=some o)(n:H b=none):(Zq h H).get? b=some o:=
 PySem.W.hideAll_get _ e fun hm=>by
  have q:(H b).isSome=true:=(List.mem_filter.mp hm).2
  rw [n] at q;simp at q
theorem EW {h:Heap}{H:Hp}{b:Addr}{o:Obj}(e:(Zq h H).get? b=some o):h.get? b=some o/\H b=none:=by
 have e':h.get? b=some o:=PySem.W.of_hideAll (trk h H) e
 refine ⟨e',?_⟩
 cases q:H b with
 | none=>rfl
 | some x=>
  have hm:b ∈ trk h H:=List.mem_filter.mpr ⟨List.mem_range.mpr (Heap.lt_size e'),by simp [q]⟩
  have z:(Zq h H).get? b=none:=PySem.W.hideAll_none (trk h H) hm
  rw [z] at e;cases e
noncomputable def Dn (g h:Heap)(L:Addr):List (Addr × Obj):=(List.range h.objs.size).filterMap fun a=>if a=L \/ (g.get? a).isSome=true then none else (h.get? a).map fun o=>(a,o)
noncomputable def jc (g h:Heap)(L d:Addr):List (Addr × Obj):=(Dn g h L).filter fun p=>decide (p.1 ≠ d)
structure Mod (K:PySem.W.Frag)(mg:Str->Option Value)(base:Heap):Prop where
 kin:K.In base
 glob:base.Ns mainGlobals mg
 blt:∃ mb,base.Ns builtinsNs mb/\∀ x:Str,x ≠ "__name__"->mb x=bootBuiltins x
 nolimit:base.NoLimit
structure Cx where
 prog:Program
 w:World
 K:PySem.W.Frag
 mg:Str->Option Value
 base:Heap
 A:Around
 N:List Str
 s₀:Shared
 H₀:Hp
 env:Env
 outer:List Env
 stack:List Env
 ex:List Addr
 fn:Str->Bool
 calm:Bool
 pn:List (Addr × Obj)
 xe:Value->Shared->Prop
noncomputable def frs (l:List Env):List Addr:=l.filterMap (·.frame)
noncomputable abbrev Cx.fs (X:Cx):List Addr:=frs X.outer
noncomputable def Vis (sc:Scope)(x:Str):Prop:=sc.names.lookup x=some .local \/ sc.names.lookup x=some .cell \/ sc.names.lookup x=some .free
noncomputable def Loc (sc:Scope)(x:Str):Prop:=sc.names.lookup x=some .local \/ sc.names.lookup x=some .cell
noncomputable def Lv (env:Env)(h:Heap)(m:Str->Option Value)(x:Str)(u:Value):Prop:=
 (env.kindOf x=some .local/\m x=some u) \/ ((env.kindOf x=some .cell \/ env.kindOf x=some .free)/\∃ c,env.cells.lookup x=some c/\h.IsCell c (some u))
structure Cx.Ok (X:Cx):Prop where
 mod:Mod X.K X.mg X.base
 kind:X.env.scope.kind=.function
 glob:X.env.globals=mainGlobals
 blt:X.env.builtins=builtinsNs
 above:X.s₀.heap.objs.size<=X.env.locals
 inj:∀ x y c,X.env.cells.lookup x=some c->X.env.cells.lookup y=some c->x=y
 has:∀ x,(X.env.kindOf x=some .cell \/ X.env.kindOf x=some .free)->∃ c,X.env.cells.lookup x=some c
 cab:∀ x c,X.fn x=true->X.env.cells.lookup x=some c->X.s₀.heap.objs.size<=c
 hd:X.calm=true->X.A.handled=none
 frames:X.A.frames=some X.stack
 stk:X.stack=X.outer \/ (X.stack=X.env :: X.outer/\X.env.frame=some X.env.locals)
 exf:∀ b ∈ X.ex,b ≠ X.env.locals/\∀ x c,X.env.cells.lookup x=some c->c ≠ b
 bs:∀ b o,X.base.get? b=some o->X.s₀.heap.get? b=some o/\X.H₀ b=none
 bsz:X.base.objs.size<=X.s₀.heap.objs.size
 noex:∀ b o,X.base.get? b=some o->b ∉ X.ex
 exfs:∀ b ∈ X.ex,b ∉ X.fs
 funs:X.s₀.heap.FunFrames X.base X.outer
 frf:∀ b ∈ X.fs,X.H₀ b=none
structure Inv (X:Cx)(pins:List (Addr × Obj))(σ:List (Option V))(H:Hp)(s:Shared):Prop where
 ok:X.Ok
 os:s.os=X.s₀.os
 bare:AllBare s.gens
 base:Un X.fs X.ex X.H₀ H X.s₀.heap s.heap
 loc:∃ m,s.heap.Ns X.env.locals m/\∀ (i:Nat) (x:Str) (v:V),X.N[i]?=some x->σ[i]?=some (some v)->Vis X.env.scope x->∃ u,zH v u/\Lv X.env s.heap m x u
 cell:∀ x c,X.env.cells.lookup x=some c->∃ v,s.heap.IsCell c v
 free:H X.env.locals=none
 freeC:∀ x c,X.env.cells.lookup x=some c->H c=none
 pin:∀ p ∈ X.pn ++ pins,s.heap.get? p.1=some p.2/\H p.1=none/\p.1 ≠ X.env.locals/\p.1 ∉ X.fs/\∀ v,p.2.data ≠ .cell v
 hok:HOk X.prog X.w H s.heap
 len:σ.length=X.N.length
section
variable {X:Cx}{pins:List (Addr × Obj)}{σ:List (Option V)}{H H':Hp}{s:Shared}{h':Heap}
theorem Cx.Ok.nofr (ok:X.Ok){b:Addr}{o:Obj}(e:X.base.get? b=some o):b ∉ X.fs:=fun hb=>by
 have:=(ok.funs.mem hb).1
 rw [e] at this;cases this
theorem Inv.bs (I:Inv X pins σ H s):∀ b o,X.base.get? b=some o->s.heap.get? b=some o/\H b=none:=fun b o e=>
 ⟨I.base.keep b o (I.ok.bs b o e).1 (I.ok.bs b o e).2 (I.ok.nofr e) (I.ok.noex b o e),I.base.free b o (I.ok.bs b o e).1 (I.ok.bs b o e).2 (I.ok.noex b o e)⟩
theorem Inv.bk (I:Inv X pins σ H s):∀ b o,X.base.get? b=some o->s.heap.get? b=some o:=fun b o e=>(I.bs b o e).1
theorem Inv.mod (I:Inv X pins σ H s):Mod X.K X.mg X.base:=I.ok.mod
theorem Inv.kIn (I:Inv X pins σ H s):X.K.In s.heap:=I.ok.mod.kin.keeps I.bk
theorem Inv.lt (I:Inv X pins σ H s):X.env.locals<s.heap.objs.size:=let ⟨_,hn,_⟩:=I.loc;hn.lt
theorem Inv.sz (I:Inv X pins σ H s):X.s₀.heap.objs.size<=s.heap.objs.size:=Nat.le_trans I.ok.above (Nat.le_of_lt I.lt)
theorem Inv.nofs (I:Inv X pins σ H s){a:Addr}(h:s.heap.objs.size<=a):a ∉ X.fs:=fun hb=>by
 obtain ⟨_,o,ho,_⟩:=I.ok.funs.mem hb
 exact absurd (Nat.lt_of_lt_of_le (Heap.lt_size ho) (Nat.le_trans I.sz h)) (Nat.lt_irrefl _)
theorem Inv.cne (I:Inv X pins σ H s):∀ x c,X.env.cells.lookup x=some c->c ≠ X.env.locals:=fun x c e z=>by
 obtain ⟨v,o,ho,hd⟩:=I.cell x c e
 obtain ⟨m,⟨o',es,ep,ho',hd',_⟩,_⟩:=I.loc
 rw [z,ho'] at ho;cases ho;rw [hd'] at hd;cases hd
theorem Inv.funs (I:Inv X pins σ H s):s.heap.FunFrames X.base X.outer:=by
 have all:∀ (l:List Env),(∀ b ∈ frs l,b ∈ X.fs)->X.s₀.heap.FunFrames X.base l->s.heap.FunFrames X.base l:=by
  intro l
  induction l with
  | nil=>intro _ _;trivial
  | cons env r ih=>
   intro hs hl
   obtain ⟨hk,⟨L,o,hf,hn,ho,hd⟩,hr⟩:=hl
   have hL:L ∈ X.fs:=hs L (by unfold frs;rw [List.filterMap_cons,hf];exact List.mem_cons_self)
   obtain ⟨sl,e⟩:=I.base.slot L o ho (I.ok.frf L hL) hL fun z=>I.ok.exfs L z hL
   exact ⟨hk,⟨L,_,hf,hn,e,hd⟩,ih (fun b hb=>hs b (by unfold frs;rw [List.filterMap_cons,hf];exact List.mem_cons_of_mem _ hb)) hr⟩
 exact all X.outer (fun _ hb=>hb) I.ok.funs
theorem Inv.stack (I:Inv X pins σ H s):s.heap.FunFrames X.base X.stack:=by
 rcases I.ok.stk with e | ⟨e,hf⟩
 ·rw [e];exact I.funs
 ·rw [e]
  obtain ⟨m,hn,_⟩:=I.loc
  refine .cons (by rw [I.ok.kind];decide) hf hn ?_ I.funs
  exact Heap.get?_none_of_le (Nat.le_trans I.ok.bsz I.ok.above)
theorem Inv.stkSub (I:Inv X pins σ H s):∀ b ∈ frs X.stack,b ∈ X.env.locals :: X.fs:=fun b hb=>by
 rcases I.ok.stk with e | ⟨e,hf⟩
 ·rw [e] at hb;exact List.mem_cons_of_mem _ hb
 ·rw [e] at hb
  unfold frs at hb
  rw [List.filterMap_cons,hf] at hb
  exact hb
theorem Inv.stkFree (I:Inv X pins σ H s):∀ b ∈ frs X.stack,H b=none:=fun b hb=>by
 rcases List.mem_cons.mp (I.stkSub b hb) with e | hb
 ·rw [e];exact I.free
 ·obtain ⟨_,o,ho,_⟩:=I.ok.funs.mem hb
  exact I.base.free b o ho (I.ok.frf b hb) fun z=>I.ok.exfs b z hb
theorem Inv.step {g':Array GenState}{t':Nat}{d':Drawn}{ch:List Addr}(I:Inv X pins σ H s)
  (hch:∀ b ∈ ch,(b ∈ X.ex \/ X.s₀.heap.objs.size<=b)/\b ≠ X.env.locals/\(∀ x c,X.env.cells.lookup x=some c->c ≠ b)/\∀ p ∈ X.pn ++ pins,p.1 ≠ b)
  (keep:∀ b o,b ≠ X.env.locals->b ∉ X.fs->b ∉ ch->s.heap.get? b=some o->H b=none->h'.get? b=some o)
  (slot:∀ b o,b ≠ X.env.locals->b ∈ X.fs->b ∉ ch->s.heap.get? b=some o->H b=none->∃ sl,h'.get? b=some { o with slots:=sl }) (free:∀ b o,b ∉ ch->s.heap.get? b=some o->H b=none->H' b=none)
  (there:∀ b o,b ∉ ch->s.heap.get? b=some o->∃ o',h'.get? b=some o')
  (tups:∀ b xs,H b=some (.tup xs)->H' b=some (.tup xs)) (frzs:∀ b o u,H b=some (.frz o u)->H' b=some (.frz o u)) (tbls:∀ b ps,H b=some (.tbl ps)->∃ more,H' b=some (.tbl (ps ++ more)))
  (ns:∀ m,s.heap.Ns X.env.locals m->h'.Ns X.env.locals m) (hok:HOk X.prog X.w H' h') (hg:AllBare g') :
  Inv X pins σ H' { s with heap:=h',gens:=g',drawn:=d',toks:=t' }:=by
 have neL:∀ b o,X.s₀.heap.get? b=some o->b ≠ X.env.locals:=fun b o e=>Nat.ne_of_lt (Nat.lt_of_lt_of_le (Heap.lt_size e) I.ok.above)
 have neC:∀ b o,X.s₀.heap.get? b=some o->b ∉ X.ex->b ∉ ch:=fun b o e hx hb=>by
  rcases (hch b hb).1 with z | z
  ·exact hx z
  ·exact absurd (Nat.lt_of_lt_of_le (Heap.lt_size e) z) (Nat.lt_irrefl _)
 have cellK:∀ x c,X.env.cells.lookup x=some c->∀ v,s.heap.IsCell c v->h'.IsCell c v:=fun x c e v ⟨o,ho,hd⟩=>by
  have nch:c ∉ ch:=fun z=>(hch c z).2.2.1 x c e rfl
  by_cases hc:c ∈ X.fs
  ·obtain ⟨sl,q⟩:=slot c o (I.cne x c e) hc nch ho (I.freeC x c e)
   exact ⟨_,q,hd⟩
  ·exact ⟨o,keep c o (I.cne x c e) hc nch ho (I.freeC x c e),hd⟩
 refine ⟨I.ok,I.os,hg,⟨fun b o e n hb hx=>?_,fun b o e n hb hx=>?_,fun b o e n hx=>?_,fun b o e hx=>?_,fun b xs e=>tups b xs (I.base.tups b xs e),fun b o xs e=>frzs b o xs (I.base.frzs b o xs e),fun b ps e=>?_⟩,?_,fun x c e=>?_,?_,fun x c e=>?_,fun p hp=>?_,hok,I.len⟩
 ·exact keep b o (neL b o e) hb (neC b o e hx) (I.base.keep b o e n hb hx) (I.base.free b o e n hx)
 ·obtain ⟨sl,e1⟩:=I.base.slot b o e n hb hx
  obtain ⟨sl',e2⟩:=slot b _ (neL b o e) hb (neC b o e hx) e1 (I.base.free b o e n hx)
  exact ⟨sl',e2⟩
 ·obtain ⟨o',e1⟩:=I.base.there b o e hx
  exact free b o' (neC b o e hx) e1 (I.base.free b o e n hx)
 ·obtain ⟨o',e1⟩:=I.base.there b o e hx
  exact there b o' (neC b o e hx) e1
 ·obtain ⟨m1,e1⟩:=I.base.tbls b ps e
  obtain ⟨m2,e2⟩:=tbls b _ e1
  exact ⟨m1 ++ m2,by rw [e2,Array.append_assoc]⟩
 ·obtain ⟨m,hn,hl⟩:=I.loc
  refine ⟨m,ns m hn,fun i x v e1 e2 e3=>?_⟩
  obtain ⟨u,r,l⟩:=hl i x v e1 e2 e3
  refine ⟨u,r,?_⟩
  rcases l with l | ⟨k,c,e,z⟩
  ·exact .inl l
  ·exact .inr ⟨k,c,e,cellK x c e _ z⟩
 ·obtain ⟨v,z⟩:=I.cell x c e
  exact ⟨v,cellK x c e v z⟩
 ·obtain ⟨m,⟨o,_,_,ho,_⟩,_⟩:=I.loc
  exact free _ o (fun z=>(hch _ z).2.1 rfl) ho I.free
 ·obtain ⟨v,o,ho,hd⟩:=I.cell x c e
  exact free c o (fun z=>(hch c z).2.2.1 x c e rfl) ho (I.freeC x c e)
 ·obtain ⟨e,n,ne,nf,d⟩:=I.pin p hp
  have nch:p.1 ∉ ch:=fun z=>(hch p.1 z).2.2.2 p hp rfl
  exact ⟨keep p.1 p.2 ne nf nch e n,free p.1 p.2 nch e n,ne,nf,d⟩
theorem Inv.un {t':Nat}(I:Inv X pins σ H s)(u:Un X.fs [] H H' s.heap h')(hok:HOk X.prog X.w H' h'):Inv X pins σ H' { s with heap:=h',toks:=t' }:=by
 obtain ⟨m,⟨o,es,ep,ho,r⟩,_⟩:=id I.loc
 obtain ⟨sl,hL⟩:=u.any ho I.free (by simp)
 exact I.step (g':=s.gens) (d':=s.drawn) (ch:=[]) (fun _ z=>nomatch z) (fun b o _ hb _ e n=>u.keep b o e n hb (by simp)) (fun b o _ hb _ e n=>u.slot b o e n hb (by simp)) (fun b o _ e n=>u.free b o e n (by simp)) (fun b o _ e=>u.there b o e (by simp)) u.tups u.frzs u.tbls (fun m' hm=>by
  obtain ⟨o',es',ep',ho',r'⟩:=hm
  rw [ho] at ho';cases ho'
  exact ⟨_,es',ep',hL,r'⟩) hok I.bare
theorem Inv.call {g':Array GenState}{t':Nat}{d':Drawn}{ch:List Addr}(I:Inv X pins σ H s)(u:Un (frs X.stack) ch H H' s.heap h')(hok:HOk X.prog X.w H' h')(hg:AllBare g')
  (hch:∀ b ∈ ch,(b ∈ X.ex \/ X.s₀.heap.objs.size<=b)/\b ≠ X.env.locals/\(∀ x c,X.env.cells.lookup x=some c->c ≠ b)/\∀ p ∈ X.pn ++ pins,p.1 ≠ b) :
  Inv X pins σ H' { s with heap:=h',gens:=g',drawn:=d',toks:=t' }:=by
 obtain ⟨m,⟨o,es,ep,ho,r⟩,_⟩:=id I.loc
 obtain ⟨sl,hL⟩:=u.any ho I.free fun z=>(hch _ z).2.1 rfl
 exact I.step (ch:=ch) hch (fun b o hL hb hc e n=>u.keep b o e n (fun z=>(List.mem_cons.mp (I.stkSub b z)).elim hL hb) hc) (fun b o _ _ hc e n=>u.any e n hc) (fun b o hc e n=>u.free b o e n hc) (fun b o hc e=>u.there b o e hc) u.tups u.frzs u.tbls (fun m' hm=>by
  obtain ⟨o',es',ep',ho',r'⟩:=hm
  rw [ho] at ho';cases ho'
  exact ⟨_,es',ep',hL,r'⟩) hok hg
theorem Inv.turned {t':Nat}{it:Addr}(I:Inv X pins σ H s)(k:∀ b o,b ≠ it->s.heap.get? b=some o->h'.get? b=some o)(hn:H it=none)(hL:it ≠ X.env.locals)
  (h1:it ∈ X.ex \/ X.s₀.heap.objs.size<=it) (h2:∀ x c,X.env.cells.lookup x=some c->c ≠ it) (h3:∀ p ∈ X.pn ++ pins,p.1 ≠ it):Inv X pins σ H { s with heap:=h',toks:=t' }:=by
 have nit:∀ b u,H b=some u->b ≠ it:=fun b u e z=>by rw [z,hn] at e;cases e
 refine I.step (g':=s.gens) (d':=s.drawn) (ch:=[it]) (fun b hb=>?_) (fun b o _ _ hc e _=>k b o (fun z=>hc (by simp [z])) e) (fun b o _ _ hc e _=>⟨o.slots,k b o (fun z=>hc (by simp [z])) e⟩) (fun _ _ _ _ n=>n)
  (fun b o hc e=>⟨o,k b o (fun z=>hc (by simp [z])) e⟩) (fun _ _ e=>e) (fun _ _ _ e=>e) (fun b ps e=>⟨#[],by rw [e];simp⟩) (fun m hm=>?_) (fun b u e=>?_) I.bare
 ·have e:b=it:=by simpa using hb
  subst e
  exact ⟨h1,hL,h2,h3⟩
 ·obtain ⟨o,es,ep,ho,r⟩:=hm
  exact ⟨o,es,ep,k _ o (Ne.symm hL) ho,r⟩
 ·refine (I.hok b u e).stay (fun c v hc q=>k c v ?_ q) (fun _ q=>q) fun _ _ q=>q
  rcases hc with z | z
  ·rw [z];exact nit b u e
  ·exact nit c _ z
theorem Inv.tok (I:Inv X pins σ H s)(t:Nat):Inv X pins σ H { s with toks:=t }:=I.un (h':=s.heap) (t':=t) Un.refl I.hok
theorem Inv.kept {t':Nat}(I:Inv X pins σ H s)(k:∀ b u,s.heap.get? b=some u->h'.get? b=some u):Inv X pins σ H { s with heap:=h',toks:=t' }:=I.un (Un.kept k) (I.hok.kept k)
theorem Inv.laid {a:Addr}{o:HO}{t':Nat}(I:Inv X pins σ H s)(k:∀ b u,s.heap.get? b=some u->h'.get? b=some u)(hp:s.heap.objs.size<=a)(new:zW X.prog X.w (upd H a o) h' a o) :
  Inv X pins σ (upd H a o) { s with heap:=h',toks:=t' }:=I.un (Un.laid k hp (I.hok.fresh hp)) (I.hok.laid k hp new)
theorem Inv.write {x e:Addr}{o:HO}{t':Nat}(I:Inv X pins σ H s)(mu:Mut (H x))(he:e=x \/ H e=some (.own x))(k:∀ b u,b ≠ e->s.heap.get? b=some u->h'.get? b=some u)(heo:∃ u,h'.get? e=some u)
  (new:zW X.prog X.w (upd H x o) h' x o):Inv X pins σ (upd H x o) { s with heap:=h',toks:=t' }:=I.un (Un.write mu he k heo) (I.hok.write mu he k heo new)
theorem Inv.pins_of {pins':List (Addr × Obj)}(I:Inv X pins σ H s)(h:∀ p ∈ pins',s.heap.get? p.1=some p.2/\H p.1=none/\p.1 ≠ X.env.locals/\p.1 ∉ X.fs/\∀ v,p.2.data ≠ .cell v):Inv X pins' σ H s:=
 ⟨I.ok,I.os,I.bare,I.base,I.loc,I.cell,I.free,I.freeC,fun p hp=>(List.mem_append.mp hp).elim (fun z=>I.pin p (List.mem_append_left _ z)) (h p),I.hok,I.len⟩
theorem QN {N:List Str}(hN:N.Nodup){i j:Nat}{x:Str}(a:N[i]?=some x)(b:N[j]?=some x):i=j:=by
 obtain ⟨h1,e1⟩:=List.getElem?_eq_some_iff.mp a
 obtain ⟨h2,e2⟩:=List.getElem?_eq_some_iff.mp b
 exact (List.getElem_inj hN).mp (e1.trans e2.symm)
theorem wJ {M : Model}{A : Around}{E : Value -> Shared -> Prop}{i : Nat}{x : Str}{v : V}{u : Value}{Q : Unit -> Shared -> Prop}(I : Inv X pins σ H s)(hN : X.N.Nodup)(hi : X.N[i]? = some x)(hx : Loc X.env.scope x)(r : zH v u)
    (h:∀ s',Inv X pins (σ.set i (some v)) H s'->(∃ a,Heap.SameBut a s.heap s'.heap/\(a=X.env.locals \/ X.env.cells.lookup x=some a))->Q () s') (hf:X.fn x=true \/ X.env.scope.names.lookup x=some .local:=by first | exact .inl rfl | exact .inr rfl | assumption):wpAny M A (storeName X.env x u) Q E s:=by
  obtain ⟨m,hn,hl⟩:=id I.loc
  have hcls:(X.env.scope.kind == .class || (X.env.scope.kind == .module && X.env.locals != X.env.globals))=false:=by rw [I.ok.kind];rfl
  have hiσ:i<σ.length:=by rw [I.len];exact (List.getElem?_eq_some_iff.mp hi).1
  have cne:=I.cne
  have tracked:∀ {a:Addr} {h':Heap},(∃ o,s.heap.get? a=some o/\H a=none)->Heap.SameBut a s.heap h'->HOk X.prog X.w H h':=fun {a h'} ha hs b ob e=>by
    obtain ⟨_,_,hfree⟩:=ha
    refine (I.hok b ob e).stay (fun c w' hc q=>(hs.2 c ?_).trans q) (fun _ q=>q) fun _ _ q=>q
    rintro rfl
    rcases hc with rfl | hc
    · rw [hfree] at e;cases e
    · rw [hfree] at hc;cases hc
  rcases hx with hk | hk
  · refine wpAny_storeName_local hk hn (fun h' hn' hs=>?_) hcls
    obtain ⟨oL,_,_,hoL,_⟩:=id hn
    refine h _ ⟨I.ok,I.os,I.bare,⟨fun b o e n hb hx=>?_,fun b o e n hb hx=>?_,I.base.free,fun b o e hx=>?_,I.base.tups,I.base.frzs,I.base.tbls⟩,⟨_,hn',fun j y v' e1 e2 e3=>?_⟩,fun y c e=>?_,I.free,I.freeC,fun p hp=>?_,tracked ⟨oL,hoL,I.free⟩ hs,by simpa using I.len⟩ ⟨_,hs,.inl rfl⟩
    · exact (hs.2 b (Nat.ne_of_lt (Nat.lt_of_lt_of_le (Heap.lt_size e) I.ok.above))).trans (I.base.keep b o e n hb hx)
    · obtain ⟨sl,e1⟩:=I.base.slot b o e n hb hx
      exact ⟨sl,(hs.2 b (Nat.ne_of_lt (Nat.lt_of_lt_of_le (Heap.lt_size e) I.ok.above))).trans e1⟩
    · obtain ⟨o',e1⟩:=I.base.there b o e hx
      exact ⟨o',(hs.2 b (Nat.ne_of_lt (Nat.lt_of_lt_of_le (Heap.lt_size e) I.ok.above))).trans e1⟩
    · by_cases hj:j=i
      · subst hj
        rw [hi] at e1;cases e1
        rw [List.getElem?_set_self hiσ] at e2
        cases e2
        exact ⟨u,r,.inl ⟨hk,by simp⟩⟩
      · rw [List.getElem?_set_ne (Ne.symm hj)] at e2
        obtain ⟨u',r',q⟩:=hl j y v' e1 e2 e3
        refine ⟨u',r',?_⟩
        rcases q with ⟨k,e⟩ | ⟨k,c,e,z⟩
        · refine .inl ⟨k,?_⟩
          have:y ≠ x:=fun e=>hj (QN hN e1 (e ▸ hi))
          simp [this,e]
        · exact .inr ⟨k,c,e,z.sameBut hs (cne y c e)⟩
    · obtain ⟨w',z⟩:=I.cell y c e
      exact ⟨w',z.sameBut hs (cne y c e)⟩
    · obtain ⟨e,n,ne,nf,d⟩:=I.pin p hp
      exact ⟨(hs.2 p.1 ne).trans e,n,ne,nf,d⟩
  · have hfn : X.fn x = true := by
      rcases hf with z | z
      · exact z
      · rw [z] at hk;cases hk
    obtain ⟨c,hc⟩:=I.ok.has x (.inl hk)
    obtain ⟨w',z⟩:=I.cell x c hc
    refine wpAny_storeName_cell I.ok.kind hk hc z (fun h' hc' hs=>?_)
    obtain ⟨oc,hoc,hocd⟩:=id z
    refine h { s with heap:=h' } ⟨I.ok,I.os,I.bare,⟨fun b o e n hb hx=>?_,fun b o e n hb hx=>?_,I.base.free,fun b o e hx=>?_,I.base.tups,I.base.frzs,I.base.tbls⟩,⟨m,hn.sameBut hs (Ne.symm (cne x c hc)),fun j y v' e1 e2 e3=>?_⟩,fun y c' e=>?_,I.free,I.freeC,fun p hp=>?_,tracked ⟨oc,hoc,I.freeC x c hc⟩ hs,by simpa using I.len⟩ ⟨c,hs,.inr hc⟩
    · exact (hs.2 b (Nat.ne_of_lt (Nat.lt_of_lt_of_le (Heap.lt_size e) (I.ok.cab x c hfn hc)))).trans (I.base.keep b o e n hb hx)
    · obtain ⟨sl,e1⟩:=I.base.slot b o e n hb hx
      exact ⟨sl,(hs.2 b (Nat.ne_of_lt (Nat.lt_of_lt_of_le (Heap.lt_size e) (I.ok.cab x c hfn hc)))).trans e1⟩
    · obtain ⟨o',e1⟩:=I.base.there b o e hx
      exact ⟨o',(hs.2 b (Nat.ne_of_lt (Nat.lt_of_lt_of_le (Heap.lt_size e) (I.ok.cab x c hfn hc)))).trans e1⟩
    · by_cases hj:j=i
      · subst hj
        rw [hi] at e1;cases e1
        rw [List.getElem?_set_self hiσ] at e2
        cases e2
        exact ⟨u,r,.inr ⟨.inl hk,c,hc,hc'⟩⟩
      · rw [List.getElem?_set_ne (Ne.symm hj)] at e2
        obtain ⟨u',r',q⟩:=hl j y v' e1 e2 e3
        refine ⟨u',r',?_⟩
        rcases q with q | ⟨k,c',e,z'⟩
        · exact .inl q
        · refine .inr ⟨k,c',e,z'.sameBut hs ?_⟩
          rintro rfl
          exact hj (QN hN e1 (I.ok.inj _ _ _ e hc ▸ hi))
    · by_cases hcc:c'=c
      · subst hcc;exact ⟨_,hc'⟩
      · obtain ⟨w2,z2⟩:=I.cell y c' e
        exact ⟨w2,z2.sameBut hs hcc⟩
    · obtain ⟨e,n,ne,nf,d⟩:=I.pin p hp
      refine ⟨(hs.2 p.1 ?_).trans e,n,ne,nf,d⟩
      intro q
      rw [q,hoc] at e
      have q':oc=p.2:=Option.some.inj e
      exact d w' (by rw [<- q'];exact hocd)
theorem jA {M:Model}{A:Around}{E:Value->Shared->Prop}{i:Nat}{x:Str}{v:V}{u:Value}{Q:Unit->Shared->Prop}(I:Inv X pins σ H s)(hN:X.N.Nodup)(hi:X.N[i]?=some x)(hx:Loc X.env.scope x)(r:zH v u)
  (h:∀ s',Inv X pins (σ.set i (some v)) H s'->Q () s') (hf:X.fn x=true \/ X.env.scope.names.lookup x=some .local:=by first | exact .inl rfl | exact .inr rfl | assumption):wpAny M A (storeName X.env x u) Q E s:=
 wJ I hN hi hx r (fun s' I' _=>h s' I') hf
theorem Inv.call' {s':Shared}{ch:List Addr}(I:Inv X pins σ H s)(ho:s'.os=s.os)(u:Un (frs X.stack) ch H H' s.heap s'.heap)(hok:HOk X.prog X.w H' s'.heap)(hg:AllBare s'.gens)
  (hch:∀ b ∈ ch,(b ∈ X.ex \/ X.s₀.heap.objs.size<=b)/\b ≠ X.env.locals/\(∀ x c,X.env.cells.lookup x=some c->c ≠ b)/\∀ p ∈ X.pn ++ pins,p.1 ≠ b):Inv X pins σ H' s':=by
 obtain ⟨h',g',d',t',o'⟩:=s'
 have e:o'=s.os:=ho
 subst e
 exact I.call (g':=g') (t':=t') (d':=d') u hok hg hch
end
noncomputable abbrev XK:=Value->Option Addr->Hp->Prop
noncomputable abbrev St:=List (Option V)
noncomputable abbrev VK:=V->Hp->Prop
noncomputable abbrev TE:=St->Hp->VK->Prop
noncomputable abbrev TT:=St->Hp->(Bool->Hp->Prop)->Prop
noncomputable abbrev TA:=St->Hp->(List V->Hp->Prop)->Prop
structure xX where
 nx:St->Hp->Prop
 rt:VK
 bk:St->Hp->Prop:=fun _ _=>False
 ct:St->Hp->Prop:=fun _ _=>False
noncomputable abbrev TS:=xX->St->Hp->Prop
noncomputable def EP (X:Cx)(pins:List (Addr × Obj))(σ:St)(Q:VK)(u:Value)(s':Shared):Prop:=∃ v H',Inv X pins σ H' s'/\zH v u/\Q v H'
noncomputable def TP (X:Cx)(pins:List (Addr × Obj))(σ:St)(Q:Bool->Hp->Prop)(b:Bool)(s':Shared):Prop:=∃ H',Inv X pins σ H' s'/\Q b H'
noncomputable def AP (X:Cx)(pins:List (Addr × Obj))(σ:St)(Q:List V->Hp->Prop)(us:List Value)(s':Shared):Prop:=∃ vs H',Inv X pins σ H' s'/\zG vs us/\Q vs H'
noncomputable def SP (X:Cx)(pins:List (Addr × Obj))(D:xX)(f:Flow)(s':Shared):Prop:=
 match f with
 | .next=>∃ σ' H',Inv X pins σ' H' s'/\D.nx σ' H'
 | .brk=>∃ σ' H',Inv X pins σ' H' s'/\D.bk σ' H'
 | .cont=>∃ σ' H',Inv X pins σ' H' s'/\D.ct σ' H'
 | .ret u=>∃ v σ' H',Inv X pins σ' H' s'/\zH v u/\D.rt v H'
noncomputable def PE (X:Cx)(e:Expr)(t:TE):Prop:=
 ∀ (pins:List (Addr × Obj)) (s:Shared) (σ:St) (H:Hp) (Q:VK),Inv X pins σ H s->t σ H Q->wpAny (model X.prog X.w) X.A (eval e X.env) (EP X pins σ Q) X.xe s
noncomputable def PT (X:Cx)(e:Expr)(t:TT):Prop:=
 ∀ (pins:List (Addr × Obj)) (s:Shared) (σ:St) (H:Hp) (Q:Bool->Hp->Prop),Inv X pins σ H s->t σ H Q->wpAny (model X.prog X.w) X.A (isTrue e X.env (eval e X.env)) (TP X pins σ Q) X.xe s
noncomputable def PW (X:Cx)(e:Expr)(t:TT):Prop:=
 ∀ (whole:Sem Value) (pins:List (Addr × Obj)) (s:Shared) (σ:St) (H:Hp) (Q:Bool->Hp->Prop),Inv X pins σ H s->t σ H Q->wpAny (model X.prog X.w) X.A (isTrue e X.env whole) (TP X pins σ Q) X.xe s
theorem PW.pt {X:Cx}{e:Expr}{t:TT}(h:PW X e t):PT X e t:=h _
noncomputable def PA (X:Cx)(es:List Expr)(t:TA):Prop:=
 ∀ (pos:Pos) (pins:List (Addr × Obj)) (s:Shared) (σ:St) (H:Hp) (Q:List V->Hp->Prop),Inv X pins σ H s->t σ H Q->wpAny (model X.prog X.w) X.A (spliced (backTo pos (starEach es X.env))) (AP X pins σ Q) X.xe s
noncomputable def PS (X:Cx)(st:Stmt)(t:TS):Prop:=
 ∀ (pins:List (Addr × Obj)) (s:Shared) (σ:St) (H:Hp) (D:xX),Inv X pins σ H s->t D σ H->wpAny (model X.prog X.w) X.A (exec st X.env) (SP X pins D) X.xe s
noncomputable def PSs (X:Cx)(st:List Stmt)(t:TS):Prop:=
 ∀ (pins:List (Addr × Obj)) (s:Shared) (σ:St) (H:Hp) (D:xX),Inv X pins σ H s->t D σ H->wpAny (model X.prog X.w) X.A (execs st X.env) (SP X pins D) X.xe s
theorem thn {α:Type}{t:Sem α}{Q Q':α->Shared->Prop}{M:Model}{A:Around}{E:Value->Shared->Prop}{s:Shared}(h:wpAny M A t Q E s)(hQ:∀ a s,Q a s->Q' a s):wpAny M A t Q' E s:=wpAny_mono h hQ fun _ _ x=>x
section
variable {X:Cx}
theorem bin {a b:Expr}{ta tb:TE}(ha:PE X a ta)(hb:PE X b tb){pins:List (Addr × Obj)}{s:Shared}{σ:St}{H:Hp}{R:V->V->Hp->Prop}(I:Inv X pins σ H s)(h:ta σ H fun x H1=>tb σ H1 fun y H2=>R x y H2)
  {α:Type} {Q:α->Shared->Prop} {f:Value->Value->Sem α}
  (hf:∀ v u s2 x y H2,Inv X pins σ H2 s2->zH x v->zH y u->R x y H2->wpAny (model X.prog X.w) X.A (f v u) Q X.xe s2) :
  wpAny (model X.prog X.w) X.A (eval a X.env) (fun v s₁=>wpAny (model X.prog X.w) X.A (eval b X.env) (fun u s₂=>wpAny (model X.prog X.w) X.A (f v u) Q X.xe s₂) X.xe s₁) X.xe s:=by
 refine thn (ha pins s σ H _ I h) fun v s1 ⟨x,H1,I1,r1,q1⟩=>?_
 refine thn (hb pins s1 σ H1 _ I1 q1) fun u s2 ⟨y,H2,I2,r2,q2⟩=>?_
 exact hf v u s2 x y H2 I2 r1 r2 q2
noncomputable def wo (i:Nat):TE:=fun σ H Q=>∃ v,σ[i]?=some (some v)/\Q v H
noncomputable def tC (v:V):TE:=fun _ H Q=>Q v H
theorem G4 {i:Nat}{x:Str}{pos:Pos}(hN:X.N[i]?=some x)(hv:Vis X.env.scope x)(hd:(x == ("__debug__":Str))=false:=by decide)(hcd:(x == ("__classdict__":Str))=false:=by decide):PE X (.Name x pos) (wo i):=by
 intro pins s σ H Q I h
 obtain ⟨v,e,h⟩:=h
 obtain ⟨m,hn,hl⟩:=I.loc
 obtain ⟨u,r,l⟩:=hl i x v hN e hv
 have fin:EP X pins σ Q u s:=⟨v,H,I,r,h⟩
 rcases l with ⟨hk,hm⟩ | ⟨hk,c,hc,hcell⟩
 ·exact wpAny_Name (wpAny_loadName_local I.ok.kind hk hn hm fin) hd
 ·rcases hk with hk | hk
  ·exact wpAny_Name (wpAny_loadName_cell I.ok.kind hk hc hcell fin) hd
  ·exact wpAny_Name (wpAny_loadName_free I.ok.kind hk hc hcell fin hcd) hd
theorem zd {i j pos}:PE X (.Constant (.int i) j pos) (tC (.int i)):=fun _ _ _ H _ I h=>wpAny_Constant_int ⟨.int i,H,I.tok _,⟨_,rfl⟩,h⟩
theorem jo {b j pos}:PE X (.Constant (.bool b) j pos) (tC (.bl b)):=fun _ _ _ H _ I h=>Constant_bool ⟨.bl b,H,I,rfl,h⟩
theorem zS {j pos}:PE X (.Constant .none j pos) (tC .non):=fun _ _ _ H _ I h=>Constant_none ⟨.non,H,I,rfl,h⟩
theorem zm {x j pos}:PE X (.Constant (.str x) j pos) (tC (.str x)):=fun _ _ _ H _ I h=>Calls.Constant_str ⟨.str x,H,I.tok _,⟨_,rfl⟩,h⟩
noncomputable def Gl (X:Cx)(x:Str):Prop:=X.env.kindOf x=some .globalImplicit
theorem ki {E:Value->Shared->Prop}{pins:List (Addr × Obj)}{s:Shared}{σ:St}{H:Hp}{x:Str}{u:Value}{pos:Pos}{Q:Value->Shared->Prop}(I:Inv X pins σ H s)(hg:Gl X x)(hm:X.mg x=some u)(h:Q u s)
  (hd:(x == ("__debug__":Str))=false:=by decide):wpAny (model X.prog X.w) X.A (eval (.Name x pos) X.env) Q E s:=
 Calls.Name_function_global I.ok.kind hg (Calls.loadGlobal_global (by rw [I.ok.glob];exact I.mod.glob.keeps I.bk) hm h) hd
theorem yG {E:Value->Shared->Prop}{pins:List (Addr × Obj)}{s:Shared}{σ:St}{H:Hp}{x:Str}{u:Value}{pos:Pos}{Q:Value->Shared->Prop}(I:Inv X pins σ H s)(hg:Gl X x)(hm:X.mg x=none)(hv:bootBuiltins x=some u)(h:Q u s)
  (hn:x ≠ "__name__":=by decide) (hd:(x == ("__debug__":Str))=false:=by decide):wpAny (model X.prog X.w) X.A (eval (.Name x pos) X.env) Q E s:=by
 obtain ⟨mb,h1,h2⟩:=I.mod.blt
 exact Calls.Name_function_global I.ok.kind hg (Calls.loadGlobal_builtin (by rw [I.ok.glob];exact I.mod.glob.keeps I.bk) hm (by rw [I.ok.blt];exact h1.keeps I.bk) ((h2 x hn).trans hv) h) hd
theorem qv {x:Str}{v:V}{u:Value}{pos:Pos}(hg:Gl X x)(hm:X.mg x=none)(hv:bootBuiltins x=some u)(r:zH v u)(hn:x ≠ "__name__":=by decide)(hd:(x == ("__debug__":Str))=false:=by decide):PE X (.Name x pos) (tC v):=
 fun _ _ _ H _ I h=>yG I hg hm hv ⟨v,H,I,r,h⟩ hn hd
variable {a b:Expr}{ta tb:TE}{pos:Pos}
noncomputable def PC (X:Cx)(op:CmpOp)(a b:Expr)(t:TE):Prop:=
 ∀ (pins:List (Addr × Obj)) (s:Shared) (σ:St) (H:Hp) (Q:VK),Inv X pins σ H s->t σ H Q ->
  wpAny (model X.prog X.w) X.A (eval a X.env) (fun v s₁=>wpAny (model X.prog X.w) X.A (eval b X.env) (fun u s₂=>wpAny (model X.prog X.w) X.A (compareOp op v u) (EP X pins σ Q) X.xe s₂) X.xe s₁) X.xe s
theorem WG (b:Expr){op:CmpOp}(h:op ≠ .In)(h2:op ≠ .NotIn):behindInMarks op b=false:=by
 have e1:(op == CmpOp.In)=false:=by cases op <;> first | rfl | exact absurd rfl h
 have e2:(op == CmpOp.NotIn)=false:=by cases op <;> first | rfl | exact absurd rfl h2
 cases b <;> simp [behindInMarks,e1,e2]
noncomputable def tB (t:TE):TT:=fun σ H Q=>t σ H fun x H1=>∃ c,x=.bl c/\Q c H1
theorem Lj {op:CmpOp}{t:TE}(h:PC X op a b t)(h1:behindInMarks op b=false:=by first | exact WG _ (by decide) (by decide) | rfl):PT X (.Compare a [op] [b] pos) (tB t):=by
 intro pins s σ H Q I hw
 refine wpAny_isTrue_Compare1 (thn (h pins s σ H _ I hw) fun v s1 h1=>thn h1 fun u s2 h2=>thn h2 fun c s3 ⟨x,H1,I1,r1,q1⟩=>?_) h1
 obtain ⟨d,rfl,q⟩:=q1
 cases r1
 exact wpAny_truthy_bool ⟨H1,I1,q⟩
theorem qR {e:Expr}{t:TE}(h:PE X e t)(he:∀ whole,isTrue e X.env whole=(do let v <- whole;standAt e.pos;holding [v] (truthy v)):=by intro _;rfl):PT X e (tB t):=by
 intro pins s σ H Q I hw
 refine isTrue_plain (thn (h pins s σ H _ I hw) fun v s1 ⟨x,H1,I1,r1,q1⟩=>?_) (he _)
 obtain ⟨d,rfl,q⟩:=q1
 cases r1
 exact wpAny_truthy_bool ⟨H1,I1,q⟩
variable {tA tB':TT}{jc:List Expr}
noncomputable def Hb (t u:TT):TT:=fun σ H Q=>t σ H fun c H1=>if c=true then u σ H1 Q else Q false H1
noncomputable def tOr (t u:TT):TT:=fun σ H Q=>t σ H fun c H1=>if c=true then Q true H1 else u σ H1 Q
noncomputable def GE (t:TT):TT:=fun σ H Q=>t σ H fun c H1=>Q (!c) H1
theorem kP (ha:PT X a tA):PW X (.BoolOp .And [a] pos) tA:=by
 intro wh pins s σ H Q I h
 refine isTrue_and (thn (ha pins s σ H Q I h) fun c s1 e=>?_)
 cases c with
 | true=>exact isTrue_and_nil e
 | false=>exact e
theorem ka (ha:PT X a tA):PW X (.BoolOp .Or [a] pos) tA:=by
 intro wh pins s σ H Q I h
 refine isTrue_or (thn (ha pins s σ H Q I h) fun c s1 e=>?_)
 cases c with
 | false=>exact isTrue_or_nil e
 | true=>exact e
theorem xS (ha:PT X a tA)(hb:PW X (.BoolOp .And (b :: jc) pos) tB'):PW X (.BoolOp .And (a :: b :: jc) pos) (Hb tA tB'):=by
 intro wh pins s σ H Q I h
 refine isTrue_and (thn (ha pins s σ H _ I h) fun c s1 ⟨H1,I1,q1⟩=>?_)
 cases c with
 | true=>exact hb wh pins s1 σ H1 Q I1 q1
 | false=>exact ⟨H1,I1,q1⟩
theorem kl (ha:PT X a tA)(hb:PW X (.BoolOp .Or (b :: jc) pos) tB'):PW X (.BoolOp .Or (a :: b :: jc) pos) (tOr tA tB'):=by
 intro wh pins s σ H Q I h
 refine isTrue_or (thn (ha pins s σ H _ I h) fun c s1 ⟨H1,I1,q1⟩=>?_)
 cases c with
 | true=>exact ⟨H1,I1,q1⟩
 | false=>exact hb wh pins s1 σ H1 Q I1 q1
theorem jn (ha:PT X a tA):PT X (.UnaryOp .Not a pos) (GE tA):=by
 intro pins s σ H Q I h
 exact isTrue_not (ha pins s σ H (fun c H1=>Q (!c) H1) I h)
noncomputable def Ae (ta tb:TE):TE:=fun σ H Q=>ta σ H fun x H1=>∃ c,x=.bl c/\if c=true then tb σ H1 Q else Q (.bl false) H1
theorem Ge {op}{t:TE}(h:PE X a t):PE X (.BoolOp op [a] pos) t:=fun pins s σ H Q I hw=>BoolOp_one (h pins s σ H Q I hw)
theorem HH (ha:PE X a ta)(hb:PE X (.BoolOp .And (b :: jc) pos) tb):PE X (.BoolOp .And (a :: b :: jc) pos) (Ae ta tb):=by
 intro pins s σ H Q I h
 refine BoolOp_and (thn (ha pins s σ H _ I h) fun v s1 ⟨x,H1,I1,r1,q1⟩=>?_)
 obtain ⟨c,rfl,q1⟩:=q1
 cases r1
 refine wpAny_truthy_bool ?_
 cases c with
 | true=>exact hb pins s1 σ H1 Q I1 q1
 | false=>exact ⟨.bl false,H1,I1,rfl,q1⟩
noncomputable def tIf (t:TT)(ta tb:TE):TE:=fun σ H Q=>t σ H fun c H1=>if c=true then ta σ H1 Q else tb σ H1 Q
theorem kD {c:Expr}(hc:PT X c tA)(ha:PE X a ta)(hb:PE X b tb):PE X (.IfExp c a b pos) (tIf tA ta tb):=by
 intro pins s σ H Q I h
 refine wpAny_IfExp (thn (hc pins s σ H _ I h) fun d s1 ⟨H1,I1,q1⟩=>?_)
 cases d with
 | true=>exact ha pins s1 σ H1 Q I1 q1
 | false=>exact hb pins s1 σ H1 Q I1 q1
end
noncomputable def SqL (K:PySem.W.Frag)(H:Hp)(a:Addr)(xs:List V):Prop:=
 Rd H a (.lst xs) \/
  ∃ (o:Obj) (its:Array Value) (n:Nat),K.lookup a=some o/\o.cls=.type "list"/\o.dict=none/\o.data=.seq its n/\its.size<=sizeLine/\zG xs its.toList
noncomputable def SqT (K:PySem.W.Frag)(H:Hp)(a:Addr)(xs:List V):Prop:=
 Rd H a (.tup xs) \/
  ∃ (o:Obj) (its:Array Value) (n:Nat),K.lookup a=some o/\o.cls=.type "tuple"/\o.data=.seq its n/\its.size<=sizeLine/\zG xs its.toList
noncomputable def Lz:Value->Option V
 | .none=>some .non
 | .bool b=>some (.bl b)
 | .int i _=>some (.int i)
 | .str x _=>some (.str x)
 | .bytes b _=>some (.byt b)
 | .float b _=>some (.flt b)
 | .ref a=>some (.ref a)
 | .type n=>some (.ty n)
 | _=>none
theorem zH.abs {x:V}{u:Value}(r:zH x u):Lz u=some x:=by
 cases x with
 | non=>cases r;rfl
 | bl _=>cases r;rfl
 | int _=>obtain ⟨t,rfl⟩:=r;rfl
 | str _=>obtain ⟨t,rfl⟩:=r;rfl
 | byt _=>obtain ⟨t,rfl⟩:=r;rfl
 | flt _=>obtain ⟨t,rfl⟩:=r;rfl
 | ref _=>cases r;rfl
 | ty _=>cases r;rfl
theorem zH.inj {x y:V}{u:Value}(r:zH x u)(q:zH y u):x=y:=Option.some.inj (r.abs.symm.trans q.abs)
theorem zG.inj:∀ {xs ys:List V} {us:List Value},zG xs us->zG ys us->xs=ys
 | _,_,_,.nil,.nil=>rfl
 | _,_,_,.cons r t,.cons r' t'=>by rw [r.inj r',zG.inj t t']
section
variable {X:Cx}{pins:List (Addr × Obj)}{σ:St}{H:Hp}{s:Shared}{a:Addr}{xs ys:List V}
theorem SqL.of {K:PySem.W.Frag}(h:H a=some (.lst xs)):SqL K H a xs:=.inl (.inl h)
theorem SqT.of {K:PySem.W.Frag}(h:H a=some (.tup xs)):SqT K H a xs:=.inl (.inl h)
theorem Inv.list (I:Inv X pins σ H s)(h:SqL X.K H a xs):∃ its:List Value,zG xs its/\PlainL s.heap a its.toArray/\xs.length<=sizeLine:=by
 rcases h with h | ⟨o,its,n,hk,hc,hd,hs,hz,r⟩
 ·obtain ⟨z,its,n,r,e⟩:=h.ok I.hok
  exact ⟨its,r,⟨_,n,e,rfl,rfl,rfl⟩,z⟩
 ·refine ⟨its.toList,r,⟨o,n,I.kIn a o hk,hc,hd,by simpa using hs⟩,?_⟩
  have e:=r.length
  simp only [Array.length_toList] at e
  omega
theorem Inv.tuple (I:Inv X pins σ H s)(h:SqT X.K H a xs):∃ its:List Value,zG xs its/\IsTup s.heap a its.toArray/\xs.length<=sizeLine:=by
 rcases h with h | ⟨o,its,n,hk,hc,hs,hz,r⟩
 ·obtain ⟨z,its,r,p⟩:=h.ok I.hok
  exact ⟨its,r,p.is,z⟩
 ·refine ⟨its.toList,r,⟨o,I.kIn a o hk,hc,n,by simpa using hs⟩,?_⟩
  have e:=r.length
  simp only [Array.length_toList] at e
  omega
theorem Inv.list_inj (I:Inv X pins σ H s)(h:SqL X.K H a xs)(h':SqL X.K H a ys):xs=ys:=by
 obtain ⟨its,r,⟨o,n,e,_,_,d⟩,_⟩:=I.list h
 obtain ⟨its',r',⟨o',n',e',_,_,d'⟩,_⟩:=I.list h'
 rw [e] at e';cases e'
 rw [d] at d'
 injection d' with d1 _
 have:its=its':=by simpa using congrArg Array.toList d1
 subst this
 exact r.inj r'
theorem Inv.tuple_inj (I:Inv X pins σ H s)(h:SqT X.K H a xs)(h':SqT X.K H a ys):xs=ys:=by
 obtain ⟨its,r,⟨o,e,_,n,d⟩,_⟩:=I.tuple h
 obtain ⟨its',r',⟨o',e',_,n',d'⟩,_⟩:=I.tuple h'
 rw [e] at e';cases e'
 rw [d] at d'
 injection d' with d1 _
 have:its=its':=by simpa using congrArg Array.toList d1
 subst this
 exact r.inj r'
end
noncomputable abbrev Cx.wish (X:Cx)(E:Value->Shared->Prop):Cx:={ X with xe:=E }
noncomputable abbrev Cx.nox (X:Cx):Cx:=X.wish fun _ _=>False
theorem Cx.Ok.wish {X:Cx}(ok:X.Ok)(E:Value->Shared->Prop):(X.wish E).Ok:=
 ⟨ok.mod,ok.kind,ok.glob,ok.blt,ok.above,ok.inj,ok.has,ok.cab,ok.hd,ok.frames,ok.stk,ok.exf,ok.bs,ok.bsz,ok.noex,ok.exfs,ok.funs,ok.frf⟩
theorem Cx.Ok.unwish {X:Cx}{E:Value->Shared->Prop}(ok:(X.wish E).Ok):X.Ok:=
 ⟨ok.mod,ok.kind,ok.glob,ok.blt,ok.above,ok.inj,ok.has,ok.cab,ok.hd,ok.frames,ok.stk,ok.exf,ok.bs,ok.bsz,ok.noex,ok.exfs,ok.funs,ok.frf⟩
section
variable {X:Cx}{pins:List (Addr × Obj)}{σ:St}{H:Hp}{s:Shared}{E:Value->Shared->Prop}
theorem Inv.wish (I:Inv X pins σ H s)(E:Value->Shared->Prop):Inv (X.wish E) pins σ H s:=⟨I.ok.wish E,I.os,I.bare,I.base,I.loc,I.cell,I.free,I.freeC,I.pin,I.hok,I.len⟩
theorem Inv.unwish (I:Inv (X.wish E) pins σ H s):Inv X pins σ H s:=⟨I.ok.unwish,I.os,I.bare,I.base,I.loc,I.cell,I.free,I.freeC,I.pin,I.hok,I.len⟩
theorem SP.unwish {D:xX}{f:Flow}{s':Shared}(h:SP (X.wish E) pins D f s'):SP X pins D f s':=by
 cases f with
 | next=>obtain ⟨σ',H',I,q⟩:=h;exact ⟨σ',H',I.unwish,q⟩
 | brk=>obtain ⟨σ',H',I,q⟩:=h;exact ⟨σ',H',I.unwish,q⟩
 | cont=>obtain ⟨σ',H',I,q⟩:=h;exact ⟨σ',H',I.unwish,q⟩
 | ret u=>obtain ⟨v,σ',H',I,r,q⟩:=h;exact ⟨v,σ',H',I.unwish,r,q⟩
theorem PSs.nox {st:List Stmt}{t:TS}(h:PSs X.nox st t):PSs X st t:=fun pins s σ H D I hw=>
 wpAny_mono (h pins s σ H D (I.wish _) hw) (fun _ _ q=>q.unwish) fun _ _ z=>False.elim z
end
section
variable {X:Cx}{st:Stmt}{jc:List Stmt}{t u:TS}{e:Expr}{te:TE}{pos:Pos}
noncomputable def VM:TS:=fun D σ H=>D.nx σ H
noncomputable def YD (t u:TS):TS:=fun D σ H=>t { D with nx:=u D } σ H
theorem zr:PSs X [] VM:=fun _ _ σ H _ I h=>wpAny_execs_nil ⟨σ,H,I,h⟩
theorem zc (h1:PS X st t)(h2:PSs X jc u):PSs X (st :: jc) (YD t u):=by
 intro pins s σ H D I h
 refine wpAny_execs_cons (thn (h1 pins s σ H { D with nx:=u D } I h) fun f s1 q=>?_)
 cases f with
 | next=>
  obtain ⟨σ',H',I',q⟩:=q
  exact h2 pins s1 σ' H' D I' q
 | ret v=>exact q
 | brk=>exact q
 | cont=>exact q
theorem zf (h1:PS X st t):PSs X [st] t:=by
 intro pins s σ H D I h
 refine wpAny_execs_cons (thn (h1 pins s σ H D I h) fun f s1 q=>?_)
 cases f with
 | next=>exact wpAny_execs_nil q
 | ret v=>exact q
 | brk=>exact q
 | cont=>exact q
theorem Inv.quiet {pins:List (Addr × Obj)}{σ:St}{H:Hp}{s:Shared}(I:Inv X pins σ H s):interactive X.env=false:=by simp [interactive,I.ok.kind]
noncomputable def XA (te:TE):TS:=fun D σ H=>te σ H fun _ H1=>D.nx σ H1
theorem jb (he:PE X e te)(hs:swapsWith e none pos.line X.env=pure false:=by rfl):PS X (.Expr e pos) (XA te):=by
 intro pins s σ H D I h
 exact wpAny_Expr_any (thn (he pins s σ H _ I h) fun v s1 ⟨x,H1,I1,r1,q1⟩=>⟨σ,H1,I1,q1⟩) I.quiet hs
noncomputable def Ec (te:TE):TS:=fun D σ H=>te σ H D.rt
theorem zz (he:PE X e te):PS X (.Return (some e) pos) (Ec te):=by
 intro pins s σ H D I h
 exact wpAny_Return_some (thn (he pins s σ H _ I h) fun v s1 ⟨x,H1,I1,r1,q1⟩=>⟨x,σ,H1,I1,r1,q1⟩)
noncomputable def Ew (c:TT)(t u:TS):TS:=fun D σ H=>c σ H fun b H1=>if b=true then t D σ H1 else u D σ H1
theorem zJ {c:Expr}{a b:List Stmt}{tc:TT}(hc:PT X c tc)(ha:PSs X a t)(hb:PSs X b u):PS X (.If c a b pos) (Ew tc t u):=by
 intro pins s σ H D I h
 refine wpAny_If (thn (hc pins s σ H _ I h) fun d s1 ⟨H1,I1,q1⟩=>?_)
 cases d with
 | true=>exact ha pins s1 σ H1 D I1 q1
 | false=>exact hb pins s1 σ H1 D I1 q1
end
noncomputable abbrev TG:=V->St->Hp->(St->Hp->Prop)->Prop
noncomputable abbrev TGs:=List V->St->Hp->(St->Hp->Prop)->Prop
noncomputable def PG (X:Cx)(target:Expr)(t:TG):Prop:=
 ∀ (pins:List (Addr × Obj)) (s:Shared) (σ:St) (H:Hp) (v:V) (u:Value) (Q:St->Hp->Prop),Inv X pins σ H s->zH v u->t v σ H Q ->
  wpAny (model X.prog X.w) X.A (assign target X.env u) (fun _ s'=>∃ σ' H',Inv X pins σ' H' s'/\Q σ' H') X.xe s
noncomputable def PGs (X:Cx)(ts:List Expr)(t:TGs):Prop:=
 ∀ (pins:List (Addr × Obj)) (s:Shared) (σ:St) (H:Hp) (vs:List V) (us:List Value) (Q:St->Hp->Prop),Inv X pins σ H s->zG vs us->t vs σ H Q ->
  wpAny (model X.prog X.w) X.A (assignInOrder ((assignEach ts X.env).map (·.2)) us) (fun _ s'=>∃ σ' H',Inv X pins σ' H' s'/\Q σ' H') X.xe s
noncomputable abbrev Qi:=V->V->V->Hp->(Hp->Prop)->Prop
noncomputable def Dq (X:Cx)(t:Qi):Prop:=
 ∀ (pins:List (Addr × Obj)) (s:Shared) (σ:St) (H:Hp) (o i v:V) (ov iv u:Value) (Q:Hp->Prop),Inv X pins σ H s->zH o ov->zH i iv->zH v u->t o i v H Q ->
  wpAny (model X.prog X.w) X.A (setItem ov iv u) (fun _ s'=>∃ H',Inv X pins σ H' s'/\Q H') X.xe s
noncomputable abbrev TIp:=V->V->Hp->VK->Prop
noncomputable def PIp (X:Cx)(op:Operator)(t:TIp):Prop:=
 ∀ (pins:List (Addr × Obj)) (s:Shared) (σ:St) (H:Hp) (x y:V) (v u:Value) (Q:VK),Inv X pins σ H s->zH x v->zH y u->t x y H Q ->
  wpAny (model X.prog X.w) X.A (inplaceOp op v u) (EP X pins σ Q) X.xe s
section
variable {X:Cx}{pos:Pos}
noncomputable def Qe (i:Nat):TG:=fun v σ H Q=>Q (σ.set i (some v)) H
theorem zF {i:Nat}{x:Str}(hN:X.N.Nodup)(hi:X.N[i]?=some x)(hx:Loc X.env.scope x)(hf:X.fn x=true \/ X.env.scope.names.lookup x=some .local:=by first | exact .inl rfl | exact .inr rfl | assumption):PG X (.Name x pos) (Qe i):=by
 intro pins s σ H v u Q I r h
 exact wpAny_assign_Name (jA I hN hi hx r (fun s' I'=>⟨_,H,I',h⟩) hf)
noncomputable def FQ:TGs:=fun vs σ H Q=>vs=[]/\Q σ H
noncomputable def VH (t:TG)(u:TGs):TGs:=fun vs σ H Q=>∃ v r,vs=v :: r/\t v σ H fun σ' H'=>u r σ' H' Q
theorem qO:PGs X [] FQ:=by
 intro pins s σ H vs us Q I r h
 obtain ⟨e,h⟩:=h
 subst e
 cases r
 exact assignInOrder_nil ⟨σ,H,I,h⟩
theorem zE {e:Expr}{es:List Expr}{t:TG}{u:TGs}(h1:PG X e t)(h2:PGs X es u)
  (hs:(assignEach (e :: es) X.env).map (·.2)=assign e X.env :: (assignEach es X.env).map (·.2):=by rfl):PGs X (e :: es) (VH t u):=by
 intro pins s σ H vs us Q I r h
 obtain ⟨v,vr,e1,h⟩:=h
 subst e1
 cases r with
 | cons r rr=>
  rw [hs]
  refine assignInOrder_cons (thn (h1 pins s σ H _ _ _ I r h) fun _ s1 ⟨σ1,H1,I1,q1⟩=>?_)
  exact h2 pins s1 σ1 H1 _ _ Q I1 rr q1
noncomputable def YZ (K:PySem.W.Frag)(n:Nat)(t:TGs):TG:=fun v σ H Q=>∃ a xs,v=.ref a/\SqT K H a xs/\xs.length=n/\t xs σ H Q
theorem Ho {es:List Expr}{k:Nat}{t:TGs}{n:Nat}(hc:X.calm=true)(h:PGs X es t)
  (hn:(assignEach es X.env).length=n:=by rfl) (hst:(assignEach es X.env).findIdx? (·.1)=none:=by rfl):PG X (.Tuple es k pos) (YZ X.K n t):=by
 intro pins s σ H v u Q I r hw
 obtain ⟨a,xs,e1,hq,hl,hw⟩:=hw
 subst e1
 cases r
 obtain ⟨its,rv,ht,hz⟩:=I.tuple hq
 refine assign_Tuple_tuple (I.ok.hd hc) ht (by simp [hn,<- hl,rv.length]) hst fun h' hx=>?_
 have I1:Inv X pins σ H { s with heap:=h' }:=I.kept (t':=s.toks) fun b o e=>hx b o (Nat.ne_of_lt (Heap.lt_size e)) e
 exact h pins _ σ H xs _ Q I1 (by simpa using rv) hw
noncomputable def G7 (to ti:TE)(t:Qi):TG:=fun v σ H Q=>to σ H fun o H1=>ti σ H1 fun i H2=>t o i v H2 fun H3=>Q σ H3
theorem qz {o i:Expr}{to ti:TE}{t:Qi}(ho:PE X o to)(hi:PE X i ti)(hs:Dq X t)
  (ha:∀ v,assign (.Subscript o i pos) X.env v=(do
   let ov <- holding [v] (eval o X.env)
   let iv <- holding [v,ov] (eval i X.env)
   standAt pos
   holding [v,ov,iv] (setItem ov iv v)
   release [v,ov,iv] []):=by intro _;rfl):PG X (.Subscript o i pos) (G7 to ti t):=by
 intro pins s σ H v u Q I r h
 rw [ha]
 refine wpAny_bind (wpAny_holding (thn (ho pins s σ H _ I h) fun ov s1 ⟨x,H1,I1,r1,q1⟩=>?_))
 refine wpAny_bind (wpAny_holding (thn (hi pins s1 σ H1 _ I1 q1) fun iv s2 ⟨y,H2,I2,r2,q2⟩=>?_))
 refine wpAny_bind (wpAny_standAt (wpAny_bind (wpAny_holding (thn (hs pins s2 σ H2 x y v ov iv u _ I2 r1 r2 r q2) fun _ s3 ⟨H3,I3,q3⟩=>?_))))
 exact wpAny_release ⟨σ,H3,I3,q3⟩
noncomputable def ZI (te:TE)(g:TG):TS:=fun D σ H=>te σ H fun x H1=>g x σ H1 D.nx
theorem qp {tg e:Expr}{te:TE}{g:TG}(he:PE X e te)(hg:PG X tg g)(hs:swapsWithSole [tg] e pos.line X.env=pure false:=by rfl)(hw:swappedStores [tg] e X.env=pure none:=by rfl)
  (h1:(assignEach [tg] X.env).map (·.2)=[assign tg X.env]:=by rfl):PS X (.Assign [tg] e pos) (ZI te g):=by
 intro pins s σ H D I h
 refine wpAny_Assign_stores (thn (he pins s σ H _ I h) fun v s1 ⟨x,H1,I1,r1,q1⟩=>?_) hs hw
 rw [h1]
 exact thn (hg pins s1 σ H1 x v _ I1 r1 q1) fun _ s2 q=>q
theorem zB {i:Nat}{x:Str}{e:Expr}{te:TE}{pos':Pos}(hN:X.N.Nodup)(hi:X.N[i]?=some x)(hx:Loc X.env.scope x)(he:PE X e te)(hs:swapsWith e (some (.Name x pos')) pos.line X.env=pure false:=by rfl)(hf:X.fn x=true \/ X.env.scope.names.lookup x=some .local:=by first | exact .inl rfl | exact .inr rfl | assumption) :
  PS X (.Assign [.Name x pos'] e pos) (ZI te (Qe i)):=by
 intro pins s σ H D I h
 refine wpAny_Assign_Name (thn (he pins s σ H _ I h) fun v s1 ⟨y,H1,I1,r1,q1⟩=>?_) hs
 exact jA I1 hN hi hx r1 (fun s2 I2=>⟨_,H1,I2,q1⟩) hf
noncomputable def FZ (i j:Nat)(ta:TA):TS:=fun D σ H=>ta σ H fun vs H1=>∃ v w,vs=[v,w]/\D.nx ((σ.set i (some v)).set j (some w)) H1
theorem Vc {i j:Nat}{x y:Str}{a b:Expr}{ta:TA}{px py pt:Pos}{kt k2 pt2}(hc:X.calm=true)(hN:X.N.Nodup)(hi:X.N[i]?=some x)(hj:X.N[j]?=some y)(hij:i ≠ j)
  (hx:X.env.scope.names.lookup x=some .local) (hy:X.env.scope.names.lookup y=some .local) (ha:PA X [a,b] ta)
  (hw:swappedStores [.Tuple [.Name x px,.Name y py] kt pt] (.Tuple [a,b] k2 pt2) X.env=pure (some [x,y]))
  (hs:swapsWithSole [.Tuple [.Name x px,.Name y py] kt pt] (.Tuple [a,b] k2 pt2) pos.line X.env=pure false:=by rfl) :
  PS X (.Assign [.Tuple [.Name x px,.Name y py] kt pt] (.Tuple [a,b] k2 pt2) pos) (FZ i j ta):=by
 intro pins s σ H D I h
 rw [exec_Assign_arm]
 refine wpAny_bind (wpAny_standAt ?_)
 rw [hs]
 refine wpAny_bind (wpAny_pure ?_)
 rw [if_neg (by decide)]
 refine wpAny_bind (Tuple_ (thn (ha _ pins s σ H _ I h) fun us s1 ⟨vs,H1,I1,r1,q1⟩=>?_))
 obtain ⟨v,w,e1,q1⟩:=q1
 subst e1
 obtain ⟨u1,u2,rfl,rv,rw'⟩:∃ u1 u2,us=[u1,u2]/\zH v u1/\zH w u2:=by
  cases r1 with
  | cons p q=>
   cases q with
   | cons p' q'=>
    cases q'
    exact ⟨_,_,rfl,p,p'⟩
 refine wpAny_newObj_type ?_ (by show 2<=sizeLine;decide)
 have I2:Inv X pins σ H1 { s1 with heap:=s1.heap.push { cls:=.type "tuple",data:=.seq [u1,u2].toArray } }:=I1.kept (t':=s1.toks) fun b o e=>Heap.get?_push_of_some _ e
 rw [hw]
 refine wpAny_bind (wpAny_pure ?_)
 show wpAny (model X.prog X.w) X.A (do rule "assign.swapped-stores";let items <- unpackItems (.ref s1.heap.objs.size) 2 none;assignInOrder [fun v=>bindName X.env y v,fun v=>bindName X.env x v] items.reverse;pure Flow.next) _ _ _
 refine wpAny_bind (wpAny_rule (wpAny_bind (unpackItems_tuple (items:=#[u1,u2]) (I.ok.hd hc) (IsTup.new s1.heap _) fun h' hx'=>?_)))
 have I3:=I2.kept (h':=h') (t':=s1.toks) fun b o e=>hx' b o (Nat.ne_of_lt (Heap.lt_size e)) e
 show wpAny _ _ (assignInOrder [fun v=>bindName X.env y v,fun v=>bindName X.env x v] [u2,u1] >>= fun _=>pure Flow.next) _ _ _
 refine wpAny_bind (assignInOrder_cons (wpAny_bindName (jA I3 hN hj (.inl hy) rw' (fun s2 I4=>?_) (.inr hy))))
 refine assignInOrder_cons (wpAny_bindName (jA I4 hN hi (.inl hx) rv (fun s3 I5=>assignInOrder_nil (wpAny_pure ?_)) (.inr hx)))
 rw [List.set_comm _ _ (Ne.symm hij)] at I5
 exact ⟨_,H1,I5,q1⟩
noncomputable def AZ (to ti te:TE)(tget:V->V->Hp->VK->Prop)(tip:TIp)(tset:Qi):TS:=fun D σ H=>to σ H fun o H1=>ti σ H1 fun i H2=>tget o i H2 fun x H3=>te σ H3 fun y H4=>tip x y H4 fun z H5=>tset o i z H5 fun H6=>D.nx σ H6
noncomputable def HZ (X:Cx)(t:V->V->Hp->VK->Prop):Prop:=
 ∀ (pins:List (Addr × Obj)) (s:Shared) (σ:St) (H:Hp) (o i:V) (ov iv:Value) (Q:VK),Inv X pins σ H s->zH o ov->zH i iv->t o i H Q ->
  wpAny (model X.prog X.w) X.A (getItem ov iv) (EP X pins σ Q) X.xe s
theorem vw {o i e:Expr}{to ti te:TE}{tget:V->V->Hp->VK->Prop}{tip:TIp}{tset:Qi}{op:Operator}{tpos:Pos}(ho:PE X o to)(hi:PE X i ti)(hg:HZ X tget)(he:PE X e te)(hp:PIp X op tip)(hs:Dq X tset)
  (ha:∀ ov iv new,augStore i ov iv new=(do holding [new,ov,iv] (setItem ov iv new);release [new,ov,iv] [];pure .next):=by intros;rfl):PS X (.AugAssign (.Subscript o i tpos) op e pos) (AZ to ti te tget tip tset):=by
 intro pins s σ H D I h
 refine wpAny_AugAssign_SubscriptAny (thn (ho pins s σ H _ I h) fun ov s1 ⟨x1,H1,I1,r1,q1⟩=>?_) ha
 refine thn (hi pins s1 σ H1 _ I1 q1) fun iv s2 ⟨x2,H2,I2,r2,q2⟩=>?_
 refine thn (hg pins s2 σ H2 x1 x2 ov iv _ I2 r1 r2 q2) fun old s3 ⟨x3,H3,I3,r3,q3⟩=>?_
 refine thn (he pins s3 σ H3 _ I3 q3) fun v s4 ⟨x4,H4,I4,r4,q4⟩=>?_
 refine thn (hp pins s4 σ H4 x3 x4 old v _ I4 r3 r4 q4) fun new s5 ⟨x5,H5,I5,r5,q5⟩=>?_
 exact thn (hs pins s5 σ H5 x1 x2 x5 ov iv new _ I5 r1 r2 r5 q5) fun _ s6 ⟨H6,I6,q6⟩=>⟨σ,H6,I6,q6⟩
noncomputable def ipI (f:Int->Int->Int):TIp:=fun x y H Q=>∃ i j,x=.int i/\y=.int j/\Q (.int (f i j)) H
theorem ZK:PIp X .Add (ipI fun i j=>i+j):=by
 intro pins s σ H x y v u Q I r1 r2 h
 obtain ⟨i,j,e1,e2,q⟩:=h
 subst e1;subst e2
 obtain ⟨t,rfl⟩:=r1
 obtain ⟨t',rfl⟩:=r2
 exact iadd_int ⟨.int _,H,I.tok _,⟨_,rfl⟩,q⟩
end
section
variable {X:Cx}{pos:Pos}
end
structure It where
 go:Nat->Hp->Prop
 yld:Nat->Hp->V->Hp->Prop
 stop:Nat->Hp->Prop
noncomputable def vj (X:Cx)(pins:List (Addr × Obj))(H:Hp)(b:Addr):Prop:=
 H b=none/\b ≠ X.env.locals/\b ∉ X.fs/\(b ∈ X.ex \/ X.s₀.heap.objs.size<=b)/\(∀ x c,X.env.cells.lookup x=some c->c ≠ b)/\∀ p ∈ X.pn ++ pins,p.1 ≠ b
theorem Inv.fpOk {X:Cx}{pins:List (Addr × Obj)}{σ:St}{H H':Hp}{s:Shared}{b:Addr}(I:Inv X pins σ H s)(hb:s.heap.objs.size<=b)(hn:H' b=none):vj X pins H' b:=by
 refine ⟨hn,Nat.ne_of_gt (Nat.lt_of_lt_of_le I.lt hb),I.nofs hb,.inr (Nat.le_trans I.sz hb),fun x c e z=>?_,fun p hp z=>?_⟩
 ·obtain ⟨v,q⟩:=I.cell x c e
  exact absurd (Nat.lt_of_lt_of_le q.lt (by rw [z];exact hb)) (Nat.lt_irrefl _)
 ·exact absurd (Nat.lt_of_lt_of_le (Heap.lt_size (I.pin p hp).1) (by rw [z];exact hb)) (Nat.lt_irrefl _)
structure Jy (P:Program)(w:World)(K:PySem.W.Frag)(tg:Expr)(J:It)(fp:List Addr)(it:Addr)(tn:Nat->Heap->Prop):Prop where
 mem:it ∈ fp
 obj:∀ i h,tn i h->∀ b ∈ fp,∃ o,h.get? b=some o/\∀ v,o.data ≠ .cell v
 keep:∀ i h h',tn i h->(∀ b ∈ fp,∀ o,h.get? b=some o->h'.get? b=some o)->tn i h'
 item:∀ (X:Cx),X.prog=P->X.w=w->X.K=K->X.calm=true->∀ (i:Nat) (pins:List (Addr × Obj)) (s:Shared) (σ:St) (H:Hp) (E:Value->Shared->Prop),Inv X pins σ H s->(∀ b ∈ fp,vj X pins H b)->tn i s.heap->J.go i H ->
  wpAny (model P w) X.A (pyNext (.ref it)) (fun r s1=>∃ u,r=some u /\
   wpAny (model P w) X.A (letOwnedTupleGo tg (.ref it) u) (fun _ s2=>∃ x H',Inv X pins σ H' s2/\zH x u/\J.yld i H x H'/\tn (i+1) s2.heap/\∀ b ∈ fp,H' b=none) E s1) E s
 done:∀ (X:Cx),X.prog=P->X.w=w->X.K=K->X.calm=true->∀ (i:Nat) (pins:List (Addr × Obj)) (s:Shared) (σ:St) (H:Hp) (E:Value->Shared->Prop),Inv X pins σ H s->(∀ b ∈ fp,vj X pins H b)->tn i s.heap->J.stop i H ->
  wpAny (model P w) X.A (pyNext (.ref it)) (fun r s1=>r=none/\Inv X pins σ H s1) E s
 self:∀ (A:Around) (i:Nat) (s:Shared) (Q:Value->Shared->Prop) (E:Value->Shared->Prop),tn i s.heap->Q (.ref it) s->wpAny (model P w) A (pyIter (.ref it)) Q E s
noncomputable abbrev TI:=St->Hp->(It->Hp->Prop)->Prop
noncomputable def PIE (X:Cx)(pins:List (Addr × Obj))(σ:St)(tg:Expr)(R:It->Hp->Prop)(itv:Value)(s2:Shared):Prop:=
 ∃ (it:Addr) (fp:List Addr) (tn:Nat->Heap->Prop) (J:It) (H':Hp),itv=.ref it/\Inv X pins σ H' s2/\Jy X.prog X.w X.K tg J fp it tn/\tn 0 s2.heap/\(∀ b ∈ fp,vj X pins H' b)/\R J H'
noncomputable def PI (X:Cx)(tg iter:Expr)(wi:TI):Prop:=
 ∀ (pins:List (Addr × Obj)) (s:Shared) (σ:St) (H:Hp) (R:It->Hp->Prop),Inv X pins σ H s->wi σ H R ->
  wpAny (model X.prog X.w) X.A (eval iter X.env) (fun v s1=>wpAny (model X.prog X.w) X.A (pyIter v) (PIE X pins σ tg R) X.xe s1) X.xe s
theorem Bw {M : Model}{A : Around}{E : Value -> Shared -> Prop}{s : Shared}{tg : Expr}{it : Addr}{u : Value}{o : Obj}{n : String}{vs : Array Value}{Q : Unit -> Shared -> Prop}(ho : s.heap.get? it = some o)(hc : o.cls = .type n)(hd : o.data = .fields vs)
    (hn:["enumerate","zip","dict_itemiterator","dict_reverseitemiterator","odict_iterator","itertools.zip_longest","itertools.pairwise"].contains n=false) (hQ:Q () s):wpAny M A (letOwnedTupleGo tg (.ref it) u) Q E s:=by
  unfold letOwnedTupleGo
  cases tg <;> first
    | exact wpAny_pure hQ
    | (cases u <;> first
        | exact wpAny_pure hQ
        | (refine wpAny_bind (wpAny_load ho ?_)
           rw [hc,hd]
           show wpAny M A (if (["enumerate","zip","dict_itemiterator","dict_reverseitemiterator","odict_iterator","itertools.zip_longest","itertools.pairwise"].contains n && vs[0]? == some (rawInt _))=true then _ else _) Q E s
           rw [if_neg (by intro h;rw [hn,Bool.false_and] at h;cases h)]
           exact wpAny_pure hQ))
noncomputable def Itl (K:PySem.W.Frag)(a:Addr):It:=
 ⟨fun i H=>∃ xs x,SqL K H a xs/\xs[i]?=some x,fun i H x H'=>H'=H/\∀ xs,SqL K H a xs->xs[i]?=some x,fun i H=>∃ xs,SqL K H a xs/\xs.length<=i⟩
noncomputable def Itt (K:PySem.W.Frag)(a:Addr):It:=
 ⟨fun i H=>∃ xs x,SqT K H a xs/\xs[i]?=some x,fun i H x H'=>H'=H/\∀ xs,SqT K H a xs->xs[i]?=some x,fun i H=>∃ xs,SqT K H a xs/\xs.length<=i⟩
noncomputable def Itr (lo:Int)(n:Nat):It:=⟨fun i _=>i<n,fun i H x H'=>H'=H/\x=.int (lo+i),fun i _=>n<=i⟩
theorem YR {P:Program}{w:World}{K:PySem.W.Frag}{tg:Expr}(a it:Addr):Jy P w K tg (Itl K a) [it] it (fun i h=>h.IsListIter it a i) where
 mem:=by simp
 obj:=fun i h st b hb=>by
  have e:b=it:=by simpa using hb
  subst e
  obtain ⟨o,e,c,d⟩:=st
  exact ⟨o,e,fun v z=>by rw [d] at z;cases z⟩
 keep:=fun i h h' st k=>st.at fun o e=>k it (by simp) o e
 item:=by
  intro X hP hw hK hc i pins s σ H E I hf st hg
  subst hP hw hK
  obtain ⟨xs,x,hq,hx⟩:=hg
  obtain ⟨its,rv,p,hz⟩:=I.list hq
  obtain ⟨u,hu,ru⟩:=rv.get hx
  obtain ⟨f0,f1,f2,f3,f4,f5⟩:=hf it (by simp)
  refine wpAny_pyNext_list_item st p.isList (x:=u) (by simpa using hu) fun h' st' sb=>?_
  have I1:Inv X pins σ H { s with heap:=h' }:=I.turned (t':=s.toks) (fun b o hb e=>(sb.2 b hb).trans e) f0 f1 f3 f4 f5
  obtain ⟨o,e,c,d⟩:=id st'
  exact ⟨u,rfl,Bw (s:={ s with heap:=h' }) e c d (by decide) ⟨x,H,I1,ru,⟨rfl,fun ys hy=>by rw [I.list_inj hy hq];exact hx⟩,st',fun b hb=>(hf b hb).1⟩⟩
 done:=by
  intro X hP hw hK hc i pins s σ H E I hf st hg
  subst hP hw hK
  obtain ⟨xs,hq,hx⟩:=hg
  obtain ⟨its,rv,p,hz⟩:=I.list hq
  obtain ⟨f0,f1,f2,f3,f4,f5⟩:=hf it (by simp)
  have hl:=rv.length
  exact wpAny_pyNext_list_end (I.ok.hd hc) st p.isList (by simp;omega) fun h' eb=>⟨rfl,I.turned (t':=s.toks) (fun b o hb e=>eb b o hb e) f0 f1 f3 f4 f5⟩
 self:=fun _ _ _ _ _ st h=>wpAny_pyIter_listiter st h
theorem Jw {P:Program}{w:World}{K:PySem.W.Frag}{tg:Expr}(a it:Addr):Jy P w K tg (Itt K a) [it] it (fun i h=>h.IsTupleIter it a i) where
 mem:=by simp
 obj:=fun i h st b hb=>by
  have e:b=it:=by simpa using hb
  subst e
  obtain ⟨o,e,c,d⟩:=st
  exact ⟨o,e,fun v z=>by rw [d] at z;cases z⟩
 keep:=fun i h h' st k=>st.at fun o e=>k it (by simp) o e
 item:=by
  intro X hP hw hK hc i pins s σ H E I hf st hg
  subst hP hw hK
  obtain ⟨xs,x,hq,hx⟩:=hg
  obtain ⟨its,rv,p,hz⟩:=I.tuple hq
  obtain ⟨u,hu,ru⟩:=rv.get hx
  obtain ⟨f0,f1,f2,f3,f4,f5⟩:=hf it (by simp)
  refine wpAny_pyNext_tuple_item st (show s.heap.IsTuple a its.toArray from p) (x:=u) (by simpa using hu) fun h' st' sb=>?_
  have I1:Inv X pins σ H { s with heap:=h' }:=I.turned (t':=s.toks) (fun b o hb e=>(sb.2 b hb).trans e) f0 f1 f3 f4 f5
  obtain ⟨o,e,c,d⟩:=id st'
  exact ⟨u,rfl,Bw (s:={ s with heap:=h' }) e c d (by decide) ⟨x,H,I1,ru,⟨rfl,fun ys hy=>by rw [I.tuple_inj hy hq];exact hx⟩,st',fun b hb=>(hf b hb).1⟩⟩
 done:=by
  intro X hP hw hK hc i pins s σ H E I hf st hg
  subst hP hw hK
  obtain ⟨xs,hq,hx⟩:=hg
  obtain ⟨its,rv,p,hz⟩:=I.tuple hq
  obtain ⟨f0,f1,f2,f3,f4,f5⟩:=hf it (by simp)
  have hl:=rv.length
  exact wpAny_pyNext_tuple_end (I.ok.hd hc) st (show s.heap.IsTuple a its.toArray from p) (by simp;omega) fun h' eb=>⟨rfl,I.turned (t':=s.toks) (fun b o hb e=>eb b o hb e) f0 f1 f3 f4 f5⟩
 self:=fun _ _ _ _ _ st h=>wpAny_pyIter_tupleiter st h
theorem JM {P:Program}{w:World}{K:PySem.W.Frag}{tg:Expr}(it:Addr)(lo:Int)(n:Nat):Jy P w K tg (Itr lo n) [it] it (fun i h=>IsRangeIter h it (lo+(i:Nat) * 1) ((n:Int) - (i:Nat)) 1) where
 mem:=by simp
 obj:=fun i h st b hb=>by
  have e:b=it:=by simpa using hb
  subst e
  exact ⟨_,st,fun v z=>by
   have z':Data.fields _=Data.cell v:=z
   cases z'⟩
 keep:=fun i h h' st k=>k it (by simp) _ st
 item:=by
  intro X hP hw hK hc i pins s σ H E I hf st hg
  subst hP hw hK
  obtain ⟨f0,f1,f2,f3,f4,f5⟩:=hf it (by simp)
  have W:=Walks.range (prog:=X.prog) (w:=X.w) (I.ok.hd hc) it lo 1 n
  refine W.item i s _ _ hg st fun v h' tk hv st' kk=>?_
  obtain ⟨t,rfl⟩:=hv
  have I1:Inv X pins σ H { s with heap:=h',toks:=tk }:=I.turned (fun b o hb e=>kk b o (by simpa using hb) e) f0 f1 f3 f4 f5
  refine ⟨_,rfl,Bw (s:={ s with heap:=h',toks:=tk }) (n:="range_iterator") st' rfl rfl (by decide) ⟨.int (lo+i),H,I1,⟨t,?_⟩,⟨rfl,rfl⟩,st',fun b hb=>(hf b hb).1⟩⟩
  rw [Int.mul_one]
 done:=by
  intro X hP hw hK hc i pins s σ H E I hf st hg
  subst hP hw hK
  obtain ⟨f0,f1,f2,f3,f4,f5⟩:=hf it (by simp)
  exact wpAny_pyNext_range_end (I.ok.hd hc) st (by have:n<=i:=hg;omega) fun h' eb=>⟨rfl,I.turned (t':=s.toks) (fun b o hb e=>eb b o hb e) f0 f1 f3 f4 f5⟩
 self:=fun _ _ _ _ _ st h=>wpAny_pyIter_rangeiter st h
section
variable {X:Cx}{tg:Expr}
theorem V8 {pins:List (Addr × Obj)}{σ:St}{H:Hp}{s:Shared}{R:It->Hp->Prop}{E:Value->Shared->Prop}{lo hi:Int}{t u v:Tok}{tk:Nat}(I:Inv X pins σ H s)(h1:-(2 ^ 62)<=lo)(h2:lo<2 ^ 62)(h3:-(2 ^ 62)<=hi)(h4:hi<2 ^ 62)
  (q:R (Itr lo (hi - lo).toNat) H):wpAny (model X.prog X.w) X.A (pyIter (.ref s.heap.objs.size)) (PIE X pins σ tg R) E { s with heap:=s.heap.push { cls:=.type "range",data:=.fields #[.int lo t,.int hi u,.int 1 v] },toks:=tk }:=by
 refine wpAny_pyIter_range (IsRange.new ..) (small_one h1 h2 h3 h4) ?_
 have I1:Inv X pins σ H { s with heap:=s.heap.push { cls:=.type "range",data:=.fields #[.int lo t,.int hi u,.int 1 v] },toks:=tk }:=I.kept fun b o e=>Heap.get?_push_of_some _ e
 refine ⟨(s.heap.push { cls:=.type "range",data:=.fields #[.int lo t,.int hi u,.int 1 v] }).objs.size,[(s.heap.push { cls:=.type "range",data:=.fields #[.int lo t,.int hi u,.int 1 v] }).objs.size],_,_,H,rfl,
  I1.kept (t':=tk) fun b o e=>Heap.get?_push_of_some _ e,JM _ lo (hi - lo).toNat,?_,fun b hb=>?_,q⟩
 ·have e1:lo+((0:Nat):Int) * 1=lo:=by simp
  have e2:(((hi - lo).toNat:Nat):Int) - ((0:Nat):Int)=Builtin.Range.rangeSize lo hi 1:=by rw [rangeSize_one];split <;> omega
  show IsRangeIter _ _ (lo+((0:Nat):Int) * 1) ((((hi - lo).toNat:Nat):Int) - ((0:Nat):Int)) 1
  rw [e1,e2]
  exact Heap.get?_push_size _ rfl
 ·have e:b=(s.heap.push { cls:=.type "range",data:=.fields #[.int lo t,.int hi u,.int 1 v] }).objs.size:=by simpa using hb
  subst e
  exact I1.fpOk (Nat.le_refl _) (I1.hok.fresh (Nat.le_refl _))
noncomputable def AU (ta:TA):TI:=fun σ H R=>ta σ H fun vs H1=>∃ j:Int,vs=[.int j]/\-(2 ^ 62)<=j/\j<2 ^ 62/\R (Itr 0 j.toNat) H1
theorem ju {a:Expr}{ta:TA}{p pos:Pos}(hg:Gl X "range")(hm:X.mg "range"=none)(ha:PA X [a] ta)(hs:starEach [a] X.env=[(false,eval a X.env)]:=by rfl):PI X tg (.Call (.Name "range" p) [a] [] pos) (AU ta):=by
 intro pins s σ H R I h
 refine Call_ (yG I hg hm boot_range (PyProof.Rows.callWith_type1 (thn (ha pos pins s σ H _ I h) fun us s1 ⟨vs,H1,I1,r1,q1⟩=>?_) hs rfl))
 obtain ⟨j,e,q1,q2,q⟩:=q1
 subst e
 cases r1 with
 | cons r rr=>
  cases rr
  obtain ⟨t,rfl⟩:=r
  exact call_range_1 (V8 I1 (by omega) (by omega) q1 q2 (by simpa using q))
noncomputable def BW (wi:TI)(g:TG)(tb:TS):TS:=fun D σ H=>wi σ H fun J H1=>∃ W:Nat->Nat->St->Hp->Prop,(∃ m,W 0 m σ H1)/\∀ i m σ H,W i m σ H ->
 (J.stop i H/\D.nx σ H) \/ (J.go i H/\∃ N:St->Hp->Prop,(∀ σ' H',N σ' H'->∃ m',m'<m/\W (i+1) m' σ' H')/\∀ x H',J.yld i H x H'->g x σ H' fun σ2 H2=>tb { D with nx:=N,ct:=N,bk:=D.nx } σ2 H2)
noncomputable def vF (fp:List Addr)(h:Heap):List (Addr × Obj):=fp.filterMap fun b=>(h.get? b).map fun o=>(b,o)
theorem kL {fp:List Addr}{h:Heap}{b:Addr}{o:Obj}(hb:b ∈ fp)(e:h.get? b=some o):(b,o) ∈ vF fp h:=List.mem_filterMap.mpr ⟨b,hb,by rw [e];rfl⟩
theorem YB {fp:List Addr}{h:Heap}{p:Addr × Obj}(hp:p ∈ vF fp h):p.1 ∈ fp/\h.get? p.1=some p.2:=by
 obtain ⟨b,hb,e⟩:=List.mem_filterMap.mp hp
 cases q:h.get? b with
 | none=>rw [q] at e;cases e
 | some o=>
  rw [q] at e
  have e':(b,o)=p:=Option.some.inj e
  subst e'
  exact ⟨hb,q⟩
theorem Inv.pinned {pins:List (Addr × Obj)}{σ:St}{H:Hp}{s:Shared}{fp:List Addr}(I:Inv X pins σ H s)(hf:∀ b ∈ fp,vj X pins H b)(ho:∀ b ∈ fp,∃ o,s.heap.get? b=some o/\∀ v,o.data ≠ .cell v):Inv X (pins ++ vF fp s.heap) σ H s:=
 I.pins_of fun p hp=>(List.mem_append.mp hp).elim (fun z=>I.pin p (List.mem_append_right _ z)) fun z=>by
  obtain ⟨hb,e⟩:=YB z
  obtain ⟨f0,f1,f2,_⟩:=hf p.1 hb
  obtain ⟨o,e',d⟩:=ho p.1 hb
  rw [e] at e';cases e'
  exact ⟨e,f0,f1,f2,d⟩
theorem Inv.unpinned {pins pl:List (Addr × Obj)}{σ:St}{H:Hp}{s:Shared}(I:Inv X (pins ++ pl) σ H s):Inv X pins σ H s:=I.pins_of fun p hp=>I.pin p (List.mem_append_right _ (List.mem_append_left _ hp))
theorem jZ {iter:Expr}{body:List Stmt}{wi:TI}{g:TG}{tb:TS}{pos:Pos}(hp:PassesOwn (model X.prog X.w) X.A X.env X.xe)(hc:X.calm=true)(hi:PI X tg iter wi)(hg:PG X tg g)(hb:PSs X body tb)
  (hs:∀ x,foldedSetIterable iter X.env x=pure x:=by intro _;rfl):PS X (.For tg iter body [] pos) (BW wi g tb):=by
 intro pins s σ H D I h
 refine wpAny_For (thn (hi pins s σ H _ I h) fun v s1 h1=>thn h1 fun itv s2 h2=>?_) hs
 obtain ⟨it,fp,tn,J,H2,e,I2,T,st2,f2,W,⟨m0,w0⟩,turn⟩:=h2
 subst e
 have stat:∀ {H':Hp},(∀ b ∈ fp,H' b=none)->∀ b ∈ fp,vj X pins H' b:=fun hn b hb=>⟨hn b hb,(f2 b hb).2⟩
 refine codeAny_forLoop_any (fun n s'=>∃ i σ' H',Inv X pins σ' H' s'/\tn i s'.heap/\(∀ b ∈ fp,H' b=none)/\W i n σ' H') ?_ m0 ⟨0,σ,H2,I2,st2,fun b hb=>(f2 b hb).1,w0⟩
 rintro n s3 ⟨i,σ3,H3,I3,st3,fr3,w3⟩
 rcases turn i n σ3 H3 w3 with ⟨stop,qn⟩ | ⟨go,N,hN,step⟩
 ·refine wpAny_passesOwn hp (thn (T.done X rfl rfl rfl hc i pins s3 σ3 H3 X.xe I3 (stat fr3) st3 stop) fun r s4 ⟨hr,I4⟩=>?_)
  subst hr
  exact wpAny_execs_nil ⟨σ3,H3,I4,qn⟩
 ·refine wpAny_passesOwn hp (thn (T.item X rfl rfl rfl hc i pins s3 σ3 H3 X.xe I3 (stat fr3) st3 go) fun r s4 ⟨u,hr,h4⟩=>?_)
  subst hr
  refine wpAny_passesOwn hp (thn h4 fun _ s5 ⟨x,H5,I5,r5,y5,st5,fr5⟩=>?_)
  have I5':=I5.pinned (stat fr5) (T.obj _ _ st5)
  refine wpAny_passesOwn hp (thn (hg _ s5 σ3 H5 x u _ I5' r5 (step x H5 y5)) fun _ s6 ⟨σ6,H6,I6,q6⟩=>?_)
  refine wpAny_passesOwn hp (thn (hb _ s6 σ6 H6 _ I6 q6) fun f s7 q7=>?_)
  have again:∀ {σ7:St} {H7:Hp},Inv X (pins ++ vF fp s5.heap) σ7 H7 s7->N σ7 H7->∃ m,m<n/\∃ i σ' H',Inv X pins σ' H' s7/\tn i s7.heap/\(∀ b ∈ fp,H' b=none)/\W i m σ' H':=fun {σ7 H7} I7 n7=>by
   obtain ⟨m',hm,w7⟩:=hN σ7 H7 n7
   refine ⟨m',hm,i+1,σ7,H7,I7.unpinned,T.keep _ _ _ st5 fun b hb o e=>(I7.pin (b,o) (List.mem_append_right _ (List.mem_append_right _ (kL hb e)))).1,fun b hb=>?_,w7⟩
   obtain ⟨o,e,d⟩:=T.obj _ _ st5 b hb
   exact (I7.pin (b,o) (List.mem_append_right _ (List.mem_append_right _ (kL hb e)))).2.1
  cases f with
  | next=>obtain ⟨σ7,H7,I7,n7⟩:=q7;exact again I7 n7
  | cont=>obtain ⟨σ7,H7,I7,n7⟩:=q7;exact again I7 n7
  | brk=>obtain ⟨σ7,H7,I7,q7⟩:=q7;exact ⟨σ7,H7,I7.unpinned,q7⟩
  | ret v=>obtain ⟨x7,σ7,H7,I7,r7,q7⟩:=q7;exact ⟨x7,σ7,H7,I7.unpinned,r7,q7⟩
end
noncomputable abbrev R2:=V->V->Hp->VK->Prop
noncomputable def OpR (X:Cx)(f:Value->Value->Sem Value)(r:R2):Prop:=
 ∀ (pins:List (Addr × Obj)) (s:Shared) (σ:St) (H:Hp) (x y:V) (v u:Value) (Q:VK),Inv X pins σ H s->zH x v->zH y u->r x y H Q ->
  wpAny (model X.prog X.w) X.A (f v u) (EP X pins σ Q) X.xe s
noncomputable def UnR (X:Cx)(f:Value->Sem Value)(r:V->Hp->VK->Prop):Prop:=
 ∀ (pins:List (Addr × Obj)) (s:Shared) (σ:St) (H:Hp) (x:V) (v:Value) (Q:VK),Inv X pins σ H s->zH x v->r x H Q ->
  wpAny (model X.prog X.w) X.A (f v) (EP X pins σ Q) X.xe s
noncomputable def jy (X:Cx)(f:Value)(r:List V->Hp->VK->Prop):Prop:=
 ∀ (pins:List (Addr × Obj)) (s:Shared) (σ:St) (H:Hp) (xs:List V) (us:List Value) (Q:VK),Inv X pins σ H s->zG xs us->r xs H Q ->
  wpAny (model X.prog X.w) X.A (call f us) (EP X pins σ Q) X.xe s
noncomputable def tOp (r:R2)(ta tb:TE):TE:=fun σ H Q=>ta σ H fun x H1=>tb σ H1 fun y H2=>r x y H2 Q
noncomputable def tUn (r:V->Hp->VK->Prop)(ta:TE):TE:=fun σ H Q=>ta σ H fun x H1=>r x H1 Q
noncomputable def rI (C:Int->Int->Prop)(g:Int->Int->V):R2:=fun x y H Q=>∃ i j,x=.int i/\y=.int j/\C i j/\Q (g i j) H
noncomputable def rI0 (g:Int->Int->V):R2:=fun x y H Q=>∃ i j,x=.int i/\y=.int j/\Q (g i j) H
noncomputable def rU (g:Int->V):V->Hp->VK->Prop:=fun x H Q=>∃ i,x=.int i/\Q (g i) H
section
variable {X:Cx}{a b c:Expr}{ta tb tc:TE}{pos:Pos}
theorem He (ha:PE X a ta)(hb:PE X b tb){pins:List (Addr × Obj)}{s:Shared}{σ:St}{H:Hp}{R:V->V->Hp->Prop}(I:Inv X pins σ H s)
  (h:ta σ H fun x H1=>tb σ H1 fun y H2=>R x y H2) {Q:Value->Shared->Prop} {f:Value->Value->Sem Value}
  (hf:∀ v u s2 x y H2,Inv X pins σ H2 s2->zH x v->zH y u->R x y H2->wpAny (model X.prog X.w) X.A (f v u) Q X.xe s2) :
  wpAny (model X.prog X.w) X.A (eval a X.env) (fun v s₁=>wpAny (model X.prog X.w) X.A (eval b X.env) (fun u s₂=>wpAny (model X.prog X.w) X.A (f v u) Q X.xe s₂) X.xe s₁) X.xe s:=by
 refine thn (ha pins s σ H _ I h) fun v s1 ⟨x,H1,I1,r1,q1⟩=>?_
 refine thn (hb pins s1 σ H1 _ I1 q1) fun u s2 ⟨y,H2,I2,r2,q2⟩=>?_
 exact hf v u s2 x y H2 I2 r1 r2 q2
theorem zv {op:Operator}{r:R2}(ho:OpR X (binaryOp op) r)(ha:PE X a ta)(hb:PE X b tb):PE X (.BinOp a op b pos) (tOp r ta tb):=by
 intro pins s σ H Q I h
 exact wpAny_BinOp (He ha hb I h fun v u s2 x y H2 I2 rx ry q=>ho pins s2 σ H2 x y v u Q I2 rx ry q)
theorem wW {op:UnaryOp}{r:V->Hp->VK->Prop}(ho:UnR X (unaryOp op) r)(ha:PE X a ta):PE X (.UnaryOp op a pos) (tUn r ta):=by
 intro pins s σ H Q I h
 exact UnaryOp_ (thn (ha pins s σ H _ I h) fun v s1 ⟨x,H1,I1,r1,q1⟩=>ho pins s1 σ H1 x v Q I1 r1 q1)
theorem opI {f:Value->Value->Sem Value}{C:Int->Int->Prop}{g:Int->Int->Int}
  (rule:∀ (i j:Int) (t u:Tok) (s:Shared) (Q:Value->Shared->Prop) (E:Value->Shared->Prop),C i j->Q (.int (g i j) s.toks) { s with toks:=s.toks+1 }->wpAny (model X.prog X.w) X.A (f (.int i t) (.int j u)) Q E s) :
  OpR X f (rI C fun i j=>.int (g i j)):=by
 intro pins s σ H x y v u Q I rx ry h
 obtain ⟨i,j,rfl,rfl,hc,q⟩:=h
 obtain ⟨t,rfl⟩:=rx
 obtain ⟨t',rfl⟩:=ry
 exact rule i j t t' s _ _ hc ⟨.int (g i j),H,I.tok _,⟨_,rfl⟩,q⟩
theorem II {f:Value->Value->Sem Value}{g:Int->Int->Int}
  (rule:∀ (i j:Int) (t u:Tok) (s:Shared) (Q:Value->Shared->Prop) (E:Value->Shared->Prop),Q (.int (g i j) s.toks) { s with toks:=s.toks+1 }->wpAny (model X.prog X.w) X.A (f (.int i t) (.int j u)) Q E s) :
  OpR X f (rI0 fun i j=>.int (g i j)):=by
 intro pins s σ H x y v u Q I rx ry h
 obtain ⟨i,j,rfl,rfl,q⟩:=h
 obtain ⟨t,rfl⟩:=rx
 obtain ⟨t',rfl⟩:=ry
 exact rule i j t t' s _ _ ⟨.int (g i j),H,I.tok _,⟨_,rfl⟩,q⟩
theorem EZ {f:Value->Value->Sem Value}{g:Int->Int->Bool}
  (rule:∀ (i j:Int) (t u:Tok) (s:Shared) (Q:Value->Shared->Prop) (E:Value->Shared->Prop),Q (.bool (g i j)) s->wpAny (model X.prog X.w) X.A (f (.int i t) (.int j u)) Q E s) :
  OpR X f (rI0 fun i j=>.bl (g i j)):=by
 intro pins s σ H x y v u Q I rx ry h
 obtain ⟨i,j,rfl,rfl,q⟩:=h
 obtain ⟨t,rfl⟩:=rx
 obtain ⟨t',rfl⟩:=ry
 exact rule i j t t' s _ _ ⟨.bl (g i j),H,I,rfl,q⟩
noncomputable def Gf (i j:Int):Prop:=0<j/\j<1073741824
noncomputable def Lr (i j:Int):Prop:=0<=j/\j<=1000000/\i.natAbs<2 ^ 64
noncomputable def Ah (i j:Int):Prop:=(-(2 ^ 64)<i/\i<2 ^ 64) \/ (-(2 ^ 64)<j/\j<2 ^ 64)
theorem Ah.ok {i j:Int}(h:Ah i j):IntMulOk i j:=by
 rcases h with ⟨h1,h2⟩ | ⟨h1,h2⟩
 ·exact .of_left (intBits_le_64 h1 h2)
 ·exact .of_right (intBits_le_64 h1 h2)
theorem qh:OpR X (binaryOp .Add) (rI0 fun i j=>.int (i+j)):=II fun _ _ _ _ _ _ _ q=>add_int q
theorem kJ:OpR X (binaryOp .Sub) (rI0 fun i j=>.int (i - j)):=II fun _ _ _ _ _ _ _ q=>sub_int q
theorem kX:OpR X (binaryOp .Mult) (rI Ah fun i j=>.int (i * j)):=opI fun _ _ _ _ _ _ _ hc q=>mul_int q hc.ok
theorem Ks:OpR X (binaryOp .FloorDiv) (rI Gf fun i j=>.int (i / j)):=opI fun i j _ _ _ _ _ hc q=>by
 have h1:(0:Int)<j:=hc.1
 have h2:j<1073741824:=hc.2
 exact floordiv_int (by omega) (by rw [Int.fdiv_eq_ediv_of_nonneg i (by omega)];exact q) (.inl (PyProof.noPylong_small (by omega)))
theorem jY:OpR X (binaryOp .Mod) (rI (fun _ j=>0<j) fun i j=>.int (i % j)):=opI fun i j _ _ _ _ _ hc q=>by
 have h1:(0:Int)<j:=hc
 exact mod_int' (by omega) (by rw [Int.fmod_eq_emod_of_nonneg i (by omega)];exact q)
theorem WZ:OpR X (binaryOp .Pow) (rI Lr fun i j=>.int (i ^ j.toNat)):=opI fun _ _ _ _ _ _ _ hc q=>pow_int_small hc.1 hc.2.1 hc.2.2 q
theorem unI {f:Value->Sem Value}{g:Int->Int}
  (rule:∀ (i:Int) (t:Tok) (s:Shared) (Q:Value->Shared->Prop) (E:Value->Shared->Prop),Q (.int (g i) s.toks) { s with toks:=s.toks+1 }->wpAny (model X.prog X.w) X.A (f (.int i t)) Q E s) :
  UnR X f (rU fun i=>.int (g i)):=by
 intro pins s σ H x v Q I rx h
 obtain ⟨i,rfl,q⟩:=h
 obtain ⟨t,rfl⟩:=rx
 exact rule i t s _ _ ⟨.int (g i),H,I.tok _,⟨_,rfl⟩,q⟩
theorem yA:UnR X (unaryOp .USub) (rU fun i=>.int (-i)):=unI fun _ _ _ _ _ q=>neg_int q
end
noncomputable def Lu:V->V->Bool
 | .non,.non=>true | .non,.int _=>true | .int _,.non=>true | .non,.bl _=>true | .bl _,.non=>true | .non,.str _=>true | .str _,.non=>true
 | .int _,.int _=>true | .bl _,.bl _=>true | .str _,.str _=>true | .byt _,.byt _=>true
 | .int _,.str _=>true | .str _,.int _=>true | .bl _,.str _=>true | .str _,.bl _=>true
 | _,_=>false
noncomputable def rEq:R2:=fun x y H Q=>Lu x y=true/\Q (.bl (decide (x=y))) H
theorem EO {i j:Int}:decide (V.int i=V.int j)=(i == j):=by
 rw [Bool.eq_iff_iff]
 simp
theorem Hr {i j:Bool}:decide (V.bl i=V.bl j)=(i == j):=by
 rw [Bool.eq_iff_iff]
 simp
theorem Eo {i j:Str}:decide (V.str i=V.str j)=(i == j):=by
 rw [Bool.eq_iff_iff]
 simp
theorem Dk {i j:Array UInt8}:decide (V.byt i=V.byt j)=(i.toList == j.toList):=by
 rw [Bool.eq_iff_iff]
 cases i
 cases j
 simp
section
variable {X:Cx}{a b c:Expr}{ta tb tc:TE}{pos:Pos}
theorem qJ {pins:List (Addr × Obj)}{σ:St}{H:Hp}{s:Shared}{Q:VK}{k k':Bool}(I:Inv X pins σ H s)(q:Q (.bl k) H)(e:k=k'):EP X pins σ Q (.bool k') s:=by
 subst e
 exact ⟨.bl k,H,I,rfl,q⟩
theorem Fy:OpR X (compareOp .Eq) rEq:=by
 intro pins s σ H x y v u Q I rx ry h
 obtain ⟨hs,q⟩:=h
 cases x with
 | non=>
  cases rx
  cases y with
  | non=>cases ry;exact PySem.EqNone.eq_none_none (qJ I q (by simp))
  | bl j=>cases ry;exact PySem.EqNone.eq_none_bool (qJ I q (by simp))
  | int j=>obtain ⟨t',rfl⟩:=ry;exact PySem.EqNone.eq_none_int (qJ I q (by simp))
  | str j=>obtain ⟨t',rfl⟩:=ry;exact PySem.EqNone.eq_none_str (qJ I q (by simp))
  | _=>exact absurd (show false=true from hs) Bool.false_ne_true
 | bl i=>
  cases rx
  cases y with
  | non=>cases ry;exact PySem.EqNone.eq_bool_none (qJ I q (by simp))
  | bl j=>cases ry;exact eq_bool (qJ I q Hr)
  | str j=>obtain ⟨t',rfl⟩:=ry;exact PySem.EqMixed.eq_bool_str (qJ I q (by simp))
  | _=>exact absurd (show false=true from hs) Bool.false_ne_true
 | int i=>
  obtain ⟨t,rfl⟩:=rx
  cases y with
  | non=>cases ry;exact PySem.EqNone.eq_int_none (qJ I q (by simp))
  | int j=>obtain ⟨t',rfl⟩:=ry;exact eq_int (qJ I q EO)
  | str j=>obtain ⟨t',rfl⟩:=ry;exact PySem.EqMixed.eq_int_str (qJ I q (by simp))
  | _=>exact absurd (show false=true from hs) Bool.false_ne_true
 | str i=>
  obtain ⟨t,rfl⟩:=rx
  cases y with
  | non=>cases ry;exact PySem.EqNone.eq_str_none (qJ I q (by simp))
  | bl j=>cases ry;exact PySem.EqMixed.eq_str_bool (qJ I q (by simp))
  | int j=>obtain ⟨t',rfl⟩:=ry;exact PySem.EqMixed.eq_str_int (qJ I q (by simp))
  | str j=>obtain ⟨t',rfl⟩:=ry;exact eq_str (qJ I q Eo)
  | _=>exact absurd (show false=true from hs) Bool.false_ne_true
 | byt i=>
  obtain ⟨t,rfl⟩:=rx
  cases y with
  | byt j=>obtain ⟨t',rfl⟩:=ry;exact PySem.W.eq_bytes (qJ I q Dk)
  | _=>exact absurd (show false=true from hs) Bool.false_ne_true
 | _=>cases y <;> exact absurd (show false=true from hs) Bool.false_ne_true
theorem E2:OpR X (compareOp .Lt) (rI0 fun i j=>.bl (decide (i<j))):=EZ fun _ _ _ _ _ _ _ q=>lt_int q
theorem Fh:OpR X (compareOp .LtE) (rI0 fun i j=>.bl (decide (i<=j))):=EZ fun _ _ _ _ _ _ _ q=>le_int q
theorem Xv:OpR X (compareOp .Gt) (rI0 fun i j=>.bl (decide (j<i))):=EZ fun _ _ _ _ _ _ _ q=>gt_int q
theorem HV:OpR X (compareOp .GtE) (rI0 fun i j=>.bl (decide (j<=i))):=EZ fun _ _ _ _ _ _ _ q=>ge_int q
theorem xf:OpR X (compareOp .Is) (fun x y H Q=>y=.non/\Q (.bl (decide (x=.non))) H):=by
 intro pins s σ H x y v u Q I rx ry h
 obtain ⟨rfl,q⟩:=h
 cases ry
 refine is_none_gen (qJ I q ?_)
 cases x <;> first
  | (cases rx;rfl)
  | (obtain ⟨t,rfl⟩:=rx;rfl)
theorem jm:OpR X (compareOp .IsNot) (fun x y H Q=>y=.non/\Q (.bl (!decide (x=.non))) H):=by
 intro pins s σ H x y v u Q I rx ry h
 obtain ⟨rfl,q⟩:=h
 cases ry
 refine isnot_none_gen (qJ I q ?_)
 cases x <;> first
  | (cases rx;rfl)
  | (obtain ⟨t,rfl⟩:=rx;rfl)
theorem zq (b:Expr){op:CmpOp}(h:op ≠ .In:=by decide)(h2:op ≠ .NotIn:=by decide):behindInMarks op b=false:=by
 have e1:(op == CmpOp.In)=false:=by cases op <;> first | rfl | exact absurd rfl h
 have e2:(op == CmpOp.NotIn)=false:=by cases op <;> first | rfl | exact absurd rfl h2
 cases b <;> simp [behindInMarks,e1,e2]
theorem xE {op:CmpOp}{r:R2}(ho:OpR X (compareOp op) r)(ha:PE X a ta)(hb:PE X b tb)(hm:behindInMarks op b=false):PE X (.Compare a [op] [b] pos) (tOp r ta tb):=by
 intro pins s σ H Q I h
 exact wpAny_Compare1 (He ha hb I h fun v u s2 x y H2 I2 rx ry q=>ho pins s2 σ H2 x y v u Q I2 rx ry q) hm
noncomputable def K4 (t:TE):TT:=fun σ H Q=>t σ H fun x H'=>∃ k,x=.bl k/\Q k H'
theorem zl {op:CmpOp}{r:R2}(ho:OpR X (compareOp op) r)(ha:PE X a ta)(hb:PE X b tb)(hm:behindInMarks op b=false):PT X (.Compare a [op] [b] pos) (K4 (tOp r ta tb)):=by
 intro pins s σ H Q I h
 refine wpAny_isTrue_Compare1 (thn (ha pins s σ H _ I h) fun v s1 ⟨x,H1,I1,r1,q1⟩=>thn (hb pins s1 σ H1 _ I1 q1) fun u s2 ⟨y,H2,I2,r2,q2⟩=>
  thn (ho pins s2 σ H2 x y v u _ I2 r1 r2 q2) fun c s3 ⟨z,H3,I3,r3,k,e,q3⟩=>?_) hm
 subst e
 cases r3
 exact wpAny_truthy_bool ⟨H3,I3,q3⟩
noncomputable def Kh (r r':R2)(ta tb tc:TE):TE:=fun σ H Q=>ta σ H fun x H1=>tb σ H1 fun y H2=>r x y H2 fun z H3=>∃ k,z=.bl k /\
 (if k=true then tc σ H3 fun w' H4=>r' y w' H4 Q else Q (.bl false) H3)
theorem WX {op op':CmpOp}{r r':R2}(ho:OpR X (compareOp op) r)(ho':OpR X (compareOp op') r')(ha:PE X a ta)(hb:PE X b tb)(hc:PE X c tc)
  (hm:lastMarks [op,op'] [b,c]=false:=by with_unfolding_all rfl):PE X (.Compare a [op,op'] [b,c] pos) (Kh r r' ta tb tc):=by
 intro pins s σ H Q I h
 refine Compare_chain (thn (ha pins s σ H _ I h) fun v s1 ⟨x,H1,I1,r1,q1⟩=>chain_link (thn (hb pins s1 σ H1 _ I1 q1) fun u s2 ⟨y,H2,I2,r2,q2⟩=>
  thn (ho pins s2 σ H2 x y v u _ I2 r1 r2 q2) fun d s3 ⟨z,H3,I3,r3,k,e,q3⟩=>?_)) hm
 subst e
 cases r3
 refine wpAny_truthy_bool ?_
 cases k with
 | false=>exact ite_ff ⟨.bl false,H3,I3,rfl,q3⟩
 | true=>exact ite_tt (chain_last (thn (hc pins s3 σ H3 _ I3 q3) fun w' s4 ⟨z',H4,I4,r4,q4⟩=>ho' pins s4 σ H4 y z' u w' Q I4 r2 r4 q4))
theorem VE {op op':CmpOp}{r r':R2}(ho:OpR X (compareOp op) r)(ho':OpR X (compareOp op') r')(ha:PE X a ta)(hb:PE X b tb)(hc:PE X c tc)
  (hm:lastMarks [op,op'] [b,c]=false:=by with_unfolding_all rfl):PT X (.Compare a [op,op'] [b,c] pos) (K4 (Kh r r' ta tb tc)):=by
 intro pins s σ H Q I h
 refine isTrue_chain (thn (ha pins s σ H _ I h) fun v s1 ⟨x,H1,I1,r1,q1⟩=>test_link (thn (hb pins s1 σ H1 _ I1 q1) fun u s2 ⟨y,H2,I2,r2,q2⟩=>
  thn (ho pins s2 σ H2 x y v u _ I2 r1 r2 q2) fun d s3 ⟨z,H3,I3,r3,k,e,q3⟩=>?_)) hm
 subst e
 cases r3
 refine wpAny_truthy_bool ?_
 cases k with
 | false=>
  obtain ⟨k',e',q'⟩:=q3
  cases e'
  exact ite_ff ⟨H3,I3,q'⟩
 | true=>
  refine ite_tt (test_last (thn (hc pins s3 σ H3 _ I3 q3) fun w' s4 ⟨z',H4,I4,r4,q4⟩=>thn (ho' pins s4 σ H4 y z' u w' _ I4 r2 r4 q4) fun d' s5 ⟨z2,H5,I5,r5,k2,e2,q5⟩=>?_))
  subst e2
  cases r5
  exact wpAny_truthy_bool ⟨H5,I5,q5⟩
theorem vN:(sizeLine:Nat)<2 ^ 63:=by rw [sizeLine_eq];decide
theorem kU {x:V}{us:List Value}(r:zG [x] us):∃ u,us=[u]/\zH x u:=by
 cases r with
 | cons r1 r2=>cases r2;exact ⟨_,rfl,r1⟩
theorem Kt {x y:V}{us:List Value}(r:zG [x,y] us):∃ u w',us=[u,w']/\zH x u/\zH y w':=by
 cases r with
 | cons r1 r2=>
  cases r2 with
  | cons r3 r4=>cases r4;exact ⟨_,_,rfl,r1,r3⟩
theorem Qv:jy X (.builtin "abs") (fun xs H Q=>∃ i,xs=[.int i]/\Q (.int (if i<0 then -i else i)) H):=by
 intro pins s σ H xs us Q I r h
 obtain ⟨i,rfl,q⟩:=h
 obtain ⟨u,rfl,t,rfl⟩:=kU r
 exact call_abs_int fun u tk=>⟨.int (if i<0 then -i else i),H,I.tok _,⟨_,rfl⟩,q⟩
theorem wz (hc:X.calm=true):jy X (.builtin "max") (fun xs H Q=>∃ i j,xs=[.int i,.int j]/\Q (.int (if j > i then j else i)) H):=by
 intro pins s σ H xs us Q I r h
 obtain ⟨i,j,rfl,q⟩:=h
 obtain ⟨u,w',rfl,⟨t,rfl⟩,⟨t',rfl⟩⟩:=Kt r
 refine max_two_ints (I.ok.hd hc) fun h' tk k=>⟨_,H,I.kept k,?_,q⟩
 by_cases hj:j > i
 ·rw [if_pos hj,if_pos hj];exact ⟨_,rfl⟩
 ·rw [if_neg hj,if_neg hj];exact ⟨_,rfl⟩
theorem Yq:jy X (.type "int") (fun xs H Q=>(∃ i,xs=[.int i]/\Q (.int i) H) \/ ∃ k,xs=[.bl k]/\Q (.int (if k then 1 else 0)) H):=by
 intro pins s σ H xs us Q I r h
 rcases h with ⟨i,rfl,q⟩ | ⟨k,rfl,q⟩
 ·obtain ⟨u,rfl,t,rfl⟩:=kU r
  exact call_int_int ⟨.int i,H,I,⟨_,rfl⟩,q⟩
 ·obtain ⟨u,rfl,r1⟩:=kU r
  cases r1
  exact call_int_bool ⟨.int (if k then 1 else 0),H,I.tok _,⟨_,rfl⟩,q⟩
theorem QS:jy X (.builtin "divmod") (fun xs H Q=>∃ i j,xs=[.int i,.int j]/\Gf i j/\∀ p,H p=none->Q (.ref p) (upd H p (.tup [.int (i / j),.int (i % j)]))):=by
 intro pins s σ H xs us Q I r h
 obtain ⟨i,j,rfl,⟨h1,h2⟩,q⟩:=h
 obtain ⟨u,w',rfl,⟨t,rfl⟩,⟨t',rfl⟩⟩:=Kt r
 refine divmod_int (by omega) ?_ (.inl (PyProof.noPylong_small (by omega)))
 rw [Int.fdiv_eq_ediv_of_nonneg i (by omega),Int.fmod_eq_emod_of_nonneg i (by omega)]
 have hn:H s.heap.objs.size=none:=I.hok.fresh (Nat.le_refl _)
 refine ⟨.ref s.heap.objs.size,_,?_,rfl,q _ hn⟩
 refine I.laid (fun b o e=>Heap.get?_push_of_some _ e) (Nat.le_refl _) ⟨by simp only [List.length_cons,List.length_nil];rw [sizeLine_eq];decide,[.int (i / j) s.toks,.int (i % j) (s.toks+1)],.cons ⟨_,rfl⟩ (.cons ⟨_,rfl⟩ .nil),?_⟩
 exact ⟨_,Heap.get?_push_size s.heap rfl,rfl,⟨0,rfl⟩,rfl⟩
end
structure JH (h:Heap)(x dx C:Addr)(mA:Str->Option Value):Prop where
 obj:h.get? x=some (PySem.W.instObj C dx)
 ns:h.Ns1 dx mA
 ne:dx ≠ x
theorem w8 {h:Heap}{dx:Addr}{mA:Str->Option Value}(n:h.Ns1 dx mA):∃ od,h.get? dx=some od/\∀ name,PySem.W.lookIn name od=some (mA name):=by
 obtain ⟨o,es,ep,ho,hd,hk,_,hm⟩:=n
 refine ⟨o,ho,fun name=>?_⟩
 have e:=hm name
 unfold nsFind findBy at e
 rw [<- Array.find?_toList] at e
 unfold PySem.W.lookIn
 rw [hd]
 dsimp only
 split
 ·rename_i y q
  rw [q] at e
  exact congrArg some e
 ·rename_i q
  rw [q] at e
  have a:es.toList.any (·.refKey)=false:=by
   rw [List.any_eq_false]
   intro y hy
   obtain ⟨z,t,hkey⟩:=hk y (Array.mem_toList_iff.mp hy)
   simp [DictEntry.refKey,hkey]
  have a':¬ es.toList.any (·.refKey)=true:=by rw [a];exact Bool.false_ne_true
  rw [if_neg a']
  exact congrArg some e
theorem JH.look {h:Heap}{x dx C:Addr}{mA:Str->Option Value}(I:JH h x dx C mA):∃ od,PySem.W.InstAt h x (PySem.W.instObj C dx) C (some od)/\∀ name,PySem.W.lookIn name od=some (mA name):=
 let ⟨od,ho,hl⟩:=w8 I.ns
 ⟨od,⟨I.obj,rfl,rfl,ho⟩,hl⟩
section
variable {prog:Program}{w:World}{A:Around}{E:Value->Shared->Prop}{s:Shared}{K:PySem.W.Frag}{x dx C f:Addr}{mA:Str->Option Value}{name:Str}{v:Value}
theorem Ej {expr:Bool}{Q:Value->Shared->Prop}(X:K.In s.heap)(I:JH s.heap x dx C mA)(hg:PySem.W.plainGet K C name=true)(hh:PySem.W.hasDictIn K C=true)
  (ha:PySem.W.findIn K (.ref C) name=some none) (hv:mA name=some v) (hv':PySem.W.handedIn v=true) (h:Q v { s with toks:=s.toks+1 }) :
  wpAny (model prog w) A (getAttr (.ref x) name expr) Q E s:=by
 obtain ⟨od,J,hl⟩:=I.look
 exact PySem.W.get_value X J (PySem.W.plainGet_of hg).1 (PySem.W.findObj_own hh ha rfl (by rw [hl,hv])) hv' h
theorem Wl {pl:Sem Bool}{Q:Value × List Value->Shared->Prop}(X:K.In s.heap)(I:JH s.heap x dx C mA)(hg:PySem.W.plainGet K C name=true)
  (hf:PySem.W.findIn K (.ref C) name=some (some (.ref f))) (ht:PySem.W.isFn K (.ref f)=true) (hv:mA name=none) (h:Q (.ref f,[.ref x]) s) :
  wpAny (model prog w) A (getMethod (.ref x) name pl) Q E s:=by
 obtain ⟨od,J,hl⟩:=I.look
 exact PySem.W.method_fn X J (PySem.W.plainGet_of hg).1 (PySem.W.plainGet_of hg).2 hf (beq_iff_eq.mp ht) (by show (PySem.W.lookIn name od).map (·.isSome)=some false;rw [hl,hv];rfl) h
theorem Zn {ns:List Str}{Q:Unit->Shared->Prop}(X:K.In s.heap)(I:JH s.heap x dx C mA)
  (hs:PySem.W.findIn K (.ref C) "__setattr__"=some (some (.builtin "object.__setattr__"))) (hp:PySem.W.plainOver K C=true) (ht:PySem.W.takerIn K C name=some none) (hh:PySem.W.hasDictIn K C=true)
  (hw:PySem.Within mA ns) (hsz:ns.length<=sizeLine)
  (h:∀ h',JH h' x dx C (fun y=>if y=name then some v else mA y)->Heap.SameBut dx s.heap h'->Q () { s with heap:=h',toks:=s.toks+2 }) :
  wpAny (model prog w) A (setAttr (.ref x) name v) Q E s:=by
 obtain ⟨od,J,hl⟩:=I.look
 refine PySem.W.set_plain X J hs (PySem.W.osa_open (s:={ s with toks:=s.toks+1 }) (r:=none) X J hp ht fun b=>?_)
 obtain ⟨cd,hc,hd'⟩:=PySem.W.any_some hh
 have hx:s.heap.get? x=some ⟨.ref C,some dx,.plain,#[]⟩:=I.obj
 refine wpAny_bind (wpAny_pure (wpAny_bind (wpAny_bind (wpAny_loadPart hx (wpAny_bind (PySem.W.Looks.here (s:={ s with toks:=s.toks+1 }) (PySem.W.looks_clsIn X hc) ?_))))))
 rw [hd']
 refine wpAny_pure (a:=some dx) (wpAny_bind (wpAny_pure (wpAny_bind ?_)))
 refine wpAny_nsSet1 (s:={ s with toks:=s.toks+1 }) I.ns fun h' hn2 hs2=>?_
 obtain ⟨oD,esD,epD,hoD,hdD,hcD⟩:=hn2.count (PySem.Within.cons name v hw)
 refine wpAny_bind (wpAny_lookBehind hoD (by rw [hdD];exact pastItsLine_dict (Nat.le_trans hcD (by rw [List.length_cons];omega))) ?_)
 exact wpAny_pure (h _ ⟨(hs2.2 _ (Ne.symm I.ne)).trans I.obj,hn2,I.ne⟩ hs2)
theorem Wu {R:Result->Shared->Prop}{vs:List Value}{kw:List (Str × Value)}(X:K.In s.heap)(hm:PySem.W.makesIn K C=true)
  (hi:PySem.W.findIn K (.ref C) "__init__"=some (some (.ref f))) (hf:PySem.W.typeIn K (.ref f)=some (.type "function"))
  (h:codeAny (model prog w) (A.under (.builtin "type.__call__" ⟨.ref C :: vs,kw⟩)) (.call (.ref f) ⟨.ref (s.heap.objs.size+1) :: vs,kw⟩) (PySem.W.InitBack (s.heap.objs.size+1) R)
   { s with heap:=(s.heap.push PySem.W.emptyDict).push (PySem.W.instObj C s.heap.objs.size) }) :
  codeAny (model prog w) A (.call (.ref C) ⟨vs,kw⟩) R s:=by
 obtain ⟨hh,g,d,t,os⟩:=s
 exact PySem.W.make_core (PySem.W.makes_of X hm) (PySem.W.looks_findIn X hi) (fun self=>PySem.W.bind_fn X self hf) (.inl rfl) h
end
noncomputable def jC (f:Str)(v:V):List (Str × V)->List (Str × V)
 | []=>[(f,v)]
 | (g,x) :: r=>if g=f then (g,v) :: r else (g,x) :: jC f v r
theorem kj (f g:Str)(v:V):∀ fs:List (Str × V),(jC f v fs).lookup g=if g=f then some v else fs.lookup g
 | []=>by
  show List.lookup g [(f,v)]=_
  by_cases h:g=f
  ·have hb:(g == f)=true:=beq_iff_eq.mpr h
   simp only [List.lookup,hb,if_pos h]
  ·have hb:(g == f)=false:=beq_eq_false_iff_ne.mpr h
   simp only [List.lookup,hb,if_neg h]
 | (k,x) :: r=>by
  have ih:=kj f g v r
  rw [show jC f v ((k,x) :: r)=(if k=f then (k,v) :: r else (k,x) :: jC f v r) from rfl]
  by_cases hk:k=f
  ·rw [if_pos hk]
   by_cases h:g=k
   ·have hb:(g == k)=true:=beq_iff_eq.mpr h
    simp only [List.lookup,hb,if_pos (h.trans hk)]
   ·have hb:(g == k)=false:=beq_eq_false_iff_ne.mpr h
    simp only [List.lookup,hb,if_neg (fun e:g=f=>h (e.trans hk.symm))]
  ·rw [if_neg hk]
   by_cases h:g=k
   ·have hb:(g == k)=true:=beq_iff_eq.mpr h
    simp only [List.lookup,hb,if_neg (fun e:g=f=>hk (h.symm.trans e))]
   ·have hb:(g == k)=false:=beq_eq_false_iff_ne.mpr h
    simp only [List.lookup,hb]
    exact ih
theorem kB (f:Str)(v:V):∀ fs:List (Str × V),f ∈ (jC f v fs).map (·.1)/\∀ g,g ∈ fs.map (·.1)->g ∈ (jC f v fs).map (·.1)
 | []=>⟨by simp [jC],fun g h=>by simp at h⟩
 | (k,x) :: r=>by
  obtain ⟨i1,i2⟩:=kB f v r
  rw [show jC f v ((k,x) :: r)=(if k=f then (k,v) :: r else (k,x) :: jC f v r) from rfl]
  by_cases hk:k=f
  ·rw [if_pos hk]
   subst hk
   exact ⟨by simp,fun g h=>by simpa using h⟩
  ·rw [if_neg hk]
   refine ⟨?_,fun g h=>?_⟩
   ·rw [List.map_cons]
    exact List.mem_cons_of_mem _ i1
   ·rw [List.map_cons] at h ⊢
    rcases List.mem_cons.mp h with e | e
    ·exact List.mem_cons.mpr (.inl e)
    ·exact List.mem_cons_of_mem _ (i2 g e)
theorem y8 (f:Str)(v:V):∀ fs:List (Str × V),(jC f v fs).length<=fs.length+1
 | []=>by simp [jC]
 | (k,x) :: r=>by
  have ih:=y8 f v r
  rw [show jC f v ((k,x) :: r)=(if k=f then (k,v) :: r else (k,x) :: jC f v r) from rfl]
  by_cases hk:k=f
  ·rw [if_pos hk,List.length_cons,List.length_cons];omega
  ·rw [if_neg hk,List.length_cons,List.length_cons];omega
theorem xR.some_of {v:V}{o:Option Value}(r:xR (some v) o):∃ u,o=some u/\zH v u:=by
 cases o with
 | none=>exact (show False from r).elim
 | some u=>exact ⟨u,rfl,r⟩
theorem xR.none_of {o:Option Value}(r:xR none o):o=none:=by
 cases o with
 | none=>rfl
 | some u=>exact (show False from r).elim
theorem Zi {v:V}{u:Value}(r:zH v u):PySem.W.handedIn u=true:=by
 cases v with
 | non=>cases (show u=Value.none from r);rfl
 | bl b=>cases (show u=Value.bool b from r);rfl
 | int i=>obtain ⟨t,e⟩:=(show ∃ t,u=Value.int i t from r);cases e;rfl
 | str x=>obtain ⟨t,e⟩:=(show ∃ t,u=Value.str x t from r);cases e;rfl
 | byt b=>obtain ⟨t,e⟩:=(show ∃ t,u=Value.bytes b t from r);cases e;rfl
 | flt b=>obtain ⟨t,e⟩:=(show ∃ t,u=Value.float b t from r);cases e;rfl
 | ref a=>cases (show u=Value.ref a from r);rfl
 | ty n=>cases (show u=Value.type n from r);rfl
section
variable {P:Program}{w:World}{H H':Hp}{h h':Heap}{a C dx:Addr}{fs fs':List (Str × V)}
theorem vv (hok:HOk P w H h)(e:H a=some (.ins C dx fs)):∃ mA,JH h a dx C mA/\(∀ f,xR (fs.lookup f) (mA f))/\PySem.Within mA (fs.map (·.1))/\fs.length<=1000/\H dx=some (.own a):=by
 obtain ⟨d,z,ne,ob,mA,n,r,q⟩:=(show zW P w H h a (.ins C dx fs) from hok a _ e)
 exact ⟨mA,⟨ob,n,ne⟩,r,q,z,d⟩
end
structure Cls (K:PySem.W.Frag)(C:Addr):Prop where
 pg:PySem.W.plainGet K C Str.empty=true
 hd:PySem.W.hasDictIn K C=true
 po:PySem.W.plainOver K C=true
 sa:PySem.W.findIn K (.ref C) "__setattr__"=some (some (.builtin "object.__setattr__"))
theorem Cls.get {K:PySem.W.Frag}{C:Addr}(c:Cls K C)(f:Str):PySem.W.plainGet K C f=true:=c.pg
noncomputable def j4 (K:PySem.W.Frag)(C:Addr)(f:Str):Prop:=PySem.W.findIn K (.ref C) f=some none
theorem j4.taker {K:PySem.W.Frag}{C:Addr}{f:Str}(n:j4 K C f):PySem.W.takerIn K C f=some none:=by
 unfold PySem.W.takerIn
 rw [show PySem.W.findIn K (.ref C) f=some none from n]
 rfl
structure Con (K:PySem.W.Frag)(C:Addr)(f:Str)(v:V)(u:Value):Prop where
 at_:PySem.W.findIn K (.ref C) f=some (some u)
 rel:zH v u
 get:PySem.W.specialIn K u "__get__"=some none
 cp:PySem.W.copiedNames.contains f=false
structure JD (K:PySem.W.Frag)(C:Addr)(m:Str)(f:Addr):Prop where
 at_:PySem.W.findIn K (.ref C) m=some (some (.ref f))
 fn:PySem.W.isFn K (.ref f)=true
 kp:PySem.W.keepIn K (.ref f)=true
section
variable {X:Cx}{pins:List (Addr × Obj)}{σ:St}{H:Hp}{s:Shared}{a C dx:Addr}{fs:List (Str × V)}{f:Str}{v:V}{A:Around}{E:Value->Shared->Prop}
theorem Jm {b:Bool}{Q:Value->Shared->Prop}(I:Inv X pins σ H s)(e:H a=some (.ins C dx fs))(c:Cls X.K C)(n:j4 X.K C f)(l:fs.lookup f=some v)
  (h:∀ u s',Inv X pins σ H s'->zH v u->Q u s'):wpAny (model X.prog X.w) A (getAttr (.ref a) f b) Q E s:=by
 obtain ⟨mA,O,r,_,_,_⟩:=vv I.hok e
 obtain ⟨u,hu,ru⟩:=xR.some_of (v:=v) (o:=mA f) (by rw [<- l];exact r f)
 exact Ej I.kIn O (c.get f) c.hd n hu (Zi ru) (h u _ (I.tok _) ru)
theorem kR {m:Str}{g:Addr}{pl:Sem Bool}{Q:Value × List Value->Shared->Prop}(I:Inv X pins σ H s)(e:H a=some (.ins C dx fs))(c:Cls X.K C)(k:JD X.K C m g)(l:fs.lookup m=none)
  (h:Q (.ref g,[.ref a]) s):wpAny (model X.prog X.w) A (getMethod (.ref a) m pl) Q E s:=by
 obtain ⟨mA,O,r,_,_,_⟩:=vv I.hok e
 have hn:mA m=none:=xR.none_of (by rw [<- l];exact r m)
 exact Wl I.kIn O (c.get m) k.at_ k.fn hn h
theorem J8 {y:V}{u:Value}{Q:Unit->Shared->Prop}(I:Inv X pins σ H s)(e:H a=some (.ins C dx fs))(c:Cls X.K C)(n:j4 X.K C f)(hl:fs.length<1000)(ry:zH y u)
  (h:∀ s',Inv X pins σ (upd H a (.ins C dx (jC f y fs))) s'->Q () s'):wpAny (model X.prog X.w) A (setAttr (.ref a) f u) Q E s:=by
 obtain ⟨mA,O,r,wi,_,ho⟩:=vv I.hok e
 have hz:(fs.map (·.1)).length<=sizeLine:=by rw [List.length_map,sizeLine_eq];omega
 refine Zn I.kIn O c.sa c.po n.taker c.hd wi hz fun h' O' sb=>h _ ?_
 have hd:∃ o,h'.get? dx=some o:=let ⟨o,_,_,e',_⟩:=O'.ns;⟨o,e'⟩
 refine I.write (x:=a) (e:=dx) (by rw [e];exact True.intro) (.inr ho) (fun b q hb z=>(sb.2 b hb).trans z) hd ?_
 refine ⟨by rw [zi O.ne];exact ho,?_,O.ne,O'.obj,_,O'.ns,fun g=>?_,fun g hg=>?_⟩
 ·have:=y8 f y fs;omega
 ·show xR ((jC f y fs).lookup g) (if g=f then some u else mA g)
  rw [kj]
  by_cases q:g=f
  ·rw [if_pos q,if_pos q];exact ry
  ·rw [if_neg q,if_neg q];exact r g
 ·by_cases q:g=f
  ·rw [q];exact (kB f y fs).1
  ·refine (kB f y fs).2 g (wi g fun z=>hg ?_)
   show (if g=f then some u else mA g)=none
   rw [if_neg q];exact z
theorem Inv.made (I:Inv X pins σ H s):Inv X pins σ (upd (upd H s.heap.objs.size (.own (s.heap.objs.size+1))) (s.heap.objs.size+1) (.ins C s.heap.objs.size []))
  { s with heap:=(s.heap.push PySem.W.emptyDict).push (PySem.W.instObj C s.heap.objs.size) }:=by
 have e1:(s.heap.push PySem.W.emptyDict).get? s.heap.objs.size=some PySem.W.emptyDict:=Heap.get?_push_size s.heap rfl
 have e2:((s.heap.push PySem.W.emptyDict).push (PySem.W.instObj C s.heap.objs.size)).get? (s.heap.objs.size+1)=some (PySem.W.instObj C s.heap.objs.size):=by
  have:=Heap.get?_push_size (s.heap.push PySem.W.emptyDict) (o:=PySem.W.instObj C s.heap.objs.size) rfl
  rwa [Heap.size_push] at this
 have e3:(s.heap.push PySem.W.emptyDict).Ns s.heap.objs.size (fun _=>none):=⟨PySem.W.emptyDict,#[],_,e1,rfl,(fun e he=>absurd he (by simp)),fun _=>rfl⟩
 have I1:=I.laid (a:=s.heap.objs.size) (o:=.own (s.heap.objs.size+1)) (h':=s.heap.push PySem.W.emptyDict) (t':=s.toks) (fun b u q=>Heap.get?_push_of_some _ q) (Nat.le_refl _) ⟨_,e1⟩
 refine I1.laid (a:=s.heap.objs.size+1) (o:=.ins C s.heap.objs.size []) (t':=s.toks) (fun b u q=>Heap.get?_push_of_some _ q) (Nat.le_of_eq (Heap.size_push _ _)) ?_
 have ne:s.heap.objs.size ≠ s.heap.objs.size+1:=Nat.ne_of_lt (Nat.lt_succ_self _)
 refine ⟨by rw [zi ne,zk],Nat.zero_le _,ne,e2,fun _=>none,(Heap.Ns1.of_empty e3).at fun o q=>Heap.get?_push_of_some _ q,fun _=>True.intro,fun y hy=>absurd rfl hy⟩
theorem K6 {prog:Program}{w:World}{env:Env}{e:Expr}{f:Str}{pos:Pos}{s:Shared}{Q:Value->Shared->Prop}(hb:attributeBase e f env (eval e env)=eval e env)
  (h:wpAny (model prog w) A (eval e env) (fun o s₁=>wpAny (model prog w) A (getAttr o f true) Q E s₁) E s):wpAny (model prog w) A (eval (.Attribute e f pos) env) Q E s:=
 Attribute_any_ h (by rw [arm_eval_Attribute,hb])
end
noncomputable def FY (K:PySem.W.Frag)(ta:TE)(f:Str):TE:=fun σ H Q=>ta σ H fun x H1=>∃ a C dx fs v,x=.ref a/\H1 a=some (.ins C dx fs)/\Cls K C/\j4 K C f/\fs.lookup f=some v/\Q v H1
noncomputable def ET (K:PySem.W.Frag)(ta tv:TE)(f:Str):TS:=fun D σ H=>tv σ H fun y H1=>ta σ H1 fun x H2=>∃ a C dx fs,x=.ref a/\H2 a=some (.ins C dx fs)/\Cls K C/\j4 K C f/\fs.length<1000 /\
 D.nx σ (upd H2 a (.ins C dx (jC f y fs)))
section
variable {X:Cx}{o e value:Expr}{f:Str}{pos pos' tpos:Pos}{ta tv:TE}
theorem qk (he:PE X e ta)(hb:attributeBase e f X.env (eval e X.env)=eval e X.env):PE X (.Attribute e f pos) (FY X.K ta f):=by
 intro pins s σ H Q I h
 refine K6 hb (thn (he pins s σ H _ I h) fun u s1 ⟨x,H1,I1,rx,a,C,dx,fs,v,ex,ea,c,n,l,q⟩=>?_)
 subst ex
 obtain rfl:u=Value.ref a:=rx
 exact Jm I1 ea c n l fun u' s2 I2 ru=>⟨v,H1,I2,ru,q⟩
theorem vZ (ha:PE X o ta)(hv:PE X value tv)(hs:swapsWith value (some (.Attribute o f pos')) pos.line X.env=pure false):PS X (.Assign [.Attribute o f pos'] value pos) (ET X.K ta tv f):=by
 intro pins s σ H D I h
 refine plainObj_wpAny_Assign_Attribute (thn (hv pins s σ H _ I h) fun u s1 ⟨y,H1,I1,ry,q⟩=>thn (ha pins s1 σ H1 _ I1 q) fun ov s2 ⟨x,H2,I2,rx,a,C,dx,fs,ex,ea,c,n,l,q2⟩=>?_) hs
 subst ex
 obtain rfl:ov=Value.ref a:=rx
 exact J8 I2 ea c n l ry fun s3 I3=>⟨σ,_,I3,q2⟩
theorem Fj {pl:Sem Bool}{m:Str}{apos:Pos}{args:List Expr}{pins:List (Addr × Obj)}{s:Shared}{σ:St}{H:Hp}{Q:Value->Shared->Prop}{te:TE}(he:PE X e te)(I:Inv X pins σ H s)
  (h:te σ H fun x H1=>∃ a C dx fs g,x=.ref a/\H1 a=some (.ins C dx fs)/\Cls X.K C/\JD X.K C m g/\fs.lookup m=none /\
   ∀ s1,Inv X pins σ H1 s1->wpAny (model X.prog X.w) X.A (callWith pos (.ref g) [.ref a] (backTo pos (starEach args X.env)) (backToKw pos (keywordEach [] X.env))) Q X.xe s1)
  (ht:eval (.Call (.Attribute e m apos) args [] pos) X.env=(do
   let ov <- eval e X.env
   standAt apos.atName
   let (f,first) <- holding [ov] (getMethod ov m pl)
   callWith pos f first (backTo pos (starEach args X.env)) (backToKw pos (keywordEach [] X.env)))) :
  wpAny (model X.prog X.w) X.A (eval (.Call (.Attribute e m apos) args [] pos) X.env) Q X.xe s:=by
 refine PySem.W.methodCall_KW (pl:=pl) (thn (he pins s σ H _ I h) fun u s1 ⟨x,H1,I1,rx,a,C,dx,fs,g,ex,ea,c,k,l,q⟩=>?_) ht
 subst ex
 obtain rfl:u=Value.ref a:=rx
 exact kR I1 ea c k l (q s1 I1)
end
section
variable {X:Cx}{pins:List (Addr × Obj)}{σ:St}{H:Hp}{s:Shared}{A:Around}{E:Value->Shared->Prop}{Q:Value->Shared->Prop}{c:Value}{b:Bool}
inductive kY (K:PySem.W.Frag) (H:Hp):V->Value->Prop where
  | non:kY K H .non (.type "NoneType")
  | bl (x:Bool):kY K H (.bl x) (.type "bool")
  | int (i:Int):kY K H (.int i) (.type "int")
  | str (x:Str):kY K H (.str x) (.type "str")
  | flt (x:UInt64):kY K H (.flt x) (.type "float")
  | lst {a:Addr} {xs:List V} (e:H a=some (.lst xs)):kY K H (.ref a) (.type "list")
  | frz {a:Addr} {o:Obj} {xs:List V} (e:H a=some (.frz o (.lst xs))):kY K H (.ref a) (.type "list")
  | tup {a:Addr} {xs:List V} (e:H a=some (.tup xs)):kY K H (.ref a) (.type "tuple")
  | dK {a:Addr} {kvs:List (Key × V)} (e:H a=some (.dK kvs)):kY K H (.ref a) (.type "dict")
  | dT {a:Addr} {kvs:List (List Key × V)} (e:H a=some (.dT kvs)):kY K H (.ref a) (.type "dict")
  | ins {a C dx : Addr} {fs : List (Str × V)} (e : H a = some (.ins C dx fs)) (cl : Cls K C) (ha : PySem.W.findIn K (.ref C) "__class__" = some (some (.builtin "object.__class__")))
      (hn:PySem.W.specialIn K (.builtin "object.__class__") "__get__"=some (some (.builtin "getset_descriptor.__get__"))) (htk:PySem.W.takesIn K (.builtin "object.__class__")=some true)
      (hm:PySem.W.mroIn K C (.type "object")=some true):kY K H (.ref a) (.ref C)
theorem XT {x:V}{u t:Value}(I:Inv X pins σ H s)(rx:zH x u)(ty:kY X.K H x t)(e:PySem.W.kitOne X.K t c=some b)(h:∀ tk,Q (.bool b) { s with toks:=tk }) :
  wpAny (model X.prog X.w) A (call (.builtin "isinstance") [u,c]) Q E s:=by
 cases ty with
 | non=>cases (show u=Value.none from rx);exact PySem.W.kia_one PySem.W.kitx_none I.kIn True.intro e (fun z=>nomatch z) h
 | bl y=>cases (show u=Value.bool y from rx);exact PySem.W.kia_one PySem.W.kitx_bool I.kIn True.intro e (fun z=>nomatch z) h
 | int i=>obtain ⟨t,q⟩:=(show ∃ t,u=Value.int i t from rx);cases q;exact PySem.W.kia_one PySem.W.kitx_int I.kIn True.intro e (fun z=>nomatch z) h
 | str y=>obtain ⟨t,q⟩:=(show ∃ t,u=Value.str y t from rx);cases q;exact PySem.W.kia_one PySem.W.kitx_str I.kIn True.intro e (fun z=>nomatch z) h
 | flt y=>obtain ⟨t,q⟩:=(show ∃ t,u=Value.float y t from rx);cases q;exact PySem.W.kia_one PySem.W.kitx_float I.kIn True.intro e (fun z=>nomatch z) h
 | @lst a xs ea=>
  cases (show u=Value.ref a from rx)
  obtain ⟨_,_,n,_,h1⟩:=(show zW X.prog X.w H s.heap a (.lst xs) from I.hok a _ ea)
  exact PySem.W.kia_one PySem.W.kitx_list I.kIn ⟨_,h1,rfl⟩ e (fun z=>nomatch z) h
 | @frz a ob xs ea=>
  cases (show u=Value.ref a from rx)
  obtain ⟨_,_,_,n,_,h1⟩:=(show zW X.prog X.w H s.heap a (.frz ob (.lst xs)) from I.hok a _ ea)
  exact PySem.W.kia_one PySem.W.kitx_list I.kIn ⟨_,h1,rfl⟩ e (fun z=>nomatch z) h
 | @tup a xs ea=>
  cases (show u=Value.ref a from rx)
  obtain ⟨_,_,_,p⟩:=(show zW X.prog X.w H s.heap a (.tup xs) from I.hok a _ ea)
  obtain ⟨o,h1,h2,_⟩:=p
  exact PySem.W.kia_one PySem.W.kitx_tuple I.kIn ⟨o,h1,h2⟩ e (fun z=>nomatch z) h
 | @dK a kvs ea=>
  cases (show u=Value.ref a from rx)
  obtain ⟨_,_,vs,_,p⟩:=(show zW X.prog X.w H s.heap a (.dK kvs) from I.hok a _ ea)
  obtain ⟨o,es,ep,h1,h2,_⟩:=p
  exact PySem.W.kia_one PySem.W.kitx_dict I.kIn ⟨o,h1,h2.1⟩ e (fun z=>nomatch z) h
 | @dT a kvs ea=>
  cases (show u=Value.ref a from rx)
  obtain ⟨_,_,xs,_,o,es,ep,h1,h2,_⟩:=(show zW X.prog X.w H s.heap a (.dT kvs) from I.hok a _ ea)
  exact PySem.W.kia_one PySem.W.kitx_dict I.kIn ⟨o,h1,h2.1⟩ e (fun z=>nomatch z) h
 | @ins a C dx fs ea cl ha hn htk hm=>
  cases (show u=Value.ref a from rx)
  obtain ⟨mA,O,_⟩:=vv I.hok ea
  obtain ⟨od,J,_⟩:=O.look
  exact PySem.W.kia_one (PySem.W.kitx_own (cl.get _) cl.hd ha hn htk hm) I.kIn J e (fun z=>nomatch z) h
end
structure ql (k:Nat)(A:Around):Prop where
 hd:A.handled=none
 gd:A.guards=some []
 dp:A.depth+3 * k+5<recursionLimit
 un:A.units+16 * k+200<cLine
theorem ql.mono {j k:Nat}{A:Around}(r:ql k A)(h:j<=k):ql j A:=⟨r.hd,r.gd,by have:=r.dp;omega,by have:=r.un;omega⟩
theorem ql.deeper {k:Nat}{A:Around}(r:ql (k+1) A)(env:Env):ql k (A.deeper env):=
 ⟨r.hd,r.gd,by have:=r.dp;show A.depth+1+3 * k+5<_;omega,by have:=r.un;show A.units+3+16 * k+200<_;omega⟩
theorem we {A:Around}{C:Addr}{us:List Value}{kw:List (Str × Value)}:(A.under (.builtin "type.__call__" ⟨.ref C :: us,kw⟩)).depth=A.depth+1:=by
 first | rfl | simp [Around.under,Code.weight,Code.isCreation,Code.isGuard,Code.isCaller,Code.frames,Code.isFrame,guardIds]
theorem v0 {A:Around}{C:Addr}{us:List Value}{kw:List (Str × Value)}:(A.under (.builtin "type.__call__" ⟨.ref C :: us,kw⟩)).units=A.units+1:=by
 first | rfl | simp [Around.under,Code.cUnits,Code.frames,Code.isFrame]
theorem yW {A:Around}{C:Addr}{us:List Value}{kw:List (Str × Value)}:(A.under (.builtin "type.__call__" ⟨.ref C :: us,kw⟩)).guards=A.guards:=by
 first | rfl | (simp [Around.under,Code.guards,pushGuards,Code.isGuard,guardIds])
theorem ql.make {k:Nat}{A:Around}(r:ql (k+1) A)(C:Addr)(us:List Value)(kw:List (Str × Value)):ql k (A.under (.builtin "type.__call__" ⟨.ref C :: us,kw⟩)):=
 ⟨r.hd,(yW).trans r.gd,by have:=r.dp;rw [we];omega,by have:=r.un;rw [v0];omega⟩
theorem ql.depth {k:Nat}{A:Around}(r:ql k A):A.depth<recursionLimit:=by have:=r.dp;omega
theorem ql.units {k:Nat}{A:Around}(r:ql k A):A.units+64<cLine:=by have:=r.un;omega
noncomputable def Yy:TA:=fun _ H Q=>Q [] H
noncomputable def QE (ta:TE)(tr:TA):TA:=fun σ H Q=>ta σ H fun x H1=>tr σ H1 fun xs H2=>Q (x :: xs) H2
section
variable {X:Cx}{e:Expr}{es:List Expr}{te:TE}{t:TA}{pos:Pos}
theorem zb:PA X [] Yy:=fun _ _ _ _ H Q I h=>Calls.spliced_nil ⟨[],H,I,.nil,h⟩
theorem za (ha:PE X e te)(hr:PA X es t)(hs:starEach (e :: es) X.env=(false,eval e X.env) :: starEach es X.env:=by rfl):PA X (e :: es) (QE te t):=by
 intro pos pins s σ H Q I h
 rw [hs]
 show wpAny _ _ (spliced ((false,eval e X.env) :: backTo pos (starEach es X.env))) _ _ s
 refine Calls.spliced_cons (thn (ha pins s σ H _ I h) fun u s1 ⟨x,H1,I1,r1,q1⟩=>?_)
 exact thn (hr pos pins s1 σ H1 _ I1 q1) fun us s2 ⟨xs,H2,I2,r2,q2⟩=>⟨x :: xs,H2,I2,.cons r1 r2,q2⟩
noncomputable def Vd (t:TA):TE:=fun σ H Q=>t σ H fun xs H1=>xs.length<=sizeLine/\∀ p,H1 p=none->Q (.ref p) (upd H1 p (.tup xs))
noncomputable def F0 (t:TA):TE:=fun σ H Q=>t σ H fun xs H1=>xs.length<=sizeLine/\∀ p,H1 p=none->Q (.ref p) (upd H1 p (.lst xs))
theorem zy {x1}(h:PA X es t):PE X (.Tuple es x1 pos) (Vd t):=by
 intro pins s σ H Q I hq
 refine wpAny_Tuple_spliced (thn (h pos pins s σ H _ I hq) fun us s1 ⟨xs,H1,I1,r,z,q⟩=>⟨by rw [<- r.length];exact z,?_⟩)
 have hf:H1 s1.heap.objs.size=none:=I1.hok.fresh (Nat.le_refl _)
 refine ⟨.ref s1.heap.objs.size,upd H1 s1.heap.objs.size (.tup xs),I1.laid (t':=s1.toks) (fun b u e=>Heap.get?_push_of_some _ e) (Nat.le_refl _) ?_,rfl,q _ hf⟩
 exact ⟨z,us,r,⟨_,Heap.get?_push_size _ rfl,rfl,⟨_,rfl⟩,rfl⟩⟩
theorem zL (h:PA X es t):PE X (.List es pos) (F0 t):=by
 intro pins s σ H Q I hq
 refine wpAny_List_spliced (thn (h pos pins s σ H _ I hq) fun us s1 ⟨xs,H1,I1,r,z,q⟩=>⟨by rw [<- r.length];exact z,?_⟩)
 have hf:H1 s1.heap.objs.size=none:=I1.hok.fresh (Nat.le_refl _)
 refine ⟨.ref s1.heap.objs.size,upd H1 s1.heap.objs.size (.lst xs),I1.laid (t':=s1.toks) (fun b u e=>Heap.get?_push_of_some _ e) (Nat.le_refl _) ?_,rfl,q _ hf⟩
 exact ⟨z,us,0,r,Heap.get?_push_size _ rfl⟩
end
noncomputable abbrev Sp:=List V->Hp->VK->XK->Prop
noncomputable abbrev CXT:=List Env->Hp->Shared->XK->Value->Shared->Prop
structure ZZ (P:Program)(w:World)(K:PySem.W.Frag)(mg:Str->Option Value)(base:Heap)(A:Around)(outer:List Env)(s:Shared)(H:Hp):Prop where
 frames:A.frames=some outer
 mod:Mod K mg base
 bs:∀ b o,base.get? b=some o->s.heap.get? b=some o/\H b=none
 bsz:base.objs.size<=s.heap.objs.size
 funs:s.heap.FunFrames base outer
 frf:∀ b ∈ frs outer,H b=none
 hok:HOk P w H s.heap
 bare:AllBare s.gens
noncomputable def CE (outer:List Env)(P:Program)(w:World)(H:Hp)(s:Shared)(Q:VK)(u:Value)(s':Shared):Prop:=
 ∃ v H',s'.os=s.os/\AllBare s'.gens/\Un (frs outer) [] H H' s.heap s'.heap/\HOk P w H' s'.heap/\zH v u/\Q v H'
noncomputable def CR (CX:CXT)(outer:List Env)(P:Program)(w:World)(H:Hp)(s:Shared)(Q:VK)(E:XK)(r:Result)(s':Shared):Prop:=
 match r with
 | .ok (.ret u)=>CE outer P w H s Q u s'
 | .ok _=>False
 | .error e=>CX outer H s E e s'
structure jx (P:Program)(w:World)(K:PySem.W.Frag)(mg:Str->Option Value)(base:Heap)(CX:CXT)(k:Nat)(f:Addr)(fd:FuncData)(ps:List Str)(sp:Sp):Prop where
 len:∀ vs H Q E,sp vs H Q E->vs.length=ps.length
 run:∀ (A:Around) (outer:List Env) (s:Shared) (H:Hp) (args:Args) (us:List Value) (vs:List V) (Q:VK) (E:XK),ql k A->ZZ P w K mg base A outer s H->BindsTo s fd args (ps.zip us)->zG vs us->sp vs H Q E ->
  codeAny (model P w) A (.call (.ref f) args) (CR CX outer P w H s Q E) s
theorem jx.mono {P:Program}{w:World}{K:PySem.W.Frag}{mg:Str->Option Value}{base:Heap}{CX:CXT}{j k:Nat}{f:Addr}{fd:FuncData}{ps:List Str}{sp:Sp}(F:jx P w K mg base CX j f fd ps sp)(h:j<=k) :
  jx P w K mg base CX k f fd ps sp:=⟨F.len,fun A outer s H args us vs Q E hr=>F.run A outer s H args us vs Q E (hr.mono h)⟩
theorem jx.imp {P:Program}{w:World}{K:PySem.W.Frag}{mg:Str->Option Value}{base:Heap}{CX:CXT}{k:Nat}{f:Addr}{fd:FuncData}{ps:List Str}{sp sp':Sp}(F:jx P w K mg base CX k f fd ps sp)
  (h:∀ vs H Q E,sp' vs H Q E->sp vs H Q E):jx P w K mg base CX k f fd ps sp':=
 ⟨fun vs H Q E q=>F.len vs H Q E (h _ _ _ _ q),fun A outer s H args us vs Q E hr he hb hv hs=>F.run A outer s H args us vs Q E hr he hb hv (h _ _ _ _ hs)⟩
theorem ZZ.make {P:Program}{w:World}{K:PySem.W.Frag}{mg:Str->Option Value}{base:Heap}{A:Around}{outer:List Env}{s:Shared}{H:Hp}(e:ZZ P w K mg base A outer s H)(C:Addr)(us:List Value)(kw:List (Str × Value)) :
  ZZ P w K mg base (A.under (.builtin "type.__call__" ⟨.ref C :: us,kw⟩)) outer s H:=⟨by first | exact e.frames | (simpa [Around.under,Code.envs,Code.isFrame,pushEnvs] using e.frames),e.mod,e.bs,e.bsz,e.funs,e.frf,e.hok,e.bare⟩
section
variable {X:Cx}{pins:List (Addr × Obj)}{σ:St}{H:Hp}{s s':Shared}
theorem Inv.env0 (I:Inv X pins σ H s):ZZ X.prog X.w X.K X.mg X.base X.A X.stack s H:=
 ⟨I.ok.frames,I.ok.mod,I.bs,Nat.le_trans I.ok.bsz I.sz,I.stack,I.stkFree,I.hok,I.bare⟩
theorem Inv.after {Q:VK}{u:Value}(I:Inv X pins σ H s)(h:CE X.stack X.prog X.w H s Q u s'):EP X pins σ Q u s':=by
 obtain ⟨v,H',os,bare,un,hok,r,q⟩:=h
 obtain ⟨hh,g,d,t,os'⟩:=s'
 obtain rfl:os'=s.os:=os
 exact ⟨v,H',I.call (h':=hh) (g':=g) (d':=d) (t':=t) (ch:=[]) un hok bare (fun b z=>absurd z (by simp)),r,q⟩
end
noncomputable def QO (sp:Sp)(dvs:List V)(E:XK)(t:TA):TE:=fun σ H Q=>t σ H fun vs H1=>sp (vs ++ dvs) H1 Q E
noncomputable def Zc (C:Addr)(m:Str)(sp:Sp)(dvs:List V)(E:XK)(ta:TE)(t:TA):TE:=fun σ H Q=>ta σ H fun x H1=>∃ a dx fs,x=.ref a/\H1 a=some (.ins C dx fs)/\fs.lookup m=none /\
 t σ H1 fun vs H2=>sp (x :: (vs ++ dvs)) H2 Q E
noncomputable def KA (C:Addr)(sp:Sp)(dvs:List V)(E:XK)(t:TA):TE:=fun σ H Q=>t σ H fun vs H1=>∀ x dx,H1 x=none->H1 dx=none->dx ≠ x ->
 sp (.ref x :: (vs ++ dvs)) (upd (upd H1 dx (.own x)) x (.ins C dx [])) (fun v H2=>v=.non/\Q (.ref x) H2) E
noncomputable def jB (K:PySem.W.Frag)(fd:FuncData)(ps:List Str)(ds:List Value):Prop:=
 ∀ (s:Shared) (us:List Value),K.In s.heap->(us ++ ds).length=ps.length->BindsTo s fd ⟨us,[]⟩ (ps.zip (us ++ ds))
theorem jB.all {K:PySem.W.Frag}{fd:FuncData}{ps:List Str}(h:∀ us:List Value,us.length=ps.length->bindArgs fd ⟨us,[]⟩=pure (ps.zip us)):jB K fd ps []:=fun s us _ hl=>by
 rw [List.append_nil] at hl ⊢
 exact .of_eq (h us hl)
noncomputable def xh (CX:CXT)(X:Cx)(E:XK):Prop:=∀ (pins:List (Addr × Obj)) (σ:St) (H:Hp) (s:Shared) (e:Value) (s':Shared),Inv X pins σ H s->CX X.stack H s E e s'->X.xe e s'
section
variable {X:Cx}{CX:CXT}{k:Nat}{f C:Addr}{fd:FuncData}{ps:List Str}{sp:Sp}{dvs:List V}{ds:List Value}{E:XK}{x m:Str}{p pos apos:Pos}{e o:Expr}{es:List Expr}{ta:TE}{t:TA}
theorem Jp {pins:List (Addr × Obj)}{σ:St}{H:Hp}{s:Shared}{Q:VK}{us:List Value}{vs:List V}(F:jx X.prog X.w X.K X.mg X.base CX k f fd ps sp)(hr:ql k X.A)(hb:jB X.K fd ps ds)(hd:zG dvs ds)(hx:xh CX X E)
  (I:Inv X pins σ H s) (r:zG vs us) (h:sp (vs ++ dvs) H Q E):wpAny (model X.prog X.w) X.A (call (.ref f) us) (EP X pins σ Q) X.xe s:=by
 have r2:zG (vs ++ dvs) (us ++ ds):=r.append hd
 have hl:(us ++ ds).length=ps.length:=by rw [<- r2.length];exact F.len _ _ _ _ h
 refine wpAny_call (codeAny_mono (F.run X.A X.stack s H ⟨us,[]⟩ (us ++ ds) (vs ++ dvs) Q E hr I.env0 (hb s us I.kIn hl) r2 h) fun r s' hq=>?_)
 cases r with
 | error e=>exact hx pins σ H s e s' I hq
 | ok fl=>
  cases fl with
  | ret u=>exact I.after hq
  | next=>exact False.elim hq
  | brk=>exact False.elim hq
  | cont=>exact False.elim hq
theorem EK (F:jx X.prog X.w X.K X.mg X.base CX k f fd ps sp)(hr:ql k X.A)(hg:Gl X x)(hm:X.mg x=some (.ref f))(hk:PySem.W.keepIn X.K (.ref f)=true)(hb:jB X.K fd ps ds)(hd:zG dvs ds)(hx:xh CX X E)
  (ha:PA X (e :: es) t) (hdb:(x == ("__debug__":Str))=false:=by decide) (he:starEach (e :: es) X.env=(false,eval e X.env) :: starEach es X.env:=by rfl) (hpl:(backTo pos (starEach es X.env)).any (·.1)=false:=by rfl) :
  PE X (.Call (.Name x p) (e :: es) [] pos) (QO sp dvs E t):=by
 intro pins s σ H Q I h
 refine wpAny_Call_Name_kw (ki I hg hm ?_ hdb)
 refine PySem.W.callWith_K (h₀:=X.base) I.ok.mod.kin hk (thn (ha pos pins s σ H _ I h) fun us s1 ⟨vs,H1,I1,r,q⟩=>⟨I1.kIn,?_⟩) he hpl
 exact Jp F hr hb hd hx I1 r q
theorem B7 {pl:Sem Bool}(he:PE X o ta)(c:Cls X.K C)(hm:JD X.K C m f)(F:jx X.prog X.w X.K X.mg X.base CX k f fd ps sp)(hr:ql k X.A)(hb:jB X.K fd ps ds)(hd:zG dvs ds)(hx:xh CX X E)(ha:PA X (e :: es) t)
  (hst:starEach (e :: es) X.env=(false,eval e X.env) :: starEach es X.env:=by rfl) (hpl:(backTo pos (starEach es X.env)).any (·.1)=false:=by rfl)
  (ht:eval (.Call (.Attribute o m apos) (e :: es) [] pos) X.env=(do
   let ov <- eval o X.env
   standAt apos.atName
   let (f,first) <- holding [ov] (getMethod ov m pl)
   callWith pos f first (backTo pos (starEach (e :: es) X.env)) (backToKw pos (keywordEach [] X.env))):=by rfl) :
  PE X (.Call (.Attribute o m apos) (e :: es) [] pos) (Zc C m sp dvs E ta t):=by
 intro pins s σ H Q I h
 refine PySem.W.methodCall_KW (pl:=pl) (thn (he pins s σ H _ I h) fun u s1 ⟨x,H1,I1,rx,a,dx,fs,ex,ea,l,q⟩=>?_) ht
 subst ex
 obtain rfl:u=Value.ref a:=rx
 refine kR I1 ea c hm l ?_
 refine PySem.W.callWith_K (first:=[.ref a]) (h₀:=X.base) I.ok.mod.kin hm.kp (thn (ha pos pins s1 σ H1 _ I1 q) fun us s2 ⟨vs,H2,I2,r,q2⟩=>⟨I2.kIn,?_⟩) hst hpl
 exact Jp (us:=.ref a :: us) (vs:=.ref a :: vs) F hr hb hd hx I2 (.cons rfl r) q2
theorem An {pl:Sem Bool}(he:PE X o ta)(c:Cls X.K C)(hm:JD X.K C m f)(F:jx X.prog X.w X.K X.mg X.base CX k f fd ps sp)(hr:ql k X.A)(hb:jB X.K fd ps ds)(hd:zG dvs ds)(hx:xh CX X E)
  (ht:eval (.Call (.Attribute o m apos) [] [] pos) X.env=(do
   let ov <- eval o X.env
   standAt apos.atName
   let (f,first) <- holding [ov] (getMethod ov m pl)
   callWith pos f first (backTo pos (starEach [] X.env)) (backToKw pos (keywordEach [] X.env))):=by rfl) :
  PE X (.Call (.Attribute o m apos) [] [] pos) (Zc C m sp dvs E ta Yy):=by
 intro pins s σ H Q I h
 refine PySem.W.methodCall_KW (pl:=pl) (thn (he pins s σ H _ I h) fun u s1 ⟨x,H1,I1,rx,a,dx,fs,ex,ea,l,q⟩=>?_) ht
 subst ex
 obtain rfl:u=Value.ref a:=rx
 refine kR I1 ea c hm l ?_
 exact PySem.W.callWith_K0 (first:=[.ref a]) I1.kIn hm.kp (Jp (us:=[.ref a]) (vs:=[.ref a]) F hr hb hd hx I1 (.cons rfl .nil) q)
structure Mk (K:PySem.W.Frag)(C f:Addr):Prop where
 makes:PySem.W.makesIn K C=true
 init:PySem.W.findIn K (.ref C) "__init__"=some (some (.ref f))
 fn:PySem.W.isFn K (.ref f)=true
 kp:PySem.W.keepIn K (.ref C)=true
theorem Ay {pins:List (Addr × Obj)}{σ:St}{H:Hp}{s:Shared}{Q:VK}{us:List Value}{vs:List V}(M:Mk X.K C f)(F:jx X.prog X.w X.K X.mg X.base CX k f fd ps sp)(hr:ql (k+1) X.A)(hb:jB X.K fd ps ds)(hd:zG dvs ds)
  (hx:xh CX X E) (I:Inv X pins σ H s) (r:zG vs us)
  (h:∀ x dx,H x=none->H dx=none->dx ≠ x->sp (.ref x :: (vs ++ dvs)) (upd (upd H dx (.own x)) x (.ins C dx [])) (fun v H2=>v=.non/\Q (.ref x) H2) E) :
  wpAny (model X.prog X.w) X.A (call (.ref C) us) (EP X pins σ Q) X.xe s:=by
 have hq:=h (s.heap.objs.size+1) s.heap.objs.size (I.hok.fresh (Nat.le_succ _)) (I.hok.fresh (Nat.le_refl _)) (Nat.ne_of_lt (Nat.lt_succ_self _))
 have I2:=Inv.made (C:=C) I
 have r2:zG (V.ref (s.heap.objs.size+1) :: (vs ++ dvs)) (Value.ref (s.heap.objs.size+1) :: (us ++ ds)):=.cons rfl (r.append hd)
 have hl:(Value.ref (s.heap.objs.size+1) :: us ++ ds).length=ps.length:=by
  have e:=r2.length
  rw [F.len _ _ _ _ hq] at e
  exact e.symm
 refine wpAny_call (Wu (f:=f) I.kIn M.makes M.init (beq_iff_eq.mp M.fn) (codeAny_mono (F.run _ X.stack _ _ ⟨Value.ref (s.heap.objs.size+1) :: us,[]⟩ (Value.ref (s.heap.objs.size+1) :: (us ++ ds)) _ _ E (hr.make C us [])
  (I2.env0.make C us []) (hb _ (Value.ref (s.heap.objs.size+1) :: us) I2.kIn hl) r2 hq) fun r s' hq'=>?_))
 cases r with
 | error e=>exact hx pins σ _ _ e s' I2 hq'
 | ok fl=>
  cases fl with
  | ret u=>
   obtain ⟨v,H',I3,rv,ev,q3⟩:=I2.after hq'
   subst ev
   exact ⟨rv,⟨V.ref (s.heap.objs.size+1),H',I3,rfl,q3⟩⟩
  | next=>exact False.elim hq'
  | brk=>exact False.elim hq'
  | cont=>exact False.elim hq'
theorem Em (M:Mk X.K C f)(F:jx X.prog X.w X.K X.mg X.base CX k f fd ps sp)(hr:ql (k+1) X.A)(hg:Gl X x)(hm:X.mg x=some (.ref C))(hb:jB X.K fd ps ds)(hd:zG dvs ds)(hx:xh CX X E)
  (ha:PA X (e :: es) t) (hdb:(x == ("__debug__":Str))=false:=by decide) (he:starEach (e :: es) X.env=(false,eval e X.env) :: starEach es X.env:=by rfl) (hpl:(backTo pos (starEach es X.env)).any (·.1)=false:=by rfl) :
  PE X (.Call (.Name x p) (e :: es) [] pos) (KA C sp dvs E t):=by
 intro pins s σ H Q I h
 refine wpAny_Call_Name_kw (ki I hg hm ?_ hdb)
 refine PySem.W.callWith_K (h₀:=X.base) I.ok.mod.kin M.kp (thn (ha pos pins s σ H _ I h) fun us s1 ⟨vs,H1,I1,r,q⟩=>⟨I1.kIn,?_⟩) he hpl
 exact Ay M F hr hb hd hx I1 r q
end
section
variable {X:Cx}{CX:CXT}{k:Nat}{f C:Addr}{fd:FuncData}{ps ks:List Str}{sp:Sp}{E:XK}{x m:Str}{p pos apos kpos:Pos}{e o:Expr}{es:List Expr}{kws:List Keyword}{te ta:TE}{t tk:TA}{nm:Option Str}
structure Ls (K:PySem.W.Frag)(fd:FuncData)(ps ks:List Str)(g:List Value->List Value->List Value)(gV:List V->List V->List V):Prop where
 to:∀ (s:Shared) (us ws:List Value),K.In s.heap->(g us ws).length=ps.length->BindsTo s fd ⟨us,ks.zip ws⟩ (ps.zip (g us ws))
 rel:∀ {vs:List V} {us:List Value} {zs:List V} {ws:List Value},zG vs us->zG zs ws->zG (gV vs zs) (g us ws)
variable {g:List Value->List Value->List Value}{gV:List V->List V->List V}
end
structure zt (N P:List Str)(sc:Scope):Prop where
 kind:sc.kind=.function
 co:sc.isCoroutine=false
 gen:sc.isGenerator=false
 nd:N.Nodup
 pre:N.take P.length=P
 par:∀ x ∈ P,sc.names.lookup x=some .local \/ sc.names.lookup x=some .cell
 nofree:∀ y ∈ sc.names,y.2 ≠ .free
theorem wA {kindOf:Str->Option NameKind}{x:Str}:∀ {binds:List (Str × Value)} {m:Str->Option Value},(∀ v,(x,v) ∉ binds)->bindL kindOf binds m x=m x
 | [],_,_=>rfl
 | (n,v) :: r,m,h=>by
  unfold bindL
  rw [wA fun w hw=>h w (List.mem_cons_of_mem _ hw)]
  split
  ·have:x ≠ n:=by rintro rfl;exact h v List.mem_cons_self
   simp [this]
  ·rfl
theorem wC {kindOf:Str->Option NameKind}{x:Str}:∀ {binds:List (Str × Value)} {m:Str->Option Value},(∀ v,(x,v) ∉ binds)->bindC kindOf binds m x=m x
 | [],_,_=>rfl
 | (n,v) :: r,m,h=>by
  unfold bindC
  rw [wC fun w hw=>h w (List.mem_cons_of_mem _ hw)]
  split
  ·rfl
  ·have:x ≠ n:=by rintro rfl;exact h v List.mem_cons_self
   simp [this]
theorem wH {kindOf:Str->Option NameKind}{x:Str}{v:Value}:∀ {P:List Str} {vs:List Value} {i:Nat} {m:Str->Option Value},P.Nodup->P[i]?=some x->vs[i]?=some v->kindOf x=some .local ->
  bindL kindOf (P.zip vs) m x=some v
 | [],_,_,_,_,h,_,_=>by simp at h
 | _ :: _,[],_,_,_,_,h,_=>by simp at h
 | p :: P,w :: vs,0,m,nd,h1,h2,hk=>by
  simp at h1 h2;subst h1;subst h2
  show bindL kindOf ((p,w) :: P.zip vs) m p=_
  unfold bindL
  rw [wA fun v hv=>(List.nodup_cons.mp nd).1 (List.of_mem_zip hv).1,if_pos hk]
  simp
 | p :: P,w :: vs,i+1,m,nd,h1,h2,hk=>by
  show bindL kindOf ((p,w) :: P.zip vs) m x=_
  unfold bindL
  exact wH (i:=i) (List.nodup_cons.mp nd).2 (by simpa using h1) (by simpa using h2) hk
theorem wD {kindOf:Str->Option NameKind}{x:Str}{v:Value}:∀ {P:List Str} {vs:List Value} {i:Nat} {m:Str->Option Value},P.Nodup->P[i]?=some x->vs[i]?=some v->kindOf x ≠ some .local ->
  bindC kindOf (P.zip vs) m x=some v
 | [],_,_,_,_,h,_,_=>by simp at h
 | _ :: _,[],_,_,_,_,h,_=>by simp at h
 | p :: P,w :: vs,0,m,nd,h1,h2,hk=>by
  simp at h1 h2;subst h1;subst h2
  show bindC kindOf ((p,w) :: P.zip vs) m p=_
  unfold bindC
  rw [wC fun v hv=>(List.nodup_cons.mp nd).1 (List.of_mem_zip hv).1,if_neg hk]
  simp
 | p :: P,w :: vs,i+1,m,nd,h1,h2,hk=>by
  show bindC kindOf ((p,w) :: P.zip vs) m x=_
  unfold bindC
  exact wD (i:=i) (List.nodup_cons.mp nd).2 (by simpa using h1) (by simpa using h2) hk
noncomputable def qL (N:List Str)(vs:List V):St:=vs.map some ++ List.replicate (N.length - vs.length) none
noncomputable def jD (CX:CXT)(P:Program)(w:World)(K:PySem.W.Frag)(mg:Str->Option Value)(base:Heap)(N:List Str)(qual:Str)(scope:Scope)(f:Addr)(cd:Value)(A:Around)(outer:List Env)(s:Shared)(H:Hp)(E:XK):Cx where
 prog:=P
 w:=w
 K:=K
 mg:=mg
 base:=base
 A:=A.deeper (envOfC qual scope s.heap.objs.size f cd)
 N:=N
 s₀:=s
 H₀:=H
 env:=envOfC qual scope s.heap.objs.size f cd
 outer:=outer
 stack:=envOfC qual scope s.heap.objs.size f cd :: outer
 ex:=[]
 calm:=true
 fn:=fun _=>true
 pn:=[]
 xe:=fun e s'=>wpAny (model P w) (A.deeper (envOfC qual scope s.heap.objs.size f cd)) (leaving (envOfC qual scope s.heap.objs.size f cd) e) (fun _ s''=>CX outer H s E e s'') (fun e' s''=>CX outer H s E e' s'') s'
theorem Q8 {sc:Scope}{n:Nat}{x:Str}(h:sc.names.lookup x=some .cell):∃ c,(cellsFrom n sc.names []).lookup x=some c:=by
 have q:=PySem.W.cellsFrom_some sc.names n [] (.inl h)
 exact Option.isSome_iff_exists.mp q
theorem wM {CX : CXT}{P : Program}{w : World}{K : PySem.W.Frag}{mg : Str -> Option Value}{base : Heap}{N ps : List Str}{qual : Str}{scope : Scope}{f : Addr}{cd : Value}{A : Around}{outer : List Env}{s s1 : Shared}{H : Hp}{E : XK}{us : List Value}{vs : List V}
    (S:zt N ps scope) (hd:A.handled=none) (e0:ZZ P w K mg base A outer s H) (hl:vs.length=ps.length) (r:zG vs us)
    (x:InCallC s s.heap.objs.size (bindL (envOfC qual scope s.heap.objs.size f cd).kindOf (ps.zip us) fun _=>none) (cellsFrom (s.heap.objs.size+1) scope.names []) (bindC (envOfC qual scope s.heap.objs.size f cd).kindOf (ps.zip us) fun _=>none) s1) :
    Inv (jD CX P w K mg base N qual scope f cd A outer s H E) [] (qL N vs) H s1:=by
  have hpl:ps.length<=N.length:=by have:=congrArg List.length S.pre;rw [List.length_take] at this;omega
  obtain ⟨h1,tk,rfl,hk⟩:=x.done
  have noA:∀ b:Addr,b ∉ (jD CX P w K mg base N qual scope f cd A outer s H E).ex:=fun b z=>absurd (show b ∈ ([]:List Addr) from z) (by simp)
  refine ⟨⟨e0.mod,S.kind,rfl,rfl,Nat.le_refl _,fun y z c h1 h2=>?_,fun y hy=>?_,fun y c _ h=>?_,fun _=>hd,Around.frames_deeper e0.frames,.inr ⟨rfl,rfl⟩,fun b z=>absurd z (noA b),e0.bs,e0.bsz,fun b _ _=>noA b,fun b z=>absurd z (noA b),e0.funs,e0.frf⟩,
    rfl,e0.bare,Un.kept hk,⟨_,x.toInCall.ns,fun i y v h1 h2 h3=>?_⟩,fun y c h=>⟨_,x.cell y c h⟩,e0.hok.fresh (Nat.le_refl _),fun y c h=>?_,fun p hp=>absurd (show p ∈ ([]:List (Addr × Obj)) from hp) (by simp),e0.hok.kept hk,?_⟩
  · exact name_of_addr x.apart (PySem.mem_of_lookup h1) (PySem.mem_of_lookup h2)
  · have hy:scope.names.lookup y=some .cell \/ scope.names.lookup y=some .free:=hy
    rcases hy with hy | hy
    · exact Q8 hy
    · exact absurd rfl (S.nofree _ (PySem.mem_of_lookup hy))
  · exact Nat.le_of_lt (x.above y c (PySem.mem_of_lookup h))
  · have hi : i < vs.length := by
      unfold qL at h2
      by_cases hi:i<vs.length
      · exact hi
      · rw [List.getElem?_append_right (by simpa using hi)] at h2
        rw [List.getElem?_replicate] at h2
        split at h2 <;> cases h2
    have ha:vs[i]?=some v:=by
      unfold qL at h2
      rw [List.getElem?_append_left (by simpa using hi),List.getElem?_map] at h2
      cases e:vs[i]? with
      | none=>rw [e] at h2;cases h2
      | some a=>rw [e] at h2;cases h2;rfl
    obtain ⟨u,hu,rv⟩:=r.get ha
    have hp:ps[i]?=some y:=by
      rw [<- S.pre,List.getElem?_take_of_lt (by omega)];exact h1
    have ndP:ps.Nodup:=by rw [<- S.pre];exact S.nd.sublist (List.take_sublist _ _)
    refine ⟨u,rv,?_⟩
    rcases S.par y (List.mem_of_getElem? hp) with k | k
    · exact .inl ⟨k,wH ndP hp hu k⟩
    · obtain ⟨c,e⟩:=Q8 (n:=s.heap.objs.size+1) k
      refine .inr ⟨.inl k,c,e,?_⟩
      have q:=x.cell y c e
      rw [wD ndP hp hu (by show scope.names.lookup y ≠ _;rw [k];decide)] at q
      exact q
  · exact e0.hok.fresh (Nat.le_of_lt (x.above y c (PySem.mem_of_lookup h)))
  · unfold qL
    show _=N.length
    rw [List.length_append,List.length_map,List.length_replicate]
    omega
theorem Vp {CX:CXT}{P:Program}{w:World}{K:PySem.W.Frag}{mg:Str->Option Value}{base:Heap}{k:Nat}{f:Addr}{name qual:Str}{params:Arguments}{body:List Stmt}{scope:Scope}{dV kV doc pm cdv ct oc:Value}{an od:Option Addr}
  {osl:Array (Option Value)} {N ps:List Str} {sp:Sp} (lk:K.lookup f=some ⟨oc,od,.func (PySem.W.fnOf name qual params body scope dV kV doc pm an cdv ct),osl⟩) (hcd:PySem.W.codeIn K cdv qual=true) (S:zt N ps scope)
  (len:∀ vs H Q E,sp vs H Q E->vs.length=ps.length)
  (hbody:∀ (A:Around) (outer:List Env) (s:Shared) (H:Hp) (vs:List V) (Q:VK) (E:XK),ql k (A.deeper (envOfC qual scope s.heap.objs.size f cdv))->sp vs H Q E ->
   ∃ t,PSs (jD CX P w K mg base N qual scope f cdv A outer s H E) body t/\t { nx:=fun _ H'=>Q .non H',rt:=Q } (qL N vs) H) :
  jx P w K mg base CX (k+1) f (PySem.W.fnOf name qual params body scope dV kV doc pm an cdv ct) ps sp:=by
 refine ⟨len,fun A outer s H args us vs Q E hr e0 hb r hsp=>?_⟩
 have hl:=len _ _ _ _ hsp
 have KX:K.In s.heap:=e0.mod.kin.keeps fun b o e=>(e0.bs b o e).1
 have lim:s.heap.NoLimit:=e0.mod.nolimit.keeps fun b o e=>(e0.bs b o e).1
 have hkind:∀ y ∈ ps.zip us,scope.names.lookup y.1=some .local \/ (scope.names.lookup y.1=some .cell/\((cellsFrom (s.heap.objs.size+1) scope.names []).lookup y.1).isSome=true):=fun ⟨n,v⟩ hy=>by
  rcases S.par n (List.of_mem_zip hy).1 with q | q
  ·exact .inl q
  ·exact .inr ⟨q,PySem.W.cellsFrom_some _ _ _ (.inl q)⟩
 refine codeAny_call_function hr.depth (KX _ _ lk) rfl S.co S.gen rfl (PySem.W.codeRec_of KX hcd) (hb _ _ _ _ ?_)
 refine wpAny_newFunctionEnv_cells S.kind hkind fun env he s1 x=>?_
 subst he
 refine ⟨lim.keeps x.toInCall.keep,codeAny_func ?_⟩
 obtain ⟨t,ht,hq⟩:=hbody A outer s H vs Q E (hr.deeper _) hsp
 have I:Inv (jD CX P w K mg base N qual scope f cdv A outer s H E) [] (qL N vs) H s1:=wM S hr.hd e0 hl r x
 refine wpAny_mono (ht [] s1 (qL N vs) H _ I hq) (fun fl s' hs=>?_) fun e s' hs=>hs
 have fin:∀ {σ':St} {H':Hp} {v:V} {u:Value},Inv (jD CX P w K mg base N qual scope f cdv A outer s H E) [] σ' H' s'->zH v u->Q v H'->CE outer P w H s Q u s':=
  fun {σ' H' v u} J rv q=>⟨v,H',J.os,J.bare,J.base,J.hok,rv,q⟩
 cases fl with
 | ret u=>
  obtain ⟨v,σ',H',J,rv,q⟩:=hs
  exact fin J rv q
 | next=>
  obtain ⟨σ',H',J,q⟩:=hs
  exact fin (v:=V.non) (u:=Value.none) J rfl q
 | brk=>
  obtain ⟨_,_,_,q⟩:=hs
  exact False.elim q
 | cont=>
  obtain ⟨_,_,_,q⟩:=hs
  exact False.elim q
section
variable {X:Cx}{x:Str}{p pos:Pos}{e:Expr}{es:List Expr}{t:TA}{id T:String}{r:List V->Hp->VK->Prop}
noncomputable def tCB (r:List V->Hp->VK->Prop)(t:TA):TE:=fun σ H Q=>t σ H fun vs H1=>r vs H1 Q
theorem zo (hc:jy X (.builtin id) r)(hg:Gl X x)(hm:X.mg x=none)(hv:bootBuiltins x=some (.builtin id))(ha:PA X (e :: es) t)(hn:x ≠ "__name__":=by decide)(hdb:(x == ("__debug__":Str))=false:=by decide)
  (he:starEach (e :: es) X.env=(false,eval e X.env) :: starEach es X.env:=by rfl) (hpl:(backTo pos (starEach es X.env)).any (·.1)=false:=by rfl):PE X (.Call (.Name x p) (e :: es) [] pos) (tCB r t):=by
 intro pins s σ H Q I h
 refine wpAny_Call_Name_kw (yG I hg hm hv ?_ hn hdb)
 exact PyProof.Rows.callWith_builtin1 (thn (ha pos pins s σ H _ I h) fun us s1 ⟨vs,H1,I1,r1,q1⟩=>hc pins s1 σ H1 vs us Q I1 r1 q1) he hpl
theorem zC (hc:jy X (.type T) r)(hg:Gl X x)(hm:X.mg x=none)(hv:bootBuiltins x=some (.type T))(ha:PA X (e :: es) t)(hn:x ≠ "__name__":=by decide)(hdb:(x == ("__debug__":Str))=false:=by decide)
  (he:starEach (e :: es) X.env=(false,eval e X.env) :: starEach es X.env:=by rfl) (hpl:(backTo pos (starEach es X.env)).any (·.1)=false:=by rfl):PE X (.Call (.Name x p) (e :: es) [] pos) (tCB r t):=by
 intro pins s σ H Q I h
 refine wpAny_Call_Name_kw (yG I hg hm hv ?_ hn hdb)
 exact PyProof.Rows.callWith_type1 (thn (ha pos pins s σ H _ I h) fun us s1 ⟨vs,H1,I1,r1,q1⟩=>hc pins s1 σ H1 vs us Q I1 r1 q1) he hpl
end
end L2
namespace HT
open PySem PyProof.Rows
section
open PySem.SeqAt
open PySem.AutoSeq1 (wpAny_loadPart')
open PySem.MeetsSeq PySem.MeetsSeq2 PySem.MeetsSeq3
end
section
variable {prog:Program}{w:World}{A:Around}{E:Value->Shared->Prop}{s:Shared}
noncomputable def sIx (n d:Nat):Option Int->Nat
 | none=>d
 | some v=>if v<0 then (v+(n:Int)).toNat else min v.toNat n
theorem sIx_none (n d:Nat):sIx n d none=d:=rfl
theorem sIx_nat (n d k:Nat):sIx n d (some (k:Int))=min k n:=by
 show (if (k:Int)<0 then ((k:Int)+(n:Int)).toNat else min (k:Int).toNat n)=min k n
 rw [if_neg (by omega),Int.toNat_natCast]
theorem HG (n d:Nat)(hd:d<=n)(o:Option Int):sIx n d o<=n:=by
 cases o with
 | none=>exact hd
 | some v=>
  show (if v<0 then (v+(n:Int)).toNat else min v.toNat n)<=n
  by_cases hv:v<0
  ·rw [if_pos hv];omega
  ·rw [if_neg hv];exact Nat.min_le_right _ _
theorem KQ (v:Int)(n d:Nat):(if v<0 then max (v+(n:Int)) 0 else min v (n:Int))=((sIx n d (some v):Nat):Int):=by
 show (if v<0 then max (v+(n:Int)) 0 else min v (n:Int))=(((if v<0 then (v+(n:Int)).toNat else min v.toNat n):Nat):Int)
 by_cases hv:v<0
 ·simp only [if_pos hv];omega
 ·simp only [if_neg hv];omega
theorem Jb (lo hi:Option Int)(n:Nat):Builtin.Slice.sliceAdjust lo hi 1 (n:Int)=(((sIx n 0 lo:Nat):Int),((sIx n n hi:Nat):Int)):=by
 have h1:¬ ((1:Int)<0):=by omega
 unfold Builtin.Slice.sliceAdjust
 simp only [h1,if_false]
 refine Prod.ext ?_ ?_
 ·cases lo with
  | none=>rfl
  | some v=>exact KQ v n 0
 ·cases hi with
  | none=>rfl
  | some v=>exact KQ v n n
theorem Ja (i j:Nat):Builtin.Slice.slicePlaces (i:Int) (j:Int) 1=j - i:=by
 unfold Builtin.Slice.slicePlaces
 have h1:(1:Int) > 0:=by omega
 simp only [h1,if_true,Int.ediv_one]
 split <;> omega
theorem slicePart_ {v:Value}{o:Option Int}{Q:Option Int->Shared->Prop}(p:IsPart v o)(h:Q o s):wpAny (model prog w) A (Builtin.Slice.slicePartIndex v) Q E s:=by
 cases p with
 | none=>exact slicePart_none h
 | int i t=>exact slicePart_int h
theorem yF {sl:Addr}{vl vu:Value}{lo hi:Option Int}{n:Nat}{Q:Int × Int × Nat->Shared->Prop}(hs:s.heap.IsSliceOf sl vl vu .none)(pl:IsPart vl lo)(pu:IsPart vu hi)
  (h:Q (((sIx n 0 lo:Nat):Int),1,sIx n n hi - sIx n 0 lo) s):wpAny (model prog w) A (Builtin.Slice.sliceApplied (.ref sl) (pure (n:Int))) Q E s:=by
 obtain ⟨os,hos,hcs,hds⟩:=id hs
 unfold Builtin.Slice.sliceApplied Builtin.Slice.sliceFields
 refine wpAny_bind (wpAny_bind (wpAny_field hos hds (x:=vl) rfl (wpAny_bind (wpAny_field hos hds (x:=vu) rfl (wpAny_bind (wpAny_field hos hds (x:=.none) rfl (wpAny_pure ?_)))))))
 refine wpAny_bind (slicePart_none ?_)
 show wpAny _ _ (if ((1:Int) == 0)=true then _ else _) _ _ s
 rw [if_neg (by decide)]
 refine wpAny_bind (slicePart_ pl (wpAny_bind (slicePart_ pu (wpAny_bind (wpAny_pure ?_)))))
 show wpAny _ _ (match Builtin.Slice.sliceAdjust lo hi 1 (n:Int) with | (lo,hi)=>pure (lo,(1:Int),Builtin.Slice.slicePlaces lo hi 1)) _ _ s
 rw [Jb lo hi n]
 show wpAny _ _ (pure (((sIx n 0 lo:Nat):Int),(1:Int),Builtin.Slice.slicePlaces ((sIx n 0 lo:Nat):Int) ((sIx n n hi:Nat):Int) 1)) _ _ s
 rw [Ja]
 exact wpAny_pure h
theorem Wg (xs:Array Value)(i k:Nat):((List.range k).filterMap fun (m:Nat)=>xs[((i:Int)+(m:Int) * 1).toNat]?).toArray=((xs.toList.drop i).take k).toArray:=by
 have e:(fun (m:Nat)=>xs[((i:Int)+(m:Int) * 1).toNat]?)=fun m=>xs[i+m]?:=by
  funext m
  have:((i:Int)+(m:Int) * 1).toNat=i+m:=by omega
  rw [this]
 rw [e]
 have:=pick_run xs i k
 rw [List.filterMap_map] at this
 have e2:((fun x=>xs[x]?) ∘ fun x=>i+x)=fun m=>xs[i+m]?:=rfl
 rw [e2] at this
 rw [this]
theorem getItem_tuple_cut {t sl:Addr}{items:Array Value}{vl vu:Value}{lo hi:Option Int}{Q:Value->Shared->Prop}(ht:IsTup s.heap t items)(hs:s.heap.IsSliceOf sl vl vu .none)(pl:IsPart vl lo)(pu:IsPart vu hi)
  (hw:¬ (sIx items.size 0 lo=0/\sIx items.size items.size hi=items.size))
  (h:Q (.ref s.heap.objs.size) { s with heap:=s.heap.push { cls:=.type "tuple",data:=.seq ((items.toList.drop (sIx items.size 0 lo)).take (sIx items.size items.size hi - sIx items.size 0 lo)).toArray } })
  (hsz:items.size<=sizeLine):wpAny (model prog w) A (getItem (.ref t) (.ref sl)) Q E s:=by
 have htake:sizeOk (.seq ((items.toList.drop (sIx items.size 0 lo)).take (sIx items.size items.size hi - sIx items.size 0 lo)).toArray):=by
  show ((items.toList.drop (sIx items.size 0 lo)).take (sIx items.size items.size hi - sIx items.size 0 lo)).toArray.size<=sizeLine
  rw [List.size_toArray,List.length_take,List.length_drop,Array.length_toList]
  omega
 have hj:sIx items.size items.size hi<=items.size:=HG _ _ (Nat.le_refl _) hi
 obtain ⟨os,hos,hcs,hds⟩:=id hs
 have hTs:s.TypeIs (.ref sl) "slice":=⟨os,hos,hcs⟩
 unfold getItem
 try with_reducible refine wpAny_holding ?_
 first | refine wpAny_bind (wpAny_pure ?_) | skip
 refine wpAny_bind (wpAny_sequenceKey ht.typeIs (by decide) ?_)
 refine wpAny_bind (wpAny_callSpecial?_slot (name:=Str.ofString "__getitem__") ht.typeIs PyProof.Rows.slot_tuple_getitem
  (wpAny_call_entry PyProof.Rows.slot_tuple_getitem ht.typeIs entry_tuple_getitem ?_ (args_tuple_getitem _ _)))
 show wpAny _ _ (Builtin.Tuple.tupleItemsOf (.ref t) >>= _) _ _ s
 refine wpAny_bind (tupleItemsOf_ ht ?_)
 refine wpAny_bind (wpAny_typeOf hTs ?_)
 rw [if_pos (by decide)]
 refine wpAny_bind (yF hs pl pu ?_)
 have hno:¬ ((((sIx items.size 0 lo:Nat):Int) == 0 && (1:Int) == 1 && (sIx items.size items.size hi - sIx items.size 0 lo) == items.size)=true):=by
  intro q
  rw [Bool.and_eq_true,Bool.and_eq_true] at q
  have q1:((sIx items.size 0 lo:Nat):Int)=0:=eq_of_beq q.1.1
  have q2:sIx items.size items.size hi - sIx items.size 0 lo=items.size:=eq_of_beq q.2
  exact hw ⟨by omega,by omega⟩
 show wpAny _ _ (if (((sIx items.size 0 lo:Nat):Int) == 0 && (1:Int) == 1 && (sIx items.size items.size hi - sIx items.size 0 lo) == items.size)=true then _ else _) _ _ s
 rw [if_neg hno,Wg]
 first
  | exact wpAny_bind (m:=Builtin.Tuple.tupleExact _) (wpAny_newObj_type (wpAny_pure ⟨_,rfl,wpAny_pure h⟩) htake)
  | exact wpAny_bind (m:=Builtin.Tuple.tupleExact _) (wpAny_newObj_type (wpAny_bind (wpAny_pure (wpAny_pure ⟨_,rfl,wpAny_pure h⟩))) htake)
  | exact wpAny_bind (wpAny_bind (m:=Builtin.Tuple.tupleExact _) (wpAny_newObj_type (wpAny_pure (wpAny_pure ⟨_,rfl,wpAny_pure h⟩)) htake))
  | exact wpAny_bind (wpAny_bind (m:=Builtin.Tuple.tupleExact _) (wpAny_newObj_type (wpAny_pure ⟨_,rfl,wpAny_pure h⟩) htake))
end
end HT
namespace L2
open PySem PySem.Spec PyProof.Rows
noncomputable abbrev TO:=St->Hp->(Option Int->Hp->Prop)->Prop
noncomputable def PO (X:Cx)(e:Option Expr)(t:TO):Prop:=
 ∀ (pins:List (Addr × Obj)) (s:Shared) (σ:St) (H:Hp) (Q:Option Int->Hp->Prop),Inv X pins σ H s->t σ H Q ->
  wpAny (model X.prog X.w) X.A (evalPart e X.env) (fun u s'=>∃ o H',Inv X pins σ H' s'/\IsPart u o/\Q o H') X.xe s
noncomputable def ZX:TO:=fun _ H Q=>Q none H
noncomputable def Aw (t:TE):TO:=fun σ H Q=>t σ H fun x H1=>∃ i,x=.int i/\Q (some i) H1
section
variable {X:Cx}{e:Expr}{te:TE}{lo hi:Option Expr}{tl th:TO}{pos p2:Pos}
theorem qg:PO X none ZX:=by
 intro pins s σ H Q I h
 rw [evalPart_none]
 exact wpAny_pure ⟨none,H,I,.none,h⟩
theorem zO (h:PE X e te):PO X (some e) (Aw te):=by
 intro pins s σ H Q I hw
 rw [evalPart_some]
 refine thn (h pins s σ H _ I hw) fun u s1 ⟨x,H1,I1,r1,q1⟩=>?_
 obtain ⟨i,rfl,q⟩:=q1
 obtain ⟨t,rfl⟩:=r1
 exact ⟨some i,H1,I1,.int i t,q⟩
noncomputable def SlR (X:Cx)(r:V->Option Int->Option Int->Hp->VK->Prop):Prop:=
 ∀ (pins:List (Addr × Obj)) (s:Shared) (σ:St) (H:Hp) (x:V) (v vl vu:Value) (lo hi:Option Int) (sl:Addr) (Q:VK),Inv X pins σ H s->zH x v->s.heap.IsSliceOf sl vl vu .none->IsPart vl lo->IsPart vu hi->r x lo hi H Q ->
  ∃ T id,typeLookup (.type T) "__getitem__"=pure (some (.builtin id))/\s.TypeIs v T/\wpAny (model X.prog X.w) X.A (getItem v (.ref sl)) (EP X pins σ Q) X.xe s
noncomputable def tSl (r:V->Option Int->Option Int->Hp->VK->Prop)(te:TE)(tl th:TO):TE:=fun σ H Q=>te σ H fun x H1=>tl σ H1 fun l H2=>th σ H2 fun u H3=>r x l u H3 Q
theorem zR {r:V->Option Int->Option Int->Hp->VK->Prop}(hr:SlR X r)(he:PE X e te)(hl:PO X lo tl)(hu:PO X hi th):PE X (.Subscript e (.Slice lo hi none p2) pos) (tSl r te tl th):=by
 intro pins s σ H Q I h
 refine Subscript_ (thn (he pins s σ H _ I h) fun v s1 ⟨x,H1,I1,r1,q1⟩=>?_)
 refine wpAny_Slice (thn (hl pins s1 σ H1 _ I1 q1) fun vl s2 ⟨l,H2,I2,pl,q2⟩=>thn (hu pins s2 σ H2 _ I2 q2) fun vu s3 ⟨u,H3,I3,pu,q3⟩=>?_)
 rw [evalPart_none]
 refine wpAny_pure ?_
 have I4:Inv X pins σ H3 { s3 with heap:=s3.heap.push { cls:=.type "slice",data:=.fields #[vl,vu,.none] } }:=I3.kept (t':=s3.toks) fun b ob q=>Heap.get?_push_of_some _ q
 obtain ⟨T,id,hT,ht,hg⟩:=hr pins { s3 with heap:=s3.heap.push { cls:=.type "slice",data:=.fields #[vl,vu,.none] } } σ H3 x v vl vu l u s3.heap.objs.size Q I4 r1 (Heap.IsSliceOf.new ..) pl pu q3
 show wpAny (model X.prog X.w) X.A (subscriptTail e (.Slice lo hi none p2) v (.ref s3.heap.objs.size)) (EP X pins σ Q) X.xe { s3 with heap:=s3.heap.push { cls:=.type "slice",data:=.fields #[vl,vu,.none] } }
 exact tail_any (ops:=[.ref s3.heap.objs.size,v]) ht hT hg (by with_unfolding_all rfl)
noncomputable def ww (xs:List V)(lo hi:Option Int):List V:=(xs.drop (HT.sIx xs.length 0 lo)).take (HT.sIx xs.length xs.length hi - HT.sIx xs.length 0 lo)
theorem vd (xs:List V)(lo hi:Option Int):(ww xs lo hi).length<=xs.length:=by
 unfold ww
 rw [List.length_take,List.length_drop]
 omega
noncomputable def IS (K:PySem.W.Frag):V->Option Int->Option Int->Hp->VK->Prop:=fun x lo hi H Q=>∃ a xs,x=.ref a/\SqT K H a xs /\
 ¬ (HT.sIx xs.length 0 lo=0/\HT.sIx xs.length xs.length hi=xs.length)/\∀ p,H p=none->Q (.ref p) (upd H p (.tup (ww xs lo hi)))
theorem yC:SlR X (IS X.K):=by
 intro pins s σ H x v vl vu lo hi sl Q I rx hs pl pu h
 obtain ⟨a,xs,rfl,hx,hw,q⟩:=h
 cases rx
 obtain ⟨its,r,ht,hz⟩:=I.tuple hx
 have hlen:its.toArray.size=xs.length:=by rw [List.size_toArray];exact r.length.symm
 refine ⟨"tuple",_,PyProof.Rows.slot_tuple_getitem.lookup,ht.typeIs,?_⟩
 refine HT.getItem_tuple_cut ht hs pl pu (by rw [hlen];exact hw) ?_ (by rw [hlen];exact hz)
 rw [hlen]
 refine ⟨.ref s.heap.objs.size,_,I.laid (t':=s.toks) (o:=.tup (ww xs lo hi)) (fun b ob q=>Heap.get?_push_of_some _ q) (Nat.le_refl _) ?_,rfl,q _ (I.hok.fresh (Nat.le_refl _))⟩
 exact ⟨Nat.le_trans (vd xs lo hi) hz,_,(r.drop (HT.sIx xs.length 0 lo)).take (HT.sIx xs.length xs.length hi - HT.sIx xs.length 0 lo),wu.new _ _⟩
end
noncomputable def ixN (n:Nat)(i:Int):Option Nat:=if 0<=i then (if i<n then some i.toNat else none) else if -(n:Int)<=i then some (i+n).toNat else none
noncomputable def atI {α:Type}(xs:List α)(i:Int):Option α:=(ixN xs.length i).bind fun j=>xs[j]?
theorem Xr {n:Nat}{i:Int}{j:Nat}(h:ixN n i=some j):seqIndex? i n=some j/\j<n/\-(n:Int)<=i/\i<n:=by
 unfold ixN at h
 by_cases h0:0<=i
 ·rw [if_pos h0] at h
  by_cases h1:i<n
  ·rw [if_pos h1] at h
   have e:i.toNat=j:=Option.some.inj h
   exact ⟨by rw [seqIndex_of h0 h1,e],by omega,by omega,h1⟩
  ·rw [if_neg h1] at h;cases h
 ·rw [if_neg h0] at h
  by_cases h1:-(n:Int)<=i
  ·rw [if_pos h1] at h
   have e:(i+n).toNat=j:=Option.some.inj h
   exact ⟨by rw [seqIndex_neg (by omega) h1,e],by omega,h1,by omega⟩
  ·rw [if_neg h1] at h;cases h
theorem Zs {α:Type}{xs:List α}{i:Int}{v:α}(h:atI xs i=some v):∃ j,seqIndex? i xs.length=some j/\xs[j]?=some v/\j<xs.length/\-(xs.length:Int)<=i/\i<xs.length:=by
 unfold atI at h
 cases e:ixN xs.length i with
 | none=>rw [e] at h;cases h
 | some j=>
  rw [e] at h
  obtain ⟨h1,h2,h3,h4⟩:=Xr e
  exact ⟨j,h1,h,h2,h3,h4⟩
theorem B3 {α:Type}{xs:List α}{j:Nat}{v:α}(h:xs[j]?=some v):atI xs (j:Int)=some v:=by
 have hj:j<xs.length:=(List.getElem?_eq_some_iff.mp h).1
 have e:ixN xs.length (j:Int)=some j:=by
  unfold ixN
  rw [if_pos (by omega),if_pos (by omega)];simp
 unfold atI;rw [e];exact h
noncomputable def Ea (b:Expr):Prop:=∀ o i,subscripted b false o i=operate [o,i] (getItem o i)
noncomputable def IxR (X:Cx)(r:R2):Prop:=
 ∀ (value slice:Expr) (pins:List (Addr × Obj)) (s:Shared) (σ:St) (H:Hp) (x y:V) (v u:Value) (Q:VK),Inv X pins σ H s->zH x v->zH y u->r x y H Q ->
  subscripted slice false v u=operate [v,u] (getItem v u)->wpAny (model X.prog X.w) X.A (subscriptTail value slice v u) (EP X pins σ Q) X.xe s
noncomputable def MtR (X:Cx)(id:String)(r:V->List V->Hp->VK->Prop):Prop:=
 ∀ (pins:List (Addr × Obj)) (s:Shared) (σ:St) (H:Hp) (x:V) (xs:List V) (v:Value) (us:List Value) (Q:VK),Inv X pins σ H s->zH x v->zG xs us->r x xs H Q ->
  wpAny (model X.prog X.w) X.A (call (.builtin id) (v :: us)) (EP X pins σ Q) X.xe s
section
variable {X:Cx}{a b:Expr}{ta tb:TE}{pos:Pos}
theorem zx {r:R2}(hr:IxR X r)(ha:PE X a ta)(hb:PE X b tb)(hs:Ea b):PE X (.Subscript a b pos) (tOp r ta tb):=by
 intro pins s σ H Q I h
 exact Subscript_ (He ha hb I h fun v u s2 x y H2 I2 rx ry q=>hr a b pins s2 σ H2 x y v u Q I2 rx ry q (hs _ _))
noncomputable def EH (K:PySem.W.Frag):R2:=fun x y H Q=>∃ p xs i v,x=.ref p/\y=.int i/\SqL K H p xs/\atI xs i=some v/\Q v H
noncomputable def Ip (K:PySem.W.Frag):R2:=fun x y H Q=>∃ p xs i v,x=.ref p/\y=.int i/\SqT K H p xs/\atI xs i=some v/\Q v H
theorem qN:IxR X (EH X.K):=by
  intro value slice pins s σ H x y v u Q I rx ry h hs
  obtain ⟨p,xs,i,z,rfl,rfl,hq,he,q⟩:=h
  cases rx
  obtain ⟨t,rfl⟩:=ry
  obtain ⟨its,r,pl,hz⟩:=I.list hq
  obtain ⟨j,h1,h2,h3,h4,h5⟩:=Zs he
  obtain ⟨w,ew,rw'⟩:=r.get h2
  have hl:=r.length
  have hn:=vN
  have fin:EP X pins σ Q w s:=⟨z,H,I,rw',q⟩
  by_cases h0:0<=i
  · have hj : i.toNat = j := by
      rw [seqIndex_of h0 h5] at h1
      exact Option.some.inj h1
    exact item_listR pl.isList h0 (by omega) (by rw [hj];simpa using ew) fin hs
  · have hj : (i + (its.toArray.size : Int)).toNat = j := by
      rw [seqIndex_neg (by omega) h4] at h1
      rw [List.size_toArray,<- hl]
      exact Option.some.inj h1
    exact subscriptTail_builtinR (x:=w) pl.isList.typeIs slot_list_getitem.lookup
      (wpAny_getItem_list_neg (Q:=fun r s'=>r=w/\EP X pins σ Q r s') pl.isList (by omega) (by rw [List.size_toArray] <;> omega) (by omega) (by rw [hj];simpa using ew) ⟨rfl,fin⟩) hs
theorem Gy:IxR X (Ip X.K):=by
 intro value slice pins s σ H x y v u Q I rx ry h hs
 obtain ⟨p,xs,i,z,rfl,rfl,hq,he,q⟩:=h
 cases rx
 obtain ⟨t,rfl⟩:=ry
 obtain ⟨its,r,pl,hz⟩:=I.tuple hq
 obtain ⟨j,h1,h2,h3,h4,h5⟩:=Zs he
 obtain ⟨w,ew,rw'⟩:=r.get h2
 have hl:=r.length
 have hn:=vN
 have fin:EP X pins σ Q w s:=⟨z,H,I,rw',q⟩
 exact subscriptTail_builtinR (x:=w) pl.typeIs slot_tuple_getitem.lookup
  (getItem_tuple (j:=j) (Q:=fun r s'=>r=w/\EP X pins σ Q r s') pl (by omega) (by omega) (by rw [List.size_toArray,<- hl];exact h1) (by simpa using ew) ⟨rfl,fin⟩) hs
theorem Je (its:List Value)(n j:Nat)(u:Value):Obj.mapSeq (·.setIfInBounds j u) { cls:=.type "list",data:=.seq its.toArray n }={ cls:=.type "list",data:=.seq (its.set j u).toArray n }:=by
 simp [Obj.mapSeq]
theorem Inv.lst {pins:List (Addr × Obj)}{σ:St}{H:Hp}{s:Shared}{p:Addr}{xs:List V}(I:Inv X pins σ H s)(h:H p=some (.lst xs)) :
  ∃ (its:List Value) (n:Nat),zG xs its/\s.heap.get? p=some { cls:=.type "list",data:=.seq its.toArray n }/\xs.length<=sizeLine:=by
 obtain ⟨z,its,n,r,e⟩:=I.hok p _ h
 exact ⟨its,n,r,e,z⟩
theorem Inv.lstUpd {pins:List (Addr × Obj)}{σ:St}{H:Hp}{s:Shared}{p:Addr}{xs ys:List V}{its its':List Value}{n n':Nat}{f:Obj->Obj}(I:Inv X pins σ H s)(h:H p=some (.lst xs))
  (ho:s.heap.get? p=some { cls:=.type "list",data:=.seq its.toArray n }) (hf:f { cls:=.type "list",data:=.seq its.toArray n }={ cls:=.type "list",data:=.seq its'.toArray n' }) (r:zG ys its') (hz:ys.length<=sizeLine) (t:Nat) :
  Inv X pins σ (upd H p (.lst ys)) { s with heap:=s.heap.update p f,toks:=t }:=by
 have e:(s.heap.update p f).get? p=some { cls:=.type "list",data:=.seq its'.toArray n' }:=by
  rw [Heap.get?_update_self f ho (by rw [hf] <;> rfl),hf]
 refine I.write (x:=p) (e:=p) (by rw [h];trivial) (.inl rfl) (fun b u hb q=>(Heap.get?_update_other _ _ (Ne.symm hb)).trans q) ⟨_,e⟩ ?_
 exact ⟨hz,its',n',r,e⟩
noncomputable def FK:V->V->V->Hp->(Hp->Prop)->Prop:=fun o i v H Q=>∃ p xs k j,o=.ref p/\i=.int k/\H p=some (.lst xs)/\ixN xs.length k=some j/\Q (upd H p (.lst (xs.set j v)))
theorem Be:Dq X FK:=by
  intro pins s σ H o i v ov iv u Q I ro ri rv h
  obtain ⟨p,xs,k,j,rfl,rfl,hp,hj,q⟩:=h
  cases ro
  obtain ⟨t,rfl⟩:=ri
  obtain ⟨its,n,r,ho,hz⟩:=I.lst hp
  obtain ⟨h1,h2,h3,h4⟩:=Xr hj
  have hl:=r.length
  have hn:=vN
  have I':Inv X pins σ (upd H p (.lst (xs.set j v))) { s with heap:=s.heap.update p (Obj.mapSeq (·.setIfInBounds j u)) }:=
    I.lstUpd hp ho (Je its n j u) (r.set rv j) (by rw [List.length_set];exact hz) s.toks
  by_cases h0:0<=k
  · have hk : k.toNat = j := by
      rw [seqIndex_of h0 h4] at h1
      exact Option.some.inj h1
    exact PySem.W.ki_setAt ho h0 (by omega) (by rw [List.size_toArray,<- hl];exact h4) (by rw [hk];exact ⟨_,I',q⟩)
  · have hk : (k + (its.toArray.size : Int)).toNat = j := by
      rw [seqIndex_neg (by omega) h3] at h1
      rw [List.size_toArray,<- hl]
      exact Option.some.inj h1
    exact PySem.W.ki_setBack ho (by omega) (by rw [List.size_toArray,<- hl];exact h3) (by omega) (by rw [hk];exact ⟨_,I',q⟩)
theorem ZP (lo hi:Option Int)(n:Nat):(sliceBounds lo hi none n).1=((HT.sIx n 0 lo:Nat):Int)/\(sliceBounds lo hi none n).2.1=((HT.sIx n n hi:Nat):Int)/\(sliceBounds lo hi none n).2.2=1:=by
 refine ⟨?_,?_,rfl⟩
 ·cases lo with
  | none=>simp [sliceBounds,HT.sIx]
  | some i=>
   simp only [sliceBounds,HT.sIx,Option.getD_none,show (1:Int) > 0 by decide,if_true]
   by_cases h:i<0
   ·simp only [h,if_true] <;> omega
   ·simp only [h,if_false] <;> omega
 ·cases hi with
  | none=>simp [sliceBounds,HT.sIx]
  | some i=>
   simp only [sliceBounds,HT.sIx,Option.getD_none,show (1:Int) > 0 by decide,if_true]
   by_cases h:i<0
   ·simp only [h,if_true] <;> omega
   ·simp only [h,if_false] <;> omega
theorem wt (its:List Value)(lo hi:Option Int):slicePick its.toArray lo hi none=((its.drop (HT.sIx its.length 0 lo)).take (HT.sIx its.length its.length hi - HT.sIx its.length 0 lo)).toArray:=by
 obtain ⟨h1,h2,h3⟩:=ZP lo hi its.toArray.size
 unfold slicePick
 rw [h1,h2,h3]
 simp only [sliceRange_one,pick_run,List.size_toArray] <;> rfl
noncomputable def GX (K:PySem.W.Frag):V->Option Int->Option Int->Hp->VK->Prop:=fun x lo hi H Q=>∃ a xs,x=.ref a/\SqL K H a xs/\∀ p,H p=none->Q (.ref p) (upd H p (.lst (ww xs lo hi)))
theorem qu:SlR X (GX X.K):=by
 intro pins s σ H x v vl vu lo hi sl Q I rx hs pl pu h
 obtain ⟨a,xs,rfl,hx,q⟩:=h
 cases rx
 obtain ⟨its,r,ht,hz⟩:=I.list hx
 have hlen:=r.length
 refine ⟨"list",_,slot_list_getitem.lookup,ht.isList.typeIs,?_⟩
 refine wpAny_getItem_list_slice ht.isList hs pl pu .none (by simp) ?_ (by rw [List.size_toArray] <;> omega)
 rw [wt,<- hlen]
 refine ⟨.ref s.heap.objs.size,_,I.laid (t':=s.toks) (o:=.lst (ww xs lo hi)) (fun b ob q=>Heap.get?_push_of_some _ q) (Nat.le_refl _) ?_,rfl,q _ (I.hok.fresh (Nat.le_refl _))⟩
 exact ⟨Nat.le_trans (vd xs lo hi) hz,_,0,(r.drop (HT.sIx xs.length 0 lo)).take (HT.sIx xs.length xs.length hi - HT.sIx xs.length 0 lo),Heap.get?_push_size _ rfl⟩
noncomputable def kF:V->Bool
 | .non=>true
 | .bl _=>true
 | .int _=>true
 | .str _=>true
 | _=>false
noncomputable def eqV:V->V->Bool
 | .non,.non=>true
 | .bl a,.bl b=>a == b
 | .bl a,.int b=>(if a then 1 else 0) == b
 | .int a,.bl b=>a == (if b then 1 else 0)
 | .int a,.int b=>a == b
 | .str a,.str b=>a == b
 | _,_=>false
theorem GJ {A:Around}{s:Shared}{y x:V}{u v:Value}(ry:zH y u)(rx:zH x v)(fy:kF y=true)(fx:kF x=true):SeqAt.EqAt A s u v (eqV y x):=by
 cases y with
 | non=>
  cases ry
  cases x with
  | non=>cases rx;exact SeqAt.EqAt.same _
  | bl b=>cases rx;exact SeqAt.EqAt.none_bool b
  | int b=>obtain ⟨t,rfl⟩:=rx;exact SeqAt.EqAt.none_int b t
  | str b=>obtain ⟨t,rfl⟩:=rx;exact SeqAt.EqAt.none_str b t
  | _=>exact absurd (show false=true from fx) Bool.false_ne_true
 | bl a=>
  cases ry
  cases x with
  | non=>cases rx;exact SeqAt.EqAt.bool_none a
  | bl b=>cases rx;exact SeqAt.EqAt.bool_bool a b
  | int b=>obtain ⟨t,rfl⟩:=rx;exact SeqAt.EqAt.bool_int a b t
  | str b=>obtain ⟨t,rfl⟩:=rx;exact SeqAt.EqAt.bool_str a b t
  | _=>exact absurd (show false=true from fx) Bool.false_ne_true
 | int a=>
  obtain ⟨t',rfl⟩:=ry
  cases x with
  | non=>cases rx;exact SeqAt.EqAt.int_none a t'
  | bl b=>cases rx;exact SeqAt.EqAt.int_bool a t' b
  | int b=>obtain ⟨t,rfl⟩:=rx;exact SeqAt.EqAt.int_int a t' b t
  | str b=>obtain ⟨t,rfl⟩:=rx;exact SeqAt.EqAt.int_str a t' b t
  | _=>exact absurd (show false=true from fx) Bool.false_ne_true
 | str a=>
  obtain ⟨t',rfl⟩:=ry
  cases x with
  | non=>cases rx;exact SeqAt.EqAt.str_none a t'
  | bl b=>cases rx;exact SeqAt.EqAt.str_bool a t' b
  | int b=>obtain ⟨t,rfl⟩:=rx;exact SeqAt.EqAt.str_int a t' b t
  | str b=>obtain ⟨t,rfl⟩:=rx;exact SeqAt.EqAt.str_str a t' b t
  | _=>exact absurd (show false=true from fx) Bool.false_ne_true
 | _=>exact absurd (show false=true from fy) Bool.false_ne_true
noncomputable def eqU (x:V)(u:Value):Bool:=match u with
 | .none=>eqV .non x
 | .bool b=>eqV (.bl b) x
 | .int i _=>eqV (.int i) x
 | .str z _=>eqV (.str z) x
 | _=>false
theorem Kg {x y:V}{u:Value}(r:zH y u)(f:kF y=true):eqU x u=eqV y x:=by
 cases y with
 | non=>cases r;rfl
 | bl b=>cases r;rfl
 | int i=>obtain ⟨t,rfl⟩:=r;rfl
 | str z=>obtain ⟨t,rfl⟩:=r;rfl
 | _=>exact absurd (show false=true from f) Bool.false_ne_true
theorem yh {x:V}:∀ {xs:List V} {us:List Value},zG xs us->xs.all kF=true->us.any (eqU x)=xs.any fun y=>eqV y x
 | _,_,.nil,_=>rfl
 | y :: xs,u :: us,.cons r t,f=>by
  rw [List.all_cons,Bool.and_eq_true] at f
  rw [List.any_cons,List.any_cons,Kg r f.1,yh t f.2]
theorem kg {A:Around}{s:Shared}{x:V}{v:Value}(rx:zH x v)(fx:kF x=true):∀ {xs:List V} {us:List Value},zG xs us->xs.all kF=true->∀ u ∈ us,SeqAt.EqAt A s u v (eqU x u)
 | _,_,.nil,_=>fun u hu=>by cases hu
 | y :: xs,u :: us,.cons r t,f=>fun u' hu=>by
  rw [List.all_cons,Bool.and_eq_true] at f
  rcases List.mem_cons.mp hu with rfl | hu
  ·rw [Kg r f.1];exact GJ r rx f.1 fx
  ·exact kg rx fx t f.2 u' hu
noncomputable def inV (x:V)(xs:List V):Bool:=xs.any fun y=>eqV y x
noncomputable def rIn (K:PySem.W.Frag)(neg:Bool):R2:=fun x y H Q=>∃ p xs,y=.ref p/\(SqL K H p xs \/ SqT K H p xs)/\kF x=true/\xs.all kF=true/\Q (.bl (if neg then !inV x xs else inV x xs)) H
theorem yH:OpR X (compareOp .In) (rIn X.K false):=by
 intro pins s σ H x y v u Q I rx ry h
 obtain ⟨p,xs,rfl,hq,fx,fs,q⟩:=h
 cases ry
 rcases hq with hq | hq
 ·obtain ⟨its,r,pl,hz⟩:=I.list hq
  refine SeqAt.in_listAt (eqU x) pl.isList (fun w hw=>kg rx fx r fs w (by simpa using hw)) ⟨.bl _,H,I,rfl,?_⟩
  rw [show its.toArray.any (eqU x)=its.any (eqU x) by simp,yh r fs]
  exact q
 ·obtain ⟨its,r,pl,hz⟩:=I.tuple hq
  refine SeqAt.in_tupleAt (eqU x) pl (fun w hw=>kg rx fx r fs w (by simpa using hw)) ⟨.bl _,H,I,rfl,?_⟩
  rw [show its.toArray.any (eqU x)=its.any (eqU x) by simp,yh r fs]
  exact q
theorem ZO:OpR X (compareOp .NotIn) (rIn X.K true):=by
 intro pins s σ H x y v u Q I rx ry h
 obtain ⟨p,xs,rfl,hq,fx,fs,q⟩:=h
 cases ry
 rcases hq with hq | hq
 ·obtain ⟨its,r,pl,hz⟩:=I.list hq
  refine SeqAt.notIn_listAt (eqU x) pl.isList (fun w hw=>kg rx fx r fs w (by simpa using hw)) ⟨.bl _,H,I,rfl,?_⟩
  rw [show its.toArray.any (eqU x)=its.any (eqU x) by simp,yh r fs]
  exact q
 ·obtain ⟨its,r,pl,hz⟩:=I.tuple hq
  refine SeqAt.notIn_tupleAt (eqU x) pl (fun w hw=>kg rx fx r fs w (by simpa using hw)) ⟨.bl _,H,I,rfl,?_⟩
  rw [show its.toArray.any (eqU x)=its.any (eqU x) by simp,yh r fs]
  exact q
theorem zp:jy X (.builtin "len") (fun xs H Q=>∃ p ys,xs=[.ref p]/\(SqL X.K H p ys \/ SqT X.K H p ys)/\Q (.int ys.length) H):=by
 intro pins s σ H xs us Q I r h
 obtain ⟨p,ys,rfl,hq,q⟩:=h
 obtain ⟨u,rfl,rx⟩:=kU r
 cases rx
 have hn:=vN
 rcases hq with hq | hq
 ·obtain ⟨its,r',pl,hz⟩:=I.list hq
  have hlen:=r'.length
  exact Calls.call_len_list pl.isList (by simp only [List.size_toArray] <;> omega) ⟨.int ys.length,H,I.tok _,⟨s.toks+1,by rw [List.size_toArray,hlen]⟩,q⟩
 ·obtain ⟨its,r',pl,hz⟩:=I.tuple hq
  have hlen:=r'.length
  exact len_tuple pl (by simp only [List.size_toArray] <;> omega) ⟨.int ys.length,H,I.tok _,⟨s.toks+1,by rw [List.size_toArray,hlen]⟩,q⟩
theorem jP:jy X (.type "list") (fun xs H Q=>∃ p ys,xs=[.ref p]/\(SqL X.K H p ys \/ SqT X.K H p ys)/\∀ l,H l=none->Q (.ref l) (upd H l (.lst ys))):=by
 intro pins s σ H xs us Q I r h
 obtain ⟨p,ys,rfl,hq,q⟩:=h
 obtain ⟨u,rfl,rx⟩:=kU r
 cases rx
 have fin:∀ (its:List Value),zG ys its->ys.length<=sizeLine->∀ (h':Heap) (c':Nat),(∀ b o',s.heap.get? b=some o'->h'.get? b=some o') ->
   h'.get? s.heap.objs.size=some { cls:=.type "list",dict:=none,data:=.seq its.toArray c',slots:=#[] }->EP X pins σ Q (.ref s.heap.objs.size) { s with heap:=h' }:=fun its r' hz h' c' kp e=>
  ⟨.ref s.heap.objs.size,_,I.laid (t':=s.toks) kp (Nat.le_refl _) (show zW X.prog X.w _ h' _ (.lst ys) from ⟨hz,its,c',r',e⟩),rfl,q _ (I.hok.fresh (Nat.le_refl _))⟩
 rcases hq with hq | hq
 ·obtain ⟨its,r',pl,hz⟩:=I.list hq
  have hlen:=r'.length
  obtain ⟨o,ho,hc,n,hd⟩:=pl.isList
  exact call_list_seq p (.inl rfl) ho hc hd (fun h' c' kp e=>fin its r' hz h' c' kp e) (by simp only [List.size_toArray] <;> omega)
 ·obtain ⟨its,r',pl,hz⟩:=I.tuple hq
  have hlen:=r'.length
  obtain ⟨o,ho,hc,n,hd⟩:=pl
  exact call_list_seq p (.inr rfl) ho hc hd (fun h' c' kp e=>fin its r' hz h' c' kp e) (by simp only [List.size_toArray] <;> omega)
theorem qt:jy X (.type "tuple") (fun xs H Q=>∃ p ys,xs=[.ref p]/\((SqL X.K H p ys/\∀ l,H l=none->Q (.ref l) (upd H l (.tup ys))) \/ (SqT X.K H p ys/\Q (.ref p) H))):=by
 intro pins s σ H xs us Q I r h
 obtain ⟨p,ys,rfl,h⟩:=h
 obtain ⟨u,rfl,rx⟩:=kU r
 cases rx
 rcases h with ⟨hq,q⟩ | ⟨hq,q⟩
 ·obtain ⟨its,r',pl,hz⟩:=I.list hq
  have hlen:=r'.length
  refine call_tuple_list pl.isList (fun h' kp=>?_) (by simp only [List.size_toArray] <;> omega)
  have I1:Inv X pins σ H { s with heap:=h' }:=I.kept (t':=s.toks) kp
  have I2:Inv X pins σ (upd H h'.objs.size (.tup ys)) { s with heap:=h'.push { cls:=.type "tuple",data:=.seq its.toArray } }:=
   I1.laid (t':=s.toks) (fun b o e=>Heap.get?_push_of_some _ e) (Nat.le_refl _) (show zW X.prog X.w _ _ _ (.tup ys) from ⟨hz,its,r',wu.new _ _⟩)
  exact ⟨.ref h'.objs.size,_,I2,rfl,q _ (I1.hok.fresh (Nat.le_refl _))⟩
 ·obtain ⟨its,r',pl,hz⟩:=I.tuple hq
  exact call_tuple_same pl ⟨.ref p,H,I,rfl,q⟩
noncomputable def tyV (K:PySem.W.Frag)(T:String)(x:V)(H:Hp):Prop:=match x with
  | .str _=>T="str"
  | .int _=>T="int"
  | .ref p => (T = "list" /\ ∃ xs, SqL K H p xs) \/ (T = "tuple" /\ ((∃ xs, Rd H p (.tup xs)) \/ ∃ o, K.lookup p = some o /\ o.cls = .type "tuple" /\ o.dict = none)) \/
      (T="dict"/\((∃ kvs,H p=some (.dK kvs)) \/ ∃ kvs,H p=some (.dT kvs))) \/ (T="set"/\∃ S n,H p=some (.set S n))
  | _=>False
theorem Gw {pins : List (Addr × Obj)}{σ : St}{H : Hp}{s : Shared}{T : String}{x : V}{v : Value}(I : Inv X pins σ H s)(r : zH x v)(ty : tyV X.K T x H) :
    s.TypeIs v T/\∀ a,v=.ref a->∃ ob,s.heap.get? a=some ob/\ob.dict=none:=by
  cases x with
  | str z=>
    obtain ⟨t,rfl⟩:=r
    cases (show T="str" from ty)
    exact ⟨typeIs_str s z t,fun _ e=>nomatch e⟩
  | int i=>
    obtain ⟨t,rfl⟩:=r
    cases (show T="int" from ty)
    exact ⟨typeIs_int s i t,fun _ e=>nomatch e⟩
  | ref p=>
    cases r
    rcases ty with ⟨rfl,xs,hq⟩ | ⟨rfl,⟨xs,hx⟩ | ⟨o,hk,hc,hd⟩⟩ | ⟨rfl,hk⟩ | ⟨rfl,S,n,hk⟩
    · obtain ⟨its,_,pl,_⟩:=I.list hq
      refine ⟨pl.isList.typeIs,fun a e=>?_⟩
      cases e
      obtain ⟨o,n,e,c,hd,_⟩:=pl
      exact ⟨o,e,hd⟩
    · obtain ⟨_,its,_,o,e,c,_,hd⟩:=hx.ok I.hok
      refine ⟨⟨o,e,c⟩,fun a e2=>?_⟩
      cases e2
      exact ⟨o,e,hd⟩
    · refine ⟨⟨o,I.kIn p o hk,hc⟩,fun a e=>?_⟩
      cases e
      exact ⟨o,I.kIn _ o hk,hd⟩
    · have z : ∃ o, s.heap.get? p = some o /\ o.ExactDict := by
        rcases hk with ⟨kvs,hk⟩ | ⟨kvs,hk⟩
        · obtain ⟨_,_,_,_,o,_,_,e,ex,_⟩:=I.hok p _ hk
          exact ⟨o,e,ex⟩
        · obtain ⟨_,_,_,_,o,_,_,e,ex,_⟩:=I.hok p _ hk
          exact ⟨o,e,ex⟩
      obtain ⟨o,e,ex⟩:=z
      refine ⟨⟨o,e,ex.1⟩,fun a e2=>?_⟩
      cases e2
      exact ⟨o,e,ex.2.1⟩
    · obtain ⟨o,_,_,_,e,ex,_⟩:=I.hok p _ hk
      refine ⟨⟨o,e,ex.1⟩,fun a e2=>?_⟩
      cases e2
      exact ⟨o,e,ex.2.1⟩
  | _=>exact False.elim ty
noncomputable def tBM (K:PySem.W.Frag)(T:String)(r:V->List V->Hp->VK->Prop)(to:TE)(t:TA):TE:=fun σ H Q=>to σ H fun x H1=>tyV K T x H1/\t σ H1 fun xs H2=>r x xs H2 Q
variable {o e:Expr}{es:List Expr}{to:TE}{t:TA}{name:Str}{apos cpos:Pos}{T id:String}{r:V->List V->Hp->VK->Prop}
theorem yT (pa:PlainAttrs T)(slot:Slot T name id)(hty:typeOf (.builtin id)=pure (.type "method_descriptor"))(hm:MtR X id r)(ho:PE X o to)(ha:PA X (e :: es) t)
  (hbase:attributeBase o name X.env (eval o X.env)=eval o X.env:=by rfl)
  (hfew:((backTo cpos (starEach (e :: es) X.env)).all (fun x=>!x.1) && (backToKw cpos (keywordEach [] X.env)).all (fun x=>x.1.isSome)
   && decide ((e :: es).length+([]:List Keyword).length+(if ([]:List Keyword).isEmpty then 0 else 1)<30))=true:=by rfl)
  (hline:(apos.endLine == cpos.line)=true:=by rfl) (hs:starEach (e :: es) X.env=(false,eval e X.env) :: starEach es X.env:=by rfl) (hplain:(backTo cpos (starEach es X.env)).any (·.1)=false:=by rfl) :
  PE X (.Call (.Attribute o name apos) (e :: es) [] cpos) (tBM X.K T r to t):=by
 intro pins s σ H Q I h
 refine wpAny_Call_method_late hbase hfew hline rfl (thn (ho pins s σ H _ I h) fun v s1 ⟨x,H1,I1,r1,ty,q1⟩=>?_)
 obtain ⟨h1,h2⟩:=Gw I1 r1 ty
 refine ⟨T,id,pa,slot,hty,h1,h2,?_⟩
 have hA:=ha cpos pins s1 σ H1 _ I1 q1
 rw [hs] at hA ⊢
 refine Calls.callWith_builtin (by show (false || (backTo cpos (starEach es X.env)).any (·.1))=false;rw [hplain] <;> rfl) (Calls.evalArgs_plain ?_)
 exact thn hA fun us s2 ⟨vs,H2,I2,r2,q2⟩=>hm pins s2 σ H2 x vs v us Q I2 r1 r2 q2
/- xs.append(e),list.index on a module's tuple .. are MtR facts of 06m -/
end
noncomputable def MtM (X:Cx)(id:String)(r:V->List V->Hp->VK->Prop):Prop:=
 ∀ (pins:List (Addr × Obj)) (s:Shared) (σ:St) (H:Hp) (x:V) (xs:List V) (v:Value) (us:List Value) (Q:VK),Inv X pins σ H s->zH x v->zG xs us->r x xs H Q ->
  wpAny (model X.prog X.w) X.A (call (.builtin id) (v :: us)) (EP X pins σ Q) X.xe s
theorem zG.one:∀ {x:V} {us:List Value},zG [x] us->∃ u,us=[u]/\zH x u
 | _,_,.cons r .nil=>⟨_,rfl,r⟩
theorem zG.dropLast {xs:List V}{us:List Value}(h:zG xs us):zG xs.dropLast us.dropLast:=by
 induction h with
 | nil=>exact .nil
 | cons r t ih=>
  cases t with
  | nil=>exact .nil
  | cons q t'=>exact .cons r ih
theorem zG.rep {xs:List V}{us:List Value}(h:zG xs us):∀ k:Nat,zG (List.replicate k xs).flatten (List.replicate k us).flatten
 | 0=>.nil
 | k+1=>by
  rw [List.replicate_succ,List.replicate_succ,List.flatten_cons,List.flatten_cons]
  exact zG.append h (zG.rep h k)
theorem wx (its:List Value):∀ (k:Nat) (acc:List Value),
  List.foldl (fun x1 x2=>x1 ++ x2) acc.toArray (List.replicate k its.toArray)=(acc ++ (List.replicate k its).flatten).toArray
 | 0,acc=>by simp
 | k+1,acc=>by
  have e:acc.toArray ++ its.toArray=(acc ++ its).toArray:=by simp
  have e2:(acc ++ its) ++ (List.replicate k its).flatten=acc ++ (List.replicate (k+1) its).flatten:=by
   rw [List.replicate_succ,List.flatten_cons,List.append_assoc]
  rw [<- e2,<- wx its k (acc ++ its),<- e,List.replicate_succ,List.foldl_cons]
section
variable {X:Cx}{pins:List (Addr × Obj)}{σ:St}{H:Hp}{s:Shared}{l b:Addr}{xs ys zs:List V}
theorem Inv.lset {its its':List Value}{n:Nat}{f:Array Value->Array Value}{t':Nat}(I:Inv X pins σ H s)(hH:H l=some (.lst xs))
  (e:s.heap.get? l=some { cls:=.type "list",data:=.seq its.toArray n }) (hf:f its.toArray=its'.toArray) (hv:zG ys its') (hz:ys.length<=sizeLine) :
  Inv X pins σ (upd H l (.lst ys)) { s with heap:=s.heap.update l (Obj.mapSeq f),toks:=t' }:=by
 have q:=PySem.IsL.update e f
 rw [hf] at q
 refine I.write (x:=l) (e:=l) (by rw [hH];exact trivial) (.inl rfl) (fun b' u hb hu=>(Heap.get?_update_other s.heap (Obj.mapSeq f) (Ne.symm hb)).trans hu) ⟨_,q⟩ ?_
 exact ⟨hz,its',_,hv,q⟩
theorem Inv.lnew {its:List Value}{t':Nat}(I:Inv X pins σ H s)(hv:zG ys its)(hz:ys.length<=sizeLine) :
  Inv X pins σ (upd H s.heap.objs.size (.lst ys)) { s with heap:=s.heap.push { cls:=.type "list",data:=.seq its.toArray },toks:=t' }:=
 I.laid (fun _ _ q=>Heap.get?_push_of_some _ q) (Nat.le_refl _) ⟨hz,its,0,hv,Heap.get?_push_size _ rfl⟩
theorem Inv.fresh (I:Inv X pins σ H s):H s.heap.objs.size=none:=I.hok.fresh (Nat.le_refl _)
theorem Inv.lstM (I:Inv X pins σ H s)(hH:H l=some (.lst xs)):xs.length<=sizeLine/\∃ (its:List Value) (n:Nat),zG xs its/\xs.length=its.length/\s.heap.get? l=some { cls:=.type "list",data:=.seq its.toArray n }:=by
 obtain ⟨z,its,n,r,e⟩:=I.hok l _ hH
 exact ⟨z,its,n,r,r.length,e⟩
theorem Qg {n:Nat}(h:n<=sizeLine):Builtin.List.listTooLong n=false:=by
 unfold Builtin.List.listTooLong
 exact decide_eq_false (by omega)
end
section
variable {X:Cx}
noncomputable def vp:V->List V->Hp->VK->Prop:=fun x vs H Q=>∃ l xs y,x=.ref l/\vs=[y]/\H l=some (.lst xs)/\xs.length<sizeLine/\Q .non (upd H l (.lst (xs ++ [y])))
theorem wZ:MtM X "list.append" vp:=by
 intro pins s σ H x vs v us Q I rx rv h
 obtain ⟨l,xs,y,rfl,rfl,hH,hz,q⟩:=h
 cases rx
 obtain ⟨u,rfl,ru⟩:=rv.one
 obtain ⟨z,its,n,r,hl,e⟩:=I.lstM hH
 refine call_meets F.slot_list_append ⟨_,e,rfl⟩ F.entry_list_append (F.args_list_append_2 _ _) (PySem.list_append l its.toArray n u (by rw [List.size_toArray];omega)) ⟨e,?_⟩
 refine ⟨.non,_,I.lset (its':=its ++ [u]) hH e (by simp) (r.append (.cons ru .nil)) ?_,rfl,q⟩
 rw [List.length_append,List.length_singleton]
 omega
noncomputable def K5:V->List V->Hp->VK->Prop:=fun x vs H Q=>∃ l b xs zs,x=.ref l/\vs=[.ref b]/\H l=some (.lst xs)/\H b=some (.lst zs)/\xs.length+zs.length<=sizeLine/\Q .non (upd H l (.lst (xs ++ zs)))
theorem HS:MtM X "list.extend" K5:=by
 intro pins s σ H x vs v us Q I rx rv h
 obtain ⟨l,b,xs,zs,rfl,rfl,hH,hB,hz,q⟩:=h
 cases rx
 obtain ⟨u,rfl,ru⟩:=rv.one
 cases ru
 obtain ⟨z,its,n,r,hl,e⟩:=I.lstM hH
 obtain ⟨z2,its2,n2,r2,hl2,e2⟩:=I.lstM hB
 have hsz:its.toArray.size+its2.toArray.size<=sizeLine:=by rw [List.size_toArray,List.size_toArray];omega
 have hlong:¬ (!its.toArray.isEmpty && Builtin.List.listTooLong (its.toArray.size+its2.toArray.size))=true:=by
  rw [Qg hsz,Bool.and_false]
  exact Bool.false_ne_true
 refine call_meets F.slot_list_extend ⟨_,e,rfl⟩ F.entry_list_extend (F.args_list_extend_2 _ _)
  (AutoSeq1.list_extend_list_list_0 l its.toArray n b its2.toArray n2 hlong (by rw [List.size_toArray];omega) (by omega)) ⟨e,e2,?_⟩
 refine ⟨.non,_,I.lset (its':=its ++ its2) hH e (by simp) (r.append r2) ?_,rfl,q⟩
 rw [List.length_append]
 omega
noncomputable def BK:R2:=fun x y H Q=>∃ l b xs zs,x=.ref l/\y=.ref b/\H l=some (.lst xs)/\H b=some (.lst zs)/\xs.length+zs.length<=sizeLine/\∀ p,H p=none->Q (.ref p) (upd H p (.lst (xs ++ zs)))
theorem qH:OpR X (binaryOp .Add) BK:=by
 intro pins s σ H x y v u Q I rx ry h
 obtain ⟨l,b,xs,zs,rfl,rfl,hH,hB,hz,q⟩:=h
 cases rx
 cases ry
 obtain ⟨z,its,n,r,hl,e⟩:=I.lstM hH
 obtain ⟨z2,its2,n2,r2,hl2,e2⟩:=I.lstM hB
 refine PySem.P.add_list e e2 ?_ (by rw [List.size_toArray,List.size_toArray];omega)
 have ea:its.toArray ++ its2.toArray=(its ++ its2).toArray:=by simp
 rw [ea]
 exact ⟨.ref _,_,I.lnew (t':=s.toks) (r.append r2) (by rw [List.length_append];omega),rfl,q _ I.fresh⟩
noncomputable def DZ:R2:=fun x y H Q=>∃ l k xs,x=.ref l/\y=.int k/\H l=some (.lst xs)/\-(2 ^ 63)<=k/\k<2 ^ 63/\xs.length * k.toNat<=sizeLine /\
 ∀ p,H p=none->Q (.ref p) (upd H p (.lst (List.replicate k.toNat xs).flatten))
theorem BP {α:Type}(xs:List α)(k:Nat):(List.replicate k xs).flatten.length=k * xs.length:=by
 induction k with
 | zero=>simp
 | succ k ih=>rw [List.replicate_succ,List.flatten_cons,List.length_append,ih,Nat.succ_mul,Nat.add_comm]
theorem yM:OpR X (binaryOp .Mult) DZ:=by
 intro pins s σ H x y v u Q I rx ry h
 obtain ⟨l,k,xs,rfl,rfl,hH,h1,h2,hz,q⟩:=h
 cases rx
 obtain ⟨t,rfl⟩:=ry
 obtain ⟨z,its,n,r,hl,e⟩:=I.lstM hH
 have hlen:its.toArray.size * k.toNat<=sizeLine:=by rw [List.size_toArray,<- hl];exact hz
 have hcap:¬ its.toArray.size * k.toNat > (2 ^ 63 - 1) / 8:=by
  have:(sizeLine:Nat)<=(2 ^ 63 - 1) / 8:=by decide
  omega
 have hfit:¬ (!Builtin.List.listFitsIndex k)=true:=by
  rw [fitsIndex_both h1 h2]
  exact Bool.false_ne_true
 have hlong:¬ Builtin.List.listTooLong (its.toArray.size * k.toNat)=true:=by
  rw [Qg hlen]
  exact Bool.false_ne_true
 have hnew:List.foldl (fun x1 x2=>x1 ++ x2) #[] (List.replicate (if its.toArray.isEmpty=true then 0 else k.toNat) its.toArray)=(List.replicate k.toNat its).flatten.toArray:=by
  have f0:∀ m:Nat,List.foldl (fun x1 x2=>x1 ++ x2) #[] (List.replicate m its.toArray)=(List.replicate m its).flatten.toArray:=fun m=>by
   have:=wx its m []
   rw [List.nil_append] at this
   exact this
  rw [f0]
  cases its with
  | nil=>simp
  | cons a r'=>rw [if_neg (by simp)]
 refine wpAny_binaryOp_repeat_ref (T:="list") (U:="int") (by decide) ⟨_,e,rfl⟩ (fun s'=>typeIs_int s' k t) noFill_list_mul F.fills_int_mul F.slot_int_rmul repeat_list F.slot_int_index.lookup
  (call_meets F.slot_int_rmul (typeIs_int s k t) F.entry_int_rmul (F.args_int_rmul_2 _ _) (int___rmul___int_list k t l its.toArray n)
   ⟨e,rfl,⟨_,e,rfl⟩,call_meets F.slot_list_mul ⟨_,e,rfl⟩ F.entry_list_mul (F.args_list_mul_2 _ _) (AutoListH.list___mul___list_int_3 l its.toArray n k t hfit hcap hlong) ⟨e,?_⟩⟩)
 rw [hnew]
 exact ⟨.ref _,_,I.lnew (t':=s.toks) (r.rep k.toNat) (by rw [BP,Nat.mul_comm];exact hz),rfl,q _ I.fresh⟩
end
section
variable {prog:Program}{w:World}{A:Around}{E:Value->Shared->Prop}{s:Shared}
end
section
variable {X:Cx}
end
end L2
namespace Att
open PySem PySem.W PySem.Calls PyProof.Rows
theorem vk {P:Params}{h:Heap}:∀ (ns:List Int) (vs:List Value),WellAll P h vs (ns.map WData.int)->IntsAre vs ns:=by
 intro ns
 induction ns with
 | nil=>
  intro vs w
  rw [List.map_nil] at w
  cases w
  exact .nil
 | cons n ns ih=>
  intro vs w
  rw [List.map_cons] at w
  cases w with
  | cons a b=>
   cases a
   exact .cons _ _ (ih _ b)
theorem YK {l:OpenLaw}{n:Nat}(hn:l.most=some n){P:Params}{h:Heap}{args:List WData}{vals:List Value}
  (hpre:l.row.toRowW.claim.pre args=true) (hwl:WellAll P h vals args) :
  ∃ a vs ns,vals=[Value.ref a]/\args=[WData.list (ns.map WData.int)]/\h.get? a=some { cls:=.type "list",data:=.seq vs.toArray }/\IntsAre vs ns/\ns.length<=n:=by
 have hsh:WShape.hasAll [] args [.list .int]=true:=(pre_splitW hpre).1
 have hc:l.pre.holds [] { args:=args }=true:=(pre_splitW hpre).2
 obtain ⟨d,r,rfl,h1,h2⟩:=hasAllW_cons hsh
 obtain rfl:=hasAllW_nil h2
 obtain ⟨xs,rfl,h3⟩:=hasW_list h1
 obtain ⟨ns,rfl⟩:=items_int h3
 have hlen:ns.length<=n:=by
  unfold OpenLaw.pre at hc
  have h4:(WTm.not (.lt (.lit (.int (n:Int))) (.len (.arg 0)))).holds [] { args:=[.list (ns.map .int)] }=true:=by
   have h4:=(holds_andW hc).1
   rw [hn] at h4
   exact h4
  have h5:=condW_of h4 (w_not (w_lt w_lit (w_len_list (w_arg rfl))))
  rw [List.length_map] at h5
  refine Nat.le_of_not_lt fun q=>?_
  have q':(n:Int)<((ns.length:Nat):Int):=by omega
  first
   | (rw [decide_eq_true q'] at h5;exact absurd h5 (by decide))
   | (simp at h5;omega)
 cases hwl with
 | cons w1 w2=>
  cases w2
  cases w1 with
  | list ho hall=>exact ⟨_,_,ns,rfl,rfl,ho,vk ns _ hall,hlen⟩
theorem YE (l:OpenLaw)(args:List WData):l.row.toRowW.claim.post args (.bool true) args=true:=
 postW_of (r:=l.row.toRowW) (X:=(true == true))
  (show WShape.has [] (.bool true) .bool=true by first | rfl | decide | simp [WShape.has,WShape.arms,WShape.armsAll])
  (show (WTm.eq .res (.lit (.bool true))).value [] { args:=args,res:=some (.bool true),after:=args }=some (.bool (true == true)) from w_eq_bool (w_res rfl) w_lit) rfl
theorem attach_call {l:OpenLaw}{n:Nat}{q:Program}{loose:List Str}{XP:(Str->Option Value)->Heap->Prop}{YP:World->Heap->Prop}{d:DefRec}
  (hn:l.most=some n) (hdf:d.params.defaults=[])
  (call:∀ (w:World) (s₀ s₁:Shared) (mg mb:Str->Option Value) (fa:Addr) (o:Obj) (pm cd doc:Value) (a:Addr) (vs:List Value) (ns:List Int),
   Ground q loose [] XP w s₀ mg mb s₁.heap->YP w s₁.heap ->
   s₁.heap.get? fa=some o->o.data=.func (docDef d.name d.params d.body d.scope pm cd doc)->s₁.heap.CodeRec cd d.name->mg d.name=some (.ref fa) ->
   s₁.heap.get? a=some { cls:=.type "list",data:=.seq vs.toArray }->IntsAre vs ns->ns.length<=n->s₁.gens=#[] ->
   codeAny (model l.prog w) callerA (.call (.ref fa) ⟨[.ref a],[]⟩) (fun r s'=>r=.ok (.ret (.bool true))/\OldK s₁.heap s'.heap/\s'.os=s₁.os/\AllBare s'.gens) s₁) :
  WalkO q loose XP YP l.row.toRowW d [] (fun f vs=>PySem.call f vs):=by
 intro w s₀ s₁ mg mb G Y fa o pm cd doc dV kV ho hd hcd hD hmg hg args vals as hpre hlay hrd hwl hlo
 obtain rfl:dV=.none:=Dflts.none hD hdf
 obtain rfl:kV=.none:=Dflts.noKw hD
 obtain ⟨a,vs,ns,rfl,rfl,hobj,hints,hlen⟩:=YK hn hpre hwl
 refine enter_call (codeAny_mono (call w s₀ s₁ mg mb fa o pm cd doc a vs ns G Y ho (fd_plain hd) hcd hmg hobj hints hlen hg) fun r s' hq=>?_)
 obtain ⟨rfl,h2,h3,h4⟩:=hq
 exact ⟨.inl ⟨.bool true,.bool true,[],rfl,fun _=>rfl,.bool true,YE l _,fun _=>⟨List.Pairwise.nil,fun _ hm=>(nomatch hm)⟩⟩,h2,h3,h4⟩
section
variable {prog:Program}{w:World}{A:Around}{E:Value->Shared->Prop}{s:Shared}{K:Frag}
noncomputable def Lx (h:Heap)(L d:Addr):List (Addr × Obj):=(List.range h.objs.size).filterMap fun a=>if a=L \/ a=d then none else (h.get? a).map fun o=>(a,o)
end
end Att
namespace L2
open PySem PySem.Spec PyProof.Rows
theorem wU:∀ {vs:List Value} {ns:List Int},IntsAre vs ns->zG (ns.map V.int) vs
 | _,_,.nil=>.nil
 | _,_,.cons n t h=>.cons ⟨t,rfl⟩ (wU h)
noncomputable def Hx (H:Hp):Prop:=∀ b,H b=none \/ ∃ o xs,H b=some (.frz o (.lst xs))
theorem We {P:Program}{w:World}{K:PySem.W.Frag}{mg mb:Str->Option Value}{CX:CXT}{k:Nat}{fa a:Addr}{fd:FuncData}{x:Str}{sp:Sp}{s₁:Shared}{vs:List Value}{ns:List Int}
  (KX:K.In s₁.heap) (hns:s₁.heap.Ns mainGlobals mg) (hb:s₁.heap.Ns builtinsNs mb) (hbb:∀ x:Str,x ≠ "__name__"->mb x=bootBuiltins x) (hlim:s₁.heap.NoLimit) (hg:s₁.gens=#[])
  (ha:s₁.heap.get? a=some { cls:=.type "list",data:=.seq vs.toArray }) (hi:IntsAre vs ns) (hl:ns.length<=sizeLine) (hr:ql k callerA)
  (F:∀ base:Heap,K.In base->base.Ns mainGlobals mg->jx P w K mg base CX k fa fd [x] sp) (hbind:∀ (s:Shared) (u:Value),BindsTo s fd ⟨[u],[]⟩ [(x,u)])
  (hsp:∀ H:Hp,Hx H->SqL K H a (ns.map V.int)->sp [.ref a] H (fun v _=>v=.bl true) fun _ _ _=>False)
  (hCX:∀ H e s',CX [] H s₁ (fun _ _ _=>False) e s'->False) :
  codeAny (model P w) callerA (.call (.ref fa) ⟨[.ref a],[]⟩) (fun r s'=>r=.ok (.ret (.bool true))/\OldK s₁.heap s'.heap/\s'.os=s₁.os/\AllBare s'.gens) s₁:=by
 have rv:=wU hi
 have lenV:=hi.length
 have core:∀ H:Hp,Hx H->SqL K H a (ns.map V.int)->HOk P w H s₁.heap->(∀ b,H b ≠ none->b=a)->(H a ≠ none->K.lookup a=none) ->
   codeAny (model P w) callerA (.call (.ref fa) ⟨[.ref a],[]⟩) (fun r s'=>r=.ok (.ret (.bool true))/\OldK s₁.heap s'.heap/\s'.os=s₁.os/\AllBare s'.gens) s₁:=by
  intro H hO hS hok hA hK
  have base_of:∀ {b:Addr} {o:Obj},s₁.heap.get? b=some o->H b=none->(Zq s₁.heap H).get? b=some o:=fun e n=>Ve e n
  have noA:∀ {b:Addr} {o:Obj} {es:Array DictEntry} {ep:Nat},s₁.heap.get? b=some o->o.data=.dict es ep->H b=none:=fun {b o es ep} e d=>by
   cases q:H b with
   | none=>rfl
   | some u=>
    have e':b=a:=hA b (by rw [q];simp)
    subst e'
    rw [ha] at e;cases e
    have d':Data.seq vs.toArray _=Data.dict es ep:=d
    cases d'
  have nsK:∀ {b:Addr} {m:Str->Option Value},s₁.heap.Ns b m->(Zq s₁.heap H).Ns b m:=fun {b m} ⟨o,es,ep,e,d,r⟩=>⟨o,es,ep,base_of e (noA e d),d,r⟩
  have hKb:K.In (Zq s₁.heap H):=fun b o e=>base_of (KX b o e) (by
   cases q:H b with
   | none=>rfl
   | some u=>
    have e':b=a:=hA b (by rw [q];simp)
    subst e'
    rw [hK (by rw [q];simp)] at e;cases e)
  have hM:Mod K mg (Zq s₁.heap H):=⟨hKb,nsK hns,⟨mb,nsK hb,hbb⟩,let ⟨mc,h1,h2⟩:=hlim;⟨mc,nsK h1,h2⟩⟩
  have e0:ZZ P w K mg (Zq s₁.heap H) callerA [] s₁ H:=⟨rfl,hM,fun b o e=>EW e,Nat.le_of_eq (YL _ _),trivial,fun b hb=>absurd (show b ∈ ([]:List Addr) from hb) (by simp),hok,.of_eq hg⟩
  refine codeAny_mono ((F _ hKb (nsK hns)).run callerA [] s₁ H ⟨[.ref a],[]⟩ [.ref a] [.ref a] _ _ hr e0 (hbind s₁ (.ref a)) (.cons rfl .nil) (hsp H hO hS)) fun r s' h=>?_
  cases r with
  | error e=>exact (hCX H e s' h).elim
  | ok fl=>
   cases fl with
   | next=>exact False.elim h
   | brk=>exact False.elim h
   | cont=>exact False.elim h
   | ret u=>
    obtain ⟨v,H',os,bare,un,hok',r',q⟩:=h
    have q':v=.bl true:=q
    subst q'
    obtain rfl:u=Value.bool true:=r'
    refine ⟨rfl,OldK.of_keep fun b o e=>?_,os,bare⟩
    cases q:H b with
    | none=>exact un.keep b o e q (by intro z;exact absurd (show b ∈ ([]:List Addr) from z) (by simp)) (by simp)
    | some u=>
     rcases hO b with z | ⟨ob,xs,z⟩
     ·rw [q] at z;cases z
     ·have z2:=un.frzs b ob _ z
      obtain ⟨e1,_⟩:=hok b _ z
      obtain ⟨e2,_⟩:=hok' b _ z2
      rw [e] at e1;cases e1
      exact e2
 cases hk:K.lookup a with
 | some o=>
  have e:=KX a o hk
  rw [ha] at e
  cases e
  refine core (fun _=>none) (fun _=>.inl rfl) (.inr ⟨_,vs.toArray,_,hk,rfl,rfl,rfl,by rw [List.size_toArray,lenV];exact hl,by simpa using rv⟩) (fun b u z=>by have z':(none:Option HO)=some u:=z;cases z') (fun b z=>absurd rfl z) fun z=>absurd rfl z
 | none=>
  refine core (fun b=>if b=a then some (.frz { cls:=.type "list",data:=.seq vs.toArray } (.lst (ns.map V.int))) else none) (fun b=>?_) (.inl (.inr ⟨{ cls:=.type "list",data:=.seq vs.toArray },if_pos rfl⟩)) (fun b u z=>?_) (fun b z=>?_) fun _=>hk
  ·by_cases hb:b=a
   ·exact .inr ⟨_,_,if_pos hb⟩
   ·exact .inl (if_neg hb)
  ·by_cases hb:b=a
   ·have z':=(if_pos hb).symm.trans z
    cases z'
    subst hb
    exact ⟨ha,by rw [List.length_map];exact hl,vs,_,rv,ha⟩
   ·have z':=(if_neg hb).symm.trans z
    cases z'
  ·by_cases hb:b=a
   ·exact hb
   ·exact absurd (if_neg hb) z
noncomputable abbrev KOf {K:PySem.W.Frag}{h:Heap}(_:K.In h):PySem.W.Frag:=K
theorem walk_of {l:PySem.W.OpenLaw}{n k:Nat}{q:Program}{loose:List Str}{XP:(Str->Option Value)->Heap->Prop}{YP:World->Heap->Prop}{d:DefRec}{K:Params->PySem.W.Frag}{CX:World->CXT}{sp:World->Sp}{x:Str}
  (hn:l.most=some n) (hn2:n<=sizeLine) (hdf:d.params.defaults=[]) (hr:ql k callerA)
  (hY:∀ (w:World) (h:Heap),YP w h->(K w.params).In h)
  (F:∀ (w:World) (mg:Str->Option Value) (fa:Addr) (h:Heap),(K w.params).In h->h.Ns mainGlobals mg->mg d.name=some (.ref fa) ->
   ∃ fd:FuncData,(∀ (s:Shared) (u:Value),BindsTo s fd ⟨[u],[]⟩ [(x,u)]) /\
    ∀ base:Heap,(K w.params).In base->base.Ns mainGlobals mg->jx l.prog w (K w.params) mg base (CX w) k fa fd [x] (sp w))
  (hsp:∀ (w:World) (H:Hp) (a:Addr) (ns:List Int),ns.length<=n->Hx H->SqL (K w.params) H a (ns.map V.int)->sp w [.ref a] H (fun v _=>v=.bl true) fun _ _ _=>False)
  (hCX:∀ (w:World) (H:Hp) (s:Shared) (e:Value) (s':Shared),CX w [] H s (fun _ _ _=>False) e s'->False) :
  PySem.W.WalkO q loose XP YP l.row.toRowW d [] (fun f vs=>PySem.call f vs):=by
 refine Att.attach_call hn hdf fun w s₀ s₁ mg mb fa o pm cd doc a vs ns G Y ho hd hcd hmg hobj hints hlen hg=>?_
 have KX:=hY w _ Y
 obtain ⟨fd,hb,hF⟩:=F w mg fa _ KX G.T.g hmg
 exact We KX G.T.g G.T.b G.T.builtins G.T.nolimit hg hobj hints (Nat.le_trans hlen hn2) hr hF hb (fun H hO hS=>hsp w H a ns hlen hO hS) fun H e s'=>hCX w H s₁ e s'
end L2
/- THE LAST THEOREM (shape;LID,My.* are yours):
   My.Adr: a structure of the addresses that your layer names (classes,functions);My.Txt K t: a structure (Prop) of the equations over K;
   My.txt_mk:{K} {implicit addresses ..} (e1:nsIn K mainGlobals "law"=some (some (.ref f))) (e2:K.lookup f=some ⟨oc,od,.func (fnOf "law" "law" params body scope dV kV doc pm an cdv ct),sl⟩) (e3:codeIn K cdv "law"=true) ..:∃ t,My.Txt K t
set_option maxRecDepth 100000 in
set_option maxHeartbeats 0 in
theorem PySem.Challenge.cw_LID_holds:PySem.Challenge.rw_LID.Holds:=by
 w_on;o_law;k_head;(case hw=>w_witness2)
 k_fill
 refine L2.walk_of (l:=PySem.Challenge.rw_LID) (n:=63) (k:=40) (x:="script") (CX:=fun w=>..) (sp:=fun _=>My.sp_law) rfl (by decide) rfl ⟨rfl,by decide,by decide⟩ (fun w h Y=>PySem.W.kIn_of Y) ?F ?S ?C
 case F=>
  intro w mg fa h KX G hmg
  have T:∃ t,My.Txt (L2.KOf KX) t:=by
   dsimp only [L2.KOf]                          -- K must stand as «<heap const> w.params» for k_is
   refine' My.txt_mk ?e1 ?e2 ?e3 ..
   (case e1=>PySem.W.k_is)                    -- in the order: a name->its address->its object->its parts
   (case e2=>PySem.W.k_is)
   ..
  obtain ⟨t,T⟩:=T
  have e0:=hmg.symm.trans (PySem.W.mg_of KX G T.law)
  cases e0                                       -- fa is the law's own address
  exact ⟨_,fun s u=>.of_eq rfl,fun base kb nb=>My.law_fn T kb nb⟩     -- if «.of_eq rfl» comes too early: refine' ⟨_,?b,fun base kb nb=>My.law_fn T kb nb⟩;exact fun s u=>.of_eq rfl
 case S=>exact fun w H a ns hl hO hS=>..
 case C=>exact ..
(the tactic k_is has no namespace: write k_is) -/
namespace L2
open PySem PySem.Spec PyProof.Rows
noncomputable def ja (s:Stmt)(j:Nat):Stmt:=match s with
 | .ClassDef _ _ _ body _ _ _ _ _ _ _=>body.getD j (.Pass ⟨0,0,0,0⟩)
 | _=>.Pass ⟨0,0,0,0⟩
noncomputable def qm (s:Stmt):Arguments:=match s with
 | .FunctionDef _ a _ _ _ _ _ _ _ _=>a
 | _=>{ posonlyargs:=[],args:=[],vararg:=none,kwonlyargs:=[],kw_defaults:=[],kwarg:=none,defaults:=[] }
noncomputable def zM (s:Stmt):List Stmt:=match s with
 | .FunctionDef _ _ b _ _ _ _ _ _ _=>b
 | _=>[]
noncomputable def ze (s:Stmt):Scope:=match s with
 | .FunctionDef _ _ _ _ _ _ sc _ _ _=>sc
 | _=>{ kind:=.function,names:=[],isGenerator:=false,isCoroutine:=false }
noncomputable abbrev CX0:CXT:=fun _ _ _ _ _ _=>False
noncomputable abbrev E0:XK:=fun _ _ _=>False
theorem Xp {X:Cx}:xh CX0 X E0:=fun _ _ _ _ _ _ _ h=>h.elim
structure Fun (K:PySem.W.Frag)(x qual:Str)(st:Stmt)(f:Addr)(fd:FuncData):Prop where
 ex:∃ (oc:Value) (od:Option Addr) (kV doc pm:Value) (an:Option Addr) (cdv ct:Value) (osl:Array (Option Value)),
  fd=PySem.W.fnOf x qual (qm st) (zM st) (ze st) .none kV doc pm an cdv ct/\K.lookup f=some ⟨oc,od,.func fd,osl⟩/\PySem.W.codeIn K cdv qual=true
 kp:PySem.W.keepIn K (.ref f)=true
section
variable {P:Program}{w:World}{K:PySem.W.Frag}{mg:Str->Option Value}{base:Heap}
theorem Fun.ok {x qual:Str}{st:Stmt}{f:Addr}{fd:FuncData}{N ps:List Str}{k:Nat}{sp:Sp}(F:Fun K x qual st f fd)(S:zt N ps (ze st))(len:∀ vs H Q E,sp vs H Q E->vs.length=ps.length)
  (hbody:∀ (cdv:Value) (A:Around) (outer:List Env) (s:Shared) (H:Hp) (vs:List V) (Q:VK) (E:XK),ql k (A.deeper (envOfC qual (ze st) s.heap.objs.size f cdv))->sp vs H Q E ->
   ∃ t,PSs (jD CX0 P w K mg base N qual (ze st) f cdv A outer s H E).nox (zM st) t/\t { nx:=fun _ H'=>Q .non H',rt:=Q } (qL N vs) H):jx P w K mg base CX0 (k+1) f fd ps sp:=by
 obtain ⟨oc,od,kV,doc,pm,an,cdv,ct,osl,rfl,lk,hcd⟩:=F.ex
 refine Vp lk hcd S len fun A outer s H vs Q E hr hsp=>?_
 obtain ⟨t,h,q⟩:=hbody cdv A outer s H vs Q E hr hsp
 exact ⟨t,h.nox,q⟩
theorem Fun.binds {x qual:Str}{st:Stmt}{f:Addr}{fd:FuncData}{ps:List Str}(F:Fun K x qual st f fd)
  (h:∀ (kV doc pm:Value) (an:Option Addr) (cdv ct:Value) (us:List Value),us.length=ps.length->bindArgs (PySem.W.fnOf x qual (qm st) (zM st) (ze st) .none kV doc pm an cdv ct) ⟨us,[]⟩=pure (ps.zip us)):jB K fd ps []:=by
 obtain ⟨oc,od,kV,doc,pm,an,cdv,ct,osl,rfl,lk,hcd⟩:=F.ex
 exact .all (h kV doc pm an cdv ct)
theorem fun_mk {x qual:Str}{st:Stmt}{f:Addr}{oc:Value}{od an:Option Addr}{osl:Array (Option Value)}{kV doc pm cdv ct:Value}(l:K.lookup f=some ⟨oc,od,.func (PySem.W.fnOf x qual (qm st) (zM st) (ze st) .none kV doc pm an cdv ct),osl⟩)
  (c:PySem.W.codeIn K cdv qual=true) (k:PySem.W.keepIn K (.ref f)=true):Fun K x qual st f (PySem.W.fnOf x qual (qm st) (zM st) (ze st) .none kV doc pm an cdv ct):=⟨⟨oc,od,kV,doc,pm,an,cdv,ct,osl,rfl,l,c⟩,k⟩
end
section
variable {X:Cx}
theorem pv (i:Nat){x:Str}{pos:Pos}(hN:X.N[i]?=some x:=by rfl)(hv:Vis X.env.scope x:=by first | exact Or.inl rfl | exact Or.inr (Or.inl rfl) | exact Or.inr (Or.inr rfl))(hd:(x == ("__debug__":Str))=false:=by decide)
  (hcd:(x == ("__classdict__":Str))=false:=by decide):PE X (.Name x pos) (wo i):=G4 hN hv hd hcd
end
theorem IW {c A B:Prop}[Decidable c](h1:c->A)(h2:¬ c->B):if c then A else B:=by
 by_cases h:c
 ·rw [if_pos h]
  exact h1 h
 ·rw [if_neg h]
  exact h2 h
section
variable {κ:Type}[DecidableEq κ]
noncomputable def vE (kvs:List (κ × V))(k:κ):Option V:=(kvs.find? fun kv=>decide (kv.1=k)).map (·.2)
theorem Am {p:κ × V}{r:List (κ × V)}{k:κ}(e:p.1=k):vE (p :: r) k=some p.2:=by simp [vE,List.find?_cons,e]
theorem WT {p:κ × V}{r:List (κ × V)}{k:κ}(e:¬ p.1=k):vE (p :: r) k=vE r k:=by simp [vE,List.find?_cons,e]
theorem xR.getD {o:Option V}{u:Option Value}{d:V}{d':Value}(r:xR o u)(rd:zH d d'):zH (o.getD d) (u.getD d'):=by
 cases o with
 | none=>cases u with
  | none=>exact rd
  | some _=>exact (show False from r).elim
 | some _=>cases u with
  | none=>exact (show False from r).elim
  | some _=>exact r
theorem KV.val {kvs:List (κ × V)}{vs:List (κ × Value)}(r:KV kvs vs)(k:κ):xR (vE kvs k) (valueAt vs k):=by
 unfold KV at r
 induction r with
 | nil=>exact True.intro
 | @cons p q ps qs h t ih=>
  obtain ⟨h1,h2⟩:=h
  by_cases e:p.1=k
  ·have e':q.1=k:=h1.symm.trans e
   have b:valueAt (q :: qs) k=some q.2:=by simp [valueAt,List.find?_cons,e']
   rw [Am e,b];exact h2
  ·have e':¬ q.1=k:=fun z=>e (h1.trans z)
   have b:valueAt (q :: qs) k=valueAt qs k:=by simp [valueAt,List.find?_cons,e']
   rw [WT e,b];exact ih
end
theorem IH {P:Program}{w:World}{k:Key}{u:Value}(r:zH (kV k) u):(jT P w).is k u=true:=by
 cases k with
 | inl i=>obtain ⟨t,e⟩:=(show ∃ t,u=Value.int i t from r);subst e;exact Q6 P w i t
 | inr x=>obtain ⟨t,e⟩:=(show ∃ t,u=Value.str x t from r);subst e;exact QV P w x t
section
variable {P:Program}{w:World}{H:Hp}{h:Heap}{a:Addr}
end
section
variable {X:Cx}{pins:List (Addr × Obj)}{σ:St}{H:Hp}{s:Shared}{a:Addr}{y v:V}{u r:Value}{o:Option V}{A:Around}{E:Value->Shared->Prop}
end
section
variable {X:Cx}{pins:List (Addr × Obj)}{σ:St}{H:Hp}{s:Shared}{a:Addr}{kvs:List (Key × V)}{k:Key}{u:Value}{A:Around}{E:Value->Shared->Prop}
end
section
variable {X:Cx}{o i e value:Expr}{pos pos' tpos:Pos}{td ty tv:TE}
end
section
variable {X:Cx}{pos:Pos}
end
structure M1 (X:Cx)(o:Expr)(m:Str)(apos:Pos)(e:Expr)(cpos:Pos):Prop where
 base:attributeBase o m X.env (eval o X.env)=eval o X.env
 few:((backTo cpos (starEach [e] X.env)).all (fun x=>!x.1) && (backToKw cpos (keywordEach [] X.env)).all (fun x=>x.1.isSome)
  && decide (([e]:List Expr).length+([]:List Keyword).length+(if ([]:List Keyword).isEmpty then 0 else 1)<30))=true
 line:(apos.endLine == cpos.line)=true
 trees:backTo cpos (starEach [e] X.env)=[(false,eval e X.env)]
structure M2 (X:Cx)(o:Expr)(m:Str)(apos:Pos)(e f:Expr)(cpos:Pos):Prop where
 base:attributeBase o m X.env (eval o X.env)=eval o X.env
 few:((backTo cpos (starEach [e,f] X.env)).all (fun x=>!x.1) && (backToKw cpos (keywordEach [] X.env)).all (fun x=>x.1.isSome)
  && decide (([e,f]:List Expr).length+([]:List Keyword).length+(if ([]:List Keyword).isEmpty then 0 else 1)<30))=true
 line:(apos.endLine == cpos.line)=true
 trees:backTo cpos (starEach [e,f] X.env)=[(false,eval e X.env),(false,eval f X.env)]
section
variable {X:Cx}{pins:List (Addr × Obj)}{σ:St}{H:Hp}{s:Shared}{a:Addr}{y d:V}{u r:Value}{o:Option V}{A:Around}{E:Value->Shared->Prop}
end
section
variable {X:Cx}{o e f:Expr}{apos cpos:Pos}{td ty tx:TE}
end
section
variable {X:Cx}{pins:List (Addr × Obj)}{σ:St}{H:Hp}{s:Shared}{a:Addr}{kvs:List (Key × V)}{A:Around}{E:Value->Shared->Prop}
end
section
variable {X:Cx}{pins:List (Addr × Obj)}{σ:St}{H:Hp}{s:Shared}{a:Addr}{y:V}{u:Value}{A:Around}{E:Value->Shared->Prop}
end
section
variable {κ:Type}[DecidableEq κ]
end
end L2
set_option Elab.async false
set_option linter.all false
set_option maxRecDepth 100000
set_option maxHeartbeats 4000000
namespace L2
open PySem PySem.Spec PyProof.Rows
noncomputable def Wq (N:List Str)(ts:List Nat)(sc:Scope)(kind:Str->Option NameKind):Bool:=
 sc.kind == .function && sc.names.all (fun y=>y.2 != .cell && (y.2 != .local || sc.names.lookup y.1 == some .local) && (y.2 != .free || kind y.1 == some .cell || kind y.1 == some .free)) &&
  N.zipIdx.all (fun p=>sc.names.lookup p.1 != some .local || ts.contains p.2)
noncomputable def jp (cells:List (Str × Addr)):List (Str × NameKind)->List (Str × Addr)->List (Str × Addr)
 | [],acc=>acc
 | (n,k) :: r,acc=>jp cells r (if k=.free then (n,(cells.lookup n).getD 0) :: acc else acc)
theorem Z3 {env:Env}:∀ (names:List (Str × NameKind)) (acc:List (Str × Addr)),(∀ y ∈ names,y.2=.free->∃ c,env.cells.lookup y.1=some c) ->
  (forIn names acc fun (x:Str × NameKind) (cs:List (Str × Addr))=>(match x with | (name,kind)=>if (kind == NameKind.free)=true then (do let c <- cellOf env name;pure (ForInStep.yield ((name,c) :: cs))) else pure (ForInStep.yield cs):Sem (ForInStep (List (Str × Addr)))))=pure (jp env.cells names acc)
 | [],acc,_=>rfl
 | (n,k) :: r,acc,h=>by
  rw [List.forIn_cons]
  by_cases hk:k=.free
  ·subst hk
   obtain ⟨c,hc⟩:=h (n,.free) List.mem_cons_self rfl
   have e1:cellOf env n=pure c:=by unfold cellOf;rw [hc]
   simp only [beq_self_eq_true,if_true,e1,pure_bind]
   rw [Z3 r _ fun y hy=>h y (List.mem_cons_of_mem _ hy)]
   show _=pure (jp env.cells r (if NameKind.free=.free then _ else _))
   rw [if_pos rfl,hc];rfl
  ·have hb:(k == NameKind.free)=false:=by simpa using hk
   simp only [hb,Bool.false_eq_true,if_false,pure_bind]
   rw [Z3 r _ fun y hy=>h y (List.mem_cons_of_mem _ hy)]
   show _=pure (jp env.cells r (if k=.free then _ else _))
   rw [if_neg hk]
theorem yO {cells : List (Str × Addr)} : ∀ (names : List (Str × NameKind)) (acc : List (Str × Addr)), (∀ y ∈ names, y.2 = .free -> ∃ c, cells.lookup y.1 = some c) -> (∀ x c, acc.lookup x = some c -> cells.lookup x = some c) ->
    (∀ x c,(jp cells names acc).lookup x=some c->cells.lookup x=some c)/\(∀ x c,acc.lookup x=some c->∃ c',(jp cells names acc).lookup x=some c')/\∀ y ∈ names,y.2=.free->∃ c,(jp cells names acc).lookup y.1=some c
  | [],acc,_,h2=>⟨h2,fun x c e=>⟨c,e⟩,fun y hy=>nomatch hy⟩
  | (n,k) :: r,acc,h1,h2=>by
    by_cases hk:k=.free
    · subst hk
      obtain ⟨c,hc⟩:=h1 (n,.free) List.mem_cons_self rfl
      have hc:cells.lookup n=some c:=hc
      have e:jp cells ((n,.free) :: r) acc=jp cells r ((n,c) :: acc):=by
        show jp cells r (if NameKind.free=.free then _ else _)=_
        rw [if_pos rfl,hc];rfl
      rw [e]
      obtain ⟨q1,q2,q3⟩:=yO (cells:=cells) r ((n,c) :: acc) (fun y hy=>h1 y (List.mem_cons_of_mem _ hy)) (fun x c' e'=>by
        rw [List.lookup_cons] at e'
        cases hx:x == n with
        | true => rw [hx] at e'; have : x = n := by simpa using hx
                  subst this;cases e';exact hc
        | false=>rw [hx] at e';exact h2 x c' e')
      refine ⟨q1,fun x c' e'=>?_,fun y hy hf=>?_⟩
      · cases hx:x == n with
        | true=>exact q2 x c (by rw [List.lookup_cons,hx])
        | false=>exact q2 x c' (by rw [List.lookup_cons,hx];exact e')
      · rcases List.mem_cons.mp hy with rfl | hy
        · exact q2 n c (by rw [List.lookup_cons,beq_self_eq_true])
        · exact q3 y hy hf
    · have e : jp cells ((n, k) :: r) acc = jp cells r acc := by
        show jp cells r (if k=.free then _ else _)=_
        rw [if_neg hk]
      rw [e]
      obtain ⟨q1,q2,q3⟩:=yO (cells:=cells) r acc (fun y hy=>h1 y (List.mem_cons_of_mem _ hy)) h2
      refine ⟨q1,q2,fun y hy hf=>?_⟩
      rcases List.mem_cons.mp hy with rfl | hy
      · exact absurd hf hk
      · exact q3 y hy hf
theorem JP {scope:Scope}{env:Env}(h:∀ y ∈ scope.names,y.2=.free->∃ c,env.cells.lookup y.1=some c) :
  ∃ cl,closureFor scope env=pure cl/\(∀ x c,cl.lookup x=some c->env.cells.lookup x=some c)/\∀ y ∈ scope.names,y.2=.free->∃ c,cl.lookup y.1=some c:=by
 obtain ⟨q1,_,q3⟩:=yO (cells:=env.cells) scope.names [] h (fun x c e=>nomatch e)
 refine ⟨jp env.cells scope.names [],?_,q1,q3⟩
 unfold closureFor
 have:=Z3 (env:=env) scope.names [] h
 first
  | exact this
  | (simp only [bind_pure];exact this)
  | (refine Eq.trans ?_ this;simp)
theorem ye {env:Env}:∀ {names:List (Str × NameKind)} {x:Str},(names.map fun (n,k)=>if (k == NameKind.free && env.scope.kind == .function && env.kindOf n == some .cell) then (n,NameKind.cell) else (n,k)).lookup x =
  (names.lookup x).map fun k=>if (k == NameKind.free && env.scope.kind == .function && env.kindOf x == some .cell) then NameKind.cell else k
 | [],_=>rfl
 | (n,k) :: r,x=>by
  have ih:=@ye env r x
  rw [List.map_cons]
  cases hx:x == n with
  | true=>
   have e:x=n:=by simpa using hx
   subst e
   rw [List.lookup_cons (as:=r),beq_self_eq_true]
   show List.lookup x ((if (k == NameKind.free && env.scope.kind == .function && env.kindOf x == some .cell)=true then (x,NameKind.cell) else (x,k)) :: _)=some _
   by_cases hc:(k == NameKind.free && env.scope.kind == .function && env.kindOf x == some .cell)=true
   ·rw [if_pos hc,List.lookup_cons,beq_self_eq_true];dsimp only;rw [if_pos hc]
   ·rw [if_neg hc,List.lookup_cons,beq_self_eq_true];dsimp only;rw [if_neg hc]
  | false=>
   rw [List.lookup_cons (as:=r),hx]
   show List.lookup x ((if (k == NameKind.free && env.scope.kind == .function && env.kindOf n == some .cell)=true then (n,NameKind.cell) else (n,k)) :: _)=_
   by_cases hc:(k == NameKind.free && env.scope.kind == .function && env.kindOf n == some .cell)=true
   ·rw [if_pos hc,List.lookup_cons,hx];exact ih
   ·rw [if_neg hc,List.lookup_cons,hx];exact ih
noncomputable abbrev cxC (X:Cx)(scope:Scope)(cl:List (Str × Addr))(s:Shared)(H:Hp)(fp:List Addr):Cx:=
 { X with s₀:=s,H₀:=H,env:=compEnvC scope cl s.heap.objs.size X.env,outer:=X.stack,ex:=fp,fn:=fun _=>false,pn:=[],xe:=fun _ _=>False }
noncomputable def clr:List Nat->St->St
 | [],σ=>σ
 | j :: r,σ=>clr r (σ.set j none)
theorem KJ:∀ (ts:List Nat) (σ:St),(clr ts σ).length=σ.length
 | [],_=>rfl
 | j :: r,σ=>by show (clr r (σ.set j none)).length=_;rw [KJ r];simp
theorem Qd:∀ (ts:List Nat) (σ:St) (i:Nat) (v:V),(clr ts σ)[i]?=some (some v)->i ∉ ts/\σ[i]?=some (some v)
 | [],_,_,_,h=>⟨by simp,h⟩
 | j :: r,σ,i,v,h=>by
  obtain ⟨h1,h2⟩:=Qd r (σ.set j none) i v h
  by_cases e:j=i
  ·subst e
   rw [List.getElem?_set] at h2
   simp at h2
  ·rw [List.getElem?_set_ne e] at h2
   exact ⟨by simp [h1,Ne.symm e],h2⟩
structure ScF (X:Cx)(ts:List Nat)(scope:Scope):Prop where
 kind:scope.kind=.function
 cell:∀ y ∈ scope.names,y.2 ≠ .cell
 loc:∀ y ∈ scope.names,y.2=.local->scope.names.lookup y.1=some .local
 free:∀ y ∈ scope.names,y.2=.free->X.env.kindOf y.1=some .cell \/ X.env.kindOf y.1=some .free
 ts:∀ (i:Nat) x,X.N[i]?=some x->scope.names.lookup x=some .local->i ∈ ts
theorem FR {X:Cx}{ts:List Nat}{scope:Scope}(h:Wq X.N ts scope X.env.kindOf=true):ScF X ts scope:=by
  unfold Wq at h
  simp only [Bool.and_eq_true,List.all_eq_true,bne_iff_ne,ne_eq,Bool.or_eq_true,beq_iff_eq] at h
  obtain ⟨⟨h1,h2⟩,h3⟩:=h
  refine ⟨h1,fun y hy=>(h2 y hy).1.1,fun y hy e=>?_,fun y hy e=>?_,fun i x e1 e2=>?_⟩
  · rcases (h2 y hy).1.2 with z | z
    · exact absurd e z
    · exact z
  · rcases (h2 y hy).2 with (z | z) | z
    · exact absurd e z
    · exact .inl z
    · exact .inr z
  · have hm : (x, i) ∈ X.N.zipIdx := by
      rw [List.mem_zipIdx_iff_getElem?];exact e1
    rcases h3 _ hm with z | z
    · exact absurd e2 z
    · simpa using z
section
variable {X:Cx}{ts:List Nat}{scope:Scope}{pins:List (Addr × Obj)}{σ:St}{H:Hp}{s:Shared}{fp:List Addr}
theorem Kk (I:Inv X pins σ H s)(S:ScF X ts scope)(hf:∀ b ∈ fp,vj X pins H b)(hfl:∀ b ∈ fp,b<s.heap.objs.size){cl:List (Str × Addr)}(c1:∀ x c,cl.lookup x=some c->X.env.cells.lookup x=some c)
  (c2:∀ y ∈ scope.names,y.2=.free->∃ c,cl.lookup y.1=some c) {h1:Heap} {t1:Nat} (hns:h1.Ns s.heap.objs.size (fun x=>([]:List (Str × Value)).reverse.lookup x))
  (hk:∀ b o,s.heap.get? b=some o->h1.get? b=some o):Inv (cxC X scope cl s H fp) [] (clr ts σ) H { s with heap:=h1,toks:=t1 }:=by
 have hlk:∀ x,(relabel scope X.env).names.lookup x=(scope.names.lookup x).map fun k=>if (k == NameKind.free && X.env.scope.kind == .function && X.env.kindOf x == some .cell) then NameKind.cell else k:=fun x=>ye
 have cfree:∀ x,((relabel scope X.env).names.lookup x=some .cell \/ (relabel scope X.env).names.lookup x=some .free)->(x,NameKind.free) ∈ scope.names:=fun x hx=>by
  rw [hlk] at hx
  cases e:scope.names.lookup x with
  | none=>rw [e] at hx;rcases hx with hx | hx <;> cases hx
  | some k=>
   have hm:=mem_of_lookup_some e
   cases k with
   | free=>exact hm
   | cell=>exact absurd rfl (S.cell _ hm)
   | «local»=>rw [e] at hx;rcases hx with hx | hx <;> cases hx
   | globalExplicit=>rw [e] at hx;rcases hx with hx | hx <;> cases hx
   | globalImplicit=>rw [e] at hx;rcases hx with hx | hx <;> cases hx
 have ccell:∀ x c,cl.lookup x=some c->∃ v,s.heap.IsCell c v:=fun x c e=>I.cell x c (c1 x c e)
 have fpne:∀ b ∈ fp,b ∉ frs X.stack:=fun b hb z=>by
  obtain ⟨_,f1,f2,_⟩:=hf b hb
  rcases List.mem_cons.mp (I.stkSub b z) with e | e
  ·exact f1 e
  ·exact f2 e
 refine ⟨⟨I.ok.mod,S.kind,I.ok.glob,I.ok.blt,Nat.le_refl _,fun x y c e1 e2=>I.ok.inj x y c (c1 x c e1) (c1 y c e2),fun x hx=>c2 (x,.free) (cfree x hx) rfl,(fun x c hx=>nomatch hx),I.ok.hd,I.ok.frames,.inl rfl,fun b hb=>⟨Nat.ne_of_lt (hfl b hb),fun x c e=>(hf b hb).2.2.2.2.1 x c (c1 x c e)⟩,
  I.bs,Nat.le_trans I.ok.bsz I.sz,fun b o e hb=>?_,fpne,I.stack,I.stkFree⟩,rfl,I.bare,Un.kept hk,⟨_,hns,fun i x v e1 e2 e3=>?_⟩,fun x c e=>?_,I.hok.fresh (Nat.le_refl _),fun x c e=>I.freeC x c (c1 x c e),fun p hp=>absurd hp (by simp),I.hok.kept hk,by rw [KJ];exact I.len⟩
 ·rcases (hf b hb).2.2.2.1 with z | z
  ·exact I.ok.noex b o e z
  ·exact absurd (Nat.lt_of_lt_of_le (Heap.lt_size e) (Nat.le_trans I.ok.bsz z)) (Nat.lt_irrefl _)
 ·obtain ⟨nt,e2⟩:=Qd ts σ i v e2
  have e3':(relabel scope X.env).names.lookup x=some .local \/ (relabel scope X.env).names.lookup x=some .cell \/ (relabel scope X.env).names.lookup x=some .free:=e3
  rcases e3' with z | z
  ·rw [hlk] at z
   cases e:scope.names.lookup x with
   | none=>rw [e] at z;cases z
   | some k=>
    rw [e] at z
    have z':(if (k == NameKind.free && X.env.scope.kind == .function && X.env.kindOf x == some .cell)=true then NameKind.cell else k)=.local:=Option.some.inj z
    split at z'
    ·cases z'
    ·subst z'
     exact absurd (S.ts i x e1 e) nt
  ·have hm:=cfree x z
   obtain ⟨c,hc⟩:=c2 _ hm rfl
   obtain ⟨m,hn,hl⟩:=I.loc
   have vis:Vis X.env.scope x:=by
    rcases S.free _ hm rfl with q | q
    ·exact .inr (.inl q)
    ·exact .inr (.inr q)
   obtain ⟨u,r,l⟩:=hl i x v e1 e2 vis
   refine ⟨u,r,.inr ⟨z,c,hc,?_⟩⟩
   rcases l with ⟨q,_⟩ | ⟨_,c',hc',hcell⟩
   ·rcases S.free _ hm rfl with q' | q'
    ·rw [q'] at q;cases q
    ·rw [q'] at q;cases q
   ·rw [c1 x c hc] at hc'
    cases hc'
    obtain ⟨o,ho,hd⟩:=hcell
    exact ⟨o,hk _ _ ho,hd⟩
 ·obtain ⟨v,o,ho,hd⟩:=ccell x c e
  exact ⟨v,o,hk _ _ ho,hd⟩
end
section
variable {prog:Program}{w:World}{A:Around}{R:Result->Shared->Prop}{s:Shared}
theorem xL {elt target iter : Expr}{ifs : List Expr}{scope : Scope}{pos : Pos}{it acc : Value}{env : Env}(I : Nat -> Shared -> Prop)
    (turn:∀ n s,I n s->wpAny (model prog w) A (pyNext it) (fun r s₁=>match r with
      | none=>R (.ok .next) s₁
      | some v => wpAny (model prog w) A (letOwnedTupleGo target it v) (fun _ s₀ => wpAny (model prog w) A (assign target env v) (fun _ s₂ =>
          wpAny (model prog w) A (forIn ifs true fun c r=>if r=true then do let ok <- isTrue c env (eval c env);pure (ForInStep.yield ok) else pure (ForInStep.yield r)) (fun ok s₃=>
            if ok=true then wpAny (model prog w) A (eval elt env) (fun x s₄=>
              wpAny (model prog w) A (call (.builtin "list.append") [acc,x]) (fun _ s₅=>∃ m,m<n/\I m s₅) (fun _ _=>False) s₄) (fun _ _=>False) s₃
            else ∃ m,m<n/\I m s₃) (fun _ _=>False) s₂) (fun _ _=>False) s₀) (fun _ _=>False) s₁) (fun _ _=>False) s)
    (n:Nat) (h:I n s) :
    codeAny (model prog w) A (.compLoop (.ListComp elt [⟨target,iter,ifs,0⟩] scope pos) 0 it acc env) R s:=by
  refine codeAny_loop rfl I (fun n s hI=>?_) n h
  show wpAny _ A ((compTurn (.ListComp elt [⟨target,iter,ifs,0⟩] scope pos) 0 it acc env).onRaise (fun x=>do noteFrame x env;theTreesLotGoes x)) _ _ s
  refine wpAny_noted ?_
  rw [compTurn_list]
  refine wpAny_bind (wpAny_standAt (wpAny_bind (wpAny_mono (turn n s hI) (fun r s₁ h₁=>?_) fun _ _ h'=>h'.elim)))
  cases r with
  | none=>exact wpAny_pure h₁
  | some v=>
    refine wpAny_bind (wpAny_mono h₁ (fun _ s₀ h₀=>?_) fun _ _ h'=>h'.elim)
    refine wpAny_bind (wpAny_mono h₀ (fun _ s₂ h₂=>wpAny_bind (wpAny_mono h₂ (fun ok s₃ h₃=>?_) fun _ _ h'=>h'.elim)) fun _ _ h'=>h'.elim)
    cases ok with
    | false=>exact wpAny_pure ⟨rfl,h₃⟩
    | true=>
      exact wpAny_bind (wpAny_bind (wpAny_mono h₃ (fun x s₄ h₄=>wpAny_bind (wpAny_mono h₄ (fun _ s₅ h₅=>wpAny_pure (wpAny_pure ⟨rfl,h₅⟩)) fun _ _ h'=>h'.elim)) fun _ _ h'=>h'.elim))
end
noncomputable def AJ:TT:=fun _ H Q=>Q true H
noncomputable def PIf (X:Cx)(ifs:List Expr)(t:TT):Prop:=
 ∀ (pins:List (Addr × Obj)) (s:Shared) (σ:St) (H:Hp) (Q:Bool->Hp->Prop),Inv X pins σ H s->t σ H Q ->
  wpAny (model X.prog X.w) X.A (forIn ifs true fun c r=>if r=true then do let ok <- isTrue c X.env (eval c X.env);pure (ForInStep.yield ok) else pure (ForInStep.yield r)) (TP X pins σ Q) X.xe s
theorem xv {X:Cx}:PIf X [] AJ:=fun _ _ _ H _ I h=>wpAny_tests_nil ⟨H,I,h⟩
theorem K9 {X:Cx}{c:Expr}{t:TT}(h:PT X c t):PIf X [c] t:=fun pins s σ H Q I hq=>wpAny_tests_one (h pins s σ H Q I hq)
noncomputable def Qo (ts:List Nat)(wi:TI)(g:TG)(tt:TT)(te:TE):TE:=fun σ H Q=>wi σ H fun J H1=>∀ D,H1 D=none->∃ W:Nat->Nat->St->Hp->Prop,(∃ m,W 0 m (clr ts σ) (upd H1 D (.lst [])))/\∀ i m τ H2,W i m τ H2 ->
 (J.stop i H2/\Q (.ref D) H2) \/ (J.go i H2/\∃ N:St->Hp->Prop,(∀ τ' H',N τ' H'->∃ m',m'<m/\W (i+1) m' τ' H')/\∀ x H',J.yld i H2 x H'->g x τ H' fun τ2 H3=>tt τ2 H3 fun b H4=>
  if b=true then te τ2 H4 fun v H5=>∃ ys,H5 D=some (.lst ys)/\ys.length<sizeLine/\N τ2 (upd H5 D (.lst (ys ++ [v]))) else N τ2 H4)
section
variable {X:Cx}{ts:List Nat}{scope:Scope}{tg iter elt:Expr}{ifs:List Expr}{wi:TI}{g:TG}{tt:TT}{te:TE}{pos:Pos}
theorem Qq (hc:X.calm=true)(hsc:Wq X.N ts scope X.env.kindOf=true)(hi:PI X tg iter wi)(hg:∀ cl s H fp,PG (cxC X scope cl s H fp) tg g)(ht:∀ cl s H fp,PIf (cxC X scope cl s H fp) ifs tt)(he:∀ cl s H fp,PE (cxC X scope cl s H fp) elt te)
  {pins:List (Addr × Obj)} {s:Shared} {σ:St} {H:Hp} {Q:VK} (I:Inv X pins σ H s) (h:Qo ts wi g tt te σ H Q) {use:Option (Value->Sem Unit)} {Q':Value->Shared->Prop}
  (fin:∀ (D C:Addr) (H':Hp) (s':Shared),Inv X pins σ H' s'->(∃ m,s'.heap.Ns C m)->H' C=none->C ≠ X.env.locals->(∀ x c,X.env.cells.lookup x=some c->c ≠ C)->X.s₀.heap.objs.size<=C->(∀ p ∈ X.pn ++ pins,p.1 ≠ C)->C ∉ X.fs->Q (.ref D) H' ->
   compPost (model X.prog X.w) X.A X.xe use Q' (.ref D) C (.ok .next) s')
  (hs:∀ x,foldedSetIterable iter X.env x=pure x) :
  wpAny (model X.prog X.w) X.A (comprehension (.ListComp elt [⟨tg,iter,ifs,0⟩] scope pos) scope X.env (firstIterPos [⟨tg,iter,ifs,0⟩] pos) (newList []) false (eval iter X.env) use) Q' X.xe s:=by
 have S:=FR hsc
 obtain ⟨cl,hcl,c1,c2⟩:=JP (scope:=scope) (env:=X.env) fun y hy e=>I.ok.has y.1 (S.free y hy e)
 refine wpAny_comprehension_free (use:=use) rfl hs hcl S.kind S.loc ?_
 refine wpAny_mono (hi pins s σ H _ I h) (fun v s1 h1=>wpAny_mono h1 (fun itv s2 h2=>?_) fun _ _ e=>e) fun _ _ e=>e
 obtain ⟨it,fp,tn,J,H2,e,I2,T,st2,f2,q2⟩:=h2
 subst e
 have hD:H2 s2.heap.objs.size=none:=I2.hok.fresh (Nat.le_refl _)
 obtain ⟨W,⟨m0,w0⟩,turn⟩:=q2 _ hD
 refine wpAny_newObj_type (wpAny_newFunctionEnv S.cell (by intro y hy;simp at hy) (fun h₁ hns₁ hsb₁=>?_) S.kind)
 dsimp only at hns₁ hsb₁ ⊢
 generalize hh3:s2.heap.push { cls:=.type "list",dict:=none,data:=.seq ([]:List Value).toArray }=g3 at hns₁ hsb₁ ⊢
 have I3:Inv X pins σ (upd H2 s2.heap.objs.size (.lst [])) { s2 with heap:=g3 }:=by
  rw [<- hh3]
  exact I2.laid (t':=s2.toks) (fun b u e=>Heap.get?_push_of_some _ e) (Nat.le_refl _) ⟨Nat.zero_le _,[],_,.nil,Heap.get?_push_size _ rfl⟩
 have st3:tn 0 g3:=T.keep _ _ _ st2 fun b _ o e=>by rw [<- hh3];exact Heap.get?_push_of_some _ e
 have lt2:∀ b ∈ fp,b<s2.heap.objs.size:=fun b hb=>by obtain ⟨o,e,_⟩:=T.obj _ _ st2 b hb;exact Heap.lt_size e
 have hsz3:g3.objs.size=s2.heap.objs.size+1:=by rw [<- hh3,Heap.size_push]
 have f3:∀ b ∈ fp,vj X pins (upd H2 s2.heap.objs.size (.lst [])) b:=fun b hb=>⟨by rw [zi (Nat.ne_of_lt (lt2 b hb))];exact (f2 b hb).1,(f2 b hb).2⟩
 have lt3:∀ b ∈ fp,b<g3.objs.size:=fun b hb=>by rw [hsz3];exact Nat.lt_succ_of_lt (lt2 b hb)
 have old:∀ b o,g3.get? b=some o->h₁.get? b=some o:=fun b o e=>hsb₁.extBut b o (Nat.ne_of_lt (Heap.lt_size e)) (Heap.get?_push_of_some _ e)
 have hns:h₁.Ns g3.objs.size (fun x=>([]:List (Str × Value)).reverse.lookup x):=hns₁
 have I4:∀ t,Inv (cxC X scope cl { s2 with heap:=g3 } (upd H2 s2.heap.objs.size (.lst [])) fp) [] (clr ts σ) (upd H2 s2.heap.objs.size (.lst [])) { s2 with heap:=h₁,toks:=t }:=fun t=>Kk I3 S f3 lt3 c1 c2 hns old
 have fpne:∀ b ∈ fp,b ∉ frs X.stack:=fun b hb z=>by
  obtain ⟨_,f1,f2,_⟩:=f3 b hb
  rcases List.mem_cons.mp (I3.stkSub b z) with e | e
  ·exact f1 e
  ·exact f2 e
 have stat:∀ {H':Hp},(∀ b ∈ fp,H' b=none)->∀ b ∈ fp,vj (cxC X scope cl { s2 with heap:=g3 } (upd H2 s2.heap.objs.size (.lst [])) fp) [] H' b:=fun hn b hb=>
  ⟨hn b hb,Nat.ne_of_lt (lt3 b hb),fpne b hb,.inl hb,fun x c e=>(f2 b hb).2.2.2.2.1 x c (c1 x c e),fun p hp=>absurd hp (by simp)⟩
 have loop:∀ t,codeAny (model X.prog X.w) X.A (.compLoop (.ListComp elt [⟨tg,iter,ifs,0⟩] scope pos) 0 (.ref it) (.ref s2.heap.objs.size) (compEnvC scope cl g3.objs.size X.env))
   (compPost (model X.prog X.w) X.A X.xe use Q' (.ref s2.heap.objs.size) g3.objs.size) { s2 with heap:=h₁,toks:=t }:=by
  intro t
  refine xL (fun n s'=>∃ i τ H',Inv (cxC X scope cl { s2 with heap:=g3 } (upd H2 s2.heap.objs.size (.lst [])) fp) [] τ H' s'/\tn i s'.heap/\(∀ b ∈ fp,H' b=none)/\W i n τ H') ?_ m0
   ⟨0,clr ts σ,_,I4 t,T.keep _ _ _ st3 fun b _ o e=>old b o e,fun b hb=>(f3 b hb).1,w0⟩
  rintro n s5 ⟨i,τ,H5,I5,st5,fr5,w5⟩
  rcases turn i n τ H5 w5 with ⟨stop,qn⟩ | ⟨go,N,hN,step⟩
  ·refine thn (T.done (cxC X scope cl { s2 with heap:=g3 } (upd H2 s2.heap.objs.size (.lst [])) fp) rfl rfl rfl hc i [] s5 τ H5 _ I5 (stat fr5) st5 stop) fun r s6 ⟨hr,I6⟩=>?_
   subst hr
   have base:Un (frs X.stack) fp (upd H2 s2.heap.objs.size (.lst [])) H5 g3 s6.heap:=I6.base
   have J6:Inv X pins σ H5 s6:=I3.call' (ch:=fp) I6.os base I6.hok I6.bare fun b hb=>⟨(f3 b hb).2.2.2.1,(f3 b hb).2.1,(f3 b hb).2.2.2.2.1,(f3 b hb).2.2.2.2.2⟩
   obtain ⟨m6,n6,_⟩:=I6.loc
   have hC:g3.get? g3.objs.size=none:=Heap.get?_none_of_le (Nat.le_refl _)
   refine fin _ g3.objs.size H5 s6 J6 ⟨m6,n6⟩ I6.free (Nat.ne_of_gt I3.lt) (fun x c e z=>?_) I3.sz (fun p hp z=>?_) (I3.nofs (Nat.le_refl _)) qn
   ·obtain ⟨v,q⟩:=I3.cell x c e
    exact absurd q.lt (by rw [z];exact Nat.lt_irrefl _)
   ·exact absurd (Heap.lt_size (I3.pin p hp).1) (by rw [z];exact Nat.lt_irrefl _)
  ·refine thn (T.item (cxC X scope cl { s2 with heap:=g3 } (upd H2 s2.heap.objs.size (.lst [])) fp) rfl rfl rfl hc i [] s5 τ H5 _ I5 (stat fr5) st5 go) fun r s6 ⟨u,hr,h6⟩=>?_
   subst hr
   refine thn h6 fun _ s7 ⟨x,H7,I7,r7,y7,st7,fr7⟩=>?_
   have I7':=I7.pinned (stat fr7) (T.obj _ _ st7)
   refine thn (hg cl { s2 with heap:=g3 } _ fp _ s7 τ H7 x u _ I7' r7 (step x H7 y7)) fun _ s8 ⟨τ8,H8,I8,q8⟩=>?_
   refine thn (ht cl { s2 with heap:=g3 } _ fp _ s8 τ8 H8 _ I8 q8) fun b s9 ⟨H9,I9,q9⟩=>?_
   have again:∀ {τ9:St} {H9:Hp} {s9:Shared},Inv (cxC X scope cl { s2 with heap:=g3 } (upd H2 s2.heap.objs.size (.lst [])) fp) ([] ++ vF fp s7.heap) τ9 H9 s9->N τ9 H9 ->
     ∃ m,m<n/\∃ i τ H',Inv (cxC X scope cl { s2 with heap:=g3 } (upd H2 s2.heap.objs.size (.lst [])) fp) [] τ H' s9/\tn i s9.heap/\(∀ b ∈ fp,H' b=none)/\W i m τ H':=fun {τ9 H9 s9} I9 n9=>by
    obtain ⟨m',hm,w9⟩:=hN _ _ n9
    refine ⟨m',hm,i+1,τ9,H9,I9.unpinned,T.keep _ _ _ st7 fun b hb o e=>(I9.pin (b,o) (List.mem_append_right _ (List.mem_append_right _ (kL hb e)))).1,fun b hb=>?_,w9⟩
    obtain ⟨o,e,d⟩:=T.obj _ _ st7 b hb
    exact (I9.pin (b,o) (List.mem_append_right _ (List.mem_append_right _ (kL hb e)))).2.1
   cases b with
   | false=>
    rw [if_neg Bool.false_ne_true] at q9 ⊢
    exact again I9 q9
   | true=>
    rw [if_pos rfl] at q9 ⊢
    refine thn (he cl { s2 with heap:=g3 } _ fp _ s9 τ8 H9 _ I9 q9) fun y s10 ⟨v,H10,I10,r10,ys,hys,hlen,n10⟩=>?_
    exact thn (wZ (X:=cxC X scope cl { s2 with heap:=g3 } (upd H2 s2.heap.objs.size (.lst [])) fp) _ s10 τ8 H10 (.ref s2.heap.objs.size) [v] (.ref s2.heap.objs.size) [y] (fun _ H11=>N τ8 H11) I10 rfl (.cons r10 .nil) ⟨_,ys,v,rfl,rfl,hys,hlen,n10⟩) fun _ s11 ⟨_,H11,I11,_,n11⟩=>again I11 n11
 have LW:=loop (s2.toks+([]:List (Str × Value)).length)
 exact codeAny_compStart_list LW (T.self _ 0 _ _ _ (T.keep _ _ _ st3 fun b _ o e=>old b o e) LW)
end
section
variable {X:Cx}{ts:List Nat}{scope:Scope}{tg iter elt:Expr}{ifs:List Expr}{wi:TI}{g:TG}{tt:TT}{te:TE}{pos:Pos}
theorem yb (hc:X.calm=true)(hsc:Wq X.N ts scope X.env.kindOf=true)(hi:PI X tg iter wi)(hg:∀ cl s H fp,PG (cxC X scope cl s H fp) tg g)(ht:∀ cl s H fp,PIf (cxC X scope cl s H fp) ifs tt)(he:∀ cl s H fp,PE (cxC X scope cl s H fp) elt te)
  (hs:∀ x,foldedSetIterable iter X.env x=pure x:=by intro _;rfl):PE X (.ListComp elt [⟨tg,iter,ifs,0⟩] scope pos) (Qo ts wi g tt te):=by
 intro pins s σ H Q I h
 rw [eval_ListComp]
 refine Qq hc hsc hi hg ht he I h (use:=none) (fun D C H' s' I' ⟨m,hn⟩ hC hL hce hsz hp hfs q=>⟨m,hn,fun h' hs'=>?_⟩) hs
 exact ⟨.ref D,H',I'.turned (t':=s'.toks) (it:=C) (fun b o hb e=>(hs'.2 b hb).trans e) hC hL (.inr hsz) hce hp,rfl,q⟩
theorem ZG {j:Nat}{y:Str}{py spos:Pos}(hc:X.calm=true)(hN:X.N.Nodup)(hj:X.N[j]?=some y)(hy:Loc X.env.scope y)(hsc:Wq X.N ts scope X.env.kindOf=true)(hi:PI X tg iter wi)(hg:∀ cl s H fp,PG (cxC X scope cl s H fp) tg g)(ht:∀ cl s H fp,PIf (cxC X scope cl s H fp) ifs tt)(he:∀ cl s H fp,PE (cxC X scope cl s H fp) elt te)
  (hsw:swapsWith (.ListComp elt [⟨tg,iter,ifs,0⟩] scope pos) (some (.Name y py)) spos.line X.env=pure true:=by rfl)
  (hs:∀ x,foldedSetIterable iter X.env x=pure x:=by intro _;rfl) (hf:X.fn y=true \/ X.env.scope.names.lookup y=some .local:=by first | exact .inl rfl | exact .inr rfl | assumption) :
  PS X (.Assign [.Name y py] (.ListComp elt [⟨tg,iter,ifs,0⟩] scope pos) spos) (ZI (Qo ts wi g tt te) (Qe j)):=by
 intro pins s σ H D I h
 rw [exec_Assign_Name_used _ _ _ _ hsw]
 refine wpAny_bind (wpAny_standAt (wpAny_bind ?_))
 show wpAny _ _ (do let _ <- comprehension (.ListComp elt [⟨tg,iter,ifs,0⟩] scope pos) scope X.env _ (newList []) false (eval iter X.env) (some (assign (.Name y py) X.env))) _ _ s
 refine wpAny_bind (wpAny_mono (Qq hc hsc hi hg ht he I h (use:=some (assign (.Name y py) X.env)) (Q':=fun _ s'=>SP X pins D .next s') (fun D' C H' s' I' ⟨m,hn⟩ hC hL hce hsz hp hfs q=>?_) hs) (fun _ s' hq=>wpAny_pure (wpAny_pure hq)) fun _ _ e=>e)
 show wpAny _ _ (assign (.Name y py) X.env (.ref D')) _ _ _
 refine wpAny_assign_Name (wJ (v:=.ref D') I' hN hj hy rfl (fun s2 I2 ⟨a,hsb,ha⟩=>?_) hf)
 have hCa:C ≠ a:=by
  rcases ha with rfl | ha
  ·exact hL
  ·exact Ne.symm (hce y a ha)
 refine ⟨m,hn.sameBut hsb hCa,fun h' hs'=>?_⟩
 exact ⟨_,H',I2.turned (t':=s2.toks) (it:=C) (fun b o hb e=>(hs'.2 b hb).trans e) hC hL (.inr hsz) hce hp,q⟩
end
noncomputable def Ite (K:PySem.W.Frag)(a:Addr):It:=
 ⟨fun i H=>∃ xs x,SqL K H a xs/\xs[i]?=some x,fun i H y H'=>∃ p x,H p=none/\y=.ref p/\(∀ xs,SqL K H a xs->xs[i]?=some x)/\H'=upd H p (.tup [.int i,x]),fun i H=>∃ xs,SqL K H a xs/\xs.length<=i⟩
theorem Zg {P:Program}{w:World}{K:PySem.W.Frag}{es:List Expr}{kt:Nat}{tp:Pos}(a e it:Addr)(hei:e ≠ it):Jy P w K (.Tuple es kt tp) (Ite K a) [e,it] e (fun i h=>(∃ old,IsEnum h e it (i:Nat) old)/\h.IsListIter it a i) where
 mem:=by simp
 obj:=fun i h st b hb=>by
  obtain ⟨⟨old,he⟩,⟨o,e1,c,d⟩⟩:=st
  rcases List.mem_cons.mp hb with rfl | hb
  ·exact ⟨_,he,fun v z=>by have z':Data.fields _=Data.cell v:=z;cases z'⟩
  ·have e2:b=it:=by simpa using hb
   subst e2
   exact ⟨o,e1,fun v z=>by rw [d] at z;cases z⟩
 keep:=fun i h h' st k=>by
  obtain ⟨⟨old,he⟩,st⟩:=st
  exact ⟨⟨old,k e (by simp) _ he⟩,st.at fun o e=>k it (by simp) o e⟩
 item:=by
  intro X hP hw hK hc i pins s σ H E I hf st hg
  subst hP hw hK
  obtain ⟨⟨old,he⟩,st⟩:=st
  obtain ⟨xs,x,hq,hx⟩:=hg
  obtain ⟨its,rv,p,hz⟩:=I.list hq
  obtain ⟨u,hu,ru⟩:=rv.get hx
  have fe:=hf e (by simp)
  have fi:=hf it (by simp)
  refine wpAny_pyNext_enum_item he st p.isList (x:=u) (by simpa using hu) hei fun h1 heo hit1 ht1 hz1 hk1=>?_
  refine ⟨.ref s.heap.objs.size,rfl,wpAny_letOwnedTupleGo_enum heo fun h2 he2 hs2=>?_⟩
  replace hs2:Heap.SameBut e h1 h2:=hs2
  have elt:e<s.heap.objs.size:=Heap.lt_size he
  have hfr:H s.heap.objs.size=none:=I.hok.fresh (Nat.le_refl _)
  have ht2:h2.get? s.heap.objs.size=some { cls:=.type "tuple",data:=.seq #[.int i s.toks,u] }:=(hs2.2 _ (Nat.ne_of_gt elt)).trans ht1
  have kk:∀ b o,b ∉ [e,it]->s.heap.get? b=some o->h2.get? b=some o:=fun b o hc q=>by
   have n1:b ≠ e:=fun z=>hc (by simp [z])
   have n2:b ≠ it:=fun z=>hc (by simp [z])
   exact (hs2.2 b n1).trans (hk1 b o n1 n2 q)
  have nb:∀ c v,H c=some v->c ∉ [e,it]:=fun c v z hm=>by
   rcases List.mem_cons.mp hm with z' | z'
   ·rw [z',fe.1] at z;cases z
   ·have e2:c=it:=by simpa using z'
    rw [e2,fi.1] at z;cases z
  have I2:Inv X pins σ (upd H s.heap.objs.size (.tup [.int i,x])) { s with heap:=h2,toks:=s.toks+1 }:=by
   refine I.step (g':=s.gens) (d':=s.drawn) (ch:=[e,it]) (fun b hb=>?_) (fun b o _ _ hc q _=>kk b o hc q) (fun b o _ _ hc q _=>⟨o.slots,kk b o hc q⟩) (fun b o _ q n=>by rw [zi (Nat.ne_of_lt (Heap.lt_size q))];exact n) (fun b o hc q=>⟨o,kk b o hc q⟩)
    (fun b xs q=>by rw [zi (zn q hfr)];exact q) (fun b o u q=>by rw [zi (zn q hfr)];exact q) (fun b ps q=>⟨#[],by rw [zi (zn q hfr),q];simp⟩) (fun m hm=>?_) (fun b v q=>?_) I.bare
   ·rcases List.mem_cons.mp hb with z | hb
    ·rw [z];exact ⟨fe.2.2.2.1,fe.2.1,fe.2.2.2.2.1,fe.2.2.2.2.2⟩
    ·have e2:b=it:=by simpa using hb
     rw [e2];exact ⟨fi.2.2.2.1,fi.2.1,fi.2.2.2.2.1,fi.2.2.2.2.2⟩
   ·obtain ⟨o,es,ep,ho,r⟩:=hm
    exact ⟨o,es,ep,kk _ o (by simp [Ne.symm fe.2.1,Ne.symm fi.2.1]) ho,r⟩
   ·by_cases hb:b=s.heap.objs.size
    ·subst hb
     rw [zk] at q
     cases q
     exact ⟨by show 2<=sizeLine;decide,[.int i s.toks,u],.cons ⟨_,rfl⟩ (.cons ru .nil),_,ht2,rfl,⟨_,rfl⟩,rfl⟩
    ·rw [zi hb] at q
     refine (I.hok b v q).stay (fun c o hc q'=>kk c o ?_ q') (fun c z=>by rw [zi (zn z hfr)];exact z) fun c xs z=>by rw [zi (zn z hfr)];exact z
     rcases hc with z | z
     ·rw [z];exact nb b v q
     ·exact nb c _ z
  refine ⟨.ref s.heap.objs.size,_,I2,rfl,⟨s.heap.objs.size,x,hfr,rfl,fun ys hy=>by rw [I.list_inj hy hq];exact hx,rfl⟩,⟨⟨_,by simpa using he2⟩,hit1.extBut hs2.extBut (Ne.symm hei)⟩,fun b hb=>?_⟩
  have hlt:b<s.heap.objs.size:=by
   rcases List.mem_cons.mp hb with rfl | hb
   ·exact elt
   ·have e2:b=it:=by simpa using hb
    subst e2
    obtain ⟨o,e1,_⟩:=st
    exact Heap.lt_size e1
  rw [zi (Nat.ne_of_lt hlt)]
  exact (hf b hb).1
 done:=by
  intro X hP hw hK hc i pins s σ H E I hf st hg
  subst hP hw hK
  obtain ⟨⟨old,he⟩,st⟩:=st
  obtain ⟨xs,hq,hx⟩:=hg
  obtain ⟨its,rv,p,hz⟩:=I.list hq
  obtain ⟨f0,f1,f2,f3,f4,f5⟩:=hf it (by simp)
  have hl:=rv.length
  exact wpAny_pyNext_enum_end (I.ok.hd hc) he st p.isList (by simp;omega) fun h' eb=>⟨rfl,I.turned (t':=s.toks) (fun b o hb e=>eb b o hb e) f0 f1 f3 f4 f5⟩
 self:=fun _ _ _ _ _ st h=>by
  obtain ⟨⟨old,he⟩,_⟩:=st
  exact wpAny_pyIter_enum he h
section
variable {X:Cx}{pins:List (Addr × Obj)}{σ:St}{H:Hp}{s:Shared}
theorem Inv.yieldTup {ch:List Addr}{h2:Heap}{tk:Nat}{T:Addr}{xs:List V}{us:List Value}(I:Inv X pins σ H s)(hf:∀ b ∈ ch,vj X pins H b)(kk:∀ b o,b ∉ ch->s.heap.get? b=some o->h2.get? b=some o)(hT:s.heap.objs.size<=T)
  (ht2:h2.get? T=some { cls:=.type "tuple",data:=.seq us.toArray }) (rv:zG xs us) (hz:xs.length<=sizeLine):Inv X pins σ (upd H T (.tup xs)) { s with heap:=h2,toks:=tk }:=by
 have hfr:H T=none:=I.hok.fresh hT
 have nb:∀ c v,H c=some v->c ∉ ch:=fun c v z hm=>by rw [(hf c hm).1] at z;cases z
 refine I.step (g':=s.gens) (d':=s.drawn) (ch:=ch) (fun b hb=>⟨(hf b hb).2.2.2.1,(hf b hb).2.1,(hf b hb).2.2.2.2.1,(hf b hb).2.2.2.2.2⟩) (fun b o _ _ hc q _=>kk b o hc q) (fun b o _ _ hc q _=>⟨o.slots,kk b o hc q⟩)
  (fun b o _ q n=>by rw [zi (Nat.ne_of_lt (Nat.lt_of_lt_of_le (Heap.lt_size q) hT))];exact n) (fun b o hc q=>⟨o,kk b o hc q⟩)
  (fun b xs q=>by rw [zi (zn q hfr)];exact q) (fun b o u q=>by rw [zi (zn q hfr)];exact q) (fun b ps q=>⟨#[],by rw [zi (zn q hfr),q];simp⟩) (fun m hm=>?_) (fun b v q=>?_) I.bare
 ·obtain ⟨o,es,ep,ho,r⟩:=hm
  exact ⟨o,es,ep,kk _ o (fun z=>(hf _ z).2.1 rfl) ho,r⟩
 ·by_cases hb:b=T
  ·subst hb
   rw [zk] at q
   cases q
   exact ⟨hz,us,rv,_,ht2,rfl,⟨_,rfl⟩,rfl⟩
  ·rw [zi hb] at q
   refine (I.hok b v q).stay (fun c o hc q'=>kk c o ?_ q') (fun c z=>by rw [zi (zn z hfr)];exact z) fun c xs z=>by rw [zi (zn z hfr)];exact z
   rcases hc with z | z
   ·rw [z];exact nb b v q
   ·exact nb c _ z
theorem Inv.turnedL {ch:List Addr}{h2:Heap}{tk:Nat}(I:Inv X pins σ H s)(hf:∀ b ∈ ch,vj X pins H b)(kk:∀ b o,b ∉ ch->s.heap.get? b=some o->h2.get? b=some o):Inv X pins σ H { s with heap:=h2,toks:=tk }:=by
 have nb:∀ c v,H c=some v->c ∉ ch:=fun c v z hm=>by rw [(hf c hm).1] at z;cases z
 refine I.step (g':=s.gens) (d':=s.drawn) (ch:=ch) (fun b hb=>⟨(hf b hb).2.2.2.1,(hf b hb).2.1,(hf b hb).2.2.2.2.1,(hf b hb).2.2.2.2.2⟩) (fun b o _ _ hc q _=>kk b o hc q) (fun b o _ _ hc q _=>⟨o.slots,kk b o hc q⟩)
  (fun b o _ q n=>n) (fun b o hc q=>⟨o,kk b o hc q⟩) (fun b xs q=>q) (fun b o u q=>q) (fun b ps q=>⟨#[],by rw [q];simp⟩) (fun m hm=>?_) (fun b v q=>?_) I.bare
 ·obtain ⟨o,es,ep,ho,r⟩:=hm
  exact ⟨o,es,ep,kk _ o (fun z=>(hf _ z).2.1 rfl) ho,r⟩
 ·refine (I.hok b v q).stay (fun c o hc q'=>kk c o ?_ q') (fun c z=>z) fun c xs z=>z
  rcases hc with z | z
  ·rw [z];exact nb b v q
  ·exact nb c _ z
end
noncomputable def Itz (K:PySem.W.Frag)(a b:Addr):It:=
 ⟨fun i H=>∃ xs ys x y,SqL K H a xs/\SqL K H b ys/\xs[i]?=some x/\ys[i]?=some y,fun i H z H'=>∃ p x y,H p=none/\z=.ref p/\(∀ xs,SqL K H a xs->xs[i]?=some x)/\(∀ ys,SqL K H b ys->ys[i]?=some y)/\H'=upd H p (.tup [x,y]),
  fun i H=>∃ xs ys,SqL K H a xs/\SqL K H b ys/\(xs.length<=i \/ ys.length<=i)⟩
theorem La {P:Program}{w:World}{K:PySem.W.Frag}{es:List Expr}{kt:Nat}{tp:Pos}(l1 l2 z TI TO i1 i2:Addr)(D:ZipApart z TI TO i1 i2 l1 l2) :
  Jy P w K (.Tuple es kt tp) (Itz K l1 l2) [z,TI,TO,i1,i2] z (fun i h=>IsZip h z TI TO .none/\IsPair h TI (.ref i1) (.ref i2)/\(∃ a b,IsPair h TO a b)/\h.IsListIter i1 l1 i/\h.IsListIter i2 l2 i) where
 mem:=by simp
 obj:=fun i h st b hb=>by
  obtain ⟨hz,hTI,⟨a,c,hTO⟩,⟨o1,e1,c1,d1⟩,⟨o2,e2,c2,d2⟩⟩:=st
  simp only [List.mem_cons,List.not_mem_nil,or_false] at hb
  rcases hb with rfl | rfl | rfl | rfl | rfl
  ·exact ⟨_,hz,fun v q=>by have q':Data.fields _=Data.cell v:=q;cases q'⟩
  ·exact ⟨_,hTI,fun v q=>by have q':Data.seq _ _=Data.cell v:=q;cases q'⟩
  ·exact ⟨_,hTO,fun v q=>by have q':Data.seq _ _=Data.cell v:=q;cases q'⟩
  ·exact ⟨o1,e1,fun v q=>by rw [d1] at q;cases q⟩
  ·exact ⟨o2,e2,fun v q=>by rw [d2] at q;cases q⟩
 keep:=fun i h h' st k=>by
  obtain ⟨hz,hTI,⟨a,c,hTO⟩,h1,h2⟩:=st
  exact ⟨k _ (by simp) _ hz,k _ (by simp) _ hTI,⟨a,c,k _ (by simp) _ hTO⟩,h1.at fun o e=>k _ (by simp) o e,h2.at fun o e=>k _ (by simp) o e⟩
 item:=by
  intro X hP hw hK hc i pins s σ H E I hf st hg
  subst hP hw hK
  obtain ⟨hz,hTI,⟨a,c,hTO⟩,h1,h2⟩:=st
  obtain ⟨xs,ys,x,y,hq1,hq2,hx,hy⟩:=hg
  obtain ⟨its1,rv1,p1,hz1⟩:=I.list hq1
  obtain ⟨its2,rv2,p2,hz2⟩:=I.list hq2
  obtain ⟨u,hu,ru⟩:=rv1.get hx
  obtain ⟨v,hv,rvv⟩:=rv2.get hy
  refine wpAny_pyNext_zip_item D hz hTI hTO h1 h2 p1.isList p2.isList (x:=u) (y:=v) (by simpa using hu) (by simpa using hv) fun g1 b1 b2 b3 b4 b5 b6 hk=>?_
  refine ⟨.ref s.heap.objs.size,rfl,wpAny_letOwnedTupleGo_zip b1 fun g2 hz2' hs2=>?_⟩
  replace hs2:Heap.SameBut z g1 g2:=hs2
  have zlt:z<s.heap.objs.size:=Heap.lt_size hz
  have I2:Inv X pins σ (upd H s.heap.objs.size (.tup [x,y])) { s with heap:=g2,toks:=s.toks }:=by
   refine I.yieldTup (us:=[u,v]) hf (fun b o hb e=>?_) (Nat.le_refl _) ((hs2.2 _ (Nat.ne_of_gt zlt)).trans b5) (.cons ru (.cons rvv .nil)) (by show 2<=sizeLine;decide)
   simp only [List.mem_cons,List.not_mem_nil,or_false,not_or] at hb
   exact (hs2.2 b hb.1).trans (hk b o hb.1 hb.2.2.1 hb.2.2.2.1 hb.2.2.2.2 e)
  refine ⟨.ref s.heap.objs.size,_,I2,rfl,⟨s.heap.objs.size,x,y,I.hok.fresh (Nat.le_refl _),rfl,fun xs' h'=>by rw [I.list_inj h' hq1];exact hx,fun ys' h'=>by rw [I.list_inj h' hq2];exact hy,rfl⟩,
   ⟨hz2',(hs2.2 _ D.TIz).trans (hk _ _ D.TIz D.TITO D.TIi1 D.TIi2 hTI),⟨_,_,(hs2.2 _ D.TOz).trans b2⟩,b3.extBut hs2.extBut D.i1z,b4.extBut hs2.extBut D.i2z⟩,fun b hb=>?_⟩
  have hlt:b<s.heap.objs.size:=by
   simp only [List.mem_cons,List.not_mem_nil,or_false] at hb
   rcases hb with rfl | rfl | rfl | rfl | rfl
   ·exact zlt
   ·exact Heap.lt_size hTI
   ·exact Heap.lt_size hTO
   ·obtain ⟨o,e,_⟩:=h1;exact Heap.lt_size e
   ·obtain ⟨o,e,_⟩:=h2;exact Heap.lt_size e
  rw [zi (Nat.ne_of_lt hlt)]
  exact (hf b hb).1
 done:=by
  intro X hP hw hK hc i pins s σ H E I hf st hg
  subst hP hw hK
  obtain ⟨hz,hTI,⟨a,c,hTO⟩,h1,h2⟩:=st
  obtain ⟨xs,ys,hq1,hq2,hend⟩:=hg
  obtain ⟨its1,rv1,p1,hz1⟩:=I.list hq1
  obtain ⟨its2,rv2,p2,hz2⟩:=I.list hq2
  have l1:=rv1.length
  have l2:=rv2.length
  refine wpAny_pyNext_zip_end (I.ok.hd hc) D hz hTI hTO h1 h2 p1.isList p2.isList (by simp;omega) fun h' hk=>⟨rfl,I.turnedL (tk:=s.toks) hf fun b o hb e=>?_⟩
  simp only [List.mem_cons,List.not_mem_nil,or_false,not_or] at hb
  exact hk b o hb.1 hb.2.2.1 hb.2.2.2.1 hb.2.2.2.2 e
 self:=fun _ _ _ _ _ st h=>wpAny_pyIter_zip st.1 h
theorem vY:bootBuiltins "enumerate"=some (.type "enumerate"):=by decide +kernel
section
variable {X:Cx}{es:List Expr}{kt:Nat}{tp:Pos}
noncomputable def Fq (K:PySem.W.Frag)(ta:TA):TI:=fun σ H R=>ta σ H fun vs H1=>∃ a,vs=[.ref a]/\(∃ xs,SqL K H1 a xs)/\R (Ite K a) H1
theorem BY {e:Expr}{ta:TA}{p pos:Pos}(hg:Gl X "enumerate")(hm:X.mg "enumerate"=none)(ha:PA X [e] ta)(hs:starEach [e] X.env=[(false,eval e X.env)]:=by rfl) :
  PI X (.Tuple es kt tp) (.Call (.Name "enumerate" p) [e] [] pos) (Fq X.K ta):=by
 intro pins s σ H R I h
 refine Call_ (yG I hg hm (vY) (PyProof.Rows.callWith_type1 (thn (ha pos pins s σ H _ I h) fun us s1 ⟨vs,H1,I1,r1,q1⟩=>?_) hs rfl))
 obtain ⟨a,e,⟨xs,hq⟩,q⟩:=q1
 subst e
 obtain ⟨u,rfl,ru⟩:=kU r1
 cases ru
 obtain ⟨its,rv,pl,hz⟩:=I1.list hq
 refine call_enumerate_list pl.isList fun h' he hit hsz hk=>wpAny_pyIter_enum he ?_
 have I2:Inv X pins σ H1 { s1 with heap:=h' }:=I1.kept (t':=s1.toks) hk
 refine ⟨s1.heap.objs.size+1,[s1.heap.objs.size+1,s1.heap.objs.size],_,_,H1,rfl,I2,Zg a _ _ (Nat.succ_ne_self _),⟨⟨_,he⟩,hit⟩,fun b hb=>?_,q⟩
 have hb':s1.heap.objs.size<=b:=by
  simp only [List.mem_cons,List.not_mem_nil,or_false] at hb
  rcases hb with rfl | rfl
  ·exact Nat.le_succ _
  ·exact Nat.le_refl _
 exact I1.fpOk hb' (I1.hok.fresh hb')
end
theorem VS {K:PySem.W.Frag}{a:Addr}{xs:List V}{g:TG}{tb:TS}{D:xX}{σ:St}{H:Hp}(Pv:Nat->St->Hp->Prop)(h0:Pv 0 σ H)(hl:∀ i σ H,i<=xs.length->Pv i σ H->SqL K H a xs)
  (hs:∀ i x p σ H,xs[i]?=some x->H p=none->Pv i σ H->g (.ref p) σ (upd H p (.tup [.int i,x])) fun σ2 H2=>tb { D with nx:=Pv (i+1),ct:=Pv (i+1),bk:=D.nx } σ2 H2) (hd:∀ σ H,Pv xs.length σ H->D.nx σ H) :
  ∃ W:Nat->Nat->St->Hp->Prop,(∃ m,W 0 m σ H)/\∀ i m σ H,W i m σ H ->
   ((Ite K a).stop i H/\D.nx σ H) \/ ((Ite K a).go i H/\∃ N:St->Hp->Prop,(∀ σ' H',N σ' H'->∃ m',m'<m/\W (i+1) m' σ' H')/\∀ x H',(Ite K a).yld i H x H'->g x σ H' fun σ2 H2=>tb { D with nx:=N,ct:=N,bk:=D.nx } σ2 H2):=by
 refine ⟨fun i m σ H=>m=xs.length - i/\i<=xs.length/\Pv i σ H,⟨xs.length,by simp,Nat.zero_le _,h0⟩,?_⟩
 rintro i m σ H ⟨rfl,hi,p⟩
 have q:=hl i σ H hi p
 by_cases hlt:i<xs.length
 ·refine .inr ⟨⟨xs,xs[i],q,by simp [hlt]⟩,Pv (i+1),fun σ' H' p'=>⟨xs.length - (i+1),by omega,rfl,hlt,p'⟩,fun x H' y=>?_⟩
  obtain ⟨pp,x',hp,rfl,y,rfl⟩:=y
  exact hs i x' pp σ _ (y xs q) hp p
 ·have e:i=xs.length:=by omega
  subst e
  exact .inl ⟨⟨xs,q,Nat.le_refl _⟩,hd σ H p⟩
noncomputable def Qj (p:Addr)(a b c:Int):HO:=.ext fun h=>∃ t u v,h.get? p=some { cls:=.type "range",data:=.fields #[.int a t,.int b u,.int c v] }
theorem GB {P:Program}{w:World}{H:Hp}{h:Heap}{p:Addr}{a b c:Int}{t u v:Tok}(e:h.get? p=some { cls:=.type "range",data:=.fields #[.int a t,.int b u,.int c v] }):zW P w H h p (Qj p a b c):=
 ⟨⟨t,u,v,e⟩,⟨_,e⟩,fun h1 h2 ⟨t,u,v,q⟩ k=>⟨t,u,v,k _ q⟩⟩
noncomputable def qa (a c:Int)(n:Nat):List Int:=(List.range n).map fun (i:Nat)=>a+(i:Int) * c
theorem zZ (a c:Int)(n:Nat):(qa a c n).length=n:=by simp [qa]
theorem Kn {a c:Int}:∀ {n:Nat} {acc:Array Value},ItemsOf (fun (i:Nat) (v:Value)=>∃ t,v=Value.int (a+(i:Int) * c) t) acc n->zG ((qa a c n).map V.int) acc.toList:=by
 intro n acc ⟨hs,hi⟩
 have key:∀ (k:Nat) (l:List Value),l.length=k->(∀ (j:Nat) v,l[j]?=some v->∃ t,v=Value.int (a+(j:Int) * c) t)->zG ((qa a c k).map V.int) l:=by
  intro k
  induction k with
  | zero=>intro l hl _;cases l with
   | nil=>exact .nil
   | cons=>simp at hl
  | succ k ih=>
   intro l hl hv
   obtain ⟨l',x,rfl⟩:∃ l' x,l=l' ++ [x]:=⟨l.dropLast,l.getLast (by intro e;rw [e] at hl;simp at hl),(List.dropLast_concat_getLast _).symm⟩
   have hl':l'.length=k:=by simpa using hl
   have e:(qa a c (k+1)).map V.int=(qa a c k).map V.int ++ [.int (a+(k:Int) * c)]:=by simp [qa,List.range_succ]
   rw [e]
   refine (ih l' hl' fun j v hj=>hv j v ?_).append (.cons ?_ .nil)
   ·rw [List.getElem?_append_left (List.getElem?_eq_some_iff.mp hj).1];exact hj
   ·obtain ⟨t,rfl⟩:=hv k x (by rw [List.getElem?_append_right (by omega),hl'];simp)
    exact ⟨t,rfl⟩
 exact key n acc.toList (by simpa using hs) fun j v hj=>hi j v (by simpa using hj)
section
variable {X:Cx}
theorem jz:jy X (.type "range") (fun xs H Q=>∃ b:Int,xs=[.int b]/\∀ p,H p=none->Q (.ref p) (upd H p (Qj p 0 b 1))):=by
 intro pins s σ H xs us Q I r h
 obtain ⟨b,rfl,q⟩:=h
 obtain ⟨u,rfl,t,rfl⟩:=kU r
 refine call_range_1 ⟨.ref s.heap.objs.size,_,I.laid (fun b o e=>Heap.get?_push_of_some _ e) (Nat.le_refl _) ?_,rfl,q _ (I.hok.fresh (Nat.le_refl _))⟩
 exact GB (Heap.get?_push_size _ rfl)
theorem qZ (hc:X.calm=true):jy X (.type "list") (fun xs H Q=>∃ p a b c n,xs=[.ref p]/\H p=some (Qj p a b c)/\Builtin.Range.small a b c=true/\Builtin.Range.rangeSize a b c=((n:Nat):Int)/\n<=100000/\∀ l,H l=none->Q (.ref l) (upd H l (.lst ((qa a c n).map V.int)))):=by
 intro pins s σ H xs us Q I r h
 obtain ⟨p,a,b,c,n,rfl,hp,hs,hn,hz,q⟩:=h
 obtain ⟨u,rfl,rx⟩:=kU r
 cases rx
 obtain ⟨⟨t,u,v,e⟩,_⟩:=(show zW X.prog X.w H s.heap p (Qj p a b c) from I.hok _ _ hp)
 refine call_list_range (I.ok.hd hc) e hs hn (Nat.le_trans hz (by decide)) fun h' tk acc c' hk he hi=>?_
 refine ⟨.ref s.heap.objs.size,_,I.laid hk (Nat.le_refl _) (show zW X.prog X.w _ h' _ (.lst ((qa a c n).map V.int)) from ⟨?_,acc.toList,c',Kn hi,by simpa using he⟩),rfl,q _ (I.hok.fresh (Nat.le_refl _))⟩
 rw [List.length_map,zZ]
 exact Nat.le_trans hz (by decide)
end
section
variable {X:Cx}
noncomputable def isT (t c:String):Option Bool:=if (Value.type t == Value.type c)=true then some true else if PySem.W.kitMeta c=true then (fastBuiltinMro t).map (·.contains (Value.type c)) else none
theorem XE (K:PySem.W.Frag)(t c:String):PySem.W.kitOne K (.type t) (.type c)=isT t c:=rfl
noncomputable def vL (t:String):List String->Option Bool
 | []=>some false
 | c :: r=>match isT t c with
  | some true=>some true
  | some false=>vL t r
  | none=>none
theorem Qc (K:PySem.W.Frag)(t:String):∀ cs:List String,PySem.W.kitAny K (.type t) (cs.map Value.type)=vL t cs
 | []=>rfl
 | c :: r=>by
  show (match PySem.W.kitOne K (.type t) (.type c) with | some true=>some true | some false=>PySem.W.kitAny K (.type t) (r.map Value.type) | none=>none)=_
  rw [XE,Qc K t r];rfl
theorem qY:jy X (.builtin "isinstance") (fun xs H Q=>∃ x t c b,xs=[x,.ty c]/\kY X.K H x (.type t)/\isT t c=some b/\Q (.bl b) H):=by
 intro pins s σ H xs us Q I r h
 obtain ⟨x,t,c,b,rfl,ty,e,q⟩:=h
 obtain ⟨u,v,rfl,ru,rv⟩:=Kt r
 cases rv
 exact XT I ru ty (by rw [XE];exact e) fun tk=>⟨.bl b,H,I.tok _,rfl,q⟩
theorem Ql:∀ {cs:List String} {us:List Value},zG (cs.map V.ty) us->us=cs.map Value.type
 | [],_,.nil=>rfl
 | c :: cs,_,.cons r t=>by rw [Ql t];cases r;rfl
theorem yR:jy X (.builtin "isinstance") (fun xs H Q=>∃ x t p cs b,xs=[x,.ref p]/\H p=some (.tup (List.map V.ty cs))/\kY X.K H x (.type t)/\vL t cs=some b/\Q (.bl b) H):=by
 intro pins s σ H xs us Q I r h
 obtain ⟨x,t,p,cs,b,rfl,hp,ty,e,q⟩:=h
 obtain ⟨u,v,rfl,rx,rv⟩:=Kt r
 cases rv
 obtain ⟨_,its,rt,o,ho,hc,⟨n,hd⟩,_⟩:=(show zW X.prog X.w H s.heap p (.tup (List.map V.ty cs)) from I.hok _ _ hp)
 obtain ⟨oc,od,odt,osl⟩:=o
 simp only at hc hd
 subst hc hd
 have e':PySem.W.kitAny X.K (.type t) its=some b:=by rw [Ql rt,Qc];exact e
 have fin:∀ tk,EP X pins σ Q (.bool b) { s with toks:=tk }:=fun tk=>⟨.bl b,H,I.tok _,rfl,q⟩
 cases ty with
 | non=>cases (show u=Value.none from rx);exact PySem.W.kia_tup PySem.W.kitx_none I.kIn True.intro ho e' (fun z=>nomatch z) fin
 | bl y=>cases (show u=Value.bool y from rx);exact PySem.W.kia_tup PySem.W.kitx_bool I.kIn True.intro ho e' (fun z=>nomatch z) fin
 | int i=>obtain ⟨t,q⟩:=(show ∃ t,u=Value.int i t from rx);cases q;exact PySem.W.kia_tup PySem.W.kitx_int I.kIn True.intro ho e' (fun z=>nomatch z) fin
 | str y=>obtain ⟨t,q⟩:=(show ∃ t,u=Value.str y t from rx);cases q;exact PySem.W.kia_tup PySem.W.kitx_str I.kIn True.intro ho e' (fun z=>nomatch z) fin
 | flt y=>obtain ⟨t,q⟩:=(show ∃ t,u=Value.float y t from rx);cases q;exact PySem.W.kia_tup PySem.W.kitx_float I.kIn True.intro ho e' (fun z=>nomatch z) fin
 | @lst a xs ea=>
  cases (show u=Value.ref a from rx)
  obtain ⟨_,_,n,_,h1⟩:=(show zW X.prog X.w H s.heap a (.lst xs) from I.hok a _ ea)
  exact PySem.W.kia_tup PySem.W.kitx_list I.kIn ⟨_,h1,rfl⟩ ho e' (fun z=>nomatch z) fin
 | @frz a ob xs ea=>
  cases (show u=Value.ref a from rx)
  obtain ⟨_,_,_,n,_,h1⟩:=(show zW X.prog X.w H s.heap a (.frz ob (.lst xs)) from I.hok a _ ea)
  exact PySem.W.kia_tup PySem.W.kitx_list I.kIn ⟨_,h1,rfl⟩ ho e' (fun z=>nomatch z) fin
 | @tup a xs ea=>
  cases (show u=Value.ref a from rx)
  obtain ⟨_,_,_,p⟩:=(show zW X.prog X.w H s.heap a (.tup xs) from I.hok a _ ea)
  obtain ⟨o,h1,h2,_⟩:=p
  exact PySem.W.kia_tup PySem.W.kitx_tuple I.kIn ⟨o,h1,h2⟩ ho e' (fun z=>nomatch z) fin
 | @dK a kvs ea=>
  cases (show u=Value.ref a from rx)
  obtain ⟨_,_,vs,_,p⟩:=(show zW X.prog X.w H s.heap a (.dK kvs) from I.hok a _ ea)
  obtain ⟨o,es,ep,h1,h2,_⟩:=p
  exact PySem.W.kia_tup PySem.W.kitx_dict I.kIn ⟨o,h1,h2.1⟩ ho e' (fun z=>nomatch z) fin
 | @dT a kvs ea=>
  cases (show u=Value.ref a from rx)
  obtain ⟨_,_,xs,_,o,es,ep,h1,h2,_⟩:=(show zW X.prog X.w H s.heap a (.dT kvs) from I.hok a _ ea)
  exact PySem.W.kia_tup PySem.W.kitx_dict I.kIn ⟨o,h1,h2.1⟩ ho e' (fun z=>nomatch z) fin
end
noncomputable def At (K:PySem.W.Frag)(mg:Str->Option Value)(x:Str)(st:Stmt):Prop:=∃ f fd,Fun K x x st f fd/\mg x=some (.ref f)
noncomputable def Df (P:Program)(w:World)(K:PySem.W.Frag)(mg:Str->Option Value)(base:Heap)(x:Str)(ps:List Str)(k:Nat)(sp:Sp):Prop:=
 ∃ f fd,jx P w K mg base CX0 k f fd ps sp/\jB K fd ps []/\PySem.W.keepIn K (.ref f)=true/\mg x=some (.ref f)/\∃ oc od osl,K.lookup f=some ⟨oc,od,.func fd,osl⟩
theorem Df.mono {P:Program}{w:World}{K:PySem.W.Frag}{mg:Str->Option Value}{base:Heap}{x:Str}{ps:List Str}{j k:Nat}{sp:Sp}(D:Df P w K mg base x ps j sp)(h:j<=k):Df P w K mg base x ps k sp:=
 let ⟨f,fd,F,r⟩:=D
 ⟨f,fd,F.mono h,r⟩
section
variable {X:Cx}{k:Nat}{x:Str}{ps:List Str}{sp:Sp}{p pos:Pos}{e:Expr}{es:List Expr}{t:TA}
theorem zP (D:Df X.prog X.w X.K X.mg X.base x ps k sp)(hr:ql k X.A)(hg:Gl X x)(ha:PA X (e :: es) t)(hdb:(x == ("__debug__":Str))=false:=by decide)
  (he:starEach (e :: es) X.env=(false,eval e X.env) :: starEach es X.env:=by rfl) (hpl:(backTo pos (starEach es X.env)).any (·.1)=false:=by rfl):PE X (.Call (.Name x p) (e :: es) [] pos) (QO sp [] E0 t):=by
 obtain ⟨f,fd,F,b,kp,m,_⟩:=D
 exact EK F hr hg m kp b .nil Xp ha hdb he hpl
end
theorem Zb {P:Program}{w:World}{K:PySem.W.Frag}{mg:Str->Option Value}{base:Heap}{x:Str}{st:Stmt}{N ps:List Str}{k:Nat}{sp:Sp}(a:At K mg x st)(S:zt N ps (ze st))
  (hb:∀ (kV doc pm:Value) (an:Option Addr) (cdv ct:Value) (us:List Value),us.length=ps.length->bindArgs (PySem.W.fnOf x x (qm st) (zM st) (ze st) .none kV doc pm an cdv ct) ⟨us,[]⟩=pure (ps.zip us))
  (len:∀ vs H Q E,sp vs H Q E->vs.length=ps.length)
  (hbody:∀ (f:Addr) (cdv:Value) (A:Around) (outer:List Env) (s:Shared) (H:Hp) (vs:List V) (Q:VK) (E:XK),ql k (A.deeper (envOfC x (ze st) s.heap.objs.size f cdv))->sp vs H Q E ->
   ∃ t,PSs (jD CX0 P w K mg base N x (ze st) f cdv A outer s H E).nox (zM st) t/\t { nx:=fun _ H'=>Q .non H',rt:=Q } (qL N vs) H):Df P w K mg base x ps (k+1) sp:=by
 obtain ⟨f,fd,F,m⟩:=a
 obtain ⟨oc,od,kV,doc,pm,an,cdv,ct,osl,_,lk,_⟩:=id F.ex
 exact ⟨f,fd,F.ok S len fun cdv A outer s H vs Q E=>hbody f cdv A outer s H vs Q E,F.binds hb,F.kp,m,oc,od,osl,lk⟩
theorem at_mk {K:PySem.W.Frag}{mg:Str->Option Value}{h:Heap}{x:Str}{st:Stmt}{f:Addr}{oc:Value}{od an:Option Addr}{osl:Array (Option Value)}{kV doc pm cdv ct:Value}(X:K.In h)(G:h.Ns mainGlobals mg)(a:PySem.W.nsIn K mainGlobals x=some (some (.ref f)))
  (l:K.lookup f=some ⟨oc,od,.func (PySem.W.fnOf x x (qm st) (zM st) (ze st) .none kV doc pm an cdv ct),osl⟩) (c:PySem.W.codeIn K cdv x=true) (k:PySem.W.keepIn K (.ref f)=true):At K mg x st:=⟨f,_,fun_mk l c k,PySem.W.mg_of X G a⟩
theorem Df.fn {P:Program}{w:World}{K:PySem.W.Frag}{mg:Str->Option Value}{base:Heap}{x:Str}{ps:List Str}{k:Nat}{sp:Sp}{f:Addr}{fd:FuncData}{oc:Value}{od:Option Addr}{osl:Array (Option Value)}(D:Df P w K mg base x ps k sp)(m:mg x=some (.ref f))(l:K.lookup f=some ⟨oc,od,.func fd,osl⟩):jx P w K mg base CX0 k f fd ps sp:=by
 obtain ⟨f',fd',F,_,_,m',oc',od',osl',l'⟩:=D
 rw [m] at m'
 cases m'
 rw [l] at l'
 cases l'
 exact F
structure Blt (mg:Str->Option Value):Prop where
 len:mg "len"=none
 range:mg "range"=none
 list:mg "list"=none
 tuple:mg "tuple"=none
 int:mg "int"=none
 bool:mg "bool"=none
 str:mg "str"=none
 abs:mg "abs"=none
 divmod:mg "divmod"=none
 enumerate:mg "enumerate"=none
 zip:mg "zip"=none
 sorted:mg "sorted"=none
 max:mg "max"=none
 min:mg "min"=none
 isinstance:mg "isinstance"=none
 all:mg "all"=none
theorem blt_mk {K:PySem.W.Frag}{mg:Str->Option Value}{h:Heap}(X:K.In h)(G:h.Ns mainGlobals mg)(z1:PySem.W.nsIn K mainGlobals "len"=some none)(z2:PySem.W.nsIn K mainGlobals "range"=some none)(z3:PySem.W.nsIn K mainGlobals "list"=some none)(z4:PySem.W.nsIn K mainGlobals "tuple"=some none)(z5:PySem.W.nsIn K mainGlobals "int"=some none)(z6:PySem.W.nsIn K mainGlobals "bool"=some none)(z7:PySem.W.nsIn K mainGlobals "str"=some none)(z8:PySem.W.nsIn K mainGlobals "abs"=some none)
  (z9:PySem.W.nsIn K mainGlobals "divmod"=some none) (z10:PySem.W.nsIn K mainGlobals "enumerate"=some none) (z11:PySem.W.nsIn K mainGlobals "zip"=some none) (z12:PySem.W.nsIn K mainGlobals "sorted"=some none) (z13:PySem.W.nsIn K mainGlobals "max"=some none) (z14:PySem.W.nsIn K mainGlobals "min"=some none) (z15:PySem.W.nsIn K mainGlobals "isinstance"=some none) (z16:PySem.W.nsIn K mainGlobals "all"=some none):Blt mg:=
 ⟨PySem.W.mg_none_of X G z1,PySem.W.mg_none_of X G z2,PySem.W.mg_none_of X G z3,PySem.W.mg_none_of X G z4,PySem.W.mg_none_of X G z5,PySem.W.mg_none_of X G z6,PySem.W.mg_none_of X G z7,PySem.W.mg_none_of X G z8,PySem.W.mg_none_of X G z9,PySem.W.mg_none_of X G z10,PySem.W.mg_none_of X G z11,PySem.W.mg_none_of X G z12,PySem.W.mg_none_of X G z13,PySem.W.mg_none_of X G z14,PySem.W.mg_none_of X G z15,PySem.W.mg_none_of X G z16⟩
theorem zK:bootBuiltins "isinstance"=some (.builtin "isinstance"):=by decide +kernel
theorem V3:bootBuiltins "abs"=some (.builtin "abs"):=by decide +kernel
theorem YU:bootBuiltins "divmod"=some (.builtin "divmod"):=by decide +kernel
theorem Bc:bootBuiltins "max"=some (.builtin "max"):=by decide +kernel
theorem qd:bootBuiltins "len"=some (.builtin "len"):=by decide +kernel
theorem qS:bootBuiltins "list"=some (.type "list"):=by decide +kernel
theorem qE:bootBuiltins "tuple"=some (.type "tuple"):=by decide +kernel
theorem vX:bootBuiltins "int"=some (.type "int"):=by decide +kernel
theorem Zk:bootBuiltins "bool"=some (.type "bool"):=by decide +kernel
theorem Zr:bootBuiltins "str"=some (.type "str"):=by decide +kernel
theorem xq:bootBuiltins "range"=some (.type "range"):=by decide +kernel
noncomputable def Kp (bs:List Addr)(H H':Hp):Prop:=∀ c o,c ∉ bs->H c=some o->H' c=some o
theorem Kp.refl {bs:List Addr}{H:Hp}:Kp bs H H:=fun _ _ _ h=>h
theorem Kp.trans {bs:List Addr}{H H1 H2:Hp}(a:Kp bs H H1)(b:Kp bs H1 H2):Kp bs H H2:=fun c o n h=>b c o n (a c o n h)
theorem Kp.new {bs:List Addr}{H:Hp}{p:Addr}(o:HO)(h:H p=none):Kp bs H (upd H p o):=fun c u _ q=>by rw [zi (zn q h)];exact q
theorem Kp.set {bs:List Addr}{H:Hp}{p:Addr}(o:HO)(h:p ∈ bs):Kp bs H (upd H p o):=fun c u n q=>by have hne:c ≠ p:=(fun e=>n (by rw [e];exact h));rw [zi hne];exact q
theorem Kp.free {H H':Hp}(e:Kp [] H H'){l:Addr}(h:H' l=Option.none):H l=Option.none:=by
 cases q:H l with
 | none=>rfl
 | some o=>rw [e l o (by simp) q] at h;cases h
noncomputable def Bx (H:Hp)(b:Addr)(N:Nat):Prop:=∃ x y z:Int,H b=some (.lst [.int x,.int y,.int z])/\0<=x/\0<=y/\y<2147483648/\0<=z/\z<=N
noncomputable abbrev il (ns:List Int):HO:=.lst (ns.map V.int)
theorem cxK {CX:CXT}{P:Program}{w:World}{K:PySem.W.Frag}{mg:Str->Option Value}{base:Heap}{N:List Str}{qual:Str}{scope:Scope}{f:Addr}{cd:Value}{A:Around}{outer:List Env}{s:Shared}{H:Hp}{E:XK} :
  (jD CX P w K mg base N qual scope f cd A outer s H E).K=K:=rfl
noncomputable def Io (J:It)(g:TG)(tb:TS)(D:xX)(σ:St)(H:Hp):Prop:=∃ W:Nat->Nat->St->Hp->Prop,(∃ m,W 0 m σ H)/\∀ i m σ H,W i m σ H ->
 (J.stop i H/\D.nx σ H) \/ (J.go i H/\∃ N:St->Hp->Prop,(∀ σ' H',N σ' H'->∃ m',m'<m/\W (i+1) m' σ' H')/\∀ x H',J.yld i H x H'->g x σ H' fun σ2 H2=>tb { D with nx:=N,ct:=N,bk:=D.nx } σ2 H2)
theorem ZC {wi:TI}{g:TG}{tb:TS}{D:xX}{σ:St}{H:Hp}:BW wi g tb D σ H=wi σ H (fun J H1=>Io J g tb D σ H1):=rfl
noncomputable def HY (J:It)(g:TG)(tt:TT)(te:TE)(D:Addr)(Q:VK)(τ:St)(H:Hp):Prop:=∃ W:Nat->Nat->St->Hp->Prop,(∃ m,W 0 m τ H)/\∀ i m τ H2,W i m τ H2 ->
 (J.stop i H2/\Q (.ref D) H2) \/ (J.go i H2/\∃ N:St->Hp->Prop,(∀ τ' H',N τ' H'->∃ m',m'<m/\W (i+1) m' τ' H')/\∀ x H',J.yld i H2 x H'->g x τ H' fun τ2 H3=>tt τ2 H3 fun b H4=>
  if b=true then te τ2 H4 fun v H5=>∃ ys,H5 D=some (.lst ys)/\ys.length<sizeLine/\N τ2 (upd H5 D (.lst (ys ++ [v]))) else N τ2 H4)
theorem Wo {ts:List Nat}{wi:TI}{g:TG}{tt:TT}{te:TE}{σ:St}{H:Hp}{Q:VK} :
  Qo ts wi g tt te σ H Q=wi σ H (fun J H1=>∀ D,H1 D=none->HY J g tt te D Q (clr ts σ) (upd H1 D (.lst []))):=rfl
theorem BZ {K:PySem.W.Frag}{a:Addr}{xs:List V}{g:TG}{tb:TS}{D:xX}{σ:St}{H:Hp}(Pv:Nat->St->Hp->Prop)(h0:Pv 0 σ H)(hl:∀ i σ H,i<=xs.length->Pv i σ H->SqL K H a xs)
  (hs:∀ i x p σ H,xs[i]?=some x->H p=none->Pv i σ H->g (.ref p) σ (upd H p (.tup [.int i,x])) fun σ2 H2=>tb { D with nx:=Pv (i+1),ct:=Pv (i+1),bk:=D.nx } σ2 H2) (hd:∀ σ H,Pv xs.length σ H->D.nx σ H):Io (Ite K a) g tb D σ H:=VS Pv h0 hl hs hd
noncomputable def Wx (i j k:Nat)(ta:TA):TS:=fun D σ H=>ta σ H fun vs H1=>∃ v w x,vs=[v,w,x]/\D.nx (((σ.set i (some v)).set j (some w)).set k (some x)) H1
theorem ER {X:Cx}{pos:Pos}{i j k:Nat}{x y z:Str}{a b c:Expr}{ta:TA}{px py pz pt:Pos}{kt k2 pt2}(hc:X.calm=true)(hN:X.N.Nodup)(hi:X.N[i]?=some x)(hj:X.N[j]?=some y)(hk:X.N[k]?=some z)(hij:i ≠ j)(hik:i ≠ k)(hjk:j ≠ k)
  (hx:X.env.scope.names.lookup x=some .local) (hy:X.env.scope.names.lookup y=some .local) (hz:X.env.scope.names.lookup z=some .local) (ha:PA X [a,b,c] ta)
  (hw:swappedStores [.Tuple [.Name x px,.Name y py,.Name z pz] kt pt] (.Tuple [a,b,c] k2 pt2) X.env=pure (some [x,y,z]))
  (hs:swapsWithSole [.Tuple [.Name x px,.Name y py,.Name z pz] kt pt] (.Tuple [a,b,c] k2 pt2) pos.line X.env=pure false:=by rfl) :
  PS X (.Assign [.Tuple [.Name x px,.Name y py,.Name z pz] kt pt] (.Tuple [a,b,c] k2 pt2) pos) (Wx i j k ta):=by
 intro pins s σ H D I h
 rw [exec_Assign_arm]
 refine wpAny_bind (wpAny_standAt ?_)
 rw [hs]
 refine wpAny_bind (wpAny_pure ?_)
 rw [if_neg (by decide)]
 refine wpAny_bind (Tuple_ (thn (ha _ pins s σ H _ I h) fun us s1 ⟨vs,H1,I1,r1,q1⟩=>?_))
 obtain ⟨v,w,v3,e1,q1⟩:=q1
 subst e1
 obtain ⟨u1,u2,u3,rfl,rv,rw',r3⟩:∃ u1 u2 u3,us=[u1,u2,u3]/\zH v u1/\zH w u2/\zH v3 u3:=by
  cases r1 with
  | cons p q=>
   cases q with
   | cons p' q'=>
    cases q' with
    | cons p'' q''=>
     cases q''
     exact ⟨_,_,_,rfl,p,p',p''⟩
 refine wpAny_newObj_type ?_ (by show 3<=sizeLine;decide)
 have I2:Inv X pins σ H1 { s1 with heap:=s1.heap.push { cls:=.type "tuple",data:=.seq [u1,u2,u3].toArray } }:=I1.kept (t':=s1.toks) fun b o e=>Heap.get?_push_of_some _ e
 rw [hw]
 refine wpAny_bind (wpAny_pure ?_)
 show wpAny (model X.prog X.w) X.A (do rule "assign.swapped-stores";let items <- unpackItems (.ref s1.heap.objs.size) 3 none;assignInOrder [fun v=>bindName X.env z v,fun v=>bindName X.env y v,fun v=>bindName X.env x v] items.reverse;pure Flow.next) _ _ _
 refine wpAny_bind (wpAny_rule (wpAny_bind (unpackItems_tuple (items:=#[u1,u2,u3]) (I.ok.hd hc) (IsTup.new s1.heap _) fun h' hx'=>?_)))
 have I3:=I2.kept (h':=h') (t':=s1.toks) fun b o e=>hx' b o (Nat.ne_of_lt (Heap.lt_size e)) e
 show wpAny _ _ (assignInOrder [fun v=>bindName X.env z v,fun v=>bindName X.env y v,fun v=>bindName X.env x v] [u3,u2,u1] >>= fun _=>pure Flow.next) _ _ _
 refine wpAny_bind (assignInOrder_cons (wpAny_bindName (jA I3 hN hk (.inl hz) r3 (fun s2 I4=>?_) (.inr hz))))
 refine assignInOrder_cons (wpAny_bindName (jA I4 hN hj (.inl hy) rw' (fun s3 I5=>?_) (.inr hy)))
 refine assignInOrder_cons (wpAny_bindName (jA I5 hN hi (.inl hx) rv (fun s4 I6=>assignInOrder_nil (wpAny_pure ?_)) (.inr hx)))
 rw [List.set_comm _ _ (Ne.symm hij),List.set_comm _ _ (Ne.symm hik),List.set_comm _ _ (Ne.symm hjk)] at I6
 refine ⟨_,H1,?_,q1⟩
 first | exact I6 | (rw [List.set_comm _ _ hij] at I6;exact I6) | (have e:∀ τ:St,((τ.set k (some v3)).set j (some w)).set i (some v)=((τ.set i (some v)).set j (some w)).set k (some v3):=fun τ=>by rw [List.set_comm _ _ (Ne.symm hij),List.set_comm _ _ (Ne.symm hik),List.set_comm _ _ (Ne.symm hjk)];exact I6)
theorem Pn1_ {α:Type}{p:List α->Prop}(f:∀ a,p [a]):∀ us:List α,us.length=1->p us
 | [_],_=>f _
theorem Pn2_ {α:Type}{p:List α->Prop}(f:∀ a b,p [a,b]):∀ us:List α,us.length=2->p us
 | [_,_],_=>f _ _
theorem Pn3_ {α:Type}{p:List α->Prop}(f:∀ a b c,p [a,b,c]):∀ us:List α,us.length=3->p us
 | [_,_,_],_=>f _ _ _
theorem Pn4_ {α:Type}{p:List α->Prop}(f:∀ a b c d,p [a,b,c,d]):∀ us:List α,us.length=4->p us
 | [_,_,_,_],_=>f _ _ _ _
noncomputable def Jj_:Expr->Option Int
 | .Constant (.int i) _ _=>some i
 | _=>none
noncomputable def JY:List Expr->Option (List Int)
 | []=>some []
 | e :: r=>match Jj_ e with
  | some i=>(JY r).map (i :: ·)
  | none=>none
noncomputable def FJ (is:List Int):TA:=fun _ H Q=>Q (is.map V.int) H
theorem XN {X:Cx}:∀ {es:List Expr} {is:List Int},JY es=some is->PA X es (FJ is)
 | [],is,h=>by
  cases (show some []=some is from h)
  exact zb
 | e :: r,is,h=>by
  unfold JY at h
  split at h
  ·rename_i i hi
   obtain ⟨js,e',rfl⟩:=Option.map_eq_some_iff.mp h
   unfold Jj_ at hi
   split at hi
   ·cases hi;exact za (te:=tC (.int i)) zd (XN e')
   ·cases hi
  ·cases h
theorem yQ {X:Cx}:jy X (.type "int") (fun xs H Q=>∃ k,xs=[.bl k]/\Q (.int (if k then 1 else 0)) H):=by
 intro pins s σ H xs us Q I r h
 exact Yq pins s σ H xs us Q I r (.inr h)
theorem Bx.mono {H:Hp}{b:Addr}{N M:Nat}(h:Bx H b N)(le:N<=M):Bx H b M:=let ⟨x,y,z,h1,h2,h3,h4,h5,h6⟩:=h;⟨x,y,z,h1,h2,h3,h4,h5,by omega⟩
theorem Bx.new {H:Hp}{b p:Addr}{N:Nat}{o:HO}(h:Bx H b N)(hp:H p=none):Bx (upd H p o) b N:=let ⟨x,y,z,h1,r⟩:=h;⟨x,y,z,(zi (zn h1 hp)).trans h1,r⟩
noncomputable def jL (n:Nat)(ns:List Int):Prop:=ns.length=n/\ns.Nodup/\∀ x ∈ ns,0<=x/\x<(n:Int)
theorem jL.getD {n:Nat}{ns:List Int}(h:jL n ns){i:Nat}(hi:i<n):0<=ns.getD i 0/\ns.getD i 0<n:=by
 obtain ⟨l,d,b⟩:=h
 have hi':i<ns.length:=by omega
 have e:ns.getD i 0=ns[i]:=by rw [List.getD_eq_getElem?_getD,List.getElem?_eq_getElem hi'];rfl
 rw [e]
 exact b _ (List.getElem_mem hi')
theorem Xt {ns:List Int}{i:Nat}(h:i<ns.length):ns.getD i 0=ns[i]:=by rw [List.getD_eq_getElem?_getD,List.getElem?_eq_getElem h];rfl
theorem jL.inj {n:Nat}{ns:List Int}(h:jL n ns){i j:Nat}(hi:i<n)(hj:j<n)(e:ns.getD i 0=ns.getD j 0):i=j:=by
 obtain ⟨l,d,b⟩:=h
 rw [Xt (by omega),Xt (by omega)] at e
 exact (List.getElem_inj d).mp e
theorem VP {ns:List Int}{i j:Nat}{v:Int}(h:i<ns.length):(ns.set i v).getD j 0=if j=i then v else ns.getD j 0:=by
 rw [List.getD_eq_getElem?_getD,List.getElem?_set]
 by_cases e:i=j
 ·subst e;simp [h]
 ·rw [if_neg e,if_neg (Ne.symm e),List.getD_eq_getElem?_getD]
noncomputable def JV:V->V->V->Hp->(Hp->Prop)->Prop:=fun o i v H Q=>∃ k,i=.int k/\∃ p,o=.ref p/\∃ xs,H p=some (.lst xs)/\∃ j,ixN xs.length k=some j/\Q (upd H p (.lst (xs.set j v)))
section
variable {X:Cx}
theorem jW:MtR X "list.append" vp:=wZ
theorem qP {es:List Expr}{k:Nat}{t:TGs}{pos:Pos}{K:PySem.W.Frag}(n:Nat)(h:X.K=K)(hc:X.calm=true)(hs:PGs X es t)(hn:(assignEach es X.env).length=n:=by rfl)(hst:(assignEach es X.env).findIdx? (·.1)=none:=by rfl):PG X (.Tuple es k pos) (YZ K n t):=h ▸ Ho hc hs hn hst
theorem zI:Dq X JV:=by
 intro pins s σ H o i v ov iv u Q I ro ri rv h
 obtain ⟨k,e1,p,e2,xs,h1,j,h2,q⟩:=h
 exact Be pins s σ H o i v ov iv u Q I ro ri rv ⟨p,xs,k,j,e2,e1,h1,h2,q⟩
theorem wv {K:PySem.W.Frag}(h:X.K=K):jy X (.builtin "len") (fun xs H Q=>∃ p ys,xs=[.ref p]/\(SqL K H p ys \/ SqT K H p ys)/\Q (.int ys.length) H):=h ▸ zp
end
noncomputable def Ba (os bs:List Int):Prop:=bs.length=os.length/\∀ i,i<os.length->bs.getD (os.getD i 0).toNat 0=(i:Int)
section
variable {X:Cx}
noncomputable def KB (K:PySem.W.Frag):R2:=fun x y H Q=>∃ p xs i v,x=.ref p/\y=.int i/\(SqL K H p xs \/ SqT K H p xs)/\atI xs i=some v/\Q v H
theorem zD:IxR X (KB X.K):=by
 intro value slice pins s σ H x y v u Q I rx ry h hs
 obtain ⟨p,xs,i,z,e1,e2,hq | hq,he,q⟩:=h
 ·exact qN value slice pins s σ H x y v u Q I rx ry ⟨p,xs,i,z,e1,e2,hq,he,q⟩ hs
 ·exact Gy value slice pins s σ H x y v u Q I rx ry ⟨p,xs,i,z,e1,e2,hq,he,q⟩ hs
theorem Zv {K:PySem.W.Frag}(h:X.K=K):IxR X (KB K):=h ▸ zD
theorem FW:bootBuiltins "all"=some (.builtin "all"):=by decide +kernel
theorem wa:∀ {bs:List Bool} {us:List Value},zG (bs.map V.bl) us->us=bs.map Value.bool
 | [],_,h=>by cases h;rfl
 | b :: bs,_,h=>by
  cases h with
  | cons r rs=>cases r;rw [wa rs];rfl
theorem JK (bs:List Bool):((List.range bs.length).all fun i=>(bs[i]?).getD true)=bs.all id:=by
 rw [Bool.eq_iff_iff,List.all_eq_true,List.all_eq_true]
 constructor
 ·intro h x hx
  obtain ⟨i,hi,rfl⟩:=List.getElem_of_mem hx
  have:=h i (by simpa using hi)
  simpa [List.getElem?_eq_getElem hi] using this
 ·intro h i hi
  have hi':i<bs.length:=by simpa using hi
  simpa [List.getElem?_eq_getElem hi'] using h bs[i] (List.getElem_mem hi')
theorem X6 (hc:X.calm=true):jy X (.builtin "all") (fun xs H Q=>∃ p bs,xs=[.ref p]/\SqL X.K H p (List.map V.bl bs)/\Q (.bl (bs.all id)) H):=by
  intro pins s σ H xs us Q I r h
  obtain ⟨p,bs,rfl,hq,q⟩:=h
  obtain ⟨u,rfl,rx⟩:=kU r
  cases rx
  obtain ⟨its,rv,pl,hz⟩:=I.list hq
  have hu:=wa rv
  subst hu
  have hlt:p<s.heap.objs.size:=by obtain ⟨_,e,_⟩:=pl.isList;exact Heap.lt_size e
  refine call_all_walk (wpAny_pyIter_list pl.isList ?_)
  refine ⟨s.heap.objs.size,[s.heap.objs.size,p],[s.heap.objs.size],(bs.map Value.bool).toArray.size,_,_,fun i=>(bs[i]?).getD true,rfl,Walks.list (A:=X.A.in1) (I.ok.hd hc) _ p (Nat.ne_of_lt hlt) (bs.map Value.bool).toArray,
    ⟨⟨_,Heap.get?_push_size _ rfl,rfl,rfl⟩,pl.isList.push _⟩,fun i v s' Q' E' hP hQ=>?_,fun h' tk hk=>?_⟩
  · have hP':(bs.map Value.bool)[i]?=some v:=by simpa using hP
    rw [List.getElem?_map] at hP'
    cases e:bs[i]? with
    | none=>rw [e] at hP';cases hP'
    | some b=>
      rw [e] at hP'
      cases hP'
      simp only [e,Option.getD_some] at hQ
      exact wpAny_truthy_bool hQ
  · have e : ((List.range (bs.map Value.bool).toArray.size).all fun i => (bs[i]?).getD true) = bs.all id := by
      rw [List.size_toArray,List.length_map];exact JK bs
    rw [e]
    refine ⟨.bl (bs.all id),H,I.turnedL (ch:=[]) (tk:=tk) (fun b hb=>nomatch hb) (fun b o _ eb=>?_),rfl,q⟩
    exact hk b o (fun hm=>by rw [List.mem_singleton.mp hm] at eb;exact Nat.lt_irrefl _ (Heap.lt_size eb)) (Heap.get?_push_of_some _ eb)
end
noncomputable def nxt (os:List Int)(p:Int):Int:=os.getD p.toNat 0
noncomputable def itn (os:List Int):Nat->Int->Int
 | 0,p=>p
 | k+1,p=>nxt os (itn os k p)
noncomputable def GI (os:List Int)(p:Int)(m:Nat)(e:Int):Prop:=1<=m/\e=itn os m p/\e<=p/\∀ j,1<=j->j<m->p<itn os j p
open Classical in
noncomputable def wkM (os:List Int)(p:Int):Nat:=if h:∃ m,∃ e,GI os p m e then Classical.choose h else 0
open Classical in
noncomputable def wkE (os:List Int)(p:Int):Int:=itn os (wkM os p) p
section
variable {P:Program}{w:World}{A:Around}{E:Value->Shared->Prop}{s:Shared}{j t:Addr}{i:Nat}{its:Array Value}{Q:Value->Shared->Prop}
theorem ZR {x:Value}(hj:s.heap.IsTupleIter j t i)(ht:s.heap.IsTuple t its)(hx:its[i]?=some x)(hQ:∀ h',h'.IsTupleIter j t (i+1)->Heap.SameBut j s.heap h'->Q x { s with heap:=h' }):wpAny (model P w) A (Builtin.SmallTypes.nextOf (.ref j)) Q E s:=by
 obtain ⟨o,ho,hc,hd⟩:=id hj
 obtain ⟨ot,hot,_,nt,hdt⟩:=ht
 unfold Builtin.SmallTypes.nextOf
 refine wpAny_bind (wpAny_callSpecial?_slot (name:=Str.ofString "__next__") hj.typeIs F.slot_tuple_iterator_next (wpAny_call_entry F.slot_tuple_iterator_next hj.typeIs F.entry_tuple_iterator_next ?_ (F.args_tuple_iterator_next_1 _)))
 refine wpAny_bind (m:=field (.ref j) 0) (wpAny_field ho hd (x:=.ref t) rfl ?_);show wpAny _ _ (if (Value.ref t == Value.none)=true then _ else _) _ _ s;rw [if_neg (show ¬ ((Value.ref t == Value.none)=true) from Bool.false_ne_true)]
 refine wpAny_bind (m:=field (.ref j) 1) (wpAny_field ho hd (x:=.int i 0) rfl ?_);refine wpAny_bind (m:=seqItems? (.ref t)) (wpAny_seqItems hot hdt ?_);simp only [Int.toNat_natCast,hx]
 refine wpAny_bind (wpAny_setField ho hd (by simp) (wpAny_pure ⟨x,rfl,wpAny_pure (hQ _ ⟨_,Heap.get?_update_self _ ho (Obj.isFreed_of_fields (Obj.data_mapFields hd _)),(Obj.cls_mapFields ..).trans hc,by rw [Obj.data_mapFields hd];simp [rawInt]⟩ (Heap.SameBut.update ..))⟩))
theorem yS (hh:A.handled=none)(hj:s.heap.IsTupleIter j t i)(ht:s.heap.IsTuple t its)(hx:its[i]?=none)(hE:∀ h' e,Heap.ExtBut j s.heap h'->(∃ o,h'.get? e=some o/\o.cls=.type "StopIteration")->E (.ref e) { s with heap:=h' }):wpAny (model P w) A (Builtin.SmallTypes.nextOf (.ref j)) Q E s:=by
 obtain ⟨o,ho,hc,hd⟩:=id hj
 obtain ⟨ot,hot,_,nt,hdt⟩:=ht
 unfold Builtin.SmallTypes.nextOf
 refine wpAny_bind (wpAny_callSpecial?_slot (name:=Str.ofString "__next__") hj.typeIs F.slot_tuple_iterator_next (wpAny_call_entry F.slot_tuple_iterator_next hj.typeIs F.entry_tuple_iterator_next ?_ (F.args_tuple_iterator_next_1 _)))
 refine wpAny_bind (m:=field (.ref j) 0) (wpAny_field ho hd (x:=.ref t) rfl ?_);show wpAny _ _ (if (Value.ref t == Value.none)=true then _ else _) _ _ s;rw [if_neg (show ¬ ((Value.ref t == Value.none)=true) from Bool.false_ne_true)]
 refine wpAny_bind (m:=field (.ref j) 1) (wpAny_field ho hd (x:=.int i 0) rfl ?_);refine wpAny_bind (m:=seqItems? (.ref t)) (wpAny_seqItems hot hdt ?_);simp only [Int.toNat_natCast,hx]
 refine wpAny_bind (wpAny_rule (wpAny_bind (wpAny_setField ho hd (by simp) ?_)));refine wpAny_bind (m:=newExc (.type "StopIteration") []) ?_;simp only [newExc,newTuple];refine wpAny_bind (wpAny_newObj_type ?_ (by size_fits));refine wpAny_bind (m:=firstArgMember _ _) (wpAny_of_eq (a:=Value.none) (by first | rfl | (simp only [firstArgMember];rfl)) ?_);refine wpAny_newObj_type ?_ (by size_fits);simp only [raiseNew];refine wpAny_bind (wpAny_handled ?_)
 (first | rw [show A.in1.handled=none from hh] | rw [hh]);refine wpAny_bind (wpAny_pure (wpAny_throw ?_));exact hE _ _ (((Heap.SameBut.update ..).extBut.push _).push _) ⟨_,Heap.get?_push_size _ rfl,rfl⟩
end
theorem X1 {P:Program}{w:World}{A:Around}(hh:A.handled=none)(j t:Addr)(hne:t ≠ j)(its:Array Value) :
  Draws P w A j [j,t] its.size (fun i v=>its[i]?=some v) (fun i h=>h.IsTupleIter j t i/\h.IsTuple t its) where
 live:=fun _ _ st=>let ⟨o,ho,_⟩:=st.1;⟨o,ho⟩
 frame:=fun _ _ _ st hk=>⟨st.1.at fun o e=>hk j (by simp) o e,let ⟨o,ho,r⟩:=st.2;⟨o,hk t (by simp) o ho,r⟩⟩
 item:=fun i s Q E hi st hQ=>by
  refine ZR st.1 st.2 (x:=its[i]) (by simp [hi]) fun h' hit' hs'=>?_
  exact hQ _ h' s.toks (by simp [hi]) ⟨hit',let ⟨o,ho,r⟩:=st.2;⟨o,(hs'.2 t hne).trans ho,r⟩⟩ hs'
 done:=fun s Q E st hE=>yS hh st.1 st.2 (by simp) hE
open AutoSeq1 (wpAny_loadPart') in
theorem YX (l:Addr)(its:Array Value)(n:Nat)(dct:Option Addr)(sl:Array (Option Value)) :
  Meets (Builtin.«enumerate.__new__» ⟨[.type "enumerate",.ref l],[]⟩) (fun _ R s=>s.heap.get? l=some { cls:=.type "tuple",dict:=dct,data:=.seq its n,slots:=sl }/\R (.ok (.ret (.ref (s.heap.push { cls:=.type "tuple_iterator",data:=.fields #[.ref l,.int 0 0] }).objs.size))) { s with heap:=(s.heap.push { cls:=.type "tuple_iterator",data:=.fields #[.ref l,.int 0 0] }).push { cls:=.type "enumerate",data:=.fields #[.none,.bool false,.ref s.heap.objs.size,rawInt 0,.none,.none] } }):=
 .of_wp fun prog w A R s h=>by
  obtain ⟨hp,g,d,tk,os⟩:=s
  obtain ⟨hl,h⟩:=h
  have hsub:=sub_enumerate
  have hT:Heap.IsTuple (Shared.heap ⟨hp,g,d,tk,os⟩) l its:=⟨_,hl,rfl,n,rfl⟩
  wp_walk using wpAny_loadPart' hl
  refine wpAny_stack_any fun st=>wpAny_pure ?_
  split
  ·rename_i c _ _ _ _ _
   cases (c == Value.type "enumerate")
   ·wp_walk using wpAny_loadPart' hl,wpAny_pyIter_tuple hT;exact ⟨_,rfl,h⟩
   ·wp_walk using wpAny_loadPart' hl,wpAny_pyIter_tuple hT;exact ⟨_,rfl,h⟩
  ·wp_walk using wpAny_loadPart' hl,wpAny_pyIter_tuple hT;exact ⟨_,rfl,h⟩
theorem JO {P:Program}{w:World}{A:Around}{E:Value->Shared->Prop}{s:Shared}{l:Addr}{its:Array Value}{Q:Value->Shared->Prop}(hT:s.heap.IsTuple l its)
  (h:∀ h',IsEnum h' (s.heap.objs.size+1) s.heap.objs.size 0 .none->h'.IsTupleIter s.heap.objs.size l 0->(∀ b o,s.heap.get? b=some o->h'.get? b=some o)->Q (.ref (s.heap.objs.size+1)) { s with heap:=h' }) :
  wpAny (model P w) A (call (.type "enumerate") [.ref l]) Q E s:=by
 obtain ⟨⟨c,dct,dt,sl⟩,hl,hc,n,hd⟩:=hT
 replace hc:c=.type "tuple":=hc
 replace hd:dt=.seq its n:=hd
 subst hc hd
 refine callType_new F.called_enumerate (by decide) (F.typeCall_enumerate_1 _) (F.newCall_enumerate_1 _) (fun obj=>F.args_object_init_2 obj _) F.entry_enumerate_new (YX l its n dct sl) ⟨hl,?_⟩
 have hz:(s.heap.push { cls:=.type "tuple_iterator",data:=.fields #[.ref l,.int 0 0] }).objs.size=s.heap.objs.size+1:=Heap.size_push ..
 show _/\_
 rw [hz]
 have he:IsEnum ((s.heap.push { cls:=.type "tuple_iterator",data:=.fields #[.ref l,.int 0 0] }).push { cls:=.type "enumerate",data:=.fields #[.none,.bool false,.ref s.heap.objs.size,rawInt 0,.none,.none] }) (s.heap.objs.size+1) s.heap.objs.size 0 .none:=by
  have hg:=Heap.get?_push_size (s.heap.push { cls:=.type "tuple_iterator",data:=.fields #[.ref l,.int 0 0] }) (o:={ cls:=.type "enumerate",data:=.fields #[.none,.bool false,.ref s.heap.objs.size,rawInt 0,.none,.none] }) rfl
  rw [hz] at hg;exact hg
 exact ⟨⟨_,he,rfl⟩,h _ he ⟨_,Heap.get?_push_of_some _ (Heap.get?_push_size _ rfl),rfl,rfl⟩ fun b o x=>Heap.get?_push_of_some _ (Heap.get?_push_of_some _ x)⟩
theorem XY {P:Program}{w:World}{A:Around}{E:Value->Shared->Prop}{s:Shared}{e j t:Addr}{i:Nat}{its:Array Value}{old:Value}{Q:Option Value->Shared->Prop}(hh:A.handled=none)
  (he:IsEnum s.heap e j i old) (hj:s.heap.IsTupleIter j t i) (ht:s.heap.IsTuple t its) (hx:its[i]?=none) (hQ:∀ h',Heap.ExtBut j s.heap h'->Q none { s with heap:=h' }):wpAny (model P w) A (pyNext (.ref e)) Q E s:=by
 have hT:s.TypeIs (.ref e) "enumerate":=⟨_,he,rfl⟩
 unfold pyNext
 refine wpAny_bind (wpAny_attempt (wpAny_callSpecial?_slot (name:=Str.ofString "__next__") hT F.slot_enumerate_next (wpAny_call_entry F.slot_enumerate_next hT F.entry_enumerate_next ?_ (F.args_enumerate_next_1 _))))
 refine wpAny_bind (m:=field (.ref e) 2) (wpAny_field he rfl (x:=.ref j) rfl ?_);refine wpAny_bind (yS hh hj ht hx fun h' x he' hx'=>?_)
 obtain ⟨o,ho,hc⟩:=hx'
 refine wpAny_bind (wpAny_isInstance (T:="StopIteration") (b:=true) ⟨o,ho,hc⟩ isSubtype_stop ?_);exact wpAny_pure (hQ _ he')
noncomputable def GT (K:PySem.W.Frag)(a:Addr):It:=
 ⟨fun i H=>∃ xs x,SqT K H a xs/\xs[i]?=some x,fun i H y H'=>∃ p x,H p=none/\y=.ref p/\(∀ xs,SqT K H a xs->xs[i]?=some x)/\H'=upd H p (.tup [.int i,x]),fun i H=>∃ xs,SqT K H a xs/\xs.length<=i⟩
theorem Kc {P:Program}{w:World}{K:PySem.W.Frag}{es:List Expr}{kt:Nat}{tp:Pos}(a e it:Addr)(hei:e ≠ it)(hea:e ≠ a)(hai:a ≠ it):Jy P w K (.Tuple es kt tp) (GT K a) [e,it] e (fun i h=>(∃ old,IsEnum h e it (i:Nat) old)/\h.IsTupleIter it a i) where
 mem:=by simp
 obj:=fun i h st b hb=>by
  obtain ⟨⟨old,he⟩,⟨o,e1,c,d⟩⟩:=st
  rcases List.mem_cons.mp hb with rfl | hb
  ·exact ⟨_,he,fun v z=>by have z':Data.fields _=Data.cell v:=z;cases z'⟩
  ·have e2:b=it:=by simpa using hb
   subst e2
   exact ⟨o,e1,fun v z=>by rw [d] at z;cases z⟩
 keep:=fun i h h' st k=>by
  obtain ⟨⟨old,he⟩,st⟩:=st
  exact ⟨⟨old,k e (by simp) _ he⟩,st.at fun o e=>k it (by simp) o e⟩
 item:=by
  intro X hP hw hK hc i pins s σ H E I hf st hg
  subst hP hw hK
  obtain ⟨⟨old,he⟩,st⟩:=st
  obtain ⟨xs,x,hq,hx⟩:=hg
  obtain ⟨its,rv,p,hz⟩:=I.tuple hq
  obtain ⟨u,hu,ru⟩:=rv.get hx
  have hlt:i<its.toArray.size:=by
   have:=(List.getElem?_eq_some_iff.mp hu).1
   simpa using this
  refine wpAny_pyNext_enum_itemD (X1 (A:=X.A.in1) (I.ok.hd hc) it a hai its.toArray) he ⟨st,p⟩ hlt hei (by simp [hei,hea]) fun x' h1 tk hP heo hit1 ht1 hz1 hk1=>?_
  have hxu:x'=u:=by
   have h1':its[i]?=some x':=by simpa using hP
   rw [hu] at h1';cases h1';rfl
  subst hxu
  refine ⟨.ref s.heap.objs.size,rfl,wpAny_letOwnedTupleGo_enum heo fun h2 he2 hs2=>?_⟩
  replace hs2:Heap.SameBut e h1 h2:=hs2
  have elt:e<s.heap.objs.size:=Heap.lt_size he
  have ht2:=(hs2.2 _ (Nat.ne_of_gt elt)).trans ht1
  have I2:Inv X pins σ (upd H s.heap.objs.size (.tup [.int i,x])) { s with heap:=h2,toks:=tk+1 }:=by
   refine I.yieldTup (us:=[.int i tk,x']) hf (fun b o hb q=>?_) (Nat.le_refl _) ht2 (.cons ⟨_,rfl⟩ (.cons ru .nil)) (by show 2<=sizeLine;decide)
   have n1:b ≠ e:=fun z=>hb (by simp [z])
   have n2:b ≠ it:=fun z=>hb (by simp [z])
   exact (hs2.2 b n1).trans (hk1 b o n1 n2 q)
  refine ⟨.ref s.heap.objs.size,_,I2,rfl,⟨s.heap.objs.size,x,I.hok.fresh (Nat.le_refl _),rfl,fun ys hy=>by rw [I.tuple_inj hy hq];exact hx,rfl⟩,⟨⟨_,by simpa using he2⟩,hit1.1.extBut hs2.extBut (Ne.symm hei)⟩,fun b hb=>?_⟩
  have hlt:b<s.heap.objs.size:=by
   rcases List.mem_cons.mp hb with rfl | hb
   ·exact elt
   ·have e2:b=it:=by simpa using hb
    subst e2
    obtain ⟨o,e1,_⟩:=st
    exact Heap.lt_size e1
  rw [zi (Nat.ne_of_lt hlt)]
  exact (hf b hb).1
 done:=by
  intro X hP hw hK hc i pins s σ H E I hf st hg
  subst hP hw hK
  obtain ⟨⟨old,he⟩,st⟩:=st
  obtain ⟨xs,hq,hx⟩:=hg
  obtain ⟨its,rv,p,hz⟩:=I.tuple hq
  obtain ⟨f0,f1,f2,f3,f4,f5⟩:=hf it (by simp)
  have hl:=rv.length
  exact XY (I.ok.hd hc) he st p (by simp;omega) fun h' eb=>⟨rfl,I.turned (t':=s.toks) (fun b o hb e=>eb b o hb e) f0 f1 f3 f4 f5⟩
 self:=fun _ _ _ _ _ st h=>by
  obtain ⟨⟨old,he⟩,_⟩:=st
  exact wpAny_pyIter_enum he h
section
variable {X:Cx}{es:List Expr}{kt:Nat}{tp:Pos}
noncomputable def ZN (K:PySem.W.Frag)(ta:TA):TI:=fun σ H R=>ta σ H fun vs H1=>∃ a,vs=[.ref a]/\(((∃ xs,SqL K H1 a xs)/\R (Ite K a) H1) \/ ((∃ xs,SqT K H1 a xs)/\R (GT K a) H1))
theorem yL {e:Expr}{ta:TA}{p pos:Pos}(hg:Gl X "enumerate")(hm:X.mg "enumerate"=none)(ha:PA X [e] ta)(hs:starEach [e] X.env=[(false,eval e X.env)]:=by rfl) :
  PI X (.Tuple es kt tp) (.Call (.Name "enumerate" p) [e] [] pos) (ZN X.K ta):=by
 intro pins s σ H R I h
 refine Call_ (yG I hg hm (vY) (PyProof.Rows.callWith_type1 (thn (ha pos pins s σ H _ I h) fun us s1 ⟨vs,H1,I1,r1,q1⟩=>?_) hs rfl))
 obtain ⟨a,e,q⟩:=q1
 subst e
 obtain ⟨u,rfl,ru⟩:=kU r1
 cases ru
 have hb':∀ b ∈ [s1.heap.objs.size+1,s1.heap.objs.size],s1.heap.objs.size<=b:=by
  intro b hb
  simp only [List.mem_cons,List.not_mem_nil,or_false] at hb
  omega
 rcases q with ⟨⟨xs,hq⟩,q⟩ | ⟨⟨xs,hq⟩,q⟩
 ·obtain ⟨its,rv,pl,hz⟩:=I1.list hq
  refine call_enumerate_list pl.isList fun h' he hit hsz hk=>wpAny_pyIter_enum he ?_
  have I2:Inv X pins σ H1 { s1 with heap:=h' }:=I1.kept (t':=s1.toks) hk
  exact ⟨s1.heap.objs.size+1,[s1.heap.objs.size+1,s1.heap.objs.size],_,_,H1,rfl,I2,Zg a _ _ (Nat.succ_ne_self _),⟨⟨_,he⟩,hit⟩,fun b hb=>I1.fpOk (hb' b hb) (I1.hok.fresh (hb' b hb)),q⟩
 ·obtain ⟨its,rv,pl,hz⟩:=I1.tuple hq
  have alt:a<s1.heap.objs.size:=by obtain ⟨o,e,_⟩:=pl;exact Heap.lt_size e
  refine JO pl fun h' he hit hk=>wpAny_pyIter_enum he ?_
  have I2:Inv X pins σ H1 { s1 with heap:=h' }:=I1.kept (t':=s1.toks) hk
  exact ⟨s1.heap.objs.size+1,[s1.heap.objs.size+1,s1.heap.objs.size],_,_,H1,rfl,I2,Kc a (s1.heap.objs.size+1) s1.heap.objs.size (Nat.succ_ne_self _) (Nat.ne_of_gt (Nat.lt_succ_of_lt alt)) (Nat.ne_of_lt alt),⟨⟨_,he⟩,hit⟩,fun b hb=>I1.fpOk (hb' b hb) (I1.hok.fresh (hb' b hb)),q⟩
end
noncomputable def MR (r:R2):Prop:=∀ x y H Q Q',(∀ z H1,Q z H1->Q' z H1)->r x y H Q->r x y H Q'
noncomputable def Rch (os:List Int)(q x:Int):Prop:=∃ k,itn os k q=x
noncomputable def Mkd (os:List Int)(mk:Nat):Nat->Int->Prop
 | 0,_=>False
 | i+1,x=>Mkd os mk i x \/ (¬ Mkd os mk i (i:Int)/\wkE os (i:Int)=(i:Int)/\Rch os (i:Int) x/\x<(mk:Int))
open Classical in
noncomputable def cnt (os:List Int)(mk:Nat)(i:Nat):Int:=if Mkd os mk i (i:Int) then 0 else ((wkM os (i:Int):Nat):Int)
noncomputable def iLT (K:PySem.W.Frag)(tl:TE):TI:=fun σ H R=>tl σ H fun x H1=>∃ a,x=.ref a/\(((∃ xs,SqL K H1 a xs)/\R (Itl K a) H1) \/ ((∃ xs,SqT K H1 a xs)/\R (Itt K a) H1))
theorem vb {X:Cx}{tg:Expr}{l:Expr}{tl:TE}(hl:PE X l tl):PI X tg l (iLT X.K tl):=by
 intro pins s σ H R I h
 refine thn (hl pins s σ H _ I h) fun v s1 ⟨x,H1,I1,r1,q1⟩=>?_
 obtain ⟨a,e,q⟩:=q1
 subst e
 cases r1
 have fo:∀ b ∈ [s1.heap.objs.size],vj X pins H1 b:=fun b hb=>by
  have e:b=s1.heap.objs.size:=by simpa using hb
  subst e
  exact I1.fpOk (Nat.le_refl _) (I1.hok.fresh (Nat.le_refl _))
 rcases q with ⟨⟨xs,hq⟩,q⟩ | ⟨⟨xs,hq⟩,q⟩
 ·obtain ⟨its,rv,p,hz⟩:=I1.list hq
  refine wpAny_pyIter_list p.isList ?_
  exact ⟨s1.heap.objs.size,[s1.heap.objs.size],_,_,H1,rfl,I1.kept (t':=s1.toks) fun b o e=>Heap.get?_push_of_some _ e,YR a _,⟨_,Heap.get?_push_size _ rfl,rfl,rfl⟩,fo,q⟩
 ·obtain ⟨its,rv,p,hz⟩:=I1.tuple hq
  refine wpAny_pyIter_tuple (show s1.heap.IsTuple a its.toArray from p) ?_
  exact ⟨s1.heap.objs.size,[s1.heap.objs.size],_,_,H1,rfl,I1.kept (t':=s1.toks) fun b o e=>Heap.get?_push_of_some _ e,Jw a _,⟨_,Heap.get?_push_size _ rfl,rfl,rfl⟩,fo,q⟩
section
variable {X:Cx}
end
section
variable {X:Cx}
end
section
variable {prog:Program}{w:World}{A:Around}{R:Result->Shared->Prop}{s:Shared}
end
noncomputable def CL (J:It)(g:TG)(tt:TT)(tr:St->Hp->(St->Hp->Prop)->Prop)(N:St->Hp->Prop)(σ:St)(H:Hp):Prop:=∃ W:Nat->Nat->St->Hp->Prop,(∃ m,W 0 m σ H)/\∀ i m τ H2,W i m τ H2 ->
 (J.stop i H2/\N τ H2) \/ (J.go i H2/\∃ N1:St->Hp->Prop,(∀ τ' H',N1 τ' H'->∃ m',m'<m/\W (i+1) m' τ' H')/\∀ x H',J.yld i H2 x H'->g x τ H' fun τ2 H3=>tt τ2 H3 fun b H4=>
  if b=true then tr τ2 H4 N1 else N1 τ2 H4)
noncomputable abbrev TR:=St->Hp->(St->Hp->Prop)->Prop
noncomputable def Kj (te:TE)(D:Addr):TR:=fun σ H N=>te σ H fun v H5=>∃ ys,H5 D=some (.lst ys)/\ys.length<sizeLine/\N σ (upd H5 D (.lst (ys ++ [v])))
noncomputable def HP (wi:TI)(g:TG)(tt:TT)(tr:Addr->TR)(D:Addr):TR:=fun σ H N=>wi σ H fun J H1=>CL J g tt (tr D) N σ H1
section
variable {C:Cx}{elt tg iter:Expr}{ifs:List Expr}{gens:List Comprehension}{scope:Scope}{pos:Pos}{d:Nat}{D:Addr}{g:TG}{tt:TT}{te:TE}{tr:TR}
end
noncomputable def Vu (ts:List Nat)(wi:TI)(g:TG)(tt:TT)(tr:Addr->TR):TE:=fun σ H Q=>wi σ H fun J H1=>∀ D,H1 D=none->CL J g tt (tr D) (fun _ H2=>Q (.ref D) H2) (clr ts σ) (upd H1 D (.lst []))
section
variable {X:Cx}{ts:List Nat}{scope:Scope}{tg iter elt:Expr}{ifs:List Expr}{jc:List Comprehension}{wi:TI}{g:TG}{tt:TT}{tr:Addr->TR}{pos:Pos}
end
theorem YH {ts:List Nat}{wi:TI}{g:TG}{tt:TT}{tr:Addr->TR}{σ:St}{H:Hp}{Q:VK} :
  Vu ts wi g tt tr σ H Q=wi σ H (fun J H1=>∀ D,H1 D=none->CL J g tt (tr D) (fun _ H2=>Q (.ref D) H2) (clr ts σ) (upd H1 D (.lst []))):=rfl
theorem YW {wi:TI}{g:TG}{tt:TT}{tr:Addr->TR}{D:Addr}{σ:St}{H:Hp}{N:St->Hp->Prop}:HP wi g tt tr D σ H N=wi σ H (fun J H1=>CL J g tt (tr D) N σ H1):=rfl
theorem Y6 {te:TE}{D:Addr}{σ:St}{H:Hp}{N:St->Hp->Prop}:Kj te D σ H N=te σ H (fun v H5=>∃ ys,H5 D=some (.lst ys)/\ys.length<sizeLine/\N σ (upd H5 D (.lst (ys ++ [v])))):=rfl
section
variable {P:Program}{w:World}{A:Around}{E:Value->Shared->Prop}{it l:Addr}{items:Array Value}
end
section
variable {X:Cx}{pos:Pos}
end
noncomputable def rep (o:Nat)(G:List Int):List Int:=(List.range (o * G.length)).map fun (i:Nat)=>((i / G.length * G.length:Nat):Int)+G.getD (i % G.length) 0
section
variable {P:Program}{w:World}{A:Around}{E:Value->Shared->Prop}{s:Shared}{z TI TO i1 i2 l1 l2:Addr}{k:Nat}{xs ys:Array Value}{x y a b:Value}{Q:Option Value->Shared->Prop}
end
open AutoSeq1 (wpAny_loadPart') in
section
variable {X:Cx}{es:List Expr}{kt:Nat}{tp:Pos}
end
noncomputable def slV (xs:List V)(lo hi st:Option Int):List V:=(sliceRange (sliceBounds lo hi st xs.length).1 (sliceBounds lo hi st xs.length).2.1 (sliceBounds lo hi st xs.length).2.2).filterMap fun k=>xs[k]?
theorem Za {xs:List V}{us:List Value}(r:zG xs us):∀ ks:List Nat,zG (ks.filterMap fun k=>xs[k]?) (ks.filterMap fun k=>us[k]?)
 | []=>.nil
 | k :: ks=>by
  have ih:=Za r ks
  have hl:=r.length
  by_cases h:k<xs.length
  ·have e1:xs[k]?=some xs[k]:=List.getElem?_eq_getElem h
   obtain ⟨u,hu,ru⟩:=r.get e1
   rw [List.filterMap_cons_some e1,List.filterMap_cons_some hu]
   exact .cons ru ih
  ·have e1:xs[k]?=none:=List.getElem?_eq_none (by omega)
   have e2:us[k]?=none:=List.getElem?_eq_none (by omega)
   rw [List.filterMap_cons_none e1,List.filterMap_cons_none e2]
   exact ih
section
variable {X:Cx}{e st:Expr}{te:TE}{lo hi:Option Expr}{tl th ts:TO}{p2 pos:Pos}
end
noncomputable def Ke:V->List V->Hp->VK->Prop:=fun x vs H Q=>∃ l ns i j,x=.ref l/\vs=[.int i]/\H l=some (il ns)/\j<ns.length/\ns.getD j 0=i/\(∀ m,m<j->ns.getD m 0 ≠ i)/\Q (.int (j:Nat)) H
section
variable {X:Cx}
theorem QA:MtR X "list.index" Ke:=by
 intro pins s σ H x vs v us Q I rx rv h
 obtain ⟨l,ns,i,j,rfl,rfl,hH,hj,hji,hm,q⟩:=h
 cases rx
 obtain ⟨u,rfl,⟨t,rfl⟩⟩:=rv.one
 obtain ⟨z,its,n,r,hl,e⟩:=I.lstM hH
 have hlen:=r.length
 rw [List.length_map] at hlen
 have hsz:sizeLine<2 ^ 62:=by rw [sizeLine_eq];decide
 have item:∀ m (hmm:m<its.length),∃ tm,its[m]=Value.int (ns.getD m 0) tm:=fun m hmm=>by
  have e1:(ns.map V.int)[m]?=some (.int (ns.getD m 0)):=by
   rw [List.getElem?_map,List.getD_eq_getElem?_getD,List.getElem?_eq_getElem (by omega)];rfl
  obtain ⟨u,hu,⟨tm,ru⟩⟩:=r.get e1
  have:=(List.getElem?_eq_some_iff.mp hu).2
  exact ⟨tm,by rw [this];exact ru⟩
 have fl:(ns.map V.int).all kF=true:=by
  rw [List.all_eq_true]
  intro x hx
  obtain ⟨k,_,rfl⟩:=List.mem_map.mp hx
  rfl
 refine call_meets F.slot_list_index ⟨_,e,rfl⟩ F.entry_list_index (F.args_list_index_2 _ _) (SeqAt.list_indexAt l its.toArray n none _ (.int i t) (eqU (.int i)) j (by rw [List.size_toArray];omega) (by omega) ?_ ?_) ⟨e,?_,?_⟩
 ·obtain ⟨tm,em⟩:=item j (by omega)
  rw [List.getElem_toArray,em,hji]
  show (i == i)=true
  simp
 ·intro m hmm hmj
  obtain ⟨tm,em⟩:=item m (by rw [List.size_toArray] at hmm;exact hmm)
  rw [List.getElem_toArray,em]
  show (ns.getD m 0 == i)=false
  simpa using hm m hmj
 ·intro y hy
  exact kg (x:=.int i) ⟨t,rfl⟩ rfl r fl y (by simpa using hy)
 ·exact ⟨.int (j:Nat),H,I.kept (t':=s.toks+1) fun b o e=>e,⟨_,rfl⟩,q⟩
variable {o e:Expr}{es:List Expr}{to:TE}{t:TA}{name:Str}{apos cpos:Pos}{T id:String}{r:V->List V->Hp->VK->Prop}{K:PySem.W.Frag}
theorem Y8 (hK:X.K=K)(pa:PlainAttrs T)(slot:Slot T name id)(hty:typeOf (.builtin id)=pure (.type "method_descriptor"))(hm:MtR X id r)(ho:PE X o to)(ha:PA X (e :: es) t)
  (h1:attributeBase o name X.env (eval o X.env)=eval o X.env:=by rfl)
  (h2:((backTo cpos (starEach (e :: es) X.env)).all (fun x=>!x.1) && (backToKw cpos (keywordEach [] X.env)).all (fun x=>x.1.isSome) && decide ((e :: es).length+([]:List Keyword).length+(if ([]:List Keyword).isEmpty then 0 else 1)<30))=true:=by rfl)
  (h3:(apos.endLine == cpos.line)=true:=by rfl) (h4:starEach (e :: es) X.env=(false,eval e X.env) :: starEach es X.env:=by rfl) (h5:(backTo cpos (starEach es X.env)).any (·.1)=false:=by rfl) :
  PE X (.Call (.Attribute o name apos) (e :: es) [] cpos) (tBM K T r to t):=by
 subst hK
 exact yT pa slot hty hm ho ha h1 h2 h3 h4 h5
end
section
variable {X:Cx}{tg:Expr}
end
inductive Dd where
 | take (p:Nat) | move (p g:Nat) | lay (g:Nat)
noncomputable abbrev RS:=List (Option Int) × Option Int × List Int
noncomputable def inc (mv:List Int)(x:Int):List Int:=mv.set x.toNat (mv.getD x.toNat 0+1)
inductive Do:Dd->RS->RS->Prop
 | take {p:Nat} {row:List (Option Int)} {mv:List Int} {x:Int}:row[p]?=some (some x)->Do (.take p) (row,none,mv) (row.set p none,some x,inc mv x)
 | move {p g:Nat} {row:List (Option Int)} {h:Option Int} {mv:List Int} {x:Int}:row[p]?=some (some x)->row[g]?=some none->Do (.move p g) (row,h,mv) ((row.set p none).set g (some x),h,inc mv x)
 | lay {g:Nat} {row:List (Option Int)} {mv:List Int} {x:Int}:row[g]?=some none->Do (.lay g) (row,some x,mv) (row.set g (some x),none,inc mv x)
inductive Dos:List Dd->RS->RS->Prop
 | nil {s:RS}:Dos [] s s
 | cons {d:Dd} {l:List Dd} {s t u:RS}:Do d s t->Dos l t u->Dos (d :: l) s u
section
variable {X:Cx}{K:PySem.W.Frag}
end
section
variable {X:Cx}
end
section
variable {X:Cx}
end
theorem yy {prog:Program}{w:World}{A:Around}{E:Value->Shared->Prop}{s:Shared}{sl:Addr}{vl vu vs:Value}{n:Nat}{Q:Int × Int × Nat->Shared->Prop}(hs:s.heap.IsSliceOf sl vl vu vs)(pl:IsPart vl none)(pu:IsPart vu none)(ps:IsPart vs (some (-1)))
  (h:Q ((n:Int) - 1,-1,n) s):wpAny (model prog w) A (Builtin.Slice.sliceApplied (.ref sl) (pure (n:Int))) Q E s:=by
 obtain ⟨os,hos,hcs,hds⟩:=id hs
 unfold Builtin.Slice.sliceApplied Builtin.Slice.sliceFields
 refine wpAny_bind (wpAny_bind (wpAny_field hos hds (x:=vl) rfl (wpAny_bind (wpAny_field hos hds (x:=vu) rfl (wpAny_bind (wpAny_field hos hds (x:=vs) rfl (wpAny_pure ?_)))))))
 refine wpAny_bind (HT.slicePart_ ps ?_)
 show wpAny _ _ (if ((-1:Int) == 0)=true then _ else _) _ _ s
 rw [if_neg (by decide)]
 refine wpAny_bind (HT.slicePart_ pl (wpAny_bind (HT.slicePart_ pu (wpAny_bind (wpAny_pure ?_)))))
 show wpAny _ _ (pure ((n:Int) - 1,(-1:Int),Builtin.Slice.slicePlaces ((n:Int) - 1) (-1) (-1))) _ _ s
 have e:Builtin.Slice.slicePlaces ((n:Int) - 1) (-1) (-1)=n:=by
  unfold Builtin.Slice.slicePlaces
  rw [if_neg (by decide)]
  split
  ·rw [show - -(1:Int)=1 from rfl,Int.ediv_one];omega
  ·omega
 rw [e]
 exact wpAny_pure h
theorem Vr (xs:List Value):((List.range xs.length).filterMap fun (m:Nat)=>xs.toArray[(((xs.length:Int) - 1)+(m:Int) * -1).toNat]?)=xs.reverse:=by
 have go:∀ (ks:List Nat),(∀ k ∈ ks,k<xs.length)->(ks.filterMap fun (m:Nat)=>xs.toArray[(((xs.length:Int) - 1)+(m:Int) * -1).toNat]?)=ks.map fun k=>xs.reverse.getD k .none:=by
  intro ks
  induction ks with
  | nil=>intro _;rfl
  | cons k ks ih=>
   intro hk
   have h0:=hk k (by simp)
   have e1:(((xs.length:Int) - 1)+(k:Int) * -1).toNat=xs.length - 1 - k:=by omega
   have e2:xs.toArray[(((xs.length:Int) - 1)+(k:Int) * -1).toNat]?=some (xs.reverse.getD k .none):=by
    rw [e1,List.getElem?_toArray,List.getD_eq_getElem?_getD,List.getElem?_reverse h0,List.getElem?_eq_getElem (by omega)];rfl
   rw [List.filterMap_cons_some (f:=fun (m:Nat)=>xs.toArray[(((xs.length:Int) - 1)+(m:Int) * -1).toNat]?) e2,ih fun j hj=>hk j (by simp [hj])];rfl
 rw [go _ fun k hk=>by simpa using hk]
 refine List.ext_getElem? fun i=>?_
 rw [List.getElem?_map]
 by_cases h:i<xs.length
 ·rw [List.getElem?_range h,List.getElem?_eq_getElem (by rw [List.length_reverse];exact h)]
  show some (xs.reverse.getD i .none)=_
  rw [List.getD_eq_getElem?_getD,List.getElem?_eq_getElem (by rw [List.length_reverse];exact h)];rfl
 ·rw [List.getElem?_eq_none (by rw [List.length_range];omega),List.getElem?_eq_none (by rw [List.length_reverse];omega)];rfl
theorem yj {prog:Program}{w:World}{A:Around}{E:Value->Shared->Prop}{s:Shared}{t sl:Addr}{xs:List Value}{vl vu vs:Value}{Q:Value->Shared->Prop}(ht:IsTup s.heap t xs.toArray)(hs:s.heap.IsSliceOf sl vl vu vs)(pl:IsPart vl none)(pu:IsPart vu none)(ps:IsPart vs (some (-1)))
  (h:Q (.ref s.heap.objs.size) { s with heap:=s.heap.push { cls:=.type "tuple",data:=.seq xs.reverse.toArray } })
  (hsz:xs.length<=sizeLine):wpAny (model prog w) A (getItem (.ref t) (.ref sl)) Q E s:=by
 have htake:sizeOk (.seq xs.reverse.toArray):=by
  show xs.reverse.toArray.size<=sizeLine
  rw [List.size_toArray,List.length_reverse];exact hsz
 obtain ⟨os,hos,hcs,hds⟩:=id hs
 have hTs:s.TypeIs (.ref sl) "slice":=⟨os,hos,hcs⟩
 unfold getItem
 try with_reducible refine wpAny_holding ?_
 first | refine wpAny_bind (wpAny_pure ?_) | skip
 refine wpAny_bind (wpAny_sequenceKey ht.typeIs (by decide) ?_)
 refine wpAny_bind (wpAny_callSpecial?_slot (name:=Str.ofString "__getitem__") ht.typeIs PyProof.Rows.slot_tuple_getitem
  (wpAny_call_entry PyProof.Rows.slot_tuple_getitem ht.typeIs PyProof.Rows.entry_tuple_getitem ?_ (PyProof.Rows.args_tuple_getitem _ _)))
 show wpAny _ _ (Builtin.Tuple.tupleItemsOf (.ref t) >>= _) _ _ s
 refine wpAny_bind (tupleItemsOf_ ht ?_)
 refine wpAny_bind (wpAny_typeOf hTs ?_)
 rw [if_pos (by decide)]
 refine wpAny_bind (yy hs pl pu ps ?_)
 have hno:¬ ((((xs.toArray.size:Int) - 1) == 0 && (-1:Int) == 1 && xs.toArray.size == xs.toArray.size)=true):=by
  intro q
  rw [Bool.and_eq_true,Bool.and_eq_true] at q
  exact absurd q.1.2 (by decide)
 show wpAny _ _ (if (((xs.toArray.size:Int) - 1) == 0 && (-1:Int) == 1 && xs.toArray.size == xs.toArray.size)=true then _ else _) _ _ s
 have ep:=Vr xs
 rw [if_neg hno]
 rw [List.size_toArray]
 rw [ep]
 first
  | exact wpAny_bind (m:=Builtin.Tuple.tupleExact _) (wpAny_newObj_type (wpAny_pure ⟨_,rfl,wpAny_pure h⟩) htake)
  | exact wpAny_bind (m:=Builtin.Tuple.tupleExact _) (wpAny_newObj_type (wpAny_bind (wpAny_pure (wpAny_pure ⟨_,rfl,wpAny_pure h⟩))) htake)
  | exact wpAny_bind (wpAny_bind (m:=Builtin.Tuple.tupleExact _) (wpAny_newObj_type (wpAny_pure (wpAny_pure ⟨_,rfl,wpAny_pure h⟩)) htake))
  | exact wpAny_bind (wpAny_bind (m:=Builtin.Tuple.tupleExact _) (wpAny_newObj_type (wpAny_pure ⟨_,rfl,wpAny_pure h⟩) htake))
theorem B9 (xs:List V):slV xs none none (some (-1))=xs.reverse:=by
 have hb:sliceBounds none none (some (-1)) xs.length=((xs.length:Int) - 1,-1,-1):=rfl
 unfold slV
 rw [hb]
 have key:sliceRange ((xs.length:Int) - 1) (-1) (-1)=(List.range xs.length).map fun k=>xs.length - 1 - k:=by
  unfold sliceRange
  dsimp only
  rw [if_neg (by decide)]
  have hc:((if (xs.length:Int) - 1 > -1 then ((xs.length:Int) - 1 - -1 - -1 - 1) / - -1 else 0).toNat)=xs.length:=by
   split
   ·rw [show - -(1:Int)=1 from rfl,Int.ediv_one];omega
   ·omega
  rw [hc]
  refine List.map_congr_left fun k hk=>?_
  have:k<xs.length:=by simpa using hk
  omega
 show List.filterMap (fun k=>xs[k]?) (sliceRange ((xs.length:Int) - 1) (-1) (-1))=_
 rw [key,List.filterMap_map]
 have go:∀ (ks:List Nat),(∀ k ∈ ks,k<xs.length)->List.filterMap ((fun k=>xs[k]?) ∘ fun k=>xs.length - 1 - k) ks=ks.map fun k=>xs.reverse.getD k .non:=by
  intro ks
  induction ks with
  | nil=>intro _;rfl
  | cons k ks ih=>
   intro hk
   have h0:=hk k (by simp)
   have e2:((fun k=>xs[k]?) ∘ fun k=>xs.length - 1 - k) k=some (xs.reverse.getD k .non):=by
    show xs[xs.length - 1 - k]?=_
    rw [List.getD_eq_getElem?_getD,List.getElem?_reverse h0,List.getElem?_eq_getElem (by omega)];rfl
   rw [List.filterMap_cons_some e2,ih fun j hj=>hk j (by simp [hj])];rfl
 rw [go _ fun k hk=>by simpa using hk]
 refine List.ext_getElem? fun i=>?_
 rw [List.getElem?_map]
 by_cases h:i<xs.length
 ·rw [List.getElem?_range h,List.getElem?_eq_getElem (by rw [List.length_reverse];exact h)]
  show some (xs.reverse.getD i .non)=_
  rw [List.getD_eq_getElem?_getD,List.getElem?_eq_getElem (by rw [List.length_reverse];exact h)];rfl
 ·rw [List.getElem?_eq_none (by rw [List.length_range];omega),List.getElem?_eq_none (by rw [List.length_reverse];omega)];rfl
theorem zG.rev {xs:List V}{us:List Value}(r:zG xs us):zG xs.reverse us.reverse:=by
 induction r with
 | nil=>exact .nil
 | cons h _ ih=>rw [List.reverse_cons,List.reverse_cons];exact ih.append (.cons h .nil)
noncomputable def BM (K:PySem.W.Frag):V->Hp->VK->Prop:=fun x H Q=>∃ a xs,x=.ref a/\((SqL K H a xs/\∀ p,H p=none->Q (.ref p) (upd H p (.lst xs.reverse))) \/ (SqT K H a xs/\∀ p,H p=none->Q (.ref p) (upd H p (.tup xs.reverse))))
noncomputable def Gx (K:PySem.W.Frag)(te:TE)(ts:TO):TE:=fun σ H Q=>te σ H fun x H1=>ts σ H1 fun z H2=>z=some (-1)/\BM K x H2 Q
section
variable {X:Cx}{e st:Expr}{te:TE}{ts:TO}{p2 pos:Pos}
theorem wV (he:PE X e te)(hst:PO X (some st) ts):PE X (.Subscript e (.Slice none none (some st) p2) pos) (Gx X.K te ts):=by
 intro pins s σ H Q I h
 refine Subscript_ (thn (he pins s σ H _ I h) fun v s1 ⟨x,H1,I1,r1,q1⟩=>?_)
 refine wpAny_Slice (thn (qg pins s1 σ H1 (fun z H2=>z=none/\ts σ H2 fun z H2=>z=some (-1)/\BM X.K x H2 Q) I1 ⟨rfl,q1⟩) fun vl s2 ⟨l,H2,I2,pl,e1,q2⟩=>thn (qg pins s2 σ H2 (fun z H3=>z=none/\ts σ H3 fun z H2=>z=some (-1)/\BM X.K x H2 Q) I2 ⟨rfl,q2⟩) fun vu s3 ⟨u,H3,I3,pu,e2,q3⟩=>thn (hst pins s3 σ H3 _ I3 q3) fun vs s4 ⟨z,H4,I4,pz,e3,q4⟩=>?_)
 subst e1 e2 e3
 have I5:Inv X pins σ H4 { s4 with heap:=s4.heap.push { cls:=.type "slice",data:=.fields #[vl,vu,vs] } }:=I4.kept (t':=s4.toks) fun b ob q=>Heap.get?_push_of_some _ q
 obtain ⟨a,xs,rfl,q⟩:=q4
 cases r1
 rcases q with ⟨hx,q⟩ | ⟨hx,q⟩
 ·obtain ⟨its,r,ht,hz⟩:=I5.list hx
  have hlen:=r.length
  show wpAny (model X.prog X.w) X.A (subscriptTail e (.Slice none none (some st) p2) (.ref a) (.ref s4.heap.objs.size)) (EP X pins σ Q) X.xe { s4 with heap:=s4.heap.push { cls:=.type "slice",data:=.fields #[vl,vu,vs] } }
  refine tail_any (ops:=[.ref a,.ref s4.heap.objs.size]) ht.isList.typeIs slot_list_getitem.lookup ?_ rfl
  refine wpAny_getItem_list_slice ht.isList (Heap.IsSliceOf.new ..) pl pu pz (by decide) ?_ (by rw [List.size_toArray];omega)
  have e1:slicePick its.toArray none none (some (-1))=(List.filterMap (fun x=>its[x]?) (sliceRange (sliceBounds none none (some (-1)) xs.length).1 (sliceBounds none none (some (-1)) xs.length).2.1 (sliceBounds none none (some (-1)) xs.length).2.2)).toArray:=by
   unfold slicePick
   rw [List.size_toArray,<- hlen]
   simp only [List.getElem?_toArray]
  rw [e1]
  have rr:=Za r (sliceRange (sliceBounds none none (some (-1)) xs.length).1 (sliceBounds none none (some (-1)) xs.length).2.1 (sliceBounds none none (some (-1)) xs.length).2.2)
  have er:(List.filterMap (fun k=>xs[k]?) (sliceRange (sliceBounds none none (some (-1)) xs.length).1 (sliceBounds none none (some (-1)) xs.length).2.1 (sliceBounds none none (some (-1)) xs.length).2.2))=xs.reverse:=B9 xs
  rw [er] at rr
  refine ⟨.ref _,_,I5.laid (t':=s4.toks) (o:=.lst xs.reverse) (fun b ob q=>Heap.get?_push_of_some _ q) (Nat.le_refl _) ?_,rfl,q _ (I5.hok.fresh (Nat.le_refl _))⟩
  refine ⟨?_,_,0,rr,Heap.get?_push_size _ rfl⟩
  rw [List.length_reverse];exact hz
 ·obtain ⟨its,r,ht,hz⟩:=I5.tuple hx
  show wpAny (model X.prog X.w) X.A (subscriptTail e (.Slice none none (some st) p2) (.ref a) (.ref s4.heap.objs.size)) (EP X pins σ Q) X.xe { s4 with heap:=s4.heap.push { cls:=.type "slice",data:=.fields #[vl,vu,vs] } }
  refine tail_any (ops:=[.ref a,.ref s4.heap.objs.size]) ht.typeIs PyProof.Rows.slot_tuple_getitem.lookup ?_ rfl
  refine yj ht (Heap.IsSliceOf.new ..) pl pu pz ?_ (by rw [<- r.length];exact hz)
  refine ⟨.ref _,_,I5.laid (t':=s4.toks) (o:=.tup xs.reverse) (fun b ob q=>Heap.get?_push_of_some _ q) (Nat.le_refl _) ?_,rfl,q _ (I5.hok.fresh (Nat.le_refl _))⟩
  exact ⟨by rw [List.length_reverse];exact hz,_,zG.rev r,wu.new _ _⟩
end
section
variable {X:Cx}
end
noncomputable def AtM (K:PySem.W.Frag)(C:Addr)(m qual:Str)(st:Stmt):Prop:=∃ f fd,Fun K m qual st f fd/\JD K C m f
noncomputable def Dm (P:Program)(w:World)(K:PySem.W.Frag)(mg:Str->Option Value)(base:Heap)(C:Addr)(m:Str)(ps:List Str)(k:Nat)(sp:Sp):Prop:=
 ∃ f fd,jx P w K mg base CX0 k f fd ps sp/\jB K fd ps []/\JD K C m f
theorem Dm.mono {P:Program}{w:World}{K:PySem.W.Frag}{mg:Str->Option Value}{base:Heap}{C:Addr}{m:Str}{ps:List Str}{j k:Nat}{sp:Sp}(D:Dm P w K mg base C m ps j sp)(h:j<=k):Dm P w K mg base C m ps k sp:=
 let ⟨f,fd,F,r⟩:=D
 ⟨f,fd,F.mono h,r⟩
theorem Hf {P:Program}{w:World}{K:PySem.W.Frag}{mg:Str->Option Value}{base:Heap}{C:Addr}{m qual:Str}{st:Stmt}{N ps:List Str}{k:Nat}{sp:Sp}(a:AtM K C m qual st)(S:zt N ps (ze st))
  (hb:∀ (kV doc pm:Value) (an:Option Addr) (cdv ct:Value) (us:List Value),us.length=ps.length->bindArgs (PySem.W.fnOf m qual (qm st) (zM st) (ze st) .none kV doc pm an cdv ct) ⟨us,[]⟩=pure (ps.zip us))
  (len:∀ vs H Q E,sp vs H Q E->vs.length=ps.length)
  (hbody:∀ (f:Addr) (cdv:Value) (A:Around) (outer:List Env) (s:Shared) (H:Hp) (vs:List V) (Q:VK) (E:XK),ql k (A.deeper (envOfC qual (ze st) s.heap.objs.size f cdv))->sp vs H Q E ->
   ∃ t,PSs (jD CX0 P w K mg base N qual (ze st) f cdv A outer s H E).nox (zM st) t/\t { nx:=fun _ H'=>Q .non H',rt:=Q } (qL N vs) H):Dm P w K mg base C m ps (k+1) sp:=by
 obtain ⟨f,fd,F,mt⟩:=a
 exact ⟨f,fd,F.ok S len fun cdv A outer s H vs Q E=>hbody f cdv A outer s H vs Q E,F.binds hb,mt⟩
section
variable {X:Cx}{k:Nat}{C:Addr}{m x:Str}{ps:List Str}{sp:Sp}{p pos apos:Pos}{o e:Expr}{es:List Expr}{t:TA}{to:TE}
theorem LB {pl:Sem Bool}(c:Cls X.K C)(D:Dm X.prog X.w X.K X.mg X.base C m ps k sp)(hr:ql k X.A)(ho:PE X o to)(ha:PA X (e :: es) t)
  (hst:starEach (e :: es) X.env=(false,eval e X.env) :: starEach es X.env:=by rfl) (hpl:(backTo pos (starEach es X.env)).any (·.1)=false:=by rfl)
  (ht:eval (.Call (.Attribute o m apos) (e :: es) [] pos) X.env=(do
   let ov <- eval o X.env
   standAt apos.atName
   let (f,first) <- holding [ov] (getMethod ov m pl)
   callWith pos f first (backTo pos (starEach (e :: es) X.env)) (backToKw pos (keywordEach [] X.env))):=by rfl) :
  PE X (.Call (.Attribute o m apos) (e :: es) [] pos) (Zc C m sp [] E0 to t):=by
 obtain ⟨f,fd,F,b,mt⟩:=D
 exact B7 ho c mt F hr b .nil Xp ha hst hpl ht
theorem Km {pl:Sem Bool}(c:Cls X.K C)(D:Dm X.prog X.w X.K X.mg X.base C m ps k sp)(hr:ql k X.A)(ho:PE X o to)
  (ht:eval (.Call (.Attribute o m apos) [] [] pos) X.env=(do
   let ov <- eval o X.env
   standAt apos.atName
   let (f,first) <- holding [ov] (getMethod ov m pl)
   callWith pos f first (backTo pos (starEach [] X.env)) (backToKw pos (keywordEach [] X.env))):=by rfl) :
  PE X (.Call (.Attribute o m apos) [] [] pos) (Zc C m sp [] E0 to Yy):=by
 obtain ⟨f,fd,F,b,mt⟩:=D
 exact An ho c mt F hr b .nil Xp ht
noncomputable def Mkr (P:Program)(w:World)(K:PySem.W.Frag)(mg:Str->Option Value)(base:Heap)(x:Str)(C:Addr)(ps:List Str)(k:Nat)(sp:Sp):Prop:=
 ∃ f fd,jx P w K mg base CX0 k f fd ps sp/\jB K fd ps []/\Mk K C f/\mg x=some (.ref C)
theorem IP (D:Mkr X.prog X.w X.K X.mg X.base x C ps k sp)(hr:ql (k+1) X.A)(hg:Gl X x)(ha:PA X (e :: es) t)(hdb:(x == ("__debug__":Str))=false:=by decide)
  (he:starEach (e :: es) X.env=(false,eval e X.env) :: starEach es X.env:=by rfl) (hpl:(backTo pos (starEach es X.env)).any (·.1)=false:=by rfl):PE X (.Call (.Name x p) (e :: es) [] pos) (KA C sp [] E0 t):=by
 obtain ⟨f,fd,F,b,M,hm⟩:=D
 exact Em M F hr hg hm b .nil Xp ha hdb he hpl
end
structure KD (K:PySem.W.Frag)(w:World)(a:Addr)(kvs:List (Key × V)):Prop where
 ex:∃ es ep,K.lookup a=some ⟨.type "dict",none,.dict es ep,#[]⟩/\∀ P:Program,PySem.KeysOf (jT P w) es/\∃ vs,KV kvs vs/\Pairs (jT P w) es.toList vs/\(vs.map (·.1)).Nodup
 ns:(a == sysModules)=false
theorem KD.at {X:Cx}{pins:List (Addr × Obj)}{σ:St}{H:Hp}{s:Shared}{a:Addr}{kvs:List (Key × V)}(d:KD X.K X.w a kvs)(I:Inv X pins σ H s):∃ vs,KV kvs vs/\s.heap.DictOf (jT X.prog X.w) a vs:=by
 obtain ⟨es,ep,hl,h⟩:=d.ex
 obtain ⟨h1,vs,r,h2,h3⟩:=h X.prog
 exact ⟨vs,r,_,es,ep,I.kIn a _ hl,⟨rfl,rfl,rfl⟩,rfl,h1,h2,h3⟩
noncomputable def Wd (kvs:List (Key × V))(ty:TE):TE:=fun σ H Q=>ty σ H fun y H2=>∃ k,y=kV k/\Q ((vE kvs k).getD .non) H2
section
variable {X:Cx}{e:Expr}{ty:TE}{p apos cpos:Pos}{x:Str}{a:Addr}{kvs:List (Key × V)}
theorem Dj (d:KD X.K X.w a kvs)(hg:Gl X x)(hm:X.mg x=some (.ref a))(he:PE X e ty)(m:M1 X (.Name x p) "get" apos e cpos)(hdb:(x == ("__debug__":Str))=false:=by decide):PE X (.Call (.Attribute (.Name x p) "get" apos) [e] [] cpos) (Wd kvs ty):=by
 intro pins s σ H Q I h
 refine wpAny_Call_method m.base m.few m.line PySem.F.plainAttrs_dict PySem.F.slot_dict_get PySem.F.type_dict_get (ki I hg hm ?_ hdb)
 obtain ⟨vs0,_,dd0⟩:=d.at I
 refine ⟨dd0.typeIs,fun b q=>?_,?_⟩
 ·cases q
  obtain ⟨ob,_,_,h1,h2,_⟩:=dd0
  exact ⟨ob,h1,h2.2.1⟩
 rw [m.trees]
 refine Calls.callWith_builtin rfl (Calls.evalArgs_plain (Calls.spliced_cons (thn (he pins s σ H _ I h) fun iv s2 ⟨y,H2,I2,ry,k,ey,q2⟩=>Calls.spliced_nil ?_)))
 subst ey
 obtain ⟨vs,rel,dd⟩:=d.at I2
 refine call_meetsIn PySem.F.slot_dict_get dd.typeIs PySem.F.entry_dict_get (PySem.F.args_dict_get_2 _ _) (meets_dict_get (jT X.prog X.w) a (IH ry) d.ns) ⟨_,dd.mapOf,?_⟩
 refine ⟨(vE kvs k).getD .non,H2,I2.tok _,?_,q2⟩
 exact (rel.val k).getD rfl
end
section
variable {X:Cx}
theorem xF:HZ X (EH X.K):=by
  intro pins s σ H x y v u Q I rx ry h
  obtain ⟨p,xs,i,z,rfl,rfl,hq,he,q⟩:=h
  cases rx
  obtain ⟨t,rfl⟩:=ry
  obtain ⟨its,r,pl,hz⟩:=I.list hq
  obtain ⟨j,h1,h2,h3,h4,h5⟩:=Zs he
  obtain ⟨w,ew,rw'⟩:=r.get h2
  have hl:=r.length
  have hn:=vN
  have fin:EP X pins σ Q w s:=⟨z,H,I,rw',q⟩
  by_cases h0:0<=i
  · have hj : i.toNat = j := by
      rw [seqIndex_of h0 h5] at h1
      exact Option.some.inj h1
    exact wpAny_getItem_list pl.isList h0 (by omega) (by rw [hj];simpa using ew) fin
  · have hj : (i + (its.toArray.size : Int)).toNat = j := by
      rw [seqIndex_neg (by omega) h4] at h1
      rw [List.size_toArray,<- hl]
      exact Option.some.inj h1
    exact wpAny_getItem_list_neg pl.isList (by omega) (by rw [List.size_toArray] <;> omega) (by omega) (by rw [hj];simpa using ew) fin
end
theorem atm_mk {K:PySem.W.Frag}{C f:Addr}{m qual:Str}{st:Stmt}{oc kV dc pm cd ct:Value}{od an:Option Addr}{sl:Array (Option Value)}(a1:PySem.W.findIn K (.ref C) m=some (some (.ref f)))(i1:PySem.W.isFn K (.ref f)=true)
  (l1:K.lookup f=some ⟨oc,od,.func (PySem.W.fnOf m qual (qm st) (zM st) (ze st) .none kV dc pm an cd ct),sl⟩) (c1:PySem.W.codeIn K cd qual=true) (k1:PySem.W.keepIn K (.ref f)=true):AtM K C m qual st:=⟨f,_,fun_mk l1 c1 k1,⟨a1,i1,k1⟩⟩
section
variable {X:Cx}
end
structure ScG (X:Cx)(ts:List Nat)(scope:Scope):Prop where
 kind:scope.kind=.function
 cell:∀ y ∈ scope.names,y.2=.cell->scope.names.lookup y.1=some .cell
 loc:∀ y ∈ scope.names,y.2=.local->scope.names.lookup y.1=some .local
 free:∀ y ∈ scope.names,y.2=.free->X.env.kindOf y.1=some .cell \/ X.env.kindOf y.1=some .free
 ts:∀ (i:Nat) x,X.N[i]?=some x->scope.names.lookup x=some .local \/ scope.names.lookup x=some .cell->i ∈ ts
section
variable {X:Cx}{ts:List Nat}{scope:Scope}{pins:List (Addr × Obj)}{σ:St}{H:Hp}{s:Shared}{fp:List Addr}
end
section
variable {X:Cx}{ts:List Nat}{scope:Scope}{tg iter elt:Expr}{ifs:List Expr}{wi:TI}{g:TG}{tt:TT}{te:TE}{pos:Pos}
end
section
variable {X:Cx}
noncomputable def Hu (f:Bool->Bool->Bool):R2:=fun x y H Q=>∃ a b,x=.bl a/\y=.bl b/\Q (.bl (f a b)) H
theorem XG:OpR X (compareOp .IsNot) (Hu fun a b=>a != b):=by
 intro pins s σ H x y v u Q I rx ry h
 obtain ⟨a,b,rfl,rfl,q⟩:=h
 cases rx
 cases ry
 exact isnot_bool (qJ I q rfl)
end
inductive Dat where
 | non | bl (b:Bool) | int (i:Int) | str (x:Str) | ty (n:String) | lst (l:List Dat) | tup (l:List Dat) | rng (lo hi c:Int) | scr (K:PySem.W.Frag) (l:List Int)
inductive AV where
 | d (x:Dat) | ref (a:Addr)
inductive MO where
 | lst (l:List AV) | dK (kvs:List (Key × AV)) | ins (C:Addr) (fs:List (Str × AV)) | exc (C:Addr) (fs:List (Str × V))
noncomputable def Ka (a C:Addr)(d:Option Addr):HO:=.ext fun h=>∃ o,h.get? a=some o/\o.cls=.ref C/\o.dict=d/\∃ vs,o.data=.fields vs
noncomputable abbrev MH:=Addr->Option MO
noncomputable abbrev ASt:=List (Option AV)
noncomputable def mup (M:MH)(a:Addr)(o:MO):MH:=fun b=>if b=a then some o else M b
noncomputable def mdel (M:MH)(a:Addr):MH:=fun b=>if b=a then none else M b
theorem zh {M:MH}{a:Addr}{o:MO}:mup M a o a=some o:=if_pos rfl
theorem zu {M:MH}{a b:Addr}{o:MO}(h:b ≠ a):mup M a o b=M b:=if_neg h
theorem yD {M:MH}{a:Addr}:mdel M a a=none:=if_pos rfl
theorem jR {M:MH}{a b:Addr}(h:b ≠ a):mdel M a b=M b:=if_neg h
theorem vy {M:MH}{a:Addr}{o u:MO}:mup (mup M a o) a u=mup M a u:=by
 funext b;unfold mup;split <;> rfl
noncomputable abbrev Own:=Addr->Prop
inductive Rep (H:Hp) (O:Own):V->Dat->Prop
 | non:Rep H O .non .non
 | bl {b:Bool}:Rep H O (.bl b) (.bl b)
 | int {i:Int}:Rep H O (.int i) (.int i)
 | str {x:Str}:Rep H O (.str x) (.str x)
 | ty {n:String}:Rep H O (.ty n) (.ty n)
 | lst {a:Addr} {xs:List V} {l:List Dat}:¬ O a->H a=some (.lst xs)->xs.length=l.length->(∀ (i:Nat) x d,xs[i]?=some x->l[i]?=some d->Rep H O x d)->Rep H O (.ref a) (.lst l)
 | tup {a:Addr} {xs:List V} {l:List Dat}:¬ O a->H a=some (.tup xs)->xs.length=l.length->(∀ (i:Nat) x d,xs[i]?=some x->l[i]?=some d->Rep H O x d)->Rep H O (.ref a) (.tup l)
 | rng {a:Addr} {lo hi c:Int}:¬ O a->H a=some (Qj a lo hi c)->Rep H O (.ref a) (.rng lo hi c)
 | scr {a:Addr} {K:PySem.W.Frag} {l:List Int}:¬ O a->Rd H a (.lst (l.map V.int))->Rep H O (.ref a) (.scr K l)
 | scrK {a:Addr} {K:PySem.W.Frag} {l:List Int}:SqL K (fun _=>none) a (l.map V.int)->Rep H O (.ref a) (.scr K l)
noncomputable def Yn (H:Hp)(O:Own)(xs:List V)(l:List Dat):Prop:=xs.length=l.length/\∀ (i:Nat) x d,xs[i]?=some x->l[i]?=some d->Rep H O x d
noncomputable def zw (H:Hp)(O:Own)(M:MH)(v:V):AV->Prop
 | .d x=>Rep H O v x
 | .ref a=>v=.ref a/\M a ≠ none
noncomputable def zj (H:Hp)(O:Own)(M:MH)(xs:List V)(l:List AV):Prop:=xs.length=l.length/\∀ (i:Nat) x d,xs[i]?=some x->l[i]?=some d->zw H O M x d
noncomputable def xj {κ:Type}(H:Hp)(O:Own)(M:MH)(xs:List (κ × V))(l:List (κ × AV)):Prop:=xs.map (·.1)=l.map (·.1)/\zj H O M (xs.map (·.2)) (l.map (·.2))
noncomputable def jf (H:Hp)(O:Own)(M:MH)(a:Addr):MO->Prop
 | .lst l=>∃ xs,H a=some (.lst xs)/\zj H O M xs l
 | .dK kvs=>∃ xs,H a=some (.dK xs)/\xj H O M xs kvs
 | .ins C fs=>∃ dx xs,H a=some (.ins C dx xs)/\xj H O M xs fs/\O dx/\M dx=none/\H dx=some (.own a)
 | .exc C fs=>∃ d,H a=some (Ka a C d)/\(d=none/\fs=[] \/ ∃ dx,d=some dx/\H dx=some (.xd fs)/\O dx/\M dx=none)
structure Wf (H:Hp)(O:Own)(M:MH):Prop where
 mo:∀ a o,M a=some o->jf H O M a o
 own:∀ a,M a ≠ none->O a
 al:∀ a,O a->∃ o,H a=some o/\∀ xs,o ≠ .tup xs
theorem Wf.ne {H:Hp}{O:Own}{M:MH}(w:Wf H O M)(a:Addr)(h:O a):H a ≠ none:=by obtain ⟨o,e,_⟩:=w.al a h;rw [e];exact fun z=>nomatch z
structure Ext (H:Hp)(O:Own)(M:MH)(H':Hp)(O':Own)(M':MH):Prop where
 fix:∀ a o,¬ O a->H a=some o->H' a=some o/\¬ O' a
 prv:∀ a,O a->M a=none->H' a=H a/\O' a/\M' a=none
 mst:∀ a,M a ≠ none->M' a ≠ none
theorem Ext.refl {H:Hp}{O:Own}{M:MH}:Ext H O M H O M:=⟨fun _ _ h e=>⟨e,h⟩,fun _ h e=>⟨rfl,h,e⟩,fun _ h=>h⟩
theorem Ext.trans {H H1 H2:Hp}{O O1 O2:Own}{M M1 M2:MH}(a:Ext H O M H1 O1 M1)(b:Ext H1 O1 M1 H2 O2 M2):Ext H O M H2 O2 M2:=
 ⟨fun x o h e=>let ⟨e1,h1⟩:=a.fix x o h e;b.fix x o h1 e1,fun x h e=>by
  obtain ⟨e1,h1,n1⟩:=a.prv x h e
  obtain ⟨e2,h2,n2⟩:=b.prv x h1 n1
  exact ⟨e2.trans e1,h2,n2⟩,fun x h=>b.mst x (a.mst x h)⟩
theorem Rep.imp {H H':Hp}{O O':Own}(k:∀ a o,¬ O a->H a=some o->H' a=some o/\¬ O' a){v:V}{d:Dat}(r:Rep H O v d):Rep H' O' v d:=by
 induction r with
 | non=>exact .non
 | bl=>exact .bl
 | int=>exact .int
 | str=>exact .str
 | ty=>exact .ty
 | lst h e l _ ih=>exact .lst (k _ _ h e).2 (k _ _ h e).1 l ih
 | tup h e l _ ih=>exact .tup (k _ _ h e).2 (k _ _ h e).1 l ih
 | rng h e=>exact .rng (k _ _ h e).2 (k _ _ h e).1
 | scr h e=>
  rcases e with e | ⟨o,e⟩
  ·exact .scr (k _ _ h e).2 (.inl (k _ _ h e).1)
  ·exact .scr (k _ _ h e).2 (.inr ⟨o,(k _ _ h e).1⟩)
 | scrK h=>exact .scrK h
theorem Ex {H:Hp}{O:Own}{K:PySem.W.Frag}{v:V}{l:List Int}(r:Rep H O v (.scr K l)):∃ a,v=.ref a/\SqL K H a (l.map V.int):=by
 cases r with
 | @scr a _ _ _ h=>exact ⟨a,rfl,.inl h⟩
 | @scrK a _ _ h=>
  rcases h with (h | ⟨o,h⟩) | h
  ·cases h
  ·cases h
  ·exact ⟨a,rfl,.inr h⟩
theorem EC {H:Hp}{O:Own}{K:PySem.W.Frag}{a:Addr}{l:List Int}(ho:∀ a,¬ O a)(h:SqL K H a (l.map V.int)):Rep H O (.ref a) (.scr K l):=by
 rcases h with h | h
 ·exact .scr (ho a) h
 ·exact .scrK (.inr h)
theorem Rep.ext {H H':Hp}{O O':Own}{M M':MH}(k:Ext H O M H' O' M'){v:V}{d:Dat}(r:Rep H O v d):Rep H' O' v d:=r.imp k.fix
theorem zw.ext {H H':Hp}{O O':Own}{M M':MH}(k:Ext H O M H' O' M'){v:V}{x:AV}(r:zw H O M v x):zw H' O' M' v x:=by
 cases x with
 | d x=>exact Rep.ext k r
 | ref a=>exact ⟨r.1,k.mst a r.2⟩
theorem zj.ext {H H':Hp}{O O':Own}{M M':MH}(k:Ext H O M H' O' M'){xs:List V}{l:List AV}(r:zj H O M xs l):zj H' O' M' xs l:=⟨r.1,fun i x d e1 e2=>(r.2 i x d e1 e2).ext k⟩
theorem xj.ext {κ:Type}{H H':Hp}{O O':Own}{M M':MH}(k:Ext H O M H' O' M'){xs:List (κ × V)}{l:List (κ × AV)}(r:xj H O M xs l):xj H' O' M' xs l:=⟨r.1,r.2.ext k⟩
theorem zj.nil {H:Hp}{O:Own}{M:MH}:zj H O M [] []:=⟨rfl,fun i x d e=>by simp at e⟩
theorem zj.cons {H:Hp}{O:Own}{M:MH}{x:V}{d:AV}{xs:List V}{l:List AV}(h:zw H O M x d)(r:zj H O M xs l):zj H O M (x :: xs) (d :: l):=
 ⟨by simp [r.1],fun i y e h1 h2=>by
  cases i with
  | zero=>simp at h1 h2;subst h1 h2;exact h
  | succ i=>simp at h1 h2;exact r.2 i y e h1 h2⟩
theorem zj.head {H:Hp}{O:Own}{M:MH}{x:V}{d:AV}{xs:List V}{l:List AV}(r:zj H O M (x :: xs) (d :: l)):zw H O M x d/\zj H O M xs l:=
 ⟨r.2 0 x d rfl rfl,by have:=r.1;simpa using this,fun i y e h1 h2=>r.2 (i+1) y e (by simpa using h1) (by simpa using h2)⟩
theorem zj.nil_inv {H:Hp}{O:Own}{M:MH}{xs:List V}(r:zj H O M xs []):xs=[]:=List.length_eq_zero_iff.mp r.1
theorem zj.cons_inv {H:Hp}{O:Own}{M:MH}{xs:List V}{d:AV}{l:List AV}(r:zj H O M xs (d :: l)):∃ x r',xs=x :: r'/\zw H O M x d/\zj H O M r' l:=by
 cases xs with
 | nil=>have:=r.1;simp at this
 | cons x r'=>exact ⟨x,r',rfl,r.head⟩
theorem zj.append {H:Hp}{O:Own}{M:MH}{xs ys:List V}{l m:List AV}(a:zj H O M xs l)(b:zj H O M ys m):zj H O M (xs ++ ys) (l ++ m):=
 ⟨by rw [List.length_append,List.length_append,a.1,b.1],fun i x d h1 h2=>by
  by_cases c:i<xs.length
  ·rw [List.getElem?_append_left c] at h1
   rw [List.getElem?_append_left (by rw [<- a.1];exact c)] at h2
   exact a.2 i x d h1 h2
  ·rw [List.getElem?_append_right (by omega)] at h1
   rw [List.getElem?_append_right (by rw [<- a.1];omega),<- a.1] at h2
   exact b.2 _ x d h1 h2⟩
theorem zj.snoc {H:Hp}{O:Own}{M:MH}{xs:List V}{l:List AV}{x:V}{d:AV}(a:zj H O M xs l)(b:zw H O M x d):zj H O M (xs ++ [x]) (l ++ [d]):=a.append (.cons b .nil)
theorem zj.set {H:Hp}{O:Own}{M:MH}{xs:List V}{l:List AV}{x:V}{d:AV}(a:zj H O M xs l)(b:zw H O M x d)(j:Nat):zj H O M (xs.set j x) (l.set j d):=
 ⟨by rw [List.length_set,List.length_set,a.1],fun i y e h1 h2=>by
  rw [List.getElem?_set] at h1 h2
  by_cases c:j=i
  ·rw [if_pos c] at h1 h2
   split at h1
   ·split at h2
    ·cases h1;cases h2;exact b
    ·cases h2
   ·cases h1
  ·rw [if_neg c] at h1 h2
   exact a.2 i y e h1 h2⟩
theorem zj.get {H:Hp}{O:Own}{M:MH}{xs:List V}{l:List AV}(a:zj H O M xs l){i:Nat}{d:AV}(h:l[i]?=some d):∃ x,xs[i]?=some x/\zw H O M x d:=by
 have hi:=(List.getElem?_eq_some_iff.mp h).1
 have hx:i<xs.length:=by rw [a.1];exact hi
 exact ⟨xs[i],by simp [hx],a.2 i _ _ (by simp [hx]) h⟩
theorem zj.drop {H:Hp}{O:Own}{M:MH}{xs:List V}{l:List AV}(a:zj H O M xs l)(k:Nat):zj H O M (xs.drop k) (l.drop k):=
 ⟨by rw [List.length_drop,List.length_drop,a.1],fun i x d h1 h2=>by rw [List.getElem?_drop] at h1 h2;exact a.2 _ x d h1 h2⟩
theorem zj.take {H:Hp}{O:Own}{M:MH}{xs:List V}{l:List AV}(a:zj H O M xs l)(k:Nat):zj H O M (xs.take k) (l.take k):=
 ⟨by rw [List.length_take,List.length_take,a.1],fun i x d h1 h2=>by
  rw [List.getElem?_take] at h1 h2
  by_cases c:i<k
  ·rw [if_pos c] at h1 h2
   exact a.2 _ x d h1 h2
  ·rw [if_neg c] at h1
   cases h1⟩
theorem Yn.av {H:Hp}{O:Own}{M:MH}{xs:List V}{l:List Dat}(r:Yn H O xs l):zj H O M xs (l.map .d):=
 ⟨by rw [List.length_map];exact r.1,fun i x d h1 h2=>by
  rw [List.getElem?_map] at h2
  cases e:l[i]? with
  | none=>rw [e] at h2;cases h2
  | some y=>rw [e] at h2;cases h2;exact r.2 i x y h1 e⟩
theorem zj.pure {H:Hp}{O:Own}{M:MH}{xs:List V}{l:List Dat}(r:zj H O M xs (l.map .d)):Yn H O xs l:=
 ⟨by have:=r.1;rwa [List.length_map] at this,fun i x d h1 h2=>r.2 i x (.d d) h1 (by rw [List.getElem?_map,h2];rfl)⟩
theorem Wf.fresh {H:Hp}{O:Own}{M:MH}(w:Wf H O M){p:Addr}(h:H p=none):¬ O p/\M p=none:=by
 have:¬ O p:=fun z=>w.ne p z h
 exact ⟨this,by
  cases e:M p with
  | none=>rfl
  | some o=>exact absurd (w.own p (by rw [e];exact fun z=>nomatch z)) this⟩
theorem jf.ext {H H':Hp}{O O':Own}{M M':MH}(k:Ext H O M H' O' M'){a:Addr}{o:MO}(e:H' a=H a)(r:jf H O M a o):jf H' O' M' a o:=by
 cases o with
 | lst l=>obtain ⟨xs,h,r⟩:=r;exact ⟨xs,e.trans h,r.ext k⟩
 | dK l=>obtain ⟨xs,h,r⟩:=r;exact ⟨xs,e.trans h,r.ext k⟩
 | ins C fs=>obtain ⟨dx,xs,h,r,q1,q2,q3⟩:=r;obtain ⟨x1,x2,x3⟩:=k.prv dx q1 q2;exact ⟨dx,xs,e.trans h,r.ext k,x2,x3,x1.trans q3⟩
 | exc C fs=>
  obtain ⟨d,h,r⟩:=r
  refine ⟨d,e.trans h,?_⟩
  rcases r with r | ⟨dx,e1,h1,h2,h3⟩
  ·exact .inl r
  ·obtain ⟨x1,x2,x3⟩:=k.prv dx h2 h3;exact .inr ⟨dx,e1,x1.trans h1,x2,x3⟩
theorem qC {H:Hp}{O:Own}{M:MH}(w:Wf H O M){p:Addr}(h:H p=none)(o:HO):Ext H O M (upd H p o) O M:=
 ⟨fun a u ha e=>⟨by rw [zi (zn e h)];exact e,ha⟩,fun a ha e=>⟨zi (fun z=>w.ne a ha (by rw [z];exact h)),ha,e⟩,fun _ h=>h⟩
theorem kN {H:Hp}{O:Own}{M:MH}(w:Wf H O M){p:Addr}(h:H p=none)(o:HO):Wf (upd H p o) O M:=
 ⟨fun a mo e=>jf.ext (qC w h o) (zi (fun z=>by rw [z,(w.fresh h).2] at e;cases e)) (w.mo a mo e),w.own,fun a ha=>by
  have:a ≠ p:=fun z=>w.ne a ha (by rw [z];exact h)
  rw [zi this];exact w.al a ha⟩
noncomputable def yc (O:Own)(p:Addr):Own:=fun a=>a=p \/ O a
noncomputable def ZW (O:Own)(p:Addr):Own:=fun a=>a ≠ p/\O a
theorem Z0 {H:Hp}{O:Own}{M:MH}(w:Wf H O M){p:Addr}(h:H p=none)(o:HO)(mo:MO):Ext H O M (upd H p o) (yc O p) (mup M p mo):=
 ⟨fun a u ha e=>⟨by rw [zi (zn e h)];exact e,fun z=>z.elim (zn e h) ha⟩,fun a ha e=>by
  have hne:a ≠ p:=fun z=>w.ne a ha (by rw [z];exact h)
  exact ⟨zi hne,.inr ha,by rw [zu hne];exact e⟩,fun a ha=>by
  by_cases e:a=p
  ·rw [e,zh];exact fun z=>nomatch z
  ·rw [zu e];exact ha⟩
theorem AC {H:Hp}{O:Own}{M:MH}(w:Wf H O M){p:Addr}(h:H p=none){o:HO}{mo:MO}(ho:∀ xs,o ≠ .tup xs)(r:jf (upd H p o) (yc O p) (mup M p mo) p mo):Wf (upd H p o) (yc O p) (mup M p mo):=by
 refine ⟨fun a u e=>?_,fun a ha=>?_,fun a ha=>?_⟩
 ·by_cases c:a=p
  ·subst c;rw [zh] at e;cases e;exact r
  ·rw [zu c] at e
   exact jf.ext (Z0 w h o mo) (zi c) (w.mo a u e)
 ·by_cases c:a=p
  ·exact .inl c
  ·rw [zu c] at ha;exact .inr (w.own a ha)
 ·by_cases c:a=p
  ·rw [c,zk];exact ⟨o,rfl,ho⟩
  ·rw [zi c];exact w.al a (ha.resolve_left c)
theorem xt {H:Hp}{O:Own}{M:MH}(w:Wf H O M){p:Addr}(h:M p ≠ none)(o:HO)(mo:MO):Ext H O M (upd H p o) O (mup M p mo):=
 ⟨fun a u ha e=>⟨by rw [zi (fun z=>ha (by rw [z];exact w.own p h))];exact e,ha⟩,fun a ha e=>by
  have hne:a ≠ p:=fun z=>h (by rw [<- z];exact e)
  exact ⟨zi hne,ha,by rw [zu hne];exact e⟩,fun a ha=>by
  by_cases e:a=p
  ·rw [e,zh];exact fun z=>nomatch z
  ·rw [zu e];exact ha⟩
theorem Jr {H:Hp}{O:Own}{M:MH}(w:Wf H O M){p:Addr}(h:M p ≠ none){o:HO}{mo:MO}(ho:∀ xs,o ≠ .tup xs)(r:jf (upd H p o) O (mup M p mo) p mo):Wf (upd H p o) O (mup M p mo):=by
 refine ⟨fun a u e=>?_,fun a ha=>?_,fun a ha=>?_⟩
 ·by_cases c:a=p
  ·subst c;rw [zh] at e;cases e;exact r
  ·rw [zu c] at e
   exact jf.ext (xt w h o mo) (zi c) (w.mo a u e)
 ·by_cases c:a=p
  ·subst c;exact w.own a h
  ·rw [zu c] at ha;exact w.own a ha
 ·by_cases c:a=p
  ·rw [c,zk];exact ⟨o,rfl,ho⟩
  ·rw [zi c];exact w.al a ha
theorem qK {H:Hp}{O:Own}{M:MH}(w:Wf H O M){p:Addr}(h:H p=none)(o:HO):Ext H O M (upd H p o) (yc O p) M:=
 ⟨fun a u ha e=>⟨by rw [zi (zn e h)];exact e,fun z=>z.elim (zn e h) ha⟩,fun a ha e=>by
  have hne:a ≠ p:=fun z=>w.ne a ha (by rw [z];exact h)
  exact ⟨zi hne,.inr ha,e⟩,fun _ h=>h⟩
theorem kQ {H:Hp}{O:Own}{M:MH}(w:Wf H O M){p:Addr}(h:H p=none)(o:HO)(ho:∀ xs,o ≠ .tup xs):Wf (upd H p o) (yc O p) M:=
 ⟨fun a mo e=>jf.ext (qK w h o) (zi (fun z=>by rw [z,(w.fresh h).2] at e;cases e)) (w.mo a mo e),fun a ha=>.inr (w.own a ha),fun a ha=>by
  by_cases c:a=p
  ·rw [c,zk];exact ⟨o,rfl,ho⟩
  ·rw [zi c];exact w.al a (ha.resolve_left c)⟩
theorem vq {H:Hp}{O:Own}{p:Addr}(hO:O p)(o:HO):∀ a u,¬ O a->H a=some u->upd H p o a=some u/\¬ O a:=fun a u ha e=>⟨by rw [zi (fun z=>ha (by rw [z];exact hO))];exact e,ha⟩
theorem zw.imp {H H':Hp}{O O':Own}{M M':MH}(k:∀ a o,¬ O a->H a=some o->H' a=some o/\¬ O' a)(hm:∀ a,M a ≠ none->M' a ≠ none){v:V}{x:AV}(r:zw H O M v x):zw H' O' M' v x:=by
 cases x with
 | d x=>exact Rep.imp k r
 | ref a=>exact ⟨r.1,hm a r.2⟩
theorem zj.imp {H H':Hp}{O O':Own}{M M':MH}(k:∀ a o,¬ O a->H a=some o->H' a=some o/\¬ O' a)(hm:∀ a,M a ≠ none->M' a ≠ none){xs:List V}{l:List AV}(r:zj H O M xs l):zj H' O' M' xs l:=⟨r.1,fun i x d e1 e2=>(r.2 i x d e1 e2).imp k hm⟩
theorem jf.imp {H H':Hp}{O O':Own}{M:MH}(k:∀ a o,¬ O a->H a=some o->H' a=some o/\¬ O' a){a:Addr}{o:MO}(e:H' a=H a)(hd:∀ dx x,O dx->M dx=none->H dx=some x->((∃ b,x=.own b) \/ ∃ fs,x=.xd fs)->H' dx=some x/\O' dx)(r:jf H O M a o):jf H' O' M a o:=by
 cases o with
 | lst l=>obtain ⟨xs,h,r⟩:=r;exact ⟨xs,e.trans h,r.imp k fun _ z=>z⟩
 | dK l=>obtain ⟨xs,h,r⟩:=r;exact ⟨xs,e.trans h,r.1,r.2.imp k fun _ z=>z⟩
 | ins C fs=>obtain ⟨dx,xs,h,r,q1,q2,q3⟩:=r;exact ⟨dx,xs,e.trans h,⟨r.1,r.2.imp k fun _ z=>z⟩,(hd dx _ q1 q2 q3 (.inl ⟨_,rfl⟩)).2,q2,(hd dx _ q1 q2 q3 (.inl ⟨_,rfl⟩)).1⟩
 | exc C fs=>
  obtain ⟨d,h,r⟩:=r
  refine ⟨d,e.trans h,?_⟩
  rcases r with r | ⟨dx,e1,h1,h2,h3⟩
  ·exact .inl r
  ·obtain ⟨x1,x2⟩:=hd dx _ h2 h3 h1 (.inr ⟨_,rfl⟩);exact .inr ⟨dx,e1,x1,x2,h3⟩
theorem Jc {H:Hp}{O:Own}{M:MH}(w:Wf H O M){p:Addr}(hO:O p)(hM:M p=none){xs:List V}(hp:H p=some (.lst xs))(o:HO)(ho:∀ xs,o ≠ .tup xs):Wf (upd H p o) O M:=
 ⟨fun a mo e=>jf.imp (vq hO o) (zi (fun z=>by rw [z,hM] at e;cases e)) (fun dx x h1 _ h3 h4=>⟨by rw [zi (QY h3 hp (by rcases h4 with ⟨_,rfl⟩ | ⟨_,rfl⟩ <;> exact fun z=>nomatch z))];exact h3,h1⟩) (w.mo a mo e),w.own,fun a ha=>by
  by_cases c:a=p
  ·rw [c,zk];exact ⟨o,rfl,ho⟩
  ·rw [zi c];exact w.al a ha⟩
theorem xA {H:Hp}{O:Own}(p:Addr):∀ a u,¬ O a->H a=some u->H a=some u/\¬ ZW O p a:=fun a u ha e=>⟨e,fun z=>ha z.2⟩
theorem WR {H:Hp}{O:Own}{M:MH}(w:Wf H O M){p:Addr}(hM:M p=none){xs:List V}(hp:H p=some (.lst xs)):Wf H (ZW O p) M:=
 ⟨fun a mo e=>jf.imp (xA p) rfl (fun dx x h1 _ h3 h4=>⟨h3,⟨QY h3 hp (by rcases h4 with ⟨_,rfl⟩ | ⟨_,rfl⟩ <;> exact fun z=>nomatch z),h1⟩⟩) (w.mo a mo e),fun a ha=>⟨fun z=>ha (by rw [z];exact hM),w.own a ha⟩,fun a ha=>w.al a ha.2⟩
noncomputable abbrev AK:=AV->MH->Prop
noncomputable abbrev AE:=ASt->MH->AK->Prop
noncomputable abbrev AT:=ASt->MH->(Bool->MH->Prop)->Prop
noncomputable abbrev AA:=ASt->MH->(List AV->MH->Prop)->Prop
structure qX where
 nx:ASt->MH->Prop
 rt:AK
 bk:ASt->MH->Prop:=fun _ _=>False
 ct:ASt->MH->Prop:=fun _ _=>False
noncomputable abbrev AS:=MH->qX->ASt->MH->Prop
noncomputable abbrev AG:=AV->ASt->MH->(ASt->MH->Prop)->Prop
noncomputable abbrev AGs:=List AV->ASt->MH->(ASt->MH->Prop)->Prop
noncomputable abbrev AI:=ASt->MH->(List AV->(MH->Prop)->MH->Prop)->Prop
structure Er (H:Hp)(O:Own)(M:MH)(σ:St)(ρ:ASt):Prop where
 len:σ.length=ρ.length
 get:∀ (i:Nat) x,ρ[i]?=some (some x)->∃ v,σ[i]?=some (some v)/\zw H O M v x
theorem Er.ext {H H':Hp}{O O':Own}{M M':MH}{σ:St}{ρ:ASt}(e:Er H O M σ ρ)(k:Ext H O M H' O' M'):Er H' O' M' σ ρ:=⟨e.len,fun i x h=>let ⟨v,h1,h2⟩:=e.get i x h;⟨v,h1,h2.ext k⟩⟩
theorem Er.set {H:Hp}{O:Own}{M:MH}{σ:St}{ρ:ASt}(e:Er H O M σ ρ){v:V}{x:AV}(r:zw H O M v x)(j:Nat):Er H O M (σ.set j (some v)) (ρ.set j (some x)):=
 ⟨by rw [List.length_set,List.length_set,e.len],fun i y h=>by
  rw [List.getElem?_set] at h ⊢
  by_cases c:j=i
  ·rw [if_pos c] at h ⊢
   by_cases c2:j<ρ.length
   ·rw [if_pos c2] at h;rw [if_pos (by rw [e.len];exact c2)];cases h;exact ⟨v,rfl,r⟩
   ·rw [if_neg c2] at h;cases h
  ·rw [if_neg c] at h ⊢;exact e.get i y h⟩
noncomputable def BN:List Nat->ASt->ASt
 | [],σ=>σ
 | j :: r,σ=>BN r (σ.set j none)
theorem Er.clr {H:Hp}{O:Own}{M:MH}:∀ (ts:List Nat) {σ:St} {ρ:ASt},Er H O M σ ρ->Er H O M (clr ts σ) (BN ts ρ)
  | [],_,_,e=>e
  | j :: r, σ, ρ, e => Er.clr r ⟨by rw [List.length_set, List.length_set, e.len], fun i y h => by
      rw [List.getElem?_set] at h ⊢
      by_cases c:j=i
      · rw [if_pos c] at h
        split at h <;> cases h
      · rw [if_neg c] at h ⊢;exact e.get i y h⟩
structure zN (t:TE)(a:AE):Prop where
 go:∀ {σ:St} {H:Hp} {O:Own} {ρ:ASt} {M:MH} {Q:VK} {Q':AK},Wf H O M->Er H O M σ ρ->a ρ M Q'->(∀ x M' v H' O',Q' x M'->Ext H O M H' O' M'->Wf H' O' M'->zw H' O' M' v x->Q v H')->t σ H Q
structure xk (t:TT)(a:AT):Prop where
 go:∀ {σ:St} {H:Hp} {O:Own} {ρ:ASt} {M:MH} {Q:Bool->Hp->Prop} {Q':Bool->MH->Prop},Wf H O M->Er H O M σ ρ->a ρ M Q'->(∀ b M' H' O',Q' b M'->Ext H O M H' O' M'->Wf H' O' M'->Q b H')->t σ H Q
structure jv (t:TA)(a:AA):Prop where
 go:∀ {σ:St} {H:Hp} {O:Own} {ρ:ASt} {M:MH} {Q:List V->Hp->Prop} {Q':List AV->MH->Prop},Wf H O M->Er H O M σ ρ->a ρ M Q'->(∀ x M' v H' O',Q' x M'->Ext H O M H' O' M'->Wf H' O' M'->zj H' O' M' v x->Q v H')->t σ H Q
structure QX (t:TE)(a:ASt->MH->(List AV->MH->Prop)->Prop):Prop where
 go:∀ {σ:St} {H:Hp} {O:Own} {ρ:ASt} {M:MH} {Q:VK} {Q':List AV->MH->Prop},Wf H O M->Er H O M σ ρ->a ρ M Q' ->
  (∀ l M' p xs H' O',Q' l M'->Ext H O M H' O' M'->Wf H' O' M'->O' p->M' p=none->H p=none->H' p=some (.lst xs)->zj H' O' M' xs l->Q (.ref p) H')->t σ H Q
noncomputable abbrev AR2:=AV->AV->MH->AK->Prop
structure yo (r:R2)(a:AR2):Prop where
 go:∀ {x y:V} {dx dy:AV} {H:Hp} {O:Own} {M:MH} {Q:VK} {Q':AK},Wf H O M->zw H O M x dx->zw H O M y dy->a dx dy M Q'->(∀ x M' v H' O',Q' x M'->Ext H O M H' O' M'->Wf H' O' M'->zw H' O' M' v x->Q v H')->r x y H Q
structure Ih (r:V->Hp->VK->Prop)(a:AV->MH->AK->Prop):Prop where
 go:∀ {x:V} {dx:AV} {H:Hp} {O:Own} {M:MH} {Q:VK} {Q':AK},Wf H O M->zw H O M x dx->a dx M Q'->(∀ x M' v H' O',Q' x M'->Ext H O M H' O' M'->Wf H' O' M'->zw H' O' M' v x->Q v H')->r x H Q
structure wr (r:List V->Hp->VK->Prop)(a:List AV->MH->AK->Prop):Prop where
 go:∀ {vs:List V} {xs:List AV} {H:Hp} {O:Own} {M:MH} {Q:VK} {Q':AK},Wf H O M->zj H O M vs xs->a xs M Q'->(∀ x M' v H' O',Q' x M'->Ext H O M H' O' M'->Wf H' O' M'->zw H' O' M' v x->Q v H')->r vs H Q
noncomputable def qA (i:Nat):AE:=fun ρ M Q=>∃ x,ρ[i]?=some (some x)/\Q x M
noncomputable def aC (d:Dat):AE:=fun _ M Q=>Q (.d d) M
theorem EY {i:Nat}:zN (wo i) (qA i):=⟨fun w e ⟨x,h,q⟩ k=>let ⟨v,h1,h2⟩:=e.get i x h;⟨v,h1,k _ _ _ _ _ q .refl w h2⟩⟩
theorem HD {i:Int}:zN (tC (.int i)) (aC (.int i)):=⟨fun w _ q k=>k _ _ _ _ _ q .refl w .int⟩
theorem GP {i:Bool}:zN (tC (.bl i)) (aC (.bl i)):=⟨fun w _ q k=>k _ _ _ _ _ q .refl w .bl⟩
theorem G1:zN (tC .non) (aC .non):=⟨fun w _ q k=>k _ _ _ _ _ q .refl w .non⟩
theorem Hk {i:Str}:zN (tC (.str i)) (aC (.str i)):=⟨fun w _ q k=>k _ _ _ _ _ q .refl w .str⟩
theorem Gg {i:String}:zN (tC (.ty i)) (aC (.ty i)):=⟨fun w _ q k=>k _ _ _ _ _ q .refl w .ty⟩
noncomputable def aOp (r:AR2)(a b:AE):AE:=fun ρ M Q=>a ρ M fun x M1=>b ρ M1 fun y M2=>r x y M2 Q
theorem GS {r:R2}{ra:AR2}{t u:TE}{a b:AE}(hr:yo r ra)(h1:zN t a)(h2:zN u b):zN (tOp r t u) (aOp ra a b):=
 ⟨fun w e q k=>h1.go w e q fun x M1 v H1 O1 q1 k1 w1 r1=>h2.go w1 (e.ext k1) q1 fun y M2 u H2 O2 q2 k2 w2 r2=>hr.go w2 (r1.ext k2) r2 q2 fun z M3 v3 H3 O3 q3 k3 w3 r3=>k z M3 v3 H3 O3 q3 ((k1.trans k2).trans k3) w3 r3⟩
noncomputable def aUn (r:AV->MH->AK->Prop)(a:AE):AE:=fun ρ M Q=>a ρ M fun x M1=>r x M1 Q
theorem Gc {r:V->Hp->VK->Prop}{ra:AV->MH->AK->Prop}{t:TE}{a:AE}(hr:Ih r ra)(h1:zN t a):zN (tUn r t) (aUn ra a):=
 ⟨fun w e q k=>h1.go w e q fun x M1 v H1 O1 q1 k1 w1 r1=>hr.go w1 r1 q1 fun z M3 v3 H3 O3 q3 k3 w3 r3=>k z M3 v3 H3 O3 q3 (k1.trans k3) w3 r3⟩
noncomputable def kC:AA:=fun _ M Q=>Q [] M
noncomputable def qj (a:AE)(b:AA):AA:=fun ρ M Q=>a ρ M fun x M1=>b ρ M1 fun xs M2=>Q (x :: xs) M2
theorem DR:jv Yy kC:=⟨fun w _ q k=>k _ _ _ _ _ q .refl w .nil⟩
theorem VG {t:TE}{u:TA}{a:AE}{b:AA}(h1:zN t a)(h2:jv u b):jv (QE t u) (qj a b):=
 ⟨fun w e q k=>h1.go w e q fun x M1 v H1 O1 q1 k1 w1 r1=>h2.go w1 (e.ext k1) q1 fun y M2 u H2 O2 q2 k2 w2 r2=>k _ _ _ _ _ q2 (k1.trans k2) w2 (.cons (r1.ext k2) r2)⟩
theorem Jd {H:Hp}{O:Own}{M:MH}(is:List Int):zj H O M (is.map V.int) (is.map fun i=>.d (.int i)):=by
 induction is with
 | nil=>exact .nil
 | cons i r ih=>exact .cons .int ih
noncomputable def aCB (r:List AV->MH->AK->Prop)(b:AA):AE:=fun ρ M Q=>b ρ M fun xs M1=>r xs M1 Q
theorem HQ {r:List V->Hp->VK->Prop}{ra:List AV->MH->AK->Prop}{u:TA}{b:AA}(hr:wr r ra)(h2:jv u b):zN (tCB r u) (aCB ra b):=
 ⟨fun w e q k=>h2.go w e q fun x M1 v H1 O1 q1 k1 w1 r1=>hr.go w1 r1 q1 fun z M3 v3 H3 O3 q3 k3 w3 r3=>k z M3 v3 H3 O3 q3 (k1.trans k3) w3 r3⟩
noncomputable abbrev ASp:=List AV->MH->AK->Prop
noncomputable def cSp (a:ASp):Sp:=fun vs H Q _=>∃ xs M O Q',Wf H O M/\zj H O M vs xs/\a xs M Q'/\∀ x M' v H' O',Q' x M'->Ext H O M H' O' M'->Wf H' O' M'->zw H' O' M' v x->Q v H'
noncomputable def Xh (sp:ASp)(b:AA):AE:=fun ρ M Q=>b ρ M fun xs M1=>sp xs M1 Q
theorem VW {sp:ASp}{u:TA}{b:AA}(h:jv u b):zN (QO (cSp sp) [] E0 u) (Xh sp b):=
 ⟨fun w e q k=>h.go w e q fun x M1 v H1 O1 q1 k1 w1 r1=>⟨x,M1,O1,_,w1,by rw [List.append_nil];exact r1,q1,fun z M3 v3 H3 O3 q3 k3 w3 r3=>k z M3 v3 H3 O3 q3 (k1.trans k3) w3 r3⟩⟩
noncomputable def pur:List AV->Option (List Dat)
 | []=>some []
 | .d x :: r=>match pur r with | some l=>some (x :: l) | none=>none
 | .ref _ :: _=>none
theorem BU:pur []=some []:=rfl
theorem AW {x:Dat}{r:List AV}{l:List Dat}(h:pur r=some l):pur (.d x :: r)=some (x :: l):=by unfold pur;rw [h]
theorem zV (l:List Dat):pur (l.map .d)=some l:=by
 induction l with
 | nil=>rfl
 | cons x r ih=>exact AW ih
theorem j5:∀ {xs:List AV} {l:List Dat},pur xs=some l->xs=l.map .d
 | [],l,h=>by cases h;rfl
 | .d x :: r,l,h=>by
  unfold pur at h
  cases e:pur r with
  | none=>rw [e] at h;cases h
  | some m=>rw [e] at h;cases h;rw [j5 e];rfl
 | .ref _ :: _,_,h=>by cases h
theorem Ext.shown {H H':Hp}{O O':Own}{M M':MH}{p:Addr}(w:Wf H O M)(k:Ext H O M H' O' M')(h:H p=none):Ext H O M H' (ZW O' p) M':=
 ⟨fun a o ha e=>⟨(k.fix a o ha e).1,fun z=>(k.fix a o ha e).2 z.2⟩,fun a ha e=>⟨(k.prv a ha e).1,⟨fun z=>w.ne a ha (by rw [z];exact h),(k.prv a ha e).2.1⟩,(k.prv a ha e).2.2⟩,k.mst⟩
theorem Ext.owned {H H':Hp}{O O':Own}{M M':MH}{p:Addr}(w:Wf H O M)(k:Ext H O M H' O' M')(h:H p=none)(mo:MO):Ext H O M H' O' (mup M' p mo):=
 ⟨k.fix,fun a ha e=>⟨(k.prv a ha e).1,(k.prv a ha e).2.1,by rw [zu (fun z=>w.ne a ha (by rw [z];exact h))];exact (k.prv a ha e).2.2⟩,fun a ha=>by
  by_cases e:a=p
  ·rw [e,zh];exact fun z=>nomatch z
  ·rw [zu e];exact k.mst a ha⟩
theorem QL {H:Hp}{O:Own}{M:MH}{p:Addr}(w:Wf H O M)(hO:O p)(hM:M p=none){xs:List V}{l:List AV}(hp:H p=some (.lst xs))(r:zj H O M xs l):Wf H O (mup M p (.lst l)):=by
 have km:∀ a,M a ≠ none->mup M p (.lst l) a ≠ none:=fun a ha=>by
  by_cases e:a=p
  ·rw [e,zh];exact fun z=>nomatch z
  ·rw [zu e];exact ha
 refine ⟨fun a u e=>?_,fun a ha=>?_,w.al⟩
 ·by_cases c:a=p
  ·subst c;rw [zh] at e;cases e;exact ⟨xs,hp,r.imp (fun _ _ z h=>⟨h,z⟩) km⟩
  ·rw [zu c] at e
   have:=w.mo a u e
   cases u with
   | lst m=>obtain ⟨ys,h1,h2⟩:=this;exact ⟨ys,h1,h2.imp (fun _ _ z h=>⟨h,z⟩) km⟩
   | dK m=>obtain ⟨ys,h1,h2⟩:=this;exact ⟨ys,h1,h2.1,h2.2.imp (fun _ _ z h=>⟨h,z⟩) km⟩
   | ins C fs=>
    obtain ⟨dx,ys,h1,h2,h3,h4,h5⟩:=this
    exact ⟨dx,ys,h1,⟨h2.1,h2.2.imp (fun _ _ z h=>⟨h,z⟩) km⟩,h3,by rw [zu (QY h5 hp (fun z=>nomatch z))];exact h4,h5⟩
   | exc C fs=>
    obtain ⟨d,h1,h2⟩:=this
    refine ⟨d,h1,?_⟩
    rcases h2 with h2 | ⟨dx,e1,h2,h3,h4⟩
    ·exact .inl h2
    ·exact .inr ⟨dx,e1,h2,h3,by rw [zu (QY h2 hp (fun z=>nomatch z))];exact h4⟩
 ·by_cases c:a=p
  ·rw [c];exact hO
  ·rw [zu c] at ha;exact w.own a ha
noncomputable abbrev AF:=ASt->MH->(List AV->MH->Prop)->Prop
noncomputable def aFz (a:AF):AE:=fun ρ M Q=>a ρ M fun l M'=>∃ ds,pur l=some ds/\Q (.d (.lst ds)) M'
noncomputable def aOw (a:AF):AE:=fun ρ M Q=>a ρ M fun l M'=>∀ p,M p=none->M' p=none->Q (.ref p) (mup M' p (.lst l))
noncomputable def IE (t:TE):TE:=t
theorem jF {X:Cx}{e:Expr}{t:TE}(h:PE X e t):PE X e (IE t):=h
theorem yl {t:TE}{a:AF}(h:QX t a):zN t (aFz a):=
 ⟨fun w e q k=>h.go w e q fun l M' p xs H' O' q1 k1 w1 o1 m1 hp hx r1=>by
  obtain ⟨ds,e1,q2⟩:=q1
  rw [j5 e1] at r1
  have r2:=r1.pure
  exact k _ _ _ _ _ q2 (k1.shown w hp) (WR w1 m1 hx) (Rep.lst (fun z=>z.1 rfl) hx r2.1 fun i x d e1 e2=>(r2.2 i x d e1 e2).imp (xA p))⟩
theorem EG {t:TE}{a:AF}(h:QX t a):zN (IE t) (aOw a):=
 ⟨fun w e q k=>h.go w e q fun l M' p xs H' O' q1 k1 w1 o1 m1 hp hx r1=>k _ _ _ _ _ (q1 p (w.fresh hp).2 m1) (k1.owned w hp _) (QL w1 o1 m1 hx r1) ⟨rfl,by rw [zh];exact fun z=>nomatch z⟩⟩
noncomputable def Hl (b:AA):AF:=fun ρ M Q=>b ρ M fun xs M1=>xs.length<=sizeLine/\Q xs M1
theorem Wa {u:TA}{b:AA}(h:jv u b):QX (F0 u) (Hl b):=
 ⟨fun w e q k=>h.go w e q fun x M1 v H1 O1 q1 k1 w1 r1=>⟨by rw [r1.1];exact q1.1,fun p hp=>
  k x M1 p v _ _ q1.2 (k1.trans (qK w1 hp _)) (kQ w1 hp _ (fun _ z=>nomatch z)) (.inl rfl) (w1.fresh hp).2 (by
   cases e0:(_:Hp) p with
   | none=>exact e0
   | some o=>
    exfalso
    rename_i H0 O0 _ M0 _ _
    by_cases c:O0 p
    ·by_cases c2:M0 p=none
     ·exact w1.ne p (k1.prv p c c2).2.1 hp
     ·exact w1.ne p (w1.own p (k1.mst p c2)) hp
    ·rw [(k1.fix p o c e0).1] at hp;cases hp) zk (r1.ext (qK w1 hp _))⟩⟩
noncomputable def El (b:AA):AE:=fun ρ M Q=>b ρ M fun xs M1=>xs.length<=sizeLine/\∃ ds,pur xs=some ds/\Q (.d (.tup ds)) M1
theorem DQ {u:TA}{b:AA}(h:jv u b):zN (Vd u) (El b):=
 ⟨fun w e q k=>h.go w e q fun x M1 v H1 O1 q1 k1 w1 r1=>⟨by rw [r1.1];exact q1.1,fun p hp=>by
  obtain ⟨_,ds,e1,q2⟩:=q1
  rw [j5 e1] at r1
  have r2:=r1.pure
  exact k _ _ _ _ _ q2 (k1.trans (qC w1 hp _)) (kN w1 hp _) (Rep.tup (w1.fresh hp).1 zk r2.1 fun i x d e1 e2=>(r2.2 i x d e1 e2).ext (qC w1 hp _))⟩⟩
noncomputable def aB (a:AE):AT:=fun ρ M Q=>a ρ M fun x M1=>∃ b,x=.d (.bl b)/\Q b M1
theorem kz {H:Hp}{O:Own}{v:V}{b:Bool}(r:Rep H O v (.bl b)):v=.bl b:=by cases r;rfl
theorem zT {H:Hp}{O:Own}{v:V}{b:Int}(r:Rep H O v (.int b)):v=.int b:=by cases r;rfl
theorem KO {H:Hp}{O:Own}{v:V}{b:Str}(r:Rep H O v (.str b)):v=.str b:=by cases r;rfl
theorem Vt {H:Hp}{O:Own}{v:V}{b:String}(r:Rep H O v (.ty b)):v=.ty b:=by cases r;rfl
theorem vt {H:Hp}{O:Own}{v:V}(r:Rep H O v .non):v=.non:=by cases r;rfl
theorem Ib {t:TE}{a:AE}(h:zN t a):xk (tB t) (aB a):=⟨fun w e q k=>h.go w e q fun x M1 v H1 O1 ⟨b,e1,q1⟩ k1 w1 r1=>by
 subst e1;exact ⟨b,kz r1,k _ _ _ _ q1 k1 w1⟩⟩
theorem Ac {t:TE}{a:AE}(h:zN t a):xk (K4 t) (aB a):=⟨fun w e q k=>h.go w e q fun x M1 v H1 O1 ⟨b,e1,q1⟩ k1 w1 r1=>by
 subst e1;exact ⟨b,kz r1,k _ _ _ _ q1 k1 w1⟩⟩
noncomputable def QM:AT:=fun _ M Q=>Q true M
theorem Wn:xk AJ QM:=⟨fun w _ q k=>k _ _ _ _ q .refl w⟩
noncomputable def B1 (a b:AT):AT:=fun ρ M Q=>a ρ M fun c M1=>if c=true then b ρ M1 Q else Q false M1
noncomputable def aOr (a b:AT):AT:=fun ρ M Q=>a ρ M fun c M1=>if c=true then Q true M1 else b ρ M1 Q
noncomputable def Zu (a:AT):AT:=fun ρ M Q=>a ρ M fun c M1=>Q (!c) M1
theorem DP {t u:TT}{a b:AT}(h1:xk t a)(h2:xk u b):xk (Hb t u) (B1 a b):=⟨fun w e q k=>h1.go w e q fun c M1 H1 O1 q1 k1 w1=>by
 cases c with
 | true=>exact h2.go w1 (e.ext k1) q1 fun c M2 H2 O2 q2 k2 w2=>k _ _ _ _ q2 (k1.trans k2) w2
 | false=>exact k _ _ _ _ q1 k1 w1⟩
theorem Hh {t u:TT}{a b:AT}(h1:xk t a)(h2:xk u b):xk (tOr t u) (aOr a b):=⟨fun w e q k=>h1.go w e q fun c M1 H1 O1 q1 k1 w1=>by
 cases c with
 | false=>exact h2.go w1 (e.ext k1) q1 fun c M2 H2 O2 q2 k2 w2=>k _ _ _ _ q2 (k1.trans k2) w2
 | true=>exact k _ _ _ _ q1 k1 w1⟩
theorem Dc {t:TT}{a:AT}(h1:xk t a):xk (GE t) (Zu a):=⟨fun w e q k=>h1.go w e q fun c M1 H1 O1 q1 k1 w1=>k _ _ _ _ q1 k1 w1⟩
noncomputable def E6 (a b:AE):AE:=fun ρ M Q=>a ρ M fun x M1=>∃ c,x=.d (.bl c)/\if c=true then b ρ M1 Q else Q (.d (.bl false)) M1
theorem V5 {t u:TE}{a b:AE}(h1:zN t a)(h2:zN u b):zN (Ae t u) (E6 a b):=⟨fun w e q k=>h1.go w e q fun x M1 v H1 O1 ⟨c,e1,q1⟩ k1 w1 r1=>by
 subst e1
 refine ⟨c,kz r1,?_⟩
 cases c with
 | true=>exact h2.go w1 (e.ext k1) q1 fun c M2 v2 H2 O2 q2 k2 w2 r2=>k _ _ _ _ _ q2 (k1.trans k2) w2 r2
 | false=>exact k _ _ _ _ _ q1 k1 w1 .bl⟩
noncomputable def aIf (c:AT)(a b:AE):AE:=fun ρ M Q=>c ρ M fun c M1=>if c=true then a ρ M1 Q else b ρ M1 Q
theorem GG {c:TT}{t u:TE}{ac:AT}{a b:AE}(hc:xk c ac)(h1:zN t a)(h2:zN u b):zN (tIf c t u) (aIf ac a b):=⟨fun w e q k=>hc.go w e q fun c M1 H1 O1 q1 k1 w1=>by
 cases c with
 | true=>exact h1.go w1 (e.ext k1) q1 fun c M2 v2 H2 O2 q2 k2 w2 r2=>k _ _ _ _ _ q2 (k1.trans k2) w2 r2
 | false=>exact h2.go w1 (e.ext k1) q1 fun c M2 v2 H2 O2 q2 k2 w2 r2=>k _ _ _ _ _ q2 (k1.trans k2) w2 r2⟩
noncomputable def Jq (r r':AR2)(a b c:AE):AE:=fun ρ M Q=>a ρ M fun x M1=>b ρ M1 fun y M2=>r x y M2 fun z M3=>∃ k,z=.d (.bl k)/\if k=true then c ρ M3 fun u M4=>r' y u M4 Q else Q (.d (.bl false)) M3
theorem Yx {r r':R2}{ar ar':AR2}{t u v:TE}{a b c:AE}(hr:yo r ar)(hr':yo r' ar')(h1:zN t a)(h2:zN u b)(h3:zN v c):zN (Kh r r' t u v) (Jq ar ar' a b c):=
 ⟨fun w e q k=>h1.go w e q fun x M1 v H1 O1 q1 k1 w1 r1=>h2.go w1 (e.ext k1) q1 fun y M2 u H2 O2 q2 k2 w2 r2=>hr.go w2 (r1.ext k2) r2 q2 fun z M3 v3 H3 O3 ⟨c,e3,q3⟩ k3 w3 r3=>by
  subst e3
  refine ⟨c,kz r3,?_⟩
  have k13:=(k1.trans k2).trans k3
  cases c with
  | false=>exact k _ _ _ _ _ q3 k13 w3 .bl
  | true=>exact h3.go w3 (e.ext k13) q3 fun z4 M4 v4 H4 O4 q4 k4 w4 r4=>hr'.go w4 ((r2.ext k3).ext k4) r4 q4 fun z5 M5 v5 H5 O5 q5 k5 w5 r5=>k _ _ _ _ _ q5 ((k13.trans k4).trans k5) w5 r5⟩
structure ED (H0:Hp)(O0:Own)(M0:MH)(D:xX)(D':qX):Prop where
 nx:∀ σ H O ρ M,Wf H O M->Er H O M σ ρ->Ext H0 O0 M0 H O M->D'.nx ρ M->D.nx σ H
 rt:∀ v x H O M,Wf H O M->Ext H0 O0 M0 H O M->zw H O M v x->D'.rt x M->D.rt v H
 bk:∀ σ H O ρ M,Wf H O M->Er H O M σ ρ->Ext H0 O0 M0 H O M->D'.bk ρ M->D.bk σ H
 ct:∀ σ H O ρ M,Wf H O M->Er H O M σ ρ->Ext H0 O0 M0 H O M->D'.ct ρ M->D.ct σ H
theorem ED.tr {H0 H1:Hp}{O0 O1:Own}{M0 M1:MH}{D:xX}{D':qX}(E:ED H0 O0 M0 D D')(k:Ext H0 O0 M0 H1 O1 M1):ED H1 O1 M1 D D':=
 ⟨fun σ H O ρ M w e x q=>E.nx σ H O ρ M w e (k.trans x) q,fun v y H O M w x r q=>E.rt v y H O M w (k.trans x) r q,fun σ H O ρ M w e x q=>E.bk σ H O ρ M w e (k.trans x) q,fun σ H O ρ M w e x q=>E.ct σ H O ρ M w e (k.trans x) q⟩
structure jq (t:TS)(a:AS):Prop where
 go:∀ {H0:Hp} {O0:Own} {M0:MH} {D:xX} {D':qX} {σ:St} {H:Hp} {O:Own} {ρ:ASt} {M:MH},Wf H0 O0 M0->Wf H O M->Er H O M σ ρ->Ext H0 O0 M0 H O M->a M0 D' ρ M->ED H0 O0 M0 D D'->t D σ H
noncomputable def jX:AS:=fun _ D ρ M=>D.nx ρ M
theorem BB:jq VM jX:=⟨fun _ w e x q E=>E.nx _ _ _ _ _ w e x q⟩
noncomputable def kH (a b:AS):AS:=fun B D ρ M=>a B { D with nx:=b B D } ρ M
theorem EL {t u:TS}{a b:AS}(h1:jq t a)(h2:jq u b):jq (YD t u) (kH a b):=
 ⟨fun w0 w e x q E=>h1.go w0 w e x q ⟨fun σ H O ρ M w e x q=>h2.go w0 w e x q E,E.rt,E.bk,E.ct⟩⟩
noncomputable def VO (a:AE):AS:=fun _ D ρ M=>a ρ M fun _ M1=>D.nx ρ M1
theorem VV {t:TE}{a:AE}(h:zN t a):jq (XA t) (VO a):=⟨fun _ w e x q E=>h.go w e q fun y M1 v H1 O1 q1 k1 w1 r1=>E.nx _ _ _ _ _ w1 (e.ext k1) (x.trans k1) q1⟩
noncomputable def Kl (a:AE):AS:=fun _ D ρ M=>a ρ M D.rt
theorem B5 {t:TE}{a:AE}(h:zN t a):jq (Ec t) (Kl a):=⟨fun _ w e x q E=>h.go w e q fun y M1 v H1 O1 q1 k1 w1 r1=>E.rt _ _ _ _ _ w1 (x.trans k1) r1 q1⟩
noncomputable def xN (c:AT)(a b:AS):AS:=fun B D ρ M=>c ρ M fun k M1=>if k=true then a B D ρ M1 else b B D ρ M1
theorem B8 {c:TT}{t u:TS}{ac:AT}{a b:AS}(hc:xk c ac)(h1:jq t a)(h2:jq u b):jq (Ew c t u) (xN ac a b):=
 ⟨fun w0 w e x q E=>hc.go w e q fun k M1 H1 O1 q1 k1 w1=>by
  cases k with
  | true=>exact h1.go w0 w1 (e.ext k1) (x.trans k1) q1 E
  | false=>exact h2.go w0 w1 (e.ext k1) (x.trans k1) q1 E⟩
structure vf (g:TG)(a:AG):Prop where
 go:∀ {v:V} {x:AV} {σ:St} {H:Hp} {O:Own} {ρ:ASt} {M:MH} {Q:St->Hp->Prop} {Q':ASt->MH->Prop},Wf H O M->Er H O M σ ρ->zw H O M v x->a x ρ M Q' ->
  (∀ σ' H' O' ρ' M',Q' ρ' M'->Ext H O M H' O' M'->Wf H' O' M'->Er H' O' M' σ' ρ'->Q σ' H')->g v σ H Q
structure wK (g:TGs)(a:AGs):Prop where
 go:∀ {v:List V} {x:List AV} {σ:St} {H:Hp} {O:Own} {ρ:ASt} {M:MH} {Q:St->Hp->Prop} {Q':ASt->MH->Prop},Wf H O M->Er H O M σ ρ->zj H O M v x->a x ρ M Q' ->
  (∀ σ' H' O' ρ' M',Q' ρ' M'->Ext H O M H' O' M'->Wf H' O' M'->Er H' O' M' σ' ρ'->Q σ' H')->g v σ H Q
noncomputable def vM (i:Nat):AG:=fun x ρ M Q=>Q (ρ.set i (some x)) M
theorem X3 {i:Nat}:vf (Qe i) (vM i):=⟨fun w e r q k=>k _ _ _ _ _ q .refl w (e.set r i)⟩
noncomputable def FC:AGs:=fun xs ρ M Q=>xs=[]/\Q ρ M
noncomputable def JR (a:AG)(b:AGs):AGs:=fun xs ρ M Q=>∃ x r,xs=x :: r/\a x ρ M fun ρ' M'=>b r ρ' M' Q
theorem VT:wK FQ FC:=⟨fun w e r q k=>by obtain ⟨e1,q⟩:=q;subst e1;exact ⟨r.nil_inv,k _ _ _ _ _ q .refl w e⟩⟩
theorem YJ {g:TG}{u:TGs}{a:AG}{b:AGs}(h1:vf g a)(h2:wK u b):wK (VH g u) (JR a b):=⟨fun w e r q k=>by
 obtain ⟨x,r',e1,q⟩:=q;subst e1
 obtain ⟨v,vr,e2,rv,rr⟩:=r.cons_inv
 subst e2
 exact ⟨v,vr,rfl,h1.go w e rv q fun σ' H' O' ρ' M' q1 k1 w1 e1=>h2.go w1 e1 (rr.ext k1) q1 fun σ2 H2 O2 ρ2 M2 q2 k2 w2 e2=>k _ _ _ _ _ q2 (k1.trans k2) w2 e2⟩⟩
noncomputable def FO (n:Nat)(b:AGs):AG:=fun x ρ M Q=>∃ l,x=.d (.tup l)/\l.length=n/\b (l.map .d) ρ M Q
theorem Vi {K:PySem.W.Frag}{n:Nat}{u:TGs}{b:AGs}(h:wK u b):vf (YZ K n u) (FO n b):=⟨fun {v x σ H O ρ M Q Q'} w e r q k=>by
 obtain ⟨l,e1,ln,q⟩:=q;subst e1
 cases (show Rep H O v (.tup l) from r) with
 | @tup a xs _ o1 h1 l1 r1=>exact ⟨a,xs,rfl,SqT.of h1,l1.trans ln,h.go w e (Yn.av ⟨l1,r1⟩) q k⟩⟩
noncomputable def je (x:AV)(M:MH):Option (List AV):=match x with
 | .d (.lst l)=>some (l.map .d)
 | .ref a=>match M a with
  | some (.lst l)=>some l
  | _=>none
 | _=>none
noncomputable def FT (x:AV):Option (List AV):=match x with
 | .d (.tup l)=>some (l.map .d)
 | _=>none
noncomputable def qw (x:AV)(M:MH):Option (List AV):=match x with
 | .d (.lst l)=>some (l.map .d)
 | .d (.tup l)=>some (l.map .d)
 | .ref a=>match M a with
  | some (.lst l)=>some l
  | _=>none
 | _=>none
theorem Wz (l:List Dat)(M:MH):je (.d (.lst l)) M=some (l.map .d):=rfl
theorem G2 (l:List Dat):FT (.d (.tup l))=some (l.map .d):=rfl
theorem Gz (l:List Dat)(M:MH):qw (.d (.lst l)) M=some (l.map .d):=rfl
theorem G5 (l:List Dat)(M:MH):qw (.d (.tup l)) M=some (l.map .d):=rfl
theorem ji {a:Addr}{M:MH}{l:List AV}(h:M a=some (.lst l)):je (.ref a) M=some l:=by unfold je;dsimp only;rw [h]
theorem qc {a:Addr}{M:MH}{l:List AV}(h:M a=some (.lst l)):qw (.ref a) M=some l:=by unfold qw;dsimp only;rw [h]
theorem v7 {x:AV}{M:MH}{l:List AV}(h:je x M=some l):(∃ m,x=.d (.lst m)/\l=m.map .d) \/ ∃ a,x=.ref a/\M a=some (.lst l):=by
 cases x with
 | d x=>
  cases x with
  | lst m=>cases h;exact .inl ⟨m,rfl,rfl⟩
  | _=>cases h
 | ref a=>
  unfold je at h
  dsimp only at h
  cases e:M a with
  | none=>rw [e] at h;cases h
  | some o=>
   rw [e] at h
   cases o with
   | lst m=>cases h;exact .inr ⟨a,rfl,e⟩
   | _=>cases h
theorem kf {x:AV}{M:MH}{l:List AV}(h:qw x M=some l):je x M=some l \/ ∃ m,x=.d (.tup m)/\l=m.map .d:=by
 cases x with
 | d x=>
  cases x with
  | lst m=>cases h;exact .inl rfl
  | tup m=>cases h;exact .inr ⟨m,rfl,rfl⟩
  | _=>cases h
 | ref a=>exact .inl h
theorem qQ {H:Hp}{O:Own}{M:MH}{v:V}{x:AV}{l:List AV}(w:Wf H O M)(r:zw H O M v x)(h:je x M=some l):∃ a xs,v=.ref a/\H a=some (.lst xs)/\zj H O M xs l:=by
 rcases v7 h with ⟨m,rfl,rfl⟩ | ⟨a,rfl,e⟩
 ·cases (show Rep H O v (.lst m) from r) with
  | @lst a xs _ o1 h1 l1 r1=>exact ⟨a,xs,rfl,h1,Yn.av ⟨l1,r1⟩⟩
 ·obtain ⟨xs,h1,r1⟩:=w.mo a _ e
  exact ⟨a,xs,r.1,h1,r1⟩
theorem kK {H:Hp}{O:Own}{M:MH}{v:V}{x:AV}{l:List AV}(r:zw H O M v x)(h:FT x=some l):∃ a xs,v=.ref a/\H a=some (.tup xs)/\zj H O M xs l:=by
 cases x with
 | ref a=>cases h
 | d x=>
  cases x with
  | tup m=>
   cases h
   cases (show Rep H O v (.tup m) from r) with
   | @tup a xs _ o1 h1 l1 r1=>exact ⟨a,xs,rfl,h1,Yn.av ⟨l1,r1⟩⟩
  | _=>cases h
theorem ZY {H:Hp}{O:Own}{M:MH}{v:V}{x:AV}{l:List AV}(w:Wf H O M)(r:zw H O M v x)(h:qw x M=some l):∃ a xs,v=.ref a/\(H a=some (.lst xs) \/ H a=some (.tup xs))/\zj H O M xs l:=by
 rcases kf h with e | ⟨m,rfl,rfl⟩
 ·obtain ⟨a,xs,h1,h2,h3⟩:=qQ w r e;exact ⟨a,xs,h1,.inl h2,h3⟩
 ·obtain ⟨a,xs,h1,h2,h3⟩:=kK (l:=m.map .d) r rfl;exact ⟨a,xs,h1,.inr h2,h3⟩
structure Ko (t:Qi)(a:AV->AV->AV->MH->(MH->Prop)->Prop):Prop where
 go:∀ {o i v:V} {ao ai av:AV} {H:Hp} {O:Own} {M:MH} {Q:Hp->Prop} {Q':MH->Prop},Wf H O M->zw H O M o ao->zw H O M i ai->zw H O M v av->a ao ai av M Q'->(∀ M' H' O',Q' M'->Ext H O M H' O' M'->Wf H' O' M'->Q H')->t o i v H Q
noncomputable def Vy (a b:AE)(s:AV->AV->AV->MH->(MH->Prop)->Prop):AG:=fun x ρ M Q=>a ρ M fun o M1=>b ρ M1 fun i M2=>s o i x M2 fun M3=>Q ρ M3
theorem Ai {to ti:TE}{t:Qi}{a b:AE}{s:AV->AV->AV->MH->(MH->Prop)->Prop}(h1:zN to a)(h2:zN ti b)(h3:Ko t s):vf (G7 to ti t) (Vy a b s):=⟨fun w e r q k=>
 h1.go w e q fun x M1 v H1 O1 q1 k1 w1 r1=>h2.go w1 (e.ext k1) q1 fun y M2 u H2 O2 q2 k2 w2 r2=>h3.go w2 (r1.ext k2) r2 (r.ext (k1.trans k2)) q2 fun M3 H3 O3 q3 k3 w3=>k _ _ _ _ _ q3 ((k1.trans k2).trans k3) w3 (e.ext ((k1.trans k2).trans k3))⟩
theorem jS {M:MH}{p:Addr}{o:MO}(h:M p=some o):M p ≠ none:=by rw [h];exact fun z=>nomatch z
noncomputable def asL:AV->AV->AV->MH->(MH->Prop)->Prop:=fun o i v M Q=>∃ p l k j,o=.ref p/\i=.d (.int k)/\M p=some (.lst l)/\ixN l.length k=some j/\Q (mup M p (.lst (l.set j v)))
theorem Af:Ko JV asL:=⟨fun w ro ri rv q k=>by
 obtain ⟨p,l,n,j,rfl,rfl,hm,hj,q⟩:=q
 obtain ⟨xs,hx,rx⟩:=w.mo p _ hm
 have np:=jS hm
 refine ⟨n,zT ri,p,ro.1,xs,hx,j,by rw [rx.1];exact hj,k _ _ _ q (xt w np _ _) (Jr w np (fun _ z=>nomatch z) ⟨_,zk,(rx.set rv j).ext (xt w np _ _)⟩)⟩⟩
noncomputable def VX (a:AE)(g:AG):AS:=fun _ D ρ M=>a ρ M fun x M1=>g x ρ M1 D.nx
theorem D2 {t:TE}{g:TG}{a:AE}{ag:AG}(h:zN t a)(hg:vf g ag):jq (ZI t g) (VX a ag):=⟨fun _ w e x q E=>h.go w e q fun y M1 v H1 O1 q1 k1 w1 r1=>hg.go w1 (e.ext k1) r1 q1 fun σ2 H2 O2 ρ2 M2 q2 k2 w2 e2=>E.nx _ _ _ _ _ w2 e2 ((x.trans k1).trans k2) q2⟩
noncomputable def IF (i j:Nat)(a:AA):AS:=fun _ D ρ M=>a ρ M fun xs M1=>∃ x y,xs=[x,y]/\D.nx ((ρ.set i (some x)).set j (some y)) M1
theorem Ep {i j:Nat}{t:TA}{a:AA}(h:jv t a):jq (FZ i j t) (IF i j a):=⟨fun _ w e x q E=>h.go w e q fun ys M1 vs H1 O1 q1 k1 w1 r1=>by
 obtain ⟨y,z,rfl,q2⟩:=q1
 obtain ⟨v1,r',rfl,a1,r2⟩:=r1.cons_inv
 obtain ⟨v2,r',rfl,a2,r3⟩:=r2.cons_inv
 rw [r3.nil_inv]
 exact ⟨v1,v2,rfl,E.nx _ _ _ _ _ w1 (((e.ext k1).set a1 i).set a2 j) (x.trans k1) q2⟩⟩
noncomputable def Fp (i j m:Nat)(a:AA):AS:=fun _ D ρ M=>a ρ M fun xs M1=>∃ x y z,xs=[x,y,z]/\D.nx (((ρ.set i (some x)).set j (some y)).set m (some z)) M1
theorem W4 {i j m:Nat}{t:TA}{a:AA}(h:jv t a):jq (Wx i j m t) (Fp i j m a):=⟨fun _ w e x q E=>h.go w e q fun ys M1 vs H1 O1 q1 k1 w1 r1=>by
 obtain ⟨y,z,u,rfl,q2⟩:=q1
 obtain ⟨v1,r',rfl,a1,r2⟩:=r1.cons_inv
 obtain ⟨v2,r',rfl,a2,r3⟩:=r2.cons_inv
 obtain ⟨v3,r',rfl,a3,r4⟩:=r3.cons_inv
 rw [r4.nil_inv]
 exact ⟨v1,v2,v3,rfl,E.nx _ _ _ _ _ w1 ((((e.ext k1).set a1 i).set a2 j).set a3 m) (x.trans k1) q2⟩⟩
structure Fm (t:TIp)(a:AR2):Prop where
 go:∀ {x y:V} {dx dy:AV} {H:Hp} {O:Own} {M:MH} {Q:VK} {Q':AK},Wf H O M->zw H O M x dx->zw H O M y dy->a dx dy M Q'->(∀ x M' v H' O',Q' x M'->Ext H O M H' O' M'->Wf H' O' M'->zw H' O' M' v x->Q v H')->t x y H Q
noncomputable def E7 (ao ai ae:AE)(gt ip:AR2)(st:AV->AV->AV->MH->(MH->Prop)->Prop):AS:=fun _ D ρ M=>ao ρ M fun o M1=>ai ρ M1 fun i M2=>gt o i M2 fun x M3=>ae ρ M3 fun y M4=>ip x y M4 fun z M5=>st o i z M5 fun M6=>D.nx ρ M6
theorem WA {to ti te:TE}{tg:V->V->Hp->VK->Prop}{tip:TIp}{ts:Qi}{ao ai ae:AE}{gt ip:AR2}{st:AV->AV->AV->MH->(MH->Prop)->Prop}(h1:zN to ao)(h2:zN ti ai)(h3:yo tg gt)(h4:zN te ae)(h5:Fm tip ip)(h6:Ko ts st) :
  jq (AZ to ti te tg tip ts) (E7 ao ai ae gt ip st):=⟨fun _ w e x q E=>h1.go w e q fun o M1 v1 H1 O1 q1 k1 w1 r1=>h2.go w1 (e.ext k1) q1 fun i M2 v2 H2 O2 q2 k2 w2 r2=>h3.go w2 (r1.ext k2) r2 q2 fun y M3 v3 H3 O3 q3 k3 w3 r3=>
  h4.go w3 (e.ext ((k1.trans k2).trans k3)) q3 fun z M4 v4 H4 O4 q4 k4 w4 r4=>h5.go w4 (r3.ext k4) r4 q4 fun z5 M5 v5 H5 O5 q5 k5 w5 r5=>h6.go w5 (r1.ext (((k2.trans k3).trans k4).trans k5)) (r2.ext ((k3.trans k4).trans k5)) r5 q5 fun M6 H6 O6 q6 k6 w6=>
   E.nx _ _ _ _ _ w6 (e.ext (((((k1.trans k2).trans k3).trans k4).trans k5).trans k6)) (x.trans (((((k1.trans k2).trans k3).trans k4).trans k5).trans k6)) q6⟩
noncomputable def wj (J:It)(H:Hp)(O:Own)(M:MH)(l:List AV)(G:MH->Prop):Prop:=
 ∀ (H':Hp) (O':Own) (M':MH),(∀ a o,¬ O a->H a=some o->H' a=some o/\¬ O' a)->(∀ a,M a ≠ none->M' a ≠ none)->Wf H' O' M'->G M'->∀ i:Nat,(i=l.length->J.stop i H') /\
  ∀ y,l[i]?=some y->J.go i H'/\∀ x H'',J.yld i H' x H''->Ext H' O' M' H'' O' M'/\Wf H'' O' M'/\zw H'' O' M' x y
structure Kr (wi:TI)(ai:AI):Prop where
 go:∀ {σ:St} {H:Hp} {O:Own} {ρ:ASt} {M:MH} {R:It->Hp->Prop} {R':List AV->(MH->Prop)->MH->Prop},Wf H O M->Er H O M σ ρ->ai ρ M R'->(∀ l G M' J H' O',R' l G M'->Ext H O M H' O' M'->Wf H' O' M'->wj J H' O' M' l G->R J H')->wi σ H R
noncomputable def E8 (ag:AG)(ab:AS)(B:MH)(D:qX)(G:MH->Prop)(l:List AV)(ρ:ASt)(M:MH):Prop:=
 ∃ Pv:Nat->ASt->MH->Prop,Pv 0 ρ M/\(∀ i x ρ M,l[i]?=some x->Pv i ρ M->G M/\ag x ρ M fun ρ' M'=>ab B { D with nx:=Pv (i+1),ct:=Pv (i+1),bk:=D.nx } ρ' M')/\∀ ρ M,Pv l.length ρ M->G M/\D.nx ρ M
noncomputable def Gn (ai:AI)(ag:AG)(ab:AS):AS:=fun _ D ρ M=>ai ρ M fun l G M1=>E8 ag ab M1 D G l ρ M1
theorem Dp {wi:TI}{g:TG}{t:TS}{ai:AI}{ag:AG}{ab:AS}(hi:Kr wi ai)(hg:vf g ag)(hb:jq t ab):jq (BW wi g t) (Gn ai ag ab):=⟨fun {H0 O0 M0 D D' σ H O ρ M} w0 w e x q E=>by
 rw [ZC]
 refine hi.go w e q fun l G M1 J H1 O1 q1 k1 w1 hj=>?_
 have E1:=E.tr (x.trans k1)
 obtain ⟨Pv,p0,ps,pd⟩:=q1
 refine ⟨fun i m σ H=>m=l.length - i/\i<=l.length/\∃ O ρ M,Wf H O M/\Er H O M σ ρ/\Ext H1 O1 M1 H O M/\Pv i ρ M,⟨l.length,by simp,Nat.zero_le _,O1,ρ,M1,w1,e.ext k1,.refl,p0⟩,?_⟩
 rintro i m σ H ⟨rfl,hi,O,ρ,M,w,e,x,hf⟩
 by_cases hil:i<l.length
 ·have hy:l[i]?=some l[i]:=List.getElem?_eq_getElem hil
  obtain ⟨hG,q2⟩:=ps i l[i] ρ M hy hf
  obtain ⟨j1,j2⟩:=(hj H O M x.fix x.mst w hG i).2 l[i] hy
  refine .inr ⟨j1,fun σ' H'=>∃ O ρ M,Wf H' O M/\Er H' O M σ' ρ/\Ext H1 O1 M1 H' O M/\Pv (i+1) ρ M,fun σ' H' z=>⟨l.length - (i+1),by omega,rfl,hil,z⟩,fun v H' hv=>?_⟩
  obtain ⟨k2,w2,r2⟩:=j2 v H' hv
  refine hg.go w2 (e.ext k2) r2 q2 fun σ3 H3 O3 ρ3 M3 q3 k3 w3 e3=>?_
  exact hb.go w1 w3 e3 ((x.trans k2).trans k3) q3 ⟨fun σ H O ρ M w e x q=>⟨O,ρ,M,w,e,x,q⟩,E1.rt,E1.nx,fun σ H O ρ M w e x q=>⟨O,ρ,M,w,e,x,q⟩⟩
 ·have e0:i=l.length:=by omega
  subst e0
  obtain ⟨hG,q2⟩:=pd ρ M hf
  exact .inl ⟨(hj H O M x.fix x.mst w hG l.length).1 rfl,E1.nx _ _ _ _ _ w e x q2⟩⟩
theorem ya {H H1:Hp}{O O1:Own}{M M1:MH}(w1:Wf H1 O1 M1)(k1:Ext H O M H1 O1 M1){p:Addr}(hp:H1 p=none):H p=none:=by
 cases e0:H p with
 | none=>rfl
 | some o=>
  exfalso
  by_cases c:O p
  ·by_cases c2:M p=none
   ·exact w1.ne p (k1.prv p c c2).2.1 hp
   ·exact w1.ne p (w1.own p (k1.mst p c2)) hp
  ·rw [(k1.fix p o c e0).1] at hp;cases hp
theorem YQ {K:PySem.W.Frag}{H:Hp}{O:Own}{M:MH}{a:Addr}{x:AV}{l:List AV}(r:zw H O M (.ref a) x)(h:je x M=some l):wj (Itl K a) H O M l (fun M'=>je x M'=some l):=by
 intro H' O' M' fix mst w' hG i
 obtain ⟨a',xs,e,h1,r1⟩:=qQ w' (r.imp fix mst) hG
 cases e
 refine ⟨fun e=>⟨xs,SqL.of h1,by rw [r1.1];omega⟩,fun y hy=>?_⟩
 obtain ⟨v,hv,rv⟩:=r1.get hy
 refine ⟨⟨xs,v,SqL.of h1,hv⟩,fun z H'' hz=>?_⟩
 obtain ⟨e1,e2⟩:=hz
 subst e1
 have:=e2 xs (SqL.of h1)
 rw [hv] at this;cases this
 exact ⟨.refl,w',rv⟩
theorem BF {K:PySem.W.Frag}{H:Hp}{O:Own}{M:MH}{a:Addr}{x:AV}{l:List AV}(r:zw H O M (.ref a) x)(h:FT x=some l):wj (Itt K a) H O M l (fun _=>True):=by
 intro H' O' M' fix mst w' hG i
 obtain ⟨a',xs,e,h1,r1⟩:=kK (r.imp fix mst) h
 cases e
 refine ⟨fun e=>⟨xs,SqT.of h1,by rw [r1.1];omega⟩,fun y hy=>?_⟩
 obtain ⟨v,hv,rv⟩:=r1.get hy
 refine ⟨⟨xs,v,SqT.of h1,hv⟩,fun z H'' hz=>?_⟩
 obtain ⟨e1,e2⟩:=hz
 subst e1
 have:=e2 xs (SqT.of h1)
 rw [hv] at this;cases this
 exact ⟨.refl,w',rv⟩
noncomputable def aiS (a:AE):AI:=fun ρ M R=>a ρ M fun x M1=>∃ l,qw x M1=some l/\R l (fun M'=>qw x M'=some l) M1
theorem wj.mono {J:It}{H:Hp}{O:Own}{M:MH}{l:List AV}{G G':MH->Prop}(h:wj J H O M l G)(k:∀ M,G' M->G M):wj J H O M l G':=fun H' O' M' fix mst w' hG=>h H' O' M' fix mst w' (k _ hG)
theorem F8 {K:PySem.W.Frag}{t:TE}{a:AE}(h:zN t a):Kr (iLT K t) (aiS a):=⟨fun w e q k=>h.go w e q fun x M1 v H1 O1 ⟨l,hl,q1⟩ k1 w1 r1=>by
 rcases kf hl with hl' | ⟨m,rfl,rfl⟩
 ·obtain ⟨a,xs,rfl,h1,_⟩:=qQ w1 r1 hl'
  refine ⟨a,rfl,.inl ⟨⟨xs,SqL.of h1⟩,k _ _ _ _ _ _ q1 k1 w1 ((YQ r1 hl').mono fun M hM=>?_)⟩⟩
  rcases kf hM with z | ⟨m,rfl,rfl⟩
  ·exact z
  ·cases hl'
 ·obtain ⟨a,xs,rfl,h1,_⟩:=kK (l:=m.map .d) r1 rfl
  exact ⟨a,rfl,.inr ⟨⟨xs,SqT.of h1⟩,k _ _ _ _ _ _ q1 k1 w1 ((BF r1 rfl).mono fun _ _=>trivial)⟩⟩⟩
noncomputable def vT (lo c:Int)(n:Nat):List AV:=(List.range n).map fun (k:Nat)=>.d (.int (lo+(k:Int) * c))
theorem jw (lo c:Int)(n:Nat):(vT lo c n).length=n:=by simp [vT]
theorem j9 {lo c:Int}{n i:Nat}{y:AV}(h:(vT lo c n)[i]?=some y):i<n/\y=.d (.int (lo+(i:Int) * c)):=by
 have hi:=(List.getElem?_eq_some_iff.mp h).1
 rw [jw] at hi
 unfold vT at h
 rw [List.getElem?_map,List.getElem?_range hi] at h
 cases h
 exact ⟨hi,rfl⟩
theorem WW {H:Hp}{O:Own}{M:MH}(lo:Int)(n:Nat):wj (Itr lo n) H O M (vT lo 1 n) (fun _=>True):=by
 intro H' O' M' fix mst w' hG i
 refine ⟨fun e=>by rw [jw] at e;exact Nat.le_of_eq e.symm,fun y hy=>?_⟩
 obtain ⟨hi,rfl⟩:=j9 hy
 refine ⟨hi,fun z H'' hz=>?_⟩
 obtain ⟨rfl,rfl⟩:=hz
 rw [Int.mul_one]
 exact ⟨.refl,w',.int⟩
noncomputable def Ig (a:AA):AI:=fun ρ M R=>a ρ M fun xs M1=>∃ j:Int,xs=[.d (.int j)]/\-(2 ^ 62)<=j/\j<2 ^ 62/\R (vT 0 1 j.toNat) (fun _=>True) M1
theorem DO {t:TA}{a:AA}(h:jv t a):Kr (AU t) (Ig a):=⟨fun w e q k=>h.go w e q fun x M1 v H1 O1 ⟨j,e1,j1,j2,q1⟩ k1 w1 r1=>by
 subst e1
 obtain ⟨v1,r',rfl,a1,r2⟩:=r1.cons_inv
 rw [r2.nil_inv,zT a1]
 exact ⟨j,rfl,j1,j2,k _ _ _ _ _ _ q1 k1 w1 (WW _ _)⟩⟩
noncomputable def v6 (m:List Dat):List AV:=(List.range m.length).map fun (i:Nat)=>.d (.tup [.int (i:Int),m.getD i .non])
theorem jV (m:List Dat):(v6 m).length=m.length:=by simp [v6]
theorem kE {m:List Dat}{i:Nat}{y:AV}(h:(v6 m)[i]?=some y):∃ d,m[i]?=some d/\y=.d (.tup [.int (i:Int),d]):=by
 have hi:=(List.getElem?_eq_some_iff.mp h).1
 rw [jV] at hi
 unfold v6 at h
 rw [List.getElem?_map,List.getElem?_range hi] at h
 cases h
 exact ⟨m[i],List.getElem?_eq_getElem hi,by dsimp only;rw [List.getD_eq_getElem?_getD,List.getElem?_eq_getElem hi];rfl⟩
theorem QG {H:Hp}{O:Own}{M:MH}(w:Wf H O M){p:Addr}(hp:H p=none){x y:V}{d e:Dat}(r1:Rep H O x d)(r2:Rep H O y e):Ext H O M (upd H p (.tup [x,y])) O M/\Wf (upd H p (.tup [x,y])) O M/\zw (upd H p (.tup [x,y])) O M (.ref p) (.d (.tup [d,e])):=
 ⟨qC w hp _,kN w hp _,Rep.tup (w.fresh hp).1 zk rfl fun i z f h1 h2=>by
  match i,h1,h2 with
  | 0,h1,h2=>cases h1;cases h2;exact r1.ext (qC w hp _)
  | 1,h1,h2=>cases h1;cases h2;exact r2.ext (qC w hp _)
  | (i+2),h1,_=>cases h1⟩
theorem Y5 {K:PySem.W.Frag}{H:Hp}{O:Own}{M:MH}{a:Addr}{x:AV}{m:List Dat}(r:zw H O M (.ref a) x)(h:je x M=some (m.map .d)):wj (Ite K a) H O M (v6 m) (fun M'=>je x M'=some (m.map .d)):=by
 intro H' O' M' fix mst w' hG i
 obtain ⟨a',xs,e,h1,r1⟩:=qQ w' (r.imp fix mst) hG
 cases e
 have l1:=r1.1
 rw [List.length_map] at l1
 refine ⟨fun e=>⟨xs,SqL.of h1,by rw [jV] at e;omega⟩,fun y hy=>?_⟩
 obtain ⟨d,hd,rfl⟩:=kE hy
 obtain ⟨v,hv,rv⟩:=r1.get (i:=i) (d:=.d d) (by rw [List.getElem?_map,hd];rfl)
 refine ⟨⟨xs,v,SqL.of h1,hv⟩,fun z H'' hz=>?_⟩
 obtain ⟨p,x',hp,rfl,e2,rfl⟩:=hz
 have:=e2 xs (SqL.of h1)
 rw [hv] at this;cases this
 exact QG w' hp .int rv
theorem Jn {K:PySem.W.Frag}{H:Hp}{O:Own}{M:MH}{a:Addr}{m:List Dat}(r:zw H O M (.ref a) (.d (.tup m))):wj (GT K a) H O M (v6 m) (fun _=>True):=by
 intro H' O' M' fix mst w' hG i
 obtain ⟨a',xs,e,h1,r1⟩:=kK (l:=m.map .d) (r.imp fix mst) rfl
 cases e
 have l1:=r1.1
 rw [List.length_map] at l1
 refine ⟨fun e=>⟨xs,SqT.of h1,by rw [jV] at e;omega⟩,fun y hy=>?_⟩
 obtain ⟨d,hd,rfl⟩:=kE hy
 obtain ⟨v,hv,rv⟩:=r1.get (i:=i) (d:=.d d) (by rw [List.getElem?_map,hd];rfl)
 refine ⟨⟨xs,v,SqT.of h1,hv⟩,fun z H'' hz=>?_⟩
 obtain ⟨p,x',hp,rfl,e2,rfl⟩:=hz
 have:=e2 xs (SqT.of h1)
 rw [hv] at this;cases this
 exact QG w' hp .int rv
noncomputable def aiE (a:AA):AI:=fun ρ M R=>a ρ M fun xs M1=>∃ x l m,xs=[x]/\qw x M1=some l/\pur l=some m/\R (v6 m) (fun M'=>qw x M'=some l) M1
theorem Ju {x:AV}{M M':MH}{l l':List AV}(h:je x M=some l)(h':qw x M'=some l'):je x M'=some l':=by
 rcases kf h' with z | ⟨m,rfl,rfl⟩
 ·exact z
 ·cases h
theorem GY {K:PySem.W.Frag}{t:TA}{a:AA}(h:jv t a):Kr (ZN K t) (aiE a):=⟨fun w e q k=>h.go w e q fun xs M1 v H1 O1 ⟨x,l,m,e1,hl,hm,q1⟩ k1 w1 r1=>by
 subst e1
 obtain ⟨v1,r',rfl,a1,r2⟩:=r1.cons_inv
 rw [r2.nil_inv]
 rw [j5 hm] at hl q1
 rcases kf hl with hl' | ⟨m',rfl,e2⟩
 ·obtain ⟨a,xs,rfl,h1,_⟩:=qQ w1 a1 hl'
  exact ⟨a,rfl,.inl ⟨⟨xs,SqL.of h1⟩,k _ _ _ _ _ _ q1 k1 w1 ((Y5 a1 hl').mono fun M hM=>Ju hl' hM)⟩⟩
 ·obtain rfl:m=m':=by have:=congrArg pur e2;rw [zV,zV] at this;cases this;rfl
  obtain ⟨a,xs,rfl,h1,_⟩:=kK (l:=m.map .d) a1 rfl
  exact ⟨a,rfl,.inr ⟨⟨xs,SqT.of h1⟩,k _ _ _ _ _ _ q1 k1 w1 ((Jn a1).mono fun _ _=>trivial)⟩⟩⟩
structure vg (D:Addr)(H:Hp)(O:Own)(M:MH)(H':Hp)(O':Own)(M':MH):Prop where
 fix:∀ a o,¬ O a->H a=some o->H' a=some o/\¬ O' a
 prv:∀ a,a ≠ D->O a->M a=none->H' a=H a/\O' a/\M' a=none
 mst:∀ a,M a ≠ none->M' a ≠ none
theorem Ext.x {D:Addr}{H H':Hp}{O O':Own}{M M':MH}(k:Ext H O M H' O' M'):vg D H O M H' O' M':=⟨k.fix,fun a _=>k.prv a,k.mst⟩
theorem vg.trans {D:Addr}{H H1 H2:Hp}{O O1 O2:Own}{M M1 M2:MH}(a:vg D H O M H1 O1 M1)(b:vg D H1 O1 M1 H2 O2 M2):vg D H O M H2 O2 M2:=
 ⟨fun x o h e=>let ⟨e1,h1⟩:=a.fix x o h e;b.fix x o h1 e1,fun x hx h e=>by
  obtain ⟨e1,h1,n1⟩:=a.prv x hx h e
  obtain ⟨e2,h2,n2⟩:=b.prv x hx h1 n1
  exact ⟨e2.trans e1,h2,n2⟩,fun x h=>b.mst x (a.mst x h)⟩
theorem vg.set {D:Addr}{H:Hp}{O:Own}{M:MH}(hO:O D)(o:HO):vg D H O M (upd H D o) O M:=⟨vq hO o,fun a ha h e=>⟨zi ha,h,e⟩,fun _ h=>h⟩
theorem Er.imp {H H':Hp}{O O':Own}{M M':MH}{σ:St}{ρ:ASt}(e:Er H O M σ ρ)(k:∀ a o,¬ O a->H a=some o->H' a=some o/\¬ O' a)(hm:∀ a,M a ≠ none->M' a ≠ none):Er H' O' M' σ ρ:=⟨e.len,fun i x h=>let ⟨v,h1,h2⟩:=e.get i x h;⟨v,h1,h2.imp k hm⟩⟩
noncomputable abbrev ATR:=List AV->ASt->MH->(List AV->ASt->MH->Prop)->Prop
structure KM (D:Addr)(tr:TR)(a:ATR):Prop where
 go:∀ {σ:St} {H:Hp} {O:Own} {ρ:ASt} {M:MH} {acc:List AV} {ys:List V} {N:St->Hp->Prop} {N':List AV->ASt->MH->Prop},Wf H O M->Er H O M σ ρ->O D->M D=none->H D=some (.lst ys)->zj H O M ys acc->a acc ρ M N' ->
  (∀ acc' ρ' M' σ' H' O' ys',N' acc' ρ' M'->vg D H O M H' O' M'->Wf H' O' M'->Er H' O' M' σ' ρ'->O' D->M' D=none->H' D=some (.lst ys')->zj H' O' M' ys' acc'->N σ' H')->tr σ H N
noncomputable def vc (a:AE):ATR:=fun acc ρ M N=>a ρ M fun x M1=>acc.length<sizeLine/\N (acc ++ [x]) ρ M1
theorem QB {D:Addr}{t:TE}{a:AE}(h:zN t a):KM D (Kj t D) (vc a):=⟨fun {σ H O ρ M acc ys N N'} w e o m hd r q k=>h.go w e q fun x M1 v H1 O1 ⟨q0,q1⟩ k1 w1 r1=>by
 obtain ⟨e1,o1,m1⟩:=k1.prv D o m
 have r':=r.ext k1
 refine ⟨ys,e1.trans hd,by rw [r.1];exact q0,k _ _ _ _ _ _ (ys ++ [v]) q1 (k1.x.trans (vg.set o1 _)) (Jc w1 o1 m1 (e1.trans hd) _ (fun _ z=>nomatch z)) ((e.ext k1).imp (vq o1 _) (fun _ z=>z)) o1 m1 zk ((r'.snoc r1).imp (vq o1 _) (fun _ z=>z))⟩⟩
noncomputable def Y4 (ag:AG)(at_:AT)(tr:ATR)(G:MH->Prop)(N:List AV->ASt->MH->Prop)(l acc:List AV)(ρ:ASt)(M:MH):Prop:=
 ∃ Pv:Nat->List AV->ASt->MH->Prop,Pv 0 acc ρ M/\(∀ i x acc ρ M,l[i]?=some x->Pv i acc ρ M->G M/\ag x ρ M fun ρ2 M2=>at_ ρ2 M2 fun b M3=>if b=true then tr acc ρ2 M3 (Pv (i+1)) else Pv (i+1) acc ρ2 M3)/\∀ acc ρ M,Pv l.length acc ρ M->G M/\N acc ρ M
theorem FU {D:Addr}{g:TG}{tt:TT}{tr:TR}{ag:AG}{at_:AT}{atr:ATR}(hg:vf g ag)(ht:xk tt at_)(hr:KM D tr atr){J:It}{H1:Hp}{O1:Own}{M1:MH}{l:List AV}{G:MH->Prop}(hj:wj J H1 O1 M1 l G){N':List AV->ASt->MH->Prop}{N:St->Hp->Prop}
  {σ:St} {ρ:ASt} {acc:List AV} {ys:List V} (w:Wf H1 O1 M1) (e:Er H1 O1 M1 σ ρ) (o:O1 D) (m:M1 D=none) (hd:H1 D=some (.lst ys)) (r:zj H1 O1 M1 ys acc) (q:Y4 ag at_ atr G N' l acc ρ M1)
  (k:∀ acc' ρ' M' σ' H' O' ys',N' acc' ρ' M'->vg D H1 O1 M1 H' O' M'->Wf H' O' M'->Er H' O' M' σ' ρ'->O' D->M' D=none->H' D=some (.lst ys')->zj H' O' M' ys' acc'->N σ' H'):CL J g tt tr N σ H1:=by
 obtain ⟨Pv,p0,ps,pd⟩:=q
 refine ⟨fun i n σ H=>n=l.length - i/\i<=l.length/\∃ O ρ M acc ys,Wf H O M/\Er H O M σ ρ/\vg D H1 O1 M1 H O M/\O D/\M D=none/\H D=some (.lst ys)/\zj H O M ys acc/\Pv i acc ρ M,
  ⟨l.length,by simp,Nat.zero_le _,O1,ρ,M1,acc,ys,w,e,Ext.refl.x,o,m,hd,r,p0⟩,?_⟩
 rintro i n σ H ⟨rfl,hi,O,ρ,M,acc,ys,w,e,x,o,m,hd,r,hf⟩
 by_cases hil:i<l.length
 ·have hy:l[i]?=some l[i]:=List.getElem?_eq_getElem hil
  obtain ⟨hG,q2⟩:=ps i l[i] acc ρ M hy hf
  obtain ⟨j1,j2⟩:=(hj H O M x.fix x.mst w hG i).2 l[i] hy
  refine .inr ⟨j1,fun σ' H'=>∃ O ρ M acc ys,Wf H' O M/\Er H' O M σ' ρ/\vg D H1 O1 M1 H' O M/\O D/\M D=none/\H' D=some (.lst ys)/\zj H' O M ys acc/\Pv (i+1) acc ρ M,fun σ' H' z=>⟨l.length - (i+1),by omega,rfl,hil,z⟩,fun v H' hv=>?_⟩
  obtain ⟨k2,w2,r2⟩:=j2 v H' hv
  refine hg.go w2 (e.ext k2) r2 q2 fun σ3 H3 O3 ρ3 M3 q3 k3 w3 e3=>?_
  refine ht.go w3 e3 q3 fun b M4 H4 O4 q4 k4 w4=>?_
  have k24:=(k2.trans k3).trans k4
  obtain ⟨d4,o4,m4⟩:=k24.prv D o m
  have r4:=r.ext k24
  cases b with
  | true=>
   exact hr.go w4 (e3.ext k4) o4 m4 (d4.trans hd) r4 q4 fun acc' ρ' M' σ' H' O' ys' q5 k5 w5 e5 o5 m5 d5 r5=>⟨O',ρ',M',acc',ys',w5,e5,(x.trans k24.x).trans k5,o5,m5,d5,r5,q5⟩
  | false=>
   exact ⟨O4,ρ3,M4,acc,ys,w4,e3.ext k4,x.trans k24.x,o4,m4,d4.trans hd,r4,q4⟩
 ·have e0:i=l.length:=by omega
  subst e0
  obtain ⟨hG,q2⟩:=pd acc ρ M hf
  exact .inl ⟨(hj H O M x.fix x.mst w hG l.length).1 rfl,k _ _ _ _ _ _ _ q2 x w e o m hd r⟩
noncomputable def Kx (ts:List Nat)(ai:AI)(ag:AG)(at_:AT)(atr:ATR):AF:=fun ρ M Q=>ai ρ M fun l G M1=>Y4 ag at_ atr G (fun acc _ M'=>Q acc M') l [] (BN ts ρ) M1
theorem JL {ts:List Nat}{wi:TI}{g:TG}{tt:TT}{tr:Addr->TR}{ai:AI}{ag:AG}{at_:AT}{atr:ATR}(hi:Kr wi ai)(hg:vf g ag)(ht:xk tt at_)(hr:∀ D,KM D (tr D) atr):QX (Vu ts wi g tt tr) (Kx ts ai ag at_ atr):=⟨fun {σ H O ρ M Q Q'} w e q k=>by
 refine hi.go w e q fun l G M1 J H1 O1 q1 k1 w1 hj D hD=>?_
 have kp:=qK w1 hD (.lst [])
 have hj':wj J (upd H1 D (.lst [])) (yc O1 D) M1 l G:=fun H' O' M' fix mst w' hG=>hj H' O' M' (fun a o ha ho=>fix a o (kp.fix a o ha ho).2 (kp.fix a o ha ho).1) mst w' hG
 refine FU hg ht (hr D) hj' (kQ w1 hD _ (fun _ z=>nomatch z)) (((e.ext k1).clr ts).ext kp) (.inl rfl) (w1.fresh hD).2 zk .nil q1 fun acc' ρ' M' σ' H' O' ys' q5 k5 w5 e5 o5 m5 d5 r5=>?_
 have hH:=ya w1 k1 hD
 refine k _ _ _ _ _ _ q5 ⟨fun a o ha ho=>?_,fun a ha hm=>?_,fun a hm=>k5.mst a (k1.mst a hm)⟩ w5 o5 m5 hH d5 r5
 ·obtain ⟨x1,x2⟩:=(k1.trans kp).fix a o ha ho
  exact k5.fix a o x2 x1
 ·obtain ⟨x1,x2,x3⟩:=(k1.trans kp).prv a ha hm
  obtain ⟨y1,y2,y3⟩:=k5.prv a (fun z=>w.ne a ha (by rw [z];exact hH)) x2 x3
  exact ⟨y1.trans x1,y2,y3⟩⟩
theorem Yd {ts:List Nat}{wi:TI}{g:TG}{tt:TT}{te:TE}{ai:AI}{ag:AG}{at_:AT}{ae:AE}(hi:Kr wi ai)(hg:vf g ag)(ht:xk tt at_)(he:zN te ae):QX (Qo ts wi g tt te) (Kx ts ai ag at_ (vc ae)):=
 ⟨fun w e q k=>(JL (ts:=ts) (tr:=Kj te) hi hg ht fun D=>QB he).go w e q k⟩
noncomputable def aI (C:Int->Int->Prop)(g:Int->Int->Dat):AR2:=fun x y M Q=>∃ i j,x=.d (.int i)/\y=.d (.int j)/\C i j/\Q (.d (g i j)) M
noncomputable def aI0 (g:Int->Int->Dat):AR2:=fun x y M Q=>∃ i j,x=.d (.int i)/\y=.d (.int j)/\Q (.d (g i j)) M
theorem HR {C:Int->Int->Prop}{f:Int->Int->Int}:yo (rI C fun i j=>.int (f i j)) (aI C fun i j=>.int (f i j)):=⟨fun w r1 r2 ⟨i,j,e1,e2,c,q⟩ k=>by
 subst e1 e2;exact ⟨i,j,zT r1,zT r2,c,k _ _ _ _ _ q .refl w .int⟩⟩
theorem Ed {f:Int->Int->Int}:yo (rI0 fun i j=>.int (f i j)) (aI0 fun i j=>.int (f i j)):=⟨fun w r1 r2 ⟨i,j,e1,e2,q⟩ k=>by
 subst e1 e2;exact ⟨i,j,zT r1,zT r2,k _ _ _ _ _ q .refl w .int⟩⟩
theorem Wh {f:Int->Int->Bool}:yo (rI0 fun i j=>.bl (f i j)) (aI0 fun i j=>.bl (f i j)):=⟨fun w r1 r2 ⟨i,j,e1,e2,q⟩ k=>by
 subst e1 e2;exact ⟨i,j,zT r1,zT r2,k _ _ _ _ _ q .refl w .bl⟩⟩
theorem Eg {f:Int->Int->Int}:Fm (ipI f) (aI0 fun i j=>.int (f i j)):=⟨fun w r1 r2 ⟨i,j,e1,e2,q⟩ k=>by
 subst e1 e2;exact ⟨i,j,zT r1,zT r2,k _ _ _ _ _ q .refl w .int⟩⟩
noncomputable def aU (g:Int->Dat):AV->MH->AK->Prop:=fun x M Q=>∃ i,x=.d (.int i)/\Q (.d (g i)) M
theorem HE {f:Int->Int}:Ih (rU fun i=>.int (f i)) (aU fun i=>.int (f i)):=⟨fun w r1 ⟨i,e1,q⟩ k=>by
 subst e1;exact ⟨i,zT r1,k _ _ _ _ _ q .refl w .int⟩⟩
noncomputable def eqS:Dat->Dat->Option Bool
 | .non,.non=>some true | .non,.int _=>some false | .int _,.non=>some false | .non,.bl _=>some false | .bl _,.non=>some false | .non,.str _=>some false | .str _,.non=>some false
 | .int i,.int j=>some (decide (i=j)) | .bl a,.bl b=>some (decide (a=b)) | .str a,.str b=>some (decide (a=b))
 | .int _,.str _=>some false | .str _,.int _=>some false | .bl _,.str _=>some false | .str _,.bl _=>some false
 | _,_=>none
noncomputable def jM:AV->Bool
 | .d .non=>true
 | _=>false
theorem Qs {H:Hp}{O:Own}{M:MH}{v:V}{x:AV}(r:zw H O M v x):decide (v=V.non)=jM x:=by
 cases x with
 | ref a=>rw [r.1];rfl
 | d x=>cases (show Rep H O v x from r) <;> rfl
noncomputable def Yi (f:Bool->Bool):AR2:=fun x y M Q=>y=.d .non/\Q (.d (.bl (f (jM x)))) M
theorem Dx:yo (fun x y H Q=>y=V.non/\Q (V.bl (decide (x=V.non))) H) (Yi id):=⟨fun w r1 r2 ⟨e,q⟩ k=>by
 subst e;exact ⟨vt r2,by rw [Qs r1];exact k _ _ _ _ _ q .refl w .bl⟩⟩
theorem BG:yo (fun x y H Q=>y=V.non/\Q (V.bl (!decide (x=V.non))) H) (Yi not):=⟨fun w r1 r2 ⟨e,q⟩ k=>by
 subst e;exact ⟨vt r2,by rw [Qs r1];exact k _ _ _ _ _ q .refl w .bl⟩⟩
noncomputable def IG (f:Bool->Bool->Bool):AR2:=fun x y M Q=>∃ a b,x=.d (.bl a)/\y=.d (.bl b)/\Q (.d (.bl (f a b))) M
theorem D8 {f:Bool->Bool->Bool}:yo (Hu f) (IG f):=⟨fun w r1 r2 ⟨a,b,e1,e2,q⟩ k=>by
 subst e1 e2;exact ⟨a,b,kz r1,kz r2,k _ _ _ _ _ q .refl w .bl⟩⟩
theorem Xc {H:Hp}{O:Own}{M:MH}{xs:List V}{l:List AV}(r:zj H O M xs l){i:Int}{x:AV}(h:atI l i=some x):∃ v,atI xs i=some v/\zw H O M v x:=by
 unfold atI at h ⊢
 rw [r.1]
 cases e:ixN l.length i with
 | none=>rw [e] at h;cases h
 | some j=>rw [e] at h;exact r.get h
noncomputable def aIx (s:AV->MH->Option (List AV)):AR2:=fun x y M Q=>∃ l i z,s x M=some l/\y=.d (.int i)/\atI l i=some z/\Q z M
theorem Du {K:PySem.W.Frag}:yo (EH K) (aIx je):=⟨fun w r1 r2 ⟨l,i,z,h,e,hz,q⟩ k=>by
 subst e
 obtain ⟨a,xs,rfl,h1,r⟩:=qQ w r1 h
 obtain ⟨v,hv,rv⟩:=Xc r hz
 exact ⟨a,xs,i,v,rfl,zT r2,SqL.of h1,hv,k _ _ _ _ _ q .refl w rv⟩⟩
theorem Vf {K:PySem.W.Frag}:yo (KB K) (aIx qw):=⟨fun w r1 r2 ⟨l,i,z,h,e,hz,q⟩ k=>by
 subst e
 obtain ⟨a,xs,rfl,h1,r⟩:=ZY w r1 h
 obtain ⟨v,hv,rv⟩:=Xc r hz
 exact ⟨a,xs,i,v,rfl,zT r2,h1.elim (fun h=>.inl (SqL.of h)) (fun h=>.inr (SqT.of h)),hv,k _ _ _ _ _ q .refl w rv⟩⟩
structure Aj (r:R2)(a:AV->AV->MH->(List AV->Prop)->Prop):Prop where
 go:∀ {x y:V} {dx dy:AV} {H:Hp} {O:Own} {M:MH} {Q:VK} {Q':List AV->Prop},Wf H O M->zw H O M x dx->zw H O M y dy->a dx dy M Q'->(∀ l ys,Q' l->zj H O M ys l->∀ p,H p=none->Q (.ref p) (upd H p (.lst ys)))->r x y H Q
noncomputable def fOp (r:AV->AV->MH->(List AV->Prop)->Prop)(a b:AE):AF:=fun ρ M Q=>a ρ M fun x M1=>b ρ M1 fun y M2=>r x y M2 fun l=>Q l M2
theorem Zt {r:R2}{ra:AV->AV->MH->(List AV->Prop)->Prop}{t u:TE}{a b:AE}(hr:Aj r ra)(h1:zN t a)(h2:zN u b):QX (tOp r t u) (fOp ra a b):=
 ⟨fun w e q k=>h1.go w e q fun x M1 v H1 O1 q1 k1 w1 r1=>h2.go w1 (e.ext k1) q1 fun y M2 u H2 O2 q2 k2 w2 r2=>hr.go w2 (r1.ext k2) r2 q2 fun l ys q3 r3 p hp=>
  k l M2 p ys _ _ q3 ((k1.trans k2).trans (qK w2 hp _)) (kQ w2 hp _ (fun _ z=>nomatch z)) (.inl rfl) (w2.fresh hp).2 (ya w2 (k1.trans k2) hp) zk (r3.ext (qK w2 hp _))⟩
noncomputable def GH:AV->AV->MH->(List AV->Prop)->Prop:=fun x y M Q=>∃ l m,je x M=some l/\je y M=some m/\l.length+m.length<=sizeLine/\Q (l ++ m)
theorem Q2:Aj BK GH:=⟨fun w r1 r2 ⟨l,m,h1,h2,hs,q⟩ k=>by
 obtain ⟨a,xs,rfl,e1,p1⟩:=qQ w r1 h1
 obtain ⟨b,ys,rfl,e2,p2⟩:=qQ w r2 h2
 exact ⟨a,b,xs,ys,rfl,rfl,e1,e2,by rw [p1.1,p2.1];exact hs,k _ _ q (p1.append p2)⟩⟩
theorem zj.rep {H:Hp}{O:Own}{M:MH}{xs:List V}{l:List AV}(a:zj H O M xs l):∀ k:Nat,zj H O M (List.replicate k xs).flatten (List.replicate k l).flatten
 | 0=>.nil
 | k+1=>by rw [List.replicate_succ,List.replicate_succ,List.flatten_cons,List.flatten_cons];exact a.append (zj.rep a k)
noncomputable def G3:AV->AV->MH->(List AV->Prop)->Prop:=fun x y M Q=>∃ l k,je x M=some l/\y=.d (.int k)/\-(2 ^ 63)<=k/\k<2 ^ 63/\l.length * k.toNat<=sizeLine/\Q (List.replicate k.toNat l).flatten
theorem QT:Aj DZ G3:=⟨fun w r1 r2 ⟨l,n,h1,e,b1,b2,hs,q⟩ k=>by
 subst e
 obtain ⟨a,xs,rfl,e1,p1⟩:=qQ w r1 h1
 exact ⟨a,n,xs,rfl,zT r2,e1,b1,b2,by rw [p1.1];exact hs,k _ _ q (p1.rep _)⟩⟩
noncomputable abbrev AO:=ASt->MH->(Option Int->MH->Prop)->Prop
structure Ji (t:TO)(a:AO):Prop where
 go:∀ {σ:St} {H:Hp} {O:Own} {ρ:ASt} {M:MH} {Q:Option Int->Hp->Prop} {Q':Option Int->MH->Prop},Wf H O M->Er H O M σ ρ->a ρ M Q'->(∀ x M' H' O',Q' x M'->Ext H O M H' O' M'->Wf H' O' M'->Q x H')->t σ H Q
noncomputable def IL:AO:=fun _ M Q=>Q none M
noncomputable def FM (a:AE):AO:=fun ρ M Q=>a ρ M fun x M1=>∃ i,x=.d (.int i)/\Q (some i) M1
theorem EF:Ji ZX IL:=⟨fun w _ q k=>k _ _ _ _ q .refl w⟩
theorem VA {t:TE}{a:AE}(h:zN t a):Ji (Aw t) (FM a):=⟨fun w e q k=>h.go w e q fun x M1 v H1 O1 ⟨i,e1,q1⟩ k1 w1 r1=>by
 subst e1;exact ⟨i,zT r1,k _ _ _ _ q1 k1 w1⟩⟩
noncomputable def jO {α:Type}(xs:List α)(lo hi:Option Int):List α:=(xs.drop (HT.sIx xs.length 0 lo)).take (HT.sIx xs.length xs.length hi - HT.sIx xs.length 0 lo)
theorem zj.cut {H:Hp}{O:Own}{M:MH}{xs:List V}{l:List AV}(a:zj H O M xs l)(lo hi:Option Int):zj H O M (ww xs lo hi) (jO l lo hi):=by
 unfold ww jO
 rw [a.1]
 exact (a.drop _).take _
theorem vR {α β:Type}(f:α->β)(l:List α)(lo hi:Option Int):jO (l.map f) lo hi=(jO l lo hi).map f:=by
 unfold jO
 rw [List.length_map,<- List.map_drop,<- List.map_take]
noncomputable def fSl (a:AE)(lo hi:AO):AF:=fun ρ M Q=>a ρ M fun x M1=>lo ρ M1 fun i M2=>hi ρ M2 fun j M3=>∃ l,je x M3=some l/\Q (jO l i j) M3
theorem BX {K:PySem.W.Frag}{t:TE}{tl th:TO}{a:AE}{lo hi:AO}(h1:zN t a)(h2:Ji tl lo)(h3:Ji th hi):QX (tSl (GX K) t tl th) (fSl a lo hi):=
 ⟨fun w e q k=>h1.go w e q fun x M1 v H1 O1 q1 k1 w1 r1=>h2.go w1 (e.ext k1) q1 fun i M2 H2 O2 q2 k2 w2=>h3.go w2 (e.ext (k1.trans k2)) q2 fun j M3 H3 O3 ⟨l,hl,q3⟩ k3 w3=>by
  obtain ⟨a,xs,rfl,e1,p1⟩:=qQ w3 (r1.ext (k2.trans k3)) hl
  exact ⟨a,xs,rfl,SqL.of e1,fun p hp=>k _ _ p _ _ _ q3 (((k1.trans k2).trans k3).trans (qK w3 hp _)) (kQ w3 hp _ (fun _ z=>nomatch z)) (.inl rfl) (w3.fresh hp).2 (ya w3 ((k1.trans k2).trans k3) hp) zk ((p1.cut i j).ext (qK w3 hp _))⟩⟩
theorem ZA {H:Hp}{O:Own}{M:MH}(w:Wf H O M){p:Addr}(hp:H p=none){xs:List V}{l:List Dat}(r:zj H O M xs (l.map .d)):zw (upd H p (.tup xs)) O M (.ref p) (.d (.tup l)):=
 have r2:=r.pure
 Rep.tup (w.fresh hp).1 zk r2.1 fun i x d e1 e2=>(r2.2 i x d e1 e2).ext (qC w hp _)
noncomputable def ID (a:AE)(lo hi:AO):AE:=fun ρ M Q=>a ρ M fun x M1=>lo ρ M1 fun i M2=>hi ρ M2 fun j M3=>∃ l,x=.d (.tup l)/\¬ (HT.sIx l.length 0 i=0/\HT.sIx l.length l.length j=l.length)/\Q (.d (.tup (jO l i j))) M3
theorem EU {K:PySem.W.Frag}{t:TE}{tl th:TO}{a:AE}{lo hi:AO}(h1:zN t a)(h2:Ji tl lo)(h3:Ji th hi):zN (tSl (IS K) t tl th) (ID a lo hi):=
 ⟨fun w e q k=>h1.go w e q fun x M1 v H1 O1 q1 k1 w1 r1=>h2.go w1 (e.ext k1) q1 fun i M2 H2 O2 q2 k2 w2=>h3.go w2 (e.ext (k1.trans k2)) q2 fun j M3 H3 O3 ⟨l,hl,hn,q3⟩ k3 w3=>by
  subst hl
  obtain ⟨a,xs,rfl,e1,p1⟩:=kK (l:=l.map .d) (r1.ext (k2.trans k3)) rfl
  have l1:=p1.1
  rw [List.length_map] at l1
  refine ⟨a,xs,rfl,SqT.of e1,by rw [l1];exact hn,fun p hp=>?_⟩
  have p2:=p1.cut i j
  rw [vR] at p2
  exact k _ _ _ _ _ q3 (((k1.trans k2).trans k3).trans (qC w3 hp _)) (kN w3 hp _) (ZA w3 hp p2)⟩
theorem zj.reverse {H:Hp}{O:Own}{M:MH}{xs:List V}{l:List AV}(a:zj H O M xs l):zj H O M xs.reverse l.reverse:=
 ⟨by rw [List.length_reverse,List.length_reverse,a.1],fun i x d h1 h2=>by
  have hi:=(List.getElem?_eq_some_iff.mp h1).1
  rw [List.length_reverse] at hi
  rw [List.getElem?_reverse hi] at h1
  rw [List.getElem?_reverse (by rw [<- a.1];exact hi),<- a.1] at h2
  exact a.2 _ x d h1 h2⟩
noncomputable def Ld (a:AE)(st:AO):AE:=fun ρ M Q=>a ρ M fun x M1=>st ρ M1 fun i M2=>i=some (-1)/\((∃ m l,je x M2=some m/\pur m=some l/\Q (.d (.lst l.reverse)) M2) \/ (∃ l,x=.d (.tup l)/\Q (.d (.tup l.reverse)) M2))
theorem D6 {K:PySem.W.Frag}{t:TE}{ts:TO}{a:AE}{st:AO}(h1:zN t a)(h2:Ji ts st):zN (Gx K t ts) (Ld a st):=
 ⟨fun w e q k=>h1.go w e q fun x M1 v H1 O1 q1 k1 w1 r1=>h2.go w1 (e.ext k1) q1 fun i M2 H2 O2 ⟨hi,q2⟩ k2 w2=>⟨hi,by
  have k12:=k1.trans k2
  rcases q2 with ⟨m,l,hl,hp,q2⟩ | ⟨l,rfl,q2⟩
  ·rw [j5 hp] at hl
   obtain ⟨a,xs,rfl,e1,p1⟩:=qQ w2 (r1.ext k2) hl
   have p2:=p1.reverse
   rw [<- List.map_reverse] at p2
   have p3:=p2.pure
   exact ⟨a,xs,rfl,.inl ⟨SqL.of e1,fun p hp=>k _ _ _ _ _ q2 (k12.trans (qC w2 hp _)) (kN w2 hp _) (Rep.lst (w2.fresh hp).1 zk p3.1 fun i x d e1 e2=>(p3.2 i x d e1 e2).ext (qC w2 hp _))⟩⟩
  ·obtain ⟨a,xs,rfl,e1,p1⟩:=kK (l:=l.map .d) (r1.ext k2) rfl
   have p2:=p1.reverse
   rw [<- List.map_reverse] at p2
   exact ⟨a,xs,rfl,.inr ⟨SqT.of e1,fun p hp=>k _ _ _ _ _ q2 (k12.trans (qC w2 hp _)) (kN w2 hp _) (ZA w2 hp p2)⟩⟩⟩⟩
mutual
noncomputable def eqD:Dat->Dat->Bool
 | .non,.non=>true
 | .bl a,.bl b=>a == b
 | .bl a,.int b=>(if a then 1 else 0) == b
 | .int a,.bl b=>a == (if b then 1 else 0)
 | .int a,.int b=>a == b
 | .str a,.str b=>a == b
 | .lst a,.lst b=>kh a b
 | .tup a,.tup b=>kh a b
 | _,_=>false
noncomputable def kh:List Dat->List Dat->Bool
 | [],[]=>true
 | a :: r,b :: r'=>eqD a b && kh r r'
 | _,_=>false
end
mutual
noncomputable def dp:Dat->Nat
 | .lst l=>dps l+1
 | .tup l=>dps l+1
 | .rng _ _ _=>1000
 | .scr _ _=>1000
 | .ty _=>1000
 | _=>0
noncomputable def dps:List Dat->Nat
 | []=>0
 | a :: r=>max (dp a) (dps r)
end
theorem jE {l:List Dat}{n:Nat}(h:∀ d ∈ l,dp d<=n):dps l<=n:=by
 induction l with
 | nil=>exact Nat.zero_le _
 | cons a r ih=>rw [dps];exact Nat.max_le.mpr ⟨h a (by simp),ih fun d hd=>h d (by simp [hd])⟩
theorem qx {l:List Dat}{d:Dat}(h:d ∈ l):dp d<=dps l:=by
 induction l with
 | nil=>cases h
 | cons a r ih=>
  rw [dps]
  rcases List.mem_cons.mp h with rfl | h
  ·exact Nat.le_max_left _ _
  ·exact Nat.le_trans (ih h) (Nat.le_max_right _ _)
theorem xg:∀ (l m:List Dat),l.length=m.length->kh l m=(List.range l.length).all fun j=>eqD (l.getD j .non) (m.getD j .non)
 | [],[],_=>rfl
 | a :: r,b :: r',h=>by
  rw [kh,xg r r' (by simpa using h),List.length_cons,List.range_succ_eq_map,List.all_cons,List.all_map];rfl
 | [],_ :: _,h=>by simp at h
 | _ :: _,[],h=>by simp at h
theorem kZ:∀ (l m:List Dat),l.length ≠ m.length->kh l m=false
 | [],[],h=>absurd rfl h
 | a :: r,b :: r',h=>by rw [kh,kZ r r' (fun z=>h (by simp [z])),Bool.and_false]
 | [],_ :: _,h=>by simp [kh]
 | _ :: _,[],h=>by simp [kh]
theorem W1 (l m:List Dat):eqD (.lst l) (.tup m)=false:=by simp [eqD]
theorem AQ (l m:List Dat):eqD (.tup l) (.lst m)=false:=by simp [eqD]
theorem BR {p:Dat->Prop}(h:∀ a,(∀ b,dp b<dp a->p b)->p a)(a:Dat):p a:=by
 have:∀ n a,dp a<=n->p a:=fun n=>by
  induction n with
  | zero=>intro a ha;exact h a fun b hb=>absurd hb (by omega)
  | succ n ih=>intro a ha;exact h a fun b hb=>ih b (by omega)
 exact this (dp a) a (Nat.le_refl _)
theorem wN {l:List Dat}(h:∀ d ∈ l,eqD d d=true):kh l l=true:=by
 induction l with
 | nil=>rfl
 | cons a r ih=>rw [kh,h a (by simp),ih fun d hd=>h d (by simp [hd])];rfl
theorem AM {a:Dat}:dp a<1000->eqD a a=true:=by
 refine BR (p:=fun a=>dp a<1000->eqD a a=true) (fun a ih ha=>?_) a
 cases a with
 | non=>rfl
 | bl b=>rw [eqD];simp
 | int i=>rw [eqD];simp
 | str x=>rw [eqD];simp
 | lst l=>
  rw [eqD]
  rw [dp] at ha ih
  exact wN fun d hd=>ih d (by have:=qx hd;omega) (by have:=qx hd;omega)
 | tup l=>
  rw [eqD]
  rw [dp] at ha ih
  exact wN fun d hd=>ih d (by have:=qx hd;omega) (by have:=qx hd;omega)
 | rng a b c=>rw [dp] at ha;omega
 | scr _ l=>rw [dp] at ha;omega
 | ty l=>rw [dp] at ha;omega
theorem Rep.fn {H:Hp}{O O':Own}{v:V}{a b:Dat}(r:Rep H O v a):Rep H O' v b->dp a<1000->dp b<1000->a=b:=by
 induction r generalizing b with
 | non=>intro r' _ _;cases r';rfl
 | bl=>intro r' _ _;cases r';rfl
 | int=>intro r' _ _;cases r';rfl
 | str=>intro r' _ _;cases r';rfl
 | ty=>intro r' h _;rw [dp] at h;omega
 | rng _ _=>intro r' h _;rw [dp] at h;omega
 | scr _ _=>intro r' h _;rw [dp] at h;omega
 | scrK _=>intro r' h _;rw [dp] at h;omega
 | @lst a xs l o1 h1 l1 r1 ih=>
  intro r' ha hb
  cases r' with
  | @lst _ ys m o2 h2 l2 r2=>
   rw [h1] at h2;cases h2
   congr 1
   refine List.ext_getElem (l1.symm.trans l2) fun i i1 i2=>?_
   have i0:i<xs.length:=by omega
   rw [dp] at ha hb
   refine ih i xs[i] l[i] (by simp [i0]) (by simp [i1]) (r2 i xs[i] m[i] (by simp [i0]) (by simp [i2])) ?_ ?_
   ·have:=qx (List.getElem_mem i1);omega
   ·have:=qx (List.getElem_mem i2);omega
  | @tup _ ys m o2 h2=>rw [h1] at h2;cases h2
  | rng o2 h2=>rw [dp] at hb;omega
  | scr o2 h2=>rw [dp] at hb;omega
  | scrK _=>rw [dp] at hb;omega
 | @tup a xs l o1 h1 l1 r1 ih=>
  intro r' ha hb
  cases r' with
  | @tup _ ys m o2 h2 l2 r2=>
   rw [h1] at h2;cases h2
   congr 1
   refine List.ext_getElem (l1.symm.trans l2) fun i i1 i2=>?_
   have i0:i<xs.length:=by omega
   rw [dp] at ha hb
   refine ih i xs[i] l[i] (by simp [i0]) (by simp [i1]) (r2 i xs[i] m[i] (by simp [i0]) (by simp [i2])) ?_ ?_
   ·have:=qx (List.getElem_mem i1);omega
   ·have:=qx (List.getElem_mem i2);omega
  | @lst _ ys m o2 h2=>rw [h1] at h2;cases h2
  | rng o2 h2=>rw [dp] at hb;omega
  | scr o2 h2=>rw [dp] at hb;omega
  | scrK _=>rw [dp] at hb;omega
section
variable {X:Cx}{pins:List (Addr × Obj)}{s:Shared}{σ:St}{H:Hp}
theorem kW {xs:List V}{us:List Value}(r:zG xs us){j:Nat}(h:j<us.toArray.size):∃ x,xs[j]?=some x/\zH x us.toArray[j]:=by
 have h':j<us.length:=by simpa using h
 have hx:j<xs.length:=by rw [r.length];exact h'
 obtain ⟨u,hu,ru⟩:=r.get (i:=j) (List.getElem?_eq_getElem hx)
 have e:us.toArray[j]=u:=by
  have:=(List.getElem?_eq_some_iff.mp hu).2
  simpa using this
 exact ⟨xs[j],List.getElem?_eq_getElem hx,by rw [e];exact ru⟩
theorem Y9 (I : Inv X pins σ H s){A : Around}{p q : Addr}{O O' : Own}{a b : Dat}(ih : ∀ (c d : Dat) (v u : V) (v' u' : Value), dp c < dp a -> Rep H O v c -> Rep H O' u d -> dp d < 1000 -> zH v v' -> zH u u' -> SeqAt.EqAt A.in1 s v' u' (eqD c d))
    (ra:Rep H O (.ref p) a) (rb:Rep H O' (.ref q) b) (ha:dp a<1000) (hb:dp b<1000) (hu:A.units<cLine):SeqAt.RcAt A s (.ref p) (.ref q) (eqD a b):=by
  cases ra with
  | @lst _ xs l o1 h1 l1 r1=>
    obtain ⟨us,u1,p1,z1⟩:=I.list (SqL.of h1)
    cases rb with
    | @lst _ ys m o2 h2 l2 r2=>
      obtain ⟨ws,u2,p2,z2⟩:=I.list (SqL.of h2)
      have s1:us.toArray.size=l.length:=by rw [List.size_toArray,<- u1.length,l1]
      have s2:ws.toArray.size=m.length:=by rw [List.size_toArray,<- u2.length,l2]
      by_cases e:l.length=m.length
      · have h := SeqAt.RcAt.lists (A := A) (e := fun j => eqD (l.getD j .non) (m.getD j .non)) p1.isList p2.isList (by rw [s1, s2, e]) hu (fun j j1 j2 => by
          obtain ⟨x,hx,rx⟩:=kW u1 j1
          obtain ⟨y,hy,ry⟩:=kW u2 j2
          have k1:j<l.length:=by rw [<- s1];exact j1
          have k2:j<m.length:=by rw [<- s2];exact j2
          rw [dp] at ha hb ih
          refine ih _ _ x y _ _ ?_ (r1 j x _ hx ?_) (r2 j y _ hy ?_) ?_ rx ry
          · rw [List.getD_eq_getElem?_getD,List.getElem?_eq_getElem k1]
            have:=qx (List.getElem_mem k1);show dp l[j]<_;omega
          · rw [List.getD_eq_getElem?_getD,List.getElem?_eq_getElem k1];rfl
          · rw [List.getD_eq_getElem?_getD,List.getElem?_eq_getElem k2];rfl
          · rw [List.getD_eq_getElem?_getD,List.getElem?_eq_getElem k2]
            have:=qx (List.getElem_mem k2);show dp m[j]<_;omega)
        rw [s1,<- xg l m e] at h
        rw [eqD];exact h
      · rw [eqD,kZ l m e]
        exact SeqAt.RcAt.lists_lengths p1.isList p2.isList (by rw [s1,s2];simpa using e) hu
    | @tup _ ys m o2 h2 l2 r2=>
      obtain ⟨ws,u2,p2,z2⟩:=I.tuple (SqT.of h2)
      rw [W1]
      exact SeqAt.RcAt.list_tuple p1.isList p2 hu
    | rng o2 h2=>rw [dp] at hb;omega
    | scr o2 h2=>rw [dp] at hb;omega
    | scrK _=>rw [dp] at hb;omega
  | @tup _ xs l o1 h1 l1 r1=>
    obtain ⟨us,u1,p1,z1⟩:=I.tuple (SqT.of h1)
    cases rb with
    | @tup _ ys m o2 h2 l2 r2=>
      obtain ⟨ws,u2,p2,z2⟩:=I.tuple (SqT.of h2)
      have s1:us.toArray.size=l.length:=by rw [List.size_toArray,<- u1.length,l1]
      have s2:ws.toArray.size=m.length:=by rw [List.size_toArray,<- u2.length,l2]
      have h := SeqAt.RcAt.tuples (A := A) (e := fun j => eqD (l.getD j .non) (m.getD j .non)) (show s.heap.IsTuple p us.toArray from p1) (show s.heap.IsTuple q ws.toArray from p2) hu (fun j j1 j2 => by
          obtain ⟨x,hx,rx⟩:=kW u1 j1
          obtain ⟨y,hy,ry⟩:=kW u2 j2
          have k1:j<l.length:=by rw [<- s1];exact j1
          have k2:j<m.length:=by rw [<- s2];exact j2
          rw [dp] at ha hb ih
          refine ih _ _ x y _ _ ?_ (r1 j x _ hx ?_) (r2 j y _ hy ?_) ?_ rx ry
          · rw [List.getD_eq_getElem?_getD,List.getElem?_eq_getElem k1]
            have:=qx (List.getElem_mem k1);show dp l[j]<_;omega
          · rw [List.getD_eq_getElem?_getD,List.getElem?_eq_getElem k1];rfl
          · rw [List.getD_eq_getElem?_getD,List.getElem?_eq_getElem k2];rfl
          · rw [List.getD_eq_getElem?_getD,List.getElem?_eq_getElem k2]
            have:=qx (List.getElem_mem k2);show dp m[j]<_;omega)
      rw [s1,s2] at h
      rw [eqD]
      by_cases e:l.length=m.length
      · rw [<- e,Nat.min_self,beq_self_eq_true,Bool.and_true,<- xg l m e] at h
        exact h
      · rw [kZ l m e]
        rw [show (l.length == m.length)=false by simpa using e,Bool.and_false] at h
        exact h
    | @lst _ ys m o2 h2 l2 r2=>
      obtain ⟨ws,u2,p2,z2⟩:=I.list (SqL.of h2)
      rw [AQ]
      exact SeqAt.RcAt.tuple_list p1 p2.isList hu
    | rng o2 h2=>rw [dp] at hb;omega
    | scr o2 h2=>rw [dp] at hb;omega
    | scrK _=>rw [dp] at hb;omega
  | rng o2 h2=>rw [dp] at ha;omega
  | scr o2 h2=>rw [dp] at ha;omega
  | scrK _=>rw [dp] at ha;omega
theorem Lk (I:Inv X pins σ H s){a:Addr}{xs:List V}(h:H a=some (.lst xs)):∃ us,s.heap.IsList a us:=let ⟨_,_,p,_⟩:=I.list (SqL.of h);⟨_,p.isList⟩
theorem Ly (I:Inv X pins σ H s){a:Addr}{xs:List V}(h:H a=some (.tup xs)):∃ us,s.heap.IsTuple a us:=let ⟨_,_,p,_⟩:=I.tuple (SqT.of h);⟨_,p⟩
local macro_rules | `(tactic| walk_at "sc")=>`(tactic| first
 | with_reducible exact .same _ | with_reducible exact .none_none | with_reducible exact .none_bool _ | with_reducible exact .none_int _ _ | with_reducible exact .none_str _ _ | with_reducible exact .bool_none _ | with_reducible exact .bool_bool _ _ | with_reducible exact .bool_int _ _ _ | with_reducible exact .bool_str _ _ _ | with_reducible exact .int_none _ _ | with_reducible exact .int_bool _ _ _ | with_reducible exact .int_int _ _ _ _ | with_reducible exact .int_str _ _ _ _ | with_reducible exact .str_none _ _ | with_reducible exact .str_bool _ _ _ | with_reducible exact .str_int _ _ _ _ | with_reducible exact .str_str _ _ _ _)
theorem ls_ (I:Inv X pins σ H s){a:Addr}{xs:List V}(h:H a=some (.lst xs)):s.heap.IsList a (Classical.choose (Lk I h)):=Classical.choose_spec _
theorem ts_ (I:Inv X pins σ H s){a:Addr}{xs:List V}(h:H a=some (.tup xs)):s.heap.IsTuple a (Classical.choose (Ly I h)):=Classical.choose_spec _
local macro_rules | `(tactic| walk_at "sq")=>`(tactic| first
 | with_reducible exact .none_list (ls_ (by assumption) (by assumption)) (by assumption) | with_reducible exact .bool_list _ (ls_ (by assumption) (by assumption)) (by assumption) | with_reducible exact .int_list _ _ (ls_ (by assumption) (by assumption)) (by assumption) | with_reducible exact .str_list _ _ (ls_ (by assumption) (by assumption)) (by assumption) | with_reducible exact .list_none (ls_ (by assumption) (by assumption)) (by assumption) | with_reducible exact .list_bool _ (ls_ (by assumption) (by assumption)) (by assumption) | with_reducible exact .list_int _ _ (ls_ (by assumption) (by assumption)) (by assumption) | with_reducible exact .list_str _ _ (ls_ (by assumption) (by assumption)) (by assumption)
 | with_reducible exact .none_tuple (ts_ (by assumption) (by assumption)) (by assumption) | with_reducible exact .bool_tuple _ (ts_ (by assumption) (by assumption)) (by assumption) | with_reducible exact .int_tuple _ _ (ts_ (by assumption) (by assumption)) (by assumption) | with_reducible exact .str_tuple _ _ (ts_ (by assumption) (by assumption)) (by assumption) | with_reducible exact .tuple_none (ts_ (by assumption) (by assumption)) (by assumption) | with_reducible exact .tuple_bool _ (ts_ (by assumption) (by assumption)) (by assumption) | with_reducible exact .tuple_int _ _ (ts_ (by assumption) (by assumption)) (by assumption) | with_reducible exact .tuple_str _ _ (ts_ (by assumption) (by assumption)) (by assumption))
theorem K0 (I : Inv X pins σ H s){O O' : Own}(A : Around)(hu : A.units < cLine)(a b : Dat)(v u : V)(v' u' : Value)(ha : dp a < 1000)(ra : Rep H O v a)(rb : Rep H O' u b)(hb : dp b < 1000)(rv : zH v v')(ru : zH u u')
    (ih:∀ (c d:Dat) (v u:V) (v' u':Value),dp c<dp a->Rep H O v c->Rep H O' u d->dp d<1000->zH v v'->zH u u'->SeqAt.EqAt A.in1 s v' u' (eqD c d)):SeqAt.EqAt A s v' u' (eqD a b):=by
  by_cases hr:∃ p q,v=.ref p/\u=.ref q
  · obtain ⟨p,q,rfl,rfl⟩:=hr
    cases rv
    cases ru
    by_cases e:p=q
    · subst e
      rw [<- ra.fn rb ha hb,AM ha]
      exact .same _
    · exact .of_refs e (Y9 I ih ra rb ha hb hu)
  · cases ra <;> cases rb <;> first
      | with_reducible exact absurd ⟨_,_,rfl,rfl⟩ hr
      | (rw [dp] at ha;omega)
      | (rw [dp] at hb;omega)
      | ((first | (obtain ⟨t0,rfl⟩:=rv) | cases rv);(first | (obtain ⟨t1,rfl⟩:=ru) | cases ru);simp only [eqD,Bool.not_false,Bool.not_true];first | walk_at "sc" | walk_at "sq")
theorem Bg (I:Inv X pins σ H s){O O':Own}:∀ (n:Nat) (A:Around),A.units+n<cLine->∀ (a b:Dat) (v u:V) (v' u':Value),dp a<=n->n<1000->Rep H O v a->Rep H O' u b->dp b<1000->zH v v'->zH u u'->SeqAt.EqAt A s v' u' (eqD a b):=by
 intro n
 induction n with
 | zero=>
  intro A hu a b v u v' u' ha _ ra rb hb rv ru
  exact K0 I A (by omega) a b v u v' u' (by omega) ra rb hb rv ru fun _ _ _ _ _ _ h=>absurd h (by omega)
 | succ n ih=>
  intro A hu a b v u v' u' ha hn ra rb hb rv ru
  exact K0 I A (by omega) a b v u v' u' (by omega) ra rb hb rv ru fun c d x y x' y' hc rc rd hd rx ry=>ih A.in1 (by show A.units+1+n<_;omega) c d x y x' y' (by omega) (by omega) rc rd hd rx ry
noncomputable def HA (f:Bool->Bool):R2:=fun x y H Q=>∃ O O' a b,Rep H O x a/\Rep H O' y b/\dp a<=40/\dp b<=40/\Q (.bl (f (eqD a b))) H
theorem Hj (I:Inv X pins σ H s){O O':Own}(A:Around)(hu:A.units+41<cLine)(a b:Dat)(v u:V)(v' u':Value)(ha:dp a<=40)(ra:Rep H O v a)(rb:Rep H O' u b)(hb:dp b<=40)(rv:zH v v')(ru:zH u u'):SeqAt.RcAt A s v' u' (eqD a b):=by
  have ih:∀ (c d:Dat) (v u:V) (v' u':Value),dp c<dp a->Rep H O v c->Rep H O' u d->dp d<1000->zH v v'->zH u u'->SeqAt.EqAt A.in1 s v' u' (eqD c d):=fun c d v u v' u' hc rc rd hd rv ru=>Bg I 40 A.in1 (by show A.units+1+40<_;omega) c d v u v' u' (by omega) (by omega) rc rd hd rv ru
  replace hu:A.units<cLine:=by omega
  by_cases hr:∃ p q,v=.ref p/\u=.ref q
  · obtain ⟨p,q,rfl,rfl⟩:=hr
    cases rv
    cases ru
    exact Y9 I ih ra rb (by omega) (by omega) hu
  · cases ra <;> cases rb <;> first
      | with_reducible exact absurd ⟨_,_,rfl,rfl⟩ hr
      | (rw [dp] at ha;omega)
      | (rw [dp] at hb;omega)
      | ((first | (obtain ⟨t0,rfl⟩:=rv) | cases rv);(first | (obtain ⟨t1,rfl⟩:=ru) | cases ru);simp only [eqD,Bool.not_false,Bool.not_true];first | walk_at "sc" | walk_at "sq")
theorem W7 (I : Inv X pins σ H s){A : Around}{p q : Addr}{O O' : Own}{a b : Dat}(ih : ∀ (c d : Dat) (v u : V) (v' u' : Value), dp c < dp a -> Rep H O v c -> Rep H O' u d -> dp d < 1000 -> zH v v' -> zH u u' -> SeqAt.EqAt A.in1 s v' u' (eqD c d))
    (ra:Rep H O (.ref p) a) (rb:Rep H O' (.ref q) b) (ha:dp a<1000) (hb:dp b<1000) (hu:A.units<cLine):SeqAt.RcNeAt A s (.ref p) (.ref q) (!(eqD a b)):=by
  cases ra with
  | @lst _ xs l o1 h1 l1 r1=>
    obtain ⟨us,u1,p1,z1⟩:=I.list (SqL.of h1)
    cases rb with
    | @lst _ ys m o2 h2 l2 r2=>
      obtain ⟨ws,u2,p2,z2⟩:=I.list (SqL.of h2)
      have s1:us.toArray.size=l.length:=by rw [List.size_toArray,<- u1.length,l1]
      have s2:ws.toArray.size=m.length:=by rw [List.size_toArray,<- u2.length,l2]
      by_cases e:l.length=m.length
      · have h := SeqAt.RcNeAt.lists (A := A) (e := fun j => eqD (l.getD j .non) (m.getD j .non)) p1.isList p2.isList (by rw [s1, s2, e]) hu (fun j j1 j2 => by
          obtain ⟨x,hx,rx⟩:=kW u1 j1
          obtain ⟨y,hy,ry⟩:=kW u2 j2
          have k1:j<l.length:=by rw [<- s1];exact j1
          have k2:j<m.length:=by rw [<- s2];exact j2
          rw [dp] at ha hb ih
          refine ih _ _ x y _ _ ?_ (r1 j x _ hx ?_) (r2 j y _ hy ?_) ?_ rx ry
          · rw [List.getD_eq_getElem?_getD,List.getElem?_eq_getElem k1]
            have:=qx (List.getElem_mem k1);show dp l[j]<_;omega
          · rw [List.getD_eq_getElem?_getD,List.getElem?_eq_getElem k1];rfl
          · rw [List.getD_eq_getElem?_getD,List.getElem?_eq_getElem k2];rfl
          · rw [List.getD_eq_getElem?_getD,List.getElem?_eq_getElem k2]
            have:=qx (List.getElem_mem k2);show dp m[j]<_;omega)
        rw [s1,<- xg l m e] at h
        rw [eqD];exact h
      · rw [eqD,kZ l m e]
        exact SeqAt.RcNeAt.lists_lengths p1.isList p2.isList (by rw [s1,s2];simpa using e) hu
    | @tup _ ys m o2 h2 l2 r2=>
      obtain ⟨ws,u2,p2,z2⟩:=I.tuple (SqT.of h2)
      rw [W1]
      exact SeqAt.RcNeAt.list_tuple p1.isList p2 hu
    | rng o2 h2=>rw [dp] at hb;omega
    | scr o2 h2=>rw [dp] at hb;omega
    | scrK _=>rw [dp] at hb;omega
  | @tup _ xs l o1 h1 l1 r1=>
    obtain ⟨us,u1,p1,z1⟩:=I.tuple (SqT.of h1)
    cases rb with
    | @tup _ ys m o2 h2 l2 r2=>
      obtain ⟨ws,u2,p2,z2⟩:=I.tuple (SqT.of h2)
      have s1:us.toArray.size=l.length:=by rw [List.size_toArray,<- u1.length,l1]
      have s2:ws.toArray.size=m.length:=by rw [List.size_toArray,<- u2.length,l2]
      have h := SeqAt.RcNeAt.tuples (A := A) (e := fun j => eqD (l.getD j .non) (m.getD j .non)) (show s.heap.IsTuple p us.toArray from p1) (show s.heap.IsTuple q ws.toArray from p2) hu (fun j j1 j2 => by
          obtain ⟨x,hx,rx⟩:=kW u1 j1
          obtain ⟨y,hy,ry⟩:=kW u2 j2
          have k1:j<l.length:=by rw [<- s1];exact j1
          have k2:j<m.length:=by rw [<- s2];exact j2
          rw [dp] at ha hb ih
          refine ih _ _ x y _ _ ?_ (r1 j x _ hx ?_) (r2 j y _ hy ?_) ?_ rx ry
          · rw [List.getD_eq_getElem?_getD,List.getElem?_eq_getElem k1]
            have:=qx (List.getElem_mem k1);show dp l[j]<_;omega
          · rw [List.getD_eq_getElem?_getD,List.getElem?_eq_getElem k1];rfl
          · rw [List.getD_eq_getElem?_getD,List.getElem?_eq_getElem k2];rfl
          · rw [List.getD_eq_getElem?_getD,List.getElem?_eq_getElem k2]
            have:=qx (List.getElem_mem k2);show dp m[j]<_;omega)
      rw [s1,s2] at h
      rw [eqD]
      by_cases e:l.length=m.length
      · rw [<- e,Nat.min_self,beq_self_eq_true,Bool.and_true,<- xg l m e] at h
        exact h
      · rw [kZ l m e]
        rw [show (l.length == m.length)=false by simpa using e,Bool.and_false] at h
        exact h
    | @lst _ ys m o2 h2 l2 r2=>
      obtain ⟨ws,u2,p2,z2⟩:=I.list (SqL.of h2)
      rw [AQ]
      exact SeqAt.RcNeAt.tuple_list p1 p2.isList hu
    | rng o2 h2=>rw [dp] at hb;omega
    | scr o2 h2=>rw [dp] at hb;omega
    | scrK _=>rw [dp] at hb;omega
  | rng o2 h2=>rw [dp] at ha;omega
  | scr o2 h2=>rw [dp] at ha;omega
  | scrK _=>rw [dp] at ha;omega
theorem Bm (I:Inv X pins σ H s){O O':Own}(A:Around)(hu:A.units+41<cLine)(a b:Dat)(v u:V)(v' u':Value)(ha:dp a<=40)(ra:Rep H O v a)(rb:Rep H O' u b)(hb:dp b<=40)(rv:zH v v')(ru:zH u u'):SeqAt.RcNeAt A s v' u' (!(eqD a b)):=by
  have ih:∀ (c d:Dat) (v u:V) (v' u':Value),dp c<dp a->Rep H O v c->Rep H O' u d->dp d<1000->zH v v'->zH u u'->SeqAt.EqAt A.in1 s v' u' (eqD c d):=fun c d v u v' u' hc rc rd hd rv ru=>Bg I 40 A.in1 (by show A.units+1+40<_;omega) c d v u v' u' (by omega) (by omega) rc rd hd rv ru
  replace hu:A.units<cLine:=by omega
  by_cases hr:∃ p q,v=.ref p/\u=.ref q
  · obtain ⟨p,q,rfl,rfl⟩:=hr
    cases rv
    cases ru
    exact W7 I ih ra rb (by omega) (by omega) hu
  · cases ra <;> cases rb <;> first
      | with_reducible exact absurd ⟨_,_,rfl,rfl⟩ hr
      | (rw [dp] at ha;omega)
      | (rw [dp] at hb;omega)
      | ((first | (obtain ⟨t0,rfl⟩:=rv) | cases rv);(first | (obtain ⟨t1,rfl⟩:=ru) | cases ru);simp only [eqD,Bool.not_false,Bool.not_true];first | walk_at "sc" | walk_at "sq")
theorem zX (hu:X.A.units+64<cLine):OpR X (compareOp .Eq) (HA id):=by
 intro pins s σ H x y v u Q I rx ry h
 obtain ⟨O,O',a,b,ra,rb,ha,hb,k⟩:=h
 exact Hj I X.A (by omega) a b x y v u ha ra rb hb rx ry _ _ _ _ ⟨.bl _,H,I,rfl,k⟩
theorem j8 (hu:X.A.units+64<cLine):OpR X (compareOp .NotEq) (HA not):=by
 intro pins s σ H x y v u Q I rx ry h
 obtain ⟨O,O',a,b,ra,rb,ha,hb,k⟩:=h
 exact Bm I X.A (by omega) a b x y v u ha ra rb hb rx ry _ _ _ _ ⟨.bl _,H,I,rfl,k⟩
end
noncomputable def yf (x:AV)(M:MH):Option Dat:=match x with
 | .d x=>some x
 | .ref a=>match M a with
  | some (.lst l)=>(pur l).map .lst
  | _=>none
theorem Hv (x:Dat)(M:MH):yf (.d x) M=some x:=rfl
theorem v8 {H:Hp}{O:Own}{M:MH}{v:V}{x:AV}{d:Dat}(w:Wf H O M)(r:zw H O M v x)(h:yf x M=some d):∃ O',Rep H O' v d:=by
 cases x with
 | d x=>cases h;exact ⟨O,r⟩
 | ref a=>
  unfold yf at h
  dsimp only at h
  cases e:M a with
  | none=>rw [e] at h;cases h
  | some o=>
   rw [e] at h
   cases o with
   | lst l=>
    dsimp only at h
    cases ep:pur l with
    | none=>rw [ep] at h;cases h
    | some ds=>
     rw [ep] at h
     cases h
     obtain ⟨xs,hx,rx⟩:=w.mo a _ e
     rw [j5 ep] at rx
     have rp:=rx.pure
     refine ⟨ZW O a,?_⟩
     rw [r.1]
     exact Rep.lst (fun z=>z.1 rfl) hx rp.1 fun i x d e1 e2=>(rp.2 i x d e1 e2).imp (xA a)
   | _=>cases h
noncomputable def wq (f:Bool->Bool):AR2:=fun x y M Q=>∃ a b,yf x M=some a/\yf y M=some b/\dp a<=40/\dp b<=40/\Q (.d (.bl (f (eqD a b)))) M
theorem Dz {f:Bool->Bool}:yo (HA f) (wq f):=⟨fun w r1 r2 ⟨a,b,e1,e2,h1,h2,q⟩ k=>by
 obtain ⟨O1,p1⟩:=v8 w r1 e1
 obtain ⟨O2,p2⟩:=v8 w r2 e2
 exact ⟨O1,O2,a,b,p1,p2,h1,h2,k _ _ _ _ _ q .refl w .bl⟩⟩
theorem qV (i:Int):dp (.int i)=0:=by simp [dp]
theorem Zf:∀ (ns ms:List Int),kh (ns.map .int) (ms.map .int)=decide (ns=ms)
 | [],[]=>by simp [kh]
 | [],_ :: _=>by simp [kh]
 | _ :: _,[]=>by simp [kh]
 | a :: r,b :: r'=>by
  rw [List.map_cons,List.map_cons,kh,Zf r r',show eqD (.int a) (.int b)=(a == b) by simp [eqD]]
  by_cases h:a=b <;> simp [h]
theorem Qf (ns ms:List Int):eqD (.lst (ns.map .int)) (.lst (ms.map .int))=decide (ns=ms):=by rw [eqD,Zf]
theorem jI {H:Hp}{O:Own}{M:MH}{vs:List V}{x:AV}(r:zj H O M vs [x]):∃ v,vs=[v]/\zw H O M v x:=by
 obtain ⟨v1,r',rfl,a1,r2⟩:=r.cons_inv
 rw [r2.nil_inv];exact ⟨v1,rfl,a1⟩
theorem xQ {H:Hp}{O:Own}{M:MH}{vs:List V}{x y:AV}(r:zj H O M vs [x,y]):∃ v u,vs=[v,u]/\zw H O M v x/\zw H O M u y:=by
 obtain ⟨v1,r',rfl,a1,r2⟩:=r.cons_inv
 obtain ⟨v2,rfl,a2⟩:=jI r2
 exact ⟨v1,v2,rfl,a1,a2⟩
noncomputable def QD:List AV->MH->AK->Prop:=fun xs M Q=>∃ x l,xs=[x]/\qw x M=some l/\Q (.d (.int (l.length:Nat))) M
theorem Ei {K:PySem.W.Frag}:wr (fun xs H Q=>∃ p ys,xs=[V.ref p]/\(SqL K H p ys \/ SqT K H p ys)/\Q (V.int ys.length) H) QD:=⟨fun w r ⟨x,l,e,h,q⟩ k=>by
 subst e
 obtain ⟨v,rfl,rv⟩:=jI r
 obtain ⟨a,xs,rfl,h1,r1⟩:=ZY w rv h
 exact ⟨a,xs,rfl,h1.elim (fun h=>.inl (SqL.of h)) (fun h=>.inr (SqT.of h)),by rw [r1.1];exact k _ _ _ _ _ q .refl w .int⟩⟩
noncomputable def bI2 (f:Int->Int->Int):List AV->MH->AK->Prop:=fun xs M Q=>∃ i j,xs=[.d (.int i),.d (.int j)]/\Q (.d (.int (f i j))) M
theorem GF {f:Int->Int->Int}:wr (fun xs H Q=>∃ i j,xs=[V.int i,V.int j]/\Q (V.int (f i j)) H) (bI2 f):=⟨fun w r ⟨i,j,e,q⟩ k=>by
 subst e
 obtain ⟨v,u,rfl,rv,ru⟩:=xQ r
 exact ⟨i,j,by rw [zT rv,zT ru],k _ _ _ _ _ q .refl w .int⟩⟩
noncomputable def FL:List AV->MH->AK->Prop:=fun xs M Q=>∃ c,xs=[.d (.bl c)]/\Q (.d (.int (if c=true then 1 else 0))) M
theorem Aq:wr (fun xs H Q=>∃ k,xs=[V.bl k]/\Q (V.int (if k=true then 1 else 0)) H) FL:=⟨fun w r ⟨c,e,q⟩ k=>by
 subst e
 obtain ⟨v,rfl,rv⟩:=jI r
 exact ⟨c,by rw [kz rv],k _ _ _ _ _ q .refl w .int⟩⟩
noncomputable def Vh:List AV->MH->AK->Prop:=fun xs M Q=>∃ x l ds,xs=[x]/\qw x M=some l/\pur l=some ds/\Q (.d (.tup ds)) M
theorem YI {K:PySem.W.Frag}:wr (fun xs H Q=>∃ p ys,xs=[V.ref p]/\((SqL K H p ys/\∀ l,H l=none->Q (V.ref l) (upd H l (HO.tup ys))) \/ SqT K H p ys/\Q (V.ref p) H)) Vh:=⟨fun w r ⟨x,l,ds,e,h,hp,q⟩ k=>by
 subst e
 obtain ⟨v,rfl,rv⟩:=jI r
 rw [j5 hp] at h
 rcases kf h with h' | ⟨m,rfl,e2⟩
 ·obtain ⟨a,xs,rfl,h1,r1⟩:=qQ w rv h'
  exact ⟨a,xs,rfl,.inl ⟨SqL.of h1,fun p hp=>k _ _ _ _ _ q (qC w hp _) (kN w hp _) (ZA w hp r1)⟩⟩
 ·obtain rfl:ds=m:=by have:=congrArg pur e2;rw [zV,zV] at this;cases this;rfl
  obtain ⟨a,xs,rfl,h1,r1⟩:=kK (l:=ds.map .d) rv rfl
  exact ⟨a,xs,rfl,.inr ⟨SqT.of h1,k _ _ _ _ _ q .refl w rv⟩⟩⟩
structure BE (r:List V->Hp->VK->Prop)(a:List AV->MH->(List AV->Prop)->Prop):Prop where
 go:∀ {vs:List V} {xs:List AV} {H:Hp} {O:Own} {M:MH} {Q:VK} {Q':List AV->Prop},Wf H O M->zj H O M vs xs->a xs M Q'->(∀ l ys,Q' l->zj H O M ys l->∀ p,H p=none->Q (.ref p) (upd H p (.lst ys)))->r vs H Q
noncomputable def fCB (r:List AV->MH->(List AV->Prop)->Prop)(b:AA):AF:=fun ρ M Q=>b ρ M fun xs M1=>r xs M1 fun l=>Q l M1
theorem Z7 {r:List V->Hp->VK->Prop}{ra:List AV->MH->(List AV->Prop)->Prop}{u:TA}{b:AA}(hr:BE r ra)(h:jv u b):QX (tCB r u) (fCB ra b):=
 ⟨fun w e q k=>h.go w e q fun x M1 v H1 O1 q1 k1 w1 r1=>hr.go w1 r1 q1 fun l ys q3 r3 p hp=>
  k l M1 p ys _ _ q3 (k1.trans (qK w1 hp _)) (kQ w1 hp _ (fun _ z=>nomatch z)) (.inl rfl) (w1.fresh hp).2 (ya w1 k1 hp) zk (r3.ext (qK w1 hp _))⟩
noncomputable def VN:List AV->MH->(List AV->Prop)->Prop:=fun xs M Q=>∃ x l,xs=[x]/\qw x M=some l/\Q l
theorem wO {K:PySem.W.Frag}:BE (fun xs H Q=>∃ p ys,xs=[V.ref p]/\(SqL K H p ys \/ SqT K H p ys)/\∀ l,H l=none->Q (V.ref l) (upd H l (HO.lst ys))) VN:=⟨fun w r ⟨x,l,e,h,q⟩ k=>by
 subst e
 obtain ⟨v,rfl,rv⟩:=jI r
 obtain ⟨a,xs,rfl,h1,r1⟩:=ZY w rv h
 exact ⟨a,xs,rfl,h1.elim (fun h=>.inl (SqL.of h)) (fun h=>.inr (SqT.of h)),k _ _ q r1⟩⟩
theorem yd {H:Hp}{O:Own}{M:MH}:∀ {ns:List Int} {xs:List V},zj H O M xs (ns.map fun i=>AV.d (.int i))->xs=ns.map V.int
 | [],xs,r=>r.nil_inv
 | i :: ns,xs,r=>by
  obtain ⟨v,r',rfl,a1,r2⟩:=r.cons_inv
  rw [zT a1,yd r2];rfl
noncomputable def tyA (x:AV)(M:MH):Option String:=match x with
 | .d .non=>some "NoneType"
 | .d (.bl _)=>some "bool"
 | .d (.int _)=>some "int"
 | .d (.str _)=>some "str"
 | .d (.lst _)=>some "list"
 | .d (.tup _)=>some "tuple"
 | .ref a=>match M a with
  | some (.lst _)=>some "list"
  | some (.dK _)=>some "dict"
  | _=>none
 | _=>none
theorem Bi {K:PySem.W.Frag}{H:Hp}{O:Own}{M:MH}{v:V}{x:AV}{t:String}(w:Wf H O M)(r:zw H O M v x)(h:tyA x M=some t):kY K H v (.type t):=by
 cases x with
 | d x=>
  cases (show Rep H O v x from r) with
  | non=>cases h;exact .non
  | bl=>cases h;exact .bl _
  | int=>cases h;exact .int _
  | str=>cases h;exact .str _
  | lst o e=>cases h;exact .lst e
  | tup o e=>cases h;exact .tup e
  | ty=>cases h
  | rng _ _=>cases h
  | scr _ _=>cases h
  | scrK _=>cases h
 | ref a=>
  unfold tyA at h
  dsimp only at h
  rw [r.1]
  cases e:M a with
  | none=>rw [e] at h;cases h
  | some o=>
   rw [e] at h
   have:=w.mo a o e
   cases o with
   | lst l=>cases h;obtain ⟨xs,hx,_⟩:=this;exact .lst hx
   | dK l=>cases h;obtain ⟨xs,hx,_⟩:=this;exact .dK hx
   | ins C fs=>cases h
   | exc C fs=>cases h
noncomputable def ZD:List AV->MH->AK->Prop:=fun xs M Q=>∃ x t c b,xs=[x,.d (.ty c)]/\tyA x M=some t/\isT t c=some b/\Q (.d (.bl b)) M
theorem DE {K:PySem.W.Frag}:wr (fun xs H Q=>∃ x t c b,xs=[x,V.ty c]/\kY K H x (Value.type t)/\isT t c=some b/\Q (V.bl b) H) ZD:=⟨fun w r ⟨x,t,c,b,e,h,hb,q⟩ k=>by
 subst e
 obtain ⟨v,u,rfl,rv,ru⟩:=xQ r
 exact ⟨v,t,c,b,by rw [Vt ru],Bi w rv h,hb,k _ _ _ _ _ q .refl w .bl⟩⟩
theorem XR {H:Hp}{O:Own}{M:MH}:∀ {ns:List String} {xs:List V},zj H O M xs ((ns.map Dat.ty).map .d)->xs=ns.map V.ty
 | [],xs,r=>r.nil_inv
 | i :: ns,xs,r=>by
  obtain ⟨v,r',rfl,a1,r2⟩:=r.cons_inv
  rw [Vt a1,XR r2];rfl
noncomputable def QP:List Dat->Option (List String)
 | []=>some []
 | .ty n :: r=>(QP r).map (n :: ·)
 | _=>none
theorem KG:∀ {l:List Dat} {cs:List String},QP l=some cs->l=cs.map Dat.ty
 | [],cs,h=>by cases h;rfl
 | .ty n :: r,cs,h=>by
  unfold QP at h
  cases e:QP r with
  | none=>rw [e] at h;cases h
  | some m=>rw [e] at h;cases h;rw [KG e];rfl
 | .non :: _,_,h=>by cases h
 | .bl _ :: _,_,h=>by cases h
 | .int _ :: _,_,h=>by cases h
 | .str _ :: _,_,h=>by cases h
 | .lst _ :: _,_,h=>by cases h
 | .tup _ :: _,_,h=>by cases h
 | .rng _ _ _ :: _,_,h=>by cases h
 | .scr _ _ :: _,_,h=>by cases h
noncomputable def Fd:List AV->MH->AK->Prop:=fun xs M Q=>∃ x t l cs b,xs=[x,.d (.tup l)]/\QP l=some cs/\tyA x M=some t/\vL t cs=some b/\Q (.d (.bl b)) M
theorem Wc {K:PySem.W.Frag}:wr (fun xs H Q=>∃ x t p cs b,xs=[x,V.ref p]/\H p=some (HO.tup (List.map V.ty cs))/\kY K H x (Value.type t)/\vL t cs=some b/\Q (V.bl b) H) Fd:=⟨fun w r ⟨x,t,l,cs,b,e,hc,h,hb,q⟩ k=>by
 subst e
 obtain ⟨v,u,rfl,rv,ru⟩:=xQ r
 rw [KG hc] at ru
 obtain ⟨a,xs,rfl,h1,r1⟩:=kK (l:=(cs.map Dat.ty).map .d) ru rfl
 rw [XR r1] at h1
 exact ⟨v,t,a,cs,b,rfl,h1,Bi w rv h,hb,k _ _ _ _ _ q .refl w .bl⟩⟩
theorem KL {H:Hp}{O:Own}{M:MH}:∀ {ns:List Bool} {xs:List V},zj H O M xs (ns.map fun i=>AV.d (.bl i))->xs=ns.map V.bl
 | [],xs,r=>r.nil_inv
 | i :: ns,xs,r=>by
  obtain ⟨v,r',rfl,a1,r2⟩:=r.cons_inv
  rw [kz a1,KL r2];rfl
noncomputable def IA (f:List Bool->Bool):List AV->MH->AK->Prop:=fun xs M Q=>∃ x bs,xs=[x]/\je x M=some (List.map (fun b=>AV.d (.bl b)) bs)/\Q (.d (.bl (f bs))) M
theorem Ef {K:PySem.W.Frag}{f:List Bool->Bool}:wr (fun xs H Q=>∃ p bs,xs=[V.ref p]/\SqL K H p (List.map V.bl bs)/\Q (V.bl (f bs)) H) (IA f):=⟨fun w r ⟨x,bs,e,h,q⟩ k=>by
 subst e
 obtain ⟨v,rfl,rv⟩:=jI r
 obtain ⟨a,xs,rfl,h1,r1⟩:=qQ w rv h
 rw [KL r1] at h1
 exact ⟨a,bs,rfl,SqL.of h1,k _ _ _ _ _ q .refl w .bl⟩⟩
noncomputable def Fz:List AV->MH->AK->Prop:=fun xs M Q=>∃ b,xs=[.d (.int b)]/\Q (.d (.rng 0 b 1)) M
theorem Vn:wr (fun xs H Q=>∃ b,xs=[V.int b]/\∀ (p:Addr),H p=none->Q (V.ref p) (upd H p (Qj p 0 b 1))) Fz:=⟨fun w r ⟨b,e,q⟩ k=>by
 subst e
 obtain ⟨v,rfl,rv⟩:=jI r
 exact ⟨b,by rw [zT rv],fun p hp=>k _ _ _ _ _ q (qC w hp _) (kN w hp _) (Rep.rng (w.fresh hp).1 zk)⟩⟩
noncomputable def VL:List AV->MH->(List AV->Prop)->Prop:=fun xs M Q=>∃ a b c n,xs=[.d (.rng a b c)]/\Builtin.Range.small a b c=true/\Builtin.Range.rangeSize a b c=((n:Nat):Int)/\n<=100000/\Q ((qa a c n).map fun i=>AV.d (.int i))
theorem wG:BE (fun xs H Q=>∃ p a b c n,xs=[.ref p]/\H p=some (Qj p a b c)/\Builtin.Range.small a b c=true/\Builtin.Range.rangeSize a b c=((n:Nat):Int)/\n<=100000/\∀ l,H l=none->Q (.ref l) (upd H l (.lst ((qa a c n).map V.int)))) VL:=⟨fun {vs xs H O M Q Q'} w r ⟨a,b,c,n,e,h1,h2,h3,q⟩ k=>by
 subst e
 obtain ⟨v,rfl,rv⟩:=jI r
 cases (show Rep H O v (.rng a b c) from rv) with
 | rng o h=>exact ⟨_,a,b,c,n,rfl,h,h1,h2,h3,k _ _ q (Jd _)⟩⟩
noncomputable def flD:Dat->Option V
 | .non=>some .non
 | .bl b=>some (.bl b)
 | .int i=>some (.int i)
 | .str s=>some (.str s)
 | _=>none
noncomputable def Qt:List AV->Option (List V)
 | []=>some []
 | .d x :: r=>match flD x,Qt r with
  | some v,some l=>some (v :: l)
  | _,_=>none
 | _=>none
theorem J1 {H:Hp}{O:Own}{v x:V}{d:Dat}(r:Rep H O v d)(h:flD d=some x):v=x/\kF v=true:=by
 cases r <;> cases h <;> exact ⟨rfl,rfl⟩
theorem Zz {H:Hp}{O:Own}{M:MH}:∀ {l:List AV} {xs vs:List V},zj H O M xs l->Qt l=some vs->xs=vs/\xs.all kF=true
 | [],xs,vs,r,h=>by cases h;rw [r.nil_inv];exact ⟨rfl,rfl⟩
 | .d d :: l,xs,vs,r,h=>by
  obtain ⟨v,r',rfl,a1,r2⟩:=r.cons_inv
  unfold Qt at h
  cases e1:flD d with
  | none=>rw [e1] at h;cases h
  | some z=>
   cases e2:Qt l with
   | none=>rw [e1,e2] at h;cases h
   | some zs=>
    rw [e1,e2] at h
    cases h
    obtain ⟨h1,h2⟩:=J1 a1 e1
    obtain ⟨h3,h4⟩:=Zz r2 e2
    subst h1 h3
    exact ⟨rfl,by rw [List.all_cons,h2,h4];rfl⟩
 | .ref a :: l,xs,vs,r,h=>by cases h
noncomputable def aIn (neg:Bool):AR2:=fun x y M Q=>∃ d v l vs,x=.d d/\flD d=some v/\qw y M=some l/\Qt l=some vs/\Q (.d (.bl (if neg then !inV v vs else inV v vs))) M
theorem GC {K:PySem.W.Frag}{neg:Bool}:yo (rIn K neg) (aIn neg):=⟨fun w r1 r2 ⟨d,v,l,vs,e,hv,hl,hs,q⟩ k=>by
 subst e
 obtain ⟨a,xs,rfl,h1,p1⟩:=ZY w r2 hl
 obtain ⟨rfl,f1⟩:=J1 r1 hv
 obtain ⟨rfl,f2⟩:=Zz p1 hs
 exact ⟨a,xs,rfl,h1.elim (fun h=>.inl (SqL.of h)) (fun h=>.inr (SqT.of h)),f1,f2,k _ _ _ _ _ q .refl w .bl⟩⟩
structure DH (r:V->List V->Hp->VK->Prop)(a:AV->List AV->MH->AK->Prop):Prop where
 go:∀ {x:V} {dx:AV} {vs:List V} {xs:List AV} {H:Hp} {O:Own} {M:MH} {Q:VK} {Q':AK},Wf H O M->zw H O M x dx->zj H O M vs xs->a dx xs M Q'->(∀ x M' v H' O',Q' x M'->Ext H O M H' O' M'->Wf H' O' M'->zw H' O' M' v x->Q v H')->r x vs H Q
noncomputable def aBM (r:AV->List AV->MH->AK->Prop)(a:AE)(b:AA):AE:=fun ρ M Q=>a ρ M fun x M1=>(∃ l,je x M1=some l)/\b ρ M1 fun xs M2=>r x xs M2 Q
theorem Hs {K:PySem.W.Frag}{r:V->List V->Hp->VK->Prop}{ra:AV->List AV->MH->AK->Prop}{t:TE}{u:TA}{a:AE}{b:AA}(hr:DH r ra)(h1:zN t a)(h2:jv u b):zN (tBM K "list" r t u) (aBM ra a b):=
 ⟨fun w e q k=>h1.go w e q fun x M1 v H1 O1 ⟨⟨l,hl⟩,q1⟩ k1 w1 r1=>⟨by
  obtain ⟨a,xs,rfl,hx,_⟩:=qQ w1 r1 hl
  exact .inl ⟨rfl,xs,SqL.of hx⟩,h2.go w1 (e.ext k1) q1 fun y M2 u H2 O2 q2 k2 w2 r2=>hr.go w2 (r1.ext k2) r2 q2 fun z M3 v3 H3 O3 q3 k3 w3 r3=>k z M3 v3 H3 O3 q3 ((k1.trans k2).trans k3) w3 r3⟩⟩
theorem WV {H:Hp}{O:Own}{M:MH}{p:Addr}{l l':List AV}{xs':List V}(w:Wf H O M)(hm:M p=some (.lst l))(r:zj H O M xs' l'):Ext H O M (upd H p (.lst xs')) O (mup M p (.lst l'))/\Wf (upd H p (.lst xs')) O (mup M p (.lst l')):=
 have np:=jS hm
 ⟨xt w np _ _,Jr w np (fun _ z=>nomatch z) ⟨_,zk,r.ext (xt w np _ _)⟩⟩
noncomputable def XI:AV->List AV->MH->AK->Prop:=fun x xs M Q=>∃ p l y,x=.ref p/\xs=[y]/\M p=some (.lst l)/\l.length<sizeLine/\Q (.d .non) (mup M p (.lst (l ++ [y])))
theorem JA:DH vp XI:=⟨fun w r1 r2 ⟨p,l,y,e1,e2,hm,hs,q⟩ k=>by
 subst e1 e2
 obtain ⟨v,rfl,rv⟩:=jI r2
 obtain ⟨xs,hx,rx⟩:=w.mo p _ hm
 obtain ⟨k1,w1⟩:=WV w hm (rx.snoc rv)
 exact ⟨p,xs,v,r1.1,rfl,hx,by rw [rx.1];exact hs,k _ _ _ _ _ q k1 w1 .non⟩⟩
noncomputable def VB:AV->List AV->MH->AK->Prop:=fun x xs M Q=>∃ ns i j,je x M=some (List.map (fun i=>AV.d (.int i)) ns)/\xs=[.d (.int i)]/\j<ns.length/\ns.getD j 0=i/\(∀ m,m<j->ns.getD m 0 ≠ i)/\Q (.d (.int (j:Nat))) M
theorem Yr:DH Ke VB:=⟨fun w r1 r2 ⟨ns,i,j,hl,e,h1,h2,h3,q⟩ k=>by
 subst e
 obtain ⟨u,rfl,ru⟩:=jI r2
 obtain ⟨a,xs,rfl,hx,p1⟩:=qQ w r1 hl
 rw [yd p1] at hx
 exact ⟨a,ns,i,j,rfl,by rw [zT ru],hx,h1,h2,h3,k _ _ _ _ _ q .refl w .int⟩⟩
noncomputable def yV (r:Addr):MO->Prop
 | .lst l=>AV.ref r ∈ l
 | .dK kvs=>AV.ref r ∈ kvs.map (·.2)
 | .ins _ fs=>AV.ref r ∈ fs.map (·.2)
 | .exc _ _=>False
inductive Dee (M M2:MH):AV->Dat->Prop
 | d {x:Dat}:Dee M M2 (.d x) x
 | lst {p:Addr} {l:List AV} {ds:List Dat}:M p=some (.lst l)->M2 p=none->l.length=ds.length->(∀ (i:Nat) a b,l[i]?=some a->ds[i]?=some b->Dee M M2 a b)->Dee M M2 (.ref p) (.lst ds)
structure vi (M0 M':MH)(x x':AV)(M'':MH):Prop where
 sub:∀ q,M'' q=M' q \/ (M0 q=none/\M'' q=none)
 cl:∀ q o,M'' q=some o->M0 q=some o \/ ∀ r,yV r o->M'' r ≠ none
 res:(x'=x/\∀ p,x=.ref p->M'' p ≠ none) \/ (∃ p l ds,x=.ref p/\M' p=some (.lst l)/\pur l=some ds/\M'' p=none/\x'=.d (.lst ds)) \/ ∃ d,Dee M' M'' x d/\x'=.d d
theorem Dee.rep {H:Hp}{O:Own}{M M2:MH}(w:Wf H O M){x:AV}{d:Dat}(h:Dee M M2 x d):∀ {v:V},zw H O M v x->Rep H (fun a=>O a/\¬ (M a ≠ none/\M2 a=none)) v d:=by
 induction h with
 | d=>exact fun r=>Rep.imp (fun a u h e=>⟨e,fun z=>h z.1⟩) r
 | @lst p l ds hm hn hl _ ih=>
  intro v r
  obtain ⟨xs,hx,rx⟩:=w.mo p _ hm
  rw [r.1]
  refine Rep.lst (fun z=>z.2 ⟨jS hm,hn⟩) hx (rx.1.trans hl) fun i x d e1 e2=>?_
  have hi:=(List.getElem?_eq_some_iff.mp e2).1
  have ha:l[i]?=some (l[i]'(by omega)):=List.getElem?_eq_getElem (by omega)
  exact ih i _ d ha e2 (rx.2 i x _ e1 ha)
theorem Zy {H0 H : Hp}{O0 O : Own}{M0 M' M'' : MH}{x x' : AV}{v : V}(w0 : Wf H0 O0 M0)(w : Wf H O M')(k : Ext H0 O0 M0 H O M')(r : zw H O M' v x)(f : vi M0 M' x x' M'') :
    ∃ O'',Wf H O'' M''/\Ext H0 O0 M0 H O'' M''/\zw H O'' M'' v x'/\∀ a,O a->M' a=none->O'' a/\M'' a=none:=by
  have ks:∀ a u,¬ O a->H a=some u->H a=some u/\¬ (O a/\¬ (M' a ≠ none/\M'' a=none)):=fun a u h e=>⟨e,fun z=>h z.1⟩
  have k0:∀ a,M0 a ≠ none->M'' a=M' a:=fun a h=>(f.sub a).elim (fun z=>z) (fun z=>absurd z.1 h)
  have m0:∀ a,M0 a ≠ none->M'' a ≠ none:=fun a h=>by rw [k0 a h];exact k.mst a h
  have avs:∀ {xs:List V} {l:List AV},zj H O M' xs l->(∀ r,AV.ref r ∈ l->M'' r ≠ none)->zj H (fun a=>O a/\¬ (M' a ≠ none/\M'' a=none)) M'' xs l:=fun {xs l} rr hr=>⟨rr.1,fun i y d e1 e2=>by
    have:=rr.2 i y d e1 e2
    cases d with
    | d d=>exact Rep.imp ks this
    | ref a=>exact ⟨this.1,hr a (List.mem_of_getElem? e2)⟩⟩
  have refs0:∀ q o,M0 q=some o->∀ r,yV r o->M0 r ≠ none:=fun q o e r hr=>by
    have:=w0.mo q o e
    cases o with
    | lst l=>
      obtain ⟨xs,_,rr⟩:=this
      obtain ⟨i,hi⟩:=List.getElem?_of_mem hr
      obtain ⟨y,_,ry⟩:=rr.get hi
      exact ry.2
    | dK l=>
      obtain ⟨xs,_,rr⟩:=this
      obtain ⟨i,hi⟩:=List.getElem?_of_mem hr
      obtain ⟨y,_,ry⟩:=rr.2.get hi
      exact ry.2
    | ins C l=>
      obtain ⟨dx,xs,_,rr,_⟩:=this
      obtain ⟨i,hi⟩:=List.getElem?_of_mem hr
      obtain ⟨y,_,ry⟩:=rr.2.get hi
      exact ry.2
    | exc C l=>exact hr.elim
  refine ⟨fun a=>O a/\¬ (M' a ≠ none/\M'' a=none),⟨fun q o e=>?_,fun a h=>?_,fun a h=>w.al a h.1⟩,⟨fun a u h e=>?_,fun a h e=>?_,m0⟩,?_,fun a h e=>⟨⟨h,fun z=>z.1 e⟩,(f.sub a).elim (fun z=>z.trans e) (fun z=>z.2)⟩⟩
  · have e' : M' q = some o := by
      rcases f.sub q with z | z
      · rw [<- z];exact e
      · rw [z.2] at e;cases e
    have hr:∀ r,yV r o->M'' r ≠ none:=by
      rcases f.cl q o e with z | z
      · exact fun r hr=>m0 r (refs0 q o z r hr)
      · exact z
    have:=w.mo q o e'
    cases o with
    | lst l=>obtain ⟨xs,h1,rr⟩:=this;exact ⟨xs,h1,avs rr hr⟩
    | dK l=>obtain ⟨xs,h1,rr⟩:=this;exact ⟨xs,h1,rr.1,avs rr.2 hr⟩
    | ins C l=>
      obtain ⟨dx,xs,h1,rr,h2,h3,h4⟩:=this
      refine ⟨dx,xs,h1,⟨rr.1,avs rr.2 hr⟩,⟨h2,fun z=>z.1 h3⟩,?_,h4⟩
      rcases f.sub dx with z | z
      · rw [z];exact h3
      · exact z.2
    | exc C l=>
      obtain ⟨d,h1,h2⟩:=this
      refine ⟨d,h1,?_⟩
      rcases h2 with h2 | ⟨dx,e1,h2,h3,h4⟩
      · exact .inl h2
      · refine .inr ⟨dx,e1,h2,⟨h3,fun z=>z.1 h4⟩,?_⟩
        rcases f.sub dx with z | z
        · rw [z];exact h4
        · exact z.2
  · refine ⟨w.own a ?_,fun z=>h z.2⟩
    rcases f.sub a with z | z
    · rw [<- z];exact h
    · exact absurd z.2 h
  · obtain ⟨x1,x2⟩:=k.fix a u h e
    exact ⟨x1,fun z=>x2 z.1⟩
  · obtain ⟨x1,x2,x3⟩:=k.prv a h e
    refine ⟨x1,⟨x2,fun z=>z.1 x3⟩,?_⟩
    rcases f.sub a with z | z
    · rw [z];exact x3
    · exact z.2
  · rcases f.res with ⟨rfl,hp⟩ | ⟨p,l,ds,rfl,hm,hp,hn,rfl⟩ | ⟨d,hd,rfl⟩
    · cases x' with
      | d d=>exact Rep.imp ks r
      | ref a=>exact ⟨r.1,hp a rfl⟩
    · obtain ⟨xs,hx,rx⟩:=w.mo p _ hm
      rw [j5 hp] at rx
      have rp:=rx.pure
      rw [r.1]
      exact Rep.lst (fun z=>z.2 ⟨jS hm,hn⟩) hx rp.1 fun i x d e1 e2=>(rp.2 i x d e1 e2).imp ks
    · exact hd.rep w r
theorem xi {H0 H:Hp}{O0 O:Own}{M0 M' M'':MH}{x x':AV}{v:V}(w0:Wf H0 O0 M0)(w:Wf H O M')(k:Ext H0 O0 M0 H O M')(r:zw H O M' v x)(f:vi M0 M' x x' M'') :
  ∃ O'',Wf H O'' M''/\Ext H0 O0 M0 H O'' M''/\zw H O'' M'' v x':=let ⟨O2,a,b,c,_⟩:=Zy w0 w k r f;⟨O2,a,b,c⟩
noncomputable def Fr (M0 M:MH):Prop:=∀ q,M0 q ≠ none->M q=M0 q
theorem Fr.refl {M:MH}:Fr M M:=fun _ _=>rfl
theorem Fr.mup {M0 M:MH}(f:Fr M0 M){p:Addr}(h:M0 p=none)(o:MO):Fr M0 (mup M p o):=fun q hq=>by rw [zu (fun z=>hq (by rw [z];exact h))];exact f q hq
theorem Fr.sub {M0 M:MH}(f:Fr M0 M)(q:Addr):M0 q=M q \/ (M0 q=none/\M0 q=none):=by
 cases e:M0 q with
 | none=>exact .inr ⟨rfl,rfl⟩
 | some o=>exact .inl (by rw [f q (by rw [e];exact fun z=>nomatch z),e])
theorem qB {M0 M:MH}(f:Fr M0 M)(d:Dat):vi M0 M (.d d) (.d d) M0:=⟨f.sub,fun q o e=>.inl e,.inl ⟨rfl,fun p z=>nomatch z⟩⟩
theorem DS {M0 M:MH}(f:Fr M0 M){p:Addr}{l:List AV}{ds:List Dat}(h0:M0 p=none)(h:M p=some (.lst l))(hp:pur l=some ds):vi M0 M (.ref p) (.d (.lst ds)) M0:=⟨f.sub,fun q o e=>.inl e,.inr (.inl ⟨p,l,ds,rfl,h,hp,h0,rfl⟩)⟩
theorem xI {l:List AV}{ds:List Dat}(h:pur l=some ds)(r:Addr):AV.ref r ∉ l:=by
 rw [j5 h];intro z
 obtain ⟨d,_,e⟩:=List.mem_map.mp z
 cases e
noncomputable def zQ (N:List Str)(xs:List AV):ASt:=xs.map some ++ List.replicate (N.length - xs.length) none
theorem xo {H:Hp}{O:Own}{M:MH}{vs:List V}{xs:List AV}(r:zj H O M vs xs)(N:List Str):Er H O M (qL N vs) (zQ N xs):=by
 unfold qL zQ
 refine ⟨by simp [r.1],fun i x h=>?_⟩
 by_cases c:i<xs.length
 ·rw [List.getElem?_append_left (by simpa using c),List.getElem?_map] at h
  cases e:xs[i]? with
  | none=>rw [e] at h;cases h
  | some y=>
   rw [e] at h
   cases h
   obtain ⟨v,hv,rv⟩:=r.get e
   exact ⟨v,by rw [List.getElem?_append_left (by rw [List.length_map,r.1];exact c),List.getElem?_map,hv];rfl,rv⟩
 ·rw [List.getElem?_append_right (by simp;omega),List.getElem?_replicate] at h
  split at h <;> cases h
noncomputable def rtA (M0:MH)(Q:AK):AK:=fun x M'=>∃ x' M'',vi M0 M' x x' M''/\Q x' M''
theorem dfA {P:Program}{w:World}{K:PySem.W.Frag}{mg:Str->Option Value}{base:Heap}{x:Str}{st:Stmt}{N ps:List Str}{k:Nat}{a:ASp}(at_:At K mg x st)(S:zt N ps (ze st))
  (hb:∀ (kV doc pm:Value) (an:Option Addr) (cdv ct:Value) (us:List Value),us.length=ps.length->bindArgs (PySem.W.fnOf x x (qm st) (zM st) (ze st) .none kV doc pm an cdv ct) ⟨us,[]⟩=pure (ps.zip us))
  (len:∀ xs M Q,a xs M Q->xs.length=ps.length)
  (hbody:∀ (f:Addr) (cdv:Value) (A:Around) (outer:List Env) (s:Shared) (H:Hp) (E:XK),ql k (A.deeper (envOfC x (ze st) s.heap.objs.size f cdv)) ->
   ∃ t,PSs (jD CX0 P w K mg base N x (ze st) f cdv A outer s H E).nox (zM st) t/\∃ b,jq t b/\∀ xs M Q,a xs M Q->b M { nx:=fun _ M'=>rtA M Q (.d .non) M',rt:=rtA M Q } (zQ N xs) M):Df P w K mg base x ps (k+1) (cSp a):=by
 refine Zb at_ S hb (fun vs H Q E h=>?_) (fun f cdv A outer s H vs Q E hr h=>?_)
 ·obtain ⟨xs,M,O,Q',w,r,q,_⟩:=h
  rw [r.1];exact len xs M Q' q
 ·obtain ⟨t,ht,b,hb,hq⟩:=hbody f cdv A outer s H E hr
  refine ⟨t,ht,?_⟩
  obtain ⟨xs,M,O,Q',w,r,q,kk⟩:=h
  refine hb.go w w (xo r N) .refl (hq xs M Q' q) ⟨fun σ H' O' ρ M' w' e' x' q'=>?_,fun v y H' O' M' w' x' r' q'=>?_,fun _ _ _ _ _ _ _ _ z=>z.elim,fun _ _ _ _ _ _ _ _ z=>z.elim⟩
  ·obtain ⟨y',M'',f,q2⟩:=q'
   obtain ⟨O'',w2,k2,r2⟩:=xi w w' x' (show zw H' O' M' .non (.d .non) from .non) f
   exact kk _ _ _ _ _ q2 k2 w2 r2
  ·obtain ⟨y',M'',f,q2⟩:=q'
   obtain ⟨O'',w2,k2,r2⟩:=xi w w' x' r' f
   exact kk _ _ _ _ _ q2 k2 w2 r2
structure Lw (tr:Addr->TR)(a:ATR):Prop where
 go:∀ D,KM D (tr D) a
theorem W6 {t u:TE}{a b:AE}(h1:zN t a)(h2:zN u b):zN (tOp BK t u) (aFz (fOp GH a b)):=yl (Zt Q2 h1 h2)
theorem BI {t u:TE}{a b:AE}(h1:zN t a)(h2:zN u b):zN (tOp DZ t u) (aFz (fOp G3 a b)):=yl (Zt QT h1 h2)
theorem YN {K:PySem.W.Frag}{u:TA}{b:AA}(h:jv u b):zN (tCB (fun xs H Q=>∃ p ys,xs=[V.ref p]/\(SqL K H p ys \/ SqT K H p ys)/\∀ l,H l=none->Q (V.ref l) (upd H l (HO.lst ys))) u) (aFz (fCB VN b)):=yl (Z7 wO h)
theorem YG {u:TA}{b:AA}(h:jv u b):zN (tCB (fun xs H Q=>∃ p a b c n,xs=[.ref p]/\H p=some (Qj p a b c)/\Builtin.Range.small a b c=true/\Builtin.Range.rangeSize a b c=((n:Nat):Int)/\n<=100000/\∀ l,H l=none->Q (.ref l) (upd H l (.lst ((qa a c n).map V.int)))) u) (aFz (fCB VL b)):=yl (Z7 wG h)
theorem ex2 {t:TS}{q:AS->Prop}{b:AS}(h:jq t b)(k:q b):∃ b,jq t b/\q b:=⟨b,h,k⟩
section
variable {X:Cx}{K:PySem.W.Frag}
end
theorem JG {τ:Type}(R:τ->ASt)(f:AV->AV){ag:AG}{ae:AE}{G:MH->Prop}{N:List AV->ASt->MH->Prop}{l:List AV}{ρ:ASt}{M:MH}(h0:∃ o,ρ=R o)(hG:G M)(hl:l.length<=100000)
  (hs:∀ (o:τ) (x:AV) (Q:AV->ASt->MH->Prop),x ∈ l->(∀ o',Q (f x) (R o') M)->ag x (R o) M fun ρ2 M2=>ae ρ2 M2 fun y M3=>Q y ρ2 M3) (hN:∀ o,N (l.map f) (R o) M):Y4 ag QM (vc ae) G N l [] ρ M:=by
 have hsl:100000<sizeLine:=by rw [sizeLine_eq];decide
 refine ⟨fun i acc ρ' M'=>i<=l.length/\acc=(l.take i).map f/\M'=M/\∃ o,ρ'=R o,⟨Nat.zero_le _,rfl,rfl,h0⟩,?_,?_⟩
 ·rintro i x acc ρ' M' hx ⟨hi,rfl,rfl,o,rfl⟩
  have hil:=(List.getElem?_eq_some_iff.mp hx).1
  refine ⟨hG,?_⟩
  refine hs o x (fun y ρ2 M3=>((l.take i).map f).length<sizeLine/\(i+1<=l.length/\(l.take i).map f ++ [y]=(l.take (i+1)).map f/\M3=M'/\∃ o,ρ2=R o)) (List.mem_of_getElem? hx) fun o'=>⟨by rw [List.length_map,List.length_take];omega,hil,?_,rfl,o',rfl⟩
  rw [List.take_add_one,hx,List.map_append];rfl
 ·rintro acc ρ' M' ⟨_,rfl,rfl,o,rfl⟩
  rw [List.take_length]
  exact ⟨hG,hN o⟩
theorem Xf {τ:Type}(R:τ->ASt)(f:Nat->AV){ag:AG}{ae:AE}{G:MH->Prop}{N:List AV->ASt->MH->Prop}{l:List AV}{ρ:ASt}{M:MH}(h0:∃ o,ρ=R o)(hG:G M)(hl:l.length<=100000)
  (hs:∀ (o:τ) (i:Nat) (x:AV) (Q:AV->ASt->MH->Prop),l[i]?=some x->(∀ o',Q (f i) (R o') M)->ag x (R o) M fun ρ2 M2=>ae ρ2 M2 fun y M3=>Q y ρ2 M3) (hN:∀ o,N ((List.range l.length).map f) (R o) M):Y4 ag QM (vc ae) G N l [] ρ M:=by
 have hsl:100000<sizeLine:=by rw [sizeLine_eq];decide
 refine ⟨fun i acc ρ' M'=>i<=l.length/\acc=(List.range i).map f/\M'=M/\∃ o,ρ'=R o,⟨Nat.zero_le _,rfl,rfl,h0⟩,?_,?_⟩
 ·rintro i x acc ρ' M' hx ⟨hi,rfl,rfl,o,rfl⟩
  have hil:=(List.getElem?_eq_some_iff.mp hx).1
  refine ⟨hG,?_⟩
  refine hs o i x (fun y ρ2 M3=>((List.range i).map f).length<sizeLine/\(i+1<=l.length/\(List.range i).map f ++ [y]=(List.range (i+1)).map f/\M3=M'/\∃ o,ρ2=R o)) hx fun o'=>⟨by rw [List.length_map,List.length_range];omega,hil,?_,rfl,o',rfl⟩
  rw [List.range_succ,List.map_append];rfl
 ·rintro acc ρ' M' ⟨_,rfl,rfl,o,rfl⟩
  exact ⟨hG,hN o⟩
theorem YF {τ:Type}(R:τ->ASt)(p:AV->Bool)(f:AV->AV){ag:AG}{at_:AT}{ae:AE}{G:MH->Prop}{N:List AV->ASt->MH->Prop}{l:List AV}{ρ:ASt}{M:MH}(h0:∃ o,ρ=R o)(hG:G M)(hl:l.length<=100000)
  (hs:∀ (o:τ) (x:AV) (Q:Option AV->ASt->MH->Prop),x ∈ l->(∀ o',Q (if p x then some (f x) else none) (R o') M)->ag x (R o) M fun ρ2 M2=>at_ ρ2 M2 fun b M3=>if b=true then ae ρ2 M3 fun y M4=>Q (some y) ρ2 M4 else Q none ρ2 M3)
  (hN:∀ o,N ((l.filter p).map f) (R o) M):Y4 ag at_ (vc ae) G N l [] ρ M:=by
 have hsl:100000<sizeLine:=by rw [sizeLine_eq];decide
 refine ⟨fun i acc ρ' M'=>i<=l.length/\acc=((l.take i).filter p).map f/\M'=M/\∃ o,ρ'=R o,⟨Nat.zero_le _,rfl,rfl,h0⟩,?_,?_⟩
 ·rintro i x acc ρ' M' hx ⟨hi,rfl,rfl,o,rfl⟩
  have hil:=(List.getElem?_eq_some_iff.mp hx).1
  have tk:l.take (i+1)=l.take i ++ [x]:=by rw [List.take_add_one,hx];rfl
  have hlen:(((l.take i).filter p).map f).length<=i:=by
   rw [List.length_map]
   exact Nat.le_trans (List.length_filter_le _ _) (by rw [List.length_take];omega)
  refine ⟨hG,?_⟩
  refine hs o x (fun y ρ2 M3=>match y with | some y=>(((l.take i).filter p).map f).length<sizeLine/\(i+1<=l.length/\((l.take i).filter p).map f ++ [y]=((l.take (i+1)).filter p).map f/\M3=M'/\∃ o,ρ2=R o) | none=>i+1<=l.length/\((l.take i).filter p).map f=((l.take (i+1)).filter p).map f/\M3=M'/\∃ o,ρ2=R o) (List.mem_of_getElem? hx) fun o'=>?_
  rw [tk,List.filter_append]
  cases e:p x with
  | true=>rw [if_pos rfl];exact ⟨by omega,hil,by rw [List.filter_cons_of_pos e,List.map_append];rfl,rfl,o',rfl⟩
  | false=>rw [if_neg (by decide)];exact ⟨hil,by rw [List.filter_cons_of_neg (by rw [e];decide),List.filter_nil,List.append_nil],rfl,o',rfl⟩
 ·rintro acc ρ' M' ⟨_,rfl,rfl,o,rfl⟩
  rw [List.take_length]
  exact ⟨hG,hN o⟩
theorem A8:isT "int" "int"=some true:=by decide +kernel
theorem Vk:isT "int" "bool"=some false:=by decide +kernel
theorem A5:isT "int" "str"=some false:=by decide +kernel
theorem Gs:isT "int" "list"=some false:=by decide +kernel
theorem V6:isT "int" "tuple"=some false:=by decide +kernel
theorem Vx:isT "bool" "int"=some true:=by decide +kernel
theorem Bu:isT "bool" "bool"=some true:=by decide +kernel
theorem Ak:isT "bool" "str"=some false:=by decide +kernel
theorem FS:isT "bool" "list"=some false:=by decide +kernel
theorem Wj:isT "bool" "tuple"=some false:=by decide +kernel
theorem WC:isT "str" "int"=some false:=by decide +kernel
theorem Hd:isT "str" "bool"=some false:=by decide +kernel
theorem Ar:isT "str" "str"=some true:=by decide +kernel
theorem GZ:isT "str" "list"=some false:=by decide +kernel
theorem Vs:isT "str" "tuple"=some false:=by decide +kernel
theorem W9:isT "NoneType" "int"=some false:=by decide +kernel
theorem Hn:isT "NoneType" "bool"=some false:=by decide +kernel
theorem Bp:isT "NoneType" "str"=some false:=by decide +kernel
theorem F7:isT "NoneType" "list"=some false:=by decide +kernel
theorem WN:isT "NoneType" "tuple"=some false:=by decide +kernel
theorem Wt:isT "list" "int"=some false:=by decide +kernel
theorem GQ:isT "list" "bool"=some false:=by decide +kernel
theorem Vz:isT "list" "str"=some false:=by decide +kernel
theorem GL:isT "list" "list"=some true:=by decide +kernel
theorem Vg:isT "list" "tuple"=some false:=by decide +kernel
theorem WS:isT "tuple" "int"=some false:=by decide +kernel
theorem G9:isT "tuple" "bool"=some false:=by decide +kernel
theorem V4:isT "tuple" "str"=some false:=by decide +kernel
theorem HM:isT "tuple" "list"=some false:=by decide +kernel
theorem V7:isT "tuple" "tuple"=some true:=by decide +kernel
theorem HN:vL "int" ["list","tuple"]=some false:=by decide +kernel
theorem HF:vL "bool" ["list","tuple"]=some false:=by decide +kernel
theorem HI:vL "str" ["list","tuple"]=some false:=by decide +kernel
theorem Hq:vL "NoneType" ["list","tuple"]=some false:=by decide +kernel
theorem Br:vL "list" ["list","tuple"]=some true:=by decide +kernel
theorem By:vL "tuple" ["list","tuple"]=some true:=by decide +kernel
theorem AH:QP []=some []:=rfl
theorem Yj {n:String}{r:List Dat}:QP (.ty n :: r)=(QP r).map (n :: ·):=rfl
theorem Ir (M:MH):tyA (.d .non) M=some "NoneType":=rfl
theorem IC (b:Bool)(M:MH):tyA (.d (.bl b)) M=some "bool":=rfl
theorem IB (i:Int)(M:MH):tyA (.d (.int i)) M=some "int":=rfl
theorem Ie (s:Str)(M:MH):tyA (.d (.str s)) M=some "str":=rfl
theorem IN (l:List Dat)(M:MH):tyA (.d (.lst l)) M=some "list":=rfl
theorem Ij (l:List Dat)(M:MH):tyA (.d (.tup l)) M=some "tuple":=rfl
theorem XU (x:Dat)(r:List AV):pur (.d x :: r)=match pur r with | some l=>some (x :: l) | none=>none:=rfl
theorem HC (i j:Int):eqS (.int i) (.int j)=some (decide (i=j)):=rfl
theorem G8 (i j:Bool):eqS (.bl i) (.bl j)=some (decide (i=j)):=rfl
theorem HJ (i j:Str):eqS (.str i) (.str j)=some (decide (i=j)):=rfl
theorem Dt:jM (.d .non)=true:=rfl
theorem Dv (i:Int):jM (.d (.int i))=false:=rfl
theorem B6 (i:List Dat):jM (.d (.lst i))=false:=rfl
theorem Es (i:List Dat):jM (.d (.tup i))=false:=rfl
theorem Ds (i:Addr):jM (.ref i)=false:=rfl
theorem BJ (i:Str):jM (.d (.str i))=false:=rfl
theorem DT (i:Bool):jM (.d (.bl i))=false:=rfl
theorem As {H H':Hp}{O:Own}{M:MH}(w:Wf H O M)(k:Kp [] H H'):Ext H O M H' O M/\Wf H' O M:=by
 have e:Ext H O M H' O M:=⟨fun a o h e=>⟨k a o (by simp) e,h⟩,fun a h e=>⟨by
  obtain ⟨o,ho,_⟩:=w.al a h
  rw [ho];exact k a o (by simp) ho,h,e⟩,fun _ h=>h⟩
 refine ⟨e,⟨fun a o h=>jf.ext e ?_ (w.mo a o h),w.own,fun a h=>?_⟩⟩
 ·obtain ⟨u,hu,_⟩:=w.al a (w.own a (by rw [h];exact fun z=>nomatch z))
  rw [hu];exact k a u (by simp) hu
 ·obtain ⟨o,ho,hn⟩:=w.al a h
  exact ⟨o,k a o (by simp) ho,hn⟩
theorem Hm {H H':Hp}{O:Own}{M:MH}(w:Wf H O M){b:Addr}{l:List AV}(hb:M b=some (.lst l))(k:Kp [b] H H'){ns:List Int}(h:H' b=some (.lst (ns.map V.int))) :
  Ext H O M H' O (mup M b (.lst (ns.map fun i=>.d (.int i))))/\Wf H' O (mup M b (.lst (ns.map fun i=>.d (.int i)))):=by
 have hOb:=w.own b (jS hb)
 have kk:∀ a o,a ≠ b->H a=some o->H' a=some o:=fun a o ha e=>k a o (by simpa using ha) e
 have e:Ext H O M H' O (mup M b (.lst (ns.map fun i=>.d (.int i)))):=⟨fun a o h e=>⟨kk a o (fun z=>h (by rw [z];exact hOb)) e,h⟩,fun a ha e=>by
  have hne:a ≠ b:=fun z=>by rw [z,hb] at e;cases e
  obtain ⟨o,ho,_⟩:=w.al a ha
  exact ⟨by rw [ho];exact kk a o hne ho,ha,by rw [zu hne];exact e⟩,fun a ha=>by
  by_cases c:a=b
  ·rw [c,zh];exact fun z=>nomatch z
  ·rw [zu c];exact ha⟩
 refine ⟨e,⟨fun a o ho=>?_,fun a ha=>?_,fun a ha=>?_⟩⟩
 ·by_cases c:a=b
  ·subst c;rw [zh] at ho;cases ho;exact ⟨_,h,Jd ns⟩
  ·rw [zu c] at ho
   refine jf.ext e ?_ (w.mo a o ho)
   obtain ⟨u,hu,_⟩:=w.al a (w.own a (jS ho))
   rw [hu];exact kk a u c hu
 ·by_cases c:a=b
  ·rw [c];exact hOb
  ·rw [zu c] at ha;exact w.own a ha
 ·by_cases c:a=b
  ·rw [c];exact ⟨_,h,fun xs z=>nomatch z⟩
  ·obtain ⟨o,ho,hn⟩:=w.al a ha
   exact ⟨o,kk a o c ho,hn⟩
theorem Bf {H:Hp}{O:Own}{p:Addr}{ns:List Int}(ho:¬ O p)(h:H p=some (.lst (ns.map V.int))):Rep H O (.ref p) (.lst (ns.map .int)):=
 Rep.lst ho h (by simp) fun i x d e1 e2=>by
  rw [List.getElem?_map] at e1 e2
  cases e:ns[i]? with
  | none=>rw [e] at e1;cases e1
  | some n=>rw [e] at e1 e2;cases e1;cases e2;exact .int
theorem Az {H:Hp}{O:Own}{M:MH}{v:V}{x:AV}{ns:List Int}(w:Wf H O M)(r:zw H O M v x)(h:je x M=some (ns.map fun i=>.d (.int i))):∃ a,v=.ref a/\H a=some (.lst (ns.map V.int)):=by
 obtain ⟨a,xs,rfl,h1,r1⟩:=qQ w r h
 rw [yd r1] at h1
 exact ⟨a,rfl,h1⟩
theorem Df.imp' {P:Program}{w:World}{K:PySem.W.Frag}{mg:Str->Option Value}{base:Heap}{x:Str}{ps:List Str}{sp sp':Sp}{k:Nat}(D:Df P w K mg base x ps k sp)(h:∀ vs H Q E,sp' vs H Q E->sp vs H Q E):Df P w K mg base x ps k sp':=
 let ⟨f,fd,F,r⟩:=D
 ⟨f,fd,F.imp h,r⟩
mutual
noncomputable def wdt:Dat->Nat
 | .lst l=>max l.length (Jj l)
 | .tup l=>max l.length (Jj l)
 | _=>0
noncomputable def Jj:List Dat->Nat
 | []=>0
 | a :: r=>max (wdt a) (Jj r)
end
theorem XC {l:List Dat}{n:Nat}(h:∀ d ∈ l,wdt d<=n):Jj l<=n:=by
 induction l with
 | nil=>exact Nat.zero_le _
 | cons a r ih=>rw [Jj];exact Nat.max_le.mpr ⟨h a (by simp),ih fun d hd=>h d (by simp [hd])⟩
theorem Xx {l:List Dat}{d:Dat}(h:d ∈ l):wdt d<=Jj l:=by
 induction l with
 | nil=>cases h
 | cons a r ih=>
  rw [Jj]
  rcases List.mem_cons.mp h with rfl | h
  ·exact Nat.le_max_left _ _
  ·exact Nat.le_trans (ih h) (Nat.le_max_right _ _)
noncomputable def xm (n:Nat)(d:Dat):Prop:=dp d<=n/\wdt d<=100000
theorem xm.mono {n m:Nat}{d:Dat}(h:xm n d)(k:n<=m):xm m d:=⟨Nat.le_trans h.1 k,h.2⟩
theorem AR {n:Nat}{l:List Dat}(hl:l.length<=100000)(h:∀ d ∈ l,xm n d):xm (n+1) (.lst l):=⟨by rw [dp];exact Nat.succ_le_succ (jE fun d hd=>(h d hd).1),by rw [wdt];exact Nat.max_le.mpr ⟨hl,XC fun d hd=>(h d hd).2⟩⟩
theorem A2 {n:Nat}{l:List Dat}(hl:l.length<=100000)(h:∀ d ∈ l,xm n d):xm (n+1) (.tup l):=⟨by rw [dp];exact Nat.succ_le_succ (jE fun d hd=>(h d hd).1),by rw [wdt];exact Nat.max_le.mpr ⟨hl,XC fun d hd=>(h d hd).2⟩⟩
theorem Qz (n:Nat)(i:Int):xm n (.int i):=⟨by simp [dp],by simp [wdt]⟩
theorem Yb {ns:List Int}(h:ns.length<=100000):xm 1 (.lst (ns.map .int)):=AR (by simpa using h) fun d hd=>by obtain ⟨i,_,rfl⟩:=List.mem_map.mp hd;exact Qz 0 i
theorem Ki {ns:List Int}(h:ns.length<=100000):xm 1 (.tup (ns.map .int)):=A2 (by simpa using h) fun d hd=>by obtain ⟨i,_,rfl⟩:=List.mem_map.mp hd;exact Qz 0 i
theorem xm.lst {n:Nat}{l:List Dat}(h:xm (n+1) (.lst l)):l.length<=100000/\∀ d ∈ l,xm n d:=by
 obtain ⟨h1,h2⟩:=h
 rw [dp] at h1
 rw [wdt] at h2
 exact ⟨(Nat.max_le.mp h2).1,fun d hd=>⟨by have:=qx hd;omega,Nat.le_trans (Xx hd) (Nat.max_le.mp h2).2⟩⟩
theorem xm.tup {n:Nat}{l:List Dat}(h:xm (n+1) (.tup l)):l.length<=100000/\∀ d ∈ l,xm n d:=by
 obtain ⟨h1,h2⟩:=h
 rw [dp] at h1
 rw [wdt] at h2
 exact ⟨(Nat.max_le.mp h2).1,fun d hd=>⟨by have:=qx hd;omega,Nat.le_trans (Xx hd) (Nat.max_le.mp h2).2⟩⟩
theorem WE {x:AV}{M:MH}{l:List Dat}(h:yf x M=some (.lst l)):je x M=some (l.map .d)/\qw x M=some (l.map .d)/\tyA x M=some "list"/\jM x=false:=by
 cases x with
 | d x=>cases h;exact ⟨rfl,rfl,rfl,rfl⟩
 | ref a=>
  unfold yf at h
  dsimp only at h
  cases e:M a with
  | none=>rw [e] at h;cases h
  | some o=>
   rw [e] at h
   cases o with
   | lst m=>
    dsimp only at h
    cases ep:pur m with
    | none=>rw [ep] at h;cases h
    | some ds=>
     rw [ep] at h
     cases h
     rw [j5 ep] at e
     exact ⟨ji e,qc e,by unfold tyA;dsimp only;rw [e],rfl⟩
   | _=>cases h
theorem kI {x:AV}{M:MH}{d:Dat}(h:yf x M=some d)(hd:∀ l,d ≠ .lst l):x=.d d:=by
 cases x with
 | d x=>cases h;rfl
 | ref a=>
  unfold yf at h
  dsimp only at h
  cases e:M a with
  | none=>rw [e] at h;cases h
  | some o=>
   rw [e] at h
   cases o with
   | lst m=>
    dsimp only at h
    cases ep:pur m with
    | none=>rw [ep] at h;cases h
    | some ds=>rw [ep] at h;cases h;exact absurd rfl (hd ds)
   | _=>cases h
theorem Le (b:Bool):dp (.bl b)=0:=by simp [dp]
theorem qT (b:Str):dp (.str b)=0:=by simp [dp]
theorem Al:dp .non=0:=by simp [dp]
theorem Bt (a b:Bool):eqD (.bl a) (.bl b)=decide (a=b):=by rw [eqD];cases a <;> cases b <;> rfl
theorem wf (a b:Int):eqD (.int a) (.int b)=decide (a=b):=by rw [eqD];by_cases h:a=b <;> simp [h]
theorem jl (a b:Str):eqD (.str a) (.str b)=decide (a=b):=by rw [eqD];by_cases h:a=b <;> simp [h]
theorem Gv:eqD .non .non=true:=by simp [eqD]
theorem WK (i:Int):eqD .non (.int i)=false:=by simp [eqD]
theorem F5 (i:Int):eqD (.int i) .non=false:=by simp [eqD]
theorem Gu (i:Int)(s:Str):eqD (.int i) (.str s)=false:=by simp [eqD]
theorem FV (i:Int)(s:Str):eqD (.str s) (.int i)=false:=by simp [eqD]
theorem Ga (s:Str):eqD (.str s) .non=false:=by simp [eqD]
theorem Gp (s:Str):eqD .non (.str s)=false:=by simp [eqD]
theorem Vo {x:AV}{M:MH}{l:List AV}(h:je x M=some l){p:Addr}(hp:M p=none)(o:MO):je x (mup M p o)=some l:=by
 rcases v7 h with ⟨m,rfl,rfl⟩ | ⟨a,rfl,e⟩
 ·rfl
 ·exact ji (by rw [zu (fun z=>by rw [z,hp] at e;cases e)];exact e)
theorem vI {x:AV}{M:MH}{l:List AV}(h:qw x M=some l){p:Addr}(hp:M p=none)(o:MO):qw x (mup M p o)=some l:=by
 rcases kf h with h' | ⟨m,rfl,rfl⟩
 ·have:=Vo h' hp o
  rcases v7 h' with ⟨m,rfl,rfl⟩ | ⟨a,rfl,e⟩
  ·rfl
  ·exact this
 ·rfl
theorem KW (ns:List Int):List.map AV.d (List.map Dat.int ns)=List.map (fun i=>AV.d (.int i)) ns:=by rw [List.map_map];rfl
theorem FH (ns:List Bool):List.map AV.d (List.map Dat.bl ns)=List.map (fun i=>AV.d (.bl i)) ns:=by rw [List.map_map];rfl
theorem qy (ns:List Int):pur (List.map (fun i=>AV.d (.int i)) ns)=some (ns.map Dat.int):=by rw [<- KW,zV]
theorem DW (ns:List Bool):pur (List.map (fun i=>AV.d (.bl i)) ns)=some (ns.map Dat.bl):=by rw [<- FH,zV]
theorem Xb {α β:Type}(f:α->β)(l:List α)(i:Int):atI (l.map f) i=(atI l i).map f:=by
 unfold atI
 rw [List.length_map]
 cases ixN l.length i with
 | none=>rfl
 | some j=>exact List.getElem?_map ..
theorem qD {n:Nat}{i:Int}(h0:0<=i)(h1:i<n):ixN n i=some i.toNat:=by unfold ixN;rw [if_pos h0,if_pos h1]
theorem Vw {α:Type}{l:List α}{i:Int}(h0:0<=i)(h1:i<l.length)(d:α):atI l i=some (l.getD i.toNat d):=by
 unfold atI
 rw [qD h0 h1]
 show l[i.toNat]?=_
 rw [List.getD_eq_getElem?_getD,List.getElem?_eq_getElem (by omega)];rfl
theorem yK {α:Type}(xs:List α)(k:Nat):jO xs (some (k:Int)) none=xs.drop k:=by
 unfold jO
 rw [HT.sIx_nat,HT.sIx_none,List.take_of_length_le (by rw [List.length_drop];omega)]
 by_cases h:k<=xs.length
 ·rw [Nat.min_eq_left h]
 ·rw [Nat.min_eq_right (by omega),List.drop_length,List.drop_of_length_le (by omega)]
theorem zg {a jc:AS}{B:MH}{D:qX}{ρ:ASt}{M:MH}(h:∀ r,r=jc->kH a r B D ρ M):kH a jc B D ρ M:=h jc rfl
theorem Fr.non {M M':MH}(f:Fr M M'){p:Addr}(h:M' p=none):M p=none:=by
 cases e:M p with
 | none=>rfl
 | some o=>rw [f p (by rw [e];exact fun z=>nomatch z),e] at h;cases h
noncomputable abbrev ilD (os:List Int):Dat:=.lst (os.map .int)
theorem D7 (ns:List Int)(M:MH):je (.d (ilD ns)) M=some (ns.map fun i=>.d (.int i)):=by rw [Wz,KW]
noncomputable def BxM (M:MH)(b:Addr)(N:Nat):Prop:=∃ x y z:Int,M b=some (.lst [.d (.int x),.d (.int y),.d (.int z)])/\0<=x/\0<=y/\y<2147483648/\0<=z/\z<=N
theorem BxM.mono {M:MH}{b:Addr}{N N':Nat}(h:BxM M b N)(hn:N<=N'):BxM M b N':=by
 obtain ⟨x,y,z,h1,h2,h3,h4,h5,h6⟩:=h
 exact ⟨x,y,z,h1,h2,h3,h4,h5,by omega⟩
theorem BxM.ne {M:MH}{b:Addr}{N:Nat}(h:BxM M b N):M b ≠ none:=by obtain ⟨x,y,z,h1,_⟩:=h;exact jS h1
theorem BxM.bx {H:Hp}{O:Own}{M:MH}{b:Addr}{N:Nat}(w:Wf H O M)(h:BxM M b N):Bx H b N:=by
 obtain ⟨x,y,z,h1,h2⟩:=h
 obtain ⟨xs,hx,rx⟩:=w.mo b _ h1
 rw [yd (ns:=[x,y,z]) rx] at hx
 exact ⟨x,y,z,hx,h2⟩
noncomputable def BxS (M M':MH)(b:Addr)(N:Nat):Prop:=BxM M' b N/\∃ o,M'=mup M b o
theorem BxS.at {M M':MH}{b:Addr}{N:Nat}(h:BxS M M' b N){q:Addr}(hq:q ≠ b):M' q=M q:=by
 obtain ⟨_,o,rfl⟩:=h
 exact zu hq
theorem AX {H H':Hp}{O:Own}{M:MH}(w:Wf H O M){b:Addr}{N N':Nat}(hb:BxM M b N)(k:Kp [b] H H')(h:Bx H' b N'):∃ M',BxS M M' b N'/\Ext H O M H' O M'/\Wf H' O M':=by
 obtain ⟨x,y,z,h1,_⟩:=hb
 obtain ⟨x',y',z',g1,g2⟩:=h
 obtain ⟨e1,e2⟩:=Hm w h1 k (ns:=[x',y',z']) g1
 exact ⟨_,⟨⟨x',y',z',zh,g2⟩,_,rfl⟩,e1,e2⟩
mutual
noncomputable def pdD:Dat->PyData
 | .bl b=>.bool b
 | .int i=>.int i
 | .str x=>.str x
 | .lst l=>.list (kA l)
 | .tup l=>.tuple (kA l)
 | _=>.none
noncomputable def kA:List Dat->List PyData
 | []=>[]
 | a :: r=>pdD a :: kA r
end
section
variable {X:Cx}{pins:List (Addr × Obj)}{s:Shared}{σ:St}{H:Hp}{O:Own}
theorem xb:∀ {xs:List V} {us:List Value} {l:List Dat},zG xs us->xs.length=l.length->(∀ (i:Nat) x d,xs[i]?=some x->l[i]?=some d->∀ v',zH x v'->∃ as,Reads s.heap v' (pdD d) as)->∃ as,ReadsAll s.heap us (kA l) as
 | [],_,[],.nil,_,_=>⟨_,by rw [kA];exact .nil⟩
 | x :: xs,_,d :: l,.cons r t,hl,h=>by
  obtain ⟨as,ha⟩:=h 0 x d rfl rfl _ r
  obtain ⟨bs,hb⟩:=xb t (by simpa using hl) (fun i y e h1 h2=>h (i+1) y e (by simpa using h1) (by simpa using h2))
  exact ⟨as ++ bs,by rw [kA];exact .cons ha hb⟩
theorem BH (I:Inv X pins σ H s){v:V}{d:Dat}(r:Rep H O v d):dp d<1000->∀ v',zH v v'->∃ as,Reads s.heap v' (pdD d) as:=by
 induction r with
 | non=>intro _ v' rv;cases rv;exact ⟨_,by rw [show pdD .non=.none by simp [pdD]];exact .none⟩
 | bl=>intro _ v' rv;cases rv;exact ⟨_,by rw [pdD];exact .bool _⟩
 | int=>intro _ v' rv;obtain ⟨t,rfl⟩:=rv;exact ⟨_,by rw [pdD];exact .int _ _⟩
 | str=>intro _ v' rv;obtain ⟨t,rfl⟩:=rv;exact ⟨_,by rw [pdD];exact .str _ _⟩
 | ty=>intro h;rw [dp] at h;omega
 | rng _ _=>intro h;rw [dp] at h;omega
 | scr _ _=>intro h;rw [dp] at h;omega
 | scrK _=>intro h;rw [dp] at h;omega
 | @lst a xs l o h hl _ ih=>
  intro hd v' rv
  cases rv
  rw [dp] at hd
  obtain ⟨_,its,n,vs,hg⟩:=(show zW X.prog X.w H s.heap a (.lst xs) from I.hok a _ h)
  obtain ⟨as,ha⟩:=xb vs hl (fun i x d e1 e2=>ih i x d e1 e2 (by have:=qx (List.mem_of_getElem? e2);omega))
  exact ⟨_,by rw [pdD];exact .list hg rfl rfl (by simpa using ha)⟩
 | @tup a xs l o h hl _ ih=>
  intro hd v' rv
  cases rv
  rw [dp] at hd
  obtain ⟨_,its,vs,o,ho,hc,⟨n,hdt⟩,_⟩:=(show zW X.prog X.w H s.heap a (.tup xs) from I.hok a _ h)
  obtain ⟨as,ha⟩:=xb vs hl (fun i x d e1 e2=>ih i x d e1 e2 (by have:=qx (List.mem_of_getElem? e2);omega))
  exact ⟨_,by rw [pdD];exact .tuple ho hc hdt (by simpa using ha)⟩
mutual
theorem Ws:∀ d:Dat,(pdD d).hasDict=false
 | .non=>by simp [pdD,PyData.hasDict]
 | .bl _=>by simp [pdD,PyData.hasDict]
 | .int _=>by simp [pdD,PyData.hasDict]
 | .str _=>by simp [pdD,PyData.hasDict]
 | .ty _=>by simp [pdD,PyData.hasDict]
 | .rng _ _ _=>by simp [pdD,PyData.hasDict]
 | .scr _ _=>by simp [pdD,PyData.hasDict]
 | .lst l=>by rw [pdD,PyData.hasDict];exact ZV l
 | .tup l=>by rw [pdD,PyData.hasDict];exact ZV l
theorem ZV:∀ l:List Dat,PyData.hasDictAll (kA l)=false
 | []=>by simp [kA,PyData.hasDictAll]
 | a :: r=>by rw [kA,PyData.hasDictAll,Ws a,ZV r];rfl
end
mutual
theorem QF:∀ d:Dat,(pdD d).depth<=dp d
 | .non=>by simp [pdD,PyData.depth]
 | .bl _=>by simp [pdD,PyData.depth]
 | .int _=>by simp [pdD,PyData.depth]
 | .str _=>by simp [pdD,PyData.depth]
 | .ty _=>by simp [pdD,PyData.depth]
 | .rng _ _ _=>by simp [pdD,PyData.depth]
 | .scr _ _=>by simp [pdD,PyData.depth]
 | .lst l=>by rw [pdD,PyData.depth,dp];exact Nat.succ_le_succ (yB l)
 | .tup l=>by rw [pdD,PyData.depth,dp];exact Nat.succ_le_succ (yB l)
theorem yB:∀ l:List Dat,PyData.depthAll (kA l)<=dps l
 | []=>by simp [kA,PyData.depthAll]
 | a :: r=>by rw [kA,PyData.depthAll,dps];exact Nat.max_le.mpr ⟨Nat.le_trans (QF a) (Nat.le_max_left _ _),Nat.le_trans (yB r) (Nat.le_max_right _ _)⟩
end
noncomputable def Fe:List V->Hp->VK->Prop:=fun xs H Q=>∃ a O d,xs=[.ref a]/\Rep H O (.ref a) d/\dp d<=40/\(pdD d).showable=true/\(pdD d).shown.length<=sizeLine/\Q (.str (pdD d).shown) H
theorem Zj (hg:X.A.guards=some [])(hu:X.A.units+64<cLine):jy X (.type "str") Fe:=by
 intro pins s σ H xs us Q I r h
 obtain ⟨a,O,d,rfl,rd,hd,hs,hz,q⟩:=h
 have hdp:=QF d
 obtain ⟨u,rfl,ru⟩:∃ u,us=[u]/\zH (.ref a) u:=by
  cases r with
  | cons p q=>cases q;exact ⟨_,rfl,p⟩
 cases ru
 obtain ⟨as,ha⟩:=BH I rd (by omega) _ rfl
 exact str_of_reads ha hs (PyData.noDict_hsm (Ws d)) hg (by omega) (fun _ _ e=>e) (fun h' u tk hk=>⟨.str _,H,I.kept hk,⟨_,rfl⟩,q⟩) hz
end
noncomputable def shD (d:Dat):Str:=(pdD d).shown
noncomputable def Ff:List AV->MH->AK->Prop:=fun xs M Q=>∃ x d,xs=[x]/\yf x M=some d/\((∃ l,d=.lst l) \/ ∃ l,d=.tup l)/\dp d<=40/\(pdD d).showable=true/\(pdD d).shown.length<=sizeLine/\Q (.d (.str (shD d))) M
theorem AD:wr Fe Ff:=⟨fun w r ⟨x,d,e,hx,hk,h1,h3,h4,q⟩ k=>by
 subst e
 obtain ⟨v,rfl,rv⟩:=jI r
 obtain ⟨O',r'⟩:=v8 w rv hx
 obtain ⟨a,rfl⟩:∃ a,v=.ref a:=by
  rcases hk with ⟨l,rfl⟩ | ⟨l,rfl⟩
  ·cases r' with | lst _ _=>exact ⟨_,rfl⟩
  ·cases r' with | tup _ _=>exact ⟨_,rfl⟩
 exact ⟨a,O',d,rfl,r',h1,h3,h4,k _ _ _ _ _ q .refl w .str⟩⟩
section
variable {X:Cx}
end
structure Sh (b:Nat)(d:Dat):Prop where
 s:(pdD d).showable=true
 l:(pdD d).shown.length<=b
theorem Sh.mono {b c:Nat}{d:Dat}(h:Sh b d)(k:b<=c):Sh c d:=⟨h.s,Nat.le_trans h.l k⟩
theorem yN {i:Int}(h:i.natAbs<10 ^ 20):Sh 22 (.int i):=by
 have h1:i.natAbs.log2<1920:=by
  by_cases z:i.natAbs=0
  ·rw [z];decide
  ·exact (Nat.log2_lt z).mpr (Nat.lt_trans h (by decide +kernel))
 refine ⟨by rw [pdD,PyData.showable];exact decide_eq_true h1,?_⟩
 rw [pdD,PyData.shown]
 have:=int_text_length_le10 (a:=i) (k:=20) (by decide) h
 have e:(Str.ofString (toString i)).length=(toString i).length:=PySem.ofString_length _
 show (Str.ofString (toString i)).length<=22
 omega
theorem Xm {l:List Dat}(h:∀ d ∈ l,(pdD d).showable=true):PyData.showableAll (kA l)=true:=by
 induction l with
 | nil=>simp [kA,PyData.showableAll]
 | cons a r ih=>rw [kA,PyData.showableAll,h a (by simp),ih fun d hd=>h d (by simp [hd])];rfl
theorem yx {b:Nat}{l:List Dat}(h:∀ d ∈ l,(pdD d).shown.length<=b):((PyData.shownAll (kA l)).map (·.length)).sum<=l.length * b/\(PyData.shownAll (kA l)).length=l.length:=by
 induction l with
 | nil=>simp [kA,PyData.shownAll]
 | cons a r ih=>
  obtain ⟨h1,h2⟩:=ih fun d hd=>h d (by simp [hd])
  have h3:=h a (by simp)
  rw [kA,PyData.shownAll]
  simp only [List.map_cons,List.sum_cons,List.length_cons]
  refine ⟨?_,by rw [h2]⟩
  rw [Nat.add_mul,Nat.one_mul]
  omega
theorem yJ {b n:Nat}{l:List Dat}(hn:l.length<=n)(h:∀ d ∈ l,Sh b d):Sh (n * b+2 * n+3) (.lst l):=by
 obtain ⟨h1,h2⟩:=yx (fun d hd=>(h d hd).l)
 refine ⟨by rw [pdD,PyData.showable];exact Xm fun d hd=>(h d hd).s,?_⟩
 rw [pdD,PyData.shown]
 have:=listText_len_le (PyData.shownAll (kA l))
 have hm:l.length * b<=n * b:=Nat.mul_le_mul_right b hn
 omega
theorem WL {b n:Nat}{l:List Dat}(hn:l.length<=n)(h:∀ d ∈ l,Sh b d):Sh (n * b+2 * n+3) (.tup l):=by
 obtain ⟨h1,h2⟩:=yx (fun d hd=>(h d hd).l)
 refine ⟨by rw [pdD,PyData.showable];exact Xm fun d hd=>(h d hd).s,?_⟩
 rw [pdD,PyData.shown]
 have:=tupleText_len_le (PyData.shownAll (kA l))
 have hm:l.length * b<=n * b:=Nat.mul_le_mul_right b hn
 omega
noncomputable def Iq (i:Nat)(t:TS):TS:=t
theorem Z1 {X:Cx}{ss:List Stmt}{t:TS}(i:Nat)(h:PSs X ss t):PSs X ss (Iq i t):=h
noncomputable def AL (i:Nat)(a:AS):AS:=fun B D ρ M=>∃ p l ds,ρ[i]?=some (some (.ref p))/\M p=some (.lst l)/\pur l=some ds/\B p=none/\(∀ j:Nat,j ≠ i->ρ[j]? ≠ some (some (.ref p)))/\(∀ q o,q ≠ p->M q=some o->B q=some o \/ ¬ yV p o)/\a B D (ρ.set i (some (.d (.lst ds)))) (mdel M p)
theorem Bl {i:Nat}{t:TS}{a:AS}(h:jq t a):jq (Iq i t) (AL i a):=⟨fun {H0 O0 M0 D D' σ H O ρ M} w0 w e x q E=>by
 obtain ⟨p,l,ds,hi,hm,hp,hb,ho,hr,q⟩:=q
 obtain ⟨xs,hx,rx⟩:=w.mo p _ hm
 have rx0:=rx
 rw [j5 hp] at rx
 have rp:=rx.pure
 have ks:=xA (H:=H) (O:=O) p
 have refs0:∀ q o,M0 q=some o->¬ yV p o:=fun q o eq hr'=>by
  have:=w0.mo q o eq
  cases o with
  | lst l=>obtain ⟨xs,_,rr⟩:=this;obtain ⟨i,hi⟩:=List.getElem?_of_mem hr';obtain ⟨y,_,ry⟩:=rr.get hi;exact ry.2 hb
  | dK l=>obtain ⟨xs,_,rr⟩:=this;obtain ⟨i,hi⟩:=List.getElem?_of_mem hr';obtain ⟨y,_,ry⟩:=rr.2.get hi;exact ry.2 hb
  | ins C l=>obtain ⟨dx,xs,_,rr,_⟩:=this;obtain ⟨i,hi⟩:=List.getElem?_of_mem hr';obtain ⟨y,_,ry⟩:=rr.2.get hi;exact ry.2 hb
  | exc C l=>exact hr'.elim
 have av:∀ {v:V} {y:AV},zw H O M v y->y ≠ .ref p->zw H (ZW O p) (mdel M p) v y:=fun {v y} r hy=>by
  cases y with
  | d y=>exact Rep.imp ks r
  | ref a=>exact ⟨r.1,by rw [jR (fun z=>hy (by rw [z]))];exact r.2⟩
 have avs:∀ {vs:List V} {ys:List AV},zj H O M vs ys->AV.ref p ∉ ys->zj H (ZW O p) (mdel M p) vs ys:=fun r hy=>⟨r.1,fun i v y e1 e2=>av (r.2 i v y e1 e2) fun z=>hy (by rw [<- z];exact List.mem_of_getElem? e2)⟩
 have hOd:∀ dx b,O dx->M dx=none->H dx=some b->(∀ xs,b ≠ .lst xs)->ZW O p dx/\mdel M p dx=none:=fun dx b h1 h2 h3 h4=>⟨⟨QY h3 hx (h4 _),h1⟩,by unfold mdel;split;rfl;exact h2⟩
 refine h.go w0 ⟨fun q o eq=>?_,fun a ha=>?_,fun a (ha:ZW O p a)=>w.al a ha.2⟩ ⟨?_,fun j y hj=>?_⟩ ⟨fun a o ha eo=>⟨(x.fix a o ha eo).1,fun (z:ZW O p a)=>(x.fix a o ha eo).2 z.2⟩,fun a ha eo=>?_,fun a ha=>?_⟩ q E
 ·have hq:q ≠ p:=fun z=>by rw [z,yD] at eq;cases eq
  rw [jR hq] at eq
  have hno:¬ yV p o:=(hr q o hq eq).elim (fun z=>refs0 q o z) (fun z=>z)
  have:=w.mo q o eq
  cases o with
  | lst l=>obtain ⟨xs,h1,rr⟩:=this;exact ⟨xs,h1,avs rr hno⟩
  | dK l=>obtain ⟨xs,h1,rr⟩:=this;exact ⟨xs,h1,rr.1,avs rr.2 hno⟩
  | ins C l=>obtain ⟨dx,xs,h1,rr,h2,h3,h4⟩:=this;exact ⟨dx,xs,h1,⟨rr.1,avs rr.2 hno⟩,(hOd dx _ h2 h3 h4 (fun _ z=>nomatch z)).1,(hOd dx _ h2 h3 h4 (fun _ z=>nomatch z)).2,h4⟩
  | exc C l=>
   obtain ⟨d,h1,h2⟩:=this
   refine ⟨d,h1,?_⟩
   rcases h2 with h2 | ⟨dx,e1,h2,h3,h4⟩
   ·exact .inl h2
   ·exact .inr ⟨dx,e1,h2,(hOd dx _ h3 h4 h2 (fun _ z=>nomatch z)).1,(hOd dx _ h3 h4 h2 (fun _ z=>nomatch z)).2⟩
 ·have hq:a ≠ p:=fun z=>ha (by rw [z,yD])
  rw [jR hq] at ha
  exact ⟨hq,w.own a ha⟩
 ·rw [List.length_set];exact e.len
 ·rw [List.getElem?_set] at hj
  by_cases c:i=j
  ·rw [if_pos c] at hj
   split at hj
   ·cases hj
    obtain ⟨v,hv,rv⟩:=e.get i _ hi
    rw [<- c]
    exact ⟨v,hv,by rw [rv.1];exact Rep.lst (fun z=>z.1 rfl) hx rp.1 fun i x d e1 e2=>(rp.2 i x d e1 e2).imp ks⟩
   ·cases hj
  ·rw [if_neg c] at hj
   obtain ⟨v,hv,rv⟩:=e.get j y hj
   exact ⟨v,hv,av rv fun z=>ho j (fun z'=>c z'.symm) (by rw [<- z];exact hj)⟩
 ·obtain ⟨x1,x2,x3⟩:=x.prv a ha eo
  have hne:a ≠ p:=fun z=>by rw [z,hm] at x3;cases x3
  exact ⟨x1,⟨hne,x2⟩,by rw [jR hne];exact x3⟩
 ·have hq:a ≠ p:=fun z=>ha (by rw [z];exact hb)
  rw [jR hq];exact x.mst a ha⟩
theorem BxM.refs {M:MH}{b:Addr}{N:Nat}(h:BxM M b N){o:MO}(e:M b=some o)(r:Addr):¬ yV r o:=by
 obtain ⟨x,y,z,h1,_⟩:=h
 rw [h1] at e
 cases e
 exact xI (l:=[AV.d (.int x),AV.d (.int y),AV.d (.int z)]) (ds:=[.int x,.int y,.int z]) rfl r
structure SB (M0 M:MH)(b:Addr)(N:Nat):Prop where
 bx:BxM M b N
 fr:∀ q,M0 q ≠ none->q ≠ b->M q=M0 q
 b0:M0 b ≠ none
theorem SB.refl {M:MH}{b:Addr}{N:Nat}(h:BxM M b N):SB M M b N:=⟨h,fun _ _ _=>rfl,h.ne⟩
theorem SB.go {M0 M M':MH}{b:Addr}{N N':Nat}(s:SB M0 M b N)(t:BxS M M' b N'):SB M0 M' b N':=⟨t.1,fun q hq hb=>(t.at hb).trans (s.fr q hq hb),s.b0⟩
theorem SB.mono {M0 M:MH}{b:Addr}{N N':Nat}(s:SB M0 M b N)(h:N<=N'):SB M0 M b N':=⟨s.bx.mono h,s.fr,s.b0⟩
theorem BxM.put {M:MH}{b p:Addr}{N:Nat}(h:BxM M b N)(n:b ≠ p)(o:MO):BxM (mup M p o) b N:=by
 obtain ⟨x,y,z,h1,h2⟩:=h
 exact ⟨x,y,z,by rw [zu n];exact h1,h2⟩
theorem SB.new {M0 M:MH}{b p:Addr}{N:Nat}(s:SB M0 M b N)(hp:M p=none):M0 p=none/\p ≠ b:=by
 have hb:p ≠ b:=fun z=>s.bx.ne (by rw [<- z];exact hp)
 refine ⟨?_,hb⟩
 cases e:M0 p with
 | none=>rfl
 | some o=>rw [s.fr p (by rw [e];exact fun z=>nomatch z) hb,e] at hp;cases hp
theorem SB.put {M0 M:MH}{b p:Addr}{N:Nat}(s:SB M0 M b N)(h0:M0 p=none)(hb:p ≠ b)(o:MO):SB M0 (mup M p o) b N:=
 ⟨s.bx.put (Ne.symm hb) o,fun q hq hqb=>by rw [zu (fun z=>hq (by rw [z];exact h0))];exact s.fr q hq hqb,s.b0⟩
theorem SB.fin {M0 M:MH}{b:Addr}{N:Nat}(s:SB M0 M b N)(d:Dat):∃ M'',vi M0 M (.d d) (.d d) M''/\BxS M0 M'' b N:=by
 obtain ⟨x,y,z,h1,h2⟩:=s.bx
 refine ⟨mup M0 b (.lst [.d (.int x),.d (.int y),.d (.int z)]),⟨fun q=>?_,fun q o e=>?_,.inl ⟨rfl,fun p z=>nomatch z⟩⟩,⟨x,y,z,zh,h2⟩,_,rfl⟩
 ·by_cases c:q=b
  ·rw [c,zh,h1];exact .inl rfl
  ·rw [zu c]
   cases e:M0 q with
   | none=>exact .inr ⟨rfl,rfl⟩
   | some o=>exact .inl (by rw [s.fr q (by rw [e];exact fun z=>nomatch z) c,e])
 ·by_cases c:q=b
  ·rw [c,zh] at e
   cases e
   exact .inr fun r hr=>absurd hr (xI (ds:=[.int x,.int y,.int z]) rfl r)
  ·rw [zu c] at e;exact .inl e
theorem SB.rt {M0 M:MH}{b:Addr}{N:Nat}{Q:AK}{d:Dat}(s:SB M0 M b N)(q:∀ M',BxS M0 M' b N->Q (.d d) M'):rtA M0 Q (.d d) M:=by
 obtain ⟨M'',f,t⟩:=s.fin d
 exact ⟨_,_,f,q M'' t⟩
theorem SB.frz {M0 M:MH}{b p:Addr}{N:Nat}{Q:AK}{l:List AV}{ds:List Dat}(s:SB M0 M b N)(h0:M0 p=none)(hpb:p ≠ b)(h:M p=some (.lst l))(hp:pur l=some ds)(q:∀ M',BxS M0 M' b N->Q (.d (.lst ds)) M'):rtA M0 Q (.ref p) M:=by
 obtain ⟨M'',f,t⟩:=s.fin (.lst ds)
 refine ⟨_,M'',⟨f.sub,f.cl,.inr (.inl ⟨p,l,ds,rfl,h,hp,?_,rfl⟩)⟩,q M'' t⟩
 rw [t.at hpb];exact h0
theorem xV {M0 M:MH}{Q:AK}{d:Dat}(f:Fr M0 M)(q:Q (.d d) M0):rtA M0 Q (.d d) M:=⟨_,_,qB f d,q⟩
theorem SB.frm {M M2 M':MH}{b:Addr}{N:Nat}(f:Fr M M2)(hb:M b=none)(s:SB M2 M' b N):Fr M M':=fun q hq=>by
 have h1:q ≠ b:=fun z=>hq (by rw [z];exact hb)
 rw [s.fr q (by rw [f q hq];exact hq) h1,f q hq]
theorem LA {l:List Dat}{i:Int}(h0:0<=i)(h1:i<l.length):∃ d ∈ l,atI (l.map AV.d) i=some (.d d):=by
 have h2:i.toNat<l.length:=by omega
 refine ⟨l[i.toNat],List.getElem_mem h2,?_⟩
 rw [Xb,Vw h0 h1 .non,List.getD_eq_getElem?_getD,List.getElem?_eq_getElem h2];rfl
section
variable {X:Cx}
end
section
open PySem.SeqAt
open PySem.AutoSeq1 (wpAny_loadPart')
open PySem.MeetsSeq PySem.MeetsSeq2 PySem.MeetsSeq3 PySem.SeqRoads2
end
section
variable {X:Cx}
end
section
variable {X:Cx}{pins:List (Addr × Obj)}{σ:St}{H:Hp}{s:Shared}{a b:Addr}{kvs:List (List Key × V)}{k:List Key}{v:V}{r:Value}{A:Around}{E:Value->Shared->Prop}
end
section
variable {prog:Program}{w:World}{A:Around}{E:Value->Shared->Prop}{s:Shared}
end
section
variable {X:Cx}
end
noncomputable def fl2 (o:Obj):Option Value:=match o.data with
 | .fields vs=>vs[2]?
 | _=>none
noncomputable def SmD (h h':Heap):Prop:=∀ b o,h.get? b=some o->∃ o',h'.get? b=some o'/\o'.dict=o.dict/\fl2 o'=fl2 o
theorem SmD.refl (h:Heap):SmD h h:=fun _ o e=>⟨o,e,rfl,rfl⟩
theorem SmD.trans {h h1 h2:Heap}(a:SmD h h1)(b:SmD h1 h2):SmD h h2:=fun c o e=>
 let ⟨_,e1,d1,f1⟩:=a c o e
 let ⟨o2,e2,d2,f2⟩:=b c _ e1
 ⟨o2,e2,d2.trans d1,f2.trans f1⟩
theorem SmD.push (h:Heap)(o:Obj):SmD h (h.push o):=fun _ u e=>⟨u,Heap.get?_push_of_some _ e,rfl,rfl⟩
theorem SmD.up {h:Heap}{a:Addr}{f:Obj->Obj}(k:∀ o,(f o).dict=o.dict/\fl2 (f o)=fl2 o/\(o.isFreed=false->(f o).isFreed=false)):SmD h (h.update a f):=fun b o e=>by
 by_cases c:a=b
 ·subst c
  exact ⟨_,Heap.get?_update_self f e ((k o).2.2 (Heap.get?_some_iff.mp e).2),(k o).1,(k o).2.1⟩
 ·exact ⟨o,(Heap.get?_update_other _ _ c).trans e,rfl,rfl⟩
structure Kd {α:Type}(t:Sem α):Prop where
 out:∀ (M:Model) (G:PySem.Ctx) (R:α->Pos->Shared->Prop) (Ee:Value->Pos->Shared->Prop) (p:Pos) (s:Shared),Sem.wp M G t R Ee p s->Sem.wp M G t (fun a p' s'=>R a p' s'/\SmD s.heap s'.heap) Ee p s
section
variable {α β:Type}
theorem Z8 (a:α):Kd (Pure.pure a:Sem α):=⟨fun _ _ _ _ _ s h=>⟨h,SmD.refl _⟩⟩
theorem Hz (x:String):Kd (unsupported x:Sem α):=⟨fun _ _ _ _ _ _ h=>h⟩
theorem Xz {m:Sem α}{f:α->Sem β}(hm:Kd m)(hf:∀ a,Kd (f a)):Kd (m >>= f):=⟨fun M G R Ee p s h=>by
 rw [Sem.wp_bind'] at h ⊢
 refine Sem.wp_mono M G m (fun a p1 s1 h1=>?_) (fun _ _ _ z=>z) p s (hm.out M G _ Ee p s h)
 refine Sem.wp_mono M G (f a) (fun b p2 s2 h2=>⟨h2.1,h1.2.trans h2.2⟩) (fun _ _ _ z=>z) p1 s1 ((hf a).out M G R Ee p1 s1 h1.1)⟩
theorem F4 {c:Prop}[Decidable c]{t u:Sem α}(ht:Kd t)(hu:Kd u):Kd (if c then t else u):=by split <;> assumption
theorem B2 (a:Addr):Kd (PySem.load a):=⟨fun _ _ R _ p s h=>by
 unfold PySem.load at h ⊢
 rw [Sem.wp_load] at h ⊢
 obtain ⟨o,e,h⟩:=h
 exact ⟨o,e,h,SmD.refl _⟩⟩
theorem Yl {a:Addr}{f:Obj->Obj}(k:∀ o,(f o).dict=o.dict/\fl2 (f o)=fl2 o/\(o.isFreed=false->(f o).isFreed=false)):Kd (PySem.update a f):=⟨fun _ _ R _ p s h=>by
 unfold PySem.update at h ⊢
 rw [Sem.wp_update] at h ⊢
 exact ⟨h.1,h.2,SmD.up k⟩⟩
theorem W0:Kd PySem.stack:=⟨fun M G R Ee p s h=>by
 unfold PySem.stack at h ⊢
 rw [Sem.wp_stack] at h ⊢
 exact ⟨h,SmD.refl _⟩⟩
theorem WF (o:Obj):Kd (PySem.alloc o):=⟨fun _ _ R _ p s h=>by
 unfold PySem.alloc at h ⊢
 rw [Sem.wp_alloc] at h ⊢
 exact ⟨h,SmD.push _ _⟩⟩
theorem WM (v:Value)(i:Nat):Kd (PySem.field v i):=⟨fun _ G R Ee p s h=>by
 obtain ⟨a,o,vs,x,e1,e2,e3,e4,q⟩:=(wp_field_iff G v i R Ee p s).mp h
 exact (wp_field_iff G v i _ Ee p s).mpr ⟨a,o,vs,x,e1,e2,e3,e4,q,SmD.refl _⟩⟩
theorem X5 {i:Nat}(hi:i ≠ 2)(x:Value)(o:Obj):(Obj.mapFields (·.setIfInBounds i x) o).dict=o.dict/\fl2 (Obj.mapFields (·.setIfInBounds i x) o)=fl2 o/\(o.isFreed=false->(Obj.mapFields (·.setIfInBounds i x) o).isFreed=false):=by
 obtain ⟨c,d,dt,sl⟩:=o
 cases dt
 case fields vs=>exact ⟨rfl,Array.getElem?_setIfInBounds_ne hi,fun h=>h⟩
 all_goals exact ⟨rfl,rfl,fun h=>h⟩
theorem QU (v:Value)(i:Nat)(x:Value)(hi:i ≠ 2):Kd (PySem.setField v i x):=⟨fun _ G R Ee p s h=>by
 obtain ⟨a,o,vs,e1,e2,e3,e4,q⟩:=(wp_setField_iff G v i x R Ee p s).mp h
 exact (wp_setField_iff G v i x _ Ee p s).mpr ⟨a,o,vs,e1,e2,e3,e4,q,SmD.up (X5 hi x)⟩⟩
end
local macro_rules | `(tactic| walk_at "kd")=>`(tactic| repeat' with_reducible first
  | assumption
  | exact Z8 _
  | exact Hz _
  | exact WM _ _
  | exact QU _ _ _ (by decide)
  | exact B2 _
  | exact W0
  | exact WF _
  | apply F4
  | apply Xz
  | intro _
  | split)
theorem Y2 (env:Env)(outer:List Env):Kd (behindIsImport env outer):=by
 unfold behindIsImport
 walk_at "kd"
theorem YO:Kd underTheClaimsCaller:=by
 unfold underTheClaimsCaller
 walk_at "kd"
theorem Ez (env:Env)(i:Bool)(l:List Env):Kd (keptBack env i l):=by
 have:=YO
 cases l <;> unfold keptBack <;> walk_at "kd"
theorem Q3:∀ l:List Env,Kd (readyFrames l)
 | []=>Z8 _
 | env :: outer=>by
  have ih:=Q3 outer
  have h1:=Y2 env outer
  have h2:=fun i=>Ez env i outer
  unfold readyFrames
  walk_at "kd"
  all_goals first | exact h2 _ | exact Yl fun o=>⟨rfl,rfl,fun z=>by obtain ⟨c,d,dt,sl⟩:=o;cases dt <;> exact z⟩ | skip
theorem Qy (l:List Env):Kd (frameObject l):=by
 cases l with
 | nil=>exact Z8 _
 | cons env outer=>
  have:=Q3 (env :: outer)
  unfold frameObject
  walk_at "kd"
theorem ZT:Kd frameEnvs:=by
 unfold frameEnvs
 walk_at "kd"
theorem JE (env:Env):Kd (PySem.frameOf env):=by
 have h1:=ZT
 have h2:=Qy
 unfold PySem.frameOf
 walk_at "kd"
 all_goals first | exact h2 _ | skip
theorem W5 (f:Addr)(b:Bool):Kd (entryPlaceOf f b):=by
 unfold entryPlaceOf
 walk_at "kd"
theorem WP (a b c d e:Value)(l:List Value):Kd (EntryCells.newEntry a b c d e l):=by
 unfold EntryCells.newEntry newFields newObj newObjAsIs
 walk_at "kd"
theorem ZE (e:Value)(env:Env):Kd (noteFrame e env):=by
 have h1:=JE env
 have h2:=W5
 have h3:=WP
 unfold noteFrame
 walk_at "kd"
 all_goals first | exact h2 _ _ | exact h3 _ _ _ _ _ _ | skip
theorem xG (e:Value)(f:Option Addr):Kd (setFlight e f):=by
 unfold setFlight
 walk_at "kd"
theorem vQ (env:Env)(e:Value):Kd (leaving env e):=Xz (ZE e env) fun _=>xG e none
theorem Kd.any {α:Type}{t:Sem α}(k:Kd t){M:Model}{A:Around}{Q:α->Shared->Prop}{E:Value->Shared->Prop}{s:Shared}(h:wpAny M A t Q E s):wpAny M A t (fun a s'=>Q a s'/\SmD s.heap s'.heap) E s:=
 fun G p hG=>k.out M G _ _ p s (h G p hG)
theorem zW.here {P:Program}{w:World}{H:Hp}{h:Heap}{a:Addr}{o:HO}(x:zW P w H h a o):∃ u,h.get? a=some u:=by
 cases o with
 | lst xs=>obtain ⟨_,_,_,_,e⟩:=x;exact ⟨_,e⟩
 | tup xs=>obtain ⟨_,_,_,o,e,_⟩:=x;exact ⟨_,e⟩
 | dK kvs=>obtain ⟨_,_,_,_,o,_,_,e,_⟩:=x;exact ⟨_,e⟩
 | dT kvs=>obtain ⟨_,_,_,_,o,_,_,e,_⟩:=x;exact ⟨_,e⟩
 | set S n=>obtain ⟨o,_,_,_,e,_⟩:=x;exact ⟨_,e⟩
 | ins C dx fs=>obtain ⟨_,_,_,e,_⟩:=x;exact ⟨_,e⟩
 | own y=>exact x
 | xd fs=>obtain ⟨_,⟨_,_,_,e,_⟩,_⟩:=x;exact ⟨_,e⟩
 | rng lo hi=>obtain ⟨_,_,_,e⟩:=x;exact ⟨_,e⟩
 | frz ob u=>obtain ⟨e,_⟩:=x;exact ⟨_,e⟩
 | tbl ps=>exact ⟨_,x⟩
 | met f y=>exact ⟨_,x⟩
 | ext φ=>exact x.2.1
structure xT (P:Program)(w:World)(outer:List Env)(H:Hp)(s:Shared)(B:Heap)(H':Hp)(s':Shared):Prop where
 os:s'.os=s.os
 bare:AllBare s'.gens
 stay:B.StaysIn s'.heap
 cov:∀ b o,s.heap.get? b=some o->b ∉ frs outer->∃ o',B.get? b=some o'/\(H b=none->o'=o)
 slot:∀ b o,s.heap.get? b=some o->b ∈ frs outer->∃ sl,s'.heap.get? b=some { o with slots:=sl }
 frf:∀ b ∈ frs outer,H b=none
 free:∀ b o,s.heap.get? b=some o->H b=none->H' b=none
 tups:∀ b xs,H b=some (.tup xs)->H' b=some (.tup xs)
 frzs:∀ b o u,H b=some (.frz o u)->H' b=some (.frz o u)
 tbls:∀ b ps,H b=some (.tbl ps)->∃ more,H' b=some (.tbl (ps ++ more))
 hok:HOk P w H' B
section
variable {P:Program}{w:World}{outer:List Env}{H H':Hp}{s s':Shared}{B h':Heap}
theorem xT.un (a:xT P w outer H s B H' s'):Un (frs outer) [] H H' s.heap s'.heap where
 keep:=fun b o e n hb _=>by
  obtain ⟨o',e1,e2⟩:=a.cov b o e hb
  rw [e2 n] at e1
  exact a.stay b o e1
 slot:=fun b o e _ hb _=>a.slot b o e hb
 free:=fun b o e n _=>a.free b o e n
 there:=fun b o e _=>by
  by_cases hb:b ∈ frs outer
  ·obtain ⟨sl,z⟩:=a.slot b o e hb
   exact ⟨_,z⟩
  ·obtain ⟨o',e1,_⟩:=a.cov b o e hb
   exact ⟨_,a.stay b o' e1⟩
 tups:=a.tups
 frzs:=a.frzs
 tbls:=a.tbls
theorem xT.ok (a:xT P w outer H s B H' s'):HOk P w H' s'.heap:=a.hok.kept a.stay
theorem xT.step (a:xT P w outer H s B H' s'){B0:Heap}(fr:s'.heap.FunFrames B0 outer)(k:B.StaysIn h')(u:s'.heap.UpToSlots h'):xT P w outer H s B H' { s' with heap:=h' }:=
 ⟨a.os,a.bare,k,a.cov,fun b o e hb=>by
  obtain ⟨sl,z⟩:=a.slot b o e hb
  obtain ⟨_,o2,e2,nf⟩:=fr.mem hb
  rw [z] at e2;cases e2
  obtain ⟨sl2,z2⟩:=u b _ z nf
  exact ⟨sl2,z2⟩,a.frf,a.free,a.tups,a.frzs,a.tbls,a.hok⟩
end
section
variable {X:Cx}{pins:List (Addr × Obj)}{σ:St}{H H':Hp}{s s':Shared}{B h':Heap}
theorem Inv.ltS (I:Inv X pins σ H s){b:Addr}{o:Obj}(e:X.s₀.heap.get? b=some o):b ≠ X.env.locals:=fun z=>by
 have h:=Nat.lt_of_lt_of_le (Heap.lt_size e) I.ok.above
 rw [z] at h
 exact Nat.lt_irrefl _ h
theorem Inv.notStk (I:Inv X pins σ H s){b:Addr}{o:Obj}(e:X.s₀.heap.get? b=some o)(hb:b ∉ frs X.outer):b ∉ frs X.stack:=fun z=>(List.mem_cons.mp (I.stkSub b z)).elim (I.ltS e) hb
theorem yI {X:Cx}(hs:X.stack=X.env :: X.outer){b:Addr}(hb:b ∈ frs X.outer):b ∈ frs X.stack:=by
 rw [hs];unfold frs;rw [List.filterMap_cons]
 cases X.env.frame with
 | none=>exact hb
 | some f=>exact List.mem_cons_of_mem _ hb
theorem xT.out (I:Inv X pins σ H s)(hs:X.stack=X.env :: X.outer)(hex:X.ex=[])(a:xT X.prog X.w X.stack H s B H' s'):xT X.prog X.w X.outer X.H₀ X.s₀ B H' s':=by
 have nx:∀ b,b ∉ X.ex:=fun b=>by rw [hex];simp
 refine ⟨a.os.trans I.os,a.bare,a.stay,fun b o e hb=>?_,fun b o e hb=>?_,I.ok.frf,fun b o e n=>?_,fun b xs e=>a.tups b xs (I.base.tups b xs e),fun b o u e=>a.frzs b o u (I.base.frzs b o u e),fun b ps e=>?_,a.hok⟩
 ·obtain ⟨o1,e1⟩:=I.base.there b o e (nx b)
  obtain ⟨o',e2,e3⟩:=a.cov b o1 e1 (I.notStk e hb)
  refine ⟨o',e2,fun n=>?_⟩
  have:=I.base.keep b o e n hb (nx b)
  rw [e1] at this;cases this
  exact e3 (I.base.free b o e n (nx b))
 ·obtain ⟨sl,e1⟩:=I.base.slot b o e (I.ok.frf b hb) hb (nx b)
  obtain ⟨sl2,e2⟩:=a.slot b _ e1 (yI hs hb)
  exact ⟨sl2,e2⟩
 ·obtain ⟨o1,e1⟩:=I.base.there b o e (nx b)
  exact a.free b o1 e1 (I.base.free b o e n (nx b))
 ·obtain ⟨m1,e1⟩:=I.base.tbls b ps e
  obtain ⟨m2,e2⟩:=a.tbls b _ e1
  exact ⟨m1 ++ m2,by rw [e2,Array.append_assoc]⟩
noncomputable def jt (X:Cx)(s:Shared)(x:Addr):Heap:=PySem.W.hideAll s.heap (x :: frs X.stack)
theorem Ky (I:Inv X pins σ H s){x:Addr}(hx:H x=none):HOk X.prog X.w H (jt X s x):=fun a o e=>by
 refine (I.hok a o e).stay (fun b u hb q=>PySem.W.hideAll_get _ q fun z=>?_) (fun _ q=>q) fun _ _ q=>q
 have:H b=none:=by
  rcases List.mem_cons.mp z with rfl | z
  ·exact hx
  ·exact I.stkFree b z
 rcases hb with rfl | hb
 ·rw [e] at this;cases this
 ·rw [hb] at this;cases this
theorem JN (I:Inv X pins σ H s)(hs:X.stack=X.env :: X.outer)(hex:X.ex=[]){x:Addr}(hx0:X.s₀.heap.get? x=none)(hx:H x=none)(st:(jt X s x).StaysIn h')(us:s.heap.UpToSlots h') :
  xT X.prog X.w X.outer X.H₀ X.s₀ (jt X s x) H { s with heap:=h' }:=by
 have nx:∀ b,b ∉ X.ex:=fun b=>by rw [hex];simp
 have hid:∀ b o o',X.s₀.heap.get? b=some o->b ∉ frs X.outer->s.heap.get? b=some o'->(jt X s x).get? b=some o':=fun b o o' e hb e1=>PySem.W.hideAll_get _ e1 fun z=>by
  rcases List.mem_cons.mp z with rfl | z
  ·rw [hx0] at e;cases e
  ·exact I.notStk e hb z
 refine ⟨I.os,I.bare,st,fun b o e hb=>?_,fun b o e hb=>?_,I.ok.frf,fun b o e n=>I.base.free b o e n (nx b),I.base.tups,I.base.frzs,I.base.tbls,Ky I hx⟩
 ·obtain ⟨o1,e1⟩:=I.base.there b o e (nx b)
  refine ⟨o1,hid b o o1 e hb e1,fun n=>?_⟩
  have:=I.base.keep b o e n hb (nx b)
  rw [e1] at this;cases this;rfl
 ·obtain ⟨sl,e1⟩:=I.base.slot b o e (I.ok.frf b hb) hb (nx b)
  obtain ⟨_,o2,e2,nf⟩:=I.stack.mem (yI hs hb)
  rw [e1] at e2;cases e2
  obtain ⟨sl2,e3⟩:=us b _ e1 nf
  exact ⟨sl2,e3⟩
end
noncomputable def Two (d:Option Addr)(H:Hp):Prop:=∃ dx fs,d=some dx/\H dx=some (.xd fs)/\2<=fs.length
structure Air (P:Program)(w:World)(outer:List Env)(H:Hp)(s:Shared)(x C:Addr)(d:Option Addr)(H':Hp)(s':Shared):Prop where
 ex:∃ B a0,xT P w outer H s B H' s'/\Heap.FlyingW B outer x (.ref C) a0 s'.heap
 dct:∃ o,s'.heap.get? x=some o/\o.dict=d/\(fl2 o=some .none \/ Two d H')
noncomputable def CX1 (P:Program)(w:World):CXT:=fun outer H s E e s'=>∃ x C d H',e=.ref x/\Air P w outer H s x C d H' s'/\E (.ref C) d H'
theorem CX1.imp {P:Program}{w:World}{outer:List Env}{H:Hp}{s s':Shared}{E E':XK}{e:Value}(h:CX1 P w outer H s E e s')(k:∀ c d H',E c d H'->E' c d H'):CX1 P w outer H s E' e s':=
 let ⟨x,C,d,H',e1,a,q⟩:=h
 ⟨x,C,d,H',e1,a,k _ _ _ q⟩
structure DX (X:Cx)(E:XK):Prop where
 stk:X.stack=X.env :: X.outer
 ex:X.ex=[]
 fr:X.env.frame=some X.env.locals
 xe:X.xe=fun e s'=>wpAny (model X.prog X.w) X.A (leaving X.env e) (fun _ s''=>CX1 X.prog X.w X.outer X.H₀ X.s₀ E e s'') (fun e' s''=>CX1 X.prog X.w X.outer X.H₀ X.s₀ E e' s'') s'
section
variable {X:Cx}{E:XK}{pins:List (Addr × Obj)}{σ:St}{H H':Hp}{s s':Shared}
theorem DX.pass (D:DX X E):xh (CX1 X.prog X.w) X E:=by
 intro pins σ H s e s' I h
 obtain ⟨x,C,d,H',rfl,⟨⟨B,a0,a,fl⟩,o,ho,hd,h2⟩,q⟩:=h
 rw [D.xe]
 have hs:=D.stk
 rw [hs] at fl
 refine wpAny_mono ((vQ X.env (.ref x)).any (wpAny_leaves_onW (E:=fun _ _=>False) (Q:=fun _ s2=>∃ h',s2={ s' with heap:=h' }/\Heap.FlyingW B X.outer x (.ref C) a0 h'/\s'.heap.UpToSlots h') (by rw [<- hs];exact I.ok.frames) D.fr fl fun h' f1 us=>⟨h',rfl,f1,us⟩)) (fun _ s2 h2=>?_) fun _ _ z=>z.elim
 obtain ⟨⟨h',rfl,f1,us⟩,sd⟩:=h2
 obtain ⟨o',ho',hd',hf'⟩:=sd x o ho
 exact ⟨x,C,d,H',rfl,⟨⟨B,a0,(a.out I hs D.ex).step (B0:=B) (by
  obtain ⟨_,_,f3,_⟩:=fl
  exact f3.2.2) f1.1 us,f1⟩,o',ho',hd'.trans hd,h2.imp (fun z=>hf'.trans z) id⟩,q⟩
theorem DX.raise (D:DX X E)(I:Inv X pins σ H s){x C:Addr}{d:Option Addr}{oe:Obj}{vs:Array Value}{a0:Value}{h1:Heap}(k:∀ b o,b ≠ x->s.heap.get? b=some o->h1.get? b=some o)(kx:∀ o,s.heap.get? x=some o->∃ vs,o.data=.fields vs)
  (he:h1.get? x=some oe) (hc:oe.cls=.ref C) (hd:oe.dict=d) (hf:oe.data=.fields vs) (hv1:vs[1]?=some .none) (hv0:vs[0]?=some a0) (hv2:vs[2]?=some .none \/ Two d H) (hx0:X.s₀.heap.get? x=none) (hx:H x=none) (q:E (.ref C) d H):X.xe (.ref x) { s with heap:=h1 }:=by
 rw [D.xe]
 have hs:=D.stk
 have st1:(jt X s x).StaysIn h1:=fun b o e=>k b o (fun z=>by rw [z,jt,PySem.W.hideAll_none _ (List.mem_cons_self)] at e;cases e) (PySem.W.of_hideAll _ e)
 have us1:s.heap.UpToSlots h1:=fun b o e nf=>by
  by_cases c:b=x
  ·rw [c] at e
   obtain ⟨vs,z⟩:=kx o e
   exact absurd z (nf vs)
  ·exact ⟨o.slots,k b o c e⟩
 have fr0:s.heap.FunFrames (jt X s x) (X.env :: X.outer):=by
  have:=I.stack
  rw [hs] at this
  exact PySem.W.funFrames_hide this fun env he b hb=>List.mem_cons_of_mem _ (by rw [hs];exact List.mem_filterMap.mpr ⟨env,he,hb⟩)
 have fr1:h1.FunFrames (jt X s x) (X.env :: X.outer):=fr0.of_keeps fun b o e nf=>by
  obtain ⟨sl,z⟩:=us1 b o e nf
  exact ⟨_,z,rfl⟩
 have xn:(jt X s x).get? x=none:=PySem.W.hideAll_none _ List.mem_cons_self
 refine wpAny_mono ((vQ X.env (.ref x)).any (wpAny_leaving_firstW (s:={ s with heap:=h1 }) (E:=fun _ _=>False) (base:=jt X s x) (Q:=fun _ s2=>∃ h',s2={ s with heap:=h' }/\Heap.LeftW (jt X s x) (X.env :: X.outer) x oe.cls a0 h1 h') (by rw [<- hs];exact I.ok.frames) fr1 D.fr he st1 xn hf hv1 hv0 fun h' hl=>⟨h',rfl,hl⟩)) (fun _ s2 h2=>?_) fun _ _ z=>z.elim
 obtain ⟨⟨h',rfl,l1,l2,l3,l4⟩,sd⟩:=h2
 obtain ⟨o',ho',hd',hf'⟩:=sd x oe he
 have hff:fl2 oe=vs[2]?:=by unfold fl2;rw [hf]
 rw [hc] at l3
 exact ⟨x,C,d,H,rfl,⟨⟨jt X s x,a0,JN I hs D.ex hx0 hx l1 (us1.trans l4),l1,xn,l2.2.2,l3⟩,o',ho',hd'.trans hd,hv2.imp (fun z=>(hf'.trans hff).trans z) id⟩,q⟩
end
noncomputable def y4 (CX:CXT)(X:Cx)(E:St->XK):Prop:=∀ (pins:List (Addr × Obj)) (σ:St) (H:Hp) (s:Shared) (e:Value) (s':Shared),Inv X pins σ H s->CX X.stack H s (E σ) e s'->X.xe e s'
noncomputable def JJ (sp:Sp)(E:St->XK)(t:TA):TE:=fun σ H Q=>t σ H fun vs H1=>sp vs H1 Q (E σ)
noncomputable def DfX (P:Program)(w:World)(K:PySem.W.Frag)(mg:Str->Option Value)(base:Heap)(x:Str)(ps:List Str)(k:Nat)(sp:Sp):Prop:=
 ∃ f fd,jx P w K mg base (CX1 P w) k f fd ps sp/\jB K fd ps []/\PySem.W.keepIn K (.ref f)=true/\mg x=some (.ref f)
section
variable {X:Cx}{k:Nat}{x:Str}{ps:List Str}{sp:Sp}{E:St->XK}{p pos:Pos}{e:Expr}{es:List Expr}{t:TA}
theorem KZ {CX:CXT}{f:Addr}{fd:FuncData}{pins:List (Addr × Obj)}{σ:St}{H:Hp}{s:Shared}{Q:VK}{us:List Value}{vs:List V}(F:jx X.prog X.w X.K X.mg X.base CX k f fd ps sp)(hr:ql k X.A)(hb:jB X.K fd ps [])(hx:y4 CX X E)
  (I:Inv X pins σ H s) (r:zG vs us) (h:sp vs H Q (E σ)):wpAny (model X.prog X.w) X.A (call (.ref f) us) (EP X pins σ Q) X.xe s:=by
 have hl:(us ++ []).length=ps.length:=by rw [List.append_nil,<- r.length];exact F.len _ _ _ _ h
 have b1:=hb s us I.kIn hl
 rw [List.append_nil] at b1
 refine wpAny_call (codeAny_mono (F.run X.A X.stack s H ⟨us,[]⟩ us vs Q (E σ) hr I.env0 b1 r h) fun r s' hq=>?_)
 cases r with
 | error e=>exact hx pins σ H s e s' I hq
 | ok fl=>
  cases fl with
  | ret u=>exact I.after hq
  | next=>exact False.elim hq
  | brk=>exact False.elim hq
  | cont=>exact False.elim hq
theorem E5 (D:DfX X.prog X.w X.K X.mg X.base x ps k sp)(hr:ql k X.A)(hg:Gl X x)(hx:y4 (CX1 X.prog X.w) X E)(ha:PA X (e :: es) t)(hdb:(x == ("__debug__":Str))=false:=by decide)
  (he:starEach (e :: es) X.env=(false,eval e X.env) :: starEach es X.env:=by rfl) (hpl:(backTo pos (starEach es X.env)).any (·.1)=false:=by rfl):PE X (.Call (.Name x p) (e :: es) [] pos) (JJ sp E t):=by
 obtain ⟨f,fd,F,b,kp,m⟩:=D
 intro pins s σ H Q I h
 refine wpAny_Call_Name_kw (ki I hg m ?_ hdb)
 refine PySem.W.callWith_K (h₀:=X.base) I.ok.mod.kin kp (thn (ha pos pins s σ H _ I h) fun us s1 ⟨vs,H1,I1,r,q⟩=>⟨I1.kIn,?_⟩) he hpl
 exact KZ F hr b hx I1 r q
theorem DX.passX {E0:XK}(D:DX X E0):y4 (CX1 X.prog X.w) X fun _=>E0:=fun pins σ H s e s' I h=>D.pass pins σ H s e s' I h
end
theorem F6 {P:Program}{w:World}{K:PySem.W.Frag}{mg:Str->Option Value}{base:Heap}{x:Str}{st:Stmt}{N ps:List Str}{k:Nat}{sp:Sp}(a:At K mg x st)(S:zt N ps (ze st))
  (hb:∀ (kV doc pm:Value) (an:Option Addr) (cdv ct:Value) (us:List Value),us.length=ps.length->bindArgs (PySem.W.fnOf x x (qm st) (zM st) (ze st) .none kV doc pm an cdv ct) ⟨us,[]⟩=pure (ps.zip us))
  (len:∀ vs H Q E,sp vs H Q E->vs.length=ps.length)
  (hbody:∀ (f:Addr) (cdv:Value) (A:Around) (outer:List Env) (s:Shared) (H:Hp) (vs:List V) (Q:VK) (E:XK),ql k (A.deeper (envOfC x (ze st) s.heap.objs.size f cdv))->sp vs H Q E ->
   ∃ t,(DX (jD (CX1 P w) P w K mg base N x (ze st) f cdv A outer s H E) E->PSs (jD (CX1 P w) P w K mg base N x (ze st) f cdv A outer s H E) (zM st) t)/\t { nx:=fun _ H'=>Q .non H',rt:=Q } (qL N vs) H):DfX P w K mg base x ps (k+1) sp:=by
 obtain ⟨f,fd,F,m⟩:=a
 refine ⟨f,fd,?_,F.binds hb,F.kp,m⟩
 obtain ⟨oc,od,kV,doc,pm,an,cdv,ct,osl,rfl,lk,hcd⟩:=F.ex
 refine Vp lk hcd S len fun A outer s H vs Q E hr hsp=>?_
 obtain ⟨t,ht,q⟩:=hbody f cdv A outer s H vs Q E hr hsp
 exact ⟨t,ht ⟨rfl,rfl,rfl,rfl⟩,q⟩
abbrev vG:List Value:=[.type "ValueError",.type "Exception",.type "BaseException",.type "object"]
section
variable {X:Cx}{E:XK}{C:Addr}{x:Str}{np cpos pos:Pos}{e:Expr}{es:List Expr}{t:TA}
end
theorem DA {P:Program}{w:World}{H:Hp}{h:Heap}{a C:Addr}{d:Option Addr}{o:Obj}{vs:Array Value}(e:h.get? a=some o)(hc:o.cls=.ref C)(hd:o.dict=d)(hf:o.data=.fields vs):zW P w H h a (Ka a C d):=
 ⟨⟨o,e,hc,hd,vs,hf⟩,⟨o,e⟩,fun _ _ ⟨o,e,r⟩ k=>⟨o,k o e,r⟩⟩
section
variable {X:Cx}{pins:List (Addr × Obj)}{σ:St}{H H':Hp}{s s':Shared}
theorem Inv.track (I:Inv X pins σ H s){x:Addr}{o:HO}(hx:H x=none)(h0:X.s₀.heap.get? x=none)(hl:x ≠ X.env.locals)(hc:∀ y c,X.env.cells.lookup y=some c->c ≠ x)(hp:∀ p ∈ X.pn ++ pins,p.1 ≠ x)(ok:zW X.prog X.w (upd H x o) s.heap x o):Inv X pins σ (upd H x o) s:=by
 refine ⟨I.ok,I.os,I.bare,⟨I.base.keep,I.base.slot,fun b u e n hb=>?_,I.base.there,fun b xs e=>?_,fun b u v e=>?_,fun b ps e=>?_⟩,I.loc,I.cell,?_,fun y c e=>?_,fun p hp'=>?_,fun b u e=>?_,I.len⟩
 ·rw [zi (fun z=>by rw [z,h0] at e;cases e)];exact I.base.free b u e n hb
 ·have:=I.base.tups b xs e;rw [zi (zn this hx)];exact this
 ·have:=I.base.frzs b u v e;rw [zi (zn this hx)];exact this
 ·obtain ⟨m,this⟩:=I.base.tbls b ps e;exact ⟨m,by rw [zi (zn this hx)];exact this⟩
 ·rw [zi (Ne.symm hl)];exact I.free
 ·rw [zi (hc y c e)];exact I.freeC y c e
 ·obtain ⟨e1,e2,e3⟩:=I.pin p hp'
  exact ⟨e1,by rw [zi (hp p hp')];exact e2,e3⟩
 ·by_cases c:b=x
  ·subst c;rw [zk] at e;cases e;exact ok
  ·rw [zi c] at e
   exact (I.hok b u e).stay (fun _ _ _ q=>q) (fun d q=>by rw [zi (zn q hx)];exact q) fun d xs q=>by rw [zi (zn q hx)];exact q
end
noncomputable abbrev Cx.tried (X:Cx)(pins:List (Addr × Obj))(xe:Value->Shared->Prop):Cx:={ X with pn:=X.pn ++ pins,xe:=xe }
noncomputable abbrev Cx.inside (X:Cx)(x:Addr):Cx:={ X with A:=X.A.mark (some (.ref x)),calm:=false,xe:=fun _ _=>False }
theorem Cx.Ok.tried {X:Cx}(ok:X.Ok)(pins:List (Addr × Obj))(xe:Value->Shared->Prop):(X.tried pins xe).Ok:=
 ⟨ok.mod,ok.kind,ok.glob,ok.blt,ok.above,ok.inj,ok.has,ok.cab,ok.hd,ok.frames,ok.stk,ok.exf,ok.bs,ok.bsz,ok.noex,ok.exfs,ok.funs,ok.frf⟩
theorem Cx.Ok.untried {X:Cx}{pins:List (Addr × Obj)}{xe:Value->Shared->Prop}(ok:(X.tried pins xe).Ok):X.Ok:=
 ⟨ok.mod,ok.kind,ok.glob,ok.blt,ok.above,ok.inj,ok.has,ok.cab,ok.hd,ok.frames,ok.stk,ok.exf,ok.bs,ok.bsz,ok.noex,ok.exfs,ok.funs,ok.frf⟩
theorem Cx.Ok.inside {X:Cx}(ok:X.Ok)(x:Addr):(X.inside x).Ok:=
 ⟨ok.mod,ok.kind,ok.glob,ok.blt,ok.above,ok.inj,ok.has,ok.cab,(fun z=>nomatch z),ok.frames,ok.stk,ok.exf,ok.bs,ok.bsz,ok.noex,ok.exfs,ok.funs,ok.frf⟩
section
variable {X:Cx}{pins pins':List (Addr × Obj)}{σ:St}{H:Hp}{s s':Shared}{xe:Value->Shared->Prop}
theorem Inv.tried (I:Inv X pins σ H s)(xe:Value->Shared->Prop):Inv (X.tried pins xe) [] σ H s:=⟨I.ok.tried pins xe,I.os,I.bare,I.base,I.loc,I.cell,I.free,I.freeC,fun p hp=>I.pin p (by rw [List.append_nil] at hp;exact hp),I.hok,I.len⟩
theorem Inv.untried (I:Inv (X.tried pins xe) pins' σ H s):Inv X pins σ H s:=⟨I.ok.untried,I.os,I.bare,I.base,I.loc,I.cell,I.free,I.freeC,fun p hp=>I.pin p (List.mem_append_left _ hp),I.hok,I.len⟩
theorem Inv.inside (I:Inv X pins σ H s)(x:Addr):Inv (X.inside x) pins σ H s:=⟨I.ok.inside x,I.os,I.bare,I.base,I.loc,I.cell,I.free,I.freeC,I.pin,I.hok,I.len⟩
theorem Inv.outside {x:Addr}(ok:X.Ok)(I:Inv (X.inside x) pins σ H s):Inv X pins σ H s:=⟨ok,I.os,I.bare,I.base,I.loc,I.cell,I.free,I.freeC,I.pin,I.hok,I.len⟩
theorem SP.untried {D:xX}{f:Flow}(h:SP (X.tried pins xe) [] D f s'):SP X pins D f s':=by
 cases f with
 | next=>obtain ⟨σ',H',I,q⟩:=h;exact ⟨σ',H',I.untried,q⟩
 | brk=>obtain ⟨σ',H',I,q⟩:=h;exact ⟨σ',H',I.untried,q⟩
 | cont=>obtain ⟨σ',H',I,q⟩:=h;exact ⟨σ',H',I.untried,q⟩
 | ret u=>obtain ⟨v,σ',H',I,r,q⟩:=h;exact ⟨v,σ',H',I.untried,r,q⟩
theorem Air.here (I:Inv X pins σ H s)(hs:X.stack=X.env :: X.outer)(hf:X.env.frame=some X.env.locals)(hex:X.ex=[]){B:Heap}{a0:Value}{x C:Addr}{d:Option Addr}{H':Hp}(a:xT X.prog X.w X.stack H s B H' s')(fl:Heap.FlyingW B X.stack x (.ref C) a0 s'.heap)(hd:∃ o,s'.heap.get? x=some o/\o.dict=d/\(fl2 o=some .none \/ Two d H')) :
  H' x=none/\Inv X pins σ (upd H' x (Ka x C d)) s':=by
 obtain ⟨f1,f2,f3,oe,vs,T,oT,ts,he,⟨hc,_⟩,hdt,_⟩:=fl
 obtain ⟨o',ho',hd',_⟩:=hd
 rw [he] at ho';cases ho'
 have hx:H' x=none:=by
  cases z:H' x with
  | none=>rfl
  | some o=>obtain ⟨u,e⟩:=(a.hok x o z).here;rw [f2] at e;cases e
 have I1:Inv X pins σ H' s':=I.call' (ch:=[]) a.os a.un a.ok a.bare (fun b z=>absurd z (by simp))
 have nB:∀ b o,s.heap.get? b=some o->b ∉ frs X.stack->b ≠ x:=fun b o e hb z=>by
  obtain ⟨o',e1,_⟩:=a.cov b o e hb
  rw [z,f2] at e1;cases e1
 refine ⟨hx,I1.track hx ?_ (fun z=>?_) (fun y c e z=>?_) (fun p hp z=>?_) (DA he hc hd' hdt)⟩
 ·cases z:X.s₀.heap.get? x with
  | none=>rfl
  | some o=>
   obtain ⟨o1,e1⟩:=I.base.there x o z (by rw [hex];simp)
   by_cases hb:x ∈ frs X.stack
   ·obtain ⟨_,o2,e2,nf⟩:=f3.mem hb
    rw [he] at e2;cases e2
    exact absurd hdt (nf vs)
   ·exact absurd rfl (nB x o1 e1 hb)
 ·obtain ⟨m,⟨o,es,ep,ho,hdd,_⟩,_⟩:=I1.loc
  rw [<- z,he] at ho;cases ho
  rw [hdt] at hdd;cases hdd
 ·obtain ⟨v,o,ho,hdd⟩:=I1.cell y c e
  rw [z,he] at ho;cases ho
  rw [hdt] at hdd;cases hdd
 ·obtain ⟨e1,e2,e3,e4,_⟩:=I.pin p hp
  refine nB p.1 p.2 e1 (fun w=>?_) z
  rcases List.mem_cons.mp (I.stkSub p.1 w) with q | q
  ·exact e3 q
  ·exact e4 q
end
noncomputable def eh2 (K:PySem.W.Frag)(T:Addr)(th:TS)(D:xX):St->XK:=fun σ1 c d H1=>∃ C,c=.ref C/\PySem.W.exmOne K (.ref C) (.ref T)=some true/\∀ x,H1 x=none->th D σ1 (upd H1 x (Ka x C d))
noncomputable def Vj (K:PySem.W.Frag)(T:Addr)(tb:(St->XK)->TS)(th:TS):TS:=fun D σ H=>tb (eh2 K T th D) D σ H
noncomputable def yU (X:Cx)(H:Hp)(s:Shared)(B:Heap)(x C:Addr)(d:Option Addr)(a0:Value)(H':Hp)(s':Shared):Prop:=
 xT X.prog X.w X.stack H s B H' s'/\Heap.FlyingW B X.stack x (.ref C) a0 s'.heap/\∃ o,s'.heap.get? x=some o/\o.dict=d/\(fl2 o=some .none \/ Two d H')
section
variable {X:Cx}{pins:List (Addr × Obj)}{σ:St}{H H':Hp}{s s':Shared}{B:Heap}{x C:Addr}{d:Option Addr}{a0:Value}
theorem yU.lands {A:Around}{M:Model}{E:Value->Shared->Prop}{Q:Unit->Shared->Prop}(h:yU X H s B x C d a0 H' s')(k:∀ s2,yU X H s B x C d a0 H' s2->Q () s2):wpAny M A (setFlight (.ref x) none) Q E s':=by
 obtain ⟨a,fl,o,ho,hd,h2f⟩:=h
 refine wpAny_mono ((xG (.ref x) none).any (lands_againW (E:=E) (Q:=fun _ s2=>∃ h',s2={ s' with heap:=h' }/\Heap.FlyingW B X.stack x (.ref C) a0 h'/\s'.heap.UpToSlots h') fl fun h' f1 us=>⟨h',rfl,f1,us⟩)) (fun _ s2 h2=>?_) fun _ _ z=>z
 obtain ⟨⟨h',rfl,f1,us⟩,sd⟩:=h2
 obtain ⟨o',ho',hd',hf'⟩:=sd x o ho
 exact k _ ⟨a.step fl.2.2.1 f1.1 us,f1,o',ho',hd'.trans hd,h2f.imp (fun z=>hf'.trans z) id⟩
theorem yU.noted {E:Value->Shared->Prop}{Q:Unit->Shared->Prop}(ok:X.Ok)(hs:X.stack=X.env :: X.outer)(hf:X.env.frame=some X.env.locals)(h:yU X H s B x C d a0 H' s')(k:∀ s2,yU X H s B x C d a0 H' s2->Q () s2) :
  wpAny (model X.prog X.w) X.A (noteFrame (.ref x) X.env) (fun _ s2=>wpAny (model X.prog X.w) X.A (setFlight (.ref x) none) Q E s2) E s':=by
 obtain ⟨a,fl,o,ho,hd,h2f⟩:=h
 have fl':=fl
 rw [hs] at fl'
 refine wpAny_mono ((ZE (.ref x) X.env).any (wpAny_looks_onW (E:=E) (Q:=fun _ s2=>∃ h',s2={ s' with heap:=h' }/\Heap.HeldW B (X.env :: X.outer) x (.ref C) a0 X.env.locals h'/\s'.heap.UpToSlots h') (by rw [<- hs];exact ok.frames) hf fl' fun h' f1 us=>⟨h',rfl,f1,us⟩)) (fun _ s2 h2=>?_) fun _ _ z=>z
 obtain ⟨⟨h',rfl,f1,us⟩,sd⟩:=h2
 obtain ⟨o',ho',hd',hf'⟩:=sd x o ho
 have a2:=a.step fl.2.2.1 f1.1 us
 refine wpAny_mono ((xG (.ref x) none).any (wpAny_landsW (E:=E) (Q:=fun _ s3=>∃ h'',s3={ s' with heap:=h'' }/\Heap.FlyingW B (X.env :: X.outer) x (.ref C) a0 h''/\h'.UpToSlots h'') f1 fun h'' f2 us2=>⟨h'',rfl,f2,us2⟩)) (fun _ s3 h3=>?_) fun _ _ z=>z
 obtain ⟨⟨h'',rfl,f2,us2⟩,sd2⟩:=h3
 obtain ⟨o'',ho'',hd'',hf''⟩:=sd2 x o' ho'
 refine k _ ⟨a2.step (s':={ s' with heap:=h' }) (by rw [hs];exact f1.2.2.1) f2.1 us2,by rw [hs];exact f2,o'',ho'',(hd''.trans hd').trans hd,h2f.imp (fun z=>(hf''.trans hf').trans z) id⟩
variable {body suite:List Stmt}{b₀:Stmt}{n tx:Str}{i:Nat}{T:Addr}{np hpos pos:Pos}{tb:(St->XK)->TS}{th:TS}
theorem DD (hs:X.stack=X.env :: X.outer)(hf:X.env.frame=some X.env.locals)(hex:X.ex=[])(hg:Gl X tx)(hm:X.mg tx=some (.ref T))
  (hb:∀ (pins:List (Addr × Obj)) (xe:Value->Shared->Prop) (Eh:St->XK),y4 (CX1 X.prog X.w) (X.tried pins xe) Eh->PSs (X.tried pins xe) body (tb Eh)) (hh:∀ x,PSs (X.inside x) (b₀ :: suite) th)
  (hdb:(tx == ("__debug__":Str))=false:=by decide):PS X (.Try body [.ExceptHandler (some (.Name tx np)) none (b₀ :: suite) hpos] [] [] pos) (Vj X.K T tb th):=by
 intro pins s σ H D I h
 refine wpAny_Try_except (wpAny_mono (hb pins (fun e s'=>∃ σ1 H1 s1,Inv X pins σ1 H1 s1/\CX1 X.prog X.w X.stack H1 s1 (eh2 X.K T th D σ1) e s') (eh2 X.K T th D) (fun pins' σ1 H1 s1 e s' I1 c=>⟨σ1,H1,s1,I1.untried,c⟩) [] s σ H D (I.tried _) h) (fun f s1 q=>?_) fun e s1 q=>?_)
 ·have q:=q.untried
  cases f with
  | next=>exact wpAny_execs_nil q
  | brk=>exact q
  | cont=>exact q
  | ret u=>exact q
 ·obtain ⟨σ1,H1,s1',I1,x,C,d,H',rfl,⟨⟨B,a0,a,fl⟩,hd⟩,C',eC,hx,q⟩:=q
  cases eC
  refine yU.noted I.ok hs hf ⟨a,fl,hd⟩ fun s3 h3=>?_
  obtain ⟨hx0,I3⟩:=Air.here I1 hs hf hex h3.1 h3.2.1 h3.2.2
  refine wpAny_handleBy_cons (codeAny_handlers_test (ki (I3.inside x) hg hm ?_ hdb)) (by intro z;cases z)
  obtain ⟨oe,vs,he,hc,_⟩:=h3.2.1.first
  have LT:PySem.W.Looks (model X.prog X.w) s3.heap (typeOf (.ref x)) (.ref C):=hc ▸ (PySem.W.Looks.ld he).andThen .now
  refine (PySem.W.exm_one I3.kIn LT hx).here ?_
  refine codeAny_handlers_suite (h3.lands fun s4 h4=>?_)
  obtain ⟨_,I4⟩:=Air.here I1 hs hf hex h4.1 h4.2.1 h4.2.2
  refine wpAny_mono (hh x pins s4 _ _ _ (I4.inside x) (q x hx0)) (fun f s6 h6=>?_) fun _ _ z=>z.elim
  cases f with
  | next=>obtain ⟨σ',H',J,z⟩:=h6;exact ⟨σ',H',J.outside I.ok,z⟩
  | brk=>obtain ⟨σ',H',J,z⟩:=h6;exact ⟨σ',H',J.outside I.ok,z⟩
  | cont=>obtain ⟨σ',H',J,z⟩:=h6;exact ⟨σ',H',J.outside I.ok,z⟩
  | ret u=>obtain ⟨v,σ',H',J,r,z⟩:=h6;exact ⟨v,σ',H',J.outside I.ok,r,z⟩
end
open PySem.W (Looks InstAt findIn findObj subIn mroIn)
section
variable {prog:Program}{w:World}{A:Around}{E:Value->Shared->Prop}{h:Heap}{g:Array GenState}{d:Drawn}{t:Nat}{os:OsState}{K:PySem.W.Frag}{x C:Addr}{ox:Obj}{od:Option Obj}{name:Str}
theorem DG {tk : Tok}{R : Result -> Shared -> Prop}(X : K.In h)(I : InstAt h x ox C od)(hb : subIn K (.ref C) (.type "BaseException") = some true)(k : wpAny (model prog w) A.in1 (Builtin.«object.__getattribute__» ⟨[.ref x, .str name tk], []⟩)
      (fun fin s'=>match fin with | .done (.ret v)=>R (.ok (.ret v)) s' | _=>False) (fun _ _=>False) ⟨h,g,d,t,os⟩) :
    codeAny (model prog w) A (.call (.builtin "BaseException.__getattribute__") ⟨[.ref x,.str name tk],[]⟩) R ⟨h,g,d,t,os⟩:=by
  have L0:=I.type (M:=model prog w)
  have L1:=PySem.W.looks_subIn (M:=model prog w) X hb
  have hk:builtinKind "BaseException.__getattribute__"=some .slot:=by decide +kernel
  have hsplit:splitId "BaseException.__getattribute__"=some ("BaseException","__getattribute__"):=by decide +kernel
  have ha:=F.args_bexc_ga (.ref x) (.str name tk)
  refine codeAny_call_builtin F.excAttr_ValueError.ga.plain F.entry_bexc_ga ?_
  simp only [checkBuiltinCall,hk,hsplit]
  have LI:Looks (model prog w) h (isInstance (.ref x) (.type "BaseException")) true:=L0.andThen L1
  refine wpAny_bind (LI.at ?_)
  simp only [Bool.not_true,Bool.false_eq_true,if_false]
  have fin:wpAny (model prog w) A.in1 (Builtin.«object.__getattribute__» ⟨[.ref x,.str name tk],[]⟩) (fun fin s'=>match fin with | .done f=>R (.ok f) s' | .again c'=>c'.quiet=true/\codeAny (model prog w) A c' R s') (fun e s'=>R (.error e) s') ⟨h,g,d,t,os⟩:=
    wpAny_mono k (fun fin s' z=>by rcases fin with (_ | _ | _ | _) | _ <;> first | exact z | exact z.elim) fun _ _ z=>z.elim
  clear k L0 L1 LI
  repeat (any_goals (first | assumption | wp_step))
theorem Lb {tk:Tok}{fill expr:Bool}{Q:Value->Shared->Prop}(X:K.In h)(I:InstAt h x ox C od)(hb:subIn K (.ref C) (.type "BaseException")=some true)
  (h1:findIn K (.ref C) "__getattribute__"=some (some (.builtin "BaseException.__getattribute__"))) (h2:findIn K (.ref C) "__getattr__"=some none)
  (k:wpAny (model prog w) A.in1 (Builtin.«object.__getattribute__» ⟨[.ref x,.str name tk],[]⟩)
   (fun fin s'=>match fin with | .done (.ret v)=>wpAny (model prog w) A (handedOut v) Q E s' | _=>False) (fun _ _=>False) ⟨h,g,d,t,os⟩) :
  wpAny (model prog w) A (getAttrBy (.ref x) (.str name tk) fill expr) Q E ⟨h,g,d,t,os⟩:=by
 have L0:=I.type (M:=model prog w)
 have L1:=PySem.W.looks_findIn (M:=model prog w) X h1
 have L2:=PySem.W.looks_findIn (M:=model prog w) X h2
 have f3:=F.excAttr_ValueError.ga.bind (.ref x)
 have hx0:(expr && onTheHeap (Value.builtin "BaseException.__getattribute__"))=false:=by cases expr <;> rfl
 have hx2:(Value.builtin "BaseException.__getattribute__" == Value.builtin "object.__getattribute__")=false:=by decide +kernel
 have hx1:(onTheHeap (Value.ref C) && Value.builtin "BaseException.__getattribute__" == Value.builtin "object.__getattribute__")=false:=by rw [hx2];rfl
 repeat (any_goals (first | assumption | with_reducible refine Looks.at L0 ?_ | with_reducible refine Looks.at L1 ?_ | with_reducible refine Looks.at L2 ?_ | wp_step))
 exact DG X I hb k
structure GA (K:PySem.W.Frag)(C:Addr):Prop where
 bx:subIn K (.ref C) (.type "BaseException")=some true
 ga:findIn K (.ref C) "__getattribute__"=some (some (.builtin "BaseException.__getattribute__"))
 gt:findIn K (.ref C) "__getattr__"=some none
 cl:findIn K (.ref C) "__class__"=some (some (.builtin "object.__class__"))
 gs:PySem.W.specialIn K (.builtin "object.__class__") "__get__"=some (some (.builtin "getset_descriptor.__get__"))
 tk:PySem.W.takesIn K (.builtin "object.__class__")=some true
 mo:mroIn K C (.type "object")=some true
 is:(PySem.W.clsIn K C).isSome=true
end
inductive W8 (X:Cx):List Expr->List Value->Prop
 | nil:W8 X [] []
 | own {x:Str} {p:Pos} {C:Addr} {es:List Expr} {cs:List Value}:Gl X x->X.mg x=some (.ref C)->(x == ("__debug__":Str))=false->W8 X es cs->W8 X (.Name x p :: es) (.ref C :: cs)
 | blt {x:Str} {p:Pos} {T:String} {es:List Expr} {cs:List Value}:Gl X x->X.mg x=none->bootBuiltins x=some (.type T)->x ≠ "__name__"->(x == ("__debug__":Str))=false->W8 X es cs->W8 X (.Name x p :: es) (.type T :: cs)
section
variable {X:Cx}{e c:Expr}{es:List Expr}{cs:List Value}{t:TE}{p pos tp:Pos}{kk:Nat}
end
noncomputable abbrev AXK:=Addr->List (Str × V)->MH->Prop
noncomputable abbrev xO:=List AV->MH->AK->AXK->Prop
noncomputable def Jl (H:Hp)(O:Own)(M:MH)(d:Option Addr)(fs:List (Str × V)):Prop:=d=none/\fs=[] \/ ∃ dx,d=some dx/\H dx=some (.xd fs)/\O dx/\M dx=none
theorem Jl.ext {H H':Hp}{O O':Own}{M M':MH}{d:Option Addr}{fs:List (Str × V)}(k:Ext H O M H' O' M')(x:Jl H O M d fs):Jl H' O' M' d fs:=by
 rcases x with x | ⟨dx,e,h1,h2,h3⟩
 ·exact .inl x
 ·obtain ⟨x1,x2,x3⟩:=k.prv dx h2 h3
  exact .inr ⟨dx,e,x1.trans h1,x2,x3⟩
noncomputable def jG (a:xO):Sp:=fun vs H Q E=>∃ xs M O Q' E',Wf H O M/\zj H O M vs xs/\a xs M Q' E'/\(∀ x M' v H' O',Q' x M'->Ext H O M H' O' M'->Wf H' O' M'->zw H' O' M' v x->Q v H') /\
 ∀ C fs M' H' O' d,E' C fs M'->Ext H O M H' O' M'->Wf H' O' M'->Jl H' O' M' d fs->E (.ref C) d H'
noncomputable def cE (H0:Hp)(O0:Own)(M0:MH)(E':AXK):XK:=fun c d H'=>∃ C fs M' O',c=.ref C/\E' C fs M'/\Ext H0 O0 M0 H' O' M'/\Wf H' O' M'/\Jl H' O' M' d fs
structure EXs (H0:Hp)(O0:Own)(M0:MH)(E:St->XK)(EA:ASt->AXK):Prop where
 go:∀ σ ρ C fs M' H' O' d,EA ρ C fs M'->Ext H0 O0 M0 H' O' M'->Wf H' O' M'->Er H' O' M' σ ρ->Jl H' O' M' d fs->E σ (.ref C) d H'
theorem KI {H0:Hp}{O0:Own}{M0:MH}{E':AXK}:EXs H0 O0 M0 (fun _=>cE H0 O0 M0 E') (fun _=>E'):=⟨fun _ _ C fs M' H' O' d q k w _ x=>⟨C,fs,M',O',rfl,q,k,w,x⟩⟩
structure ku (HX:Hp)(OX:Own)(MX:MH)(t:TS)(a:AS):Prop where
 go:∀ {H0:Hp} {O0:Own} {M0:MH} {D:xX} {D':qX} {σ:St} {H:Hp} {O:Own} {ρ:ASt} {M:MH},Ext HX OX MX H0 O0 M0->Wf H0 O0 M0->Wf H O M->Er H O M σ ρ->Ext H0 O0 M0 H O M->a M0 D' ρ M->ED H0 O0 M0 D D'->t D σ H
section
variable {HX:Hp}{OX:Own}{MX:MH}{t u:TS}{a b:AS}{E:St->XK}{EA:ASt->AXK}{sp:xO}{ta:TA}{aa:AA}
theorem Di (h:jq t a):ku HX OX MX t a:=⟨fun _ w0 w e x q E=>h.go w0 w e x q E⟩
theorem Bh (h1:ku HX OX MX t a)(h2:ku HX OX MX u b):ku HX OX MX (YD t u) (kH a b):=
 ⟨fun kx w0 w e x q E=>h1.go kx w0 w e x q ⟨fun σ H O ρ M w e x q=>h2.go kx w0 w e x q E,E.rt,E.bk,E.ct⟩⟩
theorem A1 {c:TT}{ac:AT}(hc:xk c ac)(h1:ku HX OX MX t a)(h2:ku HX OX MX u b):ku HX OX MX (Ew c t u) (xN ac a b):=
 ⟨fun kx w0 w e x q E=>hc.go w e q fun k M1 H1 O1 q1 k1 w1=>by
  cases k with
  | true=>exact h1.go kx w0 w1 (e.ext k1) (x.trans k1) q1 E
  | false=>exact h2.go kx w0 w1 (e.ext k1) (x.trans k1) q1 E⟩
theorem WO {wi:TI}{g:TG}{ai:AI}{ag:AG}(hi:Kr wi ai)(hg:vf g ag)(hb:ku HX OX MX t a):ku HX OX MX (BW wi g t) (Gn ai ag a):=⟨fun {H0 O0 M0 D D' σ H O ρ M} kx w0 w e x q E=>by
 rw [ZC]
 refine hi.go w e q fun l G M1 J H1 O1 q1 k1 w1 hj=>?_
 have E1:=E.tr (x.trans k1)
 have kx1:=kx.trans (x.trans k1)
 obtain ⟨Pv,p0,ps,pd⟩:=q1
 refine ⟨fun i m σ H=>m=l.length - i/\i<=l.length/\∃ O ρ M,Wf H O M/\Er H O M σ ρ/\Ext H1 O1 M1 H O M/\Pv i ρ M,⟨l.length,by simp,Nat.zero_le _,O1,ρ,M1,w1,e.ext k1,.refl,p0⟩,?_⟩
 rintro i m σ H ⟨rfl,hi,O,ρ,M,w,e,x,hf⟩
 by_cases hil:i<l.length
 ·have hy:l[i]?=some l[i]:=List.getElem?_eq_getElem hil
  obtain ⟨hG,q2⟩:=ps i l[i] ρ M hy hf
  obtain ⟨j1,j2⟩:=(hj H O M x.fix x.mst w hG i).2 l[i] hy
  refine .inr ⟨j1,fun σ' H'=>∃ O ρ M,Wf H' O M/\Er H' O M σ' ρ/\Ext H1 O1 M1 H' O M/\Pv (i+1) ρ M,fun σ' H' z=>⟨l.length - (i+1),by omega,rfl,hil,z⟩,fun v H' hv=>?_⟩
  obtain ⟨k2,w2,r2⟩:=j2 v H' hv
  refine hg.go w2 (e.ext k2) r2 q2 fun σ3 H3 O3 ρ3 M3 q3 k3 w3 e3=>?_
  exact hb.go kx1 w1 w3 e3 ((x.trans k2).trans k3) q3 ⟨fun σ H O ρ M w e x q=>⟨O,ρ,M,w,e,x,q⟩,E1.rt,E1.nx,fun σ H O ρ M w e x q=>⟨O,ρ,M,w,e,x,q⟩⟩
 ·have e0:i=l.length:=by omega
  subst e0
  obtain ⟨hG,q2⟩:=pd ρ M hf
  exact .inl ⟨(hj H O M x.fix x.mst w hG l.length).1 rfl,E1.nx _ _ _ _ _ w e x q2⟩⟩
noncomputable def Jz (sp:xO)(EA:ASt->AXK)(b:AA):AE:=fun ρ M Q=>b ρ M fun xs M1=>sp xs M1 Q (EA ρ)
theorem VQ (hE:EXs HX OX MX E EA)(hu:jv ta aa){σ:St}{H:Hp}{O:Own}{ρ:ASt}{M:MH}{Q:VK}{Q':AK}(kx:Ext HX OX MX H O M)(w:Wf H O M)(e:Er H O M σ ρ)(q:Jz sp EA aa ρ M Q')(k:∀ x M' v H' O',Q' x M'->Ext H O M H' O' M'->Wf H' O' M'->zw H' O' M' v x->Q v H'):JJ (jG sp) E ta σ H Q:=
 hu.go w e q fun xs M1 vs H1 O1 q1 k1 w1 r1=>⟨xs,M1,O1,Q',EA ρ,w1,r1,q1,fun x M2 v H2 O2 q2 k2 w2 r2=>k x M2 v H2 O2 q2 (k1.trans k2) w2 r2,fun C fs M' H' O' d q2 k2 w2 xd=>hE.go σ ρ C fs M' H' O' d q2 ((kx.trans k1).trans k2) w2 (e.ext (k1.trans k2)) xd⟩
theorem Wm {g:TG}{ag:AG}(hE:EXs HX OX MX E EA)(hu:jv ta aa)(hg:vf g ag):ku HX OX MX (ZI (JJ (jG sp) E ta) g) (VX (Jz sp EA aa) ag):=
 ⟨fun kx _ w e x q D=>VQ hE hu (kx.trans x) w e q fun y M1 v H1 O1 q1 k1 w1 r1=>hg.go w1 (e.ext k1) r1 q1 fun σ2 H2 O2 ρ2 M2 q2 k2 w2 e2=>D.nx _ _ _ _ _ w2 e2 ((x.trans k1).trans k2) q2⟩
end
noncomputable def Fl (K:PySem.W.Frag)(T:Addr)(ab:(ASt->AXK)->AS)(ah:AS):AS:=fun B D ρ M=>
 ab (fun ρ1 C fs M1=>PySem.W.exmOne K (.ref C) (.ref T)=some true/\∀ x,M1 x=none->ah B D ρ1 (mup M1 x (.exc C fs))) B D ρ M
theorem EN {H:Hp}{O:Own}{M:MH}(w:Wf H O M){x C:Addr}{d:Option Addr}{fs:List (Str × V)}(hx:H x=none)(xd:Jl H O M d fs) :
  Wf (upd H x (Ka x C d)) (yc O x) (mup M x (.exc C fs))/\Ext H O M (upd H x (Ka x C d)) (yc O x) (mup M x (.exc C fs)):=by
 have k:=Z0 w hx (Ka x C d) (.exc C fs)
 exact ⟨AC w hx (fun _ z=>nomatch z) ⟨d,zk,xd.ext k⟩,k⟩
section
variable {K:PySem.W.Frag}{i:Nat}{T:Addr}{tb:(St->XK)->TS}{th:TS}{ab:(ASt->AXK)->AS}{ah:AS}
theorem AN (hb:∀ (H0:Hp) (O0:Own) (M0:MH) (E:St->XK) (EA:ASt->AXK),EXs H0 O0 M0 E EA->ku H0 O0 M0 (tb E) (ab EA))(hh:jq th ah):jq (Vj K T tb th) (Fl K T ab ah):=
 ⟨fun {H0 O0 M0 D D' σ H O ρ M} w0 w e x q E=>(hb H0 O0 M0 _ _ ⟨fun σ1 ρ1 C fs M1 H1 O1 d q1 k1 w1 e1 xd=>⟨C,rfl,q1.1,fun y hy=>by
  obtain ⟨w2,k2⟩:=EN (C:=C) w1 hy xd
  exact hh.go w0 w2 (e1.ext k2) (k1.trans k2) (q1.2 y (w1.fresh hy).2) E⟩⟩).go .refl w0 w e x q E⟩
end
noncomputable def exA (M0:MH)(E:AXK):AXK:=fun C fs M'=>∃ M'',vi M0 M' (.d .non) (.d .non) M''/\E C fs M''
theorem PSs.wish' {X:Cx}{xe:Value->Shared->Prop}{st:List Stmt}{t:TS}(k:∀ e s,xe e s->X.xe e s)(h:PSs (X.wish xe) st t):PSs X st t:=fun pins s σ H D I hw=>
 wpAny_mono (h pins s σ H D (I.wish _) hw) (fun _ _ q=>q.unwish) fun e s z=>k e s z
theorem Lf {P : Program}{w : World}{K : PySem.W.Frag}{mg : Str -> Option Value}{base : Heap}{x : Str}{st : Stmt}{N ps : List Str}{k : Nat}{a : xO}(at_ : At K mg x st)(S : zt N ps (ze st))
    (hb:∀ (kV doc pm:Value) (an:Option Addr) (cdv ct:Value) (us:List Value),us.length=ps.length->bindArgs (PySem.W.fnOf x x (qm st) (zM st) (ze st) .none kV doc pm an cdv ct) ⟨us,[]⟩=pure (ps.zip us))
    (len:∀ xs M Q E,a xs M Q E->xs.length=ps.length)
    (hbody:∀ (f:Addr) (cdv:Value) (A:Around) (outer:List Env) (s:Shared) (H:Hp) (HX:Hp) (OX:Own) (MX:MH) (E':AXK),ql k (A.deeper (envOfC x (ze st) s.heap.objs.size f cdv)) ->
      DX (jD (CX1 P w) P w K mg base N x (ze st) f cdv A outer s H (cE HX OX MX E')) (cE HX OX MX E') ->
      ∃ t,PSs (jD (CX1 P w) P w K mg base N x (ze st) f cdv A outer s H (cE HX OX MX E')) (zM st) t/\∃ b,ku HX OX MX t b/\∀ xs Q E0,E'=exA MX E0->a xs MX Q E0->b MX { nx:=fun _ M'=>rtA MX Q (.d .non) M',rt:=rtA MX Q } (zQ N xs) MX):DfX P w K mg base x ps (k+1) (jG a):=by
  refine F6 at_ S hb (fun vs H Q E h=>?_) (fun f cdv A outer s H vs Q E hr h=>?_)
  · obtain ⟨xs,M,O,Q',E',w,r,q,_⟩:=h
    rw [r.1];exact len xs M Q' E' q
  · obtain ⟨xs,M,O,Q',E',w0,r,q,kk,ke⟩:=h
    obtain ⟨t,ht,b,hb,hq⟩:=hbody f cdv A outer s H H O M (exA M E') hr ⟨rfl,rfl,rfl,rfl⟩
    refine ⟨t,fun D=>?_,?_⟩
    · have ce : ∀ c d H', cE H O M (exA M E') c d H' -> E c d H' := fun c d H' ⟨C, fs, M', O', e1, ⟨M'', f, q2⟩, k1, w1, xd⟩ => by
        subst e1
        obtain ⟨O'',w2,k2,-,ko⟩:=Zy w0 w1 k1 (show zw H' O' M' .non (.d .non) from .non) f
        refine ke C fs M'' H' O'' d q2 k2 w2 ?_
        rcases xd with xd | ⟨dx,e1,h1,h2,h3⟩
        · exact .inl xd
        · exact .inr ⟨dx,e1,h1,(ko dx h2 h3).1,(ko dx h2 h3).2⟩
      refine PSs.wish' (fun e s' z=>?_) ht
      exact wpAny_mono z (fun _ s'' y=>y.imp ce) fun e' s'' y=>y.imp ce
    · refine hb.go .refl w0 w0 (xo r N) .refl (hq xs Q' E' rfl q) ⟨fun σ H' O' ρ M' w' e' x' q'=>?_,fun v y H' O' M' w' x' r' q'=>?_,fun _ _ _ _ _ _ _ _ z=>z.elim,fun _ _ _ _ _ _ _ _ z=>z.elim⟩
      · obtain ⟨y',M'',f,q2⟩:=q'
        obtain ⟨O'',w2,k2,r2⟩:=xi w0 w' x' (show zw H' O' M' .non (.d .non) from .non) f
        exact kk _ _ _ _ _ q2 k2 w2 r2
      · obtain ⟨y',M'',f,q2⟩:=q'
        obtain ⟨O'',w2,k2,r2⟩:=xi w0 w' x' r' f
        exact kk _ _ _ _ _ q2 k2 w2 r2
theorem DX.po {X:Cx}{E:XK}(D:DX X E):PassesOwn (model X.prog X.w) X.A X.env X.xe:=by rw [D.xe];exact PassesOwn.leaving
section
variable {X:Cx}{K:PySem.W.Frag}{body suite:List Stmt}{b₀:Stmt}{n tx:Str}{i:Nat}{T:Addr}{np hpos pos tp p:Pos}{tb:(St->XK)->TS}{th:TS}{e c:Expr}{es:List Expr}{cs:List Value}{t:TE}{kk:Nat}
theorem V1 (hk:X.K=K)(hs:X.stack=X.env :: X.outer)(hf:X.env.frame=some X.env.locals)(hex:X.ex=[])(hg:Gl X tx)(hm:X.mg tx=some (.ref T))
  (hb:∀ (pins:List (Addr × Obj)) (xe:Value->Shared->Prop) (Eh:St->XK),y4 (CX1 X.prog X.w) (X.tried pins xe) Eh->PSs (X.tried pins xe) body (tb Eh)) (hh:∀ x,PSs (X.inside x) (b₀ :: suite) th)
  (hdb:(tx == ("__debug__":Str))=false:=by decide):PS X (.Try body [.ExceptHandler (some (.Name tx np)) none (b₀ :: suite) hpos] [] [] pos) (Vj K T tb th):=hk ▸ DD hs hf hex hg hm hb hh hdb
end
theorem exX {HX:Hp}{OX:Own}{MX:MH}{t:TS}{q:AS->Prop}{b:AS}(h:ku HX OX MX t b)(k:q b):∃ b,ku HX OX MX t b/\q b:=⟨b,h,k⟩
section
variable {X:Cx}
end
end L2
namespace PySem
open Sem (wp)
section
variable {prog:Program}{w:World}{A:Around}{E:Value->Shared->Prop}{h:Heap}{g:Array GenState}{d:Drawn}{t:Nat}{os:OsState}
variable {nm q:Str}{C N:Addr}{bs bm bmB:List Value}{hdct:Bool}{sn:List Str}{sub:List Value}{ab:Bool}{col:Option Bool}{dd:Option Addr}{k0 k1 k2 k3 k5:Option Value}{B Bn newId nid initId inN:String}{bmN:List Value}
theorem ZJ (Fn:ExcBaseFacts Bn newId inN bmN)(hBn:bmB.contains (.type Bn)=true)(F:ExcBaseFacts B nid initId bmB)(T:OwnTail h bmB bm){mN:Str->Option Value}{jc:List Value}{fI:Addr}{oI:Obj}{Q:Fin->Shared->Prop}
  (hC:h.get? C=some (excClassObj nm q C N bs bm hdct sn sub ab col dd k0 k1 k2 k3 k5 newId)) (hn:h.Ns N mN) (hi:mN "__init__"=some (.ref fI)) (hfI:h.get? fI=some oI) (hfc:oI.cls=.type "function")
  (hq:∀ h' e,Heap.MadeExcOf h h' e (.ref C) jc->wpAny (model prog w) A (call (.ref fI) (.ref e :: jc)) (fun r s'=>r=.none/\Q (.done (.ret (.ref e))) s') E ⟨h',g,d,t,os⟩) (hrest:jc.length<=sizeLine:=by size_fits) :
  wpAny (model prog w) A (Builtin.«type.__call__» ⟨.ref C :: jc,[]⟩) Q E ⟨h,g,d,t,os⟩:=by
 repeat (first | with_reducible refine wpAny_loadPart_at hC ?_ | with_reducible refine wpAny_madeBy_exc hC ?_ | wp_step)
 refine codeAny_call_builtin_code (Code.quiet_builtin _ Fn.quiet) (wpAny_check_new_subU Fn hBn T hC ?_)
 refine codeAny_exc_new_subU Fn hBn F T hC ?_ hrest
 show wpAny _ _ _ _ _ _
 have hC₁:=Heap.get?_push_of_some { cls:=.ref C,data:=.fields #[.ref h.objs.size,.none,.none,.none,.bool false,.none] }
  (Heap.get?_push_of_some { cls:=.type "tuple",data:=.seq jc.toArray } hC)
 have hfI₁:=Heap.get?_push_of_some { cls:=.ref C,data:=.fields #[.ref h.objs.size,.none,.none,.none,.bool false,.none] }
  (Heap.get?_push_of_some { cls:=.type "tuple",data:=.seq jc.toArray } hfI)
 have hn₁:((h.push { cls:=.type "tuple",data:=.seq jc.toArray }).push { cls:=.ref C,data:=.fields #[.ref h.objs.size,.none,.none,.none,.bool false,.none] }).Ns N mN:=
  let ⟨o,es,ep,e,r⟩:=hn;⟨o,es,ep,Heap.get?_push_of_some _ (Heap.get?_push_of_some _ e),r⟩
 have hget:((h.push { cls:=.type "tuple",data:=.seq jc.toArray }).push
   { cls:=.ref C,data:=.fields #[.ref h.objs.size,.none,.none,.none,.bool false,.none] }).get? (h.objs.size+1)=some
   { cls:=.ref C,data:=.fields #[.ref h.objs.size,.none,.none,.none,.bool false,.none] }:=by heap_get
 have hcC:(Value.ref C :: bm).contains (.ref C)=true:=by simp
 have T₁:=T.keeps (h':=(h.push { cls:=.type "tuple",data:=.seq jc.toArray }).push { cls:=.ref C,data:=.fields #[.ref h.objs.size,.none,.none,.none,.bool false,.none] })
  fun b o e=>Heap.get?_push_of_some _ (Heap.get?_push_of_some _ e)
 unfold isInstance
 repeat (first | with_reducible refine wpAny_loadPart_at hget ?_ | (with_reducible refine wpAny_isSubtype_exc hC₁ ?_;rw [hcC]) | wp_step)
 show wpAny _ _ (typeLookup (.ref C) _) _ _ _
 refine wpAny_typeLookup_tail hC₁ hn₁ T₁ F.mroIs F.init.lookup ?_
 rw [hi]
 refine wpAny_holding (wpAny_bind ?_)
 unfold bindSpecial
 refine wpAny_bind (wpAny_typeOf (T:="function") ⟨_,hfI₁,hfc⟩ ?_)
 rw [if_pos (by decide)]
 refine wpAny_pure (wpAny_bind (wpAny_mono (hq _ (h.objs.size+1) ⟨fun b o hb=>Heap.get?_push_of_some _ (Heap.get?_push_of_some _ hb),Heap.get?_none_of_le (Nat.le_succ _),h.objs.size,hget,Heap.get?_none_of_le (Nat.le_refl _),?_⟩) (fun r s' hr=>?_) fun _ _ x=>x))
 ·exact Heap.get?_push_of_some _ (Heap.get?_push_at rfl rfl)
 ·obtain ⟨rfl,hQ⟩:=hr
  wp_walk
  exact hQ
theorem KR (Fn:ExcBaseFacts Bn newId inN bmN)(hBn:bmB.contains (.type Bn)=true)(F:ExcBaseFacts B nid initId bmB)(T:OwnTail h bmB bm){mN:Str->Option Value}{jc:List Value}{fI:Addr}{oI:Obj}{Q:Value->Shared->Prop}
  (hC:h.get? C=some (excClassObj nm q C N bs bm hdct sn sub ab col dd k0 k1 k2 k3 k5 newId)) (hn:h.Ns N mN) (hi:mN "__init__"=some (.ref fI)) (hfI:h.get? fI=some oI) (hfc:oI.cls=.type "function")
  (hq:∀ h' e,Heap.MadeExcOf h h' e (.ref C) jc->wpAny (model prog w) (A.under (.builtin "type.__call__" ⟨.ref C :: jc,[]⟩)) (call (.ref fI) (.ref e :: jc)) (fun r s'=>r=.none/\Q (.ref e) s') E ⟨h',g,d,t,os⟩) (hrest:jc.length<=sizeLine:=by size_fits) :
  wpAny (model prog w) A (call (.ref C) jc) Q E ⟨h,g,d,t,os⟩:=by
 have f1:=tc_lookup
 have f2:=tc_bind (.ref C)
 have hT:(⟨h,g,d,t,os⟩:Shared).TypeIs (.ref C) "type":=⟨_,hC,rfl⟩
 refine wpAny_call (codeAny_of_tree ?_)
 show wpAny _ _ (callAny (.ref C) _) _ _ _
 repeat (any_goals (first | assumption | with_reducible refine wpAny_loadPart_at hC ?_ | wp_step))
 refine ⟨rfl,?_⟩
 refine codeAny_call_builtin_at (Code.quiet_builtin _ (by decide +kernel)) entry_typeCall (wpAny_check_type_call_sub hC (ZJ (hrest:=hrest) Fn hBn F T hC hn hi hfI hfc fun h' e hm=>?_))
 exact hq h' e hm
end
section
variable {M:Model}{A:Around}{E:Value->Shared->Prop}{env:Env}
variable {nm q:Str}{C N:Addr}{bs bm:List Value}{hdct:Bool}{sn:List Str}{sub:List Value}{ab:Bool}{col:Option Bool}{dd:Option Addr}{k0 k1 k2 k3 k5:Option Value}{newId:String}
theorem Z4 {s:Shared}{x:Sem Value}{Q:Flow->Shared->Prop}(hbase:bm.contains (.type "BaseException")=true)(hh:A.handled=none)
  (h:wpAny M A x (fun v s₁=>∃ e t dx,v=.ref e/\s₁.heap.get? C=some (excClassObj nm q C N bs bm hdct sn sub ab col dd k0 k1 k2 k3 k5 newId) /\
   s₁.heap.get? e=some { cls:=.ref C,data:=.fields #[.ref t,.none,.none,.none,.bool false,.none],dict:=dx }/\E (.ref e) s₁) E s) :
  wpAny M A (raiseStmt env (some x) none) Q E s:=by
 have hcB:(Value.ref C :: bm).contains (.type "BaseException")=true:=by rw [List.contains_cons,hbase,Bool.or_true]
 unfold raiseStmt
 refine wpAny_bind (wpAny_mono h (fun v s₁ h₁=>?_) fun _ _ x=>x)
 obtain ⟨e,t,dx,rfl,hC,he,hE⟩:=h₁
 obtain ⟨hp,g,d,tk,os⟩:=s₁
 repeat (first | with_reducible refine wpAny_loadPart_at he ?_ | with_reducible refine wpAny_loadPart_at hC ?_ | (with_reducible refine wpAny_isSubtype_exc hC ?_;rw [hcB]) | wp_step)
 exact wpAny_raiseNew_none hh hE
end
section
variable {prog:Program}{w:World}{A:Around}{E:Value->Shared->Prop}{s:Shared}{env:Env}
variable {nm q:Str}{C N:Addr}{bs bm bmB:List Value}{hdct:Bool}{sn:List Str}{sub:List Value}{ab:Bool}{col:Option Bool}{dd:Option Addr}{k0 k1 k2 k3 k5:Option Value}{B Bn newId nid initId inN:String}{bmN:List Value}
theorem Vl (Fn:ExcBaseFacts Bn newId inN bmN)(hBn:bmB.contains (.type Bn)=true)(F:ExcBaseFacts B nid initId bmB){mN:Str->Option Value}{x:Str}{np cpos pos:Pos}{args:List Expr}{Q:Flow->Shared->Prop}{fI:Addr}{oI:Obj}
  (hbase:bm.contains (.type "BaseException")=true) (hh:A.handled=none) (hplain:(backTo cpos (starEach args env)).any (·.1)=false) (hi:mN "__init__"=some (.ref fI)) (hfc:oI.cls=.type "function")
  (h:wpAny (model prog w) A (eval (.Name x np) env) (fun f s₁=>f=.ref C/\wpAny (model prog w) A (evalArgs (.ref C) true (backTo cpos (starEach args env)) [])
   (fun a s₂=>a.kw=[]/\a.pos.length<=sizeLine/\s₂.heap.get? C=some (excClassObj nm q C N bs bm hdct sn sub ab col dd k0 k1 k2 k3 k5 newId)/\s₂.heap.Ns N mN/\OwnTail s₂.heap bmB bm/\s₂.heap.get? fI=some oI /\
    ∀ h' e,Heap.MadeExcOf s₂.heap h' e (.ref C) a.pos->wpAny (model prog w) (A.under (.builtin "type.__call__" ⟨.ref C :: a.pos,[]⟩)) (call (.ref fI) (.ref e :: a.pos)) (fun r s'=>r=.none /\
     s'.heap.get? C=some (excClassObj nm q C N bs bm hdct sn sub ab col dd k0 k1 k2 k3 k5 newId)/\(∃ t dx,s'.heap.get? e=some { cls:=.ref C,data:=.fields #[.ref t,.none,.none,.none,.bool false,.none],dict:=dx })/\E (.ref e) s') E { s₂ with heap:=h' }) E s₁) E s) :
  wpAny (model prog w) A (exec (.Raise (some (.Call (.Name x np) args [] cpos)) none pos) env) Q E s:=by
 rw [arm_exec_Raise]
 refine wpAny_bind (wpAny_standAt (Z4 (C:=C) (nm:=nm) (q:=q) (N:=N) (bs:=bs) (bm:=bm) (hdct:=hdct) (sn:=sn) (sub:=sub) (ab:=ab) (col:=col) (dd:=dd) (k0:=k0) (k1:=k1) (k2:=k2) (k3:=k3) (k5:=k5) (newId:=newId) hbase hh (wpAny_bind (wpAny_mono (wpAny_Call_ofName (wpAny_mono h (fun f s₁ h₁=>?_) fun _ _ x=>x)) (fun v s₃ h₃=>wpAny_bind (wpAny_standAt (wpAny_pure h₃))) fun _ _ x=>x))))
 obtain ⟨rfl,h₁⟩:=h₁
 unfold callWith
 refine wpAny_bind (wpAny_holding (wpAny_mono h₁ (fun a s₂ h₂=>wpAny_bind (wpAny_standAt ?_)) fun _ _ x=>x))
 obtain ⟨apos,akw⟩:=a
 obtain ⟨hkw,hlen,hC,hn,T,hf,h₂⟩:=h₂
 obtain rfl:akw=[]:=hkw
 obtain ⟨hp,g,d,tk,os⟩:=s₂
 simp only [hplain]
 refine wpAny_bind (wpAny_keeperOf_exc hC ?_)
 refine wpAny_bind (KR (hrest:=hlen) Fn hBn F T hC hn hi hf hfc fun h' e hm=>wpAny_mono (h₂ h' e hm) (fun r s' hr=>⟨hr.1,wpAny_bind (wpAny_holding (wpAny_point (wpAny_pure ?_)))⟩) fun _ _ x=>x)
 obtain ⟨_,hC',⟨t,dx,he⟩,hE⟩:=hr
 exact ⟨e,t,dx,rfl,hC',he,hE⟩
end
end PySem
namespace L2
open PySem PySem.Spec PyProof.Rows
open PySem.W (Looks InstAt findIn findObj subIn mroIn clsIn takerIn hasDictIn)
noncomputable def Ag:Value->Bool
 | .ref _=>true
 | _=>false
noncomputable def BC (l:List Value):Bool:=l.dropWhile Ag == vG
theorem Vq {a:Value}(h:Ag a=true):∃ c,a=.ref c:=by cases a <;> first | exact ⟨_,rfl⟩ | cases h
theorem yX (self:Value):∀ l:List Value,refuseLoop self "__setattr__" l=refuseLoop self "__setattr__" (l.dropWhile Ag)
 | []=>rfl
 | a :: r=>by
  by_cases h:Ag a=true
  ·obtain ⟨c,rfl⟩:=Vq h
   rw [refuseLoop_ref,List.dropWhile_cons_of_pos h];exact yX self r
  ·rw [List.dropWhile_cons_of_neg h]
theorem X4 (self:Value){l:List Value}(h:BC l=true):refuseLoop self "__setattr__" l=pure ():=by
 rw [yX,show l.dropWhile Ag=vG from eq_of_beq h];exact PySem.F.store_ValueError.passes self
structure yr (K:PySem.W.Frag)(C:Addr)(name:Str):Prop where
 s:findIn K (.ref C) "__setattr__"=some (some (.builtin "object.__setattr__"))
 t:takerIn K C name=some none
 hd:hasDictIn K C=true
 mo:mroIn K C (.type "object")=some true
 ve:(clsIn K C).any (fun cd=>BC cd.mro)=true
section
variable {prog:Program}{w:World}{A:Around}{E:Value->Shared->Prop}{s:Shared}{K:PySem.W.Frag}{x C:Addr}{ox:Obj}{od:Option Obj}{name:Str}{v:Value}
theorem XH {tk:Tok}{R:Result->Shared->Prop}(X:K.In s.heap)(I:InstAt s.heap x ox C od)(S:yr K C name)
  (h:∀ b,wpAny (model prog w) A.in1 (Builtin.ObjectAttr.storeInOwnDict (.ref x) (.ref C) (.str name tk) name v b)
   (fun fin s'=>match fin with | .done f=>R (.ok f) s' | .again c'=>c'.quiet=true/\codeAny (model prog w) A c' R s') (fun e s'=>R (.error e) s') s) :
  codeAny (model prog w) A (.call (.builtin "object.__setattr__") ⟨[.ref x,.str name tk,v],[]⟩) R s:=by
 have SF:=PySem.F.store_object
 obtain ⟨cd,hc,ho⟩:=PySem.W.any_some S.ve
 have sub:Looks (model prog w) s.heap (isInstance (.ref x) (.type "object")) true:=I.type.andThen (PySem.W.looks_mroIn X S.mo)
 refine codeAny_call_builtin SF.slot.plain SF.entry (@PySem.W.check_slot (model prog w) _ _ s "object.__setattr__" "object" "__setattr__" (.ref x) [.str name tk,v] [] _ SF.kind SF.split sub (SF.args (.ref x) (.str name tk) v) ?_)
 obtain ⟨attr,ha,hr⟩:=Option.bind_eq_some_iff.mp S.t
 have hm:Looks (model prog w) s.heap (mroOf (.ref C)) cd.mro:=(PySem.W.looks_clsIn X hc).andThen .now
 have L3:Looks (model prog w) s.heap (Builtin.ObjectAttr.storeTaker? attr) none:=by
  cases attr with
  | none=>exact .now
  | some a=>
   obtain ⟨b,hb,hb2⟩:=Option.map_eq_some_iff.mp hr
   cases b with
   | true=>cases hb2
   | false=>exact (PySem.W.looks_takesIn X hb).andThen .now
 rw [PySem.W.osa_eq,refuse_eq]
 refine wpAny_bind (wpAny_bind (I.type.here (wpAny_bind (hm.here ?_))))
 rw [X4 _ ho]
 refine wpAny_pure (wpAny_bind (I.type.here (wpAny_bind ((PySem.W.looks_findIn X ha).here (wpAny_bind (L3.here ?_))))))
 exact h _
theorem Ao {vs:Array Value}{Q:Unit->Shared->Prop}(X:K.In s.heap)(hx:s.heap.get? x=some ox)(hc:ox.cls=.ref C)(hf:ox.data=.fields vs)(hd:ox.dict=none)(S:yr K C name)
  (h:∀ h' tk,h'.Ns1 s.heap.objs.size (fun y=>if y=name then some v else none)->h'.get? x=some { ox with dict:=some s.heap.objs.size }->(∀ b o,b ≠ x->s.heap.get? b=some o->h'.get? b=some o)->Q () { s with heap:=h',toks:=tk }) :
  wpAny (model prog w) A (setAttr (.ref x) name v) Q E s:=by
 have I:InstAt s.heap x ox C none:=⟨hx,hc,by unfold PySem.W.notCls;rw [hf],by rw [hd];trivial⟩
 obtain ⟨cd,hcd,hdd⟩:=PySem.W.any_some S.hd
 obtain ⟨oc,odt,oda,osl⟩:=ox
 dsimp only at hc hf hd
 subst hc hf hd
 have hx₁:(s.heap.push { cls:=.type "dict",data:=.dict #[] }).get? x=some ⟨.ref C,none,.fields vs,osl⟩:=Heap.get?_push_of_some _ hx
 have hxs:x ≠ s.heap.objs.size:=Nat.ne_of_lt (Heap.lt_size hx)
 refine PySem.W.set_plain X I S.s (XH (s:={ s with toks:=s.toks+1 }) (od:=none) X I S fun b=>?_)
 refine wpAny_bind (wpAny_pure (wpAny_bind (wpAny_bind (wpAny_loadPart hx (wpAny_bind (PySem.W.Looks.here (s:={ s with toks:=s.toks+1 }) (PySem.W.looks_clsIn X hcd) ?_))))))
 rw [hdd]
 have htd:typeHasDict (Value.ref C)=true:=by simp [typeHasDict]
 dsimp only
 rw [if_neg (by decide),htd,if_neg (by decide)]
 refine wpAny_bind (wpAny_alloc' ?_)
 refine wpAny_bind (wpAny_update' hx₁ ?_)
 refine wpAny_pure ?_
 have hgd:((s.heap.push { cls:=.type "dict",data:=.dict #[] }).update x fun o=>{ cls:=o.cls,dict:=some s.heap.objs.size,data:=o.data,slots:=o.slots }).get? s.heap.objs.size
  =some { cls:=.type "dict",data:=.dict #[] }:=
  (Heap.get?_update_ne _ _ _ _ hxs.symm).trans (Heap.get?_push_at rfl rfl)
 have hnd:((s.heap.push { cls:=.type "dict",data:=.dict #[] }).update x fun o=>{ cls:=o.cls,dict:=some s.heap.objs.size,data:=o.data,slots:=o.slots }).Ns s.heap.objs.size (fun _=>none):=
  ⟨_,#[],_,hgd,rfl,fun e he=>absurd he (by simp),fun _=>rfl⟩
 show wpAny _ _ (Builtin.ObjectAttr.storeInDict s.heap.objs.size (.str name s.toks) name v) _ _ _
 unfold Builtin.ObjectAttr.storeInDict Builtin.ObjectAttr.newKeyGuard
 refine wpAny_bind (wpAny_pure (wpAny_bind (wpAny_nsSet1 (Heap.Ns1.of_empty hnd) fun h' hn' hs=>?_)))
 obtain ⟨oD,esD,epD,hoD,hdD,hcD⟩:=hn'.count (Within.cons name v Within.nil)
 refine wpAny_bind (wpAny_lookBehind hoD (by rw [hdD];exact pastItsLine_dict (Nat.le_trans hcD (by rw [List.length_cons,List.length_nil,sizeLine_eq];omega))) ?_)
 refine wpAny_pure (h h' _ hn' ?_ fun b o hb e=>?_)
 ·refine (hs.2 x hxs).trans (Heap.get?_update_self _ hx₁ rfl)
 ·exact (hs.2 b (Nat.ne_of_lt (Heap.lt_size e))).trans ((Heap.get?_update_ne _ _ _ _ hb).trans (Heap.get?_push_of_some _ e))
theorem BS {dx:Addr}{vs:Array Value}{mA:Str->Option Value}{ns:List Str}{Q:Unit->Shared->Prop}(X:K.In s.heap)(hx:s.heap.get? x=some ox)(hc:ox.cls=.ref C)(hf:ox.data=.fields vs)(hd:ox.dict=some dx)(hn:s.heap.Ns1 dx mA)(S:yr K C name)(hw:Within mA ns)(hsz:ns.length<=1000)
  (h:∀ h' tk,h'.Ns1 dx (fun y=>if y=name then some v else mA y)->Heap.SameBut dx s.heap h'->Q () { s with heap:=h',toks:=tk }) :
  wpAny (model prog w) A (setAttr (.ref x) name v) Q E s:=by
 obtain ⟨u,hu⟩:∃ u,s.heap.get? dx=some u:=let ⟨o,_,_,e,_⟩:=hn;⟨o,e⟩
 have I:InstAt s.heap x ox C (some u):=⟨hx,hc,by unfold PySem.W.notCls;rw [hf],by rw [hd];exact hu⟩
 obtain ⟨cd,hcd,hdd⟩:=PySem.W.any_some S.hd
 obtain ⟨oc,odt,oda,osl⟩:=ox
 dsimp only at hc hf hd
 subst hc hf hd
 refine PySem.W.set_plain X I S.s (XH (s:={ s with toks:=s.toks+1 }) (od:=some u) X I S fun b=>?_)
 refine wpAny_bind (wpAny_pure (wpAny_bind (wpAny_bind (wpAny_loadPart hx (wpAny_bind (PySem.W.Looks.here (s:={ s with toks:=s.toks+1 }) (PySem.W.looks_clsIn X hcd) ?_))))))
 rw [hdd]
 refine wpAny_pure (a:=some dx) (wpAny_bind (wpAny_pure (wpAny_bind ?_)))
 refine wpAny_nsSet1 (s:={ s with toks:=s.toks+1 }) hn fun h' hn2 hs2=>?_
 obtain ⟨oD,esD,epD,hoD,hdD,hcD⟩:=hn2.count (PySem.Within.cons name v hw)
 refine wpAny_bind (wpAny_lookBehind hoD (by rw [hdD];exact pastItsLine_dict (Nat.le_trans hcD (by rw [List.length_cons,sizeLine_eq];omega))) ?_)
 exact wpAny_pure (h h' _ hn2 hs2)
end
open PySem.W (Looks InstAt findIn findObj subIn mroIn clsIn takerIn hasDictIn)
noncomputable def XW (C t:Addr)(d:Option Addr):Obj:={ cls:=.ref C,data:=.fields #[.ref t,.none,.none,.none,.bool false,.none],dict:=d }
noncomputable def ky (a C t:Addr)(d:Option Addr):HO:=.ext fun h=>h.get? a=some (XW C t d)
noncomputable def XdE (dx:Addr)(fs:List (Str × V)):HO:=.ext fun h=>∃ mA,h.Ns1 dx mA/\(∀ f,xR (fs.lookup f) (mA f))/\Within mA (fs.map (·.1))
theorem ZU {P:Program}{w:World}{H:Hp}{h:Heap}{a C t:Addr}{d:Option Addr}(e:h.get? a=some (XW C t d)):zW P w H h a (ky a C t d):=⟨e,⟨_,e⟩,fun _ _ e k=>k _ e⟩
theorem Vv {P:Program}{w:World}{H:Hp}{h:Heap}{dx:Addr}{fs:List (Str × V)}{mA:Str->Option Value}(n:h.Ns1 dx mA)(r:∀ f,xR (fs.lookup f) (mA f))(wi:Within mA (fs.map (·.1))):zW P w H h dx (XdE dx fs):=by
 refine ⟨⟨mA,n,r,wi⟩,?_,fun h1 h2 ⟨mA,⟨o,es,ep,e,c⟩,r⟩ k=>⟨mA,⟨o,es,ep,k _ e,c⟩,r⟩⟩
 obtain ⟨o,_,_,e,_⟩:=n
 exact ⟨o,e⟩
section
variable {X:Cx}{pins:List (Addr × Obj)}{σ:St}{H:Hp}{s:Shared}
theorem Inv.drop (I:Inv X pins σ H s){x:Addr}(mu:Mut (H x))(h0:X.s₀.heap.get? x=none):Inv X pins σ (fun b=>if b=x then none else H b) s:=by
 have ne1:∀ {b:Addr} {y:Addr},H b=some (.own y)->b ≠ x:=fun e z=>by rw [z] at e;rw [e] at mu;exact mu
 have ne2:∀ {b:Addr} {xs:List V},H b=some (.tup xs)->b ≠ x:=fun e z=>by rw [z] at e;rw [e] at mu;exact mu
 refine ⟨I.ok,I.os,I.bare,⟨I.base.keep,I.base.slot,fun b u e n hb=>?_,I.base.there,fun b xs e=>?_,fun b u v e=>?_,fun b ps e=>?_⟩,I.loc,I.cell,?_,fun y c e=>?_,fun p hp'=>?_,fun b u e=>?_,I.len⟩
 ·show (if b=x then none else H b)=none
  split
  ·rfl
  ·exact I.base.free b u e n hb
 ·have:=I.base.tups b xs e
  show (if b=x then none else H b)=_
  rw [if_neg (ne2 this)];exact this
 ·have:=I.base.frzs b u v e
  show (if b=x then none else H b)=_
  rw [if_neg (fun z=>by rw [z] at this;rw [this] at mu;exact mu)];exact this
 ·obtain ⟨m,this⟩:=I.base.tbls b ps e
  refine ⟨m,?_⟩
  show (if b=x then none else H b)=_
  rw [if_neg (fun z=>by rw [z] at this;rw [this] at mu;exact mu)];exact this
 ·show (if _=x then none else H _)=none
  split
  ·rfl
  ·exact I.free
 ·show (if _=x then none else H _)=none
  split
  ·rfl
  ·exact I.freeC y c e
 ·obtain ⟨e1,e2,e3⟩:=I.pin p hp'
  refine ⟨e1,?_,e3⟩
  show (if _=x then none else H _)=none
  split
  ·rfl
  ·exact e2
 ·have e:(if b=x then none else H b)=some u:=e
  split at e
  ·cases e
  ·exact (I.hok b u e).stay (fun _ _ _ q=>q) (fun d q=>by show (if _=x then none else H _)=_;rw [if_neg (ne1 q)];exact q) fun d xs q=>by show (if _=x then none else H _)=_;rw [if_neg (ne2 q)];exact q
noncomputable def Q7 (K:PySem.W.Frag)(ta tv:TE)(f:Str):TS:=fun D σ H=>tv σ H fun y H1=>ta σ H1 fun x H2=>∃ a C t,x=.ref a/\yr K C f /\
 ((H2 a=some (ky a C t none)/\∀ dx,H2 dx=none->dx ≠ a->D.nx σ (upd (upd H2 a (ky a C t (some dx))) dx (XdE dx [(f,y)]))) \/
  ∃ dx fs,H2 a=some (ky a C t (some dx))/\H2 dx=some (XdE dx fs)/\fs.length<1000/\D.nx σ (upd H2 dx (XdE dx (jC f y fs))))
variable {o value:Expr}{f:Str}{ta tv:TE}{pos pos':Pos}
theorem yp (ha:PE X o ta)(hv:PE X value tv)(hs:swapsWith value (some (.Attribute o f pos')) pos.line X.env=pure false):PS X (.Assign [.Attribute o f pos'] value pos) (Q7 X.K ta tv f):=by
 intro pins s σ H D I h
 refine plainObj_wpAny_Assign_Attribute (thn (hv pins s σ H _ I h) fun u s1 ⟨y,H1,I1,ry,q⟩=>thn (ha pins s1 σ H1 _ I1 q) fun ov s2 ⟨x,H2,I2,rx,a,C,t,ex,S,q2⟩=>?_) hs
 subst ex
 obtain rfl:ov=Value.ref a:=rx
 rcases q2 with ⟨ea,q2⟩ | ⟨dx,fs,ea,ed,hl,q2⟩
 ·have ho:s2.heap.get? a=some (XW C t none):=(I2.hok a _ ea).1
  refine Ao I2.kIn ho rfl rfl rfl S fun h' tk hn hx k=>?_
  have dn:H2 s2.heap.objs.size=none:=I2.hok.fresh (Nat.le_refl _)
  have da:s2.heap.objs.size ≠ a:=Nat.ne_of_gt (Heap.lt_size ho)
  have hd:∀ b o,s2.heap.get? b=some o->b ≠ s2.heap.objs.size:=fun b o e=>Nat.ne_of_lt (Heap.lt_size e)
  have na:∀ {b:Addr} {u:HO},H2 b=some u->(∀ φ,u ≠ .ext φ)->b ≠ a:=fun e n z=>by rw [z,ea] at e;cases e;exact n _ rfl
  have I3:Inv X pins σ (upd (upd H2 a (ky a C t (some s2.heap.objs.size))) s2.heap.objs.size (XdE s2.heap.objs.size [(f,y)])) { s2 with heap:=h',toks:=tk }:=by
   refine I2.un ⟨fun b o e n _ _=>k b o (fun z=>by rw [z,ea] at n;cases n) e,fun b o e n _ _=>⟨o.slots,k b o (fun z=>by rw [z,ea] at n;cases n) e⟩,fun b o e n _=>?_,fun b o e _=>?_,fun b xs e=>?_,fun b o u e=>?_,fun b ps e=>?_⟩ fun b u' e=>?_
   ·rw [zi (hd b o e),zi (fun z=>by rw [z,ea] at n;cases n)];exact n
   ·by_cases c:b=a
    ·exact ⟨_,c ▸ hx⟩
    ·exact ⟨o,k b o c e⟩
   ·rw [zi (zn e dn),zi (na e fun _ z=>nomatch z)];exact e
   ·rw [zi (zn e dn),zi (na e fun _ z=>nomatch z)];exact e
   ·exact ⟨#[],by rw [zi (zn e dn),zi (na e fun _ z=>nomatch z),Array.append_empty];exact e⟩
   ·by_cases c:b=s2.heap.objs.size
    ·subst c
     rw [zk] at e
     cases e
     refine Vv hn (fun g=>?_) fun g hg=>?_
     ·have e1:List.lookup g [(f,y)]=if g=f then some y else none:=kj f g y []
      rw [e1]
      by_cases q:g=f
      ·rw [if_pos q,if_pos q];exact ry
      ·rw [if_neg q,if_neg q];trivial
     ·by_cases q:g=f
      ·rw [q];simp
      ·exact absurd (if_neg q) hg
    ·rw [zi c] at e
     by_cases c2:b=a
     ·subst c2
      rw [zk] at e
      cases e
      exact ZU hx
     ·rw [zi c2] at e
      refine (I2.hok b u' e).stay (fun d v hd' q=>k d v (fun z=>?_) q) (fun d q=>?_) fun d xs q=>?_
      ·rcases hd' with rfl | hd'
       ·exact c2 z
       ·exact na hd' (fun _ z=>nomatch z) z
      ·rw [zi (zn q dn),zi (na q fun _ z=>nomatch z)];exact q
      ·rw [zi (zn q dn),zi (na q fun _ z=>nomatch z)];exact q
  exact ⟨σ,_,I3,q2 _ dn da⟩
 ·have ho:s2.heap.get? a=some (XW C t (some dx)):=(I2.hok a _ ea).1
  obtain ⟨⟨mA,hn,r,wi⟩,_,_⟩:=I2.hok dx _ ed
  refine BS I2.kIn ho rfl rfl rfl hn S wi (by rw [List.length_map];omega) fun h' tk hn' sb=>?_
  have hd:∃ o,h'.get? dx=some o:=let ⟨o,_,_,e',_⟩:=hn';⟨o,e'⟩
  refine ⟨σ,_,I2.write (x:=dx) (e:=dx) (by rw [ed];exact True.intro) (.inl rfl) (fun b q hb z=>(sb.2 b hb).trans z) hd (Vv hn' (fun g=>?_) fun g hg=>?_),q2⟩
  ·rw [kj]
   by_cases q:g=f
   ·rw [if_pos q,if_pos q];exact ry
   ·rw [if_neg q,if_neg q];exact r g
  ·by_cases q:g=f
   ·rw [q];exact (kB f y fs).1
   ·refine (kB f y fs).2 g (wi g fun z=>hg ?_)
    show (if g=f then some u else mA g)=none
    rw [if_neg q];exact z
end
theorem JB {K:PySem.W.Frag}{h:Heap}{N:Addr}{mg:Str->Option Value}{n:Str}{v:Value}(X:K.In h)(G:h.Ns N mg)(e:PySem.W.nsIn K N n=some (some v)):mg n=some v:=by
 obtain ⟨o,es,ep,ho,hd,_,hf⟩:=G
 unfold PySem.W.nsIn at e
 split at e
 ·rename_i c d es' n' sl q
  have:=X _ _ q
  rw [ho] at this
  cases this
  cases hd
  split at e
  ·rename_i en he
   cases e
   rw [<- hf]
   unfold nsFind findBy
   rw [<- Array.find?_toList,he]
   rfl
  ·split at e <;> cases e
 ·cases e
noncomputable def j7 (K:PySem.W.Frag)(C:Addr)(bmB:List Value)(newId:String)(fI:Addr):Bool:=match K.lookup C with
 | some ⟨.type "type",_,.cls cd,sl⟩=>(match cd.mro,sl.toList with
  | .ref C' :: bm,[_,_,_,_,some (.builtin n),_]=>C' == C && n == newId && !cd.hasDel && PySem.W.tailIn K bmB bm && PySem.W.nsOkIn K cd.ns && PySem.W.nsIn K cd.ns "__init__" == some (some (.ref fI))
  | _,_=>false)
 | _=>false
theorem QI {K:PySem.W.Frag}{h:Heap}{C fI:Addr}{bmB:List Value}{newId:String}(X:K.In h)(q:j7 K C bmB newId fI=true) :
  ∃ bm N nm qn bs hdct sn sub ab col dd k0 k1 k2 k3 k5 mN,h.get? C=some (excClassObj nm qn C N bs bm hdct sn sub ab col dd k0 k1 k2 k3 k5 newId)/\h.Ns N mN/\mN "__init__"=some (.ref fI)/\OwnTail h bmB bm:=by
 unfold j7 at q
 split at q
 ·rename_i dd cd sl ho
  split at q
  ·rename_i C' bm k0 k1 k2 k3 n k5 hm hs
   simp only [Bool.and_eq_true,beq_iff_eq,Bool.not_eq_true'] at q
   obtain ⟨⟨⟨⟨⟨z1,z2⟩,z3⟩,z4⟩,z5⟩,z6⟩:=q
   subst z1 z2
   obtain ⟨c1,c2,c3,c4,c5,c6,c7,c8,c9,c10,c11⟩:=cd
   dsimp only at hm z3 z5 z6
   subst hm z3
   have es:sl=#[k0,k1,k2,k3,some (.builtin n),k5]:=Array.ext' hs
   subst es
   exact ⟨bm,c4,c1,c5,c2,c6,c7,c8,c9,c10,dd,k0,k1,k2,k3,k5,_,X _ _ ho,.of_isNs (PySem.W.isNs_of_in X z5),JB X (.of_isNs (PySem.W.isNs_of_in X z5)) z6,PySem.W.tail_of_in X z4⟩
  ·cases q
 ·cases q
noncomputable def spI (C:Addr)(n:Nat)(fn:List V->List (Str × V)):Sp:=fun vs H Q E=>∃ a t us,vs=.ref a :: us/\us.length=n/\H a=some (ky a C t none)/\∀ dx,H dx=none->dx ≠ a->Q .non (upd (upd H a (ky a C t (some dx))) dx (XdE dx (fn us)))
noncomputable def MkX (P:Program)(w:World)(K:PySem.W.Frag)(mg:Str->Option Value)(base:Heap)(C:Addr)(k n:Nat)(fn:List V->List (Str × V)):Prop:=
 ∃ f fd ps,j7 K C vG "ValueError.__new__" f=true/\jx P w K mg base CX0 k f fd ps (spI C n fn)/\jB K fd ps []/\(∃ oI,K.lookup f=some oI/\oI.cls=.type "function")/\ps.length=n+1
noncomputable def Xy (C:Addr)(n:Nat)(fn:List V->List (Str × V))(E:St->XK)(t:TA):TS:=fun _ σ H=>t σ H fun vs H1=>vs.length=n/\n<=1000/\∀ dx,H1 dx=none->E σ (.ref C) (some dx) (upd H1 dx (.xd (fn vs)))
section
variable {X:Cx}{E:XK}{C:Addr}{x:Str}{np cpos pos:Pos}{e:Expr}{es:List Expr}{t:TA}{k n:Nat}{fn:List V->List (Str × V)}
theorem qF (D:DX X E)(hc:X.calm=true)(m:MkX X.prog X.w X.K X.mg X.base C k n fn)(hr:ql (k+1) X.A)(hg:Gl X x)(hm:X.mg x=some (.ref C))(ha:PA X (e :: es) t)(hdb:(x == ("__debug__":Str))=false:=by decide)
  (he:starEach (e :: es) X.env=(false,eval e X.env) :: starEach es X.env:=by rfl) (hpl:(backTo cpos (starEach es X.env)).any (·.1)=false:=by rfl) :
  PS X (.Raise (some (.Call (.Name x np) (e :: es) [] cpos)) none pos) (Xy C n fn (fun _=>E) t):=by
 intro pins s σ H De I h
 obtain ⟨fI,fd,ps,q,F,hb,⟨oI,lk,hfc⟩,hps⟩:=m
 obtain ⟨bm,N,nm,qn,bs,hdct,sn,sub,ab,col,dd,k0,k1,k2,k3,k5,mN,hC,hN,hi,T⟩:=QI I.ok.mod.kin q
 refine Vl (C:=C) (nm:=nm) (q:=qn) (N:=N) (bs:=bs) (bm:=bm) (hdct:=hdct) (sn:=sn) (sub:=sub) (ab:=ab) (col:=col) (dd:=dd) (k0:=k0) (k1:=k1) (k2:=k2) (k3:=k3) (k5:=k5)
  PySem.F.excBase_ValueError (by decide) PySem.F.excBase_ValueError (mN:=mN) (T.hasType PySem.F.excBase_ValueError.hasBase) (I.ok.hd hc) (by rw [he];show (false || (backTo cpos (starEach es X.env)).any (·.1))=false;rw [hpl];rfl) hi hfc (ki I hg hm ⟨rfl,?_⟩ hdb)
 have:=ha cpos pins s σ H _ I h
 rw [he] at this ⊢
 refine Calls.evalArgs_plain (wpAny_mono this (fun us s2 h2=>?_) fun _ _ y=>y)
 obtain ⟨vs,H1,I1,r,hl,hn,q1⟩:=h2
 have hlu:us.length=n:=by rw [<- r.length];exact hl
 refine ⟨rfl,by rw [hlu,sizeLine_eq];omega,I1.bk _ _ hC,hN.keeps I1.bk,T.keeps I1.bk,I1.kIn _ _ lk,fun h' x1 hx=>?_⟩
 obtain ⟨t1,ho,_,_⟩:=hx.there
 have nx:s2.heap.get? x1=none:=hx.new
 have hx0:X.s₀.heap.get? x1=none:=by
  cases z:X.s₀.heap.get? x1 with
  | none=>rfl
  | some o=>
   obtain ⟨o',e'⟩:=I1.base.there x1 o z (by rw [D.ex];simp)
   rw [nx] at e';cases e'
 have hx1:H1 x1=none:=by
  cases z:H1 x1 with
  | none=>rfl
  | some o=>
   obtain ⟨u,e'⟩:=(I1.hok x1 o z).here
   rw [nx] at e';cases e'
 have I2:Inv X pins σ H1 { s2 with heap:=h' }:=I1.kept (t':=s2.toks) hx.keeps
 have I3:Inv X pins σ (upd H1 x1 (ky x1 C t1 none)) { s2 with heap:=h' }:=I2.track hx1 hx0 (fun z=>by
   obtain ⟨mm,⟨o,_,_,e',_⟩,_⟩:=I1.loc
   rw [<- z,nx] at e';cases e') (fun y c e' z=>by
   obtain ⟨v,o,e2,_⟩:=I1.cell y c e'
   rw [z,nx] at e2;cases e2) (fun p hp z=>by
   have:=(I1.pin p hp).1
   rw [z,nx] at this;cases this) (ZU ho)
 have r2:zG (V.ref x1 :: vs) (Value.ref x1 :: us):=.cons rfl r
 have hl2:(Value.ref x1 :: us ++ []).length=ps.length:=by rw [List.append_nil,List.length_cons,hlu,hps]
 have b1:=hb { s2 with heap:=h' } (Value.ref x1 :: us) I3.kIn hl2
 rw [List.append_nil] at b1
 refine wpAny_call (codeAny_mono (F.run _ X.stack _ _ ⟨Value.ref x1 :: us,[]⟩ (Value.ref x1 :: us) (V.ref x1 :: vs) (fun v H2=>v=.non/\∃ dx,H1 dx=none/\dx ≠ x1/\H2=upd (upd H1 x1 (ky x1 C t1 (some dx))) dx (XdE dx (fn vs))) E (hr.make C us []) (I3.env0.make C us []) b1 r2 ⟨x1,t1,vs,rfl,hl,zk,fun dx hd hne=>⟨rfl,dx,?_,hne,by rw [xJ]⟩⟩) fun r s' hq'=>?_)
 ·rw [zi hne] at hd;exact hd
 cases r with
 | error e=>exact False.elim hq'
 | ok fl=>
  cases fl with
  | ret u=>
   obtain ⟨v,H',I4,rv,ev,dx,d1,d2,eH⟩:=I3.after hq'
   subst ev eH
   have hcl:=I4.bk _ _ hC
   have hex:s'.heap.get? x1=some (XW C t1 (some dx)):=by
    have:=I4.hok x1 (ky x1 C t1 (some dx)) (by rw [zi (Ne.symm d2),zk])
    exact this.1
   refine ⟨rv,hcl,⟨t1,some dx,hex⟩,?_⟩
   have I5:=I4.drop (x:=x1) (by rw [zi (Ne.symm d2),zk];exact True.intro) hx0
   have eH:(fun b=>if b=x1 then none else upd (upd H1 x1 (ky x1 C t1 (some dx))) dx (XdE dx (fn vs)) b)=upd H1 dx (XdE dx (fn vs)):=by
    funext b
    by_cases c:b=x1
    ·rw [if_pos c,c,zi (Ne.symm d2)];exact hx1.symm
    ·rw [if_neg c]
     by_cases c2:b=dx
     ·rw [c2,zk,zk]
     ·rw [zi c2,zi c,zi c2]
   rw [eH] at I5
   obtain ⟨⟨mA,hn1,hr1,_⟩,⟨od,hod⟩,_⟩:=I5.hok dx (XdE dx (fn vs)) zk
   have I6:=I5.write (x:=dx) (e:=dx) (h':=s'.heap) (t':=s'.toks) (o:=.xd (fn vs)) (by rw [zk];exact True.intro) (.inl rfl) (fun _ _ _ z=>z) ⟨od,hod⟩ ⟨mA,hn1,hr1⟩
   rw [xJ] at I6
   exact D.raise (C:=C) (d:=some dx) I6 (x:=x1) (h1:=s'.heap) (fun b o _ z=>z) (fun o z=>by rw [hex] at z;cases z;exact ⟨_,rfl⟩) hex rfl rfl rfl rfl rfl (.inl rfl) hx0 (by rw [zi (Ne.symm d2)];exact hx1) (q1 dx d1)
  | next=>exact False.elim hq'
  | brk=>exact False.elim hq'
  | cont=>exact False.elim hq'
end
open PySem.W (Looks InstAt findIn findObj subIn mroIn clsIn takerIn hasDictIn)
noncomputable def DmX (P:Program)(w:World)(K:PySem.W.Frag)(mg:Str->Option Value)(base:Heap)(C:Addr)(m:Str)(ps:List Str)(k:Nat)(sp:Sp):Prop:=
 ∃ f fd,jx P w K mg base (CX1 P w) k f fd ps sp/\jB K fd ps []/\JD K C m f
theorem DmX.mono {P:Program}{w:World}{K:PySem.W.Frag}{mg:Str->Option Value}{base:Heap}{C:Addr}{m:Str}{ps:List Str}{j k:Nat}{sp:Sp}(D:DmX P w K mg base C m ps j sp)(h:j<=k):DmX P w K mg base C m ps k sp:=
 let ⟨f,fd,F,r⟩:=D
 ⟨f,fd,F.mono h,r⟩
noncomputable def vJ (C:Addr)(m:Str)(sp:Sp)(E:St->XK)(ta:TE)(t:TA):TE:=fun σ H Q=>ta σ H fun x H1=>∃ a dx fs,x=.ref a/\H1 a=some (.ins C dx fs)/\fs.lookup m=none/\t σ H1 fun vs H2=>sp (x :: vs) H2 Q (E σ)
section
variable {X:Cx}{k:Nat}{C:Addr}{m x:Str}{ps:List Str}{sp:Sp}{E:St->XK}{p pos apos:Pos}{o e:Expr}{es:List Expr}{t:TA}{to:TE}
theorem xY {pl:Sem Bool}(c:Cls X.K C)(D:DmX X.prog X.w X.K X.mg X.base C m ps k sp)(hr:ql k X.A)(hx:y4 (CX1 X.prog X.w) X E)(ho:PE X o to)(ha:PA X (e :: es) t)
  (hst:starEach (e :: es) X.env=(false,eval e X.env) :: starEach es X.env:=by rfl) (hpl:(backTo pos (starEach es X.env)).any (·.1)=false:=by rfl)
  (ht:eval (.Call (.Attribute o m apos) (e :: es) [] pos) X.env=(do
   let ov <- eval o X.env
   standAt apos.atName
   let (f,first) <- holding [ov] (getMethod ov m pl)
   callWith pos f first (backTo pos (starEach (e :: es) X.env)) (backToKw pos (keywordEach [] X.env))):=by rfl) :
  PE X (.Call (.Attribute o m apos) (e :: es) [] pos) (vJ C m sp E to t):=by
 obtain ⟨f,fd,F,b,hm⟩:=D
 intro pins s σ H Q I h
 refine PySem.W.methodCall_KW (pl:=pl) (thn (ho pins s σ H _ I h) fun u s1 ⟨x,H1,I1,rx,a,dx,fs,ex,ea,l,q⟩=>?_) ht
 subst ex
 obtain rfl:u=Value.ref a:=rx
 refine kR I1 ea c hm l ?_
 refine PySem.W.callWith_K (first:=[.ref a]) (h₀:=X.base) I.ok.mod.kin hm.kp (thn (ha pos pins s1 σ H1 _ I1 q) fun us s2 ⟨vs,H2,I2,r,q2⟩=>⟨I2.kIn,?_⟩) hst hpl
 exact KZ (us:=.ref a :: us) (vs:=.ref a :: vs) F hr b hx I2 (.cons rfl r) q2
end
theorem Gk {P:Program}{w:World}{K:PySem.W.Frag}{mg:Str->Option Value}{base:Heap}{C:Addr}{m qual:Str}{st:Stmt}{N ps:List Str}{k:Nat}{sp:Sp}(a:AtM K C m qual st)(S:zt N ps (ze st))
  (hb:∀ (kV doc pm:Value) (an:Option Addr) (cdv ct:Value) (us:List Value),us.length=ps.length->bindArgs (PySem.W.fnOf m qual (qm st) (zM st) (ze st) .none kV doc pm an cdv ct) ⟨us,[]⟩=pure (ps.zip us))
  (len:∀ vs H Q E,sp vs H Q E->vs.length=ps.length)
  (hbody:∀ (f:Addr) (cdv:Value) (A:Around) (outer:List Env) (s:Shared) (H:Hp) (vs:List V) (Q:VK) (E:XK),ql k (A.deeper (envOfC qual (ze st) s.heap.objs.size f cdv))->sp vs H Q E ->
   ∃ t,(DX (jD (CX1 P w) P w K mg base N qual (ze st) f cdv A outer s H E) E->PSs (jD (CX1 P w) P w K mg base N qual (ze st) f cdv A outer s H E) (zM st) t)/\t { nx:=fun _ H'=>Q .non H',rt:=Q } (qL N vs) H):DmX P w K mg base C m ps (k+1) sp:=by
 obtain ⟨f,fd,F,mt⟩:=a
 refine ⟨f,fd,?_,F.binds hb,mt⟩
 obtain ⟨oc,od,kV,doc,pm,an,cdv,ct,osl,rfl,lk,hcd⟩:=F.ex
 refine Vp lk hcd S len fun A outer s H vs Q E hr hsp=>?_
 obtain ⟨t,ht,q⟩:=hbody f cdv A outer s H vs Q E hr hsp
 exact ⟨t,ht ⟨rfl,rfl,rfl,rfl⟩,q⟩
theorem Qx {K:PySem.W.Frag}{C:Addr}{u:Obj}{name:Str}{v:Value}(hh:hasDictIn K C=true)(ha:findIn K (.ref C) name=some none)(hl:PySem.W.lookIn name u=some (some v)):findObj K C (some u) name=some (.value v):=PySem.W.findObj_own hh ha rfl hl
section
variable {prog:Program}{w:World}{A:Around}{E:Value->Shared->Prop}{s:Shared}{K:PySem.W.Frag}{x C:Addr}{ox u:Obj}{name:Str}{v:Value}
theorem Gi {expr:Bool}{Q:Value->Shared->Prop}(X:K.In s.heap)(I:InstAt s.heap x ox C (some u))(hb:subIn K (.ref C) (.type "BaseException")=some true)
  (h1:findIn K (.ref C) "__getattribute__"=some (some (.builtin "BaseException.__getattribute__"))) (h2:findIn K (.ref C) "__getattr__"=some none)
  (hf:findObj K C (some u) name=some (.value v)) (hh:PySem.W.handedIn v=true) (q:Q v { s with toks:=s.toks+1 }) :
  wpAny (model prog w) A (getAttr (.ref x) name expr) Q E s:=by
 obtain ⟨h,g,d,t,os⟩:=s
 unfold getAttr
 refine wpAny_bind (wpAny_mkText ?_)
 refine Lb X I hb h1 h2 ?_
 have L0:=I.type (M:=model prog w)
 have L1:=PySem.W.looks_find (M:=model prog w) X I hf
 have fin:wpAny (model prog w) A (handedOut v) Q E ⟨h,g,d,t+1,os⟩:=by rw [PySem.W.handedOut_of hh];exact wpAny_pure q
 unfold Builtin.«object.__getattribute__»
 repeat (any_goals (first | assumption | with_reducible refine Looks.at L0 ?_ | with_reducible refine Looks.at L1 ?_ | wp_step))
end
section
variable {X:Cx}{e:Expr}{ta:TE}{f:Str}{pos:Pos}
end
theorem BA {P:Program}{w:World}{K:PySem.W.Frag}{mg:Str->Option Value}{base:Heap}{C f:Addr}{fd:FuncData}{qual:Str}{st:Stmt}{N ps:List Str}{k n:Nat}{fn:List V->List (Str × V)}(F:Fun K "__init__" qual st f fd)(S:zt N ps (ze st))
  (hb:∀ (kV doc pm:Value) (an:Option Addr) (cdv ct:Value) (us:List Value),us.length=ps.length->bindArgs (PySem.W.fnOf "__init__" qual (qm st) (zM st) (ze st) .none kV doc pm an cdv ct) ⟨us,[]⟩=pure (ps.zip us))
  (q:j7 K C vG "ValueError.__new__" f=true) (hf:PySem.W.isFn K (.ref f)=true) (hl:ps.length=n+1)
  (hbody:∀ (cdv:Value) (A:Around) (outer:List Env) (s:Shared) (H:Hp) (E:XK),∃ t,PSs (jD CX0 P w K mg base N qual (ze st) f cdv A outer s H E).nox (zM st) t /\
   ∀ (a t0:Addr) (us:List V) (Q:VK),us.length=n->H a=some (ky a C t0 none)->(∀ dx,H dx=none->dx ≠ a->Q .non (upd (upd H a (ky a C t0 (some dx))) dx (XdE dx (fn us))))->t { nx:=fun _ H'=>Q .non H',rt:=Q } (qL N (.ref a :: us)) H):MkX P w K mg base C (k+1) n fn:=by
 have hfc:∃ oI,K.lookup f=some oI/\oI.cls=.type "function":=by
  obtain ⟨oc,od,kV,doc,pm,an,cdv,ct,osl,rfl,lk,hcd⟩:=F.ex
  refine ⟨_,lk,?_⟩
  have hf':=beq_iff_eq.mp hf
  have hf':Option.map (fun x:Obj=>x.cls) (K.lookup f)=some (.type "function"):=hf'
  rw [lk] at hf'
  exact Option.some.inj hf'
 refine ⟨f,fd,ps,q,F.ok S (fun vs H Q E ⟨a,t,us,e,l,_⟩=>by rw [e,List.length_cons,l,hl]) fun cdv A outer s H vs Q E hr ⟨a,t0,us,e,l,ha,hq⟩=>?_,F.binds hb,hfc,hl⟩
 obtain ⟨t,h1,h2⟩:=hbody cdv A outer s H E
 subst e
 exact ⟨t,h1,h2 a t0 us Q l ha hq⟩
open PySem.W (findIn hasDictIn)
theorem vm {H:Hp}{O:Own}{M:MH}:∀ {xs:List (Str × V)} {l:List (Str × AV)},xj H O M xs l->∀ f,(xs.lookup f=none/\l.lookup f=none) \/ ∃ v x,xs.lookup f=some v/\l.lookup f=some x/\zw H O M v x
 | [],[],_,f=>.inl ⟨rfl,rfl⟩
 | [],_ :: _,r,f=>by have:=r.1;simp at this
 | _ :: _,[],r,f=>by have:=r.1;simp at this
 | (g,v) :: xs,(g',x) :: l,r,f=>by
  have h1:=r.1
  rw [List.map_cons,List.map_cons] at h1
  obtain ⟨e0,h2⟩:=List.cons.inj h1
  have e0:g=g':=e0
  subst e0
  have r0:zw H O M v x:=r.2.2 0 v x rfl rfl
  have r1:xj H O M xs l:=⟨h2,by have:=r.2.1;simp at this;simpa using this,fun i a b e1 e2=>r.2.2 (i+1) a b e1 e2⟩
  by_cases c:f=g
  ·subst c
   exact .inr ⟨v,x,by simp [List.lookup],by simp [List.lookup],r0⟩
  ·have e:(f == g)=false:=by simpa using c
   simp only [List.lookup,e]
   exact vm r1 f
noncomputable def xM (f:Str)(v:AV):List (Str × AV)->List (Str × AV)
 | []=>[(f,v)]
 | (g,x) :: r=>if g=f then (g,v) :: r else (g,x) :: xM f v r
theorem A0 {H:Hp}{O:Own}{M:MH}{f:Str}{v:V}{x:AV}(rv:zw H O M v x):∀ {xs:List (Str × V)} {l:List (Str × AV)},xj H O M xs l->xj H O M (jC f v xs) (xM f x l)
  | [], [], _ => ⟨rfl, rfl, fun i a b e1 e2 => by
      cases i with
      | zero=>cases e1;cases e2;exact rv
      | succ i=>cases e1⟩
  | [],_ :: _,r=>by have:=r.1;simp at this
  | _ :: _,[],r=>by have:=r.1;simp at this
  | (g,v') :: xs,(g',x') :: l,r=>by
    have h1:=r.1
    rw [List.map_cons,List.map_cons] at h1
    obtain ⟨e0,h2⟩:=List.cons.inj h1
    have e0:g=g':=e0
    subst e0
    have r0:zw H O M v' x':=r.2.2 0 v' x' rfl rfl
    have ll:xs.length=l.length:=by have:=r.2.1;simp at this;exact this
    have r1:xj H O M xs l:=⟨h2,by simpa using ll,fun i a b e1 e2=>r.2.2 (i+1) a b e1 e2⟩
    unfold jC xM
    by_cases c:g=f
    · rw [if_pos c,if_pos c]
      exact ⟨by rw [List.map_cons,List.map_cons,h2],by simpa using ll,fun i a b e1 e2=>by
        cases i with
        | zero=>cases e1;cases e2;exact rv
        | succ i=>exact r1.2.2 i a b e1 e2⟩
    · rw [if_neg c,if_neg c]
      have ih:=A0 (f:=f) rv r1
      exact ⟨by rw [List.map_cons,List.map_cons,ih.1],by have:=ih.2.1;simpa using this,fun i a b e1 e2=>by
        cases i with
        | zero=>cases e1;cases e2;exact r0
        | succ i=>exact ih.2.2 i a b e1 e2⟩
theorem Gh {H:Hp}{O:Own}{M:MH}{xs:List (Str × V)}{l:List (Str × AV)}(r:xj H O M xs l):xs.length=l.length:=by simpa using r.2.1
theorem XS {H:Hp}{O:Own}{M:MH}(w:Wf H O M){p C:Addr}{fs:List (Str × AV)}(hp:M p=some (.ins C fs))(f:Str){v:V}{y:AV}(rv:zw H O M v y) :
  ∃ dx xs,H p=some (.ins C dx xs)/\xs.length=fs.length/\Ext H O M (upd H p (.ins C dx (jC f v xs))) O (mup M p (.ins C (xM f y fs)))/\Wf (upd H p (.ins C dx (jC f v xs))) O (mup M p (.ins C (xM f y fs))):=by
 obtain ⟨dx,xs,g1,g2,g3,g4,g5⟩:=w.mo p _ hp
 have np:=jS hp
 have ks:=xt w np (.ins C dx (jC f v xs)) (.ins C (xM f y fs))
 have kp:=A0 (f:=f) rv g2
 refine ⟨dx,xs,g1,Gh g2,ks,Jr w np (fun _ z=>nomatch z) (show jf _ _ _ p (.ins C (xM f y fs)) from ⟨dx,_,zk,⟨kp.1,kp.2.ext ks⟩,g3,(ks.prv dx g3 g4).2.2,?_⟩)⟩
 rw [(ks.prv dx g3 g4).1];exact g5
noncomputable def Il (K:PySem.W.Frag)(a:AE)(f:Str):AE:=fun ρ M Q=>a ρ M fun x M1=>∃ p C fs v,x=.ref p/\M1 p=some (.ins C fs)/\Cls K C/\j4 K C f/\fs.lookup f=some v/\Q v M1
theorem EQ {K:PySem.W.Frag}{t:TE}{a:AE}{f:Str}(h:zN t a):zN (FY K t f) (Il K a f):=⟨fun w e q k=>h.go w e q fun x M1 v H1 O1 q1 k1 w1 r1=>by
 obtain ⟨p,C,fs,y,rfl,hp,c,n,hl,q2⟩:=q1
 obtain ⟨dx,xs,h1,h2,_⟩:=w1.mo p _ hp
 rcases vm h2 f with ⟨_,z⟩ | ⟨u,z,h3,h4,h5⟩
 ·rw [z] at hl;cases hl
 ·rw [hl] at h4;cases h4
  exact ⟨p,C,dx,xs,u,r1.1,h1,c,n,h3,k _ _ _ _ _ q2 k1 w1 h5⟩⟩
noncomputable def AY (K:PySem.W.Frag)(a b:AE)(f:Str):AS:=fun _ D ρ M=>b ρ M fun y M1=>a ρ M1 fun x M2=>∃ p C fs,x=.ref p/\M2 p=some (.ins C fs)/\Cls K C/\j4 K C f/\fs.length<1000/\D.nx ρ (mup M2 p (.ins C (xM f y fs)))
theorem BD {K:PySem.W.Frag}{t u:TE}{a b:AE}{f:Str}(h1:zN t a)(h2:zN u b):jq (ET K t u f) (AY K a b f):=⟨fun _ w e x q E=>h2.go w e q fun y M1 v H1 O1 q1 k1 w1 r1=>h1.go w1 (e.ext k1) q1 fun z M2 v2 H2 O2 q2 k2 w2 r2=>by
 obtain ⟨p,C,fs,rfl,hp,c,n,hl,q3⟩:=q2
 obtain ⟨dx,xs,g1,g2,ks,w3⟩:=XS w2 hp f (r1.ext k2)
 exact ⟨p,C,dx,xs,r2.1,g1,c,n,by rw [g2];exact hl,E.nx _ _ _ _ _ w3 ((e.ext k1).ext (k2.trans ks)) ((x.trans k1).trans (k2.trans ks)) q3⟩⟩
noncomputable def Ft (C:Addr)(m:Str)(sp:ASp)(a:AE)(b:AA):AE:=fun ρ M Q=>a ρ M fun x M1=>∃ p fs,x=.ref p/\M1 p=some (.ins C fs)/\fs.lookup m=none/\b ρ M1 fun xs M2=>sp (.ref p :: xs) M2 Q
theorem Zx {H:Hp}{O:Own}{M:MH}{v:V}{x:AV}{vs:List V}{xs:List AV}(r:zw H O M v x)(rs:zj H O M vs xs):zj H O M (v :: vs) (x :: xs):=⟨by rw [List.length_cons,List.length_cons,rs.1],fun i a b e1 e2=>by
 cases i with
 | zero=>cases e1;cases e2;exact r
 | succ i=>exact rs.2 i a b e1 e2⟩
theorem Va {C:Addr}{m:Str}{sp:ASp}{t:TE}{u:TA}{a:AE}{b:AA}(h1:zN t a)(h2:jv u b):zN (Zc C m (cSp sp) [] E0 t u) (Ft C m sp a b):=⟨fun w e q k=>h1.go w e q fun x M1 v H1 O1 q1 k1 w1 r1=>by
 obtain ⟨p,fs,rfl,hp,hl,q2⟩:=q1
 obtain ⟨dx,xs,g1,g2,_⟩:=w1.mo p _ hp
 have hn:xs.lookup m=none:=by
  rcases vm g2 m with z | ⟨_,_,_,z,_⟩
  ·exact z.1
  ·rw [hl] at z;cases z
 refine ⟨p,dx,xs,r1.1,g1,hn,h2.go w1 (e.ext k1) q2 fun ys M2 vs H2 O2 q3 k2 w2 r2=>?_⟩
 have rp:zw H2 O2 M2 v (.ref p):=r1.ext k2
 exact ⟨.ref p :: ys,M2,O2,_,w2,by rw [List.append_nil];exact Zx rp r2,q3,fun z M3 v3 H3 O3 q4 k3 w3 r3=>k z M3 v3 H3 O3 q4 ((k1.trans k2).trans k3) w3 r3⟩⟩
section
variable {HX:Hp}{OX:Own}{MX:MH}{E:St->XK}{EA:ASt->AXK}{sp:xO}{te:TE}{ae:AE}{ta:TA}{aa:AA}{C:Addr}{m:Str}
noncomputable def vH (C:Addr)(m:Str)(sp:xO)(EA:ASt->AXK)(a:AE)(b:AA):AE:=fun ρ M Q=>a ρ M fun x M1=>∃ p fs,x=.ref p/\M1 p=some (.ins C fs)/\fs.lookup m=none/\b ρ M1 fun xs M2=>sp (.ref p :: xs) M2 Q (EA ρ)
theorem wb (hE:EXs HX OX MX E EA)(ho:zN te ae)(hu:jv ta aa){σ:St}{H:Hp}{O:Own}{ρ:ASt}{M:MH}{Q:VK}{Q':AK}(kx:Ext HX OX MX H O M)(w:Wf H O M)(e:Er H O M σ ρ)(q:vH C m sp EA ae aa ρ M Q')(k:∀ x M' v H' O',Q' x M'->Ext H O M H' O' M'->Wf H' O' M'->zw H' O' M' v x->Q v H'):vJ C m (jG sp) E te ta σ H Q:=
 ho.go w e q fun x M1 v H1 O1 q1 k1 w1 r1=>by
  obtain ⟨p,fs,rfl,hp,hl,q2⟩:=q1
  obtain ⟨dx,xs,g1,g2,_⟩:=w1.mo p _ hp
  have hn:xs.lookup m=none:=by
   rcases vm g2 m with z | ⟨_,_,_,z,_⟩
   ·exact z.1
   ·rw [hl] at z;cases z
  refine ⟨p,dx,xs,r1.1,g1,hn,hu.go w1 (e.ext k1) q2 fun ys M2 vs H2 O2 q3 k2 w2 r2=>?_⟩
  have rp:zw H2 O2 M2 v (.ref p):=r1.ext k2
  exact ⟨.ref p :: ys,M2,O2,Q',EA ρ,w2,Zx rp r2,q3,fun x M3 v3 H3 O3 q4 k3 w3 r3=>k x M3 v3 H3 O3 q4 ((k1.trans k2).trans k3) w3 r3,fun C fs M' H' O' d q4 k3 w3 xd=>hE.go σ ρ C fs M' H' O' d q4 (((kx.trans k1).trans k2).trans k3) w3 (e.ext ((k1.trans k2).trans k3)) xd⟩
theorem Jt (hE:EXs HX OX MX E EA)(ho:zN te ae)(hu:jv ta aa):ku HX OX MX (XA (vJ C m (jG sp) E te ta)) (VO (vH C m sp EA ae aa)):=
 ⟨fun kx _ w e x q D=>wb hE ho hu (kx.trans x) w e q fun y M1 v H1 O1 q1 k1 w1 r1=>D.nx _ _ _ _ _ w1 (e.ext k1) (x.trans k1) q1⟩
theorem X0 {K:PySem.W.Frag}{f:Str}{to:TE}{ao:AE}(hE:EXs HX OX MX E EA)(ho:zN te ae)(hu:jv ta aa)(h1:zN to ao):ku HX OX MX (ET K to (vJ C m (jG sp) E te ta) f) (AY K ao (vH C m sp EA ae aa) f):=
 ⟨fun kx _ w e x q D=>wb hE ho hu (kx.trans x) w e q fun y M1 v H1 O1 q1 k1 w1 r1=>h1.go w1 (e.ext k1) q1 fun z M2 v2 H2 O2 q2 k2 w2 r2=>by
  obtain ⟨p,C,fs,rfl,hp,c,n,hl,q3⟩:=q2
  obtain ⟨dx,xs,g1,g2,ks,w3⟩:=XS w2 hp f (r1.ext k2)
  exact ⟨p,C,dx,xs,r2.1,g1,c,n,by rw [g2];exact hl,D.nx _ _ _ _ _ w3 ((e.ext k1).ext (k2.trans ks)) ((x.trans k1).trans (k2.trans ks)) q3⟩⟩
theorem Yv {g:TG}{ag:AG}(hE:EXs HX OX MX E EA)(ho:zN te ae)(hu:jv ta aa)(hg:vf g ag):ku HX OX MX (ZI (vJ C m (jG sp) E te ta) g) (VX (vH C m sp EA ae aa) ag):=
 ⟨fun kx _ w e x q D=>wb hE ho hu (kx.trans x) w e q fun y M1 v H1 O1 q1 k1 w1 r1=>hg.go w1 (e.ext k1) r1 q1 fun σ2 H2 O2 ρ2 M2 q2 k2 w2 e2=>D.nx _ _ _ _ _ w2 e2 ((x.trans k1).trans k2) q2⟩
noncomputable def WJ:AV->Option V
 | .d (.int i)=>some (.int i)
 | .d (.str s)=>some (.str s)
 | .d .non=>some .non
 | .d (.bl b)=>some (.bl b)
 | _=>none
theorem V9 {H:Hp}{O:Own}{M:MH}{v u:V}{x:AV}(r:zw H O M v x)(h:WJ x=some u):v=u:=by
 cases x with
 | ref a=>cases h
 | d d=>
  have r:Rep H O v d:=r
  cases d <;> first | (cases h;first | exact zT r | exact KO r | exact vt r | exact kz r) | cases h
theorem X7 {H:Hp}{O:Own}{M:MH}{vs us:List V}{xs:List AV}(r:zj H O M vs xs)(h:xs.map WJ=us.map some):vs=us:=by
 have ll:xs.length=us.length:=by simpa using congrArg List.length h
 refine List.ext_getElem (r.1.trans ll) fun i h1 h2=>?_
 have hi:i<xs.length:=by rw [<- r.1];exact h1
 have e:WJ xs[i]=some us[i]:=by
  have:=congrArg (fun z:List (Option V)=>z[i]?) h
  simpa [List.getElem?_map,List.getElem?_eq_getElem hi,List.getElem?_eq_getElem h2] using this
 exact V9 (r.2 i vs[i] xs[i] (List.getElem?_eq_getElem h1) (List.getElem?_eq_getElem hi)) e
noncomputable def Xo (C:Addr)(n:Nat)(fn:List V->List (Str × V))(EA:ASt->AXK)(b:AA):AS:=fun _ _ ρ M=>b ρ M fun xs M1=>∃ vs,xs.map WJ=vs.map some/\vs.length=n/\n<=1000/\EA ρ C (fn vs) M1
theorem Qu {n:Nat}{fn:List V->List (Str × V)}(hE:EXs HX OX MX E EA)(hu:jv ta aa):ku HX OX MX (Xy C n fn E ta) (Xo C n fn EA aa):=
 ⟨fun kx _ w e x q D=>hu.go w e q fun xs M1 vs H1 O1 q1 k1 w1 r1=>by
  obtain ⟨us,h1,h2,h3,h4⟩:=q1
  obtain rfl:=X7 r1 h1
  refine ⟨h2,h3,fun dx hd=>?_⟩
  have k2:=qK w1 hd (.xd (fn vs))
  exact hE.go _ _ C (fn vs) M1 _ (yc O1 dx) (some dx) h4 (((kx.trans x).trans k1).trans k2) (kQ w1 hd _ (fun _ z=>nomatch z)) (e.ext (k1.trans k2)) (.inr ⟨dx,rfl,zk,.inl rfl,(w1.fresh hd).2⟩)⟩
end
noncomputable def Bo:V->Option Dat
 | .int i=>some (.int i)
 | .str s=>some (.str s)
 | .non=>some .non
 | .bl b=>some (.bl b)
 | _=>none
theorem Y1 {H:Hp}{O:Own}{v:V}{d:Dat}(h:Bo v=some d):Rep H O v d:=by
 cases v <;> first | (cases h;constructor) | cases h
theorem dmA {P:Program}{w:World}{K:PySem.W.Frag}{mg:Str->Option Value}{base:Heap}{C:Addr}{m qual:Str}{st:Stmt}{N ps:List Str}{k:Nat}{a:ASp}(at_:AtM K C m qual st)(S:zt N ps (ze st))
  (hb:∀ (kV doc pm:Value) (an:Option Addr) (cdv ct:Value) (us:List Value),us.length=ps.length->bindArgs (PySem.W.fnOf m qual (qm st) (zM st) (ze st) .none kV doc pm an cdv ct) ⟨us,[]⟩=pure (ps.zip us))
  (len:∀ xs M Q,a xs M Q->xs.length=ps.length)
  (hbody:∀ (f:Addr) (cdv:Value) (A:Around) (outer:List Env) (s:Shared) (H:Hp) (E:XK),ql k (A.deeper (envOfC qual (ze st) s.heap.objs.size f cdv)) ->
   ∃ t,PSs (jD CX0 P w K mg base N qual (ze st) f cdv A outer s H E).nox (zM st) t/\∃ b,jq t b/\∀ xs M Q,a xs M Q->b M { nx:=fun _ M'=>rtA M Q (.d .non) M',rt:=rtA M Q } (zQ N xs) M):Dm P w K mg base C m ps (k+1) (cSp a):=by
 refine Hf at_ S hb (fun vs H Q E h=>?_) (fun f cdv A outer s H vs Q E hr h=>?_)
 ·obtain ⟨xs,M,O,Q',w,r,q,_⟩:=h
  rw [r.1];exact len xs M Q' q
 ·obtain ⟨t,ht,b,hb,hq⟩:=hbody f cdv A outer s H E hr
  refine ⟨t,ht,?_⟩
  obtain ⟨xs,M,O,Q',w,r,q,kk⟩:=h
  refine hb.go w w (xo r N) .refl (hq xs M Q' q) ⟨fun σ H' O' ρ M' w' e' x' q'=>?_,fun v y H' O' M' w' x' r' q'=>?_,fun _ _ _ _ _ _ _ _ z=>z.elim,fun _ _ _ _ _ _ _ _ z=>z.elim⟩
  ·obtain ⟨y',M'',f,q2⟩:=q'
   obtain ⟨O'',w2,k2,r2⟩:=xi w w' x' (show zw H' O' M' .non (.d .non) from .non) f
   exact kk _ _ _ _ _ q2 k2 w2 r2
  ·obtain ⟨y',M'',f,q2⟩:=q'
   obtain ⟨O'',w2,k2,r2⟩:=xi w w' x' r' f
   exact kk _ _ _ _ _ q2 k2 w2 r2
theorem Ya {P : Program}{w : World}{K : PySem.W.Frag}{mg : Str -> Option Value}{base : Heap}{C : Addr}{m qual : Str}{st : Stmt}{N ps : List Str}{k : Nat}{a : xO}(at_ : AtM K C m qual st)(S : zt N ps (ze st))
    (hb:∀ (kV doc pm:Value) (an:Option Addr) (cdv ct:Value) (us:List Value),us.length=ps.length->bindArgs (PySem.W.fnOf m qual (qm st) (zM st) (ze st) .none kV doc pm an cdv ct) ⟨us,[]⟩=pure (ps.zip us))
    (len:∀ xs M Q E,a xs M Q E->xs.length=ps.length)
    (hbody:∀ (f:Addr) (cdv:Value) (A:Around) (outer:List Env) (s:Shared) (H:Hp) (HX:Hp) (OX:Own) (MX:MH) (E':AXK),ql k (A.deeper (envOfC qual (ze st) s.heap.objs.size f cdv)) ->
      DX (jD (CX1 P w) P w K mg base N qual (ze st) f cdv A outer s H (cE HX OX MX E')) (cE HX OX MX E') ->
      ∃ t,PSs (jD (CX1 P w) P w K mg base N qual (ze st) f cdv A outer s H (cE HX OX MX E')) (zM st) t/\∃ b,ku HX OX MX t b/\∀ xs Q E0,E'=exA MX E0->a xs MX Q E0->b MX { nx:=fun _ M'=>rtA MX Q (.d .non) M',rt:=rtA MX Q } (zQ N xs) MX):DmX P w K mg base C m ps (k+1) (jG a):=by
  refine Gk at_ S hb (fun vs H Q E h=>?_) (fun f cdv A outer s H vs Q E hr h=>?_)
  · obtain ⟨xs,M,O,Q',E',w,r,q,_⟩:=h
    rw [r.1];exact len xs M Q' E' q
  · obtain ⟨xs,M,O,Q',E',w0,r,q,kk,ke⟩:=h
    obtain ⟨t,ht,b,hb,hq⟩:=hbody f cdv A outer s H H O M (exA M E') hr ⟨rfl,rfl,rfl,rfl⟩
    refine ⟨t,fun D=>?_,?_⟩
    · have ce : ∀ c d H', cE H O M (exA M E') c d H' -> E c d H' := fun c d H' ⟨C, fs, M', O', e1, ⟨M'', f, q2⟩, k1, w1, xd⟩ => by
        subst e1
        obtain ⟨O'',w2,k2,-,ko⟩:=Zy w0 w1 k1 (show zw H' O' M' .non (.d .non) from .non) f
        refine ke C fs M'' H' O'' d q2 k2 w2 ?_
        rcases xd with xd | ⟨dx,e1,h1,h2,h3⟩
        · exact .inl xd
        · exact .inr ⟨dx,e1,h1,(ko dx h2 h3).1,(ko dx h2 h3).2⟩
      refine PSs.wish' (fun e s' z=>?_) ht
      exact wpAny_mono z (fun _ s'' y=>y.imp ce) fun e' s'' y=>y.imp ce
    · refine hb.go .refl w0 w0 (xo r N) .refl (hq xs Q' E' rfl q) ⟨fun σ H' O' ρ M' w' e' x' q'=>?_,fun v y H' O' M' w' x' r' q'=>?_,fun _ _ _ _ _ _ _ _ z=>z.elim,fun _ _ _ _ _ _ _ _ z=>z.elim⟩
      · obtain ⟨y',M'',f,q2⟩:=q'
        obtain ⟨O'',w2,k2,r2⟩:=xi w0 w' x' (show zw H' O' M' .non (.d .non) from .non) f
        exact kk _ _ _ _ _ q2 k2 w2 r2
      · obtain ⟨y',M'',f,q2⟩:=q'
        obtain ⟨O'',w2,k2,r2⟩:=xi w0 w' x' r' f
        exact kk _ _ _ _ _ q2 k2 w2 r2
noncomputable def FI (C:Addr)(sp:ASp)(b:AA):AE:=fun ρ M Q=>b ρ M fun xs M1=>∀ p,M1 p=none->sp (.ref p :: xs) (mup M1 p (.ins C [])) fun v M2=>v=.d .non/\Q (.ref p) M2
theorem Wv {C:Addr}{sp:ASp}{u:TA}{b:AA}(h:jv u b):zN (KA C (cSp sp) [] E0 u) (FI C sp b):=⟨fun w e q k=>h.go w e q fun ys M1 vs H1 O1 q1 k1 w1 r1=>by
 intro x dx hx hd hne
 have k2:=qK w1 hd (.own x)
 have w2:=kQ w1 hd (.own x) (fun _ z=>nomatch z)
 have hx2:upd H1 dx (.own x) x=none:=by rw [zi (Ne.symm hne)];exact hx
 have k3:=Z0 w2 hx2 (.ins C dx []) (.ins C [])
 have w3:Wf (upd (upd H1 dx (.own x)) x (.ins C dx [])) (yc (yc O1 dx) x) (mup M1 x (.ins C [])):=AC w2 hx2 (fun _ z=>nomatch z) (show jf _ _ _ x (.ins C []) from ⟨dx,[],zk,⟨rfl,rfl,fun i a b e1 _=>nomatch e1⟩,.inr (.inl rfl),by rw [zu hne];exact (w1.fresh hd).2,by rw [zi hne,zk]⟩)
 have mx:mup M1 x (.ins C []) x ≠ none:=by rw [zh];exact fun z=>nomatch z
 refine ⟨.ref x :: ys,mup M1 x (.ins C []),_,_,w3,?_,q1 x (w1.fresh hx).2,fun z M4 v4 H4 O4 q4 k4 w4 r4=>?_⟩
 ·rw [List.append_nil];exact Zx ⟨rfl,mx⟩ (r1.ext (k2.trans k3))
 ·obtain ⟨rfl,q5⟩:=q4
  exact ⟨vt r4,k _ _ _ _ _ q5 (((k1.trans k2).trans k3).trans k4) w4 ⟨rfl,k4.mst x mx⟩⟩⟩
noncomputable def Fo (kvs:List (Key × V))(a:AE):AE:=fun ρ M Q=>a ρ M fun x M1=>∃ s d,x=.d (.str s)/\Bo ((vE kvs (Sum.inr s)).getD .non)=some d/\Q (.d d) M1
theorem A4 {kvs:List (Key × V)}{t:TE}{a:AE}(h:zN t a):zN (Wd kvs t) (Fo kvs a):=⟨fun w e q k=>h.go w e q fun x M1 v H1 O1 q1 k1 w1 r1=>by
 obtain ⟨s,d,rfl,hd,q2⟩:=q1
 exact ⟨Sum.inr s,KO r1,k _ _ _ _ _ q2 k1 w1 (show Rep _ _ _ _ from Y1 hd)⟩⟩
end L2
namespace PySem
open Sem (wp)
theorem wn:entryFor table "proto.unchain"=some Builtin.«proto.unchain»:=entryFor_of_fast (by kernel_rfl)
section
variable {prog:Program}{w:World}{A:Around}{E:Value->Shared->Prop}{s:Shared}
theorem YM {α:Type}{e x:Addr}{oe ox:Obj}{vs vx:Array Value}{Q:α->Shared->Prop}(hh:A.handled=some (.ref x))(hne:x ≠ e)(hx:s.heap.get? x=some ox)(hxd:ox.data=.fields vx)(hx2:vx[2]?=some .none)(he:s.heap.get? e=some oe)(hed:oe.data=.fields vs)(h2:2<vs.size)
  (h:E (.ref e) { s with heap:=s.heap.update e (Obj.mapFields (·.setIfInBounds 2 (.ref x))) }):wpAny (model prog w) A (raiseNew (.ref e):Sem α) Q E s:=by
 unfold raiseNew
 refine wpAny_bind (wpAny_handled ?_)
 rw [hh]
 dsimp only
 rw [if_pos (by simpa using hne)]
 refine wpAny_bind (wpAny_holding (wpAny_runValue (codeAny_builtin wn ?_)))
 unfold Builtin.«proto.unchain»
 dsimp only
 refine wpAny_bind (wpAny_field hx hxd hx2 ?_)
 rw [if_pos (show (Value.none == Value.none)=true from by decide)]
 refine wpAny_pure ?_
 dsimp only
 refine wpAny_bind ?_
 obtain ⟨c,d,dt,sl⟩:=oe
 simp only at hed
 subst hed
 unfold updateField
 refine wpAny_bind (wpAny_load he ?_)
 dsimp only
 rw [if_pos h2]
 exact wpAny_update he (wpAny_throw h)
end
section
variable {prog:Program}{w:World}{A:Around}{E:Value->Shared->Prop}{env:Env}
variable {nm q:Str}{C N:Addr}{bs bm bmB:List Value}{hdct:Bool}{sn:List Str}{sub:List Value}{ab:Bool}{col:Option Bool}{dd:Option Addr}{k0 k1 k2 k3 k5:Option Value}{B Bn newId nid initId inN:String}{bmN:List Value}
theorem JC {s:Shared}{xx:Sem Value}{x:Addr}{Q:Flow->Shared->Prop}(hbase:bm.contains (.type "BaseException")=true)(hh:A.handled=some (.ref x))
  (h:wpAny (model prog w) A xx (fun v s₁=>∃ e t dx ox vx,v=.ref e/\x ≠ e/\s₁.heap.get? C=some (excClassObj nm q C N bs bm hdct sn sub ab col dd k0 k1 k2 k3 k5 newId) /\
   s₁.heap.get? e=some { cls:=.ref C,data:=.fields #[.ref t,.none,.none,.none,.bool false,.none],dict:=dx }/\s₁.heap.get? x=some ox/\ox.data=.fields vx/\vx[2]?=some .none /\
   E (.ref e) { s₁ with heap:=s₁.heap.update e (Obj.mapFields (·.setIfInBounds 2 (.ref x))) }) E s) :
  wpAny (model prog w) A (raiseStmt env (some xx) none) Q E s:=by
 have hcB:(Value.ref C :: bm).contains (.type "BaseException")=true:=by rw [List.contains_cons,hbase,Bool.or_true]
 unfold raiseStmt
 refine wpAny_bind (wpAny_mono h (fun v s₁ h₁=>?_) fun _ _ x=>x)
 obtain ⟨e,t,dx,ox,vx,rfl,hne,hC,he,hx,hxd,hx2,hE⟩:=h₁
 obtain ⟨hp,g,d,tk,os⟩:=s₁
 repeat (first | with_reducible refine wpAny_loadPart_at he ?_ | with_reducible refine wpAny_loadPart_at hC ?_ | (with_reducible refine wpAny_isSubtype_exc hC ?_;rw [hcB]) | wp_step)
 exact YM hh hne hx hxd hx2 he rfl (by simp) hE
theorem Hy (Fn:ExcBaseFacts Bn newId inN bmN)(hBn:bmB.contains (.type Bn)=true)(F:ExcBaseFacts B nid initId bmB){s:Shared}{mN:Str->Option Value}{cx:Str}{x:Addr}{np cpos pos:Pos}{args:List Expr}{Q:Flow->Shared->Prop}{fI:Addr}{oI:Obj}
  (hbase:bm.contains (.type "BaseException")=true) (hh:A.handled=some (.ref x)) (hplain:(backTo cpos (starEach args env)).any (·.1)=false) (hi:mN "__init__"=some (.ref fI)) (hfc:oI.cls=.type "function")
  (h:wpAny (model prog w) A (eval (.Name cx np) env) (fun f s₁=>f=.ref C/\wpAny (model prog w) A (evalArgs (.ref C) true (backTo cpos (starEach args env)) [])
   (fun a s₂=>a.kw=[]/\a.pos.length<=sizeLine/\s₂.heap.get? C=some (excClassObj nm q C N bs bm hdct sn sub ab col dd k0 k1 k2 k3 k5 newId)/\s₂.heap.Ns N mN/\OwnTail s₂.heap bmB bm/\s₂.heap.get? fI=some oI /\
    ∀ h' e,Heap.MadeExcOf s₂.heap h' e (.ref C) a.pos->wpAny (model prog w) (A.under (.builtin "type.__call__" ⟨.ref C :: a.pos,[]⟩)) (call (.ref fI) (.ref e :: a.pos)) (fun r s'=>r=.none/\x ≠ e /\
     s'.heap.get? C=some (excClassObj nm q C N bs bm hdct sn sub ab col dd k0 k1 k2 k3 k5 newId)/\(∃ t dx,s'.heap.get? e=some { cls:=.ref C,data:=.fields #[.ref t,.none,.none,.none,.bool false,.none],dict:=dx }) /\
     (∃ ox vx,s'.heap.get? x=some ox/\ox.data=.fields vx/\vx[2]?=some .none)/\E (.ref e) { s' with heap:=s'.heap.update e (Obj.mapFields (·.setIfInBounds 2 (.ref x))) }) E { s₂ with heap:=h' }) E s₁) E s) :
  wpAny (model prog w) A (exec (.Raise (some (.Call (.Name cx np) args [] cpos)) none pos) env) Q E s:=by
 rw [arm_exec_Raise]
 refine wpAny_bind (wpAny_standAt (JC (C:=C) (nm:=nm) (q:=q) (N:=N) (bs:=bs) (bm:=bm) (hdct:=hdct) (sn:=sn) (sub:=sub) (ab:=ab) (col:=col) (dd:=dd) (k0:=k0) (k1:=k1) (k2:=k2) (k3:=k3) (k5:=k5) (newId:=newId) hbase hh (wpAny_bind (wpAny_mono (wpAny_Call_ofName (wpAny_mono h (fun f s₁ h₁=>?_) fun _ _ x=>x)) (fun v s₃ h₃=>wpAny_bind (wpAny_standAt (wpAny_pure h₃))) fun _ _ x=>x))))
 obtain ⟨rfl,h₁⟩:=h₁
 unfold callWith
 refine wpAny_bind (wpAny_holding (wpAny_mono h₁ (fun a s₂ h₂=>wpAny_bind (wpAny_standAt ?_)) fun _ _ x=>x))
 obtain ⟨apos,akw⟩:=a
 obtain ⟨hkw,hlen,hC,hn,T,hf,h₂⟩:=h₂
 obtain rfl:akw=[]:=hkw
 obtain ⟨hp,g,d,tk,os⟩:=s₂
 simp only [hplain]
 refine wpAny_bind (wpAny_keeperOf_exc hC ?_)
 refine wpAny_bind (KR (hrest:=hlen) Fn hBn F T hC hn hi hf hfc fun h' e hm=>wpAny_mono (h₂ h' e hm) (fun r s' hr=>⟨hr.1,wpAny_bind (wpAny_holding (wpAny_point (wpAny_pure ?_)))⟩) fun _ _ x=>x)
 obtain ⟨_,hne,hC',⟨t,dx,he⟩,⟨ox,vx,hx,hxd,hx2⟩,hE⟩:=hr
 exact ⟨e,t,dx,ox,vx,rfl,hne,hC',he,hx,hxd,hx2,hE⟩
end
end PySem
namespace L2
open PySem PySem.Spec PyProof.Rows
theorem yv {h h' base:Heap}(k:∀ b o,h.get? b=some o->(∀ vs,o.data ≠ .fields vs)->∃ o',h'.get? b=some o'/\∀ vs,o'.data ≠ .fields vs):∀ {l:List Env},h.FunFrames base l->h'.FunFrames base l
 | [],_=>trivial
 | _ :: _,⟨hk,⟨L,o,hf,hn,ho,hd⟩,hr⟩=>let ⟨o',e,d⟩:=k L o ho hd;⟨hk,⟨L,o',hf,hn,e,d⟩,yv k hr⟩
section
variable {M:Model}{A:Around}{E:Value->Shared->Prop}{s:Shared}
theorem Xj {base:Heap}{l:List Env}{e L:Addr}{cls a0 fl:Value}{Q:Unit->Shared->Prop}(hkb:base.StaysIn s.heap)(hl:s.heap.FunFrames base l)(ht:s.heap.TracedAtW base e cls a0 fl)
  (h:∀ h',base.StaysIn h'->h'.FunFrames base l->h'.TracedAtW base e cls a0 (rawInt L)->(∀ b o,s.heap.get? b=some o->(∀ vs,o.data ≠ .fields vs)->h'.get? b=some o)->h'.get? e=s.heap.get? e->Q () { s with heap:=h' }) :
  wpAny M A (setFlight (.ref e) (some L)) Q E s:=by
 obtain ⟨oe,vs,T,oT,ts,he,hcls,hd,h1,hnT,hTe,hT,hdT,h3⟩:=ht
 have hsz:3<ts.size:=(Array.getElem?_eq_some_iff.mp h3).1
 have other:∀ b,b ≠ T->(s.heap.update T (Obj.mapFields (·.setIfInBounds 3 ((some L:Option Addr).elim Value.none fun f=>rawInt f)))).get? b=s.heap.get? b:=fun b hb=>Heap.get?_update_other _ _ (Ne.symm hb)
 have noR:∀ b o,s.heap.get? b=some o->(∀ vs,o.data ≠ .fields vs)->b ≠ T:=fun b o hb hnf q=>by
  rw [q,hT] at hb;injection hb with hb;subst hb;exact hnf ts hdT
 unfold setFlight
 refine wpAny_bind (wpAny_field he hd h1 ?_)
 rw [if_pos (show (Value.ref T != Value.none)=true from by simp)]
 refine wpAny_setField hT hdT hsz (h _ (fun b o hbo=>(other b fun q=>by rw [q,hnT] at hbo;cases hbo).trans (hkb b o hbo)) (hl.of_keeps fun b o hb hnf=>⟨o,(other b (noR b o hb hnf)).trans hb,rfl⟩) ?_ (fun b o hb hnf=>(other b (noR b o hb hnf)).trans hb) (other e (Ne.symm hTe)))
 exact ⟨oe,vs,T,_,_,(other e (Ne.symm hTe)).trans he,hcls,hd,h1,hnT,hTe,Heap.get?_update_self _ hT (Obj.isFreed_of_fields (Obj.data_mapFields hdT _)),Obj.data_mapFields hdT _,by simp [hsz]⟩
theorem yu {base:Heap}{e:Addr}{cls a0 fl:Value}{Q:Value->Shared->Prop}(ht:s.heap.TracedAtW base e cls a0 fl)(h:∀ T,Q (.ref T) s):wpAny M A (field (.ref e) 1) Q E s:=by
 obtain ⟨oe,vs,T,oT,ts,he,hcls,hd,h1,_⟩:=ht
 exact wpAny_field he hd h1 (h T)
end
section
variable {X:Cx}{E:XK}{pins:List (Addr × Obj)}{σ:St}{H:Hp}{s:Shared}
theorem VU (I:Inv X pins σ H s)(hex:X.ex=[]){x:Addr}{s':Shared}(hx0:X.s₀.heap.get? x=none)(hx:H x=none)(ho:s'.os=s.os)(hg:s'.gens=s.gens)(st:(jt X s x).StaysIn s'.heap)
  (us:∀ b o,b ≠ X.env.locals->s.heap.get? b=some o->(∀ vs,o.data ≠ .fields vs)->∃ sl,s'.heap.get? b=some { o with slots:=sl }) (hs:X.stack=X.env :: X.outer):xT X.prog X.w X.outer X.H₀ X.s₀ (jt X s x) H s':=by
 have nx:∀ b,b ∉ X.ex:=fun b=>by rw [hex];simp
 have hid:∀ b o o',X.s₀.heap.get? b=some o->b ∉ frs X.outer->s.heap.get? b=some o'->(jt X s x).get? b=some o':=fun b o o' e hb e1=>PySem.W.hideAll_get _ e1 fun z=>by
  rcases List.mem_cons.mp z with rfl | z
  ·rw [hx0] at e;cases e
  ·exact I.notStk e hb z
 refine ⟨ho.trans I.os,by rw [hg];exact I.bare,st,fun b o e hb=>?_,fun b o e hb=>?_,I.ok.frf,fun b o e n=>I.base.free b o e n (nx b),I.base.tups,I.base.frzs,I.base.tbls,Ky I hx⟩
 ·obtain ⟨o1,e1⟩:=I.base.there b o e (nx b)
  refine ⟨o1,hid b o o1 e hb e1,fun n=>?_⟩
  have:=I.base.keep b o e n hb (nx b)
  rw [e1] at this;cases this;rfl
 ·obtain ⟨sl,e1⟩:=I.base.slot b o e (I.ok.frf b hb) hb (nx b)
  obtain ⟨_,o2,e2,nf⟩:=I.stack.mem (yI hs hb)
  rw [e1] at e2;cases e2
  obtain ⟨sl2,e3⟩:=us b _ (I.ltS e) e1 nf
  exact ⟨sl2,e3⟩
theorem Jk (D:DX X E)(I:Inv X pins σ H s){x x1 C:Addr}{d:Option Addr}{oe:Obj}{vs:Array Value}{a0:Value}{h1:Heap}{n:Str}{hpos:Pos}(hl:X.env.kindOf n=some .local)
  (k:∀ b o,b ≠ x1->s.heap.get? b=some o->h1.get? b=some o) (kx:∀ o,s.heap.get? x1=some o->∃ vs,o.data=.fields vs) (he:h1.get? x1=some oe) (hc:oe.cls=.ref C) (hd:oe.dict=d) (hf:oe.data=.fields vs) (hv1:vs[1]?=some .none) (hv0:vs[0]?=some a0)
  (hx0:X.s₀.heap.get? x1=none) (hx:H x1=none) (two:Two d H) (q:E (.ref C) d H) :
  AsSuiteRaised (model X.prog X.w) (X.A.mark (some (.ref x))) X.env n hpos (notedBy (model X.prog X.w) (X.A.mark (some (.ref x))) X.env (cameBackBy (model X.prog X.w) X.A X.env X.xe)) (.ref x1) { s with heap:=h1 }:=by
 have hs:=D.stk
 have hp:(X.env.scope.kind == .class || (X.env.scope.kind == .module && X.env.locals != X.env.globals))=false:=by rw [I.ok.kind];rfl
 have st1:(jt X s x1).StaysIn h1:=fun b o e=>k b o (fun z=>by rw [z,jt,PySem.W.hideAll_none _ (List.mem_cons_self)] at e;cases e) (PySem.W.of_hideAll _ e)
 have us1:s.heap.UpToSlots h1:=fun b o e nf=>by
  by_cases c:b=x1
  ·rw [c] at e
   obtain ⟨vs,z⟩:=kx o e
   exact absurd z (nf vs)
  ·exact ⟨o.slots,k b o c e⟩
 have fr0:s.heap.FunFrames (jt X s x1) (X.env :: X.outer):=by
  have:=I.stack
  rw [hs] at this
  exact PySem.W.funFrames_hide this fun env he b hb=>List.mem_cons_of_mem _ (by rw [hs];exact List.mem_filterMap.mpr ⟨env,he,hb⟩)
 have fr1:h1.FunFrames (jt X s x1) (X.env :: X.outer):=fr0.of_keeps fun b o e nf=>by
  obtain ⟨sl,z⟩:=us1 b o e nf
  exact ⟨_,z,rfl⟩
 have xn:(jt X s x1).get? x1=none:=PySem.W.hideAll_none _ List.mem_cons_self
 have ln:(jt X s x1).get? X.env.locals=none:=PySem.W.hideAll_none _ (List.mem_cons_of_mem _ (by rw [hs];exact List.mem_filterMap.mpr ⟨X.env,List.mem_cons_self,D.fr⟩))
 have hfr:(X.A.mark (some (.ref x))).frames=some (X.env :: X.outer):=by rw [<- hs];exact I.ok.frames
 have hfr':X.A.frames=some (X.env :: X.outer):=hfr
 have note1:wpAny (model X.prog X.w) (X.A.mark (some (.ref x))) (noteFrame (.ref x1) X.env) (fun _ s2=>∃ h',s2={ s with heap:=h' }/\Heap.NotedW (jt X s x1) (X.env :: X.outer) x1 oe.cls a0 (rawInt X.env.locals) h1 h') (fun _ _=>False) { s with heap:=h1 }:=by
  unfold noteFrame
  simp only [D.fr]
  refine wpAny_bind (wpAny_field he hf hv1 ?_)
  rw [if_neg (by decide)]
  exact wpAny_entryW hfr fr1 D.fr he st1 xn hf (Array.getElem?_eq_some_iff.mp hv1).1 hv0 fun h' hN=>⟨h',rfl,hN⟩
 refine wpAny_mono ((ZE (.ref x1) X.env).any note1) (fun _ s2 h2=>?_) fun _ _ z=>z.elim
 obtain ⟨⟨h2,rfl,l1,l2,l3,l4⟩,sd⟩:=h2
 obtain ⟨o2,ho2,hd2,_⟩:=sd x1 oe he
 obtain ⟨m,⟨ol,es,ep,hol,hdl,rl⟩,_⟩:=id I.loc
 have lx:X.env.locals ≠ x1:=fun z=>by
  obtain ⟨vs,q⟩:=kx ol (z ▸ hol)
  rw [hdl] at q;cases q
 obtain ⟨sl,hol2⟩:=l4 _ ol (k _ ol lx hol) (fun vs q=>by rw [hdl] at q;cases q)
 refine wpAny_nameGoes_keeps hl ⟨_,es,ep,hol2,hdl,rl⟩ hp fun h3 v hn3 sb3=>?_
 have k3:∀ b,b ≠ X.env.locals->h3.get? b=h2.get? b:=fun b hb=>sb3.2 b hb
 have st3:(jt X s x1).StaysIn h3:=fun b o e=>(k3 b (fun z=>by rw [z,ln] at e;cases e)).trans (l1 b o e)
 have fr3:h3.FunFrames (jt X s x1) (X.env :: X.outer):=yv (fun b o e nf=>by
  by_cases c:b=X.env.locals
  ·obtain ⟨o',_,_,ho',hd',_⟩:=hn3
   exact ⟨o',c ▸ ho',fun vs q=>by rw [hd'] at q;cases q⟩
  ·exact ⟨o,(k3 b c).trans e,nf⟩) l2
 have tr3:h3.TracedAtW (jt X s x1) x1 oe.cls a0 (rawInt X.env.locals):=by
  obtain ⟨oe',vs',T,oT,ts,g1,g2,g3,g4,g5,g6,g7,g8,g9⟩:=l3
  have lT:T ≠ X.env.locals:=fun z=>by
   rw [z,hol2] at g7;cases g7
   have g8:ol.data=.fields ts:=g8
   rw [hdl] at g8;cases g8
  exact ⟨oe',vs',T,oT,ts,(k3 _ (Ne.symm lx)).trans g1,g2,g3,g4,g5,g6,(k3 _ lT).trans g7,g8,g9⟩
 have us3:∀ b o,b ≠ X.env.locals->s.heap.get? b=some o->(∀ vs,o.data ≠ .fields vs)->∃ sl,h3.get? b=some { o with slots:=sl }:=fun b o hb e nf=>by
  obtain ⟨sl,e1⟩:=us1 b o e nf
  obtain ⟨sl2,e2⟩:=l4 b _ e1 nf
  exact ⟨sl2,(k3 b hb).trans e2⟩
 have ho3:h3.get? x1=some o2:=(k3 _ (Ne.symm lx)).trans ho2
 have hd3:o2.dict=d:=hd2.trans hd
 clear note1 sd l1 l2 l3 l4 hn3
 unfold PySem.passOn
 refine wpAny_bind (yu (s:=⟨h3,_,_,_,_⟩) tr3 fun T=>?_)
 rw [if_neg (show ¬ (Value.ref T == Value.none)=true from by simp)]
 rw [D.fr]
 refine wpAny_bind ?_
 refine Xj (s:=⟨h3,_,_,_,_⟩) st3 fr3 tr3 fun h4 st4 fr4 tr4 us4 e4=>wpAny_throw ?_
 have us4':∀ b o,b ≠ X.env.locals->s.heap.get? b=some o->(∀ vs,o.data ≠ .fields vs)->∃ sl,h4.get? b=some { o with slots:=sl }:=fun b o hb e nf=>by
  obtain ⟨sl,e1⟩:=us3 b o hb e nf
  exact ⟨sl,us4 b _ e1 nf⟩
 have ho4:h4.get? x1=some o2:=e4.trans ho3
 unfold notedBy
 refine wpAny_noteFrame_againW D.fr tr4 ?_
 unfold cameBackBy
 refine wpAny_bind (yu (s:=⟨h4,_,_,_,_⟩) tr4 fun T=>?_)
 rw [if_neg (show ¬ (Value.ref T == Value.none)=true from by simp)]
 rw [D.fr]
 refine Xj (s:=⟨h4,_,_,_,_⟩) st4 fr4 tr4 fun h5 st5 fr5 tr5 us5 e5=>?_
 have us5':∀ b o,b ≠ X.env.locals->s.heap.get? b=some o->(∀ vs,o.data ≠ .fields vs)->∃ sl,h5.get? b=some { o with slots:=sl }:=fun b o hb e nf=>by
  obtain ⟨sl,e1⟩:=us4' b o hb e nf
  exact ⟨sl,us5 b _ e1 nf⟩
 have ho5:h5.get? x1=some o2:=e5.trans ho4
 rw [D.xe]
 unfold leaving
 refine wpAny_bind (wpAny_noteFrame_againW D.fr tr5 ?_)
 refine wpAny_mono ((xG (.ref x1) none).any (wpAny_landsW (s:=⟨h5,_,_,_,_⟩) (E:=fun _ _=>False) (Q:=fun _ s6=>∃ h6,s6=⟨h6,_,_,_,_⟩/\Heap.FlyingW (jt X s x1) (X.env :: X.outer) x1 oe.cls a0 h6/\h5.UpToSlots h6) ⟨st5,xn,fr5,tr5⟩ fun h6 f6 u6=>⟨h6,rfl,f6,u6⟩)) (fun _ s6 h6=>?_) fun _ _ z=>z.elim
 obtain ⟨⟨h6,rfl,f6,u6⟩,sd6⟩:=h6
 obtain ⟨o6,ho6,hd6,_⟩:=sd6 x1 o2 ho5
 rw [hc] at f6
 refine ⟨x1,C,d,H,rfl,⟨⟨jt X s x1,a0,VU I D.ex (s':=⟨h6,_,_,_,_⟩) hx0 hx rfl rfl f6.1 (fun b o hb e nf=>?_) hs,f6.1,xn,f6.2.2.1.2.2,f6.2.2.2⟩,o6,ho6,hd6.trans hd3,.inr two⟩,q⟩
 obtain ⟨sl,e1⟩:=us5' b o hb e nf
 obtain ⟨sl2,e2⟩:=u6 b _ e1 nf
 exact ⟨sl2,e2⟩
end
open PySem.W (Looks InstAt findIn findObj subIn mroIn clsIn takerIn hasDictIn)
structure yZ (k:Nat)(A:Around):Prop where
 gd:A.guards=some []
 dp:A.depth+3 * k+5<recursionLimit
 un:A.units+16 * k+200<cLine
theorem ql.h {k:Nat}{A:Around}(r:ql k A)(h:Option Value):yZ k (A.mark h):=⟨r.gd,r.dp,r.un⟩
theorem yZ.mono {j k:Nat}{A:Around}(r:yZ k A)(h:j<=k):yZ j A:=⟨r.gd,by have:=r.dp;omega,by have:=r.un;omega⟩
theorem yZ.make {k:Nat}{A:Around}(r:yZ (k+1) A)(C:Addr)(us:List Value)(kw:List (Str × Value)):yZ k (A.under (.builtin "type.__call__" ⟨.ref C :: us,kw⟩)):=
 ⟨(yW).trans r.gd,by have:=r.dp;rw [we];omega,by have:=r.un;rw [v0];omega⟩
noncomputable def FnH (P:Program)(w:World)(K:PySem.W.Frag)(mg:Str->Option Value)(base:Heap)(k:Nat)(f:Addr)(fd:FuncData)(ps:List Str)(sp:Sp):Prop:=
 ∀ (A:Around) (x:Addr) (outer:List Env) (s:Shared) (H:Hp) (args:Args) (us:List Value) (vs:List V) (Q:VK) (E:XK),A.handled=some (.ref x)->yZ k A->ZZ P w K mg base A outer s H->BindsTo s fd args (ps.zip us)->zG vs us->sp vs H Q E ->
  codeAny (model P w) A (.call (.ref f) args) (CR CX0 outer P w H s Q E) s
theorem FnH.mono {P:Program}{w:World}{K:PySem.W.Frag}{mg:Str->Option Value}{base:Heap}{j k:Nat}{f:Addr}{fd:FuncData}{ps:List Str}{sp:Sp}(F:FnH P w K mg base j f fd ps sp)(h:j<=k):FnH P w K mg base k f fd ps sp:=
 fun A x outer s H args us vs Q E hh hr=>F A x outer s H args us vs Q E hh (hr.mono h)
theorem GN {P:Program}{w:World}{K:PySem.W.Frag}{mg:Str->Option Value}{base:Heap}{k:Nat}{f:Addr}{name qual:Str}{params:Arguments}{body:List Stmt}{scope:Scope}{dV kV doc pm cdv ct oc:Value}{an od:Option Addr}
  {osl:Array (Option Value)} {N ps:List Str} {sp:Sp} (lk:K.lookup f=some ⟨oc,od,.func (PySem.W.fnOf name qual params body scope dV kV doc pm an cdv ct),osl⟩) (hcd:PySem.W.codeIn K cdv qual=true) (S:zt N ps scope)
  (len:∀ vs H Q E,sp vs H Q E->vs.length=ps.length)
  (hbody:∀ (A:Around) (outer:List Env) (s:Shared) (H:Hp) (vs:List V) (Q:VK) (E:XK) (x:Addr),sp vs H Q E ->
   ∃ t,PSs ((jD CX0 P w K mg base N qual scope f cdv A outer s H E).inside x) body t/\t { nx:=fun _ H'=>Q .non H',rt:=Q } (qL N vs) H) :
  FnH P w K mg base k f (PySem.W.fnOf name qual params body scope dV kV doc pm an cdv ct) ps sp:=by
 intro A x outer s H args us vs Q E hh hr e0 hb r hsp
 have hl:=len _ _ _ _ hsp
 obtain ⟨h0,dp,fr,gd,un⟩:=A
 obtain rfl:h0=some (.ref x):=hh
 have KX:K.In s.heap:=e0.mod.kin.keeps fun b o e=>(e0.bs b o e).1
 have lim:s.heap.NoLimit:=e0.mod.nolimit.keeps fun b o e=>(e0.bs b o e).1
 have hkind:∀ y ∈ ps.zip us,scope.names.lookup y.1=some .local \/ (scope.names.lookup y.1=some .cell/\((cellsFrom (s.heap.objs.size+1) scope.names []).lookup y.1).isSome=true):=fun ⟨n,v⟩ hy=>by
  rcases S.par n (List.of_mem_zip hy).1 with q | q
  ·exact .inl q
  ·exact .inr ⟨q,PySem.W.cellsFrom_some _ _ _ (.inl q)⟩
 have hdp:dp<recursionLimit:=by have:dp+3 * k+5<recursionLimit:=hr.dp;omega
 refine codeAny_call_function hdp (KX _ _ lk) rfl S.co S.gen rfl (PySem.W.codeRec_of KX hcd) (hb _ _ _ _ ?_)
 refine wpAny_newFunctionEnv_cells S.kind hkind fun env he s1 xx=>?_
 subst he
 refine ⟨lim.keeps xx.toInCall.keep,codeAny_func ?_⟩
 obtain ⟨t,ht,hq⟩:=hbody ⟨none,dp,fr,gd,un⟩ outer s H vs Q E x hsp
 have e0':ZZ P w K mg base ⟨none,dp,fr,gd,un⟩ outer s H:=⟨e0.frames,e0.mod,e0.bs,e0.bsz,e0.funs,e0.frf,e0.hok,e0.bare⟩
 have I:Inv ((jD CX0 P w K mg base N qual scope f cdv ⟨none,dp,fr,gd,un⟩ outer s H E).inside x) [] (qL N vs) H s1:=(wM S rfl e0' hl r xx).inside x
 refine wpAny_mono (ht [] s1 (qL N vs) H _ I hq) (fun fl s' hs=>?_) fun e s' hs=>hs.elim
 have fin:∀ {σ':St} {H':Hp} {v:V} {u:Value},Inv ((jD CX0 P w K mg base N qual scope f cdv ⟨none,dp,fr,gd,un⟩ outer s H E).inside x) [] σ' H' s'->zH v u->Q v H'->CE outer P w H s Q u s':=
  fun {σ' H' v u} J rv q=>⟨v,H',J.os,J.bare,J.base,J.hok,rv,q⟩
 cases fl with
 | ret u=>
  obtain ⟨v,σ',H',J,rv,q⟩:=hs
  exact fin J rv q
 | next=>
  obtain ⟨σ',H',J,q⟩:=hs
  exact fin (v:=V.non) (u:=Value.none) J rfl q
 | brk=>
  obtain ⟨_,_,_,q⟩:=hs
  exact False.elim q
 | cont=>
  obtain ⟨_,_,_,q⟩:=hs
  exact False.elim q
noncomputable def Z2 (P:Program)(w:World)(K:PySem.W.Frag)(mg:Str->Option Value)(base:Heap)(C:Addr)(k n:Nat)(fn:List V->List (Str × V)):Prop:=
 ∃ f fd ps,j7 K C vG "ValueError.__new__" f=true/\FnH P w K mg base k f fd ps (spI C n fn)/\jB K fd ps []/\(∃ oI,K.lookup f=some oI/\oI.cls=.type "function")/\ps.length=n+1
theorem Z2.mono {P:Program}{w:World}{K:PySem.W.Frag}{mg:Str->Option Value}{base:Heap}{C:Addr}{j k n:Nat}{fn:List V->List (Str × V)}(m:Z2 P w K mg base C j n fn)(h:j<=k):Z2 P w K mg base C k n fn:=
 let ⟨f,fd,ps,q,F,r⟩:=m
 ⟨f,fd,ps,q,F.mono h,r⟩
theorem Ey {P:Program}{w:World}{K:PySem.W.Frag}{mg:Str->Option Value}{base:Heap}{C f:Addr}{fd:FuncData}{qual:Str}{st:Stmt}{N ps:List Str}{k n:Nat}{fn:List V->List (Str × V)}(F:Fun K "__init__" qual st f fd)(S:zt N ps (ze st))
  (hb:∀ (kV doc pm:Value) (an:Option Addr) (cdv ct:Value) (us:List Value),us.length=ps.length->bindArgs (PySem.W.fnOf "__init__" qual (qm st) (zM st) (ze st) .none kV doc pm an cdv ct) ⟨us,[]⟩=pure (ps.zip us))
  (q:j7 K C vG "ValueError.__new__" f=true) (hf:PySem.W.isFn K (.ref f)=true) (hl:ps.length=n+1)
  (hbody:∀ (cdv:Value) (A:Around) (outer:List Env) (s:Shared) (H:Hp) (E:XK) (x:Addr),∃ t,PSs ((jD CX0 P w K mg base N qual (ze st) f cdv A outer s H E).inside x) (zM st) t /\
   ∀ (a t0:Addr) (us:List V) (Q:VK),us.length=n->H a=some (ky a C t0 none)->(∀ dx,H dx=none->dx ≠ a->Q .non (upd (upd H a (ky a C t0 (some dx))) dx (XdE dx (fn us))))->t { nx:=fun _ H'=>Q .non H',rt:=Q } (qL N (.ref a :: us)) H):Z2 P w K mg base C k n fn:=by
 have bd:=F.binds hb
 obtain ⟨oc,od,kV,doc,pm,an,cdv,ct,osl,rfl,lk,hcd⟩:=F.ex
 have hfc:∃ oI,K.lookup f=some oI/\oI.cls=.type "function":=by
  refine ⟨_,lk,?_⟩
  have hf':=beq_iff_eq.mp hf
  have hf':Option.map (fun x:Obj=>x.cls) (K.lookup f)=some (.type "function"):=hf'
  rw [lk] at hf'
  exact Option.some.inj hf'
 refine ⟨f,_,ps,q,GN lk hcd S (fun vs H Q E ⟨a,t,us,e,l,_⟩=>by rw [e,List.length_cons,l,hl]) fun A outer s H vs Q E x ⟨a,t0,us,e,l,ha,hq⟩=>?_,bd,hfc,hl⟩
 obtain ⟨t,h1,h2⟩:=hbody cdv A outer s H E x
 subst e
 exact ⟨t,h1,h2 a t0 us Q l ha hq⟩
open PySem.W (Looks InstAt findIn findObj subIn mroIn clsIn takerIn hasDictIn)
noncomputable def Zp (a C:Addr)(d:Option Addr):HO:=.ext fun h=>∃ o,h.get? a=some o/\o.cls=.ref C/\o.dict=d/\∃ vs,o.data=.fields vs/\vs[2]?=some .none
theorem BQ {P:Program}{w:World}{H:Hp}{h:Heap}{a C:Addr}{d:Option Addr}{o:Obj}{vs:Array Value}(e:h.get? a=some o)(hc:o.cls=.ref C)(hd:o.dict=d)(hf:o.data=.fields vs)(h2:vs[2]?=some .none):zW P w H h a (Zp a C d):=
 ⟨⟨o,e,hc,hd,vs,hf,h2⟩,⟨o,e⟩,fun _ _ ⟨o,e,r⟩ k=>⟨o,k o e,r⟩⟩
noncomputable def ehR (K:PySem.W.Frag)(i:Nat)(T C2:Addr)(n:Nat)(fn:List V->List (Str × V))(E:XK)(ta:TA):St->XK:=fun σ1 c d H1=>∃ C,c=.ref C/\PySem.W.exmOne K (.ref C) (.ref T)=some true/\¬ Two d H1 /\
 ∀ x,H1 x=none->ta (σ1.set i (some (.ref x))) (upd H1 x (Zp x C d)) fun vs H2=>vs.length=n/\n<=1000/\H2 x=some (Zp x C d)/\∀ dx,H2 dx=none->E (.ref C2) (some dx) (upd H2 dx (.xd (fn vs)))
noncomputable def VZ (K:PySem.W.Frag)(i:Nat)(T C2:Addr)(n:Nat)(fn:List V->List (Str × V))(E:XK)(tb:(St->XK)->TS)(ta:TA):TS:=fun D σ H=>tb (ehR K i T C2 n fn E ta) D σ H
section
variable {X:Cx}{E:XK}{body:List Stmt}{n tx cx:Str}{i k nn:Nat}{T C2:Addr}{np cp cpos rpos hpos pos:Pos}{tb:(St->XK)->TS}{ta:TA}{e1:Expr}{es:List Expr}{fn:List V->List (Str × V)}
theorem D3 (D:DX X E)(nd:X.N.Nodup)(hi:X.N[i]?=some n)(hl:X.env.kindOf n=some .local)(hg:Gl X tx)(hm:X.mg tx=some (.ref T))(m:Z2 X.prog X.w X.K X.mg X.base C2 k nn fn)(hr:ql (k+1) X.A)(hgc:Gl X cx)(hmc:X.mg cx=some (.ref C2))
  (hf2:∀ vs,2<=(fn vs).length) (hb:∀ (pins:List (Addr × Obj)) (xe:Value->Shared->Prop) (Eh:St->XK),y4 (CX1 X.prog X.w) (X.tried pins xe) Eh->PSs (X.tried pins xe) body (tb Eh)) (ha:∀ x,PA (X.inside x) (e1 :: es) ta)
  (hdb:(tx == ("__debug__":Str))=false:=by decide) (hdc:(cx == ("__debug__":Str))=false:=by decide) (he:starEach (e1 :: es) X.env=(false,eval e1 X.env) :: starEach es X.env:=by rfl) (hpl:(backTo cpos (starEach es X.env)).any (·.1)=false:=by rfl) :
  PS X (.Try body [.ExceptHandler (some (.Name tx np)) (some n) [.Raise (some (.Call (.Name cx cp) (e1 :: es) [] cpos)) none rpos] hpos] [] [] pos) (VZ X.K i T C2 nn fn E tb ta):=by
 intro pins s σ H De I h
 have hs:=D.stk
 have hf:=D.fr
 have hex:=D.ex
 refine wpAny_Try_except (wpAny_mono (hb pins (fun e s'=>∃ σ1 H1 s1,Inv X pins σ1 H1 s1/\CX1 X.prog X.w X.stack H1 s1 (ehR X.K i T C2 nn fn E ta σ1) e s') (ehR X.K i T C2 nn fn E ta) (fun pins' σ1 H1 s1 e s' I1 c=>⟨σ1,H1,s1,I1.untried,c⟩) [] s σ H De (I.tried _) h) (fun f s1 q=>?_) fun e s1 q=>?_)
 ·have q:=q.untried
  cases f with
  | next=>exact wpAny_execs_nil q
  | brk=>exact q
  | cont=>exact q
  | ret u=>exact q
 ·obtain ⟨σ1,H1,s1',I1,x,C,d,H',rfl,⟨⟨B,a0,a,fl⟩,hd⟩,C',eC,hx,ntw,q⟩:=q
  cases eC
  refine yU.noted I.ok hs hf ⟨a,fl,hd⟩ fun s3 h3=>?_
  obtain ⟨hx0,I3⟩:=Air.here I1 hs hf hex h3.1 h3.2.1 h3.2.2
  refine wpAny_handleBy_cons (codeAny_handlers_test (ki (I3.inside x) hg hm ?_ hdb)) (by intro z;cases z)
  obtain ⟨oe,vs,he1,hc,_⟩:=h3.2.1.first
  have LT:PySem.W.Looks (model X.prog X.w) s3.heap (typeOf (.ref x)) (.ref C):=hc ▸ (PySem.W.Looks.ld he1).andThen .now
  refine (PySem.W.exm_one I3.kIn LT hx).here ?_
  refine codeAny_handlers_suite_as (h3.lands fun s4 h4=>?_)
  obtain ⟨_,I4⟩:=Air.here I1 hs hf hex h4.1 h4.2.1 h4.2.2
  have I4:Inv X pins σ1 (upd H' x (Zp x C d)) s4:=by
   obtain ⟨o,ho,hdo,h2o⟩:=h4.2.2
   obtain ⟨o',vs',ho',hc',hd',_⟩:=h4.2.1.first
   rw [ho] at ho';cases ho'
   have h2o:fl2 o=some .none:=h2o.resolve_right ntw
   have h2v:vs'[2]?=some .none:=by unfold fl2 at h2o;rw [hd'] at h2o;exact h2o
   have:=I4.write (x:=x) (e:=x) (h':=s4.heap) (t':=s4.toks) (o:=Zp x C d) (by rw [zk];exact True.intro) (.inl rfl) (fun _ _ _ z=>z) ⟨o,ho⟩ (BQ ho hc' hdo hd' h2v)
   rw [xJ] at this
   exact this
  refine jA I4 nd hi (Or.inl hl) (show zH (.ref x) (.ref x) from rfl) (fun s5 I5=>?_) (.inr hl)
  obtain ⟨fI,fd,ps,qI,F,hbI,⟨oI,lk,hfc⟩,hps⟩:=m
  obtain ⟨bm,N,nm,qn,bs,hdct,sn,sub,ab,col,dd,k0,k1,k2,k3,k5,mN,hC,hN,hii,TT⟩:=QI I.ok.mod.kin qI
  refine wpAny_execs_cons ?_
  refine Hy (C:=C2) (nm:=nm) (q:=qn) (N:=N) (bs:=bs) (bm:=bm) (hdct:=hdct) (sn:=sn) (sub:=sub) (ab:=ab) (col:=col) (dd:=dd) (k0:=k0) (k1:=k1) (k2:=k2) (k3:=k3) (k5:=k5)
   PySem.F.excBase_ValueError (by decide) PySem.F.excBase_ValueError (mN:=mN) (TT.hasType PySem.F.excBase_ValueError.hasBase) rfl (by rw [he];show (false || (backTo cpos (starEach es X.env)).any (·.1))=false;rw [hpl];rfl) hii hfc (ki (I5.inside x) hgc hmc ⟨rfl,?_⟩ hdc)
  have this:=ha x cpos pins s5 _ _ _ (I5.inside x) (q x hx0)
  have this:wpAny (model X.prog X.w) (X.A.mark (some (.ref x))) (spliced (backTo cpos (starEach (e1 :: es) X.env))) _ (fun _ _=>False) s5:=this
  rw [he] at this ⊢
  refine Calls.evalArgs_plain (wpAny_mono this (fun us s2 h2=>?_) fun _ _ y=>y.elim)
  obtain ⟨vs2,H2,I6,r,hlv,hnn,hxq,q1⟩:=h2
  have hlu:us.length=nn:=by rw [<- r.length];exact hlv
  refine ⟨rfl,by rw [hlu,sizeLine_eq];omega,I6.bk _ _ hC,hN.keeps I6.bk,TT.keeps I6.bk,I6.kIn _ _ lk,fun h' x1 hx1=>?_⟩
  obtain ⟨t1,ho,_,_⟩:=hx1.there
  have nx:s2.heap.get? x1=none:=hx1.new
  have hx10:X.s₀.heap.get? x1=none:=by
   cases z:X.s₀.heap.get? x1 with
   | none=>rfl
   | some o=>
    obtain ⟨o',e'⟩:=I6.base.there x1 o z (by show x1 ∉ X.ex;rw [D.ex];simp)
    rw [nx] at e';cases e'
  have hx11:H2 x1=none:=by
   cases z:H2 x1 with
   | none=>rfl
   | some o=>
    obtain ⟨u,e'⟩:=(I6.hok x1 o z).here
    rw [nx] at e';cases e'
  have J2:Inv (X.inside x) pins _ H2 { s2 with heap:=h' }:=I6.kept (t':=s2.toks) hx1.keeps
  have J3:Inv (X.inside x) pins _ (upd H2 x1 (ky x1 C2 t1 none)) { s2 with heap:=h' }:=J2.track hx11 hx10 (fun z=>by
    obtain ⟨mm,⟨o,_,_,e',_⟩,_⟩:=I6.loc
    rw [<- z,nx] at e';cases e') (fun y c e' z=>by
    obtain ⟨v,o,e2,_⟩:=I6.cell y c e'
    rw [z,nx] at e2;cases e2) (fun p hp z=>by
    have:=(I6.pin p hp).1
    rw [z,nx] at this;cases this) (ZU ho)
  have r2:zG (V.ref x1 :: vs2) (Value.ref x1 :: us):=.cons rfl r
  have hl2:(Value.ref x1 :: us ++ []).length=ps.length:=by rw [List.append_nil,List.length_cons,hlu,hps]
  have b1:=hbI { s2 with heap:=h' } (Value.ref x1 :: us) J3.kIn hl2
  rw [List.append_nil] at b1
  refine wpAny_call (codeAny_mono (F _ x X.stack _ _ ⟨Value.ref x1 :: us,[]⟩ (Value.ref x1 :: us) (V.ref x1 :: vs2) (fun v H3=>v=.non/\∃ dx,H2 dx=none/\dx ≠ x1/\H3=upd (upd H2 x1 (ky x1 C2 t1 (some dx))) dx (XdE dx (fn vs2))) E rfl ((hr.h _).make C2 us []) (J3.env0.make C2 us []) b1 r2 ⟨x1,t1,vs2,rfl,hlv,zk,fun dx hd hne=>⟨rfl,dx,?_,hne,by rw [xJ]⟩⟩) fun r s' hq'=>?_)
  ·rw [zi hne] at hd;exact hd
  cases r with
  | error e=>exact False.elim hq'
  | ok fl=>
   cases fl with
   | ret u=>
    obtain ⟨v,H3,J4,rv,ev,dx,d1,d2,eH⟩:=J3.after hq'
    subst ev eH
    have hcl:=J4.bk _ _ hC
    have hexo:s'.heap.get? x1=some (XW C2 t1 (some dx)):=by
     have:=J4.hok x1 (ky x1 C2 t1 (some dx)) (by rw [zi (Ne.symm d2),zk])
     exact this.1
    have xx1:x ≠ x1:=fun z=>by rw [z,hx11] at hxq;cases hxq
    have xdx:x ≠ dx:=fun z=>by rw [z,d1] at hxq;cases hxq
    have hxo:∃ ox vx,s'.heap.get? x=some ox/\ox.data=.fields vx/\vx[2]?=some .none:=by
     obtain ⟨⟨o,g1,_,_,vx,g2,g3⟩,_⟩:=J4.hok x (Zp x C d) (by rw [zi xdx,zi xx1];exact hxq)
     exact ⟨o,vx,g1,g2,g3⟩
    refine ⟨rv,xx1,hcl,⟨t1,some dx,hexo⟩,hxo,?_⟩
    have J5:=J4.drop (x:=x1) (by rw [zi (Ne.symm d2),zk];exact True.intro) hx10
    have eH:(fun b=>if b=x1 then none else upd (upd H2 x1 (ky x1 C2 t1 (some dx))) dx (XdE dx (fn vs2)) b)=upd H2 dx (XdE dx (fn vs2)):=by
     funext b
     by_cases c:b=x1
     ·rw [if_pos c,c,zi (Ne.symm d2)];exact hx11.symm
     ·rw [if_neg c]
      by_cases c2:b=dx
      ·rw [c2,zk,zk]
      ·rw [zi c2,zi c,zi c2]
    rw [eH] at J5
    obtain ⟨⟨mA,hn1,hr1,_⟩,⟨od,hod⟩,_⟩:=J5.hok dx (XdE dx (fn vs2)) zk
    have J6:=J5.write (x:=dx) (e:=dx) (h':=s'.heap) (t':=s'.toks) (o:=.xd (fn vs2)) (by rw [zk];exact True.intro) (.inl rfl) (fun _ _ _ z=>z) ⟨od,hod⟩ ⟨mA,hn1,hr1⟩
    rw [xJ] at J6
    have J7:Inv X pins _ (upd H2 dx (.xd (fn vs2))) s':=J6.outside I.ok
    have hup:=Heap.get?_update_self (Obj.mapFields (·.setIfInBounds 2 (.ref x))) hexo rfl
    exact Jk D J7 hl (fun b o hb e'=>(Heap.get?_update_other _ _ (Ne.symm hb)).trans e') (fun o z=>by rw [hexo] at z;cases z;exact ⟨_,rfl⟩) hup rfl rfl rfl rfl rfl hx10 (by rw [zi (Ne.symm d2)];exact hx11) ⟨dx,_,rfl,zk,hf2 _⟩ (q1 dx d1)
   | next=>exact False.elim hq'
   | brk=>exact False.elim hq'
   | cont=>exact False.elim hq'
end
open PySem.W (Looks InstAt findIn findObj subIn mroIn clsIn takerIn hasDictIn)
noncomputable def JW (K:PySem.W.Frag)(ta:TE)(f:Str):TE:=fun σ H Q=>ta σ H fun x H1=>∃ a C dx fs v,x=.ref a/\H1 a=some (Zp a C (some dx))/\H1 dx=some (.xd fs)/\GA K C/\hasDictIn K C=true/\findIn K (.ref C) f=some none/\fs.lookup f=some v/\Q v H1
section
variable {X:Cx}{e:Expr}{ta:TE}{f:Str}{pos:Pos}{K:PySem.W.Frag}
theorem VD (he:PE X e ta)(hb:attributeBase e f X.env (eval e X.env)=eval e X.env):PE X (.Attribute e f pos) (JW X.K ta f):=by
 intro pins s σ H Q I h
 refine K6 hb (thn (he pins s σ H _ I h) fun u s1 ⟨x,H1,I1,rx,a,C,dx,fs,v,ex,ea,ed,c,hh,hn,l,q⟩=>?_)
 subst ex
 obtain rfl:u=Value.ref a:=rx
 obtain ⟨⟨oa,g1,g2,g3,vs,g4,_⟩,_,_⟩:=I1.hok a _ ea
 obtain ⟨mA,hns,hr⟩:=I1.hok dx _ ed
 obtain ⟨od,ho,hl⟩:=w8 hns
 have hv:=hr f
 rw [l] at hv
 cases z:mA f with
 | none=>rw [z] at hv;exact hv.elim
 | some u'=>
  rw [z] at hv
  have J:InstAt s1.heap a oa C (some od):=⟨g1,g2,by unfold PySem.W.notCls;rw [g4],by rw [g3];exact ho⟩
  refine Gi I1.kIn J c.bx c.ga c.gt (Qx hh hn (by rw [hl,z])) (Zi hv) ⟨v,H1,I1.tok _,hv,q⟩
theorem Yh (h:X.K=K)(he:PE X e ta)(hb:attributeBase e f X.env (eval e X.env)=eval e X.env):PE X (.Attribute e f pos) (JW K ta f):=h ▸ VD he hb
end
noncomputable def FF (K:PySem.W.Frag)(i j:Nat)(T C2:Addr)(f:Str)(fn:List V->List (Str × V))(EA:ASt->AXK)(ab:(ASt->AXK)->AS):AS:=fun B D ρ M=>
 ab (fun ρ1 C fs M1=>PySem.W.exmOne K (.ref C) (.ref T)=some true/\∃ (a:Int) (v:V),ρ1[j]?=some (some (.d (.int a)))/\fs=[(f,v)]/\GA K C/\hasDictIn K C=true/\findIn K (.ref C) f=some none/\i ≠ j/\i<ρ1.length/\EA ρ1 C2 (fn [.int a,v]) M1) B D ρ M
section
variable {HX:Hp}{OX:Own}{MX:MH}{K:PySem.W.Frag}{i j:Nat}{T C2:Addr}{f:Str}{fn:List V->List (Str × V)}{E:XK}{EA:ASt->AXK}{tb:(St->XK)->TS}{ab:(ASt->AXK)->AS}
theorem YS (hE:EXs HX OX MX (fun _=>E) EA)(hb:∀ (H0:Hp) (O0:Own) (M0:MH) (E:St->XK) (EA:ASt->AXK),EXs H0 O0 M0 E EA->ku H0 O0 M0 (tb E) (ab EA)) :
  ku HX OX MX (VZ K i T C2 2 fn E tb (QE (wo j) (QE (JW K (wo i) f) Yy))) (FF K i j T C2 f fn EA ab):=
 ⟨fun {H0 O0 M0 D D' σ H O ρ M} kx w0 w e x q Dd=>(hb H0 O0 M0 _ _ ⟨fun σ1 ρ1 C fs M1 H1 O1 d q1 k1 w1 e1 xd=>by
  obtain ⟨hx,a,v,hj,rfl,xc,hh,hn,ij,il,q2⟩:=q1
  obtain ⟨dx,rfl,h1,h2,h3⟩:∃ dx,d=some dx/\H1 dx=some (.xd [(f,v)])/\O1 dx/\M1 dx=none:=by
   rcases xd with ⟨_,z⟩ | xd
   ·cases z
   ·exact xd
  refine ⟨C,rfl,hx,fun ⟨dx',fs',z1,z2,z3⟩=>?_,fun y hy=>?_⟩
  ·cases z1
   rw [h1] at z2;cases z2
   simp at z3
  obtain ⟨u,g1,g2⟩:=e1.get j _ hj
  obtain rfl:=zT g2
  have ydx:dx ≠ y:=fun z=>by rw [z,hy] at h1;cases h1
  refine ⟨.int a,by rw [List.getElem?_set_ne ij];exact g1,?_⟩
  refine ⟨.ref y,by rw [List.getElem?_set_self (by rw [e1.len];exact il)],y,C,dx,[(f,v)],v,rfl,zk,by rw [zi ydx];exact h1,xc,hh,hn,by simp,?_⟩
  refine ⟨rfl,by decide,zk,fun dx2 hd2=>?_⟩
  have k2:=qK w1 hy (Zp y C (some dx))
  have w2:=kQ w1 hy (Zp y C (some dx)) (fun _ z=>nomatch z)
  have k3:=qK w2 hd2 (.xd (fn [.int a,v]))
  have w3:=kQ w2 hd2 (.xd (fn [.int a,v])) (fun _ z=>nomatch z)
  exact hE.go _ _ C2 (fn [.int a,v]) M1 _ _ (some dx2) q2 (((kx.trans k1).trans k2).trans k3) w3 (e1.ext (k2.trans k3)) (.inr ⟨dx2,rfl,zk,.inl rfl,(w2.fresh hd2).2⟩)⟩).go .refl w0 w e x q Dd⟩
end
section
variable {X:Cx}{K:PySem.W.Frag}{E:XK}{body:List Stmt}{n tx cx:Str}{i k nn:Nat}{T C2:Addr}{np cp cpos rpos hpos pos:Pos}{tb:(St->XK)->TS}{ta:TA}{e1:Expr}{es:List Expr}{fn:List V->List (Str × V)}
theorem WB (h:X.K=K)(D:DX X E)(nd:X.N.Nodup)(hi:X.N[i]?=some n)(hl:X.env.kindOf n=some .local)(hg:Gl X tx)(hm:X.mg tx=some (.ref T))(m:Z2 X.prog X.w X.K X.mg X.base C2 k nn fn)(hr:ql (k+1) X.A)(hgc:Gl X cx)(hmc:X.mg cx=some (.ref C2))
  (hf2:∀ vs,2<=(fn vs).length) (hb:∀ (pins:List (Addr × Obj)) (xe:Value->Shared->Prop) (Eh:St->XK),y4 (CX1 X.prog X.w) (X.tried pins xe) Eh->PSs (X.tried pins xe) body (tb Eh)) (ha:∀ x,PA (X.inside x) (e1 :: es) ta)
  (hdb:(tx == ("__debug__":Str))=false:=by decide) (hdc:(cx == ("__debug__":Str))=false:=by decide) (he:starEach (e1 :: es) X.env=(false,eval e1 X.env) :: starEach es X.env:=by rfl) (hpl:(backTo cpos (starEach es X.env)).any (·.1)=false:=by rfl) :
  PS X (.Try body [.ExceptHandler (some (.Name tx np)) (some n) [.Raise (some (.Call (.Name cx cp) (e1 :: es) [] cpos)) none rpos] hpos] [] [] pos) (VZ K i T C2 nn fn E tb ta):=h ▸ D3 D nd hi hl hg hm m hr hgc hmc hf2 hb ha hdb hdc he hpl
end
noncomputable abbrev WD:=List AV->MH->(List AV->MH->Prop)->Prop
noncomputable def Dw (a:WD):Sp:=fun vs H Q _=>∃ xs M O Q',Wf H O M/\zj H O M vs xs/\a xs M Q'/\∀ ys M' us H' O' p,Q' ys M'->Ext H O M H' O' M'->Wf H' O' M'->H' p=some (.tup us)->zj H' O' M' us ys->Q (.ref p) H'
noncomputable def FE (sp:WD)(b:AA)(n:Nat)(ag:AGs):AS:=fun _ D ρ M=>b ρ M fun xs M1=>sp xs M1 fun ys M2=>ys.length=n/\ag ys ρ M2 fun ρ2 M3=>D.nx ρ2 M3
theorem Wr {K:PySem.W.Frag}{sp:WD}{u:TA}{b:AA}{n:Nat}{gs:TGs}{ag:AGs}(h:jv u b)(hg:wK gs ag):jq (ZI (QO (Dw sp) [] E0 u) (YZ K n gs)) (FE sp b n ag):=⟨fun _ w e x q E=>h.go w e q fun xs M1 vs H1 O1 q1 k1 w1 r1=>
 ⟨xs,M1,O1,_,w1,by rw [List.append_nil];exact r1,q1,fun ys M2 us H2 O2 p q2 k2 w2 hp r2=>
  ⟨p,us,rfl,SqT.of hp,r2.1.trans q2.1,hg.go w2 (e.ext (k1.trans k2)) r2 q2.2 fun σ3 H3 O3 ρ3 M3 q3 k3 w3 e3=>E.nx _ _ _ _ _ w3 e3 (((x.trans k1).trans k2).trans k3) q3⟩⟩⟩
noncomputable def Fg (b:AA)(n:Nat)(ag:AGs):AS:=fun _ D ρ M=>b ρ M fun xs M1=>xs.length=n/\n<=sizeLine/\ag xs ρ M1 fun ρ2 M3=>D.nx ρ2 M3
theorem Av {K:PySem.W.Frag}{u:TA}{b:AA}{n:Nat}{gs:TGs}{ag:AGs}(h:jv u b)(hg:wK gs ag):jq (ZI (Vd u) (YZ K n gs)) (Fg b n ag):=⟨fun _ w e x q E=>h.go w e q fun xs M1 vs H1 O1 q1 k1 w1 r1=>
 ⟨by rw [r1.1,q1.1];exact q1.2.1,fun p hp=>
  have k2:=qC w1 hp (.tup vs)
  ⟨p,vs,rfl,SqT.of zk,r1.1.trans q1.1,hg.go (kN w1 hp _) (e.ext (k1.trans k2)) (r1.ext k2) q1.2.2 fun σ3 H3 O3 ρ3 M3 q3 k3 w3 e3=>E.nx _ _ _ _ _ w3 e3 (((x.trans k1).trans k2).trans k3) q3⟩⟩⟩
noncomputable def Kw:V->List V->Hp->VK->Prop:=fun x vs H Q=>∃ l xs v j,x=.ref l/\vs=[v]/\H l=some (.lst xs)/\xs.all kF=true/\kF v=true/\j<xs.length/\(∀ y,xs[j]?=some y->eqV y v=true)/\(∀ m y,m<j->xs[m]?=some y->eqV y v=false)/\Q (.int (j:Nat)) H
section
variable {X:Cx}
theorem X9:MtR X "list.index" Kw:=by
 intro pins s σ H x vs v us Q I rx rv h
 obtain ⟨l,xs,i,j,rfl,rfl,hH,hf,hfi,hj,hji,hm,q⟩:=h
 cases rx
 obtain ⟨u,rfl,ru⟩:=rv.one
 obtain ⟨z,its,n,r,hl,e⟩:=I.lstM hH
 have hlen:=r.length
 have hsz:sizeLine<2 ^ 62:=by rw [sizeLine_eq];decide
 have item:∀ m (hmm:m<its.length),∃ y,xs[m]?=some y/\eqU i its[m]=eqV y i:=fun m hmm=>by
  have h1:xs[m]?=some xs[m]:=List.getElem?_eq_getElem (by omega)
  obtain ⟨w,hw,rw1⟩:=r.get h1
  have hw2:=(List.getElem?_eq_some_iff.mp hw).2
  exact ⟨_,h1,by rw [hw2];exact Kg rw1 (List.all_eq_true.mp hf _ (List.getElem_mem _))⟩
 refine call_meets F.slot_list_index ⟨_,e,rfl⟩ F.entry_list_index (F.args_list_index_2 _ _) (SeqAt.list_indexAt l its.toArray n none _ u (eqU i) j (by rw [List.size_toArray];omega) (by omega) ?_ ?_) ⟨e,?_,?_⟩
 ·obtain ⟨y,y1,y2⟩:=item j (by omega)
  rw [List.getElem_toArray,y2]
  exact hji y y1
 ·intro m hmm hmj
  obtain ⟨y,y1,y2⟩:=item m (by rw [List.size_toArray] at hmm;exact hmm)
  rw [List.getElem_toArray,y2]
  exact hm m y hmj y1
 ·intro y hy
  exact kg (x:=i) ru hfi r hf y (by simpa using hy)
 ·exact ⟨.int (j:Nat),H,I.kept (t':=s.toks+1) fun b o e=>e,⟨_,rfl⟩,q⟩
end
noncomputable def K1:AV->List AV->MH->AK->Prop:=fun x xs M Q=>∃ l vs d v j,je x M=some l/\xs=[.d d]/\Qt l=some vs/\flD d=some v/\j<vs.length/\(∀ y,vs[j]?=some y->eqV y v=true)/\(∀ m y,m<j->vs[m]?=some y->eqV y v=false)/\Q (.d (.int (j:Nat))) M
theorem J9:DH Kw K1:=⟨fun w r1 r2 ⟨l,vs,d,v,j,hl,e,hs,hv,hj,h1,h2,q⟩ k=>by
 subst e
 obtain ⟨u,rfl,ru⟩:=jI r2
 obtain ⟨a,xs,rfl,g1,p1⟩:=qQ w r1 hl
 obtain ⟨rfl,f1⟩:=J1 ru hv
 obtain ⟨rfl,f2⟩:=Zz p1 hs
 exact ⟨a,xs,u,j,rfl,rfl,g1,f2,f1,hj,h1,h2,k _ _ _ _ _ q .refl w .int⟩⟩
structure Kf where
 nx:ASt->MH->Prop
 rt:List AV->MH->Prop
noncomputable abbrev AST:=MH->Kf->ASt->MH->Prop
structure Zd (t:TS)(a:AST):Prop where
 go:∀ {H0:Hp} {O0:Own} {M0:MH} {Q:VK} {D':Kf} {σ:St} {H:Hp} {O:Own} {ρ:ASt} {M:MH} {nx:St->Hp->Prop},Wf H0 O0 M0->Wf H O M->Er H O M σ ρ->Ext H0 O0 M0 H O M->a M0 D' ρ M ->
  (∀ ys M' us H' O' p,D'.rt ys M'->Ext H0 O0 M0 H' O' M'->Wf H' O' M'->H' p=some (.tup us)->zj H' O' M' us ys->Q (.ref p) H')->t { nx:=nx,rt:=Q } σ H
noncomputable def K7 (a:AS)(b:AST):AST:=fun B D ρ M=>a B { nx:=fun ρ' M'=>b B D ρ' M',rt:=fun _ _=>False } ρ M
noncomputable def Fw (b:AA):AST:=fun _ D ρ M=>b ρ M fun ys M'=>ys.length<=sizeLine/\D.rt ys M'
theorem XZ {t u:TS}{a:AS}{b:AST}(h1:jq t a)(h2:Zd u b):Zd (YD t u) (K7 a b):=
 ⟨fun w0 w e x q k=>h1.go w0 w e x q ⟨fun σ H O ρ M w e x q=>h2.go w0 w e x q k,fun _ _ _ _ _ _ _ _ z=>z.elim,fun _ _ _ _ _ _ _ _ z=>z.elim,fun _ _ _ _ _ _ _ _ z=>z.elim⟩⟩
theorem X8 {u:TA}{b:AA}(h:jv u b):Zd (Ec (Vd u)) (Fw b):=
 ⟨fun w0 w e x q k=>h.go w e q fun ys M1 us H1 O1 q1 k1 w1 r1=>⟨by rw [r1.1];exact q1.1,fun p hp=>
  have k2:=qC w1 hp (.tup us)
  k ys M1 us _ O1 p q1.2 ((x.trans k1).trans k2) (kN w1 hp _) zk (r1.ext k2)⟩⟩
theorem QK {a:AS}{b:AST}{B:MH}{D:Kf}{ρ:ASt}{M:MH}(h:∀ r,r=b->K7 a r B D ρ M):K7 a b B D ρ M:=h b rfl
theorem dfT {P:Program}{w:World}{K:PySem.W.Frag}{mg:Str->Option Value}{base:Heap}{x:Str}{st:Stmt}{N ps:List Str}{k:Nat}{a:WD}(at_:At K mg x st)(S:zt N ps (ze st))
  (hb:∀ (kV doc pm:Value) (an:Option Addr) (cdv ct:Value) (us:List Value),us.length=ps.length->bindArgs (PySem.W.fnOf x x (qm st) (zM st) (ze st) .none kV doc pm an cdv ct) ⟨us,[]⟩=pure (ps.zip us))
  (len:∀ xs M Q,a xs M Q->xs.length=ps.length)
  (hbody:∀ (f:Addr) (cdv:Value) (A:Around) (outer:List Env) (s:Shared) (H:Hp) (E:XK),ql k (A.deeper (envOfC x (ze st) s.heap.objs.size f cdv)) ->
   ∃ t,PSs (jD CX0 P w K mg base N x (ze st) f cdv A outer s H E).nox (zM st) t/\∃ b,Zd t b/\∀ xs M Q,a xs M Q->b M { nx:=fun _ _=>False,rt:=Q } (zQ N xs) M):Df P w K mg base x ps (k+1) (Dw a):=by
 refine Zb at_ S hb (fun vs H Q E h=>?_) (fun f cdv A outer s H vs Q E hr h=>?_)
 ·obtain ⟨xs,M,O,Q',w,r,q,_⟩:=h
  rw [r.1];exact len xs M Q' q
 ·obtain ⟨t,ht,b,hb,hq⟩:=hbody f cdv A outer s H E hr
  refine ⟨t,ht,?_⟩
  obtain ⟨xs,M,O,Q',w,r,q,kk⟩:=h
  exact hb.go w w (xo r N) .refl (hq xs M Q' q) kk
end L2
namespace Ot
open PySem PySem.Spec PyProof.Rows L2
noncomputable def top (i:Nat):Stmt:=PySem.Challenge.pw_ownturn_k12_plans_shown.main.body.getD i (.Pass ⟨0,0,0,0⟩)
section
variable {P:Program}{w:World}{K:PySem.W.Frag}{mg:Str->Option Value}{base:Heap}{k:Nat}
local macro_rules | `(tactic| walk_at "rd")=>`(tactic| try simp only [AJ,YD,Ew,K4,tOp,tUn,rU,wo,tC,tB,EH,Ip,KB,rI0,rI,ZI,Qe,Ec,XA,VM,YZ,VH,FQ,G7,tCB,QE,Yy,FJ,QO,FK,JV,BK,DZ,rEq,F0,Vd,tBM,vp,K5,YH,Ke,Gx,BM,Zc,KA,FY,ET,Wd,AZ,ipI,Hu,YW,Y6,tIf,tOr,Hb,GE,Ae,FZ,Wx,ZC,Wo,cxK,AU,iLT,Fq,ZN,tSl,Aw,ZX,GX,List.append_nil,
 List.getElem?_cons_zero,List.getElem?_cons_succ,Option.some.injEq,exists_eq_left',exists_eq_left,V.int.injEq,V.ref.injEq,V.bl.injEq,List.cons.injEq,and_true,true_and,and_assoc,decide_eq_true_eq,Bool.not_eq_true',decide_eq_false_iff_not,Bool.false_eq_true,if_false,if_true,reduceIte,exists_and_left,exists_and_right,List.set_cons_zero,List.set_cons_succ,List.nil_append,List.cons_append])
theorem xr {H:Hp}{a b:Addr}{o:HO}(h':H b=none)(h:H a=some o):a ≠ b:=zn h h'
theorem Qp {H H':Hp}{l:Addr}(h:H' l=none)(e:Kp [] H H'):H l=none:=e.free h
theorem Jv {K:PySem.W.Frag}{H H':Hp}{a:Addr}{xs:List V}(h:SqL K H a xs)(e:Kp [] H H'):SqL K H' a xs:=by
 rcases h with (h | ⟨o,h⟩) | h
 ·exact .inl (.inl (e _ _ (by simp) h))
 ·exact .inl (.inr ⟨o,e _ _ (by simp) h⟩)
 ·exact .inr h
theorem hsl:100000<sizeLine:=by rw [sizeLine_eq];decide
theorem Jo {α:Type}(k:Nat)(v:α):(List.replicate k [v]).flatten=List.replicate k v:=by simp
theorem kS (i:Int){j:Int}(h:0<j):0<=i % j/\i % j<j:=⟨Int.emod_nonneg _ (by omega),Int.emod_lt_of_pos _ h⟩
theorem F3 {i j:Int}(h1:0<=i)(h2:i<18446744073709551616):Ah i j:=.inl ⟨by omega,by omega⟩
theorem Ww {i j:Int}(h1:0<=j)(h2:j<18446744073709551616):Ah i j:=.inr ⟨by omega,by omega⟩
theorem b01 (c:Prop)[Decidable c]:0<=(if c then (1:Int) else 0):=by split <;> decide
theorem Dr {i j:Int}(h1:0<j)(h2:j<1073741824):Gf i j:=⟨h1,h2⟩
local macro_rules | `(tactic| walk_at "ne")=>`(tactic| first | (with_reducible assumption) | exact Ne.symm (by with_reducible assumption) | exact xr (by with_reducible assumption) (by walk_at "hp") | exact Ne.symm (xr (by with_reducible assumption) (by walk_at "hp")))
local macro_rules | `(tactic| walk_at "hp")=>`(tactic| first | (with_reducible assumption) | (with_reducible exact zk) | ((with_reducible refine Eq.trans (zi ?ne) ?_);(case ne=>walk_at "ne");walk_at "hp"))
local macro_rules | `(tactic| walk_at "kp")=>`(tactic| first | (with_reducible assumption) | (with_reducible exact Kp.refl) | ((with_reducible refine Kp.trans ?_ (Kp.new _ ?h));(case h=>with_reducible assumption);walk_at "kp") | ((with_reducible refine Kp.trans ?_ (Kp.set _ ?h));(case h=>(simp;done));walk_at "kp"))
local macro_rules | `(tactic| walk_at "fr")=>`(tactic| first | (with_reducible assumption) | exact Qp (by with_reducible assumption) (by walk_at "kp"))
local macro_rules | `(tactic| walk_at "sz")=>`(tactic| (simp only [List.length_cons,List.length_nil,List.length_map,List.length_append,List.length_replicate,List.length_take,List.length_drop,zZ,Jo,Nat.zero_add,Nat.one_mul];omega))
local macro_rules | `(tactic| walk_at "fact")=>`(tactic| first | (with_reducible assumption) | exact rfl | exact SqL.of (by walk_at "hp") | exact SqT.of (by walk_at "hp") | exact Or.inl (SqL.of (by walk_at "hp")) | exact Or.inr (SqT.of (by walk_at "hp")) | exact Or.inl (by with_reducible assumption) | exact Jv (by with_reducible assumption) (by walk_at "kp") | exact Or.inl (Jv (by with_reducible assumption) (by walk_at "kp")) | exact Exists.intro _ (SqL.of (by walk_at "hp")) | exact Exists.intro _ (Jv (by with_reducible assumption) (by walk_at "kp")) | (walk_at "hp") | decide | omega | exact F3 (by omega) (by omega) | exact Ww (by omega) (by omega) | exact Dr (by omega) (by omega) | exact ⟨by omega,by omega⟩ | (walk_at "sz") | exact ⟨by decide,by decide,by decide⟩ | exact Ww (b01 _) (b01' _) | (walk_at "fr"))
local macro_rules | `(tactic| walk_at "x1")=>`(tactic| first
 | ((with_reducible refine Exists.intro ?w (And.intro ?h ?_));(case h=>walk_at "fact"))
 | ((with_reducible refine And.intro ?h ?_);(case h=>walk_at "fact"))
 | ((with_reducible refine Exists.intro ?w (Exists.intro ?w2 (And.intro ?h ?_)));(case h=>walk_at "fact")))
local macro_rules | `(tactic| walk_at "xs")=>`(tactic| repeat walk_at "x1")
local macro_rules | `(tactic| walk_at "sim1") => `(tactic| first
 | (with_reducible first | apply XZ | apply X8)
 | ((with_reducible apply YS KI);intro HX_ OX_ MX_ E_ EA_ hE_)
 | (with_reducible first | apply Bh | apply A1 | apply WO | apply Wm | apply Qu | apply Jt | apply X0 | apply Yv | apply BD | apply EQ | apply Va | apply Wv | apply A4 | apply Di | exact KI)
 | ((with_reducible apply sim_try);intro HX_ OX_ MX_ E_ EA_ hE_)
 | ((with_reducible apply AN);intro HX_ OX_ MX_ E_ EA_ hE_)
 | (with_reducible first | assumption | apply VG | exact EY | exact HD | exact Hk | exact G1 | exact GP | exact Gg | exact DR | exact Wn | exact X3 | exact VT | exact EF | exact BB | exact Dz | exact HR | exact Ed | exact Wh | exact Vf | exact Du | exact Dx | exact BG | exact D8 | exact GC | exact HE | exact Eg | exact Af | exact Ei | exact GF | exact Aq | exact YI | exact DE | exact Wc | exact AD | exact Ef | exact Vn | exact JA | exact Yr | exact J9 | exact Q2 | exact QT | exact wO | exact wG | apply Wr | apply Av | apply EL | apply B8 | apply D2 | apply B5 | apply VV | apply Dp | apply Ep | apply W4 | apply WA | apply Vi | apply YJ | apply Ai | apply Ac | apply Ib | apply DP | apply Hh | apply Dc | apply F8 | apply DO | apply GY | apply VW | apply DQ | apply GG | apply Yx | apply V5 | apply VA | apply EU | apply D6 | apply Hs | apply Gc | apply QB | apply Wa | apply Zt | apply BX | apply Z7 | apply Yd | apply EG | apply Bl | apply W6 | apply BI | apply GS | apply YN | apply YG | apply HQ | apply yl))
local macro_rules | `(tactic| walk_at "sim")=>`(tactic| repeat' walk_at "sim1")
local macro_rules | `(tactic| walk_at "ra")=>`(tactic| try simp only [K7,Fw,K1,FE,Fg,FF,Il,AY,Ft,vH,Xo,FI,Fo,xM,Jz,Fl,qA,aC,aOp,aUn,kC,qj,aCB,Xh,aFz,aOw,Hl,El,aB,QM,B1,aOr,Zu,E6,aIf,Jq,jX,kH,VO,Kl,xN,vM,FC,JR,FO,Vy,asL,VX,IF,Fp,E7,Gn,aiS,Ig,aiE,vc,Kx,aI,aI0,aU,Yi,IG,aIx,fOp,GH,G3,IL,FM,fSl,ID,Ld,wq,aIn,QD,bI2,FL,Vh,fCB,VN,ZD,Fd,Ff,AL,IA,Fz,VL,aBM,XI,VB,BN,Hv,Wz,G2,Gz,G5,Ir,IC,IB,Ie,IN,Ij,AH,Yj,Option.map_some,HN,HF,HI,Hq,Br,By,A8,Vk,A5,Gs,V6,Vx,Bu,Ak,FS,Wj,WC,Hd,Ar,GZ,Vs,W9,Hn,Bp,F7,WN,Wt,GQ,Vz,GL,Vg,WS,G9,V4,HM,V7,BU,XU,zV,qy,DW,KW,FH,HC,G8,HJ,Dt,Dv,B6,Es,Ds,BJ,DT,qV,Le,qT,Al,Bt,wf,jl,Gv,WK,F5,Gu,FV,Ga,Gp,id,decide_true,decide_false,Bool.decide_eq_true,not_true_eq_false,not_false_eq_true,vy,
 List.getElem?_cons_zero,List.getElem?_cons_succ,Option.some.injEq,exists_eq_left',exists_eq_left,AV.d.injEq,AV.ref.injEq,Dat.int.injEq,Dat.bl.injEq,Dat.str.injEq,Dat.lst.injEq,Dat.tup.injEq,Dat.ty.injEq,List.cons.injEq,and_true,true_and,and_assoc,decide_eq_true_eq,Bool.not_eq_true',decide_eq_false_iff_not,Bool.false_eq_true,if_false,if_true,reduceIte,exists_and_left,exists_and_right,List.set_cons_zero,List.set_cons_succ,List.nil_append,List.cons_append,List.length_map,List.map_cons,List.map_nil,Nat.zero_le,Bool.not_true,Bool.not_false,Bool.true_eq_false,eq_self,List.length_cons,List.length_nil])
local macro_rules | `(tactic| walk_at "sk")=>`(tactic| (refine zg fun r9 hr9=>?_;walk_at "ra";refine ⟨_,rfl,_,rfl,by rw [qT];omega,?_⟩;rw [jl,if_neg (by decide +kernel)];subst hr9))
theorem QR (ns:List Int)(lo hi:Option Int):ww (ns.map V.int) lo hi=List.map V.int ((ns.drop (HT.sIx ns.length 0 lo)).take (HT.sIx ns.length ns.length hi - HT.sIx ns.length 0 lo)):=by
 unfold ww
 rw [List.length_map,<- List.map_drop,<- List.map_take]
theorem Zn (cs:List Int)(j:Nat)(v:Int):(cs.map V.int).set j (.int v)=(cs.set j v).map V.int:=by rw [List.map_set]
theorem va {cs:List Int}{k:Int}(h0:0<=k)(h1:k<cs.length):ixN (cs.map V.int).length k=some k.toNat/\atI (cs.map V.int) k=some (.int (cs.getD k.toNat 0)):=by
 have hk:k.toNat<cs.length:=by omega
 have e1:ixN (cs.map V.int).length k=some k.toNat:=by unfold ixN;rw [List.length_map,if_pos h0,if_pos h1]
 refine ⟨e1,?_⟩
 unfold atI
 rw [e1]
 show (cs.map V.int)[k.toNat]?=_
 rw [List.getElem?_map,List.getD_eq_getElem?_getD,List.getElem?_eq_getElem hk];rfl
theorem Zw {ns:List Int}{i:Nat}{x:V}(h:(ns.map V.int)[i]?=some x):x=.int (ns.getD i 0)/\i<ns.length:=by
 rw [List.getElem?_map] at h
 cases e:ns[i]? with
 | none=>rw [e] at h;cases h
 | some v=>
  rw [e] at h
  cases h
  exact ⟨by rw [List.getD_eq_getElem?_getD,e];rfl,(List.getElem?_eq_some_iff.mp e).1⟩
noncomputable abbrev JT:Stmt:=top 19
theorem KF:zt ["_law_box_here","_law_many","_law_once","_law_found"] ["_law_box_here","_law_many"] (ze JT):=⟨rfl,rfl,rfl,by decide +kernel,rfl,by decide +kernel,by decide +kernel⟩
noncomputable def JX:Sp:=fun vs H Q _=>∃ (b:Addr) (many:Int) (N:Nat),vs=[.ref b,.int many]/\Bx H b N/\N<1000000000/\0<many/\many<1073741824/\∀ r H',Kp [b] H H'->Bx H' b (N+1)->0<=r->r<many->Q (.int r) H'
theorem EV (a:At K mg "_law_take" JT)(B:Blt mg):Df P w K mg base "_law_take" ["_law_box_here","_law_many"] 1 JX:=by
 refine Zb (k:=0) a KF (fun _ _ _ _ _ _=>Pn2_ fun _ _=>rfl) (fun vs H Q E h=>?_) (fun f cdv A outer s H vs Q E hr h=>?_)
 ·obtain ⟨b,m,N,rfl,_⟩:=h;rfl
 obtain ⟨b,m,N,rfl,⟨x,y,z,hb,hx,hy,hy',hz,hz'⟩,hN,hm,hm',q⟩:=h
 have sc:=KF
 refine ⟨_,(zc (zJ (zl Xv (zx qN (pv 0) zd (fun _ _=>rfl)) zd (zq _)) (zc (qp (zo QS rfl B.divmod YU (za (zx qN (pv 0) zd (fun _ _=>rfl)) (za (pv 1) zb))) (qP (K:=K) 2 rfl rfl (zE (qz (pv 0) zd zI) (zE (zF (i:=3) sc.nd rfl (by first | exact Or.inl rfl | exact Or.inr rfl)) qO))))
  (zf (zz (pv 3)))) zr)
  (zc (qp (zv qh (zx qN (pv 0) zd (fun _ _=>rfl)) zd) (qz (pv 0) zd zI))
  (zc (zB (i:=2) sc.nd rfl (by first | exact Or.inl rfl | exact Or.inr rfl) (zv jY (zv kX (zv qh (zx qN (pv 0) zd (fun _ _=>rfl)) (zv kX zd (zx qN (pv 0) zd (fun _ _=>rfl)))) (zv qh zd (zx qN (pv 0) zd (fun _ _=>rfl)))) zd))
  (zc (qp (zv jY (zv qh (zv kX (pv 2) (zv qh (zv jY (pv 2) zd) zd)) (zx qN (pv 0) zd (fun _ _=>rfl))) zd) (qz (pv 0) zd zI))
  (zf (zz (zv jY (zv Ks (zv jY (zv kX (zx qN (pv 0) zd (fun _ _=>rfl)) (zv qh (zv jY (zx qN (pv 0) zd (fun _ _=>rfl)) zd) zd)) zd) zd) (pv 1)))))))),?_⟩
 rw [show qL ["_law_box_here","_law_many","_law_once","_law_found"] [V.ref b,V.int m]=[some (.ref b),some (.int m),none,none] from rfl]
 walk_at "rd"
 walk_at "xs"
 refine IW (fun c=>?_) (fun c=>?_)
 ·walk_at "xs"
  refine fun p hp=>?_
  walk_at "xs"
  refine q _ _ ((Kp.new _ hp).trans (Kp.set _ (by simp))) ⟨_,_,_,zk,Int.ediv_nonneg hx (by omega),hy,hy',hz,by omega⟩ (kS x hm).1 (kS x hm).2
 ·walk_at "xs"
  refine q _ _ ((Kp.set _ (by simp)).trans (Kp.set _ (by simp))) ⟨_,_,_,zk,hx,?_,?_,?_,?_⟩ (kS _ hm).1 (kS _ hm).2
  ·exact (kS _ (by decide)).1
  ·exact Int.lt_trans (kS _ (by decide)).2 (by decide)
  ·omega
  ·omega
noncomputable abbrev AB:Stmt:=top 18
theorem A6:zt ["_law_script","_law_k","_law_cell"] ["_law_script","_law_k"] (ze AB):=⟨rfl,rfl,rfl,by decide +kernel,rfl,by decide +kernel,by decide +kernel⟩
noncomputable def Fc:Sp:=fun vs H Q _=>∃ (a:Addr) (k:Int) (cs:List Int),vs=[.ref a,.int k]/\H a=some (il cs)/\0<=k/\k<=1000/\cs.length<=1000/\∀ p H',Kp [] H H'->H p=none->Bx H' p 0->Q (.ref p) H'
theorem DK {cs:List Int}{k:Int}(h0:0<=k):∃ c:Int,atI (cs.map V.int ++ List.replicate (k+1).toNat (V.int 0)) k=some (.int c):=by
 have e:cs.map V.int ++ List.replicate (k+1).toNat (V.int 0)=(cs ++ List.replicate (k+1).toNat 0).map V.int:=by simp
 have ek:k=((k.toNat:Nat):Int):=by omega
 have hk:k.toNat<(cs ++ List.replicate (k+1).toNat (0:Int)).length:=by rw [List.length_append,List.length_replicate];omega
 refine ⟨(cs ++ List.replicate (k+1).toNat 0)[k.toNat],?_⟩
 rw [e]
 have q:atI ((cs ++ List.replicate (k+1).toNat (0:Int)).map V.int) ((k.toNat:Nat):Int)=some (.int (cs ++ List.replicate (k+1).toNat 0)[k.toNat]):=B3 (by rw [List.getElem?_map,List.getElem?_eq_getElem hk] <;> rfl)
 rw [<- ek] at q
 exact q
theorem GR (a:At K mg "_law_box" AB)(B:Blt mg):Df P w K mg base "_law_box" ["_law_script","_law_k"] 1 Fc:=by
 refine Zb (k:=0) a A6 (fun _ _ _ _ _ _=>Pn2_ fun _ _=>rfl) (fun vs H Q E h=>?_) (fun f cdv A outer s H vs Q E hr h=>?_)
 ·obtain ⟨a,k,cs,rfl,_⟩:=h;rfl
 obtain ⟨a,k,cs,rfl,ha,hk,hk',hcs,q⟩:=h
 have sc:=A6
 have hsl:=hsl
 refine ⟨_,(zc (zB (i:=2) sc.nd rfl (by first | exact Or.inl rfl | exact Or.inr rfl) (zx qN (zv qH (pv 0) (zv yM (zL (za zd zb)) (zv qh (pv 1) zd))) (pv 1) (fun _ _=>rfl)))
  (zf (zz (zL (za (zv kX (zo Qv rfl B.abs V3 (za (pv 2) zb)) (zC yQ rfl B.int vX (za (xE HV (zo Qv rfl B.abs V3 (za (pv 2) zb)) (zv WZ zd zd) (zq _)) zb))) (za (zv jY (zv kX (zv qh (zv qh (zv jY (pv 2) zd) (zv kX zd (pv 1))) zd) zd) zd) (za zd zb))))))),?_⟩
 rw [show qL ["_law_script","_law_k","_law_cell"] [V.ref a,V.int k]=[some (.ref a),some (.int k),none] from rfl]
 walk_at "rd"
 walk_at "xs"
 intro p1 hp1
 walk_at "xs"
 intro p2 hp2
 walk_at "xs"
 intro p3 hp3
 simp only [Jo] at hp3 ⊢
 obtain ⟨c,hc⟩:=DK (cs:=cs) hk
 walk_at "xs"
 intro p4 hp4
 refine q _ _ (by walk_at "kp") (by walk_at "fr") ⟨_,_,_,zk,?_,?_,?_,?_,?_⟩
 ·exact Int.mul_nonneg (by split <;> omega) (b01 _)
 ·exact (kS _ (by decide)).1
 ·exact Int.lt_trans (kS _ (by decide)).2 (by decide)
 ·decide
 ·decide
noncomputable abbrev wm:Stmt:=top 20
theorem Ze:zt ["_law_script","_law_many","_law_cells","_law_k","_law_cell"] ["_law_script","_law_many"] (ze wm):=⟨rfl,rfl,rfl,by decide +kernel,rfl,by decide +kernel,by decide +kernel⟩
noncomputable def QZ (K:PySem.W.Frag):Sp:=fun vs H Q _=>∃ (a:Addr) (m:Int) (ns:List Int),vs=[.ref a,.int m]/\SqL K H a (ns.map V.int)/\0<m/\m<=60/\ns.length<=63/\∀ p H' cs,Kp [] H H'->H p=none->H' p=some (il cs)->cs.length<=1000->Q (.ref p) H'
theorem Yz (a:At K mg "_law_folded" wm)(B:Blt mg):Df P w K mg base "_law_folded" ["_law_script","_law_many"] 1 (QZ K):=by
 refine Zb (k:=0) a Ze (fun _ _ _ _ _ _=>Pn2_ fun _ _=>rfl) (fun vs H Q E h=>?_) (fun f cdv A outer s H vs Q E hr h=>?_)
 ·obtain ⟨a,k,cs,rfl,_⟩:=h;rfl
 obtain ⟨a,m,ns,rfl,ha,hm,hm',hns,q⟩:=h
 obtain ⟨M,rfl⟩:∃ M:Nat,m=M:=⟨m.toNat,by omega⟩
 have sc:=Ze
 have hsl:=hsl
 refine ⟨_,(zc (zB (i:=2) sc.nd rfl (by first | exact Or.inl rfl | exact Or.inr rfl) (zC jP rfl B.list qS (za (zR qu (pv 0) qg (zO (pv 1))) zb)))
  (zc (jZ PassesOwn.never rfl (BY rfl B.enumerate (za (zR qu (pv 0) (zO (pv 1)) (zO zd)) zb)) (qP (K:=K) 2 rfl rfl (zE (zF (i:=3) sc.nd rfl (by first | exact Or.inl rfl | exact Or.inr rfl)) (zE (zF (i:=4) sc.nd rfl (by first | exact Or.inl rfl | exact Or.inr rfl)) qO))) (zf (qp (zv qh (zx qN (pv 2) (zv jY (pv 3) (pv 1)) (fun _ _=>rfl)) (zv kX (pv 4) (zv qh (pv 3) zd))) (qz (pv 2) (zv jY (pv 3) (pv 1)) zI))))
  (zf (zz (pv 2))))),?_⟩
 rw [show qL ["_law_script","_law_many","_law_cells","_law_k","_law_cell"] [V.ref a,V.int M]=[some (.ref a),some (.int M),none,none,none] from rfl]
 walk_at "rd"
 walk_at "xs"
 intro p1 hp1
 rw [QR]
 walk_at "xs"
 intro p2 hp2
 walk_at "xs"
 intro p3 hp3
 rw [QR]
 have e63:(63:Int)=((63:Nat):Int):=rfl
 simp only [HT.sIx_none,HT.sIx_nat,e63,List.drop_zero,Nat.sub_zero] at hp2 hp3 ⊢
 walk_at "xs"
 generalize hc0:ns.take (min M ns.length)=c0 at hp2 hp3 ⊢
 generalize hd0:(ns.drop (min M ns.length)).take (min 63 ns.length - min M ns.length)=d0 at hp2 hp3 ⊢
 have lc:c0.length=min M ns.length:=by rw [<- hc0,List.length_take];omega
 have ld:d0.length<=ns.length - M:=by rw [<- hd0,List.length_take,List.length_drop];omega
 have n23:p2 ≠ p3:=by walk_at "ne"
 refine BZ (xs:=d0.map V.int) (fun i τ H'=>∃ u v cs,τ=[some (.ref a),some (.int M),some (.ref p2),u,v]/\Kp [p2] (upd (upd (upd H p1 (HO.lst (List.map V.int c0))) p2 (HO.lst (List.map V.int c0))) p3 (HO.lst (List.map V.int d0))) H'/\H' p2=some (il cs)/\cs.length=c0.length) ?_ ?_ ?_ ?_
 ·exact ⟨none,none,c0,rfl,Kp.refl,by walk_at "hp",rfl⟩
 ·rintro i τ H' _ ⟨u,v,cs,rfl,kp,_⟩
  exact SqL.of (kp _ _ (by simp [Ne.symm n23]) (by walk_at "hp"))
 ·rintro i x pp τ H' hx hpp ⟨u,v,cs,rfl,kp,hcs,hl⟩
  obtain ⟨rfl,hi⟩:=Zw hx
  have b1:=kS (i:Int) hm
  obtain ⟨g1,g2⟩:=va (cs:=cs) (k:=(i:Int) % (M:Int)) b1.1 (by omega)
  have hcs':upd H' pp (HO.tup [V.int i,V.int (d0.getD i 0)]) p2=some (il cs):=by walk_at "hp"
  walk_at "rd"
  walk_at "xs"
  refine ⟨(kp.trans (Kp.new _ hpp)).trans (Kp.set _ (by simp)),_,zk.trans (congrArg some (congrArg HO.lst (Zn _ _ _))),by rw [List.length_set];exact hl⟩
 ·rintro τ H' ⟨u,v,cs,rfl,kp,hcs,hl⟩
  walk_at "rd"
  refine q _ _ cs (fun c o hc hh=>kp c o ?_ ((((Kp.new _ hp1).trans (Kp.new _ hp2)).trans (Kp.new _ hp3)) c o hc hh)) (by walk_at "fr") hcs (by omega)
  have:c ≠ p2:=xr (Qp hp2 (Kp.new _ hp1)) hh
  simpa using this
noncomputable abbrev QQ:List Int:=[0,1,2,3,4,5,6,7,4,5,6,7]
noncomputable abbrev wl:Stmt:=top 21
theorem Zh:zt ["_law_box_here","_law_most","_law_few"] ["_law_box_here","_law_most"] (ze wl):=⟨rfl,rfl,rfl,by decide +kernel,rfl,by decide +kernel,by decide +kernel⟩
noncomputable def Q0:Sp:=fun vs H Q _=>∃ (b:Addr) (m:Int) (N:Nat),vs=[.ref b,.int m]/\Bx H b N/\N<100000000/\24<=m/\m<=1000/\∀ r H',Kp [b] H H'->Bx H' b (N+10)->0<=r->r<=m->Q (.int r) H'
theorem YA (a:At K mg "_law_length" wl)(B:Blt mg)(D_law_take:Df P w K mg base "_law_take" ["_law_box_here","_law_many"] 1 JX):Df P w K mg base "_law_length" ["_law_box_here","_law_most"] 2 Q0:=by
 refine Zb (k:=1) a Zh (fun _ _ _ _ _ _=>Pn2_ fun _ _=>rfl) (fun vs H Q E h=>?_) (fun f cdv A outer s H vs Q E hr h=>?_)
 ·obtain ⟨a,k,cs,rfl,_⟩:=h;rfl
 obtain ⟨b,m,N,rfl,hb,hN,hm,hm',q⟩:=h
 have sc:=Zh
 have hsl:=hsl
 refine' ⟨_,zc (zJ (zl Fy (zP D_law_take hr rfl (za (pv 0) (za zd zb))) zd (zq _)) (zf (zz (zv kJ (pv 1) (zP D_law_take hr rfl (za (pv 0) (za (zo (wz rfl) rfl B.max Bc (za zd (za (zv Ks (pv 1) zd) zb))) zb)))))) zr) (zc _ _),?_⟩
 rotate_left 2
 ·refine' zB (i:=2) _ _ _ _ _ _
  rotate_left 1
  ·exact sc.nd
  ·rfl
  ·first | exact Or.inl rfl | exact Or.inr rfl
  ·refine' zx _ _ _ _
   rotate_left 3
   ·exact qN
   ·refine' zL _
    rotate_left 1
    refine' XN (is:=[0,1,2,3,4,5,6,7,4,5,6,7]) _
    rfl
   ·exact (zP D_law_take hr rfl (za (pv 0) (za zd zb)))
   ·exact (fun _ _=>rfl)
  ·rfl
  ·first | exact .inl rfl | exact .inr rfl | assumption
 ·refine' zf _
  rotate_left 1
  refine' zz _
  rotate_left 1
  refine' zx _ _ _ _
  rotate_left 3
  ·exact qN
  ·refine' zL _
   rotate_left 1
   refine' za _ _ _
   rotate_left 2
   ·exact pv 2
   ·exact (za (zv qh zd (zP D_law_take hr rfl (za (pv 0) (za zd zb)))) zb)
   ·rfl
  ·exact (zC yQ rfl B.int vX (za (xE Fy (zP D_law_take hr rfl (za (pv 0) (za zd zb))) zd (zq _)) zb))
  ·exact (fun _ _=>rfl)
 rw [show qL ["_law_box_here","_law_most","_law_few"] [V.ref b,V.int m]=[some (.ref b),some (.int m),none] from rfl]
 walk_at "rd"
 refine ⟨b,16,N,rfl,hb,by omega,by decide,by decide,fun r1 H1 k1 b1 l1 u1=>⟨rfl,?_⟩⟩
 walk_at "rd"
 refine IW (fun c=>?_) (fun c=>?_)
 ·walk_at "xs"
  refine ⟨b,_,_,rfl,b1,by omega,by split <;> omega,by split <;> omega,fun r2 H2 k2 b2 l2 u2=>⟨_,rfl,?_⟩⟩
  refine q _ _ (k1.trans k2) (b2.mono (by omega)) ?_ ?_
  ·split at u2 <;> omega
  ·omega
 ·walk_at "xs"
  intro p1 hp1
  refine ⟨b,12,_,rfl,b1.new hp1,by omega,by decide,by decide,fun r2 H2 k2 b2 l2 u2=>?_⟩
  have hne:p1 ≠ b:=by obtain ⟨_,_,_,h,_⟩:=b1;exact Ne.symm (zn h hp1)
  have h2:=k2 p1 _ (by simpa using hne) zk
  obtain ⟨e1,e2⟩:=va (cs:=QQ) (k:=r2) l2 (by simpa using u2)
  refine ⟨_,_,rfl,SqL.of h2,_,e2,b,17,_,rfl,b2,by omega,by decide,by decide,fun r3 H3 k3 b3 l3 u3=>?_⟩
  have hv:0<=QQ.getD r2.toNat 0/\QQ.getD r2.toNat 0<=(24:Int):=by
   have:∀ j:Nat,0<=QQ.getD j 0/\QQ.getD j 0<=(24:Int):=by
    intro j
    by_cases hj:j<12
    ·have hd:∀ j:Nat,j<12->0<=QQ.getD j 0/\QQ.getD j 0<=(24:Int):=by decide
     exact hd j hj
    ·have e:QQ.getD j (0:Int)=0:=by rw [List.getD_eq_getElem?_getD,List.getElem?_eq_none (by simpa using hj)];rfl
     rw [e];decide
   exact this _
  refine ⟨_,rfl,by show 2<=sizeLine;decide,fun p2 hp2=>?_⟩
  refine ⟨b,6,_,rfl,b3.new hp2,by omega,by decide,by decide,fun r4 H4 k4 b4 l4 u4=>⟨rfl,?_⟩⟩
  have hne2:p2 ≠ b:=by obtain ⟨_,_,_,h,_⟩:=b3;exact Ne.symm (zn h hp2)
  have h4:=k4 p2 _ (by simpa using hne2) zk
  have fin:∀ r,0<=r->r<=24->Q (.int r) H4:=fun r g1 g2=>by
   refine q r H4 ?_ (b4.mono (by omega)) g1 (by omega)
   exact (((k1.trans (Kp.new _ hp1)).trans k2).trans k3).trans ((Kp.new _ hp2).trans k4)
  by_cases c4:r4=0
  ·subst c4
   exact ⟨_,SqL.of h4,_,rfl,fin _ (by omega) (by omega)⟩
  ·rw [if_neg (fun z=>c4 (V.int.inj z))]
   exact ⟨_,SqL.of h4,_,rfl,fin _ hv.1 hv.2⟩
noncomputable def cE:Option Int->V
 | none=>.non
 | some x=>.int x
inductive De where
 | swap (a b:Nat) | take (p:Nat) | move (p g:Nat) | lay (g:Nat)
noncomputable abbrev ES:=List (Option Int) × Option Int
inductive DoE:De->ES->ES->Prop
 | swap {a b:Nat} {row:List (Option Int)} {h:Option Int} {x y:Int}:a ≠ b->row[a]?=some (some x)->row[b]?=some (some y)->DoE (.swap a b) (row,h) ((row.set a (some y)).set b (some x),h)
 | take {p:Nat} {row:List (Option Int)} {x:Int}:row[p]?=some (some x)->DoE (.take p) (row,none) (row.set p none,some x)
 | move {p g:Nat} {row:List (Option Int)} {h:Option Int} {x:Int}:row[p]?=some (some x)->row[g]?=some none->DoE (.move p g) (row,h) ((row.set p none).set g (some x),h)
 | lay {g:Nat} {row:List (Option Int)} {x:Int}:row[g]?=some none->DoE (.lay g) (row,some x) (row.set g (some x),none)
inductive kT:List De->ES->ES->Prop
 | nil {s:ES}:kT [] s s
 | cons {d:De} {l:List De} {s t u:ES}:DoE d s t->kT l t u->kT (d :: l) s u
theorem kT.append {a b:List De}{s t u:ES}(h1:kT a s t)(h2:kT b t u):kT (a ++ b) s u:=by
 induction h1 with
 | nil=>exact h2
 | cons d _ ih=>exact .cons d (ih h2)
theorem kT.one {d:De}{s t:ES}(h:DoE d s t):kT [d] s t:=.cons h .nil
theorem DoE.len {d:De}{s t:ES}(h:DoE d s t):t.1.length=s.1.length:=by
 cases h <;> simp
noncomputable def vA:ASp:=fun xs M Q=>∃ (b:Addr) (many:Int) (N:Nat),xs=[.ref b,.d (.int many)]/\BxM M b N/\N<1000000000/\0<many/\many<1073741824/\∀ r M',BxS M M' b (N+1)->0<=r->r<many->Q (.d (.int r)) M'
theorem EE (vs:List V)(H:Hp)(Q:VK)(E:XK)(h:cSp vA vs H Q E):JX vs H Q E:=by
 obtain ⟨xs,M,O,Q',w,r,⟨b,many,N,rfl,hb,h1,h2,h3,q⟩,k⟩:=h
 obtain ⟨v,u,rfl,rv,ru⟩:=xQ r
 rw [zT ru,rv.1]
 refine ⟨b,many,N,rfl,hb.bx w,h1,h2,h3,fun r H' kp hb' r0 r1=>?_⟩
 obtain ⟨M',s,e,w'⟩:=AX w hb kp hb'
 exact k _ _ _ _ _ (q r M' s r0 r1) e w' .int
noncomputable def IQ:ASp:=fun xs M Q=>∃ (x:AV) (k:Int) (cs:List Int),xs=[x,.d (.int k)]/\je x M=some (cs.map fun i=>.d (.int i))/\0<=k/\k<=1000/\cs.length<=1000/\∀ p o,M p=none->BxM (mup M p o) p 0->Q (.ref p) (mup M p o)
theorem FX (vs:List V)(H:Hp)(Q:VK)(E:XK)(h:cSp IQ vs H Q E):Fc vs H Q E:=by
 obtain ⟨xs,M,O,Q',w,r,⟨x,n,cs,rfl,hx,h1,h2,h3,q⟩,k⟩:=h
 obtain ⟨v,u,rfl,rv,ru⟩:=xQ r
 rw [zT ru]
 obtain ⟨a,rfl,ha⟩:=Az w rv hx
 refine ⟨a,n,cs,rfl,ha,h1,h2,h3,fun p H' kp hp hb'=>?_⟩
 obtain ⟨x',y',z',g1,g2⟩:=hb'
 obtain ⟨e1,w1⟩:=As w kp
 have fr:=w.fresh hp
 have e2:=Ext.owned (O':=yc O p) (p:=p) w ⟨fun a o h e=>⟨(e1.fix a o h e).1,fun z=>z.elim (zn e hp) h⟩,fun a h e=>⟨(e1.prv a h e).1,.inr h,e⟩,fun _ h=>h⟩ hp (.lst ([x',y',z'].map fun i=>.d (.int i)))
 refine k _ _ _ _ _ (q p _ fr.2 ⟨x',y',z',zh,g2⟩) e2 (QL (O:=yc O p) (xs:=[V.int x',V.int y',V.int z']) ⟨fun a o h=>?_,fun a h=>.inr (w1.own a h),fun a h=>?_⟩ (.inl rfl) fr.2 g1 (Jd [x',y',z'])) ⟨rfl,by rw [zh];exact fun z=>nomatch z⟩
 ·have e3:Ext H O M H' (yc O p) M:=⟨fun a o h e=>⟨(e1.fix a o h e).1,fun z=>z.elim (zn e hp) h⟩,fun a h e=>⟨(e1.prv a h e).1,.inr h,e⟩,fun _ h=>h⟩
  refine jf.ext e3 ?_ (w.mo a o h)
  obtain ⟨u,hu,_⟩:=w.al a (w.own a (jS h))
  rw [hu];exact kp a u (by simp) hu
 ·rcases h with rfl | h
  ·exact ⟨_,g1,fun xs z=>nomatch z⟩
  ·exact w1.al a h
noncomputable def XQ (K:PySem.W.Frag):ASp:=fun xs M Q=>∃ (m:Int) (ns:List Int),xs=[.d (.scr K ns),.d (.int m)]/\0<m/\m<=60/\ns.length<=63/\∀ cs:List Int,cs.length<=1000->Q (.d (.lst (cs.map .int))) M
theorem Yk (vs:List V)(H:Hp)(Q:VK)(E:XK)(h:cSp (XQ K) vs H Q E):QZ K vs H Q E:=by
 obtain ⟨xs,M,O,Q',w,r,⟨m,ns,rfl,h1,h2,h3,q⟩,k⟩:=h
 obtain ⟨v,u,rfl,rv,ru⟩:=xQ r
 rw [zT ru]
 obtain ⟨a,rfl,ha⟩:=Ex rv
 refine ⟨a,m,ns,rfl,ha,h1,h2,h3,fun p H' cs kp hp hc lc=>?_⟩
 obtain ⟨e1,w1⟩:=As w kp
 exact k _ _ _ _ _ (q cs lc) e1 w1 (Bf (w.fresh hp).1 hc)
noncomputable def Xq:ASp:=fun xs M Q=>∃ (b:Addr) (m:Int) (N:Nat),xs=[.ref b,.d (.int m)]/\BxM M b N/\N<100000000/\24<=m/\m<=1000/\∀ r M',BxS M M' b (N+10)->0<=r->r<=m->Q (.d (.int r)) M'
theorem XX (vs:List V)(H:Hp)(Q:VK)(E:XK)(h:cSp Xq vs H Q E):Q0 vs H Q E:=by
 obtain ⟨xs,M,O,Q',w,r,⟨b,many,N,rfl,hb,h1,h2,h3,q⟩,k⟩:=h
 obtain ⟨v,u,rfl,rv,ru⟩:=xQ r
 rw [zT ru,rv.1]
 refine ⟨b,many,N,rfl,hb.bx w,h1,h2,h3,fun r H' kp hb' r0 r1=>?_⟩
 obtain ⟨M',s,e,w'⟩:=AX w hb kp hb'
 exact k _ _ _ _ _ (q r M' s r0 r1) e w' .int
noncomputable abbrev Tst (c:AT)(ρ:ASt)(M:MH)(b:Bool):Prop:=∀ Q,Q b M->c ρ M Q
theorem zA {c:AT}{ρ:ASt}{M:MH}{b b':Bool}(h:Tst c ρ M b)(e:b=b'):Tst c ρ M b':=e ▸ h
theorem jH {c d:AT}{ρ:ASt}{M:MH}(h:Tst c ρ M false):Tst (B1 c d) ρ M false:=fun Q q=>h _ (by rw [if_neg (fun z=>nomatch z)];exact q)
theorem qU {c d:AT}{ρ:ASt}{M:MH}{b:Bool}(h:Tst c ρ M true)(h':Tst d ρ M b):Tst (B1 c d) ρ M b:=fun Q q=>h _ (by rw [if_pos rfl];exact h' _ q)
theorem jK {c d:AT}{ρ:ASt}{M:MH}{b:Bool}(h:Tst c ρ M false)(h':Tst d ρ M b):Tst (aOr c d) ρ M b:=fun Q q=>h _ (by rw [if_neg (fun z=>nomatch z)];exact h' _ q)
theorem ZM {c d:AT}{ρ:ASt}{M:MH}(h:Tst c ρ M true):Tst (aOr c d) ρ M true:=fun Q q=>h _ (by rw [if_pos rfl];exact q)
theorem qG {c:AT}{t r:AS}{B:MH}{D:qX}{ρ:ASt}{M:MH}(h:Tst c ρ M false)(k:r B D ρ M):kH (xN c t jX) r B D ρ M:=h _ (by rw [if_neg (fun z=>nomatch z)];exact k)
theorem xa {c:AT}{e:AE}{r:AS}{B:MH}{D:qX}{ρ:ASt}{M:MH}(h:Tst c ρ M true)(k:e ρ M D.rt):kH (xN c (Kl e) jX) r B D ρ M:=h _ (by rw [if_pos rfl];exact k)
theorem WI {c:AT}{t:AS}{B:MH}{D:qX}{ρ:ASt}{M:MH}(h:Tst c ρ M false)(k:D.nx ρ M):xN c t jX B D ρ M:=h _ (by rw [if_neg (fun z=>nomatch z)];exact k)
theorem Hi {c:AT}{e:AE}{B:MH}{D:qX}{ρ:ASt}{M:MH}(h:Tst c ρ M true)(k:e ρ M D.rt):xN c (Kl e) jX B D ρ M:=h _ (by rw [if_pos rfl];exact k)
theorem F9 {c:AT}{e f:AE}{ρ:ASt}{M:MH}{Q:AK}(h:Tst c ρ M true)(k:e ρ M Q):aIf c e f ρ M Q:=h _ (by rw [if_pos rfl];exact k)
theorem EB {c:AT}{e f:AE}{ρ:ASt}{M:MH}{Q:AK}(h:Tst c ρ M false)(k:f ρ M Q):aIf c e f ρ M Q:=h _ (by rw [if_neg (fun z=>nomatch z)];exact k)
theorem vn {w:Dat}{ps:List Dat}:atI (AV.d w :: ps.map AV.d) 0=some (.d w):=by
 unfold atI
 rw [qD (by omega) (by rw [List.length_cons];omega)]
 rfl
theorem tW {i:Nat}{w w':Str}{ps:List Dat}{ρ:ASt}{M:MH}(hρ:ρ[i]?=some (some (.d (.tup (.str w :: ps))))):Tst (aB (aOp (wq id) (aOp (aIx qw) (qA i) (aC (.int 0))) (aC (.str w')))) ρ M (decide (w=w')):=fun Q q=>by
 refine ⟨_,hρ,_,0,.d (.str w),rfl,rfl,vn,_,_,rfl,rfl,by rw [qT];omega,by rw [qT];omega,_,rfl,?_⟩
 rw [jl]
 exact q
theorem tNN {i:Nat}{x:AV}{ρ:ASt}{M:MH}(hρ:ρ[i]?=some (some x)):Tst (aB (aOp (Yi not) (qA i) (aC .non))) ρ M (!jM x):=fun Q q=>⟨_,hρ,rfl,_,rfl,q⟩
theorem tIN {i:Nat}{x:AV}{ρ:ASt}{M:MH}(hρ:ρ[i]?=some (some x)):Tst (aB (aOp (Yi id) (qA i) (aC .non))) ρ M (jM x):=fun Q q=>⟨_,hρ,rfl,_,rfl,q⟩
theorem tNt {c:AT}{ρ:ASt}{M:MH}{b:Bool}(h:Tst c ρ M b):Tst (Zu c) ρ M (!b):=fun Q q=>h _ q
theorem Ym {i:Nat}{x:AV}{t c:String}{b:Bool}{ρ:ASt}{M:MH}(h:ρ[i]?=some (some x))(ht:tyA x M=some t)(hb:isT t c=some b):Tst (aB (aCB ZD (qj (qA i) (qj (aC (.ty c)) kC)))) ρ M b:=fun Q q=>⟨_,h,_,_,_,_,rfl,ht,hb,_,rfl,q⟩
theorem YY {i:Nat}{w:Dat}{ps:List Dat}{t c:String}{b:Bool}{ρ:ASt}{M:MH}(h:ρ[i]?=some (some (.d (.tup (w :: ps)))))(ht:tyA (.d w) M=some t)(hb:isT t c=some b):Tst (aB (aCB ZD (qj (aOp (aIx qw) (qA i) (aC (.int 0))) (qj (aC (.ty c)) kC)))) ρ M b:=fun Q q=>⟨_,h,_,_,_,rfl,rfl,vn,_,_,_,_,rfl,ht,hb,_,rfl,q⟩
theorem tNo {i:Nat}{x:AV}{t c:String}{d:AT}{ρ:ASt}{M:MH}(h:ρ[i]?=some (some x))(ht:tyA x M=some t)(hb:isT t c=some false):Tst (aOr (Zu (aB (aCB ZD (qj (qA i) (qj (aC (.ty c)) kC))))) d) ρ M true:=ZM (tNt (Ym h ht hb))
theorem Bk {c:AT}{t r:AS}{B:MH}{D:qX}{ρ:ASt}{M:MH}(h:Tst c ρ M true)(k:t B { D with nx:=r B D } ρ M):kH (xN c t jX) r B D ρ M:=h _ (by rw [if_pos rfl];exact k)
theorem QH {i:Nat}{t:AS}{B:MH}{D:qX}{ρ:ASt}{M:MH}(h:∀ r,r=t->AL i r B D ρ M):AL i t B D ρ M:=h t rfl
noncomputable def kr (ms:List Int)(x:Int):List Int:=ms.set x.toNat (ms.getD x.toNat 0+1)
theorem Qn (ms:List Int)(x:Int):(kr ms x).length=ms.length:=by unfold kr;rw [List.length_set]
noncomputable def OkM (s:ES)(n:Nat):Prop:=(∀ x,some x ∈ s.1->0<=x/\x<(n:Int))/\∀ x,s.2=some x->0<=x/\x<(n:Int)
noncomputable def cA:Option Int->AV
 | none=>.d .non
 | some x=>.d (.int x)
noncomputable abbrev Yp (row:List (Option Int)):MO:=.lst (row.map cA)
noncomputable abbrev msA (ms:List Int):MO:=.lst (ms.map fun i=>AV.d (.int i))
noncomputable abbrev W2 (C rw_ mv:Addr)(h:Option Int):MO:=.ins C [("row",.ref rw_),("hand",cA h),("moved",.ref mv)]
structure qi (C:Addr)(M:MH)(p rw_ mv:Addr)(s:ES)(ms:List Int):Prop where
 ins:M p=some (W2 C rw_ mv s.2)
 row:M rw_=some (Yp s.1)
 mvd:M mv=some (msA ms)
 ne:rw_ ≠ mv
noncomputable def rmP (C:Addr)(M:MH)(p rw_ mv:Addr)(s:ES)(ms:List Int):MH:=mup (mup (mup M p (W2 C rw_ mv s.2)) rw_ (Yp s.1)) mv (msA ms)
theorem qi.pr {C:Addr}{M:MH}{p rw_ mv:Addr}{s:ES}{ms:List Int}(r:qi C M p rw_ mv s ms):p ≠ rw_/\p ≠ mv:=
 ⟨fun z=>(by have:=r.ins;rw [z,r.row] at this;cases this),fun z=>(by have:=r.ins;rw [z,r.mvd] at this;cases this)⟩
theorem qi.same {C:Addr}{M:MH}{p rw_ mv:Addr}{s:ES}{ms:List Int}(r:qi C M p rw_ mv s ms):rmP C M p rw_ mv s ms=M:=by
 funext b
 unfold rmP mup
 by_cases c1:b=mv
 ·rw [if_pos c1,c1,r.mvd]
 ·rw [if_neg c1]
  by_cases c2:b=rw_
  ·rw [if_pos c2,c2,r.row]
  ·rw [if_neg c2]
   by_cases c3:b=p
   ·rw [if_pos c3,c3,r.ins]
   ·rw [if_neg c3]
theorem qi.to {C:Addr}{M:MH}{p rw_ mv:Addr}{s:ES}{ms:List Int}(r:qi C M p rw_ mv s ms)(s':ES)(ms':List Int):qi C (rmP C M p rw_ mv s' ms') p rw_ mv s' ms':=by
 obtain ⟨n1,n2⟩:=r.pr
 have n3:=r.ne
 unfold rmP
 exact ⟨by rw [zu n2,zu n1,zh],by rw [zu n3,zh],zh,n3⟩
theorem qi.again {C:Addr}{M:MH}{p rw_ mv:Addr}{s:ES}{ms:List Int}(r:qi C M p rw_ mv s ms)(s' s2:ES)(ms' ms2:List Int):rmP C (rmP C M p rw_ mv s' ms') p rw_ mv s2 ms2=rmP C M p rw_ mv s2 ms2:=by
 funext b
 unfold rmP mup
 by_cases c1:b=mv <;> by_cases c2:b=rw_ <;> by_cases c3:b=p <;> simp [c1,c2,c3]
theorem qi.setRow {C:Addr}{M:MH}{p rw_ mv:Addr}{s:ES}{ms:List Int}(r:qi C M p rw_ mv s ms)(row:List (Option Int)):mup M rw_ (Yp row)=rmP C M p rw_ mv (row,s.2) ms:=by
 obtain ⟨n1,n2⟩:=r.pr
 funext b
 unfold rmP mup
 by_cases c1:b=mv
 ·rw [if_pos c1,if_neg (fun z=>r.ne (z.symm.trans c1)),c1,r.mvd]
 ·rw [if_neg c1]
  by_cases c2:b=rw_
  ·rw [if_pos c2,if_pos c2]
  ·rw [if_neg c2,if_neg c2]
   by_cases c3:b=p
   ·rw [if_pos c3,c3,r.ins]
   ·rw [if_neg c3]
theorem qi.setMv {C:Addr}{M:MH}{p rw_ mv:Addr}{s:ES}{ms:List Int}(r:qi C M p rw_ mv s ms)(ms':List Int):mup M mv (msA ms')=rmP C M p rw_ mv s ms':=by
 have:=r.same
 calc mup M mv (msA ms')=mup (rmP C M p rw_ mv s ms) mv (msA ms'):=by rw [this]
  _=_:=by unfold rmP;rw [vy]
theorem qi.setHand {C:Addr}{M:MH}{p rw_ mv:Addr}{s:ES}{ms:List Int}(r:qi C M p rw_ mv s ms)(h:Option Int):mup M p (W2 C rw_ mv h)=rmP C M p rw_ mv (s.1,h) ms:=by
 obtain ⟨n1,n2⟩:=r.pr
 funext b
 unfold rmP mup
 by_cases c1:b=mv
 ·rw [if_pos c1,if_neg (fun z=>n2 (z.symm.trans c1)),c1,r.mvd]
 ·rw [if_neg c1]
  by_cases c2:b=rw_
  ·rw [if_pos c2,if_neg (fun z=>n1 (z.symm.trans c2)),c2,r.row]
  ·rw [if_neg c2]
theorem qi.fin {C:Addr}{M:MH}{p rw_ mv:Addr}{s:ES}{ms:List Int}(r:qi C M p rw_ mv s ms)(s':ES)(ms':List Int)(d:Dat):vi M (rmP C M p rw_ mv s' ms') (.d d) (.d d) (rmP C M p rw_ mv s' ms'):=by
 have t:=r.to s' ms'
 refine ⟨fun q=>.inl rfl,fun q o e=>?_,.inl ⟨rfl,fun p z=>nomatch z⟩⟩
 by_cases c1:q=mv
 ·rw [c1,t.mvd] at e
  cases e
  exact .inr fun z hz=>absurd hz (xI (ds:=ms'.map .int) (qy _) z)
 ·by_cases c2:q=rw_
  ·rw [c2,t.row] at e
   cases e
   refine .inr fun z hz=>?_
   obtain ⟨x,_,hx⟩:=List.mem_map.mp (show AV.ref z ∈ s'.1.map cA from hz)
   cases x <;> cases hx
  ·by_cases c3:q=p
   ·rw [c3,t.ins] at e
    cases e
    refine .inr fun z hz=>?_
    have hz:AV.ref z ∈ [AV.ref rw_,cA s'.2,AV.ref mv]:=hz
    simp only [List.mem_cons,List.not_mem_nil,or_false] at hz
    rcases hz with hz | hz | hz
    ·cases hz;rw [t.row];exact fun z=>nomatch z
    ·cases h:s'.2 <;> rw [h] at hz <;> cases hz
    ·cases hz;rw [t.mvd];exact fun z=>nomatch z
   ·refine .inl ?_
    unfold rmP at e
    rw [zu c1,zu c2,zu c3] at e
    exact e
structure RTx (K:PySem.W.Frag)(C:Addr):Prop where
 cl:Cls K C
 nr:j4 K C "row"
 nh:j4 K C "hand"
 nm:j4 K C "moved"
noncomputable abbrev wrd (x:String):List (Str × V):=[("word",.str (Str.ofString x))]
noncomputable def fnW (vs:List V):List (Str × V):=[("word",vs.getD 0 .non)]
theorem ym {row:List (Option Int)}{a:Nat}(h:a<row.length):atI (row.map cA) (a:Int)=some (cA (row.getD a none))/\ixN (row.map cA).length (a:Int)=some a:=by
 have e:ixN (row.map cA).length (a:Int)=some a:=by rw [List.length_map,qD (by omega) (by omega),Int.toNat_natCast]
 refine ⟨?_,e⟩
 unfold atI
 rw [e]
 show (row.map cA)[a]?=_
 rw [List.getElem?_map,List.getElem?_eq_getElem h,List.getD_eq_getElem?_getD,List.getElem?_eq_getElem h];rfl
theorem wR {ms:List Int}{x:Int}(h0:0<=x)(h1:x<(ms.length:Int)):atI (ms.map fun i=>AV.d (.int i)) x=some (.d (.int (ms.getD x.toNat 0)))/\ixN (ms.map fun i=>AV.d (Dat.int i)).length x=some x.toNat:=by
 have hx:x.toNat<ms.length:=by omega
 have e:ixN (ms.map fun i=>AV.d (Dat.int i)).length x=some x.toNat:=by rw [List.length_map,qD h0 (by omega)]
 refine ⟨?_,e⟩
 unfold atI
 rw [e]
 show (ms.map fun i=>AV.d (Dat.int i))[x.toNat]?=_
 rw [List.getElem?_map,List.getElem?_eq_getElem hx,List.getD_eq_getElem?_getD,List.getElem?_eq_getElem hx];rfl
theorem Ab {ms:List Int}(x:Int):(ms.map fun i=>AV.d (.int i)).set x.toNat (.d (.int (ms.getD x.toNat 0+1)))=(kr ms x).map fun i=>AV.d (.int i):=by unfold kr;rw [List.map_set]
theorem Vm (row:List (Option Int))(a:Nat)(c:Option Int):(row.map cA).set a (cA c)=(row.set a c).map cA:=List.map_set.symm
theorem rz {M0 M' M'':MH}{E0:AXK}{cB:Addr}{w:Str}(f:vi M0 M' (.d .non) (.d .non) M'')(q:E0 cB [("word",.str w)] M''):∃ vs,[WJ (.d (.str w))]=List.map some vs/\vs.length=1/\1<=1000/\exA M0 E0 cB (fnW vs) M':=⟨[.str w],rfl,rfl,by decide,M'',f,q⟩
theorem qM (c:Option Int):jM (cA c)=c.isNone:=by cases c <;> rfl
noncomputable def Ad (C cB:Addr):xO:=fun xs M Q E=>∃ (p rw_ mv:Addr) (s:ES) (ms:List Int) (a:Nat),xs=[.ref p,.d (.int a)]/\qi C M p rw_ mv s ms/\a<s.1.length/\OkM s ms.length /\
 (∀ x,s.1.getD a none=some x->Q (.d (.int x)) (rmP C M p rw_ mv (s.1.set a none,s.2) (kr ms x)))/\(s.1.getD a none=none->E cB (wrd "empty") M)
noncomputable abbrev Jf:Stmt:=(ja (top 12) 6)
theorem XJ:zt ["self","a","thing"] ["self","a"] (ze Jf):=⟨rfl,rfl,rfl,by decide +kernel,rfl,by decide +kernel,by decide +kernel⟩
theorem W3 {C:Addr}(a:AtM K C "lift" "Room.lift" Jf)(R:RTx K C)(B:Blt mg){cBadDeed:Addr}(MX_BadDeed:MkX P w K mg base cBadDeed 1 1 fnW)(XG_BadDeed:mg "BadDeed"=some (.ref cBadDeed)):DmX P w K mg base C "lift" ["self","a"] 3 (jG (Ad C cBadDeed)):=by
 refine Ya (k:=2) a XJ (fun _ _ _ _ _ _=>Pn2_ fun _ _=>rfl) (fun xs M Q E h=>?_) (fun f cdv A outer s H HX OX MX E1 hr hD=>?_)
 ·obtain ⟨_,_,_,_,_,_,rfl,_⟩:=h;rfl
 have sc:=XJ
 have hsl:=hsl
 have CL:=R.cl
 refine ⟨_,(zc (zB (i:=2) sc.nd rfl (by first | exact Or.inl rfl | exact Or.inr rfl) (zx zD (qk (pv 0) rfl) (pv 1) (fun _ _=>rfl)))
  (zc (zJ (zl xf (pv 2) zS (zq _)) (zf (qF hD rfl MX_BadDeed hr rfl XG_BadDeed (za zm zb))) zr)
  (zc (qp zS (qz (qk (pv 0) rfl) (pv 1) zI))
  (zc (vw (qk (pv 0) rfl) (pv 2) xF zd ZK zI)
  (zf (zz (pv 2))))))),?_⟩
 refine exX (by walk_at "sim") ?_
 rintro xs Q E0 rfl ⟨p,rw_,mv,⟨row,hd⟩,ms,a,rfl,r,ha,ok,q,qe⟩
 rw [show zQ ["self","a","thing"] [.ref p,.d (.int a)]=[some (.ref p),some (.d (.int a)),none] from rfl]
 refine zg fun r1 hr1=>?_
 walk_at "ra"
 obtain ⟨c1,c2⟩:=ym ha
 refine ⟨_,_,r.ins,R.cl,R.nr,_,rfl,_,qc r.row,_,c1,?_⟩
 subst hr1
 refine zg fun r1 hr1=>?_
 walk_at "ra"
 cases hx:row.getD a none with
 | none=>
  rw [if_pos (by rw [qM];rfl)]
  exact rz (qB Fr.refl .non) (qe hx)
 | some x=>
  rw [if_neg (by rw [qM];exact fun z=>nomatch z)]
  subst hr1
  obtain ⟨x0,x1⟩:=ok.1 x (by rw [List.getD_eq_getElem?_getD,List.getElem?_eq_getElem ha] at hx;rw [<- hx];exact List.getElem_mem ha)
  obtain ⟨m1,m2⟩:=wR x0 x1
  show kH _ _ _ _ _ _
  rw [show cA (some x)=.d (.int x) from rfl]
  refine zg fun r1 hr1=>?_
  walk_at "ra"
  refine ⟨_,_,r.ins,R.cl,R.nr,_,rfl,_,rfl,_,r.row,_,c2,?_⟩
  rw [show (row.map cA).set a (.d .non)=(row.set a none).map cA from Vm row a none,r.setRow]
  have r2:=r.to (row.set a none,hd) ms
  subst hr1
  walk_at "ra"
  refine ⟨_,_,r2.ins,R.cl,R.nm,_,rfl,_,ji r2.mvd,_,m1,_,rfl,_,rfl,_,r2.mvd,_,m2,?_⟩
  rw [Ab,r2.setMv,r.again]
  exact ⟨_,_,r.fin _ _ (.int x),q x hx⟩
theorem XF {s:ES}{n:Nat}(ok:OkM s n){a:Nat}{x:Int}(ha:a<s.1.length)(h:s.1.getD a none=some x):0<=x/\x<(n:Int):=ok.1 x (by rw [List.getD_eq_getElem?_getD,List.getElem?_eq_getElem ha] at h;rw [<- h];exact List.getElem_mem ha)
noncomputable def Fa (C cB:Addr):xO:=fun xs M Q E=>∃ (p rw_ mv:Addr) (s:ES) (ms:List Int) (a b:Nat),xs=[.ref p,.d (.int a),.d (.int b)]/\qi C M p rw_ mv s ms/\a<s.1.length/\b<s.1.length/\OkM s ms.length /\
 (a=b->E cB (wrd "same") M)/\(a ≠ b->s.1.getD a none=none \/ s.1.getD b none=none->E cB (wrd "empty") M) /\
 (a ≠ b->∀ x y,s.1.getD a none=some x->s.1.getD b none=some y->Q (.d .non) (rmP C M p rw_ mv ((s.1.set a (some y)).set b (some x),s.2) (kr (kr ms x) y)))
noncomputable abbrev JI:Stmt:=(ja (top 12) 2)
theorem Xg:zt ["self","a","b","one","other"] ["self","a","b"] (ze JI):=⟨rfl,rfl,rfl,by decide +kernel,rfl,by decide +kernel,by decide +kernel⟩
theorem VY {C:Addr}(a:AtM K C "swap" "Room.swap" JI)(R:RTx K C)(B:Blt mg){cBadDeed:Addr}(MX_BadDeed:MkX P w K mg base cBadDeed 1 1 fnW)(XG_BadDeed:mg "BadDeed"=some (.ref cBadDeed)):DmX P w K mg base C "swap" ["self","a","b"] 3 (jG (Fa C cBadDeed)):=by
 refine Ya (k:=2) a Xg (fun _ _ _ _ _ _=>Pn3_ fun _ _ _=>rfl) (fun xs M Q E h=>?_) (fun f cdv A outer s H HX OX MX E1 hr hD=>?_)
 ·obtain ⟨_,_,_,_,_,_,_,rfl,_⟩:=h;rfl
 have sc:=Xg
 have hsl:=hsl
 have CL:=R.cl
 refine ⟨_,(zc (zJ (zl (zX hr.units) (pv 1) (pv 2) (zq _)) (zf (qF hD rfl MX_BadDeed hr rfl XG_BadDeed (za zm zb))) zr)
  (zc (zB (i:=3) sc.nd rfl (by first | exact Or.inl rfl | exact Or.inr rfl) (zx zD (qk (pv 0) rfl) (pv 1) (fun _ _=>rfl)))
  (zc (zB (i:=4) sc.nd rfl (by first | exact Or.inl rfl | exact Or.inr rfl) (zx zD (qk (pv 0) rfl) (pv 2) (fun _ _=>rfl)))
  (zc (zJ (PW.pt (kl (zl xf (pv 3) zS (zq _)) (ka (zl xf (pv 4) zS (zq _))))) (zf (qF hD rfl MX_BadDeed hr rfl XG_BadDeed (za zm zb))) zr)
  (zc (qp (pv 4) (qz (qk (pv 0) rfl) (pv 1) zI))
  (zc (qp (pv 3) (qz (qk (pv 0) rfl) (pv 2) zI))
  (zc (vw (qk (pv 0) rfl) (pv 3) xF zd ZK zI)
  (zf (vw (qk (pv 0) rfl) (pv 4) xF zd ZK zI))))))))),?_⟩
 refine exX (by walk_at "sim") ?_
 rintro xs Q E0 rfl ⟨p,rw_,mv,⟨row,hd⟩,ms,a,b,rfl,r,ha,hb,ok,qs,qe,q⟩
 rw [show zQ ["self","a","b","one","other"] [.ref p,.d (.int a),.d (.int b)]=[some (.ref p),some (.d (.int a)),some (.d (.int b)),none,none] from rfl]
 refine zg fun r1 hr1=>?_
 walk_at "ra"
 by_cases hab:a=b
 ·rw [if_pos (by rw [hab])]
  exact rz (qB Fr.refl .non) (qs hab)
 rw [if_neg (by omega)]
 subst hr1
 obtain ⟨c1,c2⟩:=ym ha
 obtain ⟨d1,d2⟩:=ym hb
 refine zg fun r1 hr1=>?_
 walk_at "ra"
 refine ⟨_,_,r.ins,R.cl,R.nr,_,rfl,_,qc r.row,_,c1,?_⟩
 subst hr1
 refine zg fun r1 hr1=>?_
 walk_at "ra"
 refine ⟨_,_,r.ins,R.cl,R.nr,_,rfl,_,qc r.row,_,d1,?_⟩
 subst hr1
 refine zg fun r1 hr1=>?_
 walk_at "ra"
 cases hx:row.getD a none with
 | none=>
  rw [if_pos (by rw [qM];rfl)]
  exact rz (qB Fr.refl .non) (qe hab (.inl hx))
 | some x=>
  rw [if_neg (by rw [qM];exact fun z=>nomatch z)]
  cases hy:row.getD b none with
  | none=>
   rw [if_pos (by rw [qM];rfl)]
   exact rz (qB Fr.refl .non) (qe hab (.inr hy))
  | some y=>
   rw [if_neg (by rw [qM];exact fun z=>nomatch z)]
   obtain ⟨x0,x1⟩:=XF ok ha hx
   obtain ⟨y0,y1⟩:=XF ok hb hy
   obtain ⟨m1,m2⟩:=wR x0 x1
   obtain ⟨n1,n2⟩:=wR (ms:=kr ms x) y0 (by rw [Qn];exact y1)
   subst hr1
   rw [show cA (some x)=.d (.int x) from rfl,show cA (some y)=.d (.int y) from rfl]
   refine zg fun r1 hr1=>?_
   walk_at "ra"
   refine ⟨_,_,r.ins,R.cl,R.nr,_,rfl,_,rfl,_,r.row,_,c2,?_⟩
   rw [show (row.map cA).set a (.d (.int y))=(row.set a (some y)).map cA from Vm row a (some y),r.setRow]
   have r2:=r.to (row.set a (some y),hd) ms
   subst hr1
   refine zg fun r1 hr1=>?_
   walk_at "ra"
   refine ⟨_,_,r2.ins,R.cl,R.nr,_,rfl,_,rfl,_,r2.row,b,by rw [List.length_map,List.length_set,qD (by omega) (by show (b:Int)<row.length;have:b<row.length:=hb;omega),Int.toNat_natCast],?_⟩
   rw [show ((row.set a (some y)).map cA).set b (.d (.int x))=((row.set a (some y)).set b (some x)).map cA from Vm _ b (some x),r2.setRow,r.again]
   have r3:=r.to ((row.set a (some y)).set b (some x),hd) ms
   subst hr1
   refine zg fun r1 hr1=>?_
   walk_at "ra"
   refine ⟨_,_,r3.ins,R.cl,R.nm,_,rfl,_,ji r3.mvd,_,m1,_,rfl,_,rfl,_,r3.mvd,_,m2,?_⟩
   rw [Ab,r3.setMv,r.again]
   have r4:=r.to ((row.set a (some y)).set b (some x),hd) (kr ms x)
   subst hr1
   walk_at "ra"
   refine ⟨_,_,r4.ins,R.cl,R.nm,_,rfl,_,ji r4.mvd,_,n1,_,rfl,_,rfl,_,r4.mvd,_,n2,?_⟩
   rw [Ab,r4.setMv,r.again]
   exact ⟨_,_,r.fin _ _ .non,q hab x y hx hy⟩
theorem Qm {a b c y:AV}:xM (Str.ofString "hand") y [(Str.ofString "row",a),(Str.ofString "hand",b),(Str.ofString "moved",c)]=[(Str.ofString "row",a),(Str.ofString "hand",y),(Str.ofString "moved",c)]:=by
 unfold xM;rw [if_neg (by decide +kernel)];unfold xM;rw [if_pos rfl]
noncomputable def V2 (C cB:Addr):xO:=fun xs M Q E=>∃ (p rw_ mv:Addr) (s:ES) (ms:List Int) (a:Nat),xs=[.ref p,.d (.int a)]/\qi C M p rw_ mv s ms/\a<s.1.length/\OkM s ms.length /\
 (s.2 ≠ none->E cB (wrd "full") M)/\(s.2=none->s.1.getD a none=none->E cB (wrd "empty") M) /\
 (s.2=none->∀ x,s.1.getD a none=some x->Q (.d .non) (rmP C M p rw_ mv (s.1.set a none,some x) (kr ms x)))
noncomputable abbrev Z5:Stmt:=(ja (top 12) 3)
theorem Qb:zt ["self","a"] ["self","a"] (ze Z5):=⟨rfl,rfl,rfl,by decide +kernel,rfl,by decide +kernel,by decide +kernel⟩
theorem Yc {C:Addr}(a:AtM K C "take" "Room.take" Z5)(R:RTx K C)(B:Blt mg){cBadDeed:Addr}(MX_BadDeed:MkX P w K mg base cBadDeed 2 1 fnW)(XG_BadDeed:mg "BadDeed"=some (.ref cBadDeed))(DM_lift:DmX P w K mg base C "lift" ["self","a"] 3 (jG (Ad C cBadDeed))):DmX P w K mg base C "take" ["self","a"] 4 (jG (V2 C cBadDeed)):=by
 refine Ya (k:=3) a Qb (fun _ _ _ _ _ _=>Pn2_ fun _ _=>rfl) (fun xs M Q E h=>?_) (fun f cdv A outer s H HX OX MX E1 hr hD=>?_)
 ·obtain ⟨_,_,_,_,_,_,rfl,_⟩:=h;rfl
 have sc:=Qb
 have hsl:=hsl
 have CL:=R.cl
 refine ⟨_,(zc (zJ (zl jm (qk (pv 0) rfl) zS (zq _)) (zf (qF hD rfl MX_BadDeed hr rfl XG_BadDeed (za zm zb))) zr)
  (zf (vZ (pv 0) (xY CL DM_lift hr hD.passX (pv 0) (za (pv 1) zb)) rfl))),?_⟩
 refine exX (by walk_at "sim") ?_
 rintro xs Q E0 rfl ⟨p,rw_,mv,⟨row,hd⟩,ms,a,rfl,r,ha,ok,qf,qe,q⟩
 rw [show zQ ["self","a"] [.ref p,.d (.int a)]=[some (.ref p),some (.d (.int a))] from rfl]
 refine zg fun r1 hr1=>?_
 walk_at "ra"
 refine ⟨_,_,r.ins,R.cl,R.nh,_,rfl,?_⟩
 cases hd with
 | some x=>
  rw [if_pos (by rw [qM];rfl)]
  exact rz (qB Fr.refl .non) (qf (fun z=>nomatch z))
 | none=>
  rw [if_neg (by rw [qM];exact fun z=>nomatch z)]
  subst hr1
  walk_at "ra"
  refine ⟨_,r.ins,rfl,p,rw_,mv,(row,none),ms,a,rfl,r,ha,ok,fun x hx=>?_,fun hx=>⟨_,qB Fr.refl .non,qe rfl hx⟩⟩
  have r2:=r.to (row.set a none,none) (kr ms x)
  refine ⟨_,_,r2.ins,R.cl,R.nh,Nat.lt_of_sub_eq_succ rfl,?_⟩
  rw [Qm,show AV.d (.int x)=cA (some x) from rfl,r2.setHand,r.again]
  exact ⟨_,_,r.fin _ _ .non,q rfl x hx⟩
noncomputable def FN (C cB:Addr):xO:=fun xs M Q E=>∃ (p rw_ mv:Addr) (s:ES) (ms:List Int) (a b:Nat),xs=[.ref p,.d (.int a),.d (.int b)]/\qi C M p rw_ mv s ms/\a<s.1.length/\b<s.1.length/\OkM s ms.length /\
 (a=b->E cB (wrd "same") M)/\(a ≠ b->s.1.getD b none ≠ none->E cB (wrd "full") M)/\(a ≠ b->s.1.getD b none=none->s.1.getD a none=none->E cB (wrd "empty") M) /\
 (a ≠ b->s.1.getD b none=none->∀ x,s.1.getD a none=some x->Q (.d .non) (rmP C M p rw_ mv ((s.1.set a none).set b (some x),s.2) (kr ms x)))
noncomputable abbrev Kb:Stmt:=(ja (top 12) 4)
theorem XO:zt ["self","a","b"] ["self","a","b"] (ze Kb):=⟨rfl,rfl,rfl,by decide +kernel,rfl,by decide +kernel,by decide +kernel⟩
theorem Aa {C:Addr}(a:AtM K C "move" "Room.move" Kb)(R:RTx K C)(B:Blt mg){cBadDeed:Addr}(MX_BadDeed:MkX P w K mg base cBadDeed 2 1 fnW)(XG_BadDeed:mg "BadDeed"=some (.ref cBadDeed))(DM_lift:DmX P w K mg base C "lift" ["self","a"] 3 (jG (Ad C cBadDeed))):DmX P w K mg base C "move" ["self","a","b"] 4 (jG (FN C cBadDeed)):=by
 refine Ya (k:=3) a XO (fun _ _ _ _ _ _=>Pn3_ fun _ _ _=>rfl) (fun xs M Q E h=>?_) (fun f cdv A outer s H HX OX MX E1 hr hD=>?_)
 ·obtain ⟨_,_,_,_,_,_,_,rfl,_⟩:=h;rfl
 have sc:=XO
 have hsl:=hsl
 have CL:=R.cl
 refine ⟨_,(zc (zJ (zl (zX hr.units) (pv 1) (pv 2) (zq _)) (zf (qF hD rfl MX_BadDeed hr rfl XG_BadDeed (za zm zb))) zr)
  (zc (zJ (zl jm (zx zD (qk (pv 0) rfl) (pv 2) (fun _ _=>rfl)) zS (zq _)) (zf (qF hD rfl MX_BadDeed hr rfl XG_BadDeed (za zm zb))) zr)
  (zf (qp (xY CL DM_lift hr hD.passX (pv 0) (za (pv 1) zb)) (qz (qk (pv 0) rfl) (pv 2) zI))))),?_⟩
 refine exX (by walk_at "sim") ?_
 rintro xs Q E0 rfl ⟨p,rw_,mv,⟨row,hd⟩,ms,a,b,rfl,r,ha,hb,ok,qs,qf,qe,q⟩
 rw [show zQ ["self","a","b"] [.ref p,.d (.int a),.d (.int b)]=[some (.ref p),some (.d (.int a)),some (.d (.int b))] from rfl]
 refine zg fun r1 hr1=>?_
 walk_at "ra"
 by_cases hab:a=b
 ·rw [if_pos (by rw [hab])]
  exact rz (qB Fr.refl .non) (qs hab)
 rw [if_neg (by omega)]
 subst hr1
 obtain ⟨d1,d2⟩:=ym hb
 refine zg fun r1 hr1=>?_
 walk_at "ra"
 refine ⟨_,_,r.ins,R.cl,R.nr,_,rfl,_,qc r.row,_,d1,?_⟩
 cases hy:row.getD b none with
 | some y=>
  rw [if_pos (by rw [qM];rfl)]
  exact rz (qB Fr.refl .non) (qf hab (by rw [hy];exact fun z=>nomatch z))
 | none=>
  rw [if_neg (by rw [qM];exact fun z=>nomatch z)]
  subst hr1
  walk_at "ra"
  refine ⟨_,r.ins,rfl,p,rw_,mv,(row,hd),ms,a,rfl,r,ha,ok,fun x hx=>?_,fun hx=>⟨_,qB Fr.refl .non,qe hab hy hx⟩⟩
  have r2:=r.to (row.set a none,hd) (kr ms x)
  refine ⟨_,_,r2.ins,R.cl,R.nr,_,rfl,_,rfl,_,r2.row,b,by rw [List.length_map,List.length_set,qD (by omega) (by show (b:Int)<row.length;have:b<row.length:=hb;omega),Int.toNat_natCast],?_⟩
  rw [show ((row.set a none).map cA).set b (.d (.int x))=((row.set a none).set b (some x)).map cA from Vm _ b (some x),r2.setRow,r.again]
  exact ⟨_,_,r.fin _ _ .non,q hab hy x hx⟩
noncomputable def Li (C cB:Addr):xO:=fun xs M Q E=>∃ (p rw_ mv:Addr) (s:ES) (ms:List Int) (b:Nat),xs=[.ref p,.d (.int b)]/\qi C M p rw_ mv s ms/\b<s.1.length/\OkM s ms.length /\
 (s.1.getD b none ≠ none->E cB (wrd "full") M)/\(s.1.getD b none=none->s.2=none->E cB (wrd "empty") M) /\
 (s.1.getD b none=none->∀ x,s.2=some x->Q (.d .non) (rmP C M p rw_ mv (s.1.set b (some x),none) (kr ms x)))
noncomputable abbrev Wk:Stmt:=(ja (top 12) 5)
theorem Bb:zt ["self","b"] ["self","b"] (ze Wk):=⟨rfl,rfl,rfl,by decide +kernel,rfl,by decide +kernel,by decide +kernel⟩
theorem Da {C:Addr}(a:AtM K C "lay" "Room.lay" Wk)(R:RTx K C)(B:Blt mg){cBadDeed:Addr}(MX_BadDeed:MkX P w K mg base cBadDeed 1 1 fnW)(XG_BadDeed:mg "BadDeed"=some (.ref cBadDeed)):DmX P w K mg base C "lay" ["self","b"] 3 (jG (Li C cBadDeed)):=by
 refine Ya (k:=2) a Bb (fun _ _ _ _ _ _=>Pn2_ fun _ _=>rfl) (fun xs M Q E h=>?_) (fun f cdv A outer s H HX OX MX E1 hr hD=>?_)
 ·obtain ⟨_,_,_,_,_,_,rfl,_⟩:=h;rfl
 have sc:=Bb
 have hsl:=hsl
 have CL:=R.cl
 refine ⟨_,(zc (zJ (zl jm (zx zD (qk (pv 0) rfl) (pv 1) (fun _ _=>rfl)) zS (zq _)) (zf (qF hD rfl MX_BadDeed hr rfl XG_BadDeed (za zm zb))) zr)
  (zc (zJ (zl xf (qk (pv 0) rfl) zS (zq _)) (zf (qF hD rfl MX_BadDeed hr rfl XG_BadDeed (za zm zb))) zr)
  (zc (qp (qk (pv 0) rfl) (qz (qk (pv 0) rfl) (pv 1) zI))
  (zc (vw (qk (pv 0) rfl) (qk (pv 0) rfl) xF zd ZK zI)
  (zf (vZ (pv 0) zS rfl)))))),?_⟩
 refine exX (by walk_at "sim") ?_
 rintro xs Q E0 rfl ⟨p,rw_,mv,⟨row,hd⟩,ms,b,rfl,r,hb,ok,qf,qe,q⟩
 rw [show zQ ["self","b"] [.ref p,.d (.int b)]=[some (.ref p),some (.d (.int b))] from rfl]
 obtain ⟨d1,d2⟩:=ym hb
 refine zg fun r1 hr1=>?_
 walk_at "ra"
 refine ⟨_,_,r.ins,R.cl,R.nr,_,rfl,_,qc r.row,_,d1,?_⟩
 cases hy:row.getD b none with
 | some y=>
  rw [if_pos (by rw [qM];rfl)]
  exact rz (qB Fr.refl .non) (qf (by rw [hy];exact fun z=>nomatch z))
 | none=>
  rw [if_neg (by rw [qM];exact fun z=>nomatch z)]
  subst hr1
  refine zg fun r1 hr1=>?_
  walk_at "ra"
  refine ⟨_,_,r.ins,R.cl,R.nh,_,rfl,?_⟩
  cases hd with
  | none=>
   rw [if_pos (by rw [qM];rfl)]
   exact rz (qB Fr.refl .non) (qe hy rfl)
  | some x=>
   rw [if_neg (by rw [qM];exact fun z=>nomatch z)]
   obtain ⟨x0,x1⟩:=ok.2 x rfl
   obtain ⟨m1,m2⟩:=wR x0 x1
   subst hr1
   refine zg fun r1 hr1=>?_
   walk_at "ra"
   refine ⟨_,_,r.ins,R.cl,R.nh,_,rfl,_,_,r.ins,R.cl,R.nr,_,rfl,_,rfl,_,r.row,_,d2,?_⟩
   rw [show (row.map cA).set b (cA (some x))=(row.set b (some x)).map cA from Vm row b (some x),r.setRow]
   have r2:=r.to (row.set b (some x),some x) ms
   subst hr1
   refine zg fun r1 hr1=>?_
   walk_at "ra"
   refine ⟨_,_,r2.ins,R.cl,R.nm,_,rfl,_,_,r2.ins,R.cl,R.nh,_,rfl,_,ji r2.mvd,_,rfl,_,m1,_,rfl,_,rfl,_,_,rfl,r2.mvd,_,m2,?_⟩
   rw [Ab,r2.setMv,r.again]
   have r3:=r.to (row.set b (some x),some x) (kr ms x)
   subst hr1
   walk_at "ra"
   refine ⟨_,_,r3.ins,R.cl,R.nh,Nat.lt_of_sub_eq_succ rfl,?_⟩
   rw [Qm,show AV.d .non=cA none from rfl,r3.setHand,r.again]
   exact ⟨_,_,r.fin _ _ .non,q hy x rfl⟩
noncomputable abbrev xZ:Stmt:=top 6
theorem y6:zt ["thing","n"] ["thing","n"] (ze xZ):=⟨rfl,rfl,rfl,by decide +kernel,rfl,by decide +kernel,by decide +kernel⟩
noncomputable def zU (d:Dat)(n:Int):Bool:=match d with
 | .int i=>decide (0<=i/\i<n)
 | _=>false
noncomputable def yn:ASp:=fun xs M Q=>∃ (d:Dat) (n:Int),xs=[.d d,.d (.int n)]/\dp d<=100/\Q (.d (.bl (zU d n))) M
theorem yY (a:At K mg "is_place" xZ)(B:Blt mg):Df P w K mg base "is_place" ["thing","n"] 1 (cSp yn):=by
 refine dfA (k:=0) a y6 (fun _ _ _ _ _ _=>Pn2_ fun _ _=>rfl) (fun xs M Q h=>?_) (fun f cdv A outer s H E hr=>?_)
 ·obtain ⟨_,_,rfl,_⟩:=h;rfl
 have sc:=y6
 have hsl:=hsl
 refine ⟨_,(zc (zJ (PW.pt (kl (qR (zo qY rfl B.isinstance zK (za (pv 0) (za (qv (v:=.ty "bool") rfl B.bool Zk rfl) zb))) (fun _=>rfl)) (ka (jn (qR (zo qY rfl B.isinstance zK (za (pv 0) (za (qv (v:=.ty "int") rfl B.int vX rfl) zb))) (fun _=>rfl)))))) (zf (zz jo)) zr)
  (zf (zz (WX Fh E2 zd (pv 0) (pv 1))))),?_⟩
 refine ex2 (by walk_at "sim") ?_
 rintro xs M Q ⟨d,n,rfl,hd,q⟩
 rw [show zQ ["thing","n"] [.d d,.d (.int n)]=[some (.d d),some (.d (.int n))] from rfl]
 have fin:=fun b=>qB (M0:=M) Fr.refl (.bl b)
 cases d with
 | non=>walk_at "ra";exact ⟨_,_,fin _,q⟩
 | bl b=>walk_at "ra";exact ⟨_,_,fin _,q⟩
 | str b=>walk_at "ra";exact ⟨_,_,fin _,q⟩
 | lst b=>walk_at "ra";exact ⟨_,_,fin _,q⟩
 | tup b=>walk_at "ra";exact ⟨_,_,fin _,q⟩
 | int i=>
  walk_at "ra"
  have q:Q (.d (.bl (decide (0<=i/\i<n)))) M:=q
  by_cases c:0<=i
  ·rw [if_pos c]
   rw [show decide (0<=i/\i<n)=decide (i<n) by simp [c]] at q
   walk_at "ra"
   exact ⟨_,_,fin _,q⟩
  ·rw [if_neg c]
   rw [show decide (0<=i/\i<n)=false by simp [c]] at q
   walk_at "ra"
   exact ⟨_,_,fin _,q⟩
 | ty _=>rw [dp] at hd;omega
 | rng _ _ _=>rw [dp] at hd;omega
 | scr _ _=>rw [dp] at hd;omega
noncomputable abbrev Dy:List (Key × V):=[(Sum.inr (Str.ofString "swap"),.int 2),(Sum.inr (Str.ofString "take"),.int 1),(Sum.inr (Str.ofString "move"),.int 2),(Sum.inr (Str.ofString "lay"),.int 1)]
noncomputable def jk (w:Str):Option Int:=if w=Str.ofString "swap" then some 2 else if w=Str.ofString "take" then some 1 else if w=Str.ofString "move" then some 2 else if w=Str.ofString "lay" then some 1 else none
noncomputable def oD:Option Int->Dat
 | none=>.non
 | some x=>.int x
theorem F1 (w:Str):Bo ((vE Dy (Sum.inr w)).getD .non)=some (oD (jk w)):=by
 unfold jk vE
 by_cases c1:w=Str.ofString "swap"
 ·subst c1;rfl
 rw [if_neg c1]
 by_cases c2:w=Str.ofString "take"
 ·subst c2;rfl
 rw [if_neg c2]
 by_cases c3:w=Str.ofString "move"
 ·subst c3;rfl
 rw [if_neg c3]
 by_cases c4:w=Str.ofString "lay"
 ·subst c4;rfl
 rw [if_neg c4]
 have n:∀ x:Str,w ≠ x->¬ decide ((Sum.inr x:Key)=Sum.inr w)=true:=fun x h z=>h (Sum.inr.inj (of_decide_eq_true z)).symm
 simp only [List.find?_cons,n _ c1,n _ c2,n _ c3,n _ c4,List.find?_nil]
 rfl
theorem yg:∀ {l:List Dat} {n:Nat},dps l<=n->∀ d ∈ l,dp d<=n
 | a :: r,n,h,d,hd=>by
  rw [dps] at h
  rcases List.mem_cons.mp hd with rfl | hd
  ·omega
  ·exact yg (by omega) d hd
noncomputable def zY (x:Dat)(n:Int):Bool:=match x with
 | .tup (.str w :: ps)=>jk w == some (ps.length:Int) && ps.all (zU · n)
 | _=>false
noncomputable def Kv:ASp:=fun xs M Q=>∃ (x:Dat) (n:Int),xs=[.d x,.d (.int n)]/\dp x<=40/\(∀ l,x=.tup l->l.length<=1000)/\Q (.d (.bl (zY x n))) M
noncomputable abbrev vU:Stmt:=top 11
theorem wI:zt ["thing","n","word","part"] ["thing","n"] (ze vU):=⟨rfl,rfl,rfl,by decide +kernel,rfl,by decide +kernel,by decide +kernel⟩
theorem YC (a:At K mg "is_deed" vU)(B:Blt mg)(Ball:mg "all"=none)(D_is_place:Df P w K mg base "is_place" ["thing","n"] 1 (cSp yn)){pa:Addr}(KP:KD K w pa Dy)(MP:mg "PLACES_OF"=some (.ref pa)):Df P w K mg base "is_deed" ["thing","n"] 2 (cSp Kv):=by
 refine dfA (k:=1) a wI (fun _ _ _ _ _ _=>Pn2_ fun _ _=>rfl) (fun xs M Q h=>?_) (fun f cdv A outer s H E hr=>?_)
 ·obtain ⟨_,_,rfl,_⟩:=h;rfl
 have sc:=wI
 have hsl:=hsl
 refine ⟨_,(zc (zJ (PW.pt (kl (jn (qR (zo qY rfl B.isinstance zK (za (pv 0) (za (qv (v:=.ty "tuple") rfl B.tuple qE rfl) zb))) (fun _=>rfl))) (ka (zl (zX hr.units) (zo zp rfl B.len qd (za (pv 0) zb)) zd (zq _))))) (zf (zz jo)) zr)
  (zc (zB (i:=2) sc.nd rfl (by first | exact Or.inl rfl | exact Or.inr rfl) (zx zD (pv 0) zd (fun _ _=>rfl)))
  (zc (zJ (PW.pt (kl (jn (qR (zo qY rfl B.isinstance zK (za (pv 2) (za (qv (v:=.ty "str") rfl B.str Zr rfl) zb))) (fun _=>rfl))) (ka (zl (j8 hr.units) (Dj KP rfl MP (pv 2) ⟨rfl,rfl,rfl,rfl⟩) (zv kJ (zo zp rfl B.len qd (za (pv 0) zb)) zd) (zq _))))) (zf (zz jo)) zr)
  (zf (zz (zo (X6 rfl) rfl Ball FW (za (yb (ts:=[3]) rfl rfl (vb (zR yC (pv 0) (zO zd) qg)) (fun _ _ _ _=>(zF (i:=3) sc.nd rfl (by first | exact Or.inl rfl | exact Or.inr rfl))) (fun _ _ _ _=>xv) (fun _ _ _ _=>(zP D_is_place hr rfl (za (pv 3) (za (pv 1) zb))))) zb))))))),?_⟩
 refine ex2 (by walk_at "sim") ?_
 rintro xs M Q ⟨x,n,rfl,hd,hl,q⟩
 rw [show zQ ["thing","n","word","part"] [.d x,.d (.int n)]=[some (.d x),some (.d (.int n)),none,none] from rfl]
 have fin:=fun b=>qB (M0:=M) Fr.refl (.bl b)
 refine zg fun r1 hr1=>?_
 cases x with
 | non=>walk_at "ra";exact ⟨_,_,fin _,q⟩
 | bl b=>walk_at "ra";exact ⟨_,_,fin _,q⟩
 | str b=>walk_at "ra";exact ⟨_,_,fin _,q⟩
 | lst b=>walk_at "ra";exact ⟨_,_,fin _,q⟩
 | int i=>walk_at "ra";exact ⟨_,_,fin _,q⟩
 | ty _=>rw [dp] at hd;omega
 | rng _ _ _=>rw [dp] at hd;omega
 | scr _ _=>rw [dp] at hd;omega
 | tup l=>
  have hl:=hl l rfl
  walk_at "ra"
  cases l with
  | nil=>walk_at "ra";exact ⟨_,_,fin _,q⟩
  | cons w ps=>
   rw [if_neg (by rw [List.length_cons];omega)]
   subst hr1
   refine zg fun r1 hr1=>?_
   walk_at "ra"
   have a0:atI (AV.d w :: ps.map AV.d) 0=some (.d w):=by
    unfold atI
    rw [qD (by omega) (by rw [List.length_cons];omega)]
    rfl
   refine ⟨_,a0,?_⟩
   have dw:dps (w :: ps)<=39:=by rw [dp] at hd;omega
   have dwi:∀ d ∈ w :: ps,dp d<=39:=yg dw
   subst hr1
   refine zg fun r1 hr1=>?_
   have no:(∀ t,w ≠ .str t)->Q (.d (.bl false)) M:=fun h=>by
    have e:zY (.tup (w :: ps)) n=false:=by
     unfold zY
     split
     ·rename_i w' ps' z
      cases z
      exact absurd rfl (h _)
     ·rfl
    rw [e] at q;exact q
   have dpw:=dwi w List.mem_cons_self
   cases w with
   | non=>walk_at "ra";exact ⟨_,_,fin _,no fun _ z=>nomatch z⟩
   | bl b=>walk_at "ra";exact ⟨_,_,fin _,no fun _ z=>nomatch z⟩
   | lst b=>walk_at "ra";exact ⟨_,_,fin _,no fun _ z=>nomatch z⟩
   | tup b=>walk_at "ra";exact ⟨_,_,fin _,no fun _ z=>nomatch z⟩
   | int i=>walk_at "ra";exact ⟨_,_,fin _,no fun _ z=>nomatch z⟩
   | ty _=>rw [dp] at dpw;omega
   | rng _ _ _=>rw [dp] at dpw;omega
   | scr _ _=>rw [dp] at dpw;omega
   | str t=>
    walk_at "ra"
    refine ⟨_,F1 t,?_,?_⟩
    ·cases jk t <;> simp [oD,dp]
    have ee:eqD (oD (jk t)) (.int (((ps.length+1:Nat):Int) - 1))=(jk t == some (ps.length:Int)):=by
     cases jk t with
     | none=>show eqD .non (.int _)=_;rw [WK];rfl
     | some k=>
      show eqD (.int k) (.int _)=_
      rw [wf,show ((ps.length+1:Nat):Int) - 1=ps.length by omega]
      by_cases c:k=(ps.length:Int)
      ·simp [c]
      ·simp [c]
    rw [ee]
    have q:Q (.d (.bl (jk t == some (ps.length:Int) && ps.all (zU · n)))) M:=q
    cases hp:jk t == some (ps.length:Int) with
    | false=>
     rw [if_pos rfl]
     rw [hp,Bool.false_and] at q
     exact ⟨_,_,fin _,q⟩
    | true=>
     rw [if_neg (fun z=>nomatch z)]
     rw [hp,Bool.true_and] at q
     subst hr1
     walk_at "ra"
     have ec:jO (Dat.str t :: ps) (some 1) none=ps:=by
      rw [show (some 1:Option Int)=some ((1:Nat):Int) from rfl,yK];rfl
     rw [ec]
     refine ⟨?_,?_⟩
     ·rintro ⟨z,_⟩
      unfold HT.sIx at z
      simp at z
      try omega
     refine JG (fun (o:Option AV)=>[some (.d (.tup (.str t :: ps))),some (.d (.int n)),some (.d (.str t)),o]) (fun x=>match x with | .d d=>.d (.bl (zU d n)) | x=>x) ⟨_,rfl⟩ trivial (by rw [List.length_map];rw [List.length_cons] at hl;omega) (fun o x Q hx q=>?_) fun o=>?_
     ·obtain ⟨d,hd,rfl⟩:=List.mem_map.mp hx
      walk_at "ra"
      exact ⟨d,n,rfl,by have:=dwi d (List.mem_cons_of_mem _ hd);omega,q (some (.d d))⟩
     ·refine ⟨ps.map fun d=>.bl (zU d n),by rw [List.map_map,<- zV (ps.map fun d=>.bl (zU d n)),List.map_map];rfl,ps.map (zU · n),by rw [List.map_map,List.map_map];rfl,?_⟩
      rw [List.all_map]
      exact ⟨_,_,fin _,q⟩
theorem Y3 {K:PySem.W.Frag}{w:World}{pa:Addr}{t1 t2 t3 t4 u1 u2 u3 u4:Tok}{ep:Nat}(lP:K.lookup pa=some ⟨.type "dict",none,.dict #[⟨hashStr w "swap",.str "swap" t1,.int 2 u1⟩,⟨hashStr w "take",.str "take" t2,.int 1 u2⟩,⟨hashStr w "move",.str "move" t3,.int 2 u3⟩,⟨hashStr w "lay",.str "lay" t4,.int 1 u4⟩] ep,#[]⟩)(nP:(pa == sysModules)=false):KD K w pa Dy:=by
 refine ⟨⟨_,_,lP,fun P=>?_⟩,nP⟩
 refine ⟨fun e he=>?_,[(Sum.inr "swap",.int 2 u1),(Sum.inr "take",.int 1 u2),(Sum.inr "move",.int 2 u3),(Sum.inr "lay",.int 1 u4)],?_,?_,by show ([Sum.inr (Str.ofString "swap"),Sum.inr (Str.ofString "take"),Sum.inr (Str.ofString "move"),Sum.inr (Str.ofString "lay")]:List Key).Nodup;decide +kernel⟩
 ·have he:e ∈ [_,_,_,_]:=Array.mem_toList_iff.mpr he
  rcases List.mem_cons.mp he with z | he
  ·exact ⟨Sum.inr "swap",by rw [z];rfl,by rw [z];rfl⟩
  rcases List.mem_cons.mp he with z | he
  ·exact ⟨Sum.inr "take",by rw [z];rfl,by rw [z];rfl⟩
  rcases List.mem_cons.mp he with z | he
  ·exact ⟨Sum.inr "move",by rw [z];rfl,by rw [z];rfl⟩
  rw [List.mem_singleton.mp he]
  exact ⟨Sum.inr "lay",rfl,rfl⟩
 ·exact .cons ⟨rfl,_,rfl⟩ (.cons ⟨rfl,_,rfl⟩ (.cons ⟨rfl,_,rfl⟩ (.cons ⟨rfl,_,rfl⟩ .nil)))
 ·exact .cons rfl rfl (.cons rfl rfl (.cons rfl rfl (.cons rfl rfl .nil)))
noncomputable def OkX (x:Dat):Prop:=dp x<=40/\∀ l,x=.tup l->l.length<=1000
noncomputable def OkP (x:Dat):Prop:=dp x<=41/\∀ l,(x=.tup l \/ x=.lst l)->l.length<=1000/\∀ d ∈ l,OkX d
structure OkS (x:Dat):Prop where
 d:dp x<=5
 s:Sh 500 x
 p:OkP x
theorem Bs {x:Dat}(hd:dp x<=5)(h:∀ l,(x=.tup l \/ x=.lst l)->l.length<=1000/\∀ d ∈ l,∀ l',d=.tup l'->l'.length<=1000):OkP x:=by
 refine ⟨by omega,fun l hl=>⟨(h l hl).1,fun d hd'=>⟨?_,(h l hl).2 d hd'⟩⟩⟩
 have:dps l<=4:=by rcases hl with rfl | rfl <;> (rw [dp] at hd;omega)
 exact Nat.le_trans (yg this d hd') (by decide)
noncomputable abbrev RS:=ES × List Int
noncomputable def jg (s:ES)(ms:List Int)(a b:Nat):Except String RS:=if a=b then .error "same" else match s.1.getD a none,s.1.getD b none with
 | some x,some y=>.ok (((s.1.set a (some y)).set b (some x),s.2),kr (kr ms x) y)
 | _,_=>.error "empty"
noncomputable def qW (s:ES)(ms:List Int)(a b:Nat):Except String RS:=if a=b then .error "same" else match s.1.getD b none with
 | some _=>.error "full"
 | none=>match s.1.getD a none with
  | some x=>.ok (((s.1.set a none).set b (some x),s.2),kr ms x)
  | none=>.error "empty"
noncomputable def jh (s:ES)(ms:List Int)(a:Nat):Except String RS:=match s.2 with
 | some _=>.error "full"
 | none=>match s.1.getD a none with
  | some x=>.ok ((s.1.set a none,some x),kr ms x)
  | none=>.error "empty"
noncomputable def kO (s:ES)(ms:List Int)(b:Nat):Except String RS:=match s.1.getD b none with
 | some _=>.error "full"
 | none=>match s.2 with
  | some x=>.ok ((s.1.set b (some x),none),kr ms x)
  | none=>.error "empty"
noncomputable def iN:Dat->Nat
 | .int i=>i.toNat
 | _=>0
noncomputable def doR (s:ES)(ms:List Int)(x:Dat):Except String RS:=if zY x s.1.length=true then (match x with
  | .tup (.str w :: ps)=>if w=Str.ofString "swap" then jg s ms (iN (ps.getD 0 .non)) (iN (ps.getD 1 .non)) else if w=Str.ofString "take" then jh s ms (iN (ps.getD 0 .non)) else if w=Str.ofString "move" then qW s ms (iN (ps.getD 0 .non)) (iN (ps.getD 1 .non)) else kO s ms (iN (ps.getD 0 .non))
  | _=>.error "form") else .error "form"
theorem xB {x:Dat}{n:Nat}(h:zY x n=true):∃ (w:Str) (ps:List Dat),x=.tup (.str w :: ps)/\jk w=some (ps.length:Int)/\∀ d ∈ ps,∃ k:Nat,d=.int k/\k<n:=by
 unfold zY at h
 split at h
 ·rename_i w ps
  rw [Bool.and_eq_true] at h
  refine ⟨w,ps,rfl,eq_of_beq h.1,fun d hd=>?_⟩
  have:=List.all_eq_true.mp h.2 d hd
  cases d with
  | int i=>
   have:decide (0<=i/\i<(n:Int))=true:=this
   have:=of_decide_eq_true this
   exact ⟨i.toNat,by rw [Int.toNat_of_nonneg this.1],by omega⟩
  | _=>cases this
 ·cases h
theorem yE {w:Str}{ps:List Dat}{n:Nat}(h:jk w=some (ps.length:Int))(hp:∀ d ∈ ps,∃ k:Nat,d=.int k/\k<n)(hw:w=Str.ofString "swap" \/ w=Str.ofString "move"):∃ a b:Nat,ps=[.int a,.int b]/\a<n/\b<n:=by
 have e:jk w=some 2:=by rcases hw with rfl | rfl <;> rfl
 rw [e] at h
 have hl:ps.length=2:=by injection h with h;omega
 match ps,hl with
 | [x,y],_=>
  obtain ⟨a,rfl,ha⟩:=hp x (by simp)
  obtain ⟨b,rfl,hb⟩:=hp y (by simp)
  exact ⟨a,b,rfl,ha,hb⟩
theorem yz {w:Str}{ps:List Dat}{n:Nat}(h:jk w=some (ps.length:Int))(hp:∀ d ∈ ps,∃ k:Nat,d=.int k/\k<n)(h1:w ≠ Str.ofString "swap")(h2:w ≠ Str.ofString "move"):∃ a:Nat,ps=[.int a]/\a<n:=by
 have e:jk w=some 1 \/ jk w=none:=by
  unfold jk
  rw [if_neg h1]
  by_cases c:w=Str.ofString "take"
  ·rw [if_pos c];exact .inl rfl
  rw [if_neg c,if_neg h2]
  by_cases c:w=Str.ofString "lay"
  ·rw [if_pos c];exact .inl rfl
  rw [if_neg c];exact .inr rfl
 rcases e with e | e <;> rw [e] at h
 ·have hl:ps.length=1:=by injection h with h;omega
  match ps,hl with
  | [x],_=>
   obtain ⟨a,rfl,ha⟩:=hp x (by simp)
   exact ⟨a,rfl,ha⟩
 ·cases h
noncomputable def aDo (C cB:Addr):xO:=fun xs M Q E=>∃ (p rw_ mv:Addr) (s:ES) (ms:List Int) (x:Dat),xs=[.ref p,.d x]/\qi C M p rw_ mv s ms/\OkM s ms.length/\dp x<=40/\(∀ l,x=.tup l->l.length<=1000) /\
 (∀ w,doR s ms x=.error w->E cB (wrd w) M)/\(∀ t,doR s ms x=.ok t->Q (.d .non) (rmP C M p rw_ mv t.1 t.2))
noncomputable abbrev GU:Stmt:=(ja (top 12) 1)
theorem Fs:zt ["self","thing","word"] ["self","thing"] (ze GU):=⟨rfl,rfl,rfl,by decide +kernel,rfl,by decide +kernel,by decide +kernel⟩
theorem G0 {C:Addr}(a:AtM K C "do" "Room.do" GU)(R:RTx K C)(B:Blt mg){cBadDeed:Addr}(MX_BadDeed:MkX P w K mg base cBadDeed 3 1 fnW)(XG_BadDeed:mg "BadDeed"=some (.ref cBadDeed))(D_is_deed:Df P w K mg base "is_deed" ["thing","n"] 4 (cSp Kv))(DM_swap:DmX P w K mg base C "swap" ["self","a","b"] 4 (jG (Fa C cBadDeed)))(DM_take:DmX P w K mg base C "take" ["self","a"] 4 (jG (V2 C cBadDeed)))(DM_move:DmX P w K mg base C "move" ["self","a","b"] 4 (jG (FN C cBadDeed)))(DM_lay:DmX P w K mg base C "lay" ["self","b"] 4 (jG (Li C cBadDeed))):DmX P w K mg base C "do" ["self","thing"] 5 (jG (aDo C cBadDeed)):=by
 refine Ya (k:=4) a Fs (fun _ _ _ _ _ _=>Pn2_ fun _ _=>rfl) (fun xs M Q E h=>?_) (fun f cdv A outer s H HX OX MX E1 hr hD=>?_)
 ·obtain ⟨_,_,_,_,_,_,rfl,_⟩:=h;rfl
 have sc:=Fs
 have hsl:=hsl
 have CL:=R.cl
 refine ⟨_,(zc (zJ (jn (qR (zP D_is_deed hr rfl (za (pv 1) (za (zo zp rfl B.len qd (za (qk (pv 0) rfl) zb)) zb))) (fun _=>rfl))) (zf (qF hD rfl MX_BadDeed hr rfl XG_BadDeed (za zm zb))) zr)
  (zc (zB (i:=2) sc.nd rfl (by first | exact Or.inl rfl | exact Or.inr rfl) (zx zD (pv 1) zd (fun _ _=>rfl)))
  (zf (zJ (zl (zX hr.units) (pv 2) zm (zq _)) (zf (jb (xY CL DM_swap hr hD.passX (pv 0) (za (zx zD (pv 1) zd (fun _ _=>rfl)) (za (zx zD (pv 1) zd (fun _ _=>rfl)) zb))))) (zf (zJ (zl (zX hr.units) (pv 2) zm (zq _)) (zf (jb (xY CL DM_take hr hD.passX (pv 0) (za (zx zD (pv 1) zd (fun _ _=>rfl)) zb)))) (zf (zJ (zl (zX hr.units) (pv 2) zm (zq _)) (zf (jb (xY CL DM_move hr hD.passX (pv 0) (za (zx zD (pv 1) zd (fun _ _=>rfl)) (za (zx zD (pv 1) zd (fun _ _=>rfl)) zb))))) (zf (jb (xY CL DM_lay hr hD.passX (pv 0) (za (zx zD (pv 1) zd (fun _ _=>rfl)) zb)))))))))))),?_⟩
 refine exX (by walk_at "sim") ?_
 rintro xs Q E0 rfl ⟨p,rw_,mv,⟨row,hd⟩,ms,x,rfl,r,ok,hdp,hl,qe,q⟩
 rw [show zQ ["self","thing","word"] [.ref p,.d x]=[some (.ref p),some (.d x),none] from rfl]
 refine zg fun r1 hr1=>?_
 walk_at "ra"
 refine ⟨_,_,r.ins,R.cl,R.nr,_,rfl,_,qc r.row,x,row.length,by rw [List.length_map],hdp,hl,_,rfl,?_⟩
 cases hf:zY x row.length with
 | false=>
  rw [if_pos rfl]
  exact rz (qB Fr.refl .non) (qe "form" (by unfold doR;rw [if_neg (by show ¬ zY x row.length=true;rw [hf];exact fun z=>nomatch z)]))
 | true=>
  rw [if_neg (fun z=>nomatch z)]
  obtain ⟨w,ps,rfl,hpl,hps⟩:=xB hf
  have ed:doR (row,hd) ms (.tup (.str w :: ps))=if w=Str.ofString "swap" then jg (row,hd) ms (iN (ps.getD 0 .non)) (iN (ps.getD 1 .non)) else if w=Str.ofString "take" then jh (row,hd) ms (iN (ps.getD 0 .non)) else if w=Str.ofString "move" then qW (row,hd) ms (iN (ps.getD 0 .non)) (iN (ps.getD 1 .non)) else kO (row,hd) ms (iN (ps.getD 0 .non)):=by
   unfold doR;rw [if_pos (show zY (.tup (.str w :: ps)) row.length=true from hf)]
  rw [ed] at qe q
  subst hr1
  refine zg fun r1 hr1=>?_
  walk_at "ra"
  have a0:atI (AV.d (.str w) :: ps.map AV.d) 0=some (.d (.str w)):=by
   unfold atI
   rw [qD (by omega) (by rw [List.length_cons];omega)]
   rfl
  refine ⟨_,a0,?_⟩
  subst hr1
  walk_at "ra"
  have f0:=qB (M0:=MX) Fr.refl .non
  by_cases w1:w=Str.ofString "swap"
  ·rw [if_pos w1] at qe q ⊢
   obtain ⟨a,b,rfl,ha,hb⟩:=yE hpl hps (.inl w1)
   have qe:∀ w,jg (row,hd) ms a b=.error w->E0 cBadDeed (wrd w) MX:=qe
   have q:∀ t,jg (row,hd) ms a b=.ok t->Q (.d .non) (rmP C MX p rw_ mv t.1 t.2):=q
   refine ⟨_,r.ins,rfl,_,rfl,_,rfl,p,rw_,mv,(row,hd),ms,a,b,rfl,r,ha,hb,ok,fun hab=>⟨_,f0,qe "same" (by unfold jg;rw [if_pos hab])⟩,fun hab hh=>⟨_,f0,qe "empty" ?_⟩,fun hab x y hx hy=>⟨_,_,r.fin _ _ .non,q (_,_) ?_⟩⟩
   ·unfold jg
    rw [if_neg hab]
    dsimp only at hh ⊢
    rcases hh with hh | hh
    ·rw [hh]
    ·rw [hh];cases row.getD a none <;> rfl
   ·unfold jg
    rw [if_neg hab]
    dsimp only at hx hy ⊢
    rw [hx,hy];rfl
  rw [if_neg w1] at qe q ⊢
  by_cases w2:w=Str.ofString "take"
  ·rw [if_pos w2] at qe q ⊢
   obtain ⟨a,rfl,ha⟩:=yz hpl hps w1 (by rw [w2];decide +kernel)
   have qe:∀ w,jh (row,hd) ms a=.error w->E0 cBadDeed (wrd w) MX:=qe
   have q:∀ t,jh (row,hd) ms a=.ok t->Q (.d .non) (rmP C MX p rw_ mv t.1 t.2):=q
   refine ⟨_,r.ins,rfl,_,rfl,p,rw_,mv,(row,hd),ms,a,rfl,r,ha,ok,fun hh=>⟨_,f0,qe "full" ?_⟩,fun hh hx=>⟨_,f0,qe "empty" ?_⟩,fun hh x hx=>⟨_,_,r.fin _ _ .non,q (_,_) ?_⟩⟩
   ·unfold jh
    cases hd with
    | none=>exact absurd rfl hh
    | some y=>rfl
   ·unfold jh
    dsimp only at hh hx ⊢
    rw [hh];dsimp only;rw [hx]
   ·unfold jh
    dsimp only at hh hx ⊢
    rw [hh];dsimp only;rw [hx];rfl
  rw [if_neg w2] at qe q ⊢
  by_cases w3:w=Str.ofString "move"
  ·rw [if_pos w3] at qe q ⊢
   obtain ⟨a,b,rfl,ha,hb⟩:=yE hpl hps (.inr w3)
   have qe:∀ w,qW (row,hd) ms a b=.error w->E0 cBadDeed (wrd w) MX:=qe
   have q:∀ t,qW (row,hd) ms a b=.ok t->Q (.d .non) (rmP C MX p rw_ mv t.1 t.2):=q
   refine ⟨_,r.ins,rfl,_,rfl,_,rfl,p,rw_,mv,(row,hd),ms,a,b,rfl,r,ha,hb,ok,fun hab=>⟨_,f0,qe "same" (by unfold qW;rw [if_pos hab])⟩,fun hab hh=>⟨_,f0,qe "full" ?_⟩,fun hab hb' hx=>⟨_,f0,qe "empty" ?_⟩,fun hab hb' x hx=>⟨_,_,r.fin _ _ .non,q (_,_) ?_⟩⟩
   ·unfold qW
    rw [if_neg hab]
    dsimp only at hh ⊢
    cases z:row.getD b none with
    | none=>exact absurd z hh
    | some y=>rfl
   ·unfold qW
    rw [if_neg hab]
    dsimp only at hb' hx ⊢
    rw [hb'];dsimp only;rw [hx]
   ·unfold qW
    rw [if_neg hab]
    dsimp only at hb' hx ⊢
    rw [hb'];dsimp only;rw [hx];rfl
  rw [if_neg w3] at qe q ⊢
  obtain ⟨b,rfl,hb⟩:=yz hpl hps w1 w3
  have qe:∀ w,kO (row,hd) ms b=.error w->E0 cBadDeed (wrd w) MX:=qe
  have q:∀ t,kO (row,hd) ms b=.ok t->Q (.d .non) (rmP C MX p rw_ mv t.1 t.2):=q
  refine ⟨_,r.ins,rfl,_,rfl,p,rw_,mv,(row,hd),ms,b,rfl,r,hb,ok,fun hh=>⟨_,f0,qe "full" ?_⟩,fun hh hx=>⟨_,f0,qe "empty" ?_⟩,fun hh x hx=>⟨_,_,r.fin _ _ .non,q (_,_) ?_⟩⟩
  ·unfold kO
   dsimp only at hh ⊢
   cases z:row.getD b none with
   | none=>exact absurd z hh
   | some y=>rfl
  ·unfold kO
   dsimp only at hh hx ⊢
   rw [hh];dsimp only;rw [hx]
  ·unfold kO
   dsimp only at hh hx ⊢
   rw [hh];dsimp only;rw [hx];rfl
theorem FG (c:Option Int):cA c=.d (oD c):=by cases c <;> rfl
theorem DU (row:List (Option Int)):pur (row.map cA)=some (row.map oD):=by
 rw [show row.map cA=(row.map oD).map AV.d by rw [List.map_map];exact List.map_congr_left fun c _=>FG c,zV]
noncomputable def E3 (C:Addr):ASp:=fun xs M Q=>∃ (p rw_ mv:Addr) (s:ES) (ms:List Int),xs=[.ref p]/\qi C M p rw_ mv s ms/\s.1.length<=1000/\Q (.d (.tup (s.1.map oD))) M
noncomputable abbrev Q9:Stmt:=(ja (top 12) 7)
theorem Xi:zt ["self"] ["self"] (ze Q9):=⟨rfl,rfl,rfl,by decide +kernel,rfl,by decide +kernel,by decide +kernel⟩
theorem D9 {C:Addr}(a:AtM K C "row_now" "Room.row_now" Q9)(R:RTx K C)(B:Blt mg):Dm P w K mg base C "row_now" ["self"] 1 (cSp (E3 C)):=by
 refine dmA (k:=0) a Xi (fun _ _ _ _ _ _=>Pn1_ fun _=>rfl) (fun xs M Q h=>?_) (fun f cdv A outer s H E hr=>?_)
 ·obtain ⟨_,_,_,_,_,rfl,_⟩:=h;rfl
 have sc:=Xi
 have hsl:=hsl
 have CL:=R.cl
 refine ⟨_,(zf (zz (zC qt rfl B.tuple qE (za (qk (pv 0) rfl) zb)))),?_⟩
 refine ex2 (by walk_at "sim") ?_
 rintro xs M Q ⟨p,rw_,mv,⟨row,hd⟩,ms,rfl,r,hl,q⟩
 rw [show zQ ["self"] [.ref p]=[some (.ref p)] from rfl]
 walk_at "ra"
 refine ⟨_,_,r.ins,R.cl,R.nr,_,rfl,_,qc r.row,_,DU _,?_⟩
 exact ⟨_,_,qB Fr.refl _,q⟩
noncomputable def FD (C:Addr):ASp:=fun xs M Q=>∃ (p rw_ mv:Addr) (s:ES) (ms:List Int),xs=[.ref p]/\qi C M p rw_ mv s ms/\ms.length<=1000/\Q (.d (.tup (ms.map .int))) M
noncomputable abbrev JF:Stmt:=(ja (top 12) 9)
theorem KS:zt ["self"] ["self"] (ze JF):=⟨rfl,rfl,rfl,by decide +kernel,rfl,by decide +kernel,by decide +kernel⟩
theorem B4 {C:Addr}(a:AtM K C "moved_now" "Room.moved_now" JF)(R:RTx K C)(B:Blt mg):Dm P w K mg base C "moved_now" ["self"] 1 (cSp (FD C)):=by
 refine dmA (k:=0) a KS (fun _ _ _ _ _ _=>Pn1_ fun _=>rfl) (fun xs M Q h=>?_) (fun f cdv A outer s H E hr=>?_)
 ·obtain ⟨_,_,_,_,_,rfl,_⟩:=h;rfl
 have sc:=KS
 have hsl:=hsl
 have CL:=R.cl
 refine ⟨_,(zf (zz (zC qt rfl B.tuple qE (za (qk (pv 0) rfl) zb)))),?_⟩
 refine ex2 (by walk_at "sim") ?_
 rintro xs M Q ⟨p,rw_,mv,⟨row,hd⟩,ms,rfl,r,hl,q⟩
 rw [show zQ ["self"] [.ref p]=[some (.ref p)] from rfl]
 walk_at "ra"
 refine ⟨_,_,r.ins,R.cl,R.nm,_,rfl,_,qc r.mvd,_,qy _,?_⟩
 exact ⟨_,_,qB Fr.refl _,q⟩
noncomputable def E9 (C:Addr):ASp:=fun xs M Q=>∃ (p rw_ mv:Addr) (s:ES) (ms:List Int),xs=[.ref p]/\qi C M p rw_ mv s ms/\Q (.d (oD s.2)) M
noncomputable abbrev Jx:Stmt:=(ja (top 12) 8)
theorem Xs:zt ["self"] ["self"] (ze Jx):=⟨rfl,rfl,rfl,by decide +kernel,rfl,by decide +kernel,by decide +kernel⟩
theorem Eu {C:Addr}(a:AtM K C "hand_now" "Room.hand_now" Jx)(R:RTx K C)(B:Blt mg):Dm P w K mg base C "hand_now" ["self"] 1 (cSp (E9 C)):=by
 refine dmA (k:=0) a Xs (fun _ _ _ _ _ _=>Pn1_ fun _=>rfl) (fun xs M Q h=>?_) (fun f cdv A outer s H E hr=>?_)
 ·obtain ⟨_,_,_,_,_,rfl,_⟩:=h;rfl
 have sc:=Xs
 have hsl:=hsl
 have CL:=R.cl
 refine ⟨_,(zf (zz (qk (pv 0) rfl))),?_⟩
 refine ex2 (by walk_at "sim") ?_
 rintro xs M Q ⟨p,rw_,mv,⟨row,hd⟩,ms,rfl,r,q⟩
 rw [show zQ ["self"] [.ref p]=[some (.ref p)] from rfl]
 walk_at "ra"
 refine ⟨_,_,r.ins,R.cl,R.nh,_,rfl,?_⟩
 rw [FG]
 exact ⟨_,_,qB Fr.refl _,q⟩
theorem Qr {C:Addr}{M:MH}{p rw_ mv:Addr}{s':ES}{ms':List Int}(t:qi C (rmP C M p rw_ mv s' ms') p rw_ mv s' ms')(d:Dat):vi M (rmP C M p rw_ mv s' ms') (.d d) (.d d) (rmP C M p rw_ mv s' ms'):=by
 refine ⟨fun q=>.inl rfl,fun q o e=>?_,.inl ⟨rfl,fun p z=>nomatch z⟩⟩
 by_cases c1:q=mv
 ·rw [c1,t.mvd] at e
  cases e
  exact .inr fun z hz=>absurd hz (xI (ds:=ms'.map .int) (qy _) z)
 ·by_cases c2:q=rw_
  ·rw [c2,t.row] at e
   cases e
   refine .inr fun z hz=>?_
   obtain ⟨x,_,hx⟩:=List.mem_map.mp (show AV.ref z ∈ s'.1.map cA from hz)
   cases x <;> cases hx
  ·by_cases c3:q=p
   ·rw [c3,t.ins] at e
    cases e
    refine .inr fun z hz=>?_
    have hz:AV.ref z ∈ [AV.ref rw_,cA s'.2,AV.ref mv]:=hz
    simp only [List.mem_cons,List.not_mem_nil,or_false] at hz
    rcases hz with hz | hz | hz
    ·cases hz;rw [t.row];exact fun z=>nomatch z
    ·cases h:s'.2 <;> rw [h] at hz <;> cases hz
    ·cases hz;rw [t.mvd];exact fun z=>nomatch z
   ·refine .inl ?_
    unfold rmP at e
    rw [zu c1,zu c2,zu c3] at e
    exact e
theorem Yg {a b y:AV}:xM (Str.ofString "moved") y [(Str.ofString "row",a),(Str.ofString "hand",b)]=[(Str.ofString "row",a),(Str.ofString "hand",b),(Str.ofString "moved",y)]:=by
 unfold xM;rw [if_neg (by decide +kernel)];unfold xM;rw [if_neg (by decide +kernel)];unfold xM;rfl
noncomputable def A9 (C:Addr):ASp:=fun xs M Q=>∃ (p:Addr) (n:Nat),xs=[.ref p,.d (.int n)]/\M p=some (.ins C [])/\n<=1000 /\
 ∀ rw_ mv,M rw_=none->M mv=none->rw_ ≠ mv->rw_ ≠ p->mv ≠ p->Q (.d .non) (rmP C M p rw_ mv ((qa 0 1 n).map some,none) (List.replicate n 0))
noncomputable abbrev ZL:Stmt:=(ja (top 12) 0)
theorem Q5:zt ["self","n"] ["self","n"] (ze ZL):=⟨rfl,rfl,rfl,by decide +kernel,rfl,by decide +kernel,by decide +kernel⟩
theorem A7 {C:Addr}(a:AtM K C "__init__" "Room.__init__" ZL)(R:RTx K C)(B:Blt mg):Dm P w K mg base C "__init__" ["self","n"] 1 (cSp (A9 C)):=by
 refine dmA (k:=0) a Q5 (fun _ _ _ _ _ _=>Pn2_ fun _ _=>rfl) (fun xs M Q h=>?_) (fun f cdv A outer s H E hr=>?_)
 ·obtain ⟨_,_,rfl,_⟩:=h;rfl
 have sc:=Q5
 have hsl:=hsl
 have CL:=R.cl
 refine ⟨_,(zc (vZ (pv 0) (jF (zC (qZ rfl) rfl B.list qS (za (zC jz rfl B.range xq (za (pv 1) zb)) zb))) rfl)
  (zc (vZ (pv 0) zS rfl)
  (zf (vZ (pv 0) (jF (zv yM (zL (za zd zb)) (pv 1))) rfl)))),?_⟩
 refine ex2 (by walk_at "sim") ?_
 rintro xs M Q ⟨p,n,rfl,hp,hn,q⟩
 rw [show zQ ["self","n"] [.ref p,.d (.int n)]=[some (.ref p),some (.d (.int n))] from rfl]
 refine zg fun r1 hr1=>?_
 walk_at "ra"
 refine ⟨_,_,_,rfl,small_one (by omega) (by omega) (by omega) (by omega),n,by rw [rangeSize_one];split <;> omega,by omega,fun rw_ hrw _=>?_⟩
 have np:p ≠ rw_:=fun z=>by rw [z,hrw] at hp;cases hp
 refine ⟨C,[],by rw [zu np];exact hp,R.cl,R.nr,Nat.lt_of_sub_eq_succ rfl,?_⟩
 subst hr1
 refine zg fun r1 hr1=>?_
 walk_at "ra"
 refine ⟨_,_,zh,R.cl,R.nh,Nat.lt_of_sub_eq_succ rfl,?_⟩
 subst hr1
 walk_at "ra"
 rw [if_neg (show ¬ Str.ofString "row"=Str.ofString "hand" by decide +kernel)]
 refine ⟨by omega,by omega,by omega,by omega,fun mv hmv _=>?_⟩
 have n1:mv ≠ p:=fun z=>by rw [z,zh] at hmv;cases hmv
 rw [zu n1] at hmv
 have n2:mv ≠ rw_:=fun z=>by rw [z,zh] at hmv;cases hmv
 rw [zu n2] at hmv
 refine ⟨C,_,by rw [zu (Ne.symm n1),zh],R.cl,R.nm,Nat.lt_of_sub_eq_succ rfl,?_⟩
 rw [Yg,Jo,Int.toNat_natCast]
 have e1:(MO.lst ((qa 0 1 n).map fun i=>AV.d (.int i)))=Yp ((qa 0 1 n).map some):=by show MO.lst _=MO.lst _;rw [List.map_map];rfl
 have e2:MO.lst (List.replicate n (AV.d (.int 0)))=msA (List.replicate n 0):=by show MO.lst _=MO.lst _;rw [List.map_replicate]
 rw [e1,e2]
 have em:∀ (x y:MO),mup (mup (mup (mup M rw_ (Yp ((qa 0 1 n).map some))) p x) mv (msA (List.replicate n 0))) p (W2 C rw_ mv none)=rmP C M p rw_ mv ((qa 0 1 n).map some,none) (List.replicate n 0):=fun x _=>by
  funext b
  unfold rmP mup
  by_cases c1:b=mv
  ·have:¬ b=p:=fun z=>n1 (c1.symm.trans z)
   simp [c1,n1]
  ·by_cases c2:b=rw_
   ·have:¬ b=p:=fun z=>np (z.symm.trans c2)
    simp [c1,c2,Ne.symm np,Ne.symm n2]
   ·by_cases c3:b=p <;> simp [c1,c2,c3,np,Ne.symm n1]
 show rtA M Q (.d .non) (mup (mup (mup (mup M rw_ (Yp ((qa 0 1 n).map some))) p _) mv (msA (List.replicate n 0))) p (W2 C rw_ mv none))
 rw [em _ (.lst [])]
 have t:qi C (rmP C M p rw_ mv ((qa 0 1 n).map some,none) (List.replicate n 0)) p rw_ mv ((qa 0 1 n).map some,none) (List.replicate n 0):=by
  unfold rmP
  exact ⟨by rw [zu (Ne.symm n1),zu np,zh],by rw [zu (Ne.symm n2),zh],zh,Ne.symm n2⟩
 exact ⟨_,_,Qr t .non,q rw_ mv hrw hmv (Ne.symm n2) (Ne.symm np) n1⟩
theorem MkX.mono {C:Addr}{j k n:Nat}{fn:List V->List (Str × V)}(m:MkX P w K mg base C j n fn)(h:j<=k):MkX P w K mg base C k n fn:=
 let ⟨f,fd,ps,q,F,r⟩:=m
 ⟨f,fd,ps,q,F.mono h,r⟩
noncomputable abbrev wg:Stmt:=(ja (top 3) 0)
theorem wL:zt ["self","word"] ["self","word"] (ze wg):=⟨rfl,rfl,rfl,by decide +kernel,rfl,by decide +kernel,by decide +kernel⟩
theorem GV {C f:Addr}{fd:FuncData}(F:Fun K "__init__" "BadDeed.__init__" wg f fd)(q:j7 K C vG "ValueError.__new__" f=true)(hf:PySem.W.isFn K (.ref f)=true)(S:yr K C "word"):MkX P w K mg base C 1 1 fnW:=by
 refine BA (k:=0) F wL (fun _ _ _ _ _ _=>Pn2_ fun _ _=>rfl) q hf rfl (fun cdv A outer s H E=>?_)
 have sc:=wL
 refine ⟨_,(zf (yp (pv 0) (pv 1) rfl)),?_⟩
 intro a t0 us Q hl ha hq
 match us,hl with
 | [v],_=>
  show Q7 _ _ _ _ _ _ _
  refine ⟨v,rfl,.ref a,rfl,a,C,t0,rfl,S,.inl ⟨ha,fun dx hd hne=>hq dx hd hne⟩⟩
noncomputable def JQ (s:ES)(x:Dat):String:=match doR s [] x with
 | .error w=>w
 | .ok _=>""
theorem YT {s:ES}{x:Dat}(h:zY x s.1.length=false):JQ s x="form":=by
 unfold JQ doR
 rw [if_neg (by rw [h];exact fun z=>nomatch z)]
theorem ZS (t:Str)(l:List Str):inV (.str t) (l.map V.str)=decide (t ∈ l):=by
 induction l with
 | nil=>rfl
 | cons a l ih=>
  show (eqV (.str a) (.str t) || inV (.str t) (l.map V.str))=_
  rw [ih]
  show ((a == t) || decide (t ∈ l))=_
  by_cases c:a=t
  ·subst c;simp
  ·have:(a == t)=false:=by simpa using c
   rw [this,Bool.false_or]
   have na:t ≠ a:=fun z=>c z.symm
   simp [na]
theorem in4 (t:Str):inV (.str t) [.str (Str.ofString "swap"),.str (Str.ofString "take"),.str (Str.ofString "move"),.str (Str.ofString "lay")]=(jk t).isSome:=by
 rw [show [V.str (Str.ofString "swap"),.str (Str.ofString "take"),.str (Str.ofString "move"),.str (Str.ofString "lay")]=[Str.ofString "swap",Str.ofString "take",Str.ofString "move",Str.ofString "lay"].map V.str from rfl,ZS]
 unfold jk
 by_cases c1:t=Str.ofString "swap"
 ·simp [c1]
 by_cases c2:t=Str.ofString "take"
 ·simp [c2];split <;> rfl
 by_cases c3:t=Str.ofString "move"
 ·simp [c3];repeat' split <;> try rfl
 by_cases c4:t=Str.ofString "lay"
 ·simp [c4];repeat' split <;> try rfl
 simp [c1,c2,c3,c4]
theorem in2 (t:Str):inV (.str t) [.str (Str.ofString "swap"),.str (Str.ofString "move")]=decide (t=Str.ofString "swap" \/ t=Str.ofString "move"):=by
 rw [show [V.str (Str.ofString "swap"),.str (Str.ofString "move")]=[Str.ofString "swap",Str.ofString "move"].map V.str from rfl,ZS]
 simp
theorem xp {row:List (Option Int)}{a:Nat}(h:a<row.length):atI ((row.map oD).map AV.d) (a:Int)=some (.d (oD (row.getD a none))):=by
 unfold atI
 rw [List.length_map,List.length_map,qD (by omega) (by omega),Int.toNat_natCast]
 show ((row.map oD).map AV.d)[a]?=_
 rw [List.getElem?_map,List.getElem?_map,List.getElem?_eq_getElem h,List.getD_eq_getElem?_getD,List.getElem?_eq_getElem h];rfl
noncomputable def vC:Option Int->V
 | none=>.non
 | some x=>.int x
theorem Ic (c:Option Int):flD (oD c)=some (vC c):=by cases c <;> rfl
theorem Bj (cs:List (Option Int)):Qt (cs.map fun c=>AV.d (oD c))=some (cs.map vC):=by
 induction cs with
 | nil=>rfl
 | cons c cs ih=>
  show (match flD (oD c),Qt (cs.map fun c=>AV.d (oD c)) with | some v,some l=>some (v :: l) | _,_=>none)=_
  rw [Ic,ih];rfl
theorem IK (cs:List (Option Int)):inV .non (cs.map vC)=cs.any (·.isNone):=by
 induction cs with
 | nil=>rfl
 | cons c cs ih=>
  show (eqV (vC c) .non || inV .non (cs.map vC))=_
  rw [ih]
  cases c <;> rfl
theorem vK {row : List (Option Int)}{h x u : Option AV}{M : MH}{Q : AK}{ks : List Nat}{nx : ASt -> MH -> Prop}(hk : ∀ k ∈ ks, k < row.length)(hl : ks.length <= 1000)(q : Q (.d (.str (Str.ofString (if (ks.map fun k => row.getD k none).any (·.isNone) = true then "empty" else "")))) M) :
    Kl (aIf (aB (aOp (aIn false) (aC Dat.non) (aFz (Kx [3] (aiS (qA 4)) (vM 3) QM (vc (aOp (aIx qw) (qA 0) (qA 3))))))) (aC (Dat.str (Str.ofString "empty"))) (aC (Dat.str (Str.ofString ""))))
      M { nx:=nx,rt:=rtA M Q } [some (.d (.lst (row.map oD))),h,x,u,some (.d (.tup (ks.map fun k:Nat=>Dat.int k)))] M:=by
  walk_at "ra"
  refine JG (fun (o:Option AV)=>[some (.d (.lst (row.map oD))),h,x,o,some (.d (.tup (ks.map fun k:Nat=>Dat.int k)))]) (fun y=>match y with | .d (.int k)=>.d (oD (row.getD k.toNat none)) | y=>y) ⟨_,rfl⟩ trivial (by rw [List.length_map,List.length_map];omega) (fun o y Q hy q=>?_) fun o=>?_
  · obtain ⟨d,hd,rfl⟩:=List.mem_map.mp hy
    obtain ⟨k,hk',rfl⟩:=List.mem_map.mp hd
    walk_at "ra"
    exact ⟨_,xp (hk k hk'),q (some (.d (.int k)))⟩
  · have e : ((ks.map fun k : Nat => Dat.int k).map AV.d).map (fun y => match y with | .d (.int k) => AV.d (oD (row.getD k.toNat none)) | y => y) = (ks.map fun k => row.getD k none).map fun c => AV.d (oD c) := by
      simp only [List.map_map];exact List.map_congr_left fun _ _=>rfl
    rw [e]
    generalize (ks.map fun k=>row.getD k none)=cs at *
    have e2:(cs.map fun c=>AV.d (oD c))=(cs.map oD).map AV.d:=by rw [List.map_map];rfl
    refine ⟨cs.map oD,by rw [e2];exact zV _,?_⟩
    refine ⟨_,rfl,_,by rw [<- e2];exact Bj cs,?_⟩
    rw [IK]
    by_cases c:cs.any (·.isNone)=true
    · rw [if_pos c] at q ⊢;exact ⟨_,_,qB Fr.refl _,q⟩
    · rw [if_neg c] at q ⊢;exact ⟨_,_,qB Fr.refl _,q⟩
theorem HK {t:Str}{k:Int}(h:jk t=some k):k=1+if t=Str.ofString "swap" \/ t=Str.ofString "move" then 1 else 0:=by
 unfold jk at h
 by_cases c1:t=Str.ofString "swap"
 ·rw [if_pos c1] at h;cases h;rw [if_pos (.inl c1)];rfl
 rw [if_neg c1] at h
 by_cases c2:t=Str.ofString "take"
 ·rw [if_pos c2] at h;cases h;rw [if_neg (by rw [c2];decide +kernel)];rfl
 rw [if_neg c2] at h
 by_cases c3:t=Str.ofString "move"
 ·rw [if_pos c3] at h;cases h;rw [if_pos (.inr c3)];rfl
 rw [if_neg c3] at h
 by_cases c4:t=Str.ofString "lay"
 ·rw [if_pos c4] at h;cases h;rw [if_neg (by rw [c4];decide +kernel)];rfl
 rw [if_neg c4] at h;cases h
theorem tIn {i:Nat}{w a b:Str}{ps:List Dat}{ρ:ASt}{M:MH}(hρ:ρ[i]?=some (some (.d (.tup (.str w :: ps))))):Tst (aB (aOp (aIn false) (aOp (aIx qw) (qA i) (aC (.int 0))) (El (qj (aC (.str a)) (qj (aC (.str b)) kC))))) ρ M (decide (w=a \/ w=b)):=fun Q q=>by
 refine ⟨_,hρ,_,0,.d (.str w),rfl,rfl,vn,Nat.le_of_ble_eq_true rfl,_,rfl,_,_,_,_,rfl,rfl,rfl,rfl,_,rfl,?_⟩
 rw [show (if false=true then !inV (.str w) [V.str a,V.str b] else inV (.str w) [V.str a,V.str b])=decide (w=a \/ w=b) by
  rw [if_neg (fun z=>nomatch z),show [V.str a,V.str b]=[a,b].map V.str from rfl,ZS];simp]
 exact q
theorem tL3 {i:Nat}{l:List Dat}{ρ:ASt}{M:MH}(hρ:ρ[i]?=some (some (.d (.tup l)))):Tst (aB (aOp (wq id) (aCB QD (qj (qA i) kC)) (aC (.int 3)))) ρ M (decide ((l.length:Int)=3)):=fun Q q=>by
 refine ⟨_,hρ,_,_,rfl,rfl,_,_,rfl,rfl,by rw [qV];omega,by rw [qV];omega,_,rfl,?_⟩
 rw [wf,List.length_map]
 exact q
theorem DB {i:Nat}{t:Str}{a b:Nat}{ρ:ASt}{M:MH}(hρ:ρ[i]?=some (some (.d (.tup [.str t,.int (a:Int),.int (b:Int)])))):Tst (aB (aOp (wq id) (aOp (aIx qw) (qA i) (aC (.int 1))) (aOp (aIx qw) (qA i) (aC (.int 2))))) ρ M (decide ((a:Int)=(b:Int))):=fun Q q=>by
 refine ⟨_,hρ,_,_,_,rfl,rfl,rfl,_,hρ,_,_,_,rfl,rfl,rfl,_,_,rfl,rfl,by rw [qV];omega,by rw [qV];omega,_,rfl,?_⟩
 rw [wf]
 exact q
theorem BL {row:List (Option Int)}{l:List Dat}{b:Nat}{ρ:ASt}{M:MH}(h0:ρ[0]?=some (some (.d (.lst (row.map oD)))))(hρ:ρ[2]?=some (some (.d (.tup l))))(hz:atI (l.map AV.d) (-1)=some (.d (.int (b:Int))))(hb:b<row.length):Tst (aB (aOp (Yi not) (aOp (aIx qw) (qA 0) (aOp (aIx qw) (qA 2) (aUn (aU fun i=>.int (-i)) (aC (.int 1))))) (aC .non))) ρ M (!jM (.d (oD (row.getD b none)))):=fun Q q=>
 ⟨_,h0,_,hρ,_,rfl,_,_,_,rfl,rfl,hz,_,_,_,rfl,rfl,xp hb,rfl,_,rfl,q⟩
theorem tL0 {i:Nat}{l:List Dat}{ρ:ASt}{M:MH}(hρ:ρ[i]?=some (some (.d (.tup l)))):Tst (aB (aOp (wq id) (aCB QD (qj (qA i) kC)) (aC (.int 0)))) ρ M (decide ((l.length:Int)=0)):=fun Q q=>by
 refine ⟨_,hρ,_,_,rfl,rfl,_,_,rfl,rfl,by rw [qV];omega,by rw [qV];omega,_,rfl,?_⟩
 rw [wf,List.length_map]
 exact q
noncomputable def Bq:Dat->Bool
 | .tup (.str _ :: _)=>true
 | _=>false
theorem tFm {i:Nat}{x:Dat}{ρ:ASt}{M:MH}(h2:ρ[i]?=some (some (.d x)))(hx:dp x<=40):Tst (aOr (Zu (aB (aCB ZD (qj (qA i) (qj (aC (.ty "tuple")) kC))))) (aOr (aB (aOp (wq id) (aCB QD (qj (qA i) kC)) (aC (.int 0)))) (Zu (aB (aCB ZD (qj (aOp (aIx qw) (qA i) (aC (.int 0))) (qj (aC (.ty "str")) kC))))))) ρ M (!Bq x):=by
 cases x with
 | ty _=>rw [dp] at hx;omega
 | rng _ _ _=>rw [dp] at hx;omega
 | scr _ _=>rw [dp] at hx;omega
 | tup l=>
  have yes:=tNt (Ym (c:="tuple") (M:=M) h2 rfl (V7))
  cases l with
  | nil=>exact jK yes (ZM (zA (tL0 h2) rfl))
  | cons w ps=>
   have l0:decide (((w :: ps).length:Int)=0)=false:=decide_eq_false (by rw [List.length_cons];omega)
   have dw:dp w<=39:=by
    have e:dps (w :: ps)<=39:=by rw [dp] at hx;omega
    exact yg e w List.mem_cons_self
   refine jK yes (jK (zA (tL0 h2) l0) ?_)
   cases w with
   | ty _=>rw [dp] at dw;omega
   | rng _ _ _=>rw [dp] at dw;omega
   | scr _ _=>rw [dp] at dw;omega
   | str _=>exact tNt (YY h2 rfl Ar)
   | non=>exact tNt (YY h2 rfl Bp)
   | bl _=>exact tNt (YY h2 rfl Ak)
   | lst _=>exact tNt (YY h2 rfl Vz)
   | tup _=>exact tNt (YY h2 rfl V4)
   | int _=>exact tNt (YY h2 rfl A5)
 | non=>exact tNo h2 rfl WN
 | bl _=>exact tNo h2 rfl Wj
 | str _=>exact tNo h2 rfl Vs
 | lst _=>exact tNo h2 rfl Vg
 | int _=>exact tNo h2 rfl V6
theorem Ia {x:Dat}(h:Bq x=true):∃ t ps,x=.tup (.str t :: ps):=by
 unfold Bq at h
 split at h
 ·exact ⟨_,_,rfl⟩
 ·cases h
theorem IJ {x:Dat}{n:Nat}(h:Bq x=false):zY x n=false:=by
 cases e:zY x n with
 | false=>rfl
 | true=>
  obtain ⟨w,ps,rfl,_⟩:=xB e
  cases h
theorem tPl {row:List (Option Int)}{d:Dat}{ρ:ASt}{M:MH}(h0:ρ[0]?=some (some (.d (.lst (row.map oD)))))(h3:ρ[3]?=some (some (.d d)))(hd:dp d<=40):Tst (aOr (Zu (aB (aCB ZD (qj (qA 3) (qj (aC (.ty "int")) kC))))) (aOr (aB (aCB ZD (qj (qA 3) (qj (aC (.ty "bool")) kC)))) (Zu (aB (Jq (aI0 fun i j=>.bl (decide (i<=j))) (aI0 fun i j=>.bl (decide (i<j))) (aC (.int 0)) (qA 3) (aCB QD (qj (qA 0) kC))))))) ρ M (!zU d row.length):=by
 cases d with
 | ty _=>rw [dp] at hd;omega
 | rng _ _ _=>rw [dp] at hd;omega
 | scr _ _=>rw [dp] at hd;omega
 | non=>exact tNo h3 rfl W9
 | bl _=>exact jK (tNt (Ym h3 rfl Vx)) (ZM (Ym h3 rfl Bu))
 | str _=>exact tNo h3 rfl WC
 | lst _=>exact tNo h3 rfl Wt
 | tup _=>exact tNo h3 rfl WS
 | int j=>
  refine jK (tNt (Ym h3 rfl A8)) (jK (Ym h3 rfl Vk) (tNt fun Q q=>?_))
  by_cases c1:0<=j
  ·refine ⟨_,h3,_,_,rfl,rfl,_,rfl,?_⟩
   rw [if_pos (decide_eq_true c1)]
   refine ⟨_,h0,_,_,rfl,rfl,_,_,rfl,rfl,_,rfl,?_⟩
   rw [List.length_map,List.length_map]
   rw [show zU (.int j) row.length=decide (j<(row.length:Int)) from decide_eq_decide.mpr ⟨And.right,fun z=>⟨c1,z⟩⟩] at q
   exact q
  ·refine ⟨_,h3,_,_,rfl,rfl,_,rfl,?_⟩
   rw [if_neg (fun z=>c1 (of_decide_eq_true z))]
   rw [show zU (.int j) row.length=false from decide_eq_false fun z=>c1 z.1] at q
   exact ⟨_,rfl,q⟩
theorem Lo:¬(HT.sIx 3 0 (some 1)=0/\HT.sIx 3 3 none=3):=by decide
theorem Ln:¬(HT.sIx 2 0 (some 1)=0/\HT.sIx 2 2 (some 2)=2):=by decide
theorem Lm:¬(HT.sIx 3 0 (some 1)=0/\HT.sIx 3 3 (some 2)=3):=by decide
theorem Ii:decide (Str.ofString "swap"=Str.ofString "take")=false:=by decide +kernel
theorem Iz:decide (Str.ofString "swap"=Str.ofString "lay")=false:=by decide +kernel
theorem Im:decide (Str.ofString "swap"=Str.ofString "move" \/ Str.ofString "swap"=Str.ofString "lay")=false:=by decide +kernel
theorem Iv:decide (Str.ofString "take"=Str.ofString "move" \/ Str.ofString "take"=Str.ofString "lay")=false:=by decide +kernel
theorem IX:decide (Str.ofString "take"=Str.ofString "lay")=false:=by decide +kernel
theorem IV:decide (Str.ofString "take"=Str.ofString "swap")=false:=by decide +kernel
theorem E4:decide (Str.ofString "move"=Str.ofString "take")=false:=by decide +kernel
theorem IT:decide (Str.ofString "move"=Str.ofString "lay")=false:=by decide +kernel
theorem HW:decide (Str.ofString "move"=Str.ofString "swap")=false:=by decide +kernel
theorem Fb:decide (Str.ofString "lay"=Str.ofString "take")=false:=by decide +kernel
theorem yw {t u:Str}:decide (t=t \/ t=u)=true:=decide_eq_true (.inl rfl)
theorem yw' {t u:Str}:decide (u=t \/ u=u)=true:=decide_eq_true (.inr rfl)
noncomputable def Lc:ASp:=fun xs M Q=>∃ (s:ES) (x:Dat),xs=[.d (.lst (s.1.map oD)),.d (oD s.2),.d x]/\dp x<=40/\(∀ l,x=.tup l->l.length<=1000)/\s.1.length<=1000/\Q (.d (.str (Str.ofString (JQ s x)))) M
noncomputable abbrev Js:Stmt:=top 25
theorem XM:zt ["_law_row","_law_hand","_law_thing","_law_place","_law_some"] ["_law_row","_law_hand","_law_thing"] (ze Js):=⟨rfl,rfl,rfl,by decide +kernel,rfl,by decide +kernel,by decide +kernel⟩
theorem Eb (a:At K mg "_law_why" Js)(B:Blt mg):Df P w K mg base "_law_why" ["_law_row","_law_hand","_law_thing"] 1 (cSp Lc):=by
  refine dfA (k:=0) a XM (fun _ _ _ _ _ _=>Pn3_ fun _ _ _=>rfl) (fun xs M Q h=>?_) (fun f cdv A outer s H E hr=>?_)
  · obtain ⟨_,_,rfl,_⟩:=h;rfl
  have sc:=XM
  have hsl:=hsl
  refine ⟨_,(zc (zJ (PW.pt (kl (jn (qR (zo qY rfl B.isinstance zK (za (pv 2) (za (qv (v:=.ty "tuple") rfl B.tuple qE rfl) zb))) (fun _=>rfl))) (kl (zl (zX hr.units) (zo zp rfl B.len qd (za (pv 2) zb)) zd (zq _)) (ka (jn (qR (zo qY rfl B.isinstance zK (za (zx zD (pv 2) zd (fun _ _=>rfl)) (za (qv (v:=.ty "str") rfl B.str Zr rfl) zb))) (fun _=>rfl))))))) (zf (zz zm)) zr)
    (zc (zJ (PW.pt (kl (zl ZO (zx zD (pv 2) zd (fun _ _=>rfl)) (zy (za zm (za zm (za zm (za zm zb))))) rfl) (ka (zl (j8 hr.units) (zo zp rfl B.len qd (za (pv 2) zb)) (zv qh zd (zC yQ rfl B.int vX (za (xE yH (zx zD (pv 2) zd (fun _ _=>rfl)) (zy (za zm (za zm zb))) rfl) zb))) (zq _))))) (zf (zz zm)) zr)
    (zc (jZ PassesOwn.never rfl (vb (zR yC (pv 2) (zO zd) qg)) (zF (i:=3) sc.nd rfl (by first | exact Or.inl rfl | exact Or.inr rfl)) (zf (zJ (PW.pt (kl (jn (qR (zo qY rfl B.isinstance zK (za (pv 3) (za (qv (v:=.ty "int") rfl B.int vX rfl) zb))) (fun _=>rfl))) (kl (qR (zo qY rfl B.isinstance zK (za (pv 3) (za (qv (v:=.ty "bool") rfl B.bool Zk rfl) zb))) (fun _=>rfl)) (ka (jn (VE Fh E2 zd (pv 3) (zo zp rfl B.len qd (za (pv 0) zb)))))))) (zf (zz zm)) zr)))
    (zc (zJ (PW.pt (xS (zl (zX hr.units) (zo zp rfl B.len qd (za (pv 2) zb)) zd (zq _)) (kP (zl (zX hr.units) (zx zD (pv 2) zd (fun _ _=>rfl)) (zx zD (pv 2) zd (fun _ _=>rfl)) (zq _))))) (zf (zz zm)) zr)
    (zc (zJ (PW.pt (kl (PW.pt (xS (zl (zX hr.units) (zx zD (pv 2) zd (fun _ _=>rfl)) zm (zq _)) (kP (zl jm (pv 1) zS (zq _))))) (ka (PW.pt (xS (zl yH (zx zD (pv 2) zd (fun _ _=>rfl)) (zy (za zm (za zm zb))) rfl) (kP (zl jm (zx zD (pv 0) (zx zD (pv 2) (wW yA zd) (fun _ _=>rfl)) (fun _ _=>rfl)) zS (zq _)))))))) (zf (zz zm)) zr)
    (zc (zJ (zl (zX hr.units) (zx zD (pv 2) zd (fun _ _=>rfl)) zm (zq _)) (zf (zz (kD (zl xf (pv 1) zS (zq _)) zm zm))) zr)
    (zc (zB (i:=4) sc.nd rfl (by first | exact Or.inl rfl | exact Or.inr rfl) (kD (zl (zX hr.units) (zx zD (pv 2) zd (fun _ _=>rfl)) zm (zq _)) (zR yC (pv 2) (zO zd) qg) (zR yC (pv 2) (zO zd) (zO zd))))
    (zf (zz (kD (zl yH zS (yb (ts:=[3]) rfl rfl (vb (pv 4)) (fun _ _ _ _=>(zF (i:=3) sc.nd rfl (by first | exact Or.inl rfl | exact Or.inr rfl))) (fun _ _ _ _=>xv) (fun _ _ _ _=>(zx (Zv (K:=K) rfl) (pv 0) (pv 3) (fun _ _=>rfl)))) rfl) zm zm)))))))))),?_⟩
  refine ex2 (by walk_at "sim") ?_
  rintro xs M Q ⟨⟨row,hd⟩,x,rfl,hdp,hl,hr_,q⟩
  rw [show zQ ["_law_row","_law_hand","_law_thing","_law_place","_law_some"] [.d (.lst (row.map oD)),.d (oD hd),.d x]=[some (.d (.lst (row.map oD))),some (.d (oD hd)),some (.d x),none,none] from rfl]
  have fin:=fun b=>qB (M0:=M) Fr.refl (.str b)
  have no:zY x row.length=false->Q (.d (.str (Str.ofString "form"))) M:=fun h=>by rw [YT h] at q;exact q
  cases hf0:Bq x with
  | false=>exact xa (zA (tFm rfl hdp) (by rw [hf0];rfl)) ⟨_,_,fin _,no (IJ hf0)⟩
  | true =>
        refine qG (zA (tFm rfl hdp) (by rw [hf0];rfl)) ?_
        obtain ⟨t,ps,rfl⟩:=Ia hf0
        have hl:=hl _ rfl
        have dw:dps (.str t :: ps)<=39:=by rw [dp] at hdp;omega
        have dwi:∀ d ∈ .str t :: ps,dp d<=39:=yg dw
        have dpw:=dwi (.str t) List.mem_cons_self
        have a0:atI (AV.d (.str t) :: ps.map AV.d) 0=some (.d (.str t)):=vn
        refine zg fun r1 hr1=>?_
        walk_at "ra"
        refine ⟨_,a0,by omega,_,rfl,_,rfl,_,rfl,?_⟩
        rw [in4]
        have q0:zY (.tup (.str t :: ps)) row.length=(jk t == some (ps.length:Int) && ps.all (zU · row.length)):=rfl
        cases hp:jk t with
        | none=>
          rw [if_pos (show (none:Option Int).isSome=false from rfl)]
          exact ⟨_,_,fin _,no (by rw [q0,hp];rfl)⟩
        | some k=>
          rw [if_neg (fun z=>nomatch z)]
          refine ⟨_,a0,by omega,_,rfl,_,rfl,_,rfl,?_⟩
          rw [in2]
          have hk:=HK hp
          have ee:(if decide (t=Str.ofString "swap" \/ t=Str.ofString "move")=true then (1:Int) else 0)=k - 1:=by
            by_cases cc:t=Str.ofString "swap" \/ t=Str.ofString "move"
            · rw [if_pos cc] at hk;rw [if_pos (decide_eq_true cc)];omega
            · rw [if_neg cc] at hk;rw [if_neg (fun z=>cc (of_decide_eq_true z))];omega
          rw [ee]
          by_cases ck:k=(ps.length:Int)
          case neg=>
            rw [if_pos (by omega)]
            exact ⟨_,_,fin _,no (by rw [q0,hp,show (some k == some (ps.length:Int))=false by simpa using ck];rfl)⟩
          rw [if_neg (by omega)]
          subst hr1
          refine zg fun r1 hr1=>?_
          walk_at "ra"
          have ec:jO (Dat.str t :: ps) (some 1) none=ps:=by
            rw [show (some 1:Option Int)=some ((1:Nat):Int) from rfl,yK];rfl
          rw [ec]
          have nsl:¬(HT.sIx (ps.length+1) 0 (some 1)=0/\HT.sIx (ps.length+1) (ps.length+1) none=ps.length+1):=by
            rintro ⟨z,_⟩
            unfold HT.sIx at z
            simp at z
            try omega
          refine ⟨nsl,?_⟩
          have hpl:jk t=some (ps.length:Int):=by rw [hp,ck]
          refine ⟨fun i ρ M'=>M=M'/\(∃ u,ρ=[some (.d (.lst (row.map oD))),some (.d (oD hd)),some (.d (.tup (.str t :: ps))),u,none])/\∀ d ∈ ps.take i,zU d row.length=true,⟨rfl,⟨_,rfl⟩,by simp⟩,?_,?_⟩
          · rintro i y ρ M' hy ⟨rfl,⟨u,rfl⟩,hpr⟩
            refine ⟨trivial,?_⟩
            rw [List.getElem?_map] at hy
            cases e:ps[i]? with
            | none=>rw [e] at hy;cases hy
            | some d=>
              rw [e] at hy
              cases hy
              have hmem:=List.mem_of_getElem? e
              have dd:=dwi d (List.mem_cons_of_mem _ hmem)
              have bad:zU d row.length=false->Q (.d (.str (Str.ofString "form"))) M:=fun h=>no (by
                rw [q0,hpl]
                have:ps.all (zU · row.length)=false:=by
                  rw [List.all_eq_false]
                  exact ⟨d,hmem,by rw [h];exact fun z=>nomatch z⟩
                rw [this,Bool.and_false])
              have good:zU d row.length=true->∀ x ∈ ps.take (i+1),zU x row.length=true:=fun h x hx=>by
                rw [List.take_succ,e] at hx
                rcases List.mem_append.mp hx with z | z
                · exact hpr x z
                · rw [List.mem_singleton.mp z];exact h
              cases hpd:zU d row.length with
              | true=>exact WI (zA (tPl rfl rfl (by omega)) (by rw [hpd];rfl)) ⟨rfl,⟨_,rfl⟩,good hpd⟩
              | false=>exact Hi (zA (tPl rfl rfl (by omega)) (by rw [hpd];rfl)) ⟨_,_,fin _,bad hpd⟩
          · rintro ρ M' ⟨rfl,⟨u,rfl⟩,hpr⟩
            refine ⟨trivial,?_⟩
            rw [List.length_map,List.take_length] at hpr
            dsimp only
            have hf:zY (.tup (.str t :: ps)) row.length=true:=by
              rw [q0,hpl,List.all_eq_true.mpr hpr];simp
            obtain ⟨w',ps',ex,_,hps⟩:=xB hf
            cases ex
            have ed:doR (row,hd) [] (.tup (.str t :: ps))=if t=Str.ofString "swap" then jg (row,hd) [] (iN (ps.getD 0 .non)) (iN (ps.getD 1 .non)) else if t=Str.ofString "take" then jh (row,hd) [] (iN (ps.getD 0 .non)) else if t=Str.ofString "move" then qW (row,hd) [] (iN (ps.getD 0 .non)) (iN (ps.getD 1 .non)) else kO (row,hd) [] (iN (ps.getD 0 .non)):=by
              unfold doR;rw [if_pos (show zY (.tup (.str t :: ps)) row.length=true from hf)]
            have q:∀ w,(match doR (row,hd) [] (.tup (.str t :: ps)) with | .error w=>w | .ok _=>"")=w->Q (.d (.str (Str.ofString w))) M:=fun w h=>h ▸ q
            rw [ed] at q
            clear ed no q0 hp ck hk ee
            subst hr1
            by_cases w1:t=Str.ofString "swap"
            · rw [if_pos w1] at q
              obtain ⟨a,b,rfl,ha,hb⟩:=yE hpl hps (.inl w1)
              have qq:∀ w,(match jg (row,hd) [] a b with | .error w=>w | .ok _=>"")=w->Q (.d (.str (Str.ofString w))) M:=q
              clear q
              subst w1
              by_cases hab:a=b
              · exact xa (qU (zA (tL3 rfl) rfl) (zA (DB rfl) (by rw [hab];exact decide_eq_true rfl))) ⟨_,_,fin _,qq "same" (by unfold jg;rw [if_pos hab])⟩
              refine qG (qU (zA (tL3 rfl) rfl) (zA (DB rfl) (decide_eq_false fun z=>hab (Int.ofNat.inj z)))) ?_
              refine qG (jK (jH (zA (tW rfl) Ii)) (jH (zA (tIn rfl) Im))) ?_
              refine qG (zA (tW rfl) Iz) ?_
              refine F9 (zA (tW rfl) (decide_eq_true rfl)) ⟨_,rfl,_,rfl,_,rfl,Lo,?_⟩
              refine vK (ks:=[a,b]) (by simp [show a<row.length from ha,show b<row.length from hb]) (Nat.le_of_ble_eq_true rfl) (qq _ ?_)
              unfold jg
              rw [if_neg hab]
              show (match (match row.getD a none,row.getD b none with | some x,some y=>_ | _,_=>_:Except String RS) with | .error w=>w | .ok _=>"")=if [row.getD a none,row.getD b none].any (·.isNone)=true then "empty" else ""
              cases row.getD a none <;> cases row.getD b none <;> rfl
            rw [if_neg w1] at q
            by_cases w2:t=Str.ofString "take"
            · rw [if_pos w2] at q
              obtain ⟨a,rfl,ha⟩:=yz hpl hps w1 (by rw [w2];decide +kernel)
              have qq:∀ w,(match jh (row,hd) [] a with | .error w=>w | .ok _=>"")=w->Q (.d (.str (Str.ofString w))) M:=q
              clear q
              subst w2
              refine qG (jH (zA (tL3 rfl) rfl)) ?_
              cases hd with
              | some y=>exact xa (ZM (qU (zA (tW rfl) (decide_eq_true rfl)) (zA (tNN rfl) rfl))) ⟨_,_,fin _,qq "full" rfl⟩
              | none=>
                refine qG (jK (qU (zA (tW rfl) (decide_eq_true rfl)) (zA (tNN rfl) rfl)) (jH (zA (tIn rfl) Iv))) ?_
                refine qG (zA (tW rfl) IX) ?_
                refine EB (zA (tW rfl) IV) ⟨_,rfl,_,rfl,_,rfl,_,rfl,Ln,?_⟩
                refine vK (ks:=[a]) (by simp [show a<row.length from ha]) (Nat.le_of_ble_eq_true rfl) (qq _ ?_)
                unfold jh
                show (match (match row.getD a none with | some x=>_ | none=>_:Except String RS) with | .error w=>w | .ok _=>"")=if [row.getD a none].any (·.isNone)=true then "empty" else ""
                cases row.getD a none <;> rfl
            rw [if_neg w2] at q
            by_cases w3:t=Str.ofString "move"
            · rw [if_pos w3] at q
              obtain ⟨a,b,rfl,ha,hb⟩:=yE hpl hps (.inr w3)
              have qq:∀ w,(match qW (row,hd) [] a b with | .error w=>w | .ok _=>"")=w->Q (.d (.str (Str.ofString w))) M:=q
              clear q
              subst w3
              by_cases hab:a=b
              · exact xa (qU (zA (tL3 rfl) rfl) (zA (DB rfl) (by rw [hab];exact decide_eq_true rfl))) ⟨_,_,fin _,qq "same" (by unfold qW;rw [if_pos hab])⟩
              refine qG (qU (zA (tL3 rfl) rfl) (zA (DB rfl) (decide_eq_false fun z=>hab (Int.ofNat.inj z)))) ?_
              unfold qW at qq
              rw [if_neg hab] at qq
              dsimp only at qq
              cases hy:row.getD b none with
              | some y=>
                rw [hy] at qq
                exact xa (jK (jH (zA (tW rfl) E4)) (qU (zA (tIn rfl) yw) (zA (BL rfl rfl rfl hb) (by rw [hy];rfl)))) ⟨_,_,fin _,qq "full" rfl⟩
              | none=>
                rw [hy] at qq
                refine qG (jK (jH (zA (tW rfl) E4)) (qU (zA (tIn rfl) yw) (zA (BL rfl rfl rfl hb) (by rw [hy];rfl)))) ?_
                refine qG (zA (tW rfl) IT) ?_
                refine EB (zA (tW rfl) HW) ⟨_,rfl,_,rfl,_,rfl,_,rfl,Lm,?_⟩
                refine vK (ks:=[a]) (by simp [show a<row.length from ha]) (Nat.le_of_ble_eq_true rfl) (qq _ ?_)
                show (match (match row.getD a none with | some x=>_ | none=>_:Except String RS) with | .error w=>w | .ok _=>"")=if [row.getD a none].any (·.isNone)=true then "empty" else ""
                cases row.getD a none <;> rfl
            rw [if_neg w3] at q
            obtain ⟨b,rfl,hb⟩:=yz hpl hps w1 w3
            have w4:t=Str.ofString "lay":=by
              unfold jk at hpl
              rw [if_neg w1,if_neg w2,if_neg w3] at hpl
              by_cases c:t=Str.ofString "lay"
              · exact c
              · rw [if_neg c] at hpl;cases hpl
            have qq:∀ w,(match kO (row,hd) [] b with | .error w=>w | .ok _=>"")=w->Q (.d (.str (Str.ofString w))) M:=q
            clear q
            subst w4
            refine qG (jH (zA (tL3 rfl) rfl)) ?_
            unfold kO at qq
            dsimp only at qq
            cases hy:row.getD b none with
            | some y=>
              rw [hy] at qq
              exact xa (jK (jH (zA (tW rfl) Fb)) (qU (zA (tIn rfl) yw') (zA (BL rfl rfl rfl hb) (by rw [hy];rfl)))) ⟨_,_,fin _,qq "full" rfl⟩
            | none=>
              rw [hy] at qq
              refine qG (jK (jH (zA (tW rfl) Fb)) (qU (zA (tIn rfl) yw') (zA (BL rfl rfl rfl hb) (by rw [hy];rfl)))) ?_
              cases hd with
              | none=>exact xa (zA (tW rfl) (decide_eq_true rfl)) (F9 (zA (tIN rfl) rfl) ⟨_,_,fin _,qq "empty" rfl⟩)
              | some y=>exact xa (zA (tW rfl) (decide_eq_true rfl)) (EB (zA (tIN rfl) rfl) ⟨_,_,fin _,qq "" rfl⟩)
theorem Xd {s:ES}{ms ns:List Int}{x:Dat}{w:String}(h:doR s ms x=.error w):doR s ns x=.error w:=by
 unfold doR at h ⊢
 split at h
 ·rename_i c
  rw [if_pos c]
  split at h
  ·rename_i t ps
   have g1:∀ a b,jg s ms a b=.error w->jg s ns a b=.error w:=fun a b=>by
    unfold jg
    split
    ·exact id
    ·cases s.1.getD a none <;> cases s.1.getD b none <;> intro h <;> first | exact h | cases h
   have g2:∀ a b,qW s ms a b=.error w->qW s ns a b=.error w:=fun a b=>by
    unfold qW
    split
    ·exact id
    ·cases s.1.getD b none <;> cases s.1.getD a none <;> intro h <;> first | exact h | cases h
   have g3:∀ a,jh s ms a=.error w->jh s ns a=.error w:=fun a=>by
    unfold jh
    cases s.2 <;> cases s.1.getD a none <;> intro h <;> first | exact h | cases h
   have g4:∀ a,kO s ms a=.error w->kO s ns a=.error w:=fun a=>by
    unfold kO
    cases s.1.getD a none <;> cases s.2 <;> intro h <;> first | exact h | cases h
   split at h
   ·rename_i c1;rw [if_pos c1];exact g1 _ _ h
   ·rename_i c1
    rw [if_neg c1]
    split at h
    ·rename_i c2;rw [if_pos c2];exact g3 _ h
    ·rename_i c2
     rw [if_neg c2]
     split at h
     ·rename_i c3;rw [if_pos c3];exact g2 _ _ h
     ·rename_i c3;rw [if_neg c3];exact g4 _ h
  ·exact h
 ·rename_i c
  rw [if_neg c];exact h
theorem Vb {s:ES}{ms:List Int}{x:Dat}{w:String}(h:doR s ms x=.error w):JQ s x=w:=by
 unfold JQ;rw [Xd (ns:=[]) h]
theorem BO {s:ES}{ms:List Int}{x:Dat}{t:RS}(h:doR s ms x=.ok t):JQ s x="":=by
 unfold JQ
 cases e:doR s [] x with
 | ok _=>rfl
 | error w=>rw [Xd (ns:=ms) e] at h;cases h
noncomputable abbrev EI (u v:Int):List Dat:=[.tup [.str (Str.ofString "swap"),.int u,.int v],.tup [.str (Str.ofString "take"),.int u],.tup [.str (Str.ofString "move"),.int u,.int v],.tup [.str (Str.ofString "lay"),.int u],.tup [.str (Str.ofString "swap"),.int u,.int u],.tup [.str (Str.ofString "move"),.int u,.int u],.tup [.str (Str.ofString "swap"),.int u],.tup [.str (Str.ofString "take"),.int u,.int v],.tup [.str (Str.ofString "lay")],.tup [.str (Str.ofString "move"),.int u],.tup [],.lst [],.non,.bl true,.int 0,.str (Str.ofString "take"),.lst [.str (Str.ofString "take"),.int u],.tup [.str (Str.ofString "take"),.bl true],.tup [.str (Str.ofString "lay"),.non],.tup [.str (Str.ofString "swap"),.str (Str.ofString "0"),.int 1],.tup [.int 0,.int 1],.tup [.str (Str.ofString "Take"),.int u],.tup [.str (Str.ofString "take"),.int (10 ^ Int.toNat 17)],.tup [.tup [.str (Str.ofString "take"),.int 0]],.tup [.str (Str.ofString "move"),.int u,.lst [.int v]],.tup [.str (Str.ofString "lay"),.int (-1)],.tup [.lst [.str (Str.ofString "take")],.int u],.tup [.tup [.str (Str.ofString "swap")],.int u,.int v],.tup [.non,.int u],.tup [.lst [],.int 0],.tup [.bl true,.int u]]
theorem F2 (u v:Int):∀ d ∈ EI u v,OkX d:=by
 intro d hd
 simp only [List.mem_cons,List.not_mem_nil,or_false] at hd
 rcases hd with rfl | rfl | rfl | rfl | rfl | rfl | rfl | rfl | rfl | rfl | rfl | rfl | rfl | rfl | rfl | rfl | rfl | rfl | rfl | rfl | rfl | rfl | rfl | rfl | rfl | rfl | rfl | rfl | rfl | rfl | rfl
 all_goals refine ⟨by simp [dp,dps],fun l e=>?_⟩
 all_goals first | (cases e;exact Nat.le_of_ble_eq_true rfl) | cases e
theorem GO (u v:Int):∀ x ∈ EI u v,∀ l,(x=.tup l \/ x=.lst l)->l.length<=1000/\∀ d ∈ l,∀ l',d=.tup l'->l'.length<=1000:=by
 intro x hx
 simp only [List.mem_cons,List.not_mem_nil,or_false] at hx
 rcases hx with rfl | rfl | rfl | rfl | rfl | rfl | rfl | rfl | rfl | rfl | rfl | rfl | rfl | rfl | rfl | rfl | rfl | rfl | rfl | rfl | rfl | rfl | rfl | rfl | rfl | rfl | rfl | rfl | rfl | rfl | rfl
 all_goals (intro l e;rcases e with e | e <;> cases e)
 all_goals refine ⟨Nat.le_of_ble_eq_true rfl,fun d hd l' e=>?_⟩
 all_goals simp only [List.mem_cons,List.not_mem_nil,or_false] at hd
 all_goals first
  | exact hd.elim
  | (subst hd;first | (cases e;exact Nat.le_of_ble_eq_true rfl) | cases e)
  | (rcases hd with rfl | rfl <;> first | (cases e;exact Nat.le_of_ble_eq_true rfl) | cases e)
  | (rcases hd with rfl | rfl | rfl <;> first | (cases e;exact Nat.le_of_ble_eq_true rfl) | cases e)
theorem Ik {l:List Dat}(h:l.length<=3)(hs:∀ d ∈ l,Sh 100 d)(hd:dp (.tup l)<=5):dp (.tup l)<=5/\Sh 500 (.tup l):=⟨hd,(WL h hs).mono (by decide)⟩
theorem DF {u v:Int}(hu:u.natAbs<10 ^ 20)(hv:v.natAbs<10 ^ 20)(d:Dat)(hin:d ∈ EI u v):OkS d:=by
  suffices h:dp d<=5/\Sh 500 d from ⟨h.1,h.2,Bs h.1 (GO u v d hin)⟩
  have hd:=hin
  have s1:Sh 100 (.int u):=(yN hu).mono (by decide)
  have s2:Sh 100 (.int v):=(yN hv).mono (by decide)
  have s3:Sh 100 (.lst [.int v]):=(yJ (b:=22) (n:=1) (by simp) (by simpa using yN hv)).mono (by decide)
  have s4:Sh 200 (.lst [.str (Str.ofString "take"),.int u]):=(yJ (b:=60) (n:=2) (by simp) (by
    intro d hd
    simp only [List.mem_cons,List.not_mem_nil,or_false] at hd
    rcases hd with rfl | rfl
    · exact ⟨by decide +kernel,by decide +kernel⟩
    · exact (yN hu).mono (by decide))).mono (by decide)
  simp only [List.mem_cons,List.not_mem_nil,or_false] at hd
  rcases hd with rfl | rfl | rfl | rfl | rfl | rfl | rfl | rfl | rfl | rfl | rfl | rfl | rfl | rfl | rfl | rfl | rfl | rfl | rfl | rfl | rfl | rfl | rfl | rfl | rfl | rfl | rfl | rfl | rfl | rfl | rfl
  all_goals first
    | exact ⟨by simp [dp,dps],⟨by decide +kernel,by decide +kernel⟩⟩
    | exact ⟨by simp [dp,dps],s4.mono (by decide)⟩
    | (refine Ik (by simp) (fun x hx=>?_) (by simp [dp,dps])
       simp only [List.mem_cons,List.not_mem_nil,or_false] at hx
       first
         | (rcases hx with rfl | rfl | rfl <;> first | assumption | exact ⟨by decide +kernel,by decide +kernel⟩)
         | (rcases hx with rfl | rfl <;> first | assumption | exact ⟨by decide +kernel,by decide +kernel⟩)
         | (subst hx;first | assumption | exact ⟨by decide +kernel,by decide +kernel⟩))
noncomputable def Lh:ASp:=fun xs M Q=>∃ (b:Addr) (N n:Nat),xs=[.ref b,.d (.int n)]/\BxM M b N/\N<1000000/\n<=1000/\∀ x M',BxS M M' b (N+5)->OkX x->OkS x->Q (.d x) M'
noncomputable abbrev V0:Stmt:=top 26
theorem VC:zt ["_law_box_here","_law_n","_law_some","_law_place","_law_other"] ["_law_box_here","_law_n"] (ze V0):=⟨rfl,rfl,rfl,by decide +kernel,rfl,by decide +kernel,by decide +kernel⟩
theorem Gq (a:At K mg "_law_odd" V0)(B:Blt mg)(D_law_take:Df P w K mg base "_law_take" ["_law_box_here","_law_many"] 1 (cSp vA)):Df P w K mg base "_law_odd" ["_law_box_here","_law_n"] 2 (cSp Lh):=by
 refine dfA (k:=1) a VC (fun _ _ _ _ _ _=>Pn2_ fun _ _=>rfl) (fun xs M Q h=>?_) (fun f cdv A outer s H E hr=>?_)
 ·obtain ⟨_,_,_,rfl,_⟩:=h;rfl
 have sc:=VC
 have hsl:=hsl
 refine' ⟨_,?q0,?qr⟩
 (case q0=>
  refine' zc ?q1 ?q2
  (case q1=>exact (Vc (i:=3) (j:=4) rfl sc.nd rfl rfl (by decide) rfl rfl (za (zv kJ (zP D_law_take hr rfl (za (pv 0) (za (zv qh (pv 1) zd) zb))) zd) (za (zv kJ (zP D_law_take hr rfl (za (pv 0) (za (zv qh (pv 1) zd) zb))) zd) zb)) rfl))
  (case q2=>
   refine' zc ?q3 ?q4
   (case q3=>exact (zB (i:=2) sc.nd rfl (by first | exact Or.inl rfl | exact Or.inr rfl) (zL (za (zy (za zm (za (pv 3) (za (pv 4) zb)))) (za (zy (za zm (za (pv 3) zb))) (za (zy (za zm (za (pv 3) (za (pv 4) zb)))) (za (zy (za zm (za (pv 3) zb))) (za (zy (za zm (za (pv 3) (za (pv 3) zb)))) zb))))))))
   (case q4=>
    refine' zc ?q5 ?q6
    (case q5=>
     refine' zB (i:=2) ?q7 ?q8 ?q9 ?q10
     (case q7=>exact sc.nd)
     (case q8=>exact rfl)
     (case q9=>exact (by first | exact Or.inl rfl | exact Or.inr rfl))
     (case q10=>
      refine' zv ?q11 ?q12 ?q13
      (case q11=>exact qH)
      (case q12=>exact (pv 2))
      (case q13=>
       refine' zL ?q14
       (case q14=>
        refine' za ?q15 ?q16
        (case q15=>exact (zy (za zm (za (pv 3) (za (pv 3) zb)))))
        (case q16=>
         refine' za ?q17 ?q18
         (case q17=>exact (zy (za zm (za (pv 3) zb))))
         (case q18=>
          refine' za ?q19 ?q20
          (case q19=>exact (zy (za zm (za (pv 3) (za (pv 4) zb)))))
          (case q20=>
           refine' za ?q21 ?q22
           (case q21=>exact (zy (za zm zb)))
           (case q22=>
            refine' za ?q23 ?q24
            (case q23=>exact (zy (za zm (za (pv 3) zb))))
            (case q24=>
             refine' za ?q25 ?q26
             (case q25=>exact (zy zb))
             (case q26=>
              refine' za ?q27 ?q28
              (case q27=>exact (zL zb))
              (case q28=>exact zb)))))))))))
    (case q6=>
     refine' zc ?q29 ?q30
     (case q29=>
      refine' zB (i:=2) ?q31 ?q32 ?q33 ?q34
      (case q31=>exact sc.nd)
      (case q32=>exact rfl)
      (case q33=>exact (by first | exact Or.inl rfl | exact Or.inr rfl))
      (case q34=>
       refine' zv ?q35 ?q36 ?q37
       (case q35=>exact qH)
       (case q36=>exact (pv 2))
       (case q37=>
        refine' zL ?q38
        (case q38=>
         refine' za ?q39 ?q40
         (case q39=>exact zS)
         (case q40=>
          refine' za ?q41 ?q42
          (case q41=>exact jo)
          (case q42=>
           refine' za ?q43 ?q44
           (case q43=>exact zd)
           (case q44=>
            refine' za ?q45 ?q46
            (case q45=>exact zm)
            (case q46=>
             refine' za ?q47 ?q48
             (case q47=>exact (zL (za zm (za (pv 3) zb))))
             (case q48=>
              refine' za ?q49 ?q50
              (case q49=>exact (zy (za zm (za jo zb))))
              (case q50=>
               refine' za ?q51 ?q52
               (case q51=>exact (zy (za zm (za zS zb))))
               (case q52=>
                refine' za ?q53 ?q54
                (case q53=>exact (zy (za zm (za zm (za zd zb)))))
                (case q54=>
                 refine' za ?q55 ?q56
                 (case q55=>exact (zy (za zd (za zd zb))))
                 (case q56=>exact zb)))))))))))))
     (case q30=>exact (zc (zB (i:=2) sc.nd rfl (by first | exact Or.inl rfl | exact Or.inr rfl) (zv qH (pv 2) (zL (za (zy (za zm (za (pv 3) zb))) (za (zy (za zm (za (zv WZ zd zd) zb))) (za (zy (za (zy (za zm (za zd zb))) zb)) (za (zy (za zm (za (pv 3) (za (zL (za (pv 4) zb)) zb)))) (za (zy (za zm (za (wW yA zd) zb))) zb)))))))) (zc (zB (i:=2) sc.nd rfl (by first | exact Or.inl rfl | exact Or.inr rfl) (zv qH (pv 2) (zL (za (zy (za (zL (za zm zb)) (za (pv 3) zb))) (za (zy (za (zy (za zm zb)) (za (pv 3) (za (pv 4) zb)))) (za (zy (za zS (za (pv 3) zb))) (za (zy (za (zL zb) (za zd zb))) (za (zy (za jo (za (pv 3) zb))) zb)))))))) (zf (zz (zx zD (pv 2) (zx zD (zL (za (zP D_law_take hr rfl (za (pv 0) (za zd zb))) (za (zP D_law_take hr rfl (za (pv 0) (za (zo zp rfl B.len qd (za (pv 2) zb)) zb))) zb))) (zP D_law_take hr rfl (za (pv 0) (za zd zb))) (fun _ _=>rfl)) (fun _ _=>rfl)))))))))))
 refine ex2 (by walk_at "sim") ?_
 rintro xs M Q ⟨b,N,n,rfl,hb,hN,hn,q⟩
 rw [show zQ ["_law_box_here","_law_n","_law_some","_law_place","_law_other"] [.ref b,.d (.int n)]=[some (.ref b),some (.d (.int n)),none,none,none] from rfl]
 have sb:=SB.refl hb
 refine zg fun r1 hr1=>?_
 walk_at "ra"
 refine ⟨b,(n:Int)+2,_,rfl,sb.bx,by omega,by omega,by omega,fun p M1 s1 p0 p1=>?_⟩
 have sb:=sb.go s1
 refine ⟨_,rfl,b,(n:Int)+2,_,rfl,sb.bx,by omega,by omega,by omega,fun o M2 s2 o0 o1=>⟨_,rfl,?_⟩⟩
 have sb:=sb.go s2
 have bu:(p - 1).natAbs<10 ^ 20:=Nat.lt_of_le_of_lt (show _<=1002 by omega) (by decide)
 have bv:(o - 1).natAbs<10 ^ 20:=Nat.lt_of_le_of_lt (show _<=1002 by omega) (by decide)
 generalize p - 1=u at *
 generalize o - 1=v at *
 subst hr1
 refine zg fun r1 hr1=>?_
 walk_at "ra"
 repeat (refine And.intro (by omega) ?_)
 subst hr1
 refine zg fun r1 hr1=>?_
 walk_at "ra"
 repeat (refine And.intro (by omega) ?_)
 subst hr1
 refine zg fun r1 hr1=>?_
 walk_at "ra"
 repeat (first | refine And.intro (by omega) ?_ | refine And.intro ⟨by decide,by decide,by decide⟩ ?_)
 subst hr1
 refine zg fun r1 hr1=>?_
 walk_at "ra"
 repeat (first | refine And.intro (by omega) ?_ | refine And.intro ⟨by decide,by decide,by decide⟩ ?_)
 subst hr1
 refine zg fun r1 hr1=>?_
 walk_at "ra"
 repeat (first | refine And.intro (by omega) ?_ | refine And.intro ⟨by decide,by decide,by decide⟩ ?_)
 subst hr1
 walk_at "ra"
 refine ⟨b,4,_,rfl,sb.bx,by omega,by omega,by omega,fun i M3 s3 i0 i1=>?_⟩
 have sb:=sb.go s3
 refine ⟨b,31,_,rfl,sb.bx,by omega,by omega,by omega,fun j M4 s4 j0 j1=>⟨by omega,_,rfl,?_⟩⟩
 have sb:=sb.go s4
 refine ⟨b,2,_,rfl,sb.bx,by omega,by omega,by omega,fun k M5 s5 k0 k1=>?_⟩
 have sb:=sb.go s5
 obtain ⟨w,ew,hw0,hw1⟩:∃ w:Int,atI ([Dat.int i,Dat.int j].map AV.d) k=some (.d (.int w))/\0<=w/\w<31:=by
  obtain rfl | rfl:k=0 \/ k=1:=by omega
  ·exact ⟨i,rfl,by omega,by omega⟩
  ·exact ⟨j,rfl,by omega,by omega⟩
 obtain ⟨d,hd,ed⟩:=LA (l:=EI u v) (i:=w) hw0 hw1
 refine ⟨_,rfl,_,ew,_,rfl,_,ed,?_⟩
 exact (sb.mono (show _<=N+5 by omega)).rt fun M' s=>q d M' s (F2 u v d hd) (DF bu bv d hd)
noncomputable def dD:De->Dat
 | .swap a b=>.tup [.str (Str.ofString "swap"),.int (a:Int),.int (b:Int)]
 | .take p=>.tup [.str (Str.ofString "take"),.int (p:Int)]
 | .move p g=>.tup [.str (Str.ofString "move"),.int (p:Int),.int (g:Int)]
 | .lay g=>.tup [.str (Str.ofString "lay"),.int (g:Int)]
noncomputable def VR:ASp:=fun xs M Q=>∃ (d:De) (st st':ES),xs=[.d (.lst (st.1.map oD)),.d (oD st.2),.d (dD d)]/\DoE d st st'/\st.1.length<=1000/\Q (.d (.tup [.lst (st'.1.map oD),oD st'.2])) M
noncomputable abbrev Iu (row:List (Option Int)):MO:=.lst ((row.map oD).map AV.d)
theorem kG {row:List (Option Int)}{a:Nat}{c:Option Int}(h:row[a]?=some c):atI ((row.map oD).map AV.d) (a:Int)=some (.d (oD c))/\ixN ((row.map oD).map AV.d).length (a:Int)=some a:=by
 have hl:a<row.length:=(List.getElem?_eq_some_iff.mp h).1
 have e:ixN ((row.map oD).map AV.d).length (a:Int)=some a:=by rw [List.length_map,List.length_map,qD (by omega) (by omega),Int.toNat_natCast]
 refine ⟨?_,e⟩
 unfold atI
 rw [e]
 show ((row.map oD).map AV.d)[a]?=_
 rw [List.getElem?_map,List.getElem?_map,h];rfl
theorem jU (row:List (Option Int))(a:Nat)(c:Option Int):((row.map oD).map AV.d).set a (.d (oD c))=((row.set a c).map oD).map AV.d:=by rw [List.map_set,List.map_set]
theorem D0 {c:AT}{t u:AS}{B:MH}{D:qX}{ρ:ASt}{M:MH}{v:AS}(h:∀ r,r=t->kH (xN c r u) v B D ρ M):kH (xN c t u) v B D ρ M:=h t rfl
theorem xD {t:AS}{B:MH}{D:qX}{ρ:ASt}{M:MH}(h:∀ D',D'=D->t B D' ρ M):t B D ρ M:=h D rfl
theorem jJ {i:Nat}{w w':Str}{ps:List Dat}{t r:AS}{B:MH}{D:qX}{ρ:ASt}{M:MH}(hρ:ρ[i]?=some (some (.d (.tup (.str w :: ps)))))(hw:decide (w=w')=false)(h:r B D ρ M):kH (xN (aB (aOp (wq id) (aOp (aIx qw) (qA i) (aC (.int 0))) (aC (.str w')))) t jX) r B D ρ M:=by
 refine ⟨_,hρ,_,0,.d (.str w),rfl,rfl,?_,?_⟩
 ·unfold atI;rw [qD (by omega) (by rw [List.length_map,List.length_cons];omega)];rfl
 ·refine ⟨_,_,rfl,rfl,by rw [qT];omega,by rw [qT];omega,_,rfl,?_⟩
  show (if id (eqD (.str w) (.str w'))=true then _ else _)
  rw [jl,hw]
  exact h
theorem vo {i:Nat}{w w':Str}{ps:List Dat}{t r:AS}{B:MH}{D:qX}{ρ:ASt}{M:MH}(hρ:ρ[i]?=some (some (.d (.tup (.str w :: ps)))))(hw:decide (w=w')=true)(h:t B { nx:=fun ρ' M'=>r B D ρ' M',rt:=D.rt,bk:=D.bk,ct:=D.ct } ρ M):kH (xN (aB (aOp (wq id) (aOp (aIx qw) (qA i) (aC (.int 0))) (aC (.str w')))) t jX) r B D ρ M:=by
 refine ⟨_,hρ,_,0,.d (.str w),rfl,rfl,?_,?_⟩
 ·unfold atI;rw [qD (by omega) (by rw [List.length_map,List.length_cons];omega)];rfl
 ·refine ⟨_,_,rfl,rfl,by rw [qT];omega,by rw [qT];omega,_,rfl,?_⟩
  show (if id (eqD (.str w) (.str w'))=true then _ else _)
  rw [jl,hw]
  exact h
noncomputable abbrev Kq:Stmt:=top 23
theorem KN:zt ["_law_row","_law_hand","_law_deed_here","_law_one","_law_other"] ["_law_row","_law_hand","_law_deed_here"] (ze Kq):=⟨rfl,rfl,rfl,by decide +kernel,rfl,by decide +kernel,by decide +kernel⟩
theorem Et (a:At K mg "_law_done" Kq)(B:Blt mg):Df P w K mg base "_law_done" ["_law_row","_law_hand","_law_deed_here"] 1 (cSp VR):=by
 refine dfA (k:=0) a KN (fun _ _ _ _ _ _=>Pn3_ fun _ _ _=>rfl) (fun xs M Q h=>?_) (fun f cdv A outer s H E hr=>?_)
 ·obtain ⟨_,_,_,rfl,_⟩:=h;rfl
 have sc:=KN
 have hsl:=hsl
 refine ⟨_,(zc (zB (i:=0) sc.nd rfl (by first | exact Or.inl rfl | exact Or.inr rfl) (jF (zC jP rfl B.list qS (za (pv 0) zb))))
  (zc (zJ (zl (zX hr.units) (zx zD (pv 2) zd (fun _ _=>rfl)) zm (zq _)) (zc (Vc (i:=3) (j:=4) rfl sc.nd rfl rfl (by decide) rfl rfl (za (zx zD (pv 0) (zx zD (pv 2) zd (fun _ _=>rfl)) (fun _ _=>rfl)) (za (zx zD (pv 0) (zx zD (pv 2) zd (fun _ _=>rfl)) (fun _ _=>rfl)) zb)) rfl)
  (zf (qp (zy (za (pv 4) (za (pv 3) zb))) (qP (K:=K) 2 rfl rfl (zE (qz (pv 0) (zx zD (pv 2) zd (fun _ _=>rfl)) zI) (zE (qz (pv 0) (zx zD (pv 2) zd (fun _ _=>rfl)) zI) qO)))))) zr)
  (zc (zJ (zl (zX hr.units) (zx zD (pv 2) zd (fun _ _=>rfl)) zm (zq _)) (zf (qp (zy (za zS (za (zx zD (pv 0) (zx zD (pv 2) zd (fun _ _=>rfl)) (fun _ _=>rfl)) zb))) (qP (K:=K) 2 rfl rfl (zE (qz (pv 0) (zx zD (pv 2) zd (fun _ _=>rfl)) zI) (zE (zF (i:=1) sc.nd rfl (by first | exact Or.inl rfl | exact Or.inr rfl)) qO))))) zr)
  (zc (zJ (zl (zX hr.units) (zx zD (pv 2) zd (fun _ _=>rfl)) zm (zq _)) (zf (qp (zy (za zS (za (zx zD (pv 0) (zx zD (pv 2) zd (fun _ _=>rfl)) (fun _ _=>rfl)) zb))) (qP (K:=K) 2 rfl rfl (zE (qz (pv 0) (zx zD (pv 2) zd (fun _ _=>rfl)) zI) (zE (qz (pv 0) (zx zD (pv 2) zd (fun _ _=>rfl)) zI) qO))))) zr)
  (zc (zJ (zl (zX hr.units) (zx zD (pv 2) zd (fun _ _=>rfl)) zm (zq _)) (zf (qp (zy (za (pv 1) (za zS zb))) (qP (K:=K) 2 rfl rfl (zE (qz (pv 0) (zx zD (pv 2) zd (fun _ _=>rfl)) zI) (zE (zF (i:=1) sc.nd rfl (by first | exact Or.inl rfl | exact Or.inr rfl)) qO))))) zr)
  (Z1 0 (zf (zz (zy (za (pv 0) (za (pv 1) zb))))))))))),?_⟩
 refine ex2 (by walk_at "sim") ?_
 rintro xs M Q ⟨d,⟨row,hd⟩,st',rfl,hdo,hl,q⟩
 rw [show zQ ["_law_row","_law_hand","_law_deed_here","_law_one","_law_other"] [.d (.lst (row.map oD)),.d (oD hd),.d (dD d)]=[some (.d (.lst (row.map oD))),some (.d (oD hd)),some (.d (dD d)),none,none] from rfl]
 refine zg fun r1 hr1=>?_
 walk_at "ra"
 intro p hp _
 have hl:row.length<=1000:=hl
 have frz:∀ (row':List (Option Int)) (hd':Option Int) dd,st'=(row',hd')->∀ u v,u ≠ some (.ref p)->v ≠ some (.ref p)->AL 0 (Kl (El (qj (qA 0) (qj (qA 1) kC)))) M { nx:=fun x M'=>rtA M Q (.d .non) M',rt:=rtA M Q } [some (.ref p),some (.d (oD hd')),some (.d dd),u,v] (mup M p (Iu row')):=fun row' hd' dd e u v hu hv=>by
  subst e
  walk_at "ra"
  refine ⟨_,zh,_,zV _,hp,fun j hj z=>?_,fun q' o hq e=>?_,by omega,xV (fun q' hq'=>?_) q⟩
  ·match j with
   | 0=>exact hj rfl
   | 1=>cases z
   | 2=>cases z
   | 3=>exact hu (Option.some.inj z)
   | 4=>exact hv (Option.some.inj z)
   | n+5=>cases z
  ·rw [zu hq] at e;exact .inl e
  ·have hne:q' ≠ p:=fun z=>hq' (by rw [z];exact hp)
   rw [jR hne,zu hne]
 subst hr1
 cases hdo with
 | @swap a b row hd x y ne h1 h2=>
  rw [show dD (.swap a b)=.tup [.str (Str.ofString "swap"),.int (a:Int),.int (b:Int)] from rfl]
  refine vo rfl (by decide +kernel) ?_
  refine xD fun D hD=>?_
  walk_at "ra"
  obtain ⟨a1,a2⟩:=kG h1
  obtain ⟨b1,b2⟩:=kG h2
  refine ⟨_,rfl,_,qc zh,_,rfl,_,a1,_,rfl,_,qc zh,_,rfl,_,b1,by omega,_,rfl,_,_,rfl,zh,a,a2,_,rfl,_,_,rfl,zh,b,by rw [List.length_set];exact b2,?_⟩
  rw [jU,jU]
  subst hD
  refine jJ rfl (by decide +kernel) ?_
  refine jJ rfl (by decide +kernel) ?_
  refine jJ rfl (by decide +kernel) ?_
  exact frz _ _ _ rfl _ _ (fun z=>by cases x <;> cases z) (fun z=>by cases y <;> cases z)
 | @take a row x h1=>
  rw [show dD (.take a)=.tup [.str (Str.ofString "take"),.int (a:Int)] from rfl]
  refine jJ rfl (by decide +kernel) ?_
  refine vo rfl (by decide +kernel) ?_
  refine xD fun D hD=>?_
  walk_at "ra"
  obtain ⟨a1,a2⟩:=kG h1
  refine ⟨_,rfl,_,qc zh,_,rfl,_,a1,by omega,_,rfl,_,_,rfl,zh,a,a2,?_⟩
  rw [show ((row.map oD).map AV.d).set a (AV.d .non)=_ from jU row a none]
  subst hD
  refine jJ rfl (by decide +kernel) ?_
  refine jJ rfl (by decide +kernel) ?_
  exact frz _ (some x) _ rfl _ _ (fun z=>nomatch z) (fun z=>nomatch z)
 | @move a b row hd x h1 h2=>
  rw [show dD (.move a b)=.tup [.str (Str.ofString "move"),.int (a:Int),.int (b:Int)] from rfl]
  refine jJ rfl (by decide +kernel) ?_
  refine jJ rfl (by decide +kernel) ?_
  refine vo rfl (by decide +kernel) ?_
  refine xD fun D hD=>?_
  walk_at "ra"
  obtain ⟨a1,a2⟩:=kG h1
  obtain ⟨b1,b2⟩:=kG h2
  refine ⟨_,rfl,_,qc zh,_,rfl,_,a1,by omega,_,rfl,_,_,rfl,zh,a,a2,_,rfl,_,_,rfl,zh,b,by rw [List.length_set];exact b2,?_⟩
  rw [show ((row.map oD).map AV.d).set a (AV.d .non)=_ from jU row a none,jU]
  subst hD
  refine jJ rfl (by decide +kernel) ?_
  exact frz _ _ _ rfl _ _ (fun z=>nomatch z) (fun z=>nomatch z)
 | @lay g row x h1=>
  rw [show dD (.lay g)=.tup [.str (Str.ofString "lay"),.int (g:Int)] from rfl]
  refine jJ rfl (by decide +kernel) ?_
  refine jJ rfl (by decide +kernel) ?_
  refine jJ rfl (by decide +kernel) ?_
  refine vo rfl (by decide +kernel) ?_
  refine xD fun D hD=>?_
  walk_at "ra"
  obtain ⟨a1,a2⟩:=kG h1
  refine ⟨by omega,_,rfl,_,_,rfl,zh,g,a2,?_⟩
  rw [jU]
  subst hD
  exact frz _ none _ rfl _ _ (fun z=>nomatch z) (fun z=>nomatch z)
noncomputable def FA:ASp:=fun xs M Q=>∃ (b:Addr) (row:List (Option Int)) (h:Option Int) (N:Nat),xs=[.ref b,.d (.lst (row.map oD)),.d (oD h)]/\BxM M b N/\N<2000000/\row.length<=1000 /\
 ∀ M',BxS M M' b (N+10)->Q (.d .non) M'/\∀ d t,DoE d (row,h) t->Q (.d (dD d)) M'
noncomputable def vh (p:Option Int->Bool)(row:List (Option Int)):List Nat:=(List.range row.length).filter fun k=>p (row.getD k none)
noncomputable abbrev niA (l:List Nat):List AV:=l.map fun k:Nat=>AV.d (.int k)
theorem Xl {p:Option Int->Bool}{row:List (Option Int)}{k:Nat}(h:k ∈ vh p row):∃ c,row[k]?=some c/\p c=true:=by
 obtain ⟨h1,h2⟩:=List.mem_filter.mp h
 have hk:=List.mem_range.mp h1
 refine ⟨row.getD k none,?_,h2⟩
 rw [List.getD_eq_getElem?_getD,List.getElem?_eq_getElem hk];rfl
theorem Ht (p:Option Int->Bool)(row:List (Option Int)):(vh p row).Nodup:=List.Pairwise.sublist List.filter_sublist List.nodup_range
theorem Wy {l:List Nat}{r:Int}(h0:0<=r)(h1:r<l.length):∃ k,k ∈ l/\l[r.toNat]?=some k/\atI (niA l) r=some (.d (.int k)):=by
 have hr:r.toNat<l.length:=by omega
 refine ⟨l[r.toNat],List.getElem_mem hr,List.getElem?_eq_getElem hr,?_⟩
 unfold atI
 rw [qD h0 (by rw [List.length_map];exact h1)]
 show (niA l)[r.toNat]?=_
 rw [List.getElem?_map,List.getElem?_eq_getElem hr];rfl
theorem A3 {l:List Nat}{r t:Int}(h0:0<=r)(h1:r<l.length)(t0:0<=t)(t1:t<(l.length:Int) - 1):∃ j k,j ≠ r.toNat/\l[j]?=some k/\atI (niA l) (r - 1 - t)=some (.d (.int k)):=by
 by_cases c:0<=r - 1 - t
 ·obtain ⟨k,_,e1,e2⟩:=Wy (l:=l) c (by omega)
  exact ⟨(r - 1 - t).toNat,k,by omega,e1,e2⟩
 ·have hj:(r - 1 - t+l.length).toNat<l.length:=by omega
  refine ⟨(r - 1 - t+l.length).toNat,l[(r - 1 - t+l.length).toNat],by omega,List.getElem?_eq_getElem hj,?_⟩
  unfold atI ixN
  rw [List.length_map,if_neg c,if_pos (by omega)]
  show (niA l)[(r - 1 - t+(l.length:Int)).toNat]?=_
  rw [List.getElem?_map,List.getElem?_eq_getElem hj];rfl
theorem Q1 {p : Option Int -> Bool}{row : List (Option Int)}{at_ : AT}{N : List AV -> ASt -> MH -> Prop}{M : MH}{R : Option AV -> ASt}{u : Option AV}(hl : row.length <= 1000)
    (ht:∀ (o:Option AV) (k:Nat) (Q:Bool->MH->Prop),k<row.length->Q (p (row.getD k none)) M->at_ ((R o).set 7 (some (.d (.int k)))) M Q) (hv:∀ o (y:AV),(R o).set 7 (some y)=R (some y)) (h7:∀ (y:AV),(R (some y))[7]?=some (some y)) (hN:∀ o,N (niA (vh p row)) (R o) M) :
    Y4 (vM 7) at_ (vc (qA 7)) (fun _=>True) N (vT 0 1 row.length) [] (R u) M:=by
  refine YF R (fun y=>match y with | .d (.int k)=>p (row.getD k.toNat none) | _=>false) id ⟨_,rfl⟩ trivial (by rw [jw];omega) (fun o y Q hy q=>?_) fun o=>?_
  · obtain ⟨i,hi⟩:=List.getElem?_of_mem hy
    obtain ⟨hk,rfl⟩:=j9 hi
    rw [show (0:Int)+(i:Int) * 1=(i:Int) by omega] at q ⊢
    show at_ _ _ _
    refine ht o i _ hk ?_
    have q:Q (if p (row.getD (i:Int).toNat none)=true then some (id (AV.d (.int i))) else none) (R (some (.d (.int i)))) M:=q (some (.d (.int i)))
    rw [Int.toNat_natCast] at q
    cases hp:p (row.getD i none) with
    | true=>
      rw [if_pos rfl]
      refine ⟨_,by rw [hv];exact h7 _,?_⟩
      rw [hv]
      rw [hp,if_pos rfl] at q;exact q
    | false=>
      rw [if_neg (fun z=>nomatch z),hv]
      rw [hp,if_neg (fun z=>nomatch z)] at q;exact q
  · have e : ((vT 0 1 row.length).filter (fun y => match y with | .d (.int k) => p (row.getD k.toNat none) | _ => false)).map id = niA (vh p row) := by
      rw [List.map_id]
      unfold vT vh niA
      rw [List.filter_map]
      have:((fun y=>match y with | AV.d (.int k)=>p (row.getD k.toNat none) | _=>false) ∘ fun i:Nat=>AV.d (.int (0+(i:Int) * 1)))=fun k=>p (row.getD k none):=by
        funext k
        show p (row.getD (0+(k:Int) * 1).toNat none)=_
        rw [show (0+(k:Int) * 1).toNat=k by omega]
      rw [this]
      exact List.map_congr_left fun k _=>by rw [show (0:Int)+(k:Int) * 1=(k:Int) by omega]
    rw [e];exact hN o
theorem Ll (l:List Dat):eqD (.lst l) (.lst [])=l.isEmpty:=by cases l <;> simp [eqD,kh]
theorem tNe {i:Nat}{x:AV}{l:List Dat}{ρ:ASt}{M:MH}(h:ρ[i]?=some (some x))(hx:yf x M=some (.lst l))(hd:dp (.lst l)<=40):Tst (aB (aOp (wq not) (qA i) (aFz (Hl kC)))) ρ M (!l.isEmpty):=fun Q q=>
 ⟨_,h,Nat.zero_le _,_,rfl,_,_,hx,rfl,hd,by simp [dp,dps],_,rfl,by rw [Ll];exact q⟩
theorem yi (l:List Nat):dp (.lst (l.map fun k:Nat=>Dat.int k))<=40:=by
 rw [dp]
 have:=jE (l:=l.map fun k:Nat=>Dat.int k) (n:=0) fun d hd=>by obtain ⟨k,_,rfl⟩:=List.mem_map.mp hd;rw [qV];omega
 omega
theorem K2 {i:Nat}{l:List Nat}{b:Addr}{N:Nat}{ρ:ASt}{M:MH}{Q:AK}(h0:ρ[0]?=some (some (.ref b)))(hi:ρ[i]?=some (some (.d (.lst (l.map fun k:Nat=>Dat.int k)))))(hb:BxM M b N)(hN:N<10000000)(hl:l.length<=1000)(h:l ≠ [])(k:∀ k ∈ l,∀ M',BxS M M' b (N+1)->Q (.d (.int (k:Nat))) M') :
  aOp (aIx qw) (qA i) (Xh vA (qj (qA 0) (qj (aCB QD (qj (qA i) kC)) kC))) ρ M Q:=by
 have e:(l.map fun k:Nat=>Dat.int k).map AV.d=niA l:=by rw [List.map_map];rfl
 have hp:0<l.length:=List.length_pos_iff.mpr h
 refine ⟨_,hi,_,h0,_,hi,_,_,rfl,rfl,b,_,N,rfl,hb,by omega,by rw [e,List.length_map];omega,by rw [e,List.length_map];omega,fun r M' s r0 r1=>?_⟩
 rw [e,List.length_map] at r1
 obtain ⟨j,hj,_,a⟩:=Wy r0 r1
 exact ⟨_,_,_,rfl,rfl,by rw [e];exact a,k j hj M' s⟩
theorem vP {l:List Nat}(h:l ≠ []):(!(l.map fun k:Nat=>Dat.int k).isEmpty)=true:=by cases l;exact absurd rfl h;rfl
theorem QJ {M:MH}{p:Addr}{l:List AV}(h:M p=some (.lst l)):je (.ref p) M=some l:=by unfold je;dsimp only;rw [h]
structure DIn (M M':MH)(b p:Addr)(row:List (Option Int))(hd:Option Int)(N j:Nat)(ds:List De):Prop where
 sb:SB M M' b (N+2 * j)
 p0:M p=none
 pb:p ≠ b
 at_:M' p=some (.lst ((ds.map dD).map .d))
 len:ds.length<=2 * j
 ok:∀ d ∈ ds,∃ t,DoE d (row,hd) t
theorem DIn.mono {M M':MH}{b p:Addr}{row:List (Option Int)}{hd:Option Int}{N j k:Nat}{ds:List De}(I:DIn M M' b p row hd N j ds)(h:j<=k)(_:j<=k):DIn M M' b p row hd N k ds:=⟨I.sb.mono (by omega),I.p0,I.pb,I.at_,by have:=I.len;omega,I.ok⟩
structure Yu (M M':MH)(b p:Addr)(row:List (Option Int))(hd:Option Int)(N j:Nat)(ds:List De):Prop where
 sb:SB M M' b N
 p0:M p=none
 pb:p ≠ b
 at_:M' p=some (.lst ((ds.map dD).map .d))
 len:ds.length<=2 * j
 ok:∀ d ∈ ds,∃ t,DoE d (row,hd) t
theorem DIn.go {M M' M2:MH}{b p:Addr}{row:List (Option Int)}{hd:Option Int}{N j N':Nat}{ds:List De}(I:DIn M M' b p row hd N j ds)(s:BxS M' M2 b N'):Yu M M2 b p row hd N' j ds:=⟨I.sb.go s,I.p0,I.pb,by rw [s.at I.pb];exact I.at_,I.len,I.ok⟩
theorem Yu.go {M M' M2:MH}{b p:Addr}{row:List (Option Int)}{hd:Option Int}{N j N':Nat}{ds:List De}(I:Yu M M' b p row hd N j ds)(s:BxS M' M2 b N'):Yu M M2 b p row hd N' j ds:=⟨I.sb.go s,I.p0,I.pb,by rw [s.at I.pb];exact I.at_,I.len,I.ok⟩
theorem Yu.add {M M':MH}{b p:Addr}{row:List (Option Int)}{hd:Option Int}{N N0 j:Nat}{ds:List De}(I:Yu M M' b p row hd N j ds){d:De}{t:ES}(h:DoE d (row,hd) t)(hn:N<=N0+2 * (j+1)):DIn M (mup M' p (.lst ((ds.map dD).map .d ++ [.d (dD d)]))) b p row hd N0 (j+1) (ds ++ [d]):=by
 refine ⟨(I.sb.put I.p0 I.pb _).mono hn,I.p0,I.pb,?_,by rw [List.length_append];have:=I.len;show _+1<=_;omega,fun e he=>?_⟩
 ·rw [List.map_append,List.map_append];exact zh
 ·rcases List.mem_append.mp he with he | he
  ·exact I.ok e he
  ·rw [List.mem_singleton.mp he];exact ⟨t,h⟩
noncomputable abbrev Jh:Stmt:=top 22
theorem Xu:zt ["_law_box_here","_law_row","_law_hand","_law_there","_law_free","_law_some","_law_one","_law_k"] ["_law_box_here","_law_row","_law_hand"] (ze Jh):=⟨rfl,rfl,rfl,by decide +kernel,rfl,by decide +kernel,by decide +kernel⟩
theorem DV (a:At K mg "_law_deed" Jh)(B:Blt mg)(D_law_take:Df P w K mg base "_law_take" ["_law_box_here","_law_many"] 1 (cSp vA)):Df P w K mg base "_law_deed" ["_law_box_here","_law_row","_law_hand"] 2 (cSp FA):=by
 refine dfA (k:=1) a Xu (fun _ _ _ _ _ _=>Pn3_ fun _ _ _=>rfl) (fun xs M Q h=>?_) (fun f cdv A outer s H E hr=>?_)
 ·obtain ⟨_,_,_,_,rfl,_⟩:=h;rfl
 have sc:=Xu
 have hsl:=hsl
 refine ⟨_,(zc (ZG (j:=3) rfl sc.nd rfl (by first | exact Or.inl rfl | exact Or.inr rfl) (ts:=[7]) rfl (ju rfl B.range (za (zo zp rfl B.len qd (za (pv 1) zb)) zb)) (fun _ _ _ _=>(zF (i:=7) sc.nd rfl (by first | exact Or.inl rfl | exact Or.inr rfl))) (fun _ _ _ _=>K9 (zl jm (zx (Zv (K:=K) rfl) (pv 1) (pv 7) (fun _ _=>rfl)) zS (zq _))) (fun _ _ _ _=>(pv 7)))
  (zc (ZG (j:=4) rfl sc.nd rfl (by first | exact Or.inl rfl | exact Or.inr rfl) (ts:=[7]) rfl (ju rfl B.range (za (zo zp rfl B.len qd (za (pv 1) zb)) zb)) (fun _ _ _ _=>(zF (i:=7) sc.nd rfl (by first | exact Or.inl rfl | exact Or.inr rfl))) (fun _ _ _ _=>K9 (zl xf (zx (Zv (K:=K) rfl) (pv 1) (pv 7) (fun _ _=>rfl)) zS (zq _))) (fun _ _ _ _=>(pv 7)))
  (zc (zB (i:=5) sc.nd rfl (by first | exact Or.inl rfl | exact Or.inr rfl) (jF (zL zb)))
  (zc (zJ (zl Xv (zo zp rfl B.len qd (za (pv 3) zb)) zd (zq _)) (zc (zB (i:=6) sc.nd rfl (by first | exact Or.inl rfl | exact Or.inr rfl) (zP D_law_take hr rfl (za (pv 0) (za (zo zp rfl B.len qd (za (pv 3) zb)) zb))))
  (zf (jb (yT PySem.F.plainAttrs_list PySem.F.slot_list_append PySem.F.type_list_append jW (pv 5) (za (zy (za zm (za (zx zD (pv 3) (pv 6) (fun _ _=>rfl)) (za (zx zD (pv 3) (zv kJ (zv kJ (pv 6) zd) (zP D_law_take hr rfl (za (pv 0) (za (zv kJ (zo zp rfl B.len qd (za (pv 3) zb)) zd) zb)))) (fun _ _=>rfl)) zb)))) zb))))) zr)
  (zc (zJ (PW.pt (xS (zl xf (pv 2) zS (zq _)) (kP (zl (j8 hr.units) (pv 3) (zL zb) (zq _))))) (zf (jb (yT PySem.F.plainAttrs_list PySem.F.slot_list_append PySem.F.type_list_append jW (pv 5) (za (zy (za zm (za (zx zD (pv 3) (zP D_law_take hr rfl (za (pv 0) (za (zo zp rfl B.len qd (za (pv 3) zb)) zb))) (fun _ _=>rfl)) zb))) zb)))) zr)
  (zc (zJ (PW.pt (xS (zl (j8 hr.units) (pv 3) (zL zb) (zq _)) (kP (zl (j8 hr.units) (pv 4) (zL zb) (zq _))))) (zf (zB (i:=5) sc.nd rfl (by first | exact Or.inl rfl | exact Or.inr rfl) (jF (zv qH (pv 5) (zv yM (zL (za (zy (za zm (za (zx zD (pv 3) (zP D_law_take hr rfl (za (pv 0) (za (zo zp rfl B.len qd (za (pv 3) zb)) zb))) (fun _ _=>rfl)) (za (zx zD (pv 4) (zP D_law_take hr rfl (za (pv 0) (za (zo zp rfl B.len qd (za (pv 4) zb)) zb))) (fun _ _=>rfl)) zb)))) zb)) zd))))) zr)
  (zc (zJ (PW.pt (xS (zl jm (pv 2) zS (zq _)) (kP (zl (j8 hr.units) (pv 4) (zL zb) (zq _))))) (zf (jb (yT PySem.F.plainAttrs_list PySem.F.slot_list_append PySem.F.type_list_append jW (pv 5) (za (zy (za zm (za (zx zD (pv 4) (zP D_law_take hr rfl (za (pv 0) (za (zo zp rfl B.len qd (za (pv 4) zb)) zb))) (fun _ _=>rfl)) zb))) zb)))) zr)
  (zf (zz (kD (zl (j8 hr.units) (pv 5) (zL zb) (zq _)) (zx zD (pv 5) (zP D_law_take hr rfl (za (pv 0) (za (zo zp rfl B.len qd (za (pv 5) zb)) zb))) (fun _ _=>rfl)) zS)))))))))),?_⟩
 refine ex2 (by walk_at "sim") ?_
 rintro xs M Q ⟨b,row,hd,N,rfl,hb,hN,hl,q⟩
 rw [show zQ ["_law_box_here","_law_row","_law_hand","_law_there","_law_free","_law_some","_law_one","_law_k"] [.ref b,.d (.lst (row.map oD)),.d (oD hd)]=[some (.ref b),some (.d (.lst (row.map oD))),some (.d (oD hd)),none,none,none,none,none] from rfl]
 have sb:=SB.refl hb
 refine zg fun r1 hr1=>?_
 walk_at "ra"
 refine ⟨by omega,by omega,?_⟩
 rw [Int.toNat_natCast]
 have pn:∀ l:List Nat,pur (niA l)=some (l.map fun k:Nat=>Dat.int k):=fun l=>by
  unfold niA;rw [show (fun k:Nat=>AV.d (.int k))=AV.d ∘ fun k:Nat=>Dat.int k from rfl,<- List.map_map];exact zV _
 refine Q1 (p:=fun c=>c.isSome) (R:=fun o=>[some (.ref b),some (.d (.lst (row.map oD))),some (.d (oD hd)),none,none,none,none,o]) hl (fun o k Q hk q=>?_) (fun _ _=>rfl) (fun _=>rfl) fun o=>⟨_,pn _,?_⟩
 ·refine ⟨_,rfl,_,rfl,_,_,_,rfl,rfl,xp hk,rfl,_,rfl,?_⟩
  cases h:row.getD k none <;> rw [h] at q <;> exact q
 subst hr1
 refine zg fun r1 hr1=>?_
 walk_at "ra"
 refine ⟨by omega,by omega,?_⟩
 rw [Int.toNat_natCast]
 refine Q1 (p:=fun c=>c.isNone) (R:=fun o=>[some (.ref b),some (.d (.lst (row.map oD))),some (.d (oD hd)),some (.d (.lst ((vh (fun c=>c.isSome) row).map fun k:Nat=>Dat.int k))),none,none,none,o]) hl (fun o k Q hk q=>?_) (fun _ _=>rfl) (fun _=>rfl) fun o=>⟨_,pn _,?_⟩
 ·refine ⟨_,rfl,_,rfl,_,_,_,rfl,rfl,xp hk,rfl,_,rfl,?_⟩
  cases h:row.getD k none <;> rw [h] at q <;> exact q
 have hth:∀ k ∈ vh (fun c=>c.isSome) row,∃ x,row[k]?=some (some x):=fun k hk=>by
  obtain ⟨c,h1,h2⟩:=Xl hk
  cases c with
  | none=>cases h2
  | some x=>exact ⟨x,h1⟩
 have hfr:∀ k ∈ vh (fun c=>c.isNone) row,row[k]?=some none:=fun k hk=>by
  obtain ⟨c,h1,h2⟩:=Xl hk
  cases c with
  | none=>exact h1
  | some x=>cases h2
 have ndt:=Ht (fun c=>c.isSome) row
 have lth:(vh (fun c=>c.isSome) row).length<=1000:=Nat.le_trans (List.length_filter_le _ _) (by rw [List.length_range];exact hl)
 have lfr:(vh (fun c=>c.isNone) row).length<=1000:=Nat.le_trans (List.length_filter_le _ _) (by rw [List.length_range];exact hl)
 generalize vh (fun c=>c.isSome) row=th at *
 generalize vh (fun c=>c.isNone) row=fr at *
 subst hr1
 refine zg fun r1 hr1=>?_
 walk_at "ra"
 intro p hp _
 obtain ⟨p0,pb⟩:=sb.new hp
 have I0:DIn M (mup M p (.lst [])) b p row hd N 0 []:=⟨sb.put p0 pb _,p0,pb,zh,Nat.le_refl 0,by simp⟩
 generalize mup M p (.lst [])=M1 at *
 have mth:(th.map fun k:Nat=>Dat.int k).map AV.d=niA th:=by rw [List.map_map];rfl
 have mfr:(fr.map fun k:Nat=>Dat.int k).map AV.d=niA fr:=by rw [List.map_map];rfl
 subst hr1
 refine zg fun r1 hr1=>?_
 have go1:∀ ds u6 M',DIn M M' b p row hd N 1 ds->r1 M { nx:=fun x M'=>rtA M Q (.d .non) M',rt:=rtA M Q } [some (.ref b),some (.d (.lst (row.map oD))),some (.d (oD hd)),some (.d (.lst (th.map fun k:Nat=>Dat.int k))),some (.d (.lst (fr.map fun k:Nat=>Dat.int k))),some (.ref p),u6,none] M':=fun ds u6 M' I=>by
  subst hr1
  refine zg fun r1 hr1=>?_
  have go2:∀ ds M',DIn M M' b p row hd N 2 ds->r1 M { nx:=fun x M'=>rtA M Q (.d .non) M',rt:=rtA M Q } [some (.ref b),some (.d (.lst (row.map oD))),some (.d (oD hd)),some (.d (.lst (th.map fun k:Nat=>Dat.int k))),some (.d (.lst (fr.map fun k:Nat=>Dat.int k))),some (.ref p),u6,none] M':=fun ds M' I=>by
   subst hr1
   refine zg fun r1 hr1=>?_
   have go3:∀ p ds M',DIn M M' b p row hd N 3 ds->r1 M { nx:=fun x M'=>rtA M Q (.d .non) M',rt:=rtA M Q } [some (.ref b),some (.d (.lst (row.map oD))),some (.d (oD hd)),some (.d (.lst (th.map fun k:Nat=>Dat.int k))),some (.d (.lst (fr.map fun k:Nat=>Dat.int k))),some (.ref p),u6,none] M':=fun p ds M' I=>by
    subst hr1
    refine zg fun r1 hr1=>?_
    have go4:∀ ds M',DIn M M' b p row hd N 4 ds->r1 M { nx:=fun x M'=>rtA M Q (.d .non) M',rt:=rtA M Q } [some (.ref b),some (.d (.lst (row.map oD))),some (.d (oD hd)),some (.d (.lst (th.map fun k:Nat=>Dat.int k))),some (.d (.lst (fr.map fun k:Nat=>Dat.int k))),some (.ref p),u6,none] M':=fun ds M' I=>by
     subst hr1
     have hda:yf (.ref p) M'=some (.lst (ds.map dD)):=by unfold yf;dsimp only;rw [I.at_];dsimp only;rw [zV];rfl
     have hdd:dp (.lst (ds.map dD))<=40:=by
      rw [dp]
      have:=jE (l:=ds.map dD) (n:=1) fun x hx=>by obtain ⟨d,_,rfl⟩:=List.mem_map.mp hx;cases d <;> simp [dD,dp,dps]
      omega
     cases ds with
     | nil=>exact EB (zA (tNe rfl hda hdd) rfl) ((I.sb.mono (show _<=N+10 by omega)).rt fun M'' s=>(q M'' s).1)
     | cons d0 ds0=>
      refine F9 (zA (tNe rfl hda hdd) rfl) ?_
      have hsq:∀ {M2},M2 p=M' p->qw (.ref p) M2=some (((d0 :: ds0).map dD).map .d):=fun h=>by unfold qw;dsimp only;rw [h,I.at_]
      have hl8:=I.len
      refine ⟨_,rfl,_,rfl,_,rfl,_,_,rfl,hsq rfl,b,_,_,rfl,I.sb.bx,by omega,by rw [List.length_map,List.length_map,List.length_cons];omega,by rw [List.length_map,List.length_map];omega,fun r M2 s2 r0 r1=>?_⟩
      rw [List.length_map,List.length_map] at r1
      have hr:r.toNat<(d0 :: ds0).length:=by omega
      have hm:=List.getElem_mem hr
      obtain ⟨t,ht⟩:=I.ok _ hm
      refine ⟨_,_,.d (dD ((d0 :: ds0)[r.toNat])),hsq (s2.at I.pb),rfl,?_,((I.sb.go s2).mono (show _<=N+10 by omega)).rt fun M'' s=>(q M'' s).2 _ t ht⟩
      unfold atI
      rw [qD r0 (by rw [List.length_map,List.length_map];exact r1)]
      show (((d0 :: ds0).map dD).map AV.d)[r.toNat]?=_
      rw [List.getElem?_map,List.getElem?_map,List.getElem?_eq_getElem hr];rfl
    cases hd with
    | none=>exact qG (jH (zA (tNN rfl) rfl)) (go4 ds M' (I.mono (by omega) (by omega)))
    | some x=>
     by_cases hf:fr=[]
     ·exact qG (qU (zA (tNN rfl) rfl) (zA (tNe rfl rfl (yi _)) (by rw [hf];rfl))) (go4 ds M' (I.mono (by omega) (by omega)))
     refine Bk (qU (zA (tNN rfl) rfl) (zA (tNe rfl rfl (yi _)) (vP hf))) ?_
     have:=I.len
     refine ⟨_,rfl,⟨_,QJ I.at_⟩,K2 rfl rfl I.sb.bx (by omega) lfr hf fun k hk M2 s2=>⟨by show 2<=_;omega,_,rfl,_,_,_,rfl,rfl,(I.go s2).at_,by rw [List.length_map,List.length_map];omega,go4 _ _ ((I.go s2).add (d:=.lay k) (DoE.lay (hfr k hk)) (by omega))⟩⟩
   by_cases ht:th=[]
   ·exact qG (jH (zA (tNe rfl rfl (yi _)) (by rw [ht];rfl))) (go3 p ds M' (I.mono (by omega) (by omega)))
   by_cases hf:fr=[]
   ·exact qG (qU (zA (tNe rfl rfl (yi _)) (vP ht)) (zA (tNe rfl rfl (yi _)) (by rw [hf];rfl))) (go3 p ds M' (I.mono (by omega) (by omega)))
   refine Bk (qU (zA (tNe rfl rfl (yi _)) (vP ht)) (zA (tNe rfl rfl (yi _)) (vP hf))) ?_
   have:=I.len
   refine ⟨_,rfl,K2 rfl rfl I.sb.bx (by omega) lth ht fun k hk M2 s2=>K2 rfl rfl (I.go s2).sb.bx (by omega) lfr hf fun g hg M3 s3=>?_⟩
   obtain ⟨x,hx⟩:=hth k hk
   have I3:=(I.go s2).go s3
   refine ⟨by show 3<=_;omega,_,rfl,by show 1<=_;omega,_,rfl,_,_,rfl,rfl,by decide,by decide,by show 1 * 2<=_;omega,_,rfl,_,_,QJ I3.at_,rfl,by rw [List.length_map,List.length_map];show _+2<=_;omega,fun p' hp0 hp'=>?_⟩
   obtain ⟨q0,qb⟩:=I3.sb.new hp'
   refine go3 p' (ds ++ [.move k g,.move k g]) _ ⟨(I3.sb.put q0 qb _).mono (by omega),q0,qb,?_,by rw [List.length_append];show _+2<=_;omega,fun e he=>?_⟩
   ·rw [List.map_append,List.map_append];exact zh
   ·rcases List.mem_append.mp he with he | he
    ·exact I.ok e he
    ·obtain rfl | rfl:e=.move k g \/ e=.move k g:=by simpa using he
     all_goals exact ⟨_,DoE.move hx (hfr g hg)⟩
  cases hd with
  | some x=>exact qG (jH (zA (tIN rfl) rfl)) (go2 ds M' (I.mono (by omega) (by omega)))
  | none=>
   by_cases ht:th=[]
   ·exact qG (qU (zA (tIN rfl) rfl) (zA (tNe rfl rfl (yi _)) (by rw [ht];rfl))) (go2 ds M' (I.mono (by omega) (by omega)))
   refine Bk (qU (zA (tIN rfl) rfl) (zA (tNe rfl rfl (yi _)) (vP ht))) ?_
   have:=I.len
   refine ⟨_,rfl,⟨_,QJ I.at_⟩,K2 rfl rfl I.sb.bx (by omega) lth ht fun k hk M2 s2=>⟨by show 2<=_;omega,_,rfl,_,_,_,rfl,rfl,(I.go s2).at_,by rw [List.length_map,List.length_map];omega,?_⟩⟩
   obtain ⟨x,hx⟩:=hth k hk
   exact go2 _ _ ((I.go s2).add (d:=.take k) (DoE.take hx) (by omega))
 refine D0 fun r2 hr2=>?_
 walk_at "ra"
 by_cases c:1<(th.length:Int)
 case neg=>rw [if_neg c];exact go1 [] none M1 (I0.mono (by omega) (by omega))
 rw [if_pos c]
 subst hr2
 walk_at "ra"
 refine ⟨b,_,_,rfl,I0.sb.bx,by omega,by omega,by omega,fun one M2 s2 o0 o1=>?_⟩
 have I1:=I0.go s2
 obtain ⟨k1,m1,e1,a1⟩:=Wy o0 o1
 refine ⟨⟨_,QJ I1.at_⟩,_,rfl,_,by rw [mth];exact a1,_,rfl,b,_,_,rfl,I1.sb.bx,by omega,by omega,by omega,fun oth M3 s3 t0 t1=>?_⟩
 have I2:=I1.go s3
 obtain ⟨j,k2,hj,e2,a2⟩:=A3 o0 o1 t0 t1
 obtain ⟨x1,hx1⟩:=hth k1 m1
 obtain ⟨x2,hx2⟩:=hth k2 (List.mem_of_getElem? e2)
 refine ⟨_,rfl,_,by rw [mth];exact a2,by omega,_,rfl,_,I2.at_,by show 0<_;omega,?_⟩
 refine go1 _ _ _ (I2.add (d:=.swap k1 k2) (DoE.swap (fun z=>hj ?_) hx1 hx2) (by omega))
 subst z
 exact (List.getElem?_inj (List.getElem?_eq_some_iff.mp e2).1 ndt).mp (e2.trans e1.symm)
noncomputable def Wb:WD:=fun xs M Q=>∃ (b:Addr) (n N:Nat) (m:Int),xs=[.ref b,.d (.int n),.d (.int m)]/\n<=1000/\0<=m/\m<=100/\BxM M b N/\N<1000000 /\
 ∀ M' (ds:List De) (st:ES) p,BxS M M' b (N+10 * m.toNat)->M p=none->p ≠ b->ds.length<=m.toNat->kT ds ((qa 0 1 n).map some,none) st->Q [.ref p,.d (.lst (st.1.map oD)),.d (oD st.2)] (mup M' p (.lst ((ds.map dD).map .d)))
theorem Iy {c:AT}{t:AS}{B:MH}{D:qX}{ρ:ASt}{M:MH}(h:Tst c ρ M true)(k:t B D ρ M):xN c t jX B D ρ M:=h _ (by rw [if_pos rfl];exact k)
theorem exT {t:TS}{q:AST->Prop}{b:AST}(h:Zd t b)(k:q b):∃ b,Zd t b/\q b:=⟨b,h,k⟩
noncomputable abbrev Jg:Stmt:=top 24
theorem Xk:zt ["_law_box_here","_law_n","_law_many","_law_turn","_law_row","_law_hand","_law_plan_here","_law_deed_here"] ["_law_box_here","_law_n","_law_many"] (ze Jg):=⟨rfl,rfl,rfl,by decide +kernel,rfl,by decide +kernel,by decide +kernel⟩
theorem DI (a:At K mg "_law_plan" Jg)(B:Blt mg)(D_law_deed:Df P w K mg base "_law_deed" ["_law_box_here","_law_row","_law_hand"] 2 (cSp FA))(D_law_done:Df P w K mg base "_law_done" ["_law_row","_law_hand","_law_deed_here"] 2 (cSp VR)):Df P w K mg base "_law_plan" ["_law_box_here","_law_n","_law_many"] 3 (Dw Wb):=by
 refine dfT (k:=2) a Xk (fun _ _ _ _ _ _=>Pn3_ fun _ _ _=>rfl) (fun xs M Q h=>?_) (fun f cdv A outer s H E hr=>?_)
 ·obtain ⟨_,_,_,_,rfl,_⟩:=h;rfl
 have sc:=Xk
 have hsl:=hsl
 refine' ⟨_,?q0,?qr⟩
 (case q0=>
  refine' zc ?s1 ?s2
  (case s1=>exact (ER (i:=4) (j:=5) (k:=6) rfl sc.nd rfl rfl rfl (by decide) (by decide) (by decide) rfl rfl rfl (za (zC (qZ rfl) rfl B.list qS (za (zC jz rfl B.range xq (za (pv 1) zb)) zb)) (za zS (za (jF (zL zb)) zb))) rfl))
  (case s2=>
   refine' zc ?s3 ?s4
   (case s3=>exact (jZ PassesOwn.never rfl (ju rfl B.range (za (pv 2) zb)) (zF (i:=3) sc.nd rfl (by first | exact Or.inl rfl | exact Or.inr rfl)) (zc (zB (i:=7) sc.nd rfl (by first | exact Or.inl rfl | exact Or.inr rfl) (zP D_law_deed hr rfl (za (pv 0) (za (pv 4) (za (pv 5) zb))))) (zf (zJ (zl jm (pv 7) zS (zq _)) (zc (jb (yT PySem.F.plainAttrs_list PySem.F.slot_list_append PySem.F.type_list_append jW (pv 6) (za (pv 7) zb))) (zf (qp (zP D_law_done hr rfl (za (pv 4) (za (pv 5) (za (pv 7) zb)))) (qP (K:=K) 2 rfl rfl (zE (zF (i:=4) sc.nd rfl (by first | exact Or.inl rfl | exact Or.inr rfl)) (zE (zF (i:=5) sc.nd rfl (by first | exact Or.inl rfl | exact Or.inr rfl)) qO)))))) zr)))))
   (case s4=>exact (zf (zz (zy (za (pv 6) (za (pv 4) (za (pv 5) zb)))))))))
 refine exT (by walk_at "sim") ?_
 rintro xs M Q ⟨b,n,N,m,rfl,hn,hm0,hm1,hb,hN,q⟩
 rw [show zQ ["_law_box_here","_law_n","_law_many","_law_turn","_law_row","_law_hand","_law_plan_here","_law_deed_here"] [.ref b,.d (.int n),.d (.int m)]=[some (.ref b),some (.d (.int n)),some (.d (.int m)),none,none,none,none,none] from rfl]
 refine QK fun r1 hr1=>?_
 walk_at "ra"
 refine ⟨0,n,1,rfl,small_one (by omega) (by omega) (by omega) (by omega),n,by rw [rangeSize_one];split <;> omega,by omega,fun p hp _=>?_⟩
 have pb:p ≠ b:=fun z=>hb.ne (z ▸ hp)
 subst hr1
 refine QK fun r1 hr1=>?_
 walk_at "ra"
 refine ⟨by omega,by omega,?_⟩
 refine ⟨fun i ρ Mi=>∃ (u3 u7:Option AV) (st:ES) (ds:List De),ρ=[some (.ref b),some (.d (.int n)),some (.d (.int m)),u3,some (.d (.lst (st.1.map oD))),some (.d (oD st.2)),some (.ref p),u7]/\BxM Mi b (N+10 * i)/\Mi p=some (.lst ((ds.map dD).map .d))/\(∀ q,q ≠ b->q ≠ p->Mi q=M q)/\ds.length<=i/\st.1.length=n/\kT ds ((qa 0 1 n).map some,none) st,?_,?_,?_⟩
 ·exact ⟨none,none,((qa 0 1 n).map some,none),[],by rw [List.map_map];rfl,((SB.refl hb).put hp pb _).bx,zh,fun q h1 h2=>zu h2,Nat.le_refl 0,by rw [List.length_map,zZ],.nil⟩
 ·rintro i y ρ Mi hy ⟨u3,u7,⟨row,hd⟩,ds,rfl,bx,hpl,fr,ld,lr,hdo⟩
  obtain ⟨hi,rfl⟩:=j9 hy
  have lr:row.length=n:=lr
  refine ⟨trivial,_,rfl,_,rfl,_,rfl,b,row,hd,N+10 * i,rfl,bx,by omega,by omega,fun M2 s2=>?_⟩
  have p2:M2 p=_:=(s2.at pb).trans hpl
  refine ⟨WI (zA (tNN rfl) rfl) ⟨_,_,(row,hd),ds,rfl,s2.1.mono (by omega),p2,fun q h1 h2=>(s2.at h1).trans (fr q h1 h2),by omega,lr,hdo⟩,fun d t hd'=>?_⟩
  refine Iy (zA (tNN rfl) (by cases d <;> rfl)) ?_
  refine ⟨_,rfl,⟨_,QJ p2⟩,_,rfl,_,_,_,rfl,rfl,p2,by rw [List.length_map,List.length_map];omega,?_⟩
  refine ⟨_,rfl,_,rfl,_,rfl,d,(row,hd),t,rfl,hd',by show row.length<=1000;omega,?_⟩
  walk_at "ra"
  refine ⟨_,t,rfl,rfl,rfl,(s2.1.mono (by omega)).put (Ne.symm pb) _,ds ++ [d],?_,fun q h1 h2=>(zu h2).trans ((s2.at h1).trans (fr q h1 h2)),by rw [List.length_append];show _+1<=_;omega,hd'.len.trans lr,hdo.append (.one hd')⟩
  rw [List.map_append,List.map_append];exact zh
 ·rintro ρ Mi ⟨u3,u7,st,ds,rfl,bx,hpl,fr,ld,lr,hdo⟩
  subst hr1
  walk_at "ra"
  refine ⟨by omega,?_⟩
  rw [jw] at bx ld
  obtain ⟨o,ho⟩:∃ o,Mi b=some o:=by
   cases e:Mi b with
   | none=>exact absurd e bx.ne
   | some o=>exact ⟨o,rfl⟩
  have e1:Mi=mup (mup M b o) p (.lst ((ds.map dD).map .d)):=by
   funext q
   by_cases c:q=p
   ·rw [c,hpl,zh]
   rw [zu c]
   by_cases c2:q=b
   ·rw [c2,ho,zh]
   ·rw [zu c2];exact fr q c2 c
  have bx2:BxM (mup M b o) b (N+10 * m.toNat):=by
   obtain ⟨x,y,z,h,k⟩:=bx
   exact ⟨x,y,z,by rw [zh,<- ho];exact h,k⟩
  rw [e1]
  exact q _ ds st p ⟨bx2,o,rfl⟩ hp pb ld hdo
theorem xC {row:List (Option Int)}{a:Nat}{c:Option Int}(h:row[a]?=some c):a<row.length/\row.getD a none=c:=⟨(List.getElem?_eq_some_iff.mp h).1,by rw [List.getD_eq_getElem?_getD,h];rfl⟩
theorem wQ {n a:Nat}(h:a<n):zU (.int (a:Int)) n=true:=decide_eq_true ⟨by omega,by omega⟩
noncomputable def jN (ms:List Int):Option Int->List Int
 | none=>ms
 | some x=>kr ms x
noncomputable def jQ (s:ES):De->List (Option Int)
 | .swap a b=>[s.1.getD a none,s.1.getD b none]
 | .take p=>[s.1.getD p none]
 | .move p g=>[s.1.getD p none,s.1.getD g none]
 | .lay _=>[s.2]
theorem Zm {d:De}{s t:ES}(h:DoE d s t)(ms:List Int):doR s ms (dD d)=.ok (t,(jQ s d).foldl jN ms):=by
 cases h with
 | @swap a b row hd x y ne h1 h2=>
  obtain ⟨l1,g1⟩:=xC h1
  obtain ⟨l2,g2⟩:=xC h2
  have hf:zY (dD (.swap a b)) row.length=true:=by
   show (jk (Str.ofString "swap") == some 2 && [Dat.int (a:Int),Dat.int (b:Int)].all (zU · row.length))=true
   simp only [List.all_cons,List.all_nil,wQ l1,wQ l2];rfl
  show _=Except.ok (_,[row.getD a none,row.getD b none].foldl jN ms)
  unfold doR
  rw [if_pos hf]
  show jg (row,hd) ms a b=_
  unfold jg
  rw [if_neg ne]
  dsimp only
  rw [g1,g2];rfl
 | @take p row x h1=>
  obtain ⟨l1,g1⟩:=xC h1
  have hf:zY (dD (.take p)) row.length=true:=by
   show (jk (Str.ofString "take") == some 1 && [Dat.int (p:Int)].all (zU · row.length))=true
   simp only [List.all_cons,List.all_nil,wQ l1];rfl
  show _=Except.ok (_,[row.getD p none].foldl jN ms)
  unfold doR
  rw [if_pos hf]
  show jh (row,none) ms p=_
  unfold jh
  dsimp only
  rw [g1];rfl
 | @move p g row hd x h1 h2=>
  obtain ⟨l1,g1⟩:=xC h1
  obtain ⟨l2,g2⟩:=xC h2
  have ne:p ≠ g:=fun z=>by rw [z,h2] at h1;cases h1
  have hf:zY (dD (.move p g)) row.length=true:=by
   show (jk (Str.ofString "move") == some 2 && [Dat.int (p:Int),Dat.int (g:Int)].all (zU · row.length))=true
   simp only [List.all_cons,List.all_nil,wQ l1,wQ l2];rfl
  show _=Except.ok (_,[row.getD p none,row.getD g none].foldl jN ms)
  unfold doR
  rw [if_pos hf]
  show qW (row,hd) ms p g=_
  unfold qW
  rw [if_neg ne]
  dsimp only
  rw [g2];dsimp only;rw [g1];rfl
 | @lay g row x h1=>
  obtain ⟨l1,g1⟩:=xC h1
  have hf:zY (dD (.lay g)) row.length=true:=by
   show (jk (Str.ofString "lay") == some 1 && [Dat.int (g:Int)].all (zU · row.length))=true
   simp only [List.all_cons,List.all_nil,wQ l1];rfl
  show _=Except.ok (_,[some x].foldl jN ms)
  unfold doR
  rw [if_pos hf]
  show kO (row,some x) ms g=_
  unfold kO
  dsimp only
  rw [g1];rfl
theorem xw {row:List (Option Int)}{a:Nat}{c:Option Int}(h:a<row.length)(g:row.getD a none=c):row[a]?=some c:=by
 rw [List.getD_eq_getElem?_getD,List.getElem?_eq_getElem h] at g
 rw [List.getElem?_eq_getElem h]
 exact congrArg some g
theorem ZQ {s:ES}{ms:List Int}{x:Dat}{t:RS}(h:doR s ms x=.ok t):∃ d,x=dD d/\DoE d s t.1:=by
 obtain ⟨row,hd⟩:=s
 unfold doR at h
 by_cases hf:zY x row.length=true
 case neg=>rw [if_neg hf] at h;cases h
 rw [if_pos hf] at h
 obtain ⟨w,ps,rfl,hpl,hps⟩:=xB hf
 dsimp only at h
 by_cases w1:w=Str.ofString "swap"
 ·rw [if_pos w1] at h
  obtain ⟨a,b,rfl,ha,hb⟩:=yE hpl hps (.inl w1)
  have h:jg (row,hd) ms a b=.ok t:=h
  unfold jg at h
  by_cases hab:a=b
  ·rw [if_pos hab] at h;cases h
  rw [if_neg hab] at h
  dsimp only at h
  cases hx:row.getD a none with
  | none=>rw [hx] at h;cases h
  | some x=>
   cases hy:row.getD b none with
   | none=>rw [hx,hy] at h;cases h
   | some y=>
    rw [hx,hy] at h
    cases h
    exact ⟨.swap a b,by rw [w1];rfl,.swap hab (xw ha hx) (xw hb hy)⟩
 rw [if_neg w1] at h
 by_cases w2:w=Str.ofString "take"
 ·rw [if_pos w2] at h
  obtain ⟨a,rfl,ha⟩:=yz hpl hps w1 (by rw [w2];decide +kernel)
  have h:jh (row,hd) ms a=.ok t:=h
  unfold jh at h
  dsimp only at h
  cases hd with
  | some y=>cases h
  | none=>
   dsimp only at h
   cases hx:row.getD a none with
   | none=>rw [hx] at h;cases h
   | some x=>
    rw [hx] at h
    cases h
    exact ⟨.take a,by rw [w2];rfl,.take (xw ha hx)⟩
 rw [if_neg w2] at h
 by_cases w3:w=Str.ofString "move"
 ·rw [if_pos w3] at h
  obtain ⟨a,b,rfl,ha,hb⟩:=yE hpl hps (.inr w3)
  have h:qW (row,hd) ms a b=.ok t:=h
  unfold qW at h
  by_cases hab:a=b
  ·rw [if_pos hab] at h;cases h
  rw [if_neg hab] at h
  dsimp only at h
  cases hy:row.getD b none with
  | some y=>rw [hy] at h;cases h
  | none=>
   rw [hy] at h
   dsimp only at h
   cases hx:row.getD a none with
   | none=>rw [hx] at h;cases h
   | some x=>
    rw [hx] at h
    cases h
    exact ⟨.move a b,by rw [w3];rfl,.move (xw ha hx) (xw hb hy)⟩
 rw [if_neg w3] at h
 obtain ⟨b,rfl,hb⟩:=yz hpl hps w1 w3
 have w4:w=Str.ofString "lay":=by
  unfold jk at hpl
  rw [if_neg w1,if_neg w2,if_neg w3] at hpl
  by_cases c:w=Str.ofString "lay"
  ·exact c
  ·rw [if_neg c] at hpl;cases hpl
 have h:kO (row,hd) ms b=.ok t:=h
 unfold kO at h
 dsimp only at h
 cases hy:row.getD b none with
 | some y=>rw [hy] at h;cases h
 | none=>
  rw [hy] at h
  dsimp only at h
  cases hd with
  | none=>cases h
  | some x=>
   cases h
   exact ⟨.lay b,by rw [w4];rfl,.lay (xw hb hy)⟩
noncomputable def Qw:ASp:=fun xs M Q=>∃ (m:Addr) (d:De) (s t:ES) (ms:List Int),xs=[.ref m,.d (.lst (s.1.map oD)),.d (oD s.2),.d (dD d)]/\M m=some (msA ms)/\DoE d s t/\OkM s ms.length/\s.1.length<=1000/\Q (.d .non) (mup M m (msA ((jQ s d).foldl jN ms)))
theorem Yf (ms:List Int)(c:Option Int):(jN ms c).length=ms.length:=by cases c;rfl;exact Qn _ _
theorem xy (cs:List (Option Int)):∀ ms,(cs.foldl jN ms).length=ms.length:=by
 induction cs with
 | nil=>exact fun _=>rfl
 | cons c cs ih=>intro ms;rw [List.foldl_cons,ih,Yf]
theorem Yt {α:Type}{l:List α}{i:Nat}{x:α}(h:l[i]?=some x):l.take (i+1)=l.take i ++ [x]:=by rw [List.take_succ,h];rfl
theorem Ha {M:MH}{p:Addr}{o:MO}(h:M p=some o):mup M p o=M:=by
 funext b;unfold mup;by_cases c:b=p
 ·rw [if_pos c,c,h]
 ·rw [if_neg c]
theorem Gd (M:MH)(m:Addr)(ms:List Int){d:Dat}:vi M (mup M m (msA ms)) (.d d) (.d d) (mup M m (msA ms)):=by
 refine ⟨fun q=>.inl rfl,fun q o e=>?_,.inl ⟨rfl,fun p z=>nomatch z⟩⟩
 by_cases c1:q=m
 ·rw [c1,zh] at e
  cases e
  exact .inr fun z hz=>absurd hz (xI (ds:=ms.map .int) (qy _) z)
 ·rw [zu c1] at e;exact .inl e
theorem at0 (x:AV)(l:List AV):atI (x :: l) 0=some x:=by
 unfold atI
 rw [qD (by omega) (by rw [List.length_cons];omega)]
 rfl
noncomputable def dW:De->Str
 | .swap _ _=>Str.ofString "swap"
 | .take _=>Str.ofString "take"
 | .move _ _=>Str.ofString "move"
 | .lay _=>Str.ofString "lay"
noncomputable def dPs:De->List Nat
 | .swap a b=>[a,b]
 | .take a=>[a]
 | .move a b=>[a,b]
 | .lay a=>[a]
theorem Fk (d:De):dD d=.tup (.str (dW d) :: (dPs d).map fun k:Nat=>Dat.int k):=by cases d <;> rfl
theorem Kz (d:De):(dPs d).length<=2:=by cases d <;> simp [dPs]
theorem Lp (w:Str)(ps:List Dat):¬(HT.sIx (Dat.str w :: ps).length 0 (some 1)=0/\HT.sIx (Dat.str w :: ps).length (Dat.str w :: ps).length none=(Dat.str w :: ps).length):=by
 rintro ⟨z,_⟩
 unfold HT.sIx at z
 simp at z
 try omega
theorem Dl (w:Str)(ps:List Dat):jO (Dat.str w :: ps) (some 1) none=ps:=by
 rw [show (some 1:Option Int)=some ((1:Nat):Int) from rfl,yK];rfl
theorem Fx {d:De}{s t:ES}(h:DoE d s t):∀ k ∈ dPs d,k<s.1.length:=by
 have g:∀ {row:List (Option Int)} {a:Nat} {c:Option Int},row[a]?=some c->a<row.length:=fun h=>(List.getElem?_eq_some_iff.mp h).1
 cases h <;> intro k hk <;> simp only [dPs,List.mem_cons,List.not_mem_nil,or_false] at hk
 ·rename_i h1 h2;rcases hk with rfl | rfl;exact g h1;exact g h2
 ·rename_i h1;subst hk;exact g h1
 ·rename_i h1 h2;rcases hk with rfl | rfl;exact g h1;exact g h2
 ·rename_i h1;subst hk;exact g h1
theorem WQ {d:De}{s t:ES}{n:Nat}(h:DoE d s t)(ok:OkM s n):∀ x,some x ∈ jQ s d->0<=x/\x<(n:Int):=by
 have g:∀ (k:Nat) x,s.1.getD k none=some x->0<=x/\x<(n:Int):=fun k x e=>by
  by_cases c:k<s.1.length
  ·rw [List.getD_eq_getElem?_getD,List.getElem?_eq_getElem c] at e
   exact ok.1 x (by rw [<- show s.1[k]=some x from e];exact List.getElem_mem c)
  ·rw [List.getD_eq_getElem?_getD,List.getElem?_eq_none (by omega)] at e;cases e
 intro x hx
 cases d <;> simp only [jQ,List.mem_cons,List.not_mem_nil,or_false] at hx
 ·rcases hx with hx | hx <;> exact g _ x hx.symm
 ·exact g _ x hx.symm
 ·rcases hx with hx | hx <;> exact g _ x hx.symm
 ·exact ok.2 x hx.symm
noncomputable abbrev xP:Stmt:=top 28
theorem y9:zt ["_law_moved","_law_row","_law_hand","_law_deed_here","_law_some","_law_thing","_law_place"] ["_law_moved","_law_row","_law_hand","_law_deed_here"] (ze xP):=⟨rfl,rfl,rfl,by decide +kernel,rfl,by decide +kernel,by decide +kernel⟩
theorem QW (a:At K mg "_law_counted" xP)(B:Blt mg):Df P w K mg base "_law_counted" ["_law_moved","_law_row","_law_hand","_law_deed_here"] 1 (cSp Qw):=by
  refine dfA (k:=0) a y9 (fun _ _ _ _ _ _=>Pn4_ fun _ _ _ _=>rfl) (fun xs M Q h=>?_) (fun f cdv A outer s H E hr=>?_)
  · obtain ⟨_,_,_,_,_,rfl,_⟩:=h;rfl
  have sc:=y9
  have hsl:=hsl
  refine ⟨_,(zc (ZG (j:=4) rfl sc.nd rfl (by first | exact Or.inl rfl | exact Or.inr rfl) (ts:=[6]) rfl (vb (zR yC (pv 3) (zO zd) qg)) (fun _ _ _ _=>(zF (i:=6) sc.nd rfl (by first | exact Or.inl rfl | exact Or.inr rfl))) (fun _ _ _ _=>xv) (fun _ _ _ _=>(zx (Zv (K:=K) rfl) (pv 1) (pv 6) (fun _ _=>rfl))))
    (zc (zJ (zl (zX hr.units) (zx zD (pv 3) zd (fun _ _=>rfl)) zm (zq _)) (zf (zB (i:=4) sc.nd rfl (by first | exact Or.inl rfl | exact Or.inr rfl) (zL (za (pv 2) zb)))) zr)
    (zf (jZ PassesOwn.never rfl (vb (pv 4)) (zF (i:=5) sc.nd rfl (by first | exact Or.inl rfl | exact Or.inr rfl)) (zf (zJ (zl jm (pv 5) zS (zq _)) (zf (qp (zv qh (zx zD (pv 0) (pv 5) (fun _ _=>rfl)) zd) (qz (pv 0) (pv 5) zI))) zr)))))),?_⟩
  refine ex2 (by walk_at "sim") ?_
  rintro xs M Q ⟨m,d,⟨row,hd⟩,t,ms,rfl,hm,hd',ok,hl,q⟩
  rw [show zQ ["_law_moved","_law_row","_law_hand","_law_deed_here","_law_some","_law_thing","_law_place"] [.ref m,.d (.lst (row.map oD)),.d (oD hd),.d (dD d)]=[some (.ref m),some (.d (.lst (row.map oD))),some (.d (oD hd)),some (.d (dD d)),none,none,none] from rfl]
  refine zg fun r1 hr1=>?_
  walk_at "ra"
  rw [Fk]
  refine ⟨_,rfl,Lp _ _,?_⟩
  rw [Dl]
  have hk:=Fx hd'
  refine JG (fun (o:Option AV)=>[some (.ref m),some (.d (.lst (row.map oD))),some (.d (oD hd)),some (.d (.tup (.str (dW d) :: (dPs d).map fun k:Nat=>Dat.int k))),none,none,o]) (fun y=>match y with | .d (.int k)=>.d (oD (row.getD k.toNat none)) | y=>y) ⟨_,rfl⟩ trivial (by rw [List.length_map,List.length_map];have:=Kz d;omega) (fun o y Q hy q=>?_) fun o=>?_
  · obtain ⟨x,hx,rfl⟩:=List.mem_map.mp hy
    obtain ⟨k,hk',rfl⟩:=List.mem_map.mp hx
    walk_at "ra"
    exact ⟨_,xp (hk k hk'),q (some (.d (.int k)))⟩
  · have e : (((dPs d).map fun k : Nat => Dat.int k).map AV.d).map (fun y => match y with | .d (.int k) => AV.d (oD (row.getD k.toNat none)) | y => y) = (((dPs d).map fun k => row.getD k none).map oD).map AV.d := by
      simp only [List.map_map];exact List.map_congr_left fun _ _=>rfl
    rw [e]
    refine ⟨_,zV _,?_⟩
    subst hr1
    refine zg fun r1 hr1=>?_
    walk_at "ra"
    have tail:∀ (cs:List (Option Int)),cs=jQ (row,hd) d->r1 M { nx:=fun x M'=>rtA M Q (.d .non) M',rt:=rtA M Q } [some (.ref m),some (.d (.lst (row.map oD))),some (.d (oD hd)),some (.d (.tup (.str (dW d) :: (dPs d).map fun k:Nat=>Dat.int k))),some (.d (.lst (cs.map oD))),none,none] M:=fun cs hcs=>by
      subst hr1
      walk_at "ra"
      have okc:=WQ hd' ok
      rw [<- hcs] at okc q
      refine ⟨fun i ρ M'=>M'=mup M m (msA ((cs.take i).foldl jN ms))/\∃ u,ρ=[some (.ref m),some (.d (.lst (row.map oD))),some (.d (oD hd)),some (.d (.tup (.str (dW d) :: (dPs d).map fun k:Nat=>Dat.int k))),some (.d (.lst (cs.map oD))),u,none],⟨by rw [List.take_zero];exact (Ha hm).symm,_,rfl⟩,?_,?_⟩
      · rintro i y ρ M' hy ⟨rfl,u,rfl⟩
        refine ⟨trivial,?_⟩
        rw [List.getElem?_map,List.getElem?_map] at hy
        cases e:cs[i]? with
        | none=>rw [e] at hy;cases hy
        | some c=>
          rw [e] at hy
          cases hy
          have ts:(cs.take (i+1)).foldl jN ms=jN ((cs.take i).foldl jN ms) c:=by rw [Yt e,List.foldl_append];rfl
          cases c with
          | none=>
            rw [show oD none=.non from rfl]
            walk_at "ra";exact ⟨by rw [ts];rfl,_,rfl⟩
          | some x=>
            obtain ⟨x0,x1⟩:=okc x (List.mem_of_getElem? e)
            rw [<- xy (cs.take i)] at x1
            obtain ⟨m1,m2⟩:=wR x0 x1
            rw [show oD (some x)=.int x from rfl]
            walk_at "ra"
            exact ⟨_,qc zh,_,m1,_,rfl,_,zh,_,m2,by rw [Ab,ts];rfl,_,rfl⟩
      · rintro ρ M' ⟨rfl,u,rfl⟩
        refine ⟨trivial,?_⟩
        walk_at "ra"
        rw [List.take_length]
        exact ⟨_,_,Gd _ _ _,q⟩
    refine ⟨_,at0 _ _,_,rfl,by rw [qT];omega,?_⟩
    rw [jl]
    cases d with
    | lay g=>rw [if_pos (show decide (dW (.lay g)=Str.ofString "lay")=true from decide_eq_true rfl)];exact ⟨by omega,tail [hd] rfl⟩
    | swap a b=>rw [if_neg (show ¬ decide (dW (.swap a b)=Str.ofString "lay")=true from (by decide +kernel:¬ decide (Str.ofString "swap"=Str.ofString "lay")=true))];exact tail _ rfl
    | take a=>rw [if_neg (show ¬ decide (dW (.take a)=Str.ofString "lay")=true from (by decide +kernel:¬ decide (Str.ofString "take"=Str.ofString "lay")=true))];exact tail _ rfl
    | move a b=>rw [if_neg (show ¬ decide (dW (.move a b)=Str.ofString "lay")=true from (by decide +kernel:¬ decide (Str.ofString "move"=Str.ofString "lay")=true))];exact tail _ rfl
theorem DoE.okM {d:De}{s t:ES}{n:Nat}(h:DoE d s t)(o:OkM s n):OkM t n:=by
 have g:∀ {row:List (Option Int)} {a:Nat} {c:Option Int},row[a]?=some c->c ∈ row:=fun h=>List.mem_of_getElem? h
 cases h with
 | swap ne h1 h2=>
  refine ⟨fun x hx=>?_,o.2⟩
  rcases List.mem_or_eq_of_mem_set hx with hx | hx
  ·rcases List.mem_or_eq_of_mem_set hx with hx | hx
   ·exact o.1 x hx
   ·exact o.1 x (hx ▸ g h2)
  ·exact o.1 x (hx ▸ g h1)
 | take h1=>
  refine ⟨fun x hx=>?_,fun x hx=>?_⟩
  ·rcases List.mem_or_eq_of_mem_set hx with hx | hx
   ·exact o.1 x hx
   ·cases hx
  ·cases hx;exact o.1 _ (g h1)
 | move h1 h2=>
  refine ⟨fun x hx=>?_,o.2⟩
  rcases List.mem_or_eq_of_mem_set hx with hx | hx
  ·rcases List.mem_or_eq_of_mem_set hx with hx | hx
   ·exact o.1 x hx
   ·cases hx
  ·exact o.1 x (hx ▸ g h1)
 | lay h1=>
  refine ⟨fun x hx=>?_,fun x hx=>nomatch hx⟩
  rcases List.mem_or_eq_of_mem_set hx with hx | hx
  ·exact o.1 x hx
  ·exact o.2 x hx.symm
theorem Wi {s:ES}{ms:List Int}{x:Dat}{w:String}(h:doR s ms x=.error w):w="form" \/ w="same" \/ w="full" \/ w="empty":=by
 have g1:∀ a b,jg s ms a b=.error w->w="form" \/ w="same" \/ w="full" \/ w="empty":=fun a b h=>by
  unfold jg at h
  split at h
  ·cases h;simp
  ·cases hb:s.1.getD a none <;> cases ha:s.1.getD b none <;> rw [hb] at h <;> (try rw [ha] at h) <;> cases h <;> simp
 have g2:∀ a b,qW s ms a b=.error w->w="form" \/ w="same" \/ w="full" \/ w="empty":=fun a b h=>by
  unfold qW at h
  split at h
  ·cases h;simp
  ·cases hb:s.1.getD b none <;> cases ha:s.1.getD a none <;> rw [hb] at h <;> (try rw [ha] at h) <;> cases h <;> simp
 have g3:∀ a,jh s ms a=.error w->w="form" \/ w="same" \/ w="full" \/ w="empty":=fun a h=>by
  unfold jh at h
  cases hb:s.2 <;> cases ha:s.1.getD a none <;> rw [hb] at h <;> (try rw [ha] at h) <;> cases h <;> simp
 have g4:∀ a,kO s ms a=.error w->w="form" \/ w="same" \/ w="full" \/ w="empty":=fun a h=>by
  unfold kO at h
  cases ha:s.1.getD a none <;> cases hb:s.2 <;> rw [ha] at h <;> (try rw [hb] at h) <;> cases h <;> simp
 unfold doR at h
 split at h
 ·split at h
  ·split at h
   ·exact g1 _ _ h
   ·split at h
    ·exact g3 _ h
    ·split at h
     ·exact g2 _ _ h
     ·exact g4 _ h
  ·cases h;simp
 ·cases h;simp
theorem EJ {s:ES}{ms:List Int}{x:Dat}{w:String}(h:doR s ms x=.error w):¬ decide (Str.ofString w=Str.ofString "")=true:=by
 rcases Wi h with rfl | rfl | rfl | rfl <;> decide +kernel
theorem KY (n:Nat):OkM ((qa 0 1 n).map some,none) n:=by
 refine ⟨fun x hx=>?_,fun x hx=>nomatch hx⟩
 obtain ⟨y,hy,e⟩:=List.mem_map.mp hx
 injection e with e
 subst e
 unfold qa at hy
 obtain ⟨k,hk,e⟩:=List.mem_map.mp hy
 rw [List.mem_range] at hk
 omega
noncomputable def fnP (vs:List V):List (Str × V):=[("place",vs.getD 0 .non),("word",vs.getD 1 .non)]
noncomputable abbrev plw (i:Nat)(x:String):List (Str × V):=[("place",.int i),("word",.str (Str.ofString x))]
noncomputable abbrev yq:Stmt:=(ja (top 4) 0)
theorem xK:zt ["self","place","word"] ["self","place","word"] (ze yq):=⟨rfl,rfl,rfl,by decide +kernel,rfl,by decide +kernel,by decide +kernel⟩
theorem K8 {C a t0:Addr}{us:List V}{H:Hp}{Q:VK}(S1:yr K C "place")(S2:yr K C "word")(hl:us.length=2)(ha:H a=some (ky a C t0 none))(hq:∀ dx,H dx=none->dx ≠ a->Q .non (upd (upd H a (ky a C t0 (some dx))) dx (XdE dx (fnP us)))) :
  YD (Q7 K (wo 0) (wo 1) "place") (Q7 K (wo 0) (wo 2) "word") { nx:=fun _ H'=>Q .non H',rt:=Q } (qL ["self","place","word"] (.ref a :: us)) H:=by
 match us,hl with
 | [v,u],_=>
  show Q7 _ _ _ _ _ _ _
  refine ⟨v,rfl,.ref a,rfl,a,C,t0,rfl,S1,.inl ⟨ha,fun dx hd hne=>?_⟩⟩
  refine ⟨u,rfl,.ref a,rfl,a,C,t0,rfl,S2,.inr ⟨dx,[("place",v)],by rw [zi (Ne.symm hne),zk],zk,Nat.le_of_ble_eq_true rfl,?_⟩⟩
  rw [xJ]
  have e:jC (Str.ofString "word") u [(Str.ofString "place",v)]=fnP [v,u]:=by
   unfold jC;rw [if_neg (by decide +kernel)];rfl
  show Q .non (upd _ dx (XdE dx (jC (Str.ofString "word") u [(Str.ofString "place",v)])))
  rw [e]
  exact hq dx hd hne
theorem HL {C f:Addr}{fd:FuncData}(F:Fun K "__init__" "BadPlan.__init__" yq f fd)(q:j7 K C vG "ValueError.__new__" f=true)(hf:PySem.W.isFn K (.ref f)=true)(S1:yr K C "place")(S2:yr K C "word"):MkX P w K mg base C 1 2 fnP:=by
 refine BA (k:=0) F xK (fun _ _ _ _ _ _=>Pn3_ fun _ _ _=>rfl) q hf rfl (fun cdv A outer s H E=>?_)
 have sc:=xK
 refine ⟨_,(zc (yp (pv 0) (pv 1) rfl) (zf (yp (pv 0) (pv 2) rfl))),?_⟩
 intro a t0 us Q hl ha hq
 exact K8 S1 S2 hl ha hq
theorem EX {C f:Addr}{fd:FuncData}(F:Fun K "__init__" "BadPlan.__init__" yq f fd)(q:j7 K C vG "ValueError.__new__" f=true)(hf:PySem.W.isFn K (.ref f)=true)(S1:yr K C "place")(S2:yr K C "word"):Z2 P w K mg base C 1 2 fnP:=by
 refine Ey F xK (fun _ _ _ _ _ _=>Pn3_ fun _ _ _=>rfl) q hf rfl (fun cdv A outer s H E x=>?_)
 have sc:=xK
 refine ⟨_,(zc (yp (pv 0) (pv 1) rfl) (zf (yp (pv 0) (pv 2) rfl))),?_⟩
 intro a t0 us Q hl ha hq
 exact K8 S1 S2 hl ha hq
noncomputable def jr:Nat->RS->List Dat->Except (Nat × String) RS
 | _,t,[]=>.ok t
 | i,t,x :: l=>match doR t.1 t.2 x with
  | .error w=>.error (i,w)
  | .ok t'=>jr (i+1) t' l
noncomputable def kM (n:Nat):RS:=(((qa 0 1 n).map some,none),List.replicate n 0)
noncomputable def kq (n:Nat)(x:Dat):Except (Nat × String) RS:=match x with
 | .lst l=>jr 0 (kM n) l
 | .tup l=>jr 0 (kM n) l
 | _=>.error (0,"form")
structure XB (K:PySem.W.Frag)(cB:Addr):Prop where
 x:GA K cB
 i:PySem.W.exmOne K (.ref cB) (.ref cB)=some true
 hd:PySem.W.hasDictIn K cB=true
 fw:PySem.W.findIn K (.ref cB) "word"=some none
theorem vB {C:Addr}{M:MH}{p rw_ mv:Addr}{s:ES}{ms:List Int}(n1:rw_ ≠ mv)(n2:rw_ ≠ p)(n3:mv ≠ p):qi C (rmP C M p rw_ mv s ms) p rw_ mv s ms:=by
 unfold rmP
 exact ⟨by rw [zu (Ne.symm n3),zu (Ne.symm n2),zh],by rw [zu n1,zh],zh,n1⟩
theorem Dg {C:Addr}{M:MH}{p rw_ mv:Addr}(s' s2:ES)(ms' ms2:List Int):rmP C (rmP C M p rw_ mv s' ms') p rw_ mv s2 ms2=rmP C M p rw_ mv s2 ms2:=by
 funext b
 unfold rmP mup
 by_cases c1:b=mv <;> by_cases c2:b=rw_ <;> by_cases c3:b=p <;> simp [c1,c2,c3]
theorem Ys {C:Addr}{M:MH}{p rw_ mv:Addr}{s:ES}{ms:List Int}(t:qi C (rmP C M p rw_ mv s ms) p rw_ mv s ms):vi M (rmP C M p rw_ mv s ms) (.ref p) (.ref p) (rmP C M p rw_ mv s ms):=by
 have f:=Qr t .non
 exact ⟨f.1,f.2,.inl ⟨rfl,fun q z=>by cases z;rw [t.ins];exact fun z=>nomatch z⟩⟩
noncomputable def Fu (C cP:Addr):xO:=fun xs M Q E=>∃ (n:Nat) (x:Dat),xs=[.d (.int n),.d x]/\n<=1000/\OkP x /\
 (∀ i w,kq n x=.error (i,w)->E cP (plw i w) M)/\(∀ t,kq n x=.ok t->∀ p rw_ mv,M p=none->M rw_=none->M mv=none->rw_ ≠ mv->rw_ ≠ p->mv ≠ p->Q (.ref p) (rmP C M p rw_ mv t.1 t.2))
noncomputable abbrev JU:Stmt:=top 14
theorem Xe:zt ["n","plan","room","at","deed","refusal"] ["n","plan"] (ze JU):=⟨rfl,rfl,rfl,by decide +kernel,rfl,by decide +kernel,by decide +kernel⟩
theorem DM {C cBadDeed cBadPlan:Addr}(a:At K mg "room_behind" JU)(B:Blt mg)(CL:Cls K C)(XG_BadDeed:mg "BadDeed"=some (.ref cBadDeed))(XG_BadPlan:mg "BadPlan"=some (.ref cBadPlan))(MX_BadPlan:MkX P w K mg base cBadPlan 5 2 fnP)(MXH_BadPlan:Z2 P w K mg base cBadPlan 5 2 fnP)(X2:XB K cBadDeed)
  (M_Room:Mkr P w K mg base "Room" C ["self","n"] 5 (cSp (A9 C))) (DM_do:DmX P w K mg base C "do" ["self","thing"] 6 (jG (aDo C cBadDeed))):DfX P w K mg base "room_behind" ["n","plan"] 7 (jG (Fu C cBadPlan)):=by
 refine Lf (k:=6) a Xe (fun _ _ _ _ _ _=>Pn2_ fun _ _=>rfl) (fun xs M Q E h=>?_) (fun f cdv A outer s H HX OX MX E1 hr hD=>?_)
 ·obtain ⟨_,_,rfl,_⟩:=h;rfl
 have sc:=Xe
 have hsl:=hsl
 refine ⟨_,(zc (zJ (jn (qR (zo yR rfl B.isinstance zK (za (pv 1) (za (zy (za (qv (v:=.ty "list") rfl B.list qS rfl) (za (qv (v:=.ty "tuple") rfl B.tuple qE rfl) zb))) zb))) (fun _=>rfl))) (zf (qF hD rfl MX_BadPlan hr rfl XG_BadPlan (za zd (za zm zb)))) zr)
  (zc (zB (i:=2) sc.nd rfl (by first | exact Or.inl rfl | exact Or.inr rfl) (IP M_Room hr rfl (za (pv 0) zb)))
  (zc (jZ hD.po rfl (yL rfl B.enumerate (za (pv 1) zb)) (qP (K:=K) 2 rfl rfl (zE (zF (i:=3) sc.nd rfl (by first | exact Or.inl rfl | exact Or.inr rfl)) (zE (zF (i:=4) sc.nd rfl (by first | exact Or.inl rfl | exact Or.inr rfl)) qO))) (zf (WB (K:=K) (i:=5) rfl hD sc.nd rfl rfl rfl XG_BadDeed MXH_BadPlan hr rfl XG_BadPlan (fun _=>Nat.le_refl 2) (fun pins xe Eh hP=>(zf (jb (xY CL DM_do hr hP (pv 2) (za (pv 4) zb))))) (fun x=>(za (pv 3) (za (Yh (K:=K) rfl (pv 5) rfl) zb))))))
  (zf (zz (pv 2)))))),?_⟩
 refine exX (by walk_at "sim") ?_
 rintro xs Q E0 rfl ⟨n,x,rfl,hn,ok,qe,q⟩
 rw [show zQ ["n","plan","room","at","deed","refusal"] [.d (.int n),.d x]=[some (.d (.int n)),some (.d x),none,none,none,none] from rfl]
 refine zg fun r1 hr1=>?_
 have hs2:0+1+1<=sizeLine:=by omega
 have bad:kq n x=.error (0,"form")->∃ vs,[some (V.int 0),some (V.str (Str.ofString "form"))]=List.map some vs/\vs.length=2/\2<=1000/\exA MX E0 cBadPlan (fnP vs) MX:=fun h=>
  ⟨[.int 0,.str (Str.ofString "form")],rfl,rfl,by decide,_,qB Fr.refl .non,qe 0 "form" h⟩
 have main:∀ l,(x=.tup l \/ x=.lst l)->kq n x=jr 0 (kM n) l->r1 MX { nx:=fun x M'=>rtA MX Q (.d .non) M',rt:=rtA MX Q } [some (.d (.int n)),some (.d x),none,none,none,none] MX:=fun l hx hw=>by
  obtain ⟨ll,lo⟩:=ok.2 l hx
  have hsq:∀ M,qw (.d x) M=some (l.map AV.d):=fun M=>by rcases hx with rfl | rfl <;> rfl
  rw [hw] at qe q
  subst hr1
  refine zg fun r1 hr1=>?_
  walk_at "ra"
  intro p hp
  refine ⟨p,n,rfl,zh,hn,fun rw_ mv hrw hmv n1 n2 n3=>⟨rfl,?_⟩⟩
  rw [zu n2] at hrw
  rw [zu n3] at hmv
  have em:∀ t ms,rmP C (mup MX p (.ins C [])) p rw_ mv t ms=rmP C MX p rw_ mv t ms:=fun t ms=>by unfold rmP;rw [vy]
  rw [em]
  subst hr1
  refine zg fun r1 hr1=>?_
  walk_at "ra"
  refine ⟨_,hsq _,_,zV _,?_⟩
  have fr:∀ t ms,Fr MX (rmP C MX p rw_ mv t ms):=fun t ms=>((Fr.refl.mup hp _).mup hrw _).mup hmv _
  refine ⟨fun i ρ M'=>∃ (t:RS),M'=rmP C MX p rw_ mv t.1 t.2/\jr i t (l.drop i)=jr 0 (kM n) l/\OkM t.1 t.2.length/\t.1.1.length=n/\t.2.length=n/\∃ u v,ρ=[some (.d (.int n)),some (.d x),some (.ref p),u,v,none],⟨kM n,rfl,rfl,by show OkM _ (List.replicate n (0:Int)).length;rw [List.length_replicate];exact KY n,by show ((qa 0 1 n).map some).length=n;rw [List.length_map,zZ],List.length_replicate,_,_,rfl⟩,?_,?_⟩
  ·rintro i y ρ M' hy ⟨t,rfl,ht,okt,l1,l2,u,v,rfl⟩
   refine ⟨hsq _,?_⟩
   obtain ⟨d,hd,rfl⟩:=kE hy
   have r:=vB (C:=C) (M:=MX) (s:=t.1) (ms:=t.2) n1 n2 n3
   have hi:=(List.getElem?_eq_some_iff.mp hd).1
   have dm:=lo d (List.mem_of_getElem? hd)
   rw [List.drop_eq_getElem_cons hi,show l[i]=d from (List.getElem?_eq_some_iff.mp hd).2] at ht
   walk_at "ra"
   refine ⟨_,r.ins,rfl,p,rw_,mv,t.1,t.2,d,rfl,r,okt,dm.1,dm.2,fun wd hw=>?_,fun t' ht'=>?_⟩
   ·refine ⟨X2.i,.str (Str.ofString wd),rfl,X2.x,X2.hd,X2.fw,by decide,by decide,MX,qB (fr _ _) .non,?_⟩
    refine qe i wd ?_
    rw [<- ht]
    unfold jr
    rw [hw]
   ·obtain ⟨dd,rfl,hdo⟩:=ZQ ht'
    have e2:=Zm hdo t.2
    rw [ht'] at e2
    have e2:t'.2=(jQ t.1 dd).foldl jN t.2:=by injection e2 with e2;rw [e2]
    have lm:t'.2.length=t.2.length:=by rw [e2,xy]
    refine ⟨t',by rw [Dg],?_,by rw [lm];exact hdo.okM okt,by rw [hdo.len];exact l1,by rw [lm];exact l2,_,rfl⟩
    rw [<- ht]
    conv=>rhs;unfold jr
    rw [ht']
  ·rintro ρ M' ⟨t,rfl,ht,okt,l1,l2,u,v,rfl⟩
   refine ⟨hsq _,?_⟩
   subst hr1
   walk_at "ra"
   rw [List.drop_of_length_le (by rw [jV];exact Nat.le_refl _)] at ht
   exact ⟨_,_,Ys (vB n1 n2 n3),q t (by rw [<- ht];rfl) p rw_ mv hp hrw hmv n1 n2 n3⟩
 cases x with
 | tup l=>walk_at "ra";exact ⟨hs2,main l (.inl rfl) rfl⟩
 | lst l=>walk_at "ra";exact ⟨hs2,main l (.inr rfl) rfl⟩
 | non=>walk_at "ra";exact ⟨hs2,bad rfl⟩
 | bl b=>walk_at "ra";exact ⟨hs2,bad rfl⟩
 | str b=>walk_at "ra";exact ⟨hs2,bad rfl⟩
 | int b=>walk_at "ra";exact ⟨hs2,bad rfl⟩
 | ty _=>have:=ok.1;rw [dp] at this;omega
 | rng _ _ _=>have:=ok.1;rw [dp] at this;omega
 | scr _ _=>have:=ok.1;rw [dp] at this;omega
noncomputable def wc (n:Nat)(s:ES):Prop:=s.1.length=n/\∀ x:Int,s.1.count (some x)+(if s.2=some x then 1 else 0)=if 0<=x/\x<(n:Int) then 1 else 0
theorem xu {l:List (Option Int)}{i:Nat}{c:Option Int}(h:l[i]?=some c)(a b:Option Int):(l.set i a).count b+(if c=b then 1 else 0)=l.count b+(if a=b then 1 else 0):=by
 induction l generalizing i with
 | nil=>cases h
 | cons e l ih=>
  cases i with
  | zero=>
   cases h
   rw [List.set_cons_zero,List.count_cons,List.count_cons]
   simp only [beq_iff_eq]
   omega
  | succ i=>
   have h:l[i]?=some c:=h
   rw [List.set_cons_succ,List.count_cons,List.count_cons]
   have:=ih h
   omega
theorem ZH {d:De}{s t:ES}{n:Nat}(h:DoE d s t)(c:wc n s):wc n t:=by
 refine ⟨by rw [h.len];exact c.1,fun x=>?_⟩
 have cx:=c.2 x
 cases h with
 | @swap a b row hd u v ne h1 h2=>
  have e1:=xu h1 (some v) (some x)
  have e2:=xu (l:=row.set a (some v)) (i:=b) (c:=some v) (by rw [List.getElem?_set_ne ne];exact h2) (some u) (some x)
  dsimp only at cx ⊢
  omega
 | @take p row u h1=>
  have e1:=xu h1 none (some x)
  rw [if_neg (show ¬ (none:Option Int)=some x from fun z=>nomatch z)] at e1
  dsimp only at cx ⊢
  rw [if_neg (show ¬ (none:Option Int)=some x from fun z=>nomatch z)] at cx
  omega
 | @move p g row hd u h1 h2=>
  have ne:p ≠ g:=fun z=>by rw [z,h2] at h1;cases h1
  have e1:=xu h1 none (some x)
  have e2:=xu (l:=row.set p none) (i:=g) (c:=none) (by rw [List.getElem?_set_ne ne];exact h2) (some u) (some x)
  rw [if_neg (show ¬ (none:Option Int)=some x from fun z=>nomatch z)] at e1 e2
  dsimp only at cx ⊢
  omega
 | @lay g row u h1=>
  have e1:=xu h1 (some u) (some x)
  rw [if_neg (show ¬ (none:Option Int)=some x from fun z=>nomatch z)] at e1
  dsimp only at cx ⊢
  rw [if_neg (show ¬ (none:Option Int)=some x from fun z=>nomatch z)]
  omega
theorem Ap {α:Type}[BEq α][LawfulBEq α][DecidableEq α]{l:List α}(h:l.Nodup)(a:α):l.count a=if a ∈ l then 1 else 0:=by
 induction l with
 | nil=>rfl
 | cons b l ih=>
  have:=List.nodup_cons.mp h
  rw [List.count_cons,ih this.2]
  by_cases c:b=a
  ·subst c;simp [this.1]
  ·have:(b == a)=false:=by simpa using c
   simp [this,Ne.symm c,c]
theorem J0 (n:Nat):((qa 0 1 n).map some).Nodup:=by
 unfold qa
 rw [List.map_map]
 unfold List.Nodup
 rw [List.pairwise_map]
 refine List.nodup_range.imp fun {a b} h z=>h ?_
 have z:some ((0:Int)+(a:Int) * 1)=some (0+(b:Int) * 1):=z
 injection z with z
 omega
theorem xH {n:Nat}{x:Int}:some x ∈ (qa 0 1 n).map some ↔ 0<=x/\x<(n:Int):=by
 unfold qa
 simp only [List.mem_map,List.mem_range,Option.some.injEq]
 constructor
 ·rintro ⟨a,⟨k,hk,rfl⟩,rfl⟩;omega
 ·rintro ⟨h1,h2⟩;exact ⟨x,⟨x.toNat,by omega,by omega⟩,rfl⟩
theorem j6 (n:Nat):wc n ((qa 0 1 n).map some,none):=by
 refine ⟨by show ((qa 0 1 n).map some).length=n;rw [List.length_map,zZ],fun x=>?_⟩
 show ((qa 0 1 n).map some).count (some x)+0=_
 rw [Ap (J0 n)]
 by_cases c:0<=x/\x<(n:Int)
 ·rw [if_pos c,if_pos (xH.mpr c)]
 ·rw [if_neg c,if_neg (fun z=>c (xH.mp z))]
theorem vS {α:Type}[DecidableEq α]:∀ {l r:List α},l.Nodup->(∀ x ∈ l,x ∈ r)->r.length<=l.length->l.Perm r
 | [],r,_,_,h=>by
  have:r=[]:=List.length_eq_zero_iff.mp (by simpa using h)
  rw [this]
 | a :: l,r,nd,hs,h=>by
  have nd':=List.nodup_cons.mp nd
  have ha:=hs a List.mem_cons_self
  have ih:=vS (l:=l) (r:=r.erase a) nd'.2 (fun x hx=>(List.mem_erase_of_ne (fun z=>nd'.1 (by rw [<- z];exact hx))).mpr (hs x (List.mem_cons_of_mem _ hx))) (by rw [List.length_erase_of_mem ha];rw [List.length_cons] at h;omega)
  exact (ih.cons a).trans (List.perm_cons_erase ha).symm
theorem ZF {n:Nat}{row:List (Option Int)}(c:wc n (row,none)):∃ os,row=os.map some/\jL n os:=by
 have hl:row.length=n:=c.1
 have hp:((qa 0 1 n).map some).Perm row:=vS (J0 n) (fun x hx=>by
  obtain ⟨i,hi,rfl⟩:=List.mem_map.mp hx
  have h:=c.2 i
  rw [if_pos (xH.mp hx)] at h
  have h:row.count (some i)+0=1:=h
  exact List.count_pos_iff.mp (by omega)) (by rw [List.length_map,zZ];omega)
 have hm:∀ x ∈ row,∃ i,x=some i/\0<=i/\i<(n:Int):=fun x hx=>by
  have:=hp.mem_iff.mpr hx
  obtain ⟨i,hi,rfl⟩:=List.mem_map.mp this
  exact ⟨i,rfl,xH.mp this⟩
 have e:row=(row.map (·.getD 0)).map some:=by
  rw [List.map_map]
  conv=>lhs;rw [<- List.map_id row]
  exact List.map_congr_left fun x hx=>by obtain ⟨i,rfl,_⟩:=hm x hx;rfl
 refine ⟨row.map (·.getD 0),e,by rw [List.length_map];exact hl,?_,fun x hx=>?_⟩
 ·have:row.Nodup:=hp.nodup_iff.mp (J0 n)
  rw [e] at this
  exact (List.pairwise_map.mp this).imp fun h z=>h (by rw [z])
 ·obtain ⟨y,hy,rfl⟩:=List.mem_map.mp hx
  obtain ⟨i,rfl,h⟩:=hm y hy
  exact h
noncomputable def bL (row:List (Option Int)):List Int:=(List.range row.length).map fun k:Nat=>(row.idxOf (some (k:Int)):Int)
theorem yt {n:Nat}{os:List Int}(ho:jL n os){k:Nat}(hk:k<n):(k:Int) ∈ os:=by
 have hp:os.Perm (qa 0 1 n):=by
  refine vS ho.2.1 (fun x hx=>?_) (by rw [zZ,ho.1];exact Nat.le_refl _)
  have:=ho.2.2 x hx
  unfold qa
  exact List.mem_map.mpr ⟨x.toNat,List.mem_range.mpr (by omega),by omega⟩
 exact hp.mem_iff.mpr (by unfold qa;exact List.mem_map.mpr ⟨k,List.mem_range.mpr hk,by omega⟩)
theorem yk (os:List Int)(x:Int):(os.map some).idxOf (some x)=os.idxOf x:=by
 induction os with
 | nil=>rfl
 | cons a l ih=>
  rw [List.map_cons,List.idxOf_cons,List.idxOf_cons,ih]
  rfl
theorem DJ {n:Nat}{os bs:List Int}(ho:jL n os)(hb:Ba os bs):bs=bL (os.map some):=by
 have h1:=ho.1
 unfold bL
 rw [List.length_map]
 refine List.ext_getElem (by rw [List.length_map,List.length_range];exact hb.1) fun k k1 k2=>?_
 rw [List.getElem_map,List.getElem_range,yk]
 have kn:k<n:=by rw [<- h1,<- hb.1];exact k1
 have hm:=yt ho kn
 have hi:os.idxOf (k:Int)<os.length:=List.idxOf_lt_length_of_mem hm
 have:=hb.2 (os.idxOf (k:Int)) hi
 have e:os.getD (os.idxOf (k:Int)) 0=(k:Int):=by
  rw [List.getD_eq_getElem?_getD,List.getElem?_eq_getElem hi]
  exact List.getElem_idxOf hi
 rw [e,Int.toNat_natCast,List.getD_eq_getElem?_getD,List.getElem?_eq_getElem k1] at this
 exact this
noncomputable def HB:Dat->Option (List Dat)
 | .lst l=>some l
 | .tup l=>some l
 | _=>none
theorem Gm {d:Dat}{l:List Dat}(h:HB d=some l)(M:MH):qw (.d d) M=some (l.map .d):=by
 cases d with
 | lst m=>cases h;rfl
 | tup m=>cases h;rfl
 | _=>cases h
theorem Zo {d:Dat}{os:List Int}(h:HB d=some (os.map .int))(M:MH):qw (.d d) M=some (os.map fun i=>.d (.int i)):=by rw [Gm h,KW]
noncomputable def Fv:ASp:=fun xs M Q=>∃ (dx:Dat) (n:Nat) (os:List Int),xs=[.d dx]/\HB dx=some (os.map .int)/\jL n os/\n<=2000/\∀ bs,Ba os bs->Q (.d (ilD bs)) M
noncomputable abbrev JZ:Stmt:=top 8
theorem KH:zt ["order","back","place","goal"] ["order"] (ze JZ):=⟨rfl,rfl,rfl,by decide +kernel,rfl,by decide +kernel,by decide +kernel⟩
theorem DY (a:At K mg "back_of" JZ)(B:Blt mg):Df P w K mg base "back_of" ["order"] 1 (cSp Fv):=by
 refine dfA (k:=0) a KH (fun _ _ _ _ _ _=>Pn1_ fun _=>rfl) (fun xs M Q h=>?_) (fun f cdv A outer s H E hr=>?_)
 ·obtain ⟨_,_,_,rfl,_⟩:=h;rfl
 have sc:=KH
 have hsl:=hsl
 refine ⟨_,(zc (zB (i:=1) sc.nd rfl (by first | exact Or.inl rfl | exact Or.inr rfl) (jF (zv yM (zL (za zd zb)) (zo zp rfl B.len qd (za (pv 0) zb)))))
  (zc (jZ PassesOwn.never rfl (yL rfl B.enumerate (za (pv 0) zb)) (qP (K:=K) 2 rfl rfl (zE (zF (i:=2) sc.nd rfl (by first | exact Or.inl rfl | exact Or.inr rfl)) (zE (zF (i:=3) sc.nd rfl (by first | exact Or.inl rfl | exact Or.inr rfl)) qO))) (zf (qp (pv 2) (qz (pv 1) (pv 3) zI))))
  (zf (zz (pv 1))))),?_⟩
 refine ex2 (by walk_at "sim") ?_
 rintro xs M Q ⟨dx,n,os,rfl,hx,ho,hn,q⟩
 rw [show zQ ["order","back","place","goal"] [.d dx]=[some (.d dx),none,none,none] from rfl]
 have h1:=ho.1
 refine zg fun r hr0=>?_
 walk_at "ra"
 refine ⟨by omega,_,Zo hx M,by rw [List.length_map];omega,by rw [List.length_map];omega,by rw [List.length_map];omega,fun p hp _=>?_⟩
 rw [List.length_map,h1,Int.toNat_natCast,Jo]
 have hp1:=zh (M:=M) (a:=p) (o:=.lst (List.replicate n (AV.d (.int 0))))
 have f1:=(Fr.refl (M:=M)).mup hp (.lst (List.replicate n (AV.d (.int 0))))
 subst hr0
 refine zg fun r hr0=>?_
 walk_at "ra"
 refine ⟨_,Zo hx _,_,qy _,?_⟩
 refine ⟨fun i ρ M'=>∃ u v bs,ρ=[some (.d dx),some (.ref p),u,v]/\M'=mup M p (.lst (bs.map fun i=>AV.d (.int i)))/\bs.length=n/\∀ j,j<i->bs.getD (os.getD j 0).toNat 0=(j:Int),⟨none,none,List.replicate n 0,rfl,by rw [List.map_replicate],by simp,fun j hj=>nomatch hj⟩,?_,?_⟩
 ·rintro i y ρ M' hy ⟨u,v,bs,rfl,rfl,lb,hj⟩
  refine ⟨Zo hx _,?_⟩
  obtain ⟨d,hd,rfl⟩:=kE hy
  rw [List.getElem?_map] at hd
  cases e:os[i]? with
  | none=>rw [e] at hd;cases hd
  | some k=>
   rw [e] at hd
   cases hd
   have hi:=(List.getElem?_eq_some_iff.mp e).1
   have hk:os.getD i 0=k:=by rw [List.getD_eq_getElem?_getD,e];rfl
   have kb:=ho.2.2 k (List.mem_of_getElem? e)
   walk_at "ra"
   refine ⟨_,zh,k.toNat,by rw [List.length_map,qD kb.1 (by omega)],bs.set k.toNat (i:Int),?_,by rw [List.length_set];exact lb,fun j hj'=>?_⟩
   ·rw [List.map_set]
   ·rw [VP (by omega)]
    by_cases c:j=i
    ·subst c;rw [hk,if_pos rfl]
    ·rw [if_neg,hj j (by omega)]
     intro z
     have gj:=ho.getD (i:=j) (by omega)
     exact c (ho.inj (by omega) (by omega) (by rw [hk];omega))
 ·rintro ρ M' ⟨u,v,bs,rfl,rfl,lb,hj⟩
  refine ⟨Zo hx _,?_⟩
  subst hr0
  walk_at "ra"
  refine ⟨_,_,DS (Fr.refl.mup hp _) hp zh (qy _),q bs ⟨by omega,fun i hi=>hj i ?_⟩⟩
  simp only [jV,List.length_map]
  exact hi
noncomputable def Xa (t:RS):Dat:=match t.1.2 with
 | some h=>.tup [.str (Str.ofString "open"),.tup (t.1.1.map oD),.int h,.tup (t.2.map .int)]
 | none=>.tup [.str (Str.ofString "done"),.lst ((bL t.1.1).map .int),.tup (t.2.map .int)]
theorem xW {n:Nat}:∀ {l:List Dat} {i:Nat} {t t':RS},jr i t l=.ok t'->wc n t.1->t.2.length=n->wc n t'.1/\t'.2.length=n
 | [],_,t,t',h,c,e=>by cases h;exact ⟨c,e⟩
 | x :: l,i,t,t',h,c,e=>by
  unfold jr at h
  cases hd:doR t.1 t.2 x with
  | error w=>rw [hd] at h;cases h
  | ok u=>
   rw [hd] at h
   obtain ⟨d,rfl,hdo⟩:=ZQ hd
   have e2:=Zm hdo t.2
   rw [hd] at e2
   have e2:u.2=(jQ t.1 d).foldl jN t.2:=by injection e2 with e2;rw [e2]
   exact xW h (ZH hdo c) (by rw [e2,xy];exact e)
theorem xU {n:Nat}{x:Dat}{t:RS}(h:kq n x=.ok t):wc n t.1/\t.2.length=n:=by
 unfold kq at h
 split at h
 ·exact xW h (j6 n) List.length_replicate
 ·exact xW h (j6 n) List.length_replicate
 ·cases h
noncomputable def IY (cP:Addr):xO:=fun xs M Q E=>∃ (n:Nat) (x:Dat),xs=[.d (.int n),.d x]/\n<=1000/\OkP x /\
 (∀ i w,kq n x=.error (i,w)->E cP (plw i w) M)/\(∀ t,kq n x=.ok t->Q (.d (Xa t)) M)
noncomputable abbrev VF:Stmt:=top 15
theorem Bd:zt ["n","plan","room","row","hand","moved"] ["n","plan"] (ze VF):=⟨rfl,rfl,rfl,by decide +kernel,rfl,by decide +kernel,by decide +kernel⟩
theorem GM {C cBadPlan:Addr}(a:At K mg "walked" VF)(B:Blt mg)(CL:Cls K C)(DX_room_behind:DfX P w K mg base "room_behind" ["n","plan"] 7 (jG (Fu C cBadPlan)))(D_back_of:Df P w K mg base "back_of" ["order"] 7 (cSp Fv))
  (M_row_now:Dm P w K mg base C "row_now" ["self"] 7 (cSp (E3 C))) (M_hand_now:Dm P w K mg base C "hand_now" ["self"] 7 (cSp (E9 C))) (M_moved_now:Dm P w K mg base C "moved_now" ["self"] 7 (cSp (FD C))):DfX P w K mg base "walked" ["n","plan"] 8 (jG (IY cBadPlan)):=by
 refine Lf (k:=7) a Bd (fun _ _ _ _ _ _=>Pn2_ fun _ _=>rfl) (fun xs M Q E h=>?_) (fun f cdv A outer s H HX OX MX E1 hr hD=>?_)
 ·obtain ⟨_,_,rfl,_⟩:=h;rfl
 have sc:=Bd
 have hsl:=hsl
 refine ⟨_,(zc (zB (i:=2) sc.nd rfl (by first | exact Or.inl rfl | exact Or.inr rfl) (E5 DX_room_behind hr rfl hD.passX (za (pv 0) (za (pv 1) zb))))
  (zc (zB (i:=3) sc.nd rfl (by first | exact Or.inl rfl | exact Or.inr rfl) (Km CL M_row_now hr (pv 2)))
  (zc (zB (i:=4) sc.nd rfl (by first | exact Or.inl rfl | exact Or.inr rfl) (Km CL M_hand_now hr (pv 2)))
  (zc (zB (i:=5) sc.nd rfl (by first | exact Or.inl rfl | exact Or.inr rfl) (Km CL M_moved_now hr (pv 2)))
  (zc (zJ (zl jm (pv 4) zS (zq _)) (zf (zz (zy (za zm (za (pv 3) (za (pv 4) (za (pv 5) zb))))))) zr)
  (zf (zz (zy (za zm (za (zP D_back_of hr rfl (za (pv 3) zb)) (za (pv 5) zb))))))))))),?_⟩
 refine exX (by walk_at "sim") ?_
 rintro xs Q E0 rfl ⟨n,x,rfl,hn,ok,qe,q⟩
 rw [show zQ ["n","plan","room","row","hand","moved"] [.d (.int n),.d x]=[some (.d (.int n)),some (.d x),none,none,none,none] from rfl]
 refine zg fun r1 hr1=>?_
 walk_at "ra"
 refine ⟨n,x,rfl,hn,ok,fun i w h=>⟨_,qB Fr.refl .non,qe i w h⟩,fun t ht p rw_ mv hp hrw hmv n1 n2 n3=>?_⟩
 have fr:Fr MX (rmP C MX p rw_ mv t.1 t.2):=((Fr.refl.mup hp _).mup hrw _).mup hmv _
 have r:=vB (C:=C) (M:=MX) (s:=t.1) (ms:=t.2) n1 n2 n3
 generalize rmP C MX p rw_ mv t.1 t.2=M1 at fr r
 obtain ⟨cs,l2⟩:=xU ht
 have l1:=cs.1
 subst hr1
 refine zg fun r1 hr1=>?_
 walk_at "ra"
 refine ⟨_,r.ins,rfl,p,rw_,mv,t.1,t.2,rfl,r,by omega,?_⟩
 subst hr1
 refine zg fun r1 hr1=>?_
 walk_at "ra"
 refine ⟨_,r.ins,rfl,p,rw_,mv,t.1,t.2,rfl,r,?_⟩
 subst hr1
 refine zg fun r1 hr1=>?_
 walk_at "ra"
 refine ⟨_,r.ins,rfl,p,rw_,mv,t.1,t.2,rfl,r,by omega,?_⟩
 subst hr1
 have q:=q t ht
 obtain ⟨⟨row,hd⟩,ms⟩:=t
 cases hd with
 | some h=>
  rw [show oD (some h)=.int h from rfl]
  walk_at "ra"
  exact ⟨by omega,xV fr q⟩
 | none=>
  rw [show oD none=.non from rfl]
  obtain ⟨os,rfl,ho⟩:=ZF cs
  walk_at "ra"
  refine ⟨_,n,os,rfl,?_,ho,by omega,fun bs hb=>?_⟩
  ·show some ((os.map some).map oD)=_
   rw [List.map_map];rfl
  ·refine ⟨by omega,_,rfl,xV fr ?_⟩
   rw [DJ ho hb]
   exact q
noncomputable def wX (n:Nat)(x:Dat):Dat:=match kq n x with
 | .error (i,w)=>.tup [.str (Str.ofString "bad"),.int i,.str (Str.ofString w)]
 | .ok t=>Xa t
noncomputable def Xw:ASp:=fun xs M Q=>∃ (n:Nat) (x:Dat),xs=[.d (.int n),.d x]/\n<=1000/\OkP x/\Q (.d (wX n x)) M
noncomputable abbrev JS:Stmt:=top 27
theorem KC:zt ["_law_n","_law_plan_here","_law_row","_law_hand","_law_moved","_law_number","_law_thing","_law_word"] ["_law_n","_law_plan_here"] (ze JS):=⟨rfl,rfl,rfl,by decide +kernel,rfl,by decide +kernel,by decide +kernel⟩
theorem Dh (a:At K mg "_law_judged" JS)(B:Blt mg)(D_law_why:Df P w K mg base "_law_why" ["_law_row","_law_hand","_law_thing"] 4 (cSp Lc))(D_law_counted:Df P w K mg base "_law_counted" ["_law_moved","_law_row","_law_hand","_law_deed_here"] 4 (cSp Qw))(D_law_done:Df P w K mg base "_law_done" ["_law_row","_law_hand","_law_deed_here"] 4 (cSp VR)):Df P w K mg base "_law_judged" ["_law_n","_law_plan_here"] 5 (cSp Xw):=by
 refine dfA (k:=4) a KC (fun _ _ _ _ _ _=>Pn2_ fun _ _=>rfl) (fun xs M Q h=>?_) (fun f cdv A outer s H E hr=>?_)
 ·obtain ⟨_,_,rfl,_⟩:=h;rfl
 have sc:=KC
 have hsl:=hsl
 refine ⟨_,(zc (zJ (jn (qR (zo yR rfl B.isinstance zK (za (pv 1) (za (zy (za (qv (v:=.ty "list") rfl B.list qS rfl) (za (qv (v:=.ty "tuple") rfl B.tuple qE rfl) zb))) zb))) (fun _=>rfl))) (zf (zz (zy (za zm (za zd (za zm zb)))))) zr)
  (zc (qp (zy (za (zC (qZ rfl) rfl B.list qS (za (zC jz rfl B.range xq (za (pv 0) zb)) zb)) (za zS (za (jF (zv yM (zL (za zd zb)) (pv 0))) zb)))) (qP (K:=K) 3 rfl rfl (zE (zF (i:=2) sc.nd rfl (by first | exact Or.inl rfl | exact Or.inr rfl)) (zE (zF (i:=3) sc.nd rfl (by first | exact Or.inl rfl | exact Or.inr rfl)) (zE (zF (i:=4) sc.nd rfl (by first | exact Or.inl rfl | exact Or.inr rfl)) qO)))))
  (zc (jZ PassesOwn.never rfl (yL rfl B.enumerate (za (pv 1) zb)) (qP (K:=K) 2 rfl rfl (zE (zF (i:=5) sc.nd rfl (by first | exact Or.inl rfl | exact Or.inr rfl)) (zE (zF (i:=6) sc.nd rfl (by first | exact Or.inl rfl | exact Or.inr rfl)) qO))) (zc (zB (i:=7) sc.nd rfl (by first | exact Or.inl rfl | exact Or.inr rfl) (zP D_law_why hr rfl (za (pv 2) (za (pv 3) (za (pv 6) zb)))))
  (zc (zJ (zl (j8 hr.units) (pv 7) zm (zq _)) (zf (zz (zy (za zm (za (pv 5) (za (pv 7) zb)))))) zr)
  (zc (jb (zP D_law_counted hr rfl (za (pv 4) (za (pv 2) (za (pv 3) (za (pv 6) zb))))))
  (zf (qp (zP D_law_done hr rfl (za (pv 2) (za (pv 3) (za (pv 6) zb)))) (qP (K:=K) 2 rfl rfl (zE (zF (i:=2) sc.nd rfl (by first | exact Or.inl rfl | exact Or.inr rfl)) (zE (zF (i:=3) sc.nd rfl (by first | exact Or.inl rfl | exact Or.inr rfl)) qO)))))))))
  (zc (zJ (zl xf (pv 3) zS (zq _)) (zf (zz (zy (za zm (za (yb (ts:=[6]) rfl rfl (ju rfl B.range (za (pv 0) zb)) (fun _ _ _ _=>(zF (i:=6) sc.nd rfl (by first | exact Or.inl rfl | exact Or.inr rfl))) (fun _ _ _ _=>xv) (fun _ _ _ _=>(Y8 (K:=K) rfl PySem.F.plainAttrs_list PySem.F.slot_list_index PySem.F.type_list_index QA (pv 2) (za (pv 6) zb)))) (za (zC qt rfl B.tuple qE (za (pv 4) zb)) zb)))))) zr)
  (zf (zz (zy (za zm (za (zC qt rfl B.tuple qE (za (pv 2) zb)) (za (pv 3) (za (zC qt rfl B.tuple qE (za (pv 4) zb)) zb))))))))))),?_⟩
 refine ex2 (by walk_at "sim") ?_
 rintro xs M Q ⟨n,x,rfl,hn,ok,q⟩
 rw [show zQ ["_law_n","_law_plan_here","_law_row","_law_hand","_law_moved","_law_number","_law_thing","_law_word"] [.d (.int n),.d x]=[some (.d (.int n)),some (.d x),none,none,none,none,none,none] from rfl]
 refine zg fun r1 hr1=>?_
 have hs2:0+1+1<=sizeLine:=by omega
 have hs3:0+1+1+1<=sizeLine:=by omega
 have main:∀ l,(x=.tup l \/ x=.lst l)->kq n x=jr 0 (kM n) l->r1 M { nx:=fun x M'=>rtA M Q (.d .non) M',rt:=rtA M Q } [some (.d (.int n)),some (.d x),none,none,none,none,none,none] M:=fun l hx hw=>by
  obtain ⟨ll,lo⟩:=ok.2 l hx
  have hsq:∀ M,qw (.d x) M=some (l.map AV.d):=fun M=>by rcases hx with rfl | rfl <;> rfl
  have q:Q (.d (match jr 0 (kM n) l with | .error (i,w)=>.tup [.str (Str.ofString "bad"),.int i,.str (Str.ofString w)] | .ok t=>Xa t)) M:=by
   unfold wX at q;rw [hw] at q;exact q
  subst hr1
  refine zg fun r1 hr1=>?_
  walk_at "ra"
  refine ⟨_,_,_,rfl,small_one (by omega) (by omega) (by omega) (by omega),n,by rw [rangeSize_one];split <;> omega,by omega,by omega,by omega,by omega,by omega,fun p hp _=>⟨by omega,?_⟩⟩
  rw [Jo,Int.toNat_natCast]
  have e2:MO.lst (List.replicate n (AV.d (.int 0)))=msA (List.replicate n 0):=by show MO.lst _=MO.lst _;rw [List.map_replicate]
  rw [e2,show (qa 0 1 n).map Dat.int=((qa 0 1 n).map some).map oD by rw [List.map_map];rfl,show Dat.non=oD none from rfl]
  have fr:∀ ms,Fr M (mup M p (msA ms)):=fun ms=>Fr.refl.mup hp _
  subst hr1
  refine zg fun r1 hr1=>?_
  walk_at "ra"
  refine ⟨_,hsq _,_,zV _,?_⟩
  refine ⟨fun i ρ M'=>∃ (t:RS),M'=mup M p (msA t.2)/\jr i t (l.drop i)=jr 0 (kM n) l/\OkM t.1 t.2.length/\wc n t.1/\t.2.length=n/\∃ u v z,ρ=[some (.d (.int n)),some (.d x),some (.d (.lst (t.1.1.map oD))),some (.d (oD t.1.2)),some (.ref p),u,v,z],⟨kM n,rfl,rfl,by show OkM _ (List.replicate n (0:Int)).length;rw [List.length_replicate];exact KY n,j6 n,List.length_replicate,_,_,_,rfl⟩,?_,?_⟩
  ·rintro i y ρ M' hy ⟨t,rfl,ht,okt,cs,l2,u,v,z,rfl⟩
   refine ⟨hsq _,?_⟩
   obtain ⟨d,hd,rfl⟩:=kE hy
   have l1:=cs.1
   have hi:=(List.getElem?_eq_some_iff.mp hd).1
   have dm:=lo d (List.mem_of_getElem? hd)
   rw [List.drop_eq_getElem_cons hi,show l[i]=d from (List.getElem?_eq_some_iff.mp hd).2] at ht
   refine ⟨_,rfl,rfl,?_⟩
   show JR _ _ _ _ _ _
   walk_at "ra"
   refine ⟨t.1,d,rfl,dm.1,dm.2,by omega,?_⟩
   cases hw:doR t.1 t.2 d with
   | error wd=>
    rw [Vb hw]
    refine ⟨_,rfl,by rw [qT];omega,?_⟩
    rw [jl,if_pos (by have:=EJ hw;simpa using this)]
    refine ⟨hs3,_,rfl,xV (fr _) ?_⟩
    rw [<- ht] at q
    unfold jr at q
    rw [hw] at q
    exact q
   | ok t'=>
    rw [BO hw]
    refine ⟨_,rfl,by rw [qT];omega,?_⟩
    rw [jl,if_neg (by simp)]
    obtain ⟨dd,rfl,hdo⟩:=ZQ hw
    have e2:=Zm hdo t.2
    rw [hw] at e2
    have e2:t'.2=(jQ t.1 dd).foldl jN t.2:=by injection e2 with e2;rw [e2]
    have lm:t'.2.length=t.2.length:=by rw [e2,xy]
    refine ⟨p,dd,t.1,t'.1,t.2,rfl,zh,hdo,okt,by omega,dd,t.1,t'.1,rfl,hdo,by omega,_,rfl,rfl,_,_,rfl,_,_,rfl,rfl,t',by rw [vy,e2],?_,by rw [lm];exact hdo.okM okt,ZH hdo cs,by rw [lm];exact l2,rfl,rfl,_,rfl⟩
    rw [<- ht]
    conv=>rhs;unfold jr
    rw [hw]
  ·rintro ρ M' ⟨t,rfl,ht,okt,cs,l2,u,v,z,rfl⟩
   refine ⟨hsq _,?_⟩
   rw [List.drop_of_length_le (by rw [jV];exact Nat.le_refl _)] at ht
   rw [<- ht] at q
   have q:Q (.d (Xa t)) M:=q
   subst hr1
   have l1:=cs.1
   obtain ⟨⟨row,hd⟩,ms⟩:=t
   cases hd with
   | some h=>
    rw [show oD (some h)=.int h from rfl]
    dsimp only
    walk_at "ra"
    exact ⟨_,qc zh,_,qy _,by omega,xV (fr _) q⟩
   | none=>
    rw [show oD none=.non from rfl]
    obtain ⟨os,rfl,ho⟩:=ZF cs
    dsimp only
    walk_at "ra"
    refine ⟨by omega,by omega,?_⟩
    rw [Int.toNat_natCast]
    have h1:=ho.1
    refine Xf (fun (o:Option AV)=>[some (.d (.int n)),some (.d x),some (.d (.lst ((os.map some).map oD))),some (.d .non),some (.ref p),u,o,z]) (fun i=>.d (.int (os.idxOf (i:Int):Nat))) ⟨_,rfl⟩ trivial (by rw [jw];omega) (fun o i y Q hy q=>?_) fun o=>?_
    ·obtain ⟨hi,rfl⟩:=j9 hy
     walk_at "ra"
     have hm:=yt ho hi
     have hlt:os.idxOf (i:Int)<os.length:=List.idxOf_lt_length_of_mem hm
     have hg:os.getD (os.idxOf (i:Int)) 0=(i:Int):=by
      rw [List.getD_eq_getElem?_getD,List.getElem?_eq_getElem hlt]
      exact List.getElem_idxOf hlt
     refine ⟨⟨_,rfl⟩,os,?_,os.idxOf (i:Int),hlt,by rw [hg];omega,fun m hmm z=>?_,q _⟩
     ·rw [List.map_map,List.map_map];rfl
     ·have:=ho.inj (i:=m) (j:=os.idxOf (i:Int)) (by omega) (by omega) (by rw [z,hg];omega)
      omega
    ·refine ⟨(bL (os.map some)).map .int,?_,_,qc zh,_,qy _,by omega,xV (fr _) q⟩
     have e:(List.range (vT 0 1 n).length).map (fun i:Nat=>AV.d (.int (os.idxOf (i:Int):Nat)))=((bL (os.map some)).map Dat.int).map AV.d:=by
      unfold bL
      rw [jw,List.length_map,h1,List.map_map,List.map_map]
      exact List.map_congr_left fun k _=>by show AV.d (.int (os.idxOf (k:Int):Nat))=AV.d (.int ((os.map some).idxOf (some (k:Int)):Nat));rw [yk]
     rw [e];exact zV _
 cases x with
 | tup l=>walk_at "ra";exact ⟨hs2,main l (.inl rfl) rfl⟩
 | lst l=>walk_at "ra";exact ⟨hs2,main l (.inr rfl) rfl⟩
 | non=>walk_at "ra";exact ⟨hs2,hs3,xV Fr.refl q⟩
 | bl b=>walk_at "ra";exact ⟨hs2,hs3,xV Fr.refl q⟩
 | str b=>walk_at "ra";exact ⟨hs2,hs3,xV Fr.refl q⟩
 | int b=>walk_at "ra";exact ⟨hs2,hs3,xV Fr.refl q⟩
 | ty _=>have:=ok.1;rw [dp] at this;omega
 | rng _ _ _=>have:=ok.1;rw [dp] at this;omega
 | scr _ _=>have:=ok.1;rw [dp] at this;omega
noncomputable def WU:ASp:=fun xs M Q=>∃ (b:Addr) (N:Nat) (l:List Dat) (x:Dat),xs=[.ref b,.d (.lst l),.d x]/\BxM M b N/\N<1000000/\l.length<=100 /\
 ∀ l' M',BxS M M' b (N+2)->(∀ d ∈ l',d ∈ l \/ d=x)->l'.length<=3 * l.length+1->Q (.d (.lst l')) M'
noncomputable abbrev vV:Stmt:=top 29
theorem wF:zt ["_law_box_here","_law_plan_here","_law_thing","_law_at","_law_how"] ["_law_box_here","_law_plan_here","_law_thing"] (ze vV):=⟨rfl,rfl,rfl,by decide +kernel,rfl,by decide +kernel,by decide +kernel⟩
theorem Y7 (a:At K mg "_law_bent" vV)(B:Blt mg)(D_law_take:Df P w K mg base "_law_take" ["_law_box_here","_law_many"] 1 (cSp vA)):Df P w K mg base "_law_bent" ["_law_box_here","_law_plan_here","_law_thing"] 2 (cSp WU):=by
 refine dfA (k:=1) a wF (fun _ _ _ _ _ _=>Pn3_ fun _ _ _=>rfl) (fun xs M Q h=>?_) (fun f cdv A outer s H E hr=>?_)
 ·obtain ⟨_,_,_,_,rfl,_⟩:=h;rfl
 have sc:=wF
 have hsl:=hsl
 refine ⟨_,(zc (zB (i:=3) sc.nd rfl (by first | exact Or.inl rfl | exact Or.inr rfl) (zP D_law_take hr rfl (za (pv 0) (za (zv qh (zo zp rfl B.len qd (za (pv 1) zb)) zd) zb))))
  (zc (zB (i:=4) sc.nd rfl (by first | exact Or.inl rfl | exact Or.inr rfl) (zP D_law_take hr rfl (za (pv 0) (za zd zb))))
  (zc (zJ (zl (zX hr.units) (pv 4) zd (zq _)) (zf (zz (zv qH (zR qu (pv 1) qg (zO (pv 3))) (zR qu (pv 1) (zO (zv qh (pv 3) zd)) qg)))) zr)
  (zc (zJ (zl (zX hr.units) (pv 4) zd (zq _)) (zf (zz (zv qH (zv qH (zR qu (pv 1) qg (zO (pv 3))) (zR qu (pv 1) (zO (pv 3)) (zO (zv qh (pv 3) zd)))) (zR qu (pv 1) (zO (pv 3)) qg)))) zr)
  (zc (zJ (zl (zX hr.units) (pv 4) zd (zq _)) (zf (zz (zv qH (zv qH (zR qu (pv 1) qg (zO (pv 3))) (zL (za (pv 2) zb))) (zR qu (pv 1) (zO (zv qh (pv 3) zd)) qg)))) zr)
  (zc (zJ (zl (zX hr.units) (pv 4) zd (zq _)) (zf (zz (zv qH (zv qH (zR qu (pv 1) qg (zO (pv 3))) (zL (za (pv 2) zb))) (zR qu (pv 1) (zO (pv 3)) qg)))) zr)
  (zc (zJ (zl (zX hr.units) (pv 4) zd (zq _)) (zf (zz (zv qH (zv qH (zR qu (pv 1) qg (zO (pv 3))) (wV (zR qu (pv 1) (zO (pv 3)) (zO (zv qh (pv 3) zd))) (zO (wW yA zd)))) (zR qu (pv 1) (zO (zv qh (pv 3) zd)) qg)))) zr)
  (zf (zz (zR qu (pv 1) qg (zO (pv 3)))))))))))),?_⟩
 refine ex2 (by walk_at "sim") ?_
 rintro xs M Q ⟨b,N,l,x,rfl,hb,hN,hl,q⟩
 rw [show zQ ["_law_box_here","_law_plan_here","_law_thing","_law_at","_law_how"] [.ref b,.d (.lst l),.d x]=[some (.ref b),some (.d (.lst l)),some (.d x),none,none] from rfl]
 have sb:=SB.refl hb
 refine zg fun r1 hr1=>?_
 walk_at "ra"
 refine ⟨b,_,N,rfl,hb,by omega,by omega,by omega,fun at_ M1 s1 a0 a1=>?_⟩
 obtain ⟨k,rfl⟩:∃ k:Nat,at_=k:=⟨at_.toNat,by omega⟩
 have hk:k<=l.length:=by omega
 have sb:=sb.go s1
 subst hr1
 refine zg fun r1 hr1=>?_
 walk_at "ra"
 refine ⟨b,_,_,rfl,sb.bx,by omega,by omega,by omega,fun how M2 s2 h0 h1=>?_⟩
 have sb:=sb.go s2
 have pc:∀ lo hi,pur (jO (l.map AV.d) lo hi)=some (jO l lo hi):=fun lo hi=>by rw [vR,zV]
 have mc:∀ lo hi,∀ d ∈ jO l lo hi,d ∈ l:=fun lo hi d hd=>List.mem_of_mem_drop (List.mem_of_mem_take hd)
 have lc:∀ lo hi,(jO l lo hi).length<=l.length:=fun lo hi=>by unfold jO;rw [List.length_take,List.length_drop];omega
 have fin:∀ l',(∀ d ∈ l',d ∈ l \/ d=x)->l'.length<=3 * l.length+1->rtA M Q (.d (.lst l')) M2:=fun l' h1 h2=>sb.rt fun M' s'=>q l' M' s' h1 h2
 have pa:∀ a b:List Dat,pur (a.map AV.d ++ b.map AV.d)=some (a ++ b):=fun a b=>by rw [<- List.map_append];exact zV _
 subst hr1
 refine zg fun r1 hr1=>?_
 walk_at "ra"
 by_cases c:how=0
 ·rw [if_pos c]
  have z1:=lc none (some (k:Int))
  have z2:=lc (some ((k:Int)+1)) none
  exact ⟨_,pc _ _,_,pc _ _,by omega,_,pa _ _,fin _ (fun d hd=>(List.mem_append.mp hd).elim (fun h=>.inl (mc _ _ d h)) fun h=>.inl (mc _ _ d h)) (by rw [List.length_append];omega)⟩
 rw [if_neg c]
 subst hr1
 refine zg fun r1 hr1=>?_
 walk_at "ra"
 by_cases c:how=1
 ·rw [if_pos c]
  have z1:=lc none (some (k:Int))
  have z2:=lc (some (k:Int)) (some ((k:Int)+1))
  have z3:=lc (some (k:Int)) none
  exact ⟨_,pc _ _,_,pc _ _,by omega,_,pa _ _,_,pc _ _,by rw [List.length_append];omega,_,pa _ _,fin _ (fun d hd=>(List.mem_append.mp hd).elim (fun h=>(List.mem_append.mp h).elim (fun h=>.inl (mc _ _ d h)) fun h=>.inl (mc _ _ d h)) fun h=>.inl (mc _ _ d h)) (by rw [List.length_append,List.length_append];omega)⟩
 rw [if_neg c]
 subst hr1
 refine zg fun r1 hr1=>?_
 walk_at "ra"
 by_cases c:how=2
 ·rw [if_pos c]
  have z1:=lc none (some (k:Int))
  have z2:=lc (some ((k:Int)+1)) none
  exact ⟨_,pc _ _,by omega,by omega,_,pa _ [x],_,pc _ _,by rw [List.length_append];show _+1+_<=_;omega,_,pa _ _,fin _ (fun d hd=>(List.mem_append.mp hd).elim (fun h=>(List.mem_append.mp h).elim (fun h=>.inl (mc _ _ d h)) fun h=>.inr (List.mem_singleton.mp h)) fun h=>.inl (mc _ _ d h)) (by rw [List.length_append,List.length_append];show _+1+_<=_;omega)⟩
 rw [if_neg c]
 subst hr1
 refine zg fun r1 hr1=>?_
 walk_at "ra"
 by_cases c:how=3
 ·rw [if_pos c]
  have z1:=lc none (some (k:Int))
  have z2:=lc (some (k:Int)) none
  exact ⟨_,pc _ _,by omega,by omega,_,pa _ [x],_,pc _ _,by rw [List.length_append];show _+1+_<=_;omega,_,pa _ _,fin _ (fun d hd=>(List.mem_append.mp hd).elim (fun h=>(List.mem_append.mp h).elim (fun h=>.inl (mc _ _ d h)) fun h=>.inr (List.mem_singleton.mp h)) fun h=>.inl (mc _ _ d h)) (by rw [List.length_append,List.length_append];show _+1+_<=_;omega)⟩
 rw [if_neg c]
 subst hr1
 refine zg fun r1 hr1=>?_
 walk_at "ra"
 by_cases c:how=4
 ·rw [if_pos c]
  have z1:=lc none (some (k:Int))
  have z2:=lc (some (k:Int)) (some ((k:Int)+2))
  have z3:=lc (some ((k:Int)+2)) none
  exact ⟨_,pc _ _,_,pc _ _,.inl ⟨by rw [List.length_reverse];omega,_,pa _ _,_,pc _ _,by rw [List.length_append,List.length_reverse];omega,_,pa _ _,fin _ (fun d hd=>(List.mem_append.mp hd).elim (fun h=>(List.mem_append.mp h).elim (fun h=>.inl (mc _ _ d h)) fun h=>.inl (mc _ _ d (List.mem_reverse.mp h))) fun h=>.inl (mc _ _ d h)) (by rw [List.length_append,List.length_append,List.length_reverse];omega)⟩⟩
 rw [if_neg c]
 subst hr1
 walk_at "ra"
 have z1:=lc none (some (k:Int))
 exact ⟨_,pc _ _,fin _ (fun d hd=>.inl (mc _ _ d hd)) (by omega)⟩
noncomputable def OkE (x:Dat):Prop:=OkX x/\OkS x
theorem GD {l:List Dat}{w:Str}{ks:List Nat}(hk:ks.length<=2)(hb:∀ k ∈ ks,k<10 ^ 20)(hw:Sh 100 (.str w))(e:l=.str w :: ks.map fun k:Nat=>Dat.int k):OkE (.tup l):=by
 subst e
 have hd1:dp (.tup (.str w :: ks.map fun k:Nat=>Dat.int k))<=1:=by
  rw [dp]
  refine Nat.succ_le_succ (jE (n:=0) fun d hd=>?_)
  rcases List.mem_cons.mp hd with rfl | hd
  ·rw [qT];exact Nat.le_refl 0
  ·obtain ⟨k,_,rfl⟩:=List.mem_map.mp hd;rw [qV];exact Nat.le_refl 0
 refine ⟨⟨by omega,fun l' e=>?_⟩,by omega,?_,Bs (by omega) fun l' e=>?_⟩
 ·cases e;rw [List.length_cons,List.length_map];omega
 ·refine (WL (b:=100) (n:=3) (by rw [List.length_cons,List.length_map];omega) fun d hd=>?_).mono (by decide)
  rcases List.mem_cons.mp hd with rfl | hd
  ·exact hw
  ·obtain ⟨k,hk,rfl⟩:=List.mem_map.mp hd
   exact (yN (by have:=hb k hk;omega)).mono (by decide)
 ·rcases e with e | e <;> cases e
  refine ⟨by rw [List.length_cons,List.length_map];omega,fun d hd l' e=>?_⟩
  rcases List.mem_cons.mp hd with rfl | hd
  ·cases e
  ·obtain ⟨k,_,rfl⟩:=List.mem_map.mp hd;cases e
theorem IR (d:De):Sh 100 (.str (dW d)):=by
 have h1:Sh 100 (.str (Str.ofString "swap")):=⟨by decide +kernel,by decide +kernel⟩
 have h2:Sh 100 (.str (Str.ofString "take")):=⟨by decide +kernel,by decide +kernel⟩
 have h3:Sh 100 (.str (Str.ofString "move")):=⟨by decide +kernel,by decide +kernel⟩
 have h4:Sh 100 (.str (Str.ofString "lay")):=⟨by decide +kernel,by decide +kernel⟩
 cases d <;> assumption
theorem GK {d:De}(h:∀ k ∈ dPs d,k<10 ^ 20):OkE (dD d):=by
 rw [Fk]
 exact GD (Kz d) h (IR d) rfl
theorem Gb {l:List De}{s t:ES}(h:kT l s t):∀ d ∈ l,∀ k ∈ dPs d,k<s.1.length:=by
 induction h with
 | nil=>intro d hd;cases hd
 | @cons d l s t u h1 h2 ih=>
  intro d' hd'
  rcases List.mem_cons.mp hd' with rfl | hd'
  ·exact Fx h1
  ·intro k hk
   rw [<- h1.len];exact ih d' hd' k hk
theorem Z9 {l:List De}{s t:ES}{n:Nat}(h:kT l s t)(c:wc n s):wc n t:=by
 induction h with
 | nil=>exact c
 | cons h1 h2 ih=>exact ih (ZH h1 c)
structure OkW (x:Dat):Prop where
 p:OkP x
 d:dp x<=40
 s:(pdD x).showable=true
 l:(pdD x).shown.length<=sizeLine
theorem EM {l:List Dat}(hl:l.length<=1000)(h:∀ d ∈ l,OkE d):OkW (.lst l):=by
 have sh:=yJ (b:=500) (n:=1000) hl fun d hd=>(h d hd).2.s
 have hd:dp (.lst l)<=6:=by rw [dp];exact Nat.succ_le_succ (jE fun d hd=>(h d hd).2.d)
 refine ⟨⟨by omega,fun l' e=>?_⟩,by omega,sh.s,Nat.le_trans sh.l (by rw [sizeLine_eq];decide)⟩
 rcases e with e | e <;> cases e
 exact ⟨hl,fun d hd=>(h d hd).1⟩
theorem IZ {x:Dat}(h:OkE x):OkW x:=⟨h.2.p,by have:=h.2.d;omega,h.2.s.s,Nat.le_trans h.2.s.l (by rw [sizeLine_eq];decide)⟩
theorem Ax {α:Type}[DecidableEq α]:∀ {l r:List α},l.Nodup->(∀ x ∈ l,x ∈ r)->l.length<=r.length
 | [],_,_,_=>Nat.zero_le _
 | a :: l,r,nd,hs=>by
  have nd':=List.nodup_cons.mp nd
  have ha:=hs a List.mem_cons_self
  have ih:=Ax (l:=l) (r:=r.erase a) nd'.2 (fun x hx=>(List.mem_erase_of_ne (fun z=>nd'.1 (by rw [<- z];exact hx))).mpr (hs x (List.mem_cons_of_mem _ hx)))
  rw [List.length_erase_of_mem ha] at ih
  have:=List.length_pos_of_mem ha
  rw [List.length_cons];omega
theorem En {n:Nat}{row:List (Option Int)}{h:Int}(c:wc n (row,some h)):none ∈ row:=by
 by_cases hn:none ∈ row
 ·exact hn
 exfalso
 have hl:row.length=n:=c.1
 have cnt:∀ x,row.count (some x)+(if some h=some x then 1 else 0)=if 0<=x/\x<(n:Int) then 1 else 0:=c.2
 have nd:row.Nodup:=by
  rw [List.nodup_iff_count]
  intro a
  cases a with
  | none=>rw [List.count_eq_zero.mpr hn];omega
  | some x=>have:=cnt x;split at this <;> split at this <;> omega
 have hm:∀ x ∈ some h :: row,x ∈ (qa 0 1 n).map some:=fun x hx=>by
  rcases List.mem_cons.mp hx with rfl | hx
  ·have:=cnt h
   rw [if_pos rfl] at this
   by_cases z:0<=h/\h<(n:Int)
   ·exact xH.mpr z
   ·rw [if_neg z] at this;omega
  ·cases x with
   | none=>exact absurd hx hn
   | some x=>
    have:=cnt x
    have p:=List.count_pos_iff.mpr hx
    by_cases z:0<=x/\x<(n:Int)
    ·exact xH.mpr z
    ·rw [if_neg z] at this;omega
 have nd2:(some h :: row).Nodup:=List.nodup_cons.mpr ⟨fun hx=>by
  have:=cnt h
  have p:=List.count_pos_iff.mpr hx
  rw [if_pos rfl] at this
  split at this <;> omega,nd⟩
 have:=Ax nd2 hm
 rw [List.length_cons,List.length_map,zZ] at this
 omega
theorem Yw {ss:List Bool}{i j:Nat}{v:Bool}(h:i<ss.length):(ss.set i v).getD j false=if j=i then v else ss.getD j false:=by
 rw [List.getD_eq_getElem?_getD,List.getD_eq_getElem?_getD,List.getElem?_set]
 by_cases e:i=j
 ·subst e;rw [if_pos rfl,if_pos h,if_pos rfl];rfl
 ·rw [if_neg e,if_neg (fun z=>e z.symm)]
noncomputable abbrev yP:Stmt:=top 7
theorem v9:zt ["thing","seen","place"] ["thing"] (ze yP):=⟨rfl,rfl,rfl,by decide +kernel,rfl,by decide +kernel,by decide +kernel⟩
noncomputable def jj (l:List Dat):Prop:=∃ os:List Int,l=os.map .int/\jL l.length os
open Classical in
noncomputable def vD:Dat->Bool
 | .lst l=>decide (jj l)
 | .tup l=>decide (jj l)
 | _=>false
open Classical in
theorem Ku (l:List Dat):vD (.lst l)=if jj l then true else false:=by
 unfold vD
 by_cases h:jj l <;> simp [h]
open Classical in
theorem KU (l:List Dat):vD (.tup l)=if jj l then true else false:=by
 unfold vD
 by_cases h:jj l <;> simp [h]
theorem Ye {n:Nat}{os:List Int}(h:jL n os):jj (os.map .int):=⟨os,rfl,by rw [List.length_map,h.1];exact h⟩
theorem Qh {d:Dat}{n:Int}(h:zU d n=true):∃ k:Int,d=.int k/\0<=k/\k<n:=by
 cases d with
 | int k=>exact ⟨k,rfl,of_decide_eq_true h⟩
 | _=>cases h
theorem DC {l:List Dat}(h:jj l){i:Nat}{d:Dat}(hi:l[i]?=some d):zU d (l.length:Nat)=true:=by
 obtain ⟨os,rfl,ho⟩:=h
 rw [List.getElem?_map] at hi
 cases e:os[i]? with
 | none=>rw [e] at hi;cases hi
 | some k=>
  rw [e] at hi;cases hi
  exact decide_eq_true (ho.2.2 k (List.mem_of_getElem? e))
theorem Ek {l:List Dat}(h:jj l){os:List Int}{i:Nat}{k:Int}(ht:l.take i=os.map .int)(hi:l[i]?=some (.int k)):k ∉ os:=by
 obtain ⟨qs,rfl,ho⟩:=h
 intro hk
 rw [List.getElem?_map] at hi
 cases e:qs[i]? with
 | none=>rw [e] at hi;cases hi
 | some k'=>
  rw [e] at hi;cases hi
  have ht:qs.take i=os:=by
   rw [<- List.map_take] at ht
   exact (List.map_inj_right (fun _ _ z=>Dat.int.inj z)).mp ht
  rw [<- ht] at hk
  obtain ⟨j,hj,ej⟩:=List.mem_take_iff_getElem.mp hk
  obtain ⟨hi',ei⟩:=List.getElem?_eq_some_iff.mp e
  have:=(List.getElem_inj (h₀:=by omega) (h₁:=hi') ho.2.1).mp (ej.trans ei.symm)
  omega
noncomputable def Q4:ASp:=fun xs M Q=>∃ (x:AV) (d:Dat),xs=[x]/\yf x M=some d/\xm 100 d/\Q (.d (.bl (vD d))) M
theorem vO {x:AV}{l:List Dat}{M:MH}{p:Addr}{D:qX}{G:MH->Prop}(hG:∀ o,G (mup M p o))(hp:M p=none)(hl:l.length<=100000)(hd:∀ d ∈ l,dp d<=100)(hx:qw x M=some (l.map .d))(hrt:∀ M',Fr M M'->¬ jj l->D.rt (.d (.bl false)) M')(hnx:∀ u M',Fr M M'->jj l->D.nx [some x,some (.ref p),u] M'){B:MH} :
  E8 (vM 2) (kH (xN (aOr (Zu (aB (Xh yn (qj (qA 2) (qj (aCB QD (qj (qA 0) kC)) kC))))) (aB (aOp (aIx qw) (qA 1) (qA 2)))) (Kl (aC (Dat.bl false))) jX) (VX (aC (Dat.bl true)) (Vy (qA 1) (qA 2) asL)))
   B D G (l.map .d) [some x,some (.ref p),none] (mup M p (.lst ((List.replicate l.length false).map fun b=>.d (.bl b)))):=by
 refine ⟨fun i ρ M'=>∃ (u:Option AV) (bs:List Bool) (os:List Int),ρ=[some x,some (.ref p),u]/\M'=mup M p (.lst (bs.map fun b=>.d (.bl b)))/\bs.length=l.length/\l.take i=os.map .int/\os.Nodup/\(∀ k ∈ os,0<=k/\k<(l.length:Int))/\∀ k:Nat,k<l.length->(bs.getD k false=true ↔ (k:Int) ∈ os),?_,?_,?_⟩
 ·refine ⟨none,_,[],rfl,rfl,List.length_replicate,rfl,List.nodup_nil,(fun k hk=>nomatch hk),fun k hk=>?_⟩
  rw [List.getD_eq_getElem?_getD,List.getElem?_replicate,if_pos hk]
  simp
 ·rintro i y ρ M' hy ⟨u,bs,os,rfl,rfl,lb,ht,nd,hb,hm⟩
  rw [List.getElem?_map] at hy
  cases e:l[i]? with
  | none=>rw [e] at hy;cases hy
  | some d=>
   rw [e] at hy
   cases hy
   refine ⟨hG _,?_⟩
   walk_at "ra"
   rw [vI hx hp]
   walk_at "ra"
   refine ⟨d,_,rfl,hd d (List.mem_of_getElem? e),_,rfl,?_⟩
   cases c:zU d (l.length:Nat) with
   | false=>
    walk_at "ra"
    exact hrt _ (Fr.refl.mup hp _) fun z=>by rw [DC z e] at c;cases c
   | true=>
    obtain ⟨k,rfl,k0,k1⟩:=Qh c
    walk_at "ra"
    rw [qc zh]
    have hk:=hm k.toNat (by omega)
    rw [Int.toNat_of_nonneg k0] at hk
    have hat:atI (bs.map fun b=>AV.d (.bl b)) k=some (.d (.bl (bs.getD k.toNat false))):=by rw [Xb,Vw k0 (by omega) false];rfl
    walk_at "ra"
    rw [hat]
    walk_at "ra"
    cases c2:bs.getD k.toNat false with
    | true=>
     walk_at "ra"
     exact hrt _ (Fr.refl.mup hp _) fun z=>Ek z ht e (hk.mp c2)
    | false=>
     walk_at "ra"
     have hno:k ∉ os:=fun z=>by rw [hk.mpr z] at c2;cases c2
     refine ⟨_,zh,k.toNat,by rw [List.length_map,qD k0 (by omega)],bs.set k.toNat true,?_,by rw [List.length_set];exact lb,os ++ [k],?_,?_,?_,?_⟩
     ·rw [List.map_set]
     ·rw [List.take_add_one,e,ht,List.map_append];rfl
     ·rw [List.nodup_append]
      exact ⟨nd,by simp,fun a ha b hb'=>by rw [List.mem_singleton.mp hb'];exact fun z=>hno (z ▸ ha)⟩
     ·intro j hj
      rcases List.mem_append.mp hj with z | z
      ·exact hb j z
      ·rw [List.mem_singleton.mp z];exact ⟨k0,k1⟩
     ·intro j hj
      rw [Yw (by omega),List.mem_append,List.mem_singleton]
      by_cases cj:j=k.toNat
      ·rw [if_pos cj]
       exact ⟨fun _=>.inr (by omega),fun _=>rfl⟩
      ·rw [if_neg cj,hm j hj]
       exact ⟨.inl,fun z=>z.resolve_right (by omega)⟩
 ·rintro ρ M' ⟨u,bs,os,rfl,rfl,lb,ht,nd,hb,hm⟩
  rw [List.length_map,List.take_length] at ht
  refine ⟨hG _,hnx u _ (Fr.refl.mup hp _) ⟨os,ht,?_,nd,hb⟩⟩
  rw [ht,List.length_map]
theorem Qa (a:At K mg "is_order" yP)(B:Blt mg)(D_is_place:Df P w K mg base "is_place" ["thing","n"] 1 (cSp yn)):Df P w K mg base "is_order" ["thing"] 2 (cSp Q4):=by
 refine dfA (k:=1) a v9 (fun _ _ _ _ _ _=>Pn1_ fun _=>rfl) (fun xs M Q h=>?_) (fun f cdv A outer s H E hr=>?_)
 ·obtain ⟨_,_,rfl,_⟩:=h;rfl
 have sc:=v9
 have hsl:=hsl
 have hs2:0+1+1<=sizeLine:=by omega
 refine ⟨_,(zc (zJ (jn (qR (zo yR rfl B.isinstance zK (za (pv 0) (za (zy (za (qv (v:=.ty "list") rfl B.list qS rfl) (za (qv (v:=.ty "tuple") rfl B.tuple qE rfl) zb))) zb))) (fun _=>rfl))) (zf (zz jo)) zr)
  (zc (zB (i:=1) sc.nd rfl (by first | exact Or.inl rfl | exact Or.inr rfl) (jF (zv yM (zL (za jo zb)) (zo zp rfl B.len qd (za (pv 0) zb)))))
  (zc (jZ PassesOwn.never rfl (vb (pv 0)) (zF (i:=2) sc.nd rfl (by first | exact Or.inl rfl | exact Or.inr rfl)) (zc (zJ (PW.pt (kl (jn (qR (zP D_is_place hr rfl (za (pv 2) (za (zo zp rfl B.len qd (za (pv 0) zb)) zb))) (fun _=>rfl))) (ka (qR (zx zD (pv 1) (pv 2) (fun _ _=>rfl)) (fun _=>rfl))))) (zf (zz jo)) zr)
  (zf (qp jo (qz (pv 1) (pv 2) zI)))))
  (zf (zz jo))))),?_⟩
 refine ex2 (by walk_at "sim") ?_
 rintro xs M Q ⟨x,d,rfl,hx,hd,q⟩
 rw [show zQ ["thing","seen","place"] [x]=[some x,none,none] from rfl]
 have fin:=fun b M' (f:Fr M M')=>qB f (.bl b)
 cases d with
 | non=>obtain rfl:=kI hx (fun _ z=>nomatch z);walk_at "ra";exact ⟨hs2,_,_,fin _ _ Fr.refl,q⟩
 | bl b=>obtain rfl:=kI hx (fun _ z=>nomatch z);walk_at "ra";exact ⟨hs2,_,_,fin _ _ Fr.refl,q⟩
 | int b=>obtain rfl:=kI hx (fun _ z=>nomatch z);walk_at "ra";exact ⟨hs2,_,_,fin _ _ Fr.refl,q⟩
 | str b=>obtain rfl:=kI hx (fun _ z=>nomatch z);walk_at "ra";exact ⟨hs2,_,_,fin _ _ Fr.refl,q⟩
 | lst l=>
  obtain ⟨_,hs,t1,_⟩:=WE hx
  have t2:=Br
  obtain ⟨hl,hdl⟩:=hd.lst
  have hdl:∀ d ∈ l,dp d<=100:=fun d h=>Nat.le_trans (hdl d h).1 (by omega)
  have he:=Ku l
  walk_at "ra"
  rw [t1]
  walk_at "ra"
  rw [hs]
  walk_at "ra"
  refine ⟨by omega,by omega,by omega,by omega,by omega,fun p hp _=>⟨_,vI hs hp _,?_⟩⟩
  rw [Int.toNat_natCast,Jo,show List.replicate l.length (AV.d (Dat.bl false))=(List.replicate l.length false).map fun b=>AV.d (.bl b) by rw [List.map_replicate]]
  refine vO (fun o=>vI hs hp o) hp hl hdl hs (fun M' f hn=>?_) fun u M' f hn=>?_
  ·rw [he,if_neg hn] at q
   exact ⟨_,_,fin _ _ f,q⟩
  ·rw [he,if_pos hn] at q
   walk_at "ra"
   exact ⟨_,_,fin _ _ f,q⟩
 | tup l=>
  obtain rfl:=kI hx (fun _ z=>nomatch z)
  have hs:qw (.d (.tup l)) M=some (l.map .d):=rfl
  have t1:tyA (.d (.tup l)) M=some "tuple":=rfl
  have t2:=By
  obtain ⟨hl,hdl⟩:=hd.tup
  have hdl:∀ d ∈ l,dp d<=100:=fun d h=>Nat.le_trans (hdl d h).1 (by omega)
  have he:=KU l
  walk_at "ra"
  refine ⟨by omega,by omega,by omega,by omega,by omega,fun p hp _=>?_⟩
  rw [Int.toNat_natCast,Jo,show List.replicate l.length (AV.d (Dat.bl false))=(List.replicate l.length false).map fun b=>AV.d (.bl b) by rw [List.map_replicate]]
  refine vO (fun o=>trivial) hp hl hdl hs (fun M' f hn=>?_) fun u M' f hn=>?_
  ·rw [he,if_neg hn] at q
   exact ⟨_,_,fin _ _ f,q⟩
  ·rw [he,if_pos hn] at q
   walk_at "ra"
   exact ⟨_,_,fin _ _ f,q⟩
 | ty t=>have:=hd.1;rw [dp] at this;omega
 | rng _ _ _=>have:=hd.1;rw [dp] at this;omega
 | scr _ _=>have:=hd.1;rw [dp] at this;omega
noncomputable def shB (os:List Int)(x:Dat):Bool:=match kq os.length x with
 | .ok t=>(match t.1.2 with
  | none=>decide (bL t.1.1=os)
  | some _=>false)
 | .error _=>false
theorem WY {n:Nat}{os:List Int}(ho:jL n os):jL n (bL (os.map some)):=by
 have h1:=ho.1
 have g:∀ k,k<n->os.idxOf (k:Int)<n/\os.getD (os.idxOf (k:Int)) 0=(k:Int):=fun k hk=>by
  have hlt:os.idxOf (k:Int)<os.length:=List.idxOf_lt_length_of_mem (yt ho hk)
  refine ⟨by omega,?_⟩
  rw [List.getD_eq_getElem?_getD,List.getElem?_eq_getElem hlt]
  exact List.getElem_idxOf hlt
 refine ⟨by unfold bL;rw [List.length_map,List.length_range,List.length_map];exact h1,?_,fun x hx=>?_⟩
 ·unfold bL List.Nodup
  rw [List.pairwise_map,List.length_map,h1]
  refine List.Pairwise.imp_of_mem ?_ List.nodup_range
  intro a b ha hb hne z
  rw [List.mem_range] at ha hb
  rw [yk,yk] at z
  have e:os.idxOf (a:Int)=os.idxOf (b:Int):=by omega
  have:=(g a ha).2
  rw [e,(g b hb).2] at this
  omega
 ·unfold bL at hx
  obtain ⟨k,hk,rfl⟩:=List.mem_map.mp hx
  rw [List.mem_range,List.length_map,h1] at hk
  rw [yk]
  have:=(g k hk).1
  omega
theorem DL {os:List Int}{x:Dat}(h:shB os x=true):jL os.length os:=by
 unfold shB at h
 cases e:kq os.length x with
 | error z=>rw [e] at h;cases h
 | ok t=>
  rw [e] at h
  obtain ⟨cs,_⟩:=xU e
  obtain ⟨⟨row,hd⟩,ms⟩:=t
  cases hd with
  | some z=>cases h
  | none=>
   have h:bL row=os:=of_decide_eq_true h
   obtain ⟨o2,rfl,ho⟩:=ZF cs
   rw [<- h]
   have:=WY ho
   rw [this.1]
   exact this
noncomputable def IM:ASp:=fun xs M Q=>∃ (ox x:Dat) (os:List Int),xs=[.d ox,.d x]/\(ox=.lst (os.map .int) \/ ox=.tup (os.map .int))/\os.length<=1000/\OkP x/\Q (.d (.bl (shB os x))) M
theorem dpi (os:List Int):dp (.lst (os.map .int))<=40:=by
 rw [dp]
 refine Nat.le_trans (Nat.succ_le_succ (jE (n:=0) fun d hd=>?_)) (by decide)
 obtain ⟨k,_,rfl⟩:=List.mem_map.mp hd;rw [qV];exact Nat.le_refl 0
structure XP (K:PySem.W.Frag)(cP:Addr):Prop where
 i:PySem.W.exmOne K (.ref cP) (.ref cP)=some true
noncomputable abbrev Au:Stmt:=top 16
theorem Wp:zt ["order","plan","told"] ["order","plan"] (ze Au):=⟨rfl,rfl,rfl,by decide +kernel,rfl,by decide +kernel,by decide +kernel⟩
theorem Hc (a:At K mg "shows_plan" Au)(B:Blt mg){cBadPlan:Addr}(XG_BadPlan:mg "BadPlan"=some (.ref cBadPlan))(DX_walked:DfX P w K mg base "walked" ["n","plan"] 8 (jG (IY cBadPlan)))(D_is_order:Df P w K mg base "is_order" ["thing"] 8 (cSp Q4))(X2:XP K cBadPlan):Df P w K mg base "shows_plan" ["order","plan"] 9 (cSp IM):=by
 refine dfA (k:=8) a Wp (fun _ _ _ _ _ _=>Pn2_ fun _ _=>rfl) (fun xs M Q h=>?_) (fun f cdv A outer s H E hr=>?_)
 ·obtain ⟨_,_,_,rfl,_⟩:=h;rfl
 have sc:=Wp
 have hsl:=hsl
 refine ⟨_,(zc (zJ (jn (qR (zP D_is_order hr rfl (za (pv 0) zb)) (fun _=>rfl))) (zf (zz jo)) zr)
  (zc (V1 (K:=K) rfl rfl rfl rfl rfl XG_BadPlan (fun pins xe Eh hP=>(zf (zB (i:=2) sc.nd rfl (by first | exact Or.inl rfl | exact Or.inr rfl) (E5 DX_walked hr rfl hP (za (zo (wv (K:=K) rfl) rfl B.len qd (za (pv 0) zb)) (za (pv 1) zb)))))) (fun x=>(zf (zz jo))))
  (zf (zz (HH (xE (zX hr.units) (zx zD (pv 2) zd (fun _ _=>rfl)) zm (zq _)) (Ge (xE (zX hr.units) (zx zD (pv 2) zd (fun _ _=>rfl)) (zC jP rfl B.list qS (za (pv 0) zb)) (zq _)))))))),?_⟩
 refine ex2 (by walk_at "sim") ?_
 rintro xs M Q ⟨ox,x,os,rfl,hox,hl,ok,q⟩
 rw [show zQ ["order","plan","told"] [.d ox,.d x]=[some (.d ox),some (.d x),none] from rfl]
 have hsq:∀ M,qw (.d ox) M=some ((os.map Dat.int).map AV.d):=fun M=>by rcases hox with rfl | rfl <;> rfl
 refine zg fun r1 hr1=>?_
 walk_at "ra"
 refine ⟨.d ox,ox,rfl,rfl,?_,_,rfl,?_⟩
 ·rcases hox with rfl | rfl
  ·exact (Yb (by omega)).mono (by omega)
  ·exact (Ki (by omega)).mono (by omega)
 have hio:vD ox=true ↔ jL os.length os:=by
  have key:jj (os.map Dat.int) ↔ jL os.length os:=by
   constructor
   ·rintro ⟨o2,e,h⟩
    have e2:o2=os:=by
     have:=congrArg (List.map fun d=>match d with | Dat.int i=>i | _=>0) e
     simp only [List.map_map] at this
     have i1:(os.map ((fun d=>match d with | Dat.int i=>i | _=>0) ∘ Dat.int))=os:=by rw [show ((fun d=>match d with | Dat.int i=>i | _=>0) ∘ Dat.int)=id from rfl,List.map_id]
     have i2:(o2.map ((fun d=>match d with | Dat.int i=>i | _=>0) ∘ Dat.int))=o2:=by rw [show ((fun d=>match d with | Dat.int i=>i | _=>0) ∘ Dat.int)=id from rfl,List.map_id]
     rw [i1,i2] at this;exact this.symm
    subst e2
    rw [List.length_map] at h;exact h
   ·exact Ye
  rcases hox with rfl | rfl
  ·rw [Ku];by_cases c:jj (os.map Dat.int) <;> simp [c,<- key]
  ·rw [KU];by_cases c:jj (os.map Dat.int) <;> simp [c,<- key]
 cases hb:vD ox with
 | false=>
  rw [if_pos rfl]
  have e:shB os x=false:=by
   cases e:shB os x with
   | false=>rfl
   | true=>rw [hio.mpr (DL e)] at hb;cases hb
  rw [e] at q
  exact xV Fr.refl q
 | true=>
  rw [if_neg (fun z=>nomatch z)]
  subst hr1
  refine zg fun r1 hr1=>?_
  walk_at "ra"
  refine ⟨_,hsq _,os.length,x,by rw [List.length_map,List.length_map],hl,ok,fun i w h=>⟨X2.i,fun z hz=>?_⟩,fun t ht=>?_⟩
  ·have e:shB os x=false:=by unfold shB;rw [h]
   rw [e] at q
   exact xV (Fr.refl.mup hz _) q
  ·subst hr1
   walk_at "ra"
   obtain ⟨cs,l2⟩:=xU ht
   obtain ⟨⟨row,hd⟩,ms⟩:=t
   cases hd with
   | some h=>
    have e:shB os x=false:=by unfold shB;rw [ht]
    rw [e] at q
    refine ⟨_,rfl,_,rfl,_,rfl,by rw [qT];omega,?_⟩
    rw [jl,if_neg (by decide +kernel)]
    exact xV Fr.refl q
   | none=>
    have e:shB os x=decide (bL row=os):=by unfold shB;rw [ht]
    rw [e] at q
    refine ⟨_,rfl,_,rfl,_,rfl,by rw [qT];omega,?_⟩
    rw [jl,if_pos (by decide +kernel)]
    refine ⟨_,rfl,_,rfl,_,hsq _,_,zV _,_,rfl,dpi _,dpi _,?_⟩
    rw [Qf]
    exact xV Fr.refl q
noncomputable abbrev xl (oss:List (List Int)):List Dat:=oss.map fun o=>.lst (o.map .int)
noncomputable def OkO (o:List Int):Prop:=o.length<=101/\∀ x ∈ o,x.natAbs<=200
noncomputable def K3:ASp:=fun xs M Q=>∃ (b:Addr) (N n:Nat) (os:List Int),xs=[.ref b,.d (.lst (os.map .int))]/\BxM M b N/\N<1000000/\jL n os/\n<=100 /\
 ∀ oss M',BxS M M' b (N+2)->oss.length<=8->(∀ o ∈ oss,OkO o)->Q (.d (.lst (xl oss))) M'
theorem WH {c:AT}{t u:AS}{B:MH}{D:qX}{ρ:ASt}{M:MH}{v:AS}(h:∀ r,r=t->kH (xN c r u) v B D ρ M):kH (xN c t u) v B D ρ M:=h t rfl
noncomputable abbrev Zl:Stmt:=top 30
theorem Qk:zt ["_law_box_here","_law_order","_law_n","_law_some","_law_one","_law_other","_law_twin","_law_k"] ["_law_box_here","_law_order"] (ze Zl):=⟨rfl,rfl,rfl,by decide +kernel,rfl,by decide +kernel,by decide +kernel⟩
theorem VJ (a:At K mg "_law_orders" Zl)(B:Blt mg)(D_law_take:Df P w K mg base "_law_take" ["_law_box_here","_law_many"] 1 (cSp vA)):Df P w K mg base "_law_orders" ["_law_box_here","_law_order"] 2 (cSp K3):=by
 refine dfA (k:=1) a Qk (fun _ _ _ _ _ _=>Pn2_ fun _ _=>rfl) (fun xs M Q h=>?_) (fun f cdv A outer s H E hr=>?_)
 ·obtain ⟨_,_,_,_,rfl,_⟩:=h;rfl
 have sc:=Qk
 have hsl:=hsl
 refine ⟨_,(zc (zB (i:=2) sc.nd rfl (by first | exact Or.inl rfl | exact Or.inr rfl) (zo zp rfl B.len qd (za (pv 1) zb)))
  (zc (zB (i:=3) sc.nd rfl (by first | exact Or.inl rfl | exact Or.inr rfl) (jF (zL (za (pv 1) (za (zv qH (pv 1) (zL (za (pv 2) zb))) (za (zC (qZ rfl) rfl B.list qS (za (zC jz rfl B.range xq (za (pv 2) zb)) zb)) (za (wV (pv 1) (zO (wW yA zd))) zb)))))))
  (zc (zJ (zl Xv (pv 2) zd (zq _)) (zc (zB (i:=4) sc.nd rfl (by first | exact Or.inl rfl | exact Or.inr rfl) (zP D_law_take hr rfl (za (pv 0) (za (pv 2) zb))))
  (zc (zB (i:=5) sc.nd rfl (by first | exact Or.inl rfl | exact Or.inr rfl) (zv jY (zv qh (zv qh (pv 4) zd) (zP D_law_take hr rfl (za (pv 0) (za (zv kJ (pv 2) zd) zb)))) (pv 2)))
  (zc (zB (i:=6) sc.nd rfl (by first | exact Or.inl rfl | exact Or.inr rfl) (jF (zC jP rfl B.list qS (za (pv 1) zb))))
  (zc (qp (zy (za (zx zD (pv 1) (pv 5) (fun _ _=>rfl)) (za (zx zD (pv 1) (pv 4) (fun _ _=>rfl)) zb))) (qP (K:=K) 2 rfl rfl (zE (qz (pv 6) (pv 4) zI) (zE (qz (pv 6) (pv 5) zI) qO))))
  (Z1 6 (zf (zB (i:=3) sc.nd rfl (by first | exact Or.inl rfl | exact Or.inr rfl) (jF (zv qH (pv 3) (zL (za (pv 6) (za (yb (ts:=[7]) rfl rfl (ju rfl B.range (za (pv 2) zb)) (fun _ _ _ _=>(zF (i:=7) sc.nd rfl (by first | exact Or.inl rfl | exact Or.inr rfl))) (fun _ _ _ _=>xv) (fun _ _ _ _=>(Y8 (K:=K) rfl PySem.F.plainAttrs_list PySem.F.slot_list_index PySem.F.type_list_index QA (pv 1) (za (pv 7) zb)))) zb)))))))))))) zr)
  (zc (zJ (PW.pt (xS (zl Xv (pv 2) zd (zq _)) (kP (zl (zX hr.units) (zx zD (pv 1) (wW yA zd) (fun _ _=>rfl)) (zv kJ (pv 2) zd) (zq _))))) (zf (jb (yT PySem.F.plainAttrs_list PySem.F.slot_list_append PySem.F.type_list_append jW (pv 3) (za (zR qu (pv 1) qg (zO (wW yA zd))) zb)))) zr)
  (zf (zz (pv 3))))))),?_⟩
 refine ex2 (by walk_at "sim") ?_
 rintro xs M Q ⟨b,N,n,os,rfl,hb,hN,ho,hn,q⟩
 rw [show zQ ["_law_box_here","_law_order","_law_n","_law_some","_law_one","_law_other","_law_twin","_law_k"] [.ref b,.d (.lst (os.map .int))]=[some (.ref b),some (.d (.lst (os.map .int))),none,none,none,none,none,none] from rfl]
 have sb:=SB.refl hb
 have h1:=ho.1
 have okos:∀ x ∈ os,x.natAbs<=200:=fun x hx=>by have:=ho.2.2 x hx;omega
 refine zg fun r1 hr1=>?_
 walk_at "ra"
 rw [h1]
 subst hr1
 refine zg fun r1 hr1=>?_
 walk_at "ra"
 refine ⟨by omega,by omega,(os ++ [(n:Int)]).map .int,?_,_,_,_,rfl,small_one (by omega) (by omega) (by omega) (by omega),n,by rw [rangeSize_one];split <;> omega,by omega,.inl ⟨by omega,fun p hp _=>?_⟩⟩
 ·rw [show (os.map fun i=>AV.d (.int i)) ++ [AV.d (.int (n:Int))]=((os ++ [(n:Int)]).map fun i=>AV.d (.int i)) by rw [List.map_append];rfl]
  exact qy _
 obtain ⟨p0,pb⟩:=sb.new hp
 have e0:[AV.d (.lst (os.map .int)),AV.d (.lst ((os ++ [(n:Int)]).map .int)),AV.d (.lst ((qa 0 1 n).map .int)),AV.d (.lst (os.map Dat.int).reverse)]=(xl [os,os ++ [(n:Int)],qa 0 1 n,os.reverse]).map AV.d:=by
  show _=[_,_,_,AV.d (.lst (os.reverse.map .int))]
  rw [List.map_reverse]
 rw [e0]
 have sb:=sb.put p0 pb (.lst ((xl [os,os ++ [(n:Int)],qa 0 1 n,os.reverse]).map .d))
 have hpl:mup M p (.lst ((xl [os,os ++ [(n:Int)],qa 0 1 n,os.reverse]).map .d)) p=some (.lst ((xl [os,os ++ [(n:Int)],qa 0 1 n,os.reverse]).map .d)):=zh
 have ok0:∀ o ∈ [os,os ++ [(n:Int)],qa 0 1 n,os.reverse],OkO o:=fun o h=>by
  simp only [List.mem_cons,List.not_mem_nil,or_false] at h
  rcases h with rfl | rfl | rfl | rfl
  ·exact ⟨by omega,okos⟩
  ·exact ⟨by rw [List.length_append];show _+1<=_;omega,fun x hx=>(List.mem_append.mp hx).elim (okos x) fun h=>by rw [List.mem_singleton.mp h];omega⟩
  ·refine ⟨by rw [zZ];omega,fun x hx=>?_⟩
   unfold qa at hx
   obtain ⟨k,hk,rfl⟩:=List.mem_map.mp hx
   rw [List.mem_range] at hk;omega
  ·exact ⟨by rw [List.length_reverse];omega,fun x hx=>okos x (List.mem_reverse.mp hx)⟩
 have l0:[os,os ++ [(n:Int)],qa 0 1 n,os.reverse].length=4:=rfl
 generalize [os,os ++ [(n:Int)],qa 0 1 n,os.reverse]=oss at *
 have fr1:∀ q,q ≠ p->mup M p (.lst ((xl oss).map .d)) q=M q:=fun q h=>zu h
 generalize mup M p (.lst ((xl oss).map .d))=M1 at *
 subst hr1
 refine zg fun r1 hr1=>?_
 have tail:∀ (oss:List (List Int)) p M' u4 u5 u6 u7,M p=none->p ≠ b->SB M M' b (N+2)->M' p=some (.lst ((xl oss).map .d))->oss.length<=6->(∀ o ∈ oss,OkO o)->r1 M { nx:=fun x M'=>rtA M Q (.d .non) M',rt:=rtA M Q } [some (.ref b),some (.d (.lst (os.map .int))),some (.d (.int n)),some (.ref p),u4,u5,u6,u7] M':=fun oss p M' u4 u5 u6 u7 p0 pb sb hpl ll ok=>by
  subst hr1
  refine zg fun r1 hr1=>?_
  walk_at "ra"
  have fin:∀ (oss:List (List Int)) M',SB M M' b (N+2)->M' p=some (.lst ((xl oss).map .d))->oss.length<=8->(∀ o ∈ oss,OkO o)->r1 M { nx:=fun x M'=>rtA M Q (.d .non) M',rt:=rtA M Q } [some (.ref b),some (.d (.lst (os.map .int))),some (.d (.int n)),some (.ref p),u4,u5,u6,u7] M':=fun oss M' sb hpl ll ok=>by
   subst hr1
   walk_at "ra"
   exact sb.frz p0 pb hpl (zV _) fun M'' s=>q oss M'' s ll ok
  by_cases c:0<(n:Int)
  case neg=>rw [if_neg c];exact fin oss M' sb hpl (by omega) ok
  rw [if_pos c]
  have hx:∃ x,atI (os.map fun i=>AV.d (.int i)) (-1)=some (.d (.int x)):=by
   unfold atI ixN
   rw [List.length_map,h1,if_neg (by omega),if_pos (by omega)]
   have hlt:(-1+(n:Int)).toNat<os.length:=by omega
   exact ⟨os[(-1+(n:Int)).toNat],by show (os.map fun i=>AV.d (.int i))[(-1+(n:Int)).toNat]?=_;rw [List.getElem?_map,List.getElem?_eq_getElem hlt];rfl⟩
  obtain ⟨x,hx⟩:=hx
  refine ⟨_,hx,_,rfl,by rw [qV];omega,?_⟩
  by_cases c2:eqD (.int x) (.int ((n:Int) - 1))=true
  case neg=>rw [if_neg c2];exact fin oss M' sb hpl (by omega) ok
  rw [if_pos c2]
  refine ⟨⟨_,ji hpl⟩,_,by rw [vR];exact qy _,_,hpl,by rw [List.length_map,List.length_map];omega,?_⟩
  rw [show (xl oss).map AV.d ++ [AV.d (.lst ((jO os none (some (-1))).map .int))]=(xl (oss ++ [jO os none (some (-1))])).map AV.d by unfold xl;rw [List.map_append,List.map_append];rfl]
  refine fin _ _ (sb.put p0 pb _) zh (by rw [List.length_append];show _+1<=_;omega) fun o h=>?_
  rcases List.mem_append.mp h with h | h
  ·exact ok o h
  ·rw [List.mem_singleton.mp h]
   refine ⟨by unfold jO;rw [List.length_take,List.length_drop];omega,fun x hx=>okos x (List.mem_of_mem_drop (List.mem_of_mem_take hx))⟩
 refine WH fun r2 hr2=>?_
 walk_at "ra"
 by_cases c:1<(n:Int)
 case neg=>rw [if_neg c];exact tail oss p M1 _ _ _ _ p0 pb (sb.mono (by omega)) hpl (by omega) ok0
 rw [if_pos c]
 subst hr2
 refine zg fun r2 hr2=>?_
 walk_at "ra"
 refine ⟨b,n,N,rfl,sb.bx,by omega,by omega,by omega,fun one M2 s2 o0 o1=>?_⟩
 have sb:=sb.go s2
 rw [<- s2.at pb] at hpl
 subst hr2
 refine zg fun r2 hr2=>?_
 walk_at "ra"
 refine ⟨b,_,_,rfl,sb.bx,by omega,by omega,by omega,fun y M3 s3 y0 y1=>⟨_,rfl,by omega,?_⟩⟩
 have sb:=sb.go s3
 rw [<- s3.at pb] at hpl
 have z0:=Int.emod_nonneg (one+1+y) (show (n:Int) ≠ 0 by omega)
 have z1:=Int.emod_lt_of_pos (one+1+y) (show (0:Int)<n by omega)
 generalize (one+1+y) % (n:Int)=other at *
 have gt:∀ k:Int,0<=k->k<n->atI (os.map fun i=>AV.d (.int i)) k=some (.d (.int (os.getD k.toNat 0))):=fun k k0 k1=>(wR k0 (by omega)).1
 subst hr2
 refine zg fun r2 hr2=>?_
 walk_at "ra"
 intro tw htw _
 obtain ⟨t0,tb⟩:=sb.new htw
 have tp:tw ≠ p:=fun z=>by rw [z,hpl] at htw;cases htw
 subst hr2
 refine zg fun r2 hr2=>?_
 walk_at "ra"
 refine ⟨_,gt other z0 z1,_,gt one o0 o1,by omega,_,zh,one.toNat,by rw [List.length_map,h1,qD o0 o1],?_⟩
 have st:∀ (l:List Int) (k:Nat) (v:Int),(l.map fun i=>AV.d (.int i)).set k (.d (.int v))=(l.set k v).map fun i=>AV.d (.int i):=fun l k v=>by rw [List.map_set]
 rw [st]
 refine ⟨_,zh,other.toNat,by rw [List.length_map,List.length_set,h1,qD z0 z1],?_⟩
 rw [st]
 have okt:OkO ((os.set one.toNat (os.getD other.toNat 0)).set other.toNat (os.getD one.toNat 0)):=by
  have gm:∀ k,os.getD k 0 ∈ os \/ os.getD k 0=0:=fun k=>by
   by_cases h:k<os.length
   ·left;rw [List.getD_eq_getElem?_getD,List.getElem?_eq_getElem h];exact List.getElem_mem h
   ·right;rw [List.getD_eq_getElem?_getD,List.getElem?_eq_none (by omega)];rfl
  refine ⟨by rw [List.length_set,List.length_set];omega,fun x hx=>?_⟩
  rcases List.mem_or_eq_of_mem_set hx with hx | rfl
  ·rcases List.mem_or_eq_of_mem_set hx with hx | rfl
   ·exact okos x hx
   ·rcases gm other.toNat with h | h
    ·exact okos _ h
    ·rw [h];decide
  ·rcases gm one.toNat with h | h
   ·exact okos _ h
   ·rw [h];decide
 generalize (os.set one.toNat (os.getD other.toNat 0)).set other.toNat (os.getD one.toNat 0)=tn at *
 have sb2:=sb.put t0 tb (.lst (tn.map fun i=>AV.d (.int i)))
 have hp2:mup M3 tw (.lst (tn.map fun i=>AV.d (.int i))) p=some (.lst ((xl oss).map .d)):=by rw [zu (Ne.symm tp)];exact hpl
 have fr3:∀ q,q ≠ b->q ≠ p->M3 q=M q:=fun q h1 h2=>(s3.at h1).trans ((s2.at h1).trans (fr1 q h2))
 have em:mdel (mup M3 tw (.lst (tn.map fun i=>AV.d (.int i)))) tw=M3:=by
  funext q
  unfold mdel
  by_cases c:q=tw
  ·rw [if_pos c,c,htw]
  ·rw [if_neg c,zu c]
 subst hr2
 refine QH fun r2 hr2=>?_
 walk_at "ra"
 refine ⟨_,zh,_,qy _,t0,fun j hj z=>?_,fun q' o hq e=>?_,?_⟩
 ·match j with
  | 0=>exact tb (AV.ref.inj (Option.some.inj (Option.some.inj z))).symm
  | 3=>exact tp (AV.ref.inj (Option.some.inj (Option.some.inj z))).symm
  | 6=>exact hj rfl
  | 1 | 2 | 4 | 5 | 7=>cases z
  | k+8=>cases z
 ·rw [zu hq] at e
  by_cases c1:q'=b
  ·rw [c1] at e;exact .inr (sb.bx.refs e _)
  by_cases c2:q'=p
  ·rw [c2,hpl] at e;cases e
   refine .inr fun z=>?_
   obtain ⟨d,_,hd⟩:=List.mem_map.mp (show AV.ref tw ∈ (xl oss).map AV.d from z)
   cases hd
  ·rw [fr3 q' c1 c2] at e;exact .inl e
 rw [em]
 subst hr2
 walk_at "ra"
 refine ⟨by omega,by omega,?_⟩
 rw [Int.toNat_natCast]
 have idx:∀ k:Nat,k<n->(os.idxOf (k:Int))<n:=fun k hk=>by rw [<- h1];exact List.idxOf_lt_length_of_mem (yt ho hk)
 refine Xf (fun (o:Option AV)=>[some (.ref b),some (.d (.lst (os.map Dat.int))),some (.d (.int n)),some (.ref p),some (.d (.int one)),some (.d (.int other)),some (.d (.lst (tn.map Dat.int))),o]) (fun i=>.d (.int (os.idxOf (i:Int):Nat))) ⟨_,rfl⟩ trivial (by rw [jw];omega) (fun o i y Q hy q=>?_) fun o=>?_
 ·obtain ⟨hi,rfl⟩:=j9 hy
  walk_at "ra"
  have hlt:os.idxOf (i:Int)<os.length:=List.idxOf_lt_length_of_mem (yt ho hi)
  have hg:os.getD (os.idxOf (i:Int)) 0=(i:Int):=by
   rw [List.getD_eq_getElem?_getD,List.getElem?_eq_getElem hlt]
   exact List.getElem_idxOf hlt
  refine ⟨⟨_,rfl⟩,os,?_,os.idxOf (i:Int),hlt,by rw [hg];omega,fun m hmm z=>?_,q _⟩
  ·first | rfl | (rw [List.map_map];rfl)
  ·have:=ho.inj (i:=m) (j:=os.idxOf (i:Int)) (by omega) (by omega) (by rw [z,hg];omega)
   omega
 have e:(List.range (vT 0 1 n).length).map (fun i:Nat=>AV.d (.int (os.idxOf (i:Int):Nat)))=((List.range n).map fun i:Nat=>(os.idxOf (i:Int):Int)).map fun i=>AV.d (.int i):=by
  rw [jw,List.map_map];rfl
 rw [e]
 refine ⟨_,qy _,by omega,_,ji hpl,by rw [List.length_map,List.length_map];omega,fun p' hp' _=>?_⟩
 obtain ⟨q0,qb⟩:=sb.new hp'
 rw [show (xl oss).map AV.d ++ [AV.d (.lst (tn.map .int)),AV.d (.lst (((List.range n).map fun i:Nat=>(os.idxOf (i:Int):Int)).map .int))]=(xl (oss ++ [tn,(List.range n).map fun i:Nat=>(os.idxOf (i:Int):Int)])).map AV.d by unfold xl;rw [List.map_append,List.map_append];rfl]
 refine tail _ p' _ _ _ _ _ q0 qb ((sb.put q0 qb _).mono (by omega)) zh (by rw [List.length_append];show _+2<=_;omega) fun o h=>?_
 rcases List.mem_append.mp h with h | h
 ·exact ok0 o h
 ·obtain rfl | rfl:o=tn \/ o=(List.range n).map fun i:Nat=>(os.idxOf (i:Int):Int):=by simpa using h
  ·exact okt
  ·refine ⟨by rw [List.length_map,List.length_range];omega,fun x hx=>?_⟩
   obtain ⟨k,hk,rfl⟩:=List.mem_map.mp hx
   have:=idx k (List.mem_range.mp hk)
   omega
noncomputable def Pu (M0 M:MH):Prop:=∀ q o,M q=some o->M0 q=some o \/ ∀ r,¬ yV r o
theorem Pu.refl {M:MH}:Pu M M:=fun _ _ h=>.inl h
theorem Pu.mup {M0 M:MH}(h:Pu M0 M)(p:Addr)(l:List Dat):Pu M0 (mup M p (.lst (l.map .d))):=fun q o e=>by
 by_cases c:q=p
 ·rw [c,zh] at e
  cases e
  exact .inr fun r hr=>xI (zV l) r hr
 ·rw [zu c] at e;exact h q o e
theorem Pu.mdel {M0 M:MH}(h:Pu M0 M)(p:Addr):Pu M0 (mdel M p):=fun q o e=>by
 by_cases c:q=p
 ·rw [c,yD] at e;cases e
 ·rw [jR c] at e;exact h q o e
theorem Pu.box {M0 M M':MH}(h:Pu M0 M){b:Addr}{o:MO}(e:M'=L2.mup M b o){N:Nat}(hb:BxM M' b N):Pu M0 M':=by
 obtain ⟨x,y,z,h1,_⟩:=hb
 subst e
 rw [zh] at h1
 cases h1
 exact h.mup b ([x,y,z].map .int)
theorem Pu.bx {M0 M M':MH}(h:Pu M0 M){b:Addr}{N:Nat}(s:BxS M M' b N):Pu M0 M':=by
 obtain ⟨hb,o,e⟩:=s
 exact h.box e hb
noncomputable abbrev VI:Stmt:=top 31
theorem Bv:zt ["_law_script","_law_k","_law_box_here","_law_n","_law_own","_law_some","_law_order","_law_plan_here","_law_row","_law_hand","_law_thing","_law_kept","_law_due","_law_handed","_law_found","_law_turn"] ["_law_script"] (ze VI):=⟨rfl,rfl,rfl,by decide +kernel,rfl,by decide +kernel,by decide +kernel⟩
noncomputable def Xn (K:PySem.W.Frag):Sp:=fun vs H Q _=>∃ (a:Addr) (ns:List Int),vs=[.ref a]/\SqL K H a (ns.map V.int)/\ns.length<=63/\∀ H',Q (.bl true) H'
noncomputable def HU (K:PySem.W.Frag):ASp:=fun xs M Q=>∃ ns:List Int,xs=[.d (.scr K ns)]/\ns.length<=63/\Q (.d (.bl true)) M
theorem sp_law (vs:List V)(H:Hp)(Q:VK)(E:XK)(h:Xn K vs H Q E):cSp (HU K) vs H Q E:=by
 obtain ⟨a,ns,rfl,ha,hn,q⟩:=h
 refine ⟨[.d (.scr K ns)],fun _=>none,fun _=>False,fun x _=>x=.d (.bl true),⟨(fun a o e=>nomatch e),(fun a h=>h rfl),fun a h=>h.elim⟩,.cons (EC (fun _ z=>z) ha) .nil,⟨ns,rfl,hn,rfl⟩,fun x M' v H' O' hx _ _ r=>?_⟩
 subst hx
 rw [kz r]
 exact q H'
theorem Y0 {ds:List De}{s t:ES}(h:kT ds s t):∀ i ms,∃ ms',jr i (s,ms) (ds.map dD)=.ok (t,ms'):=by
 induction h with
 | nil=>exact fun i ms=>⟨ms,rfl⟩
 | @cons d l s t u h1 h2 ih=>
  intro i ms
  obtain ⟨ms',e⟩:=ih (i+1) ((jQ s d).foldl jN ms)
  refine ⟨ms',?_⟩
  rw [List.map_cons]
  unfold jr
  rw [Zm h1 ms]
  exact e
theorem Bz {ds:List De}{s t u:ES}{d:De}(h:kT ds s t)(h1:DoE d t u):kT (ds ++ [d]) s u:=by
 induction h with
 | nil=>exact .cons h1 .nil
 | cons a b ih=>exact .cons a (ih h1)
theorem wY {a b:AS}{B:MH}{D:qX}{ρ:ASt}{M:MH}(h:∀ r D',r=b->D'=D->kH a r B D' ρ M):kH a b B D ρ M:=h b D rfl rfl
structure OkV (x:Dat):Prop where
 w:OkW x
 h:Sh 40000 x
 d:dp x<=6
theorem vz {l:List Dat}(hl:l.length<=70)(h:∀ d ∈ l,OkE d):OkV (.lst l):=
 ⟨EM (by omega) h,(yJ (b:=500) (n:=70) hl fun d hd=>(h d hd).2.s).mono (by decide),by rw [dp];exact Nat.succ_le_succ (jE fun d hd=>(h d hd).2.d)⟩
theorem IU {x:Dat}(h:OkE x):OkV x:=⟨IZ h,h.2.s.mono (by decide),by have:=h.2.d;omega⟩
theorem DN {l:List Dat}(h:OkV (.lst l)):OkP (.tup l):=⟨by have:=h.w.p.1;simp only [dp] at this ⊢;exact this,fun l' e=>by rcases e with e | e <;> cases e;exact h.w.p.2 l (.inr rfl)⟩
theorem BV {o:List Int}{x:Dat}(ho:OkO o)(h:OkV x):Sh 90000 (.lst [.lst (o.map .int),x])/\dp (.lst [.lst (o.map .int),x])<=40:=by
 constructor
 ·refine (yJ (b:=40000) (n:=2) (by simp) fun d hd=>?_).mono (by decide)
  simp only [List.mem_cons,List.not_mem_nil,or_false] at hd
  rcases hd with rfl | rfl
  ·refine (yJ (b:=22) (n:=101) (by rw [List.length_map];exact ho.1) fun d hd=>?_).mono (by decide)
   obtain ⟨k,hk,rfl⟩:=List.mem_map.mp hd
   exact yN (Nat.lt_of_le_of_lt (ho.2 k hk) (by decide))
  ·exact h.h
 ·rw [dp]
  refine Nat.le_trans (Nat.succ_le_succ (jE (n:=6) fun d hd=>?_)) (by decide)
  simp only [List.mem_cons,List.not_mem_nil,or_false] at hd
  rcases hd with rfl | rfl
  ·rw [dp]
   refine Nat.le_trans (Nat.succ_le_succ (jE (n:=0) fun d hd=>?_)) (by decide)
   obtain ⟨k,_,rfl⟩:=List.mem_map.mp hd;rw [qV];exact Nat.le_refl 0
  ·exact h.d
theorem D1 (a b c:Dat):jO [a,b,c] none (some 2)=[a,b]:=rfl
theorem Iw (a b c d:Dat):jO [a,b,c,d] none (some 2)=[a,b]:=rfl
theorem Lg {l:List Dat}(h:∀ d ∈ l,dp d=0):dps l<=0:=jE fun d hd=>Nat.le_of_eq (h d hd)
theorem dp2 (s:Str){x:Dat}(h:dp x<=1):dp (.tup [.str s,x])<=40:=by
 rw [dp]
 refine Nat.le_trans (Nat.succ_le_succ (jE (n:=1) fun d hd=>?_)) (by decide)
 simp only [List.mem_cons,List.not_mem_nil,or_false] at hd
 rcases hd with rfl | rfl
 ·rw [qT];omega
 ·exact h
theorem dpl (o:List Int):dp (.lst (o.map .int))<=1:=by
 rw [dp];exact Nat.succ_le_succ (Lg fun d hd=>by obtain ⟨k,_,rfl⟩:=List.mem_map.mp hd;exact qV _)
theorem GW (os:List Int)(x:Dat):∃ l,wX os.length x=.tup l/\¬(HT.sIx l.length 0 none=0/\HT.sIx l.length l.length (some 2)=l.length)/\dp (.tup (jO l none (some 2)))<=40/\eqD (.tup (jO l none (some 2))) (.tup [.str (Str.ofString "done"),.lst (os.map .int)])=shB os x:=by
 unfold wX shB
 cases kq os.length x with
 | error e=>
  refine ⟨[.str (Str.ofString "bad"),.int e.1,.str (Str.ofString e.2)],rfl,fun z=>absurd z.2 (show ¬ HT.sIx 3 3 (some 2)=3 by decide +kernel),by rw [D1];exact dp2 _ (by rw [qV];omega),?_⟩
  rw [D1,eqD,kh,jl,decide_eq_false (by decide +kernel)]
  rfl
 | ok t=>
  obtain ⟨⟨row,hd⟩,ms⟩:=t
  cases hd with
  | none=>exact ⟨[.str (Str.ofString "done"),.lst ((bL row).map .int),.tup (ms.map .int)],rfl,fun z=>absurd z.2 (show ¬ HT.sIx 3 3 (some 2)=3 by decide +kernel),by rw [D1];exact dp2 _ (dpl _),by rw [D1,eqD,kh,jl,kh,kh,Qf,Bool.and_true,decide_eq_true rfl];rfl⟩
  | some h=>
   refine ⟨[.str (Str.ofString "open"),.tup (row.map oD),.int h,.tup (ms.map .int)],rfl,fun z=>absurd z.2 (show ¬ HT.sIx 4 4 (some 2)=4 by decide +kernel),?_,?_⟩
   ·rw [Iw]
    refine dp2 _ ?_
    rw [dp]
    exact Nat.succ_le_succ (Lg fun d hd=>by obtain ⟨k,_,rfl⟩:=List.mem_map.mp hd;cases k;exact Al;exact qV _)
   rw [Iw,eqD,kh,jl,decide_eq_false (by decide +kernel)]
   rfl
theorem vW:∀ {row:List (Option Int)},none ∈ row->∃ j,j<row.length/\row[j]?=some none/\∀ m c,m<j->row[m]?=some c->c ≠ none
 | [],h=>nomatch h
 | none :: row,_=>⟨0,by simp,rfl,fun m c h=>nomatch h⟩
 | some x :: row,h=>by
  obtain ⟨j,h1,h2,h3⟩:=vW (row:=row) (by simpa using h)
  refine ⟨j+1,by simpa using h1,h2,fun m c hm e=>?_⟩
  cases m with
  | zero=>cases e;exact fun z=>nomatch z
  | succ m=>exact h3 m c (by omega) e
noncomputable def Tr (x:Option AV):Prop:=∀ q,x ≠ some (.ref q)
theorem QC (d:Dat):Tr (some (.d d)):=fun _ z=>nomatch z
theorem Z6:Tr none:=fun _ z=>nomatch z
theorem SB.mdel {M0 M:MH}{b p:Addr}{N:Nat}(s:SB M0 M b N)(h0:M0 p=none)(hb:p ≠ b):SB M0 (mdel M p) b N:=by
 refine ⟨?_,fun q hq hqb=>?_,s.b0⟩
 ·obtain ⟨x,y,z,h1,h2⟩:=s.bx
  exact ⟨x,y,z,by rw [jR (Ne.symm hb)];exact h1,h2⟩
 ·rw [jR (fun z=>hq (by rw [z];exact h0))];exact s.fr q hq hqb
structure I12 (cs:List Int)(M:MH)(n:Nat)(ρ:ASt)(M':MH):Prop where
 fr:Fr M M'
 pu:Pu M M'
 ex:∃ x1 x2 x3 x4 x5 x6 x7 x8 x9 x10 x11 x12 x13 x14 x15,ρ=[some (.d (ilD cs)),x1,x2,x3,x4,x5,x6,x7,x8,x9,x10,x11,x12,x13,x14,x15]/\Tr x4/\Tr x5/\Tr x6/\Tr x10/\Tr x11/\Tr x12/\Tr x13/\Tr x14/\Tr x15
theorem Hg (a:At K mg "law" VI)(B:Blt mg)(D_law_box:Df P w K mg base "_law_box" ["_law_script","_law_k"] 19 (cSp IQ))(D_law_folded:Df P w K mg base "_law_folded" ["_law_script","_law_many"] 19 (cSp (XQ K)))(D_law_length:Df P w K mg base "_law_length" ["_law_box_here","_law_most"] 19 (cSp Xq))(D_law_take:Df P w K mg base "_law_take" ["_law_box_here","_law_many"] 19 (cSp vA))
  (D_law_plan:Df P w K mg base "_law_plan" ["_law_box_here","_law_n","_law_many"] 19 (Dw Wb)) (D_law_odd:Df P w K mg base "_law_odd" ["_law_box_here","_law_n"] 19 (cSp Lh)) (D_law_bent:Df P w K mg base "_law_bent" ["_law_box_here","_law_plan_here","_law_thing"] 19 (cSp WU)) (D_law_judged:Df P w K mg base "_law_judged" ["_law_n","_law_plan_here"] 19 (cSp Xw)) (D_law_orders:Df P w K mg base "_law_orders" ["_law_box_here","_law_order"] 19 (cSp K3)) (D_shows_plan:Df P w K mg base "shows_plan" ["order","plan"] 19 (cSp IM)) :
  Df P w K mg base "law" ["_law_script"] 20 (cSp (HU K)):=by
 refine dfA (k:=19) a Bv (fun _ _ _ _ _ _=>Pn1_ fun _=>rfl) (fun xs M Q h=>?_) (fun f cdv A outer s H E hr=>?_)
 ·obtain ⟨_,rfl,_⟩:=h;rfl
 have sc:=Bv
 have hsl:=hsl
 refine ⟨_,(zc (zB (i:=0) sc.nd rfl (by first | exact Or.inl rfl | exact Or.inr rfl) (zP D_law_folded hr rfl (za (pv 0) (za zd zb))))
  (zc (jZ PassesOwn.never rfl (ju rfl B.range (za (zo (wz rfl) rfl B.max Bc (za zd (za (zo zp rfl B.len qd (za (pv 0) zb)) zb))) zb)) (zF (i:=1) sc.nd rfl (by first | exact Or.inl rfl | exact Or.inr rfl)) (zc (zB (i:=2) sc.nd rfl (by first | exact Or.inl rfl | exact Or.inr rfl) (zP D_law_box hr rfl (za (pv 0) (za (pv 1) zb))))
  (zc (zB (i:=3) sc.nd rfl (by first | exact Or.inl rfl | exact Or.inr rfl) (zP D_law_length hr rfl (za (pv 2) (za zd zb))))
  (zc (qp (zP D_law_plan hr rfl (za (pv 2) (za (pv 3) (za (zP D_law_take hr rfl (za (pv 2) (za zd zb))) zb)))) (qP (K:=K) 3 rfl rfl (zE (zF (i:=7) sc.nd rfl (by first | exact Or.inl rfl | exact Or.inr rfl)) (zE (zF (i:=8) sc.nd rfl (by first | exact Or.inl rfl | exact Or.inr rfl)) (zE (zF (i:=9) sc.nd rfl (by first | exact Or.inl rfl | exact Or.inr rfl)) qO)))))
  (zc (zJ (zl jm (pv 9) zS (zq _)) (zf (jb (yT PySem.F.plainAttrs_list PySem.F.slot_list_append PySem.F.type_list_append jW (pv 7) (za (zy (za zm (za (yT PySem.F.plainAttrs_list PySem.F.slot_list_index PySem.F.type_list_index X9 (pv 8) (za zS zb)) zb))) zb)))) zr)
  (Z1 7 (zc (zB (i:=4) sc.nd rfl (by first | exact Or.inl rfl | exact Or.inr rfl) (zx zD (zP D_law_judged hr rfl (za (pv 3) (za (pv 7) zb))) zd (fun _ _=>rfl)))
  (zc (zB (i:=5) sc.nd rfl (by first | exact Or.inl rfl | exact Or.inr rfl) (zv qH (zL (za (pv 7) (za (zL zb) (za (zP D_law_odd hr rfl (za (pv 2) (za (pv 3) zb))) zb)))) (yb (ts:=[15]) rfl rfl (ju rfl B.range (za zd zb)) (fun _ _ _ _=>(zF (i:=15) sc.nd rfl (by first | exact Or.inl rfl | exact Or.inr rfl))) (fun _ _ _ _=>xv) (fun _ _ _ _=>(zP D_law_bent hr rfl (za (pv 2) (za (pv 7) (za (zP D_law_odd hr rfl (za (pv 2) (za (pv 3) zb))) zb))))))))
  (zc (jZ PassesOwn.never rfl (vb (zP D_law_orders hr rfl (za (pv 2) (za (pv 4) zb)))) (zF (i:=6) sc.nd rfl (by first | exact Or.inl rfl | exact Or.inr rfl)) (zf (jZ PassesOwn.never rfl (vb (pv 5)) (zF (i:=10) sc.nd rfl (by first | exact Or.inl rfl | exact Or.inr rfl)) (zc (zB (i:=11) sc.nd rfl (by first | exact Or.inl rfl | exact Or.inr rfl) (zC (Zj hr.gd hr.units) rfl B.str Zr (za (zL (za (pv 6) (za (pv 10) zb))) zb)))
  (zc (zB (i:=12) sc.nd rfl (by first | exact Or.inl rfl | exact Or.inr rfl) (xE (zX hr.units) (zR yC (zP D_law_judged hr rfl (za (zo zp rfl B.len qd (za (pv 6) zb)) (za (pv 10) zb))) qg (zO zd)) (zy (za zm (za (pv 6) zb))) (zq _)))
  (zc (zB (i:=13) sc.nd rfl (by first | exact Or.inl rfl | exact Or.inr rfl) (kD (zl (zX hr.units) (zP D_law_take hr rfl (za (pv 2) (za zd zb))) zd (zq _)) (zC qt rfl B.tuple qE (za (pv 6) zb)) (pv 6)))
  (zc (zB (i:=14) sc.nd rfl (by first | exact Or.inl rfl | exact Or.inr rfl) (zP D_shows_plan hr rfl (za (pv 13) (za (kD (qR (zo qY rfl B.isinstance zK (za (pv 10) (za (qv (v:=.ty "list") rfl B.list qS rfl) zb))) (fun _=>rfl)) (zC qt rfl B.tuple qE (za (pv 10) zb)) (pv 10)) zb))))
  (zc (zJ (PW.pt (kl (jn (qR (zo qY rfl B.isinstance zK (za (pv 14) (za (qv (v:=.ty "bool") rfl B.bool Zk rfl) zb))) (fun _=>rfl))) (kl (zl (j8 hr.units) (pv 14) (pv 12) (zq _)) (ka (zl (j8 hr.units) (zP D_shows_plan hr rfl (za (pv 6) (za (pv 10) zb))) (pv 12) (zq _)))))) (zf (zz jo)) zr)
  (zf (zJ (zl (j8 hr.units) (zC (Zj hr.gd hr.units) rfl B.str Zr (za (zL (za (pv 6) (za (pv 10) zb))) zb)) (pv 11) (zq _)) (zf (zz jo)) zr))))))))))
  (zf (zJ (PW.pt (kl (zl XG (zP D_shows_plan hr rfl (za (pv 4) (za zm zb))) jo (zq _)) (ka (zl XG (zP D_shows_plan hr rfl (za (zC (qZ rfl) rfl B.list qS (za (zC jz rfl B.range xq (za (pv 3) zb)) zb)) (za zm zb))) jo (zq _))))) (zf (zz jo)) zr)))))))))))
  (zf (zz jo)))),?_⟩
 refine ex2 (by walk_at "sim") ?_
 rintro xs M Q ⟨ns,rfl,hn,q⟩
 rw [show zQ ["_law_script","_law_k","_law_box_here","_law_n","_law_own","_law_some","_law_order","_law_plan_here","_law_row","_law_hand","_law_thing","_law_kept","_law_due","_law_handed","_law_found","_law_turn"] [.d (.scr K ns)]=[some (.d (.scr K ns)),none,none,none,none,none,none,none,none,none,none,none,none,none,none,none] from rfl]
 refine zg fun r hr0=>?_
 walk_at "ra"
 refine ⟨5,ns,rfl,by omega,by omega,hn,fun cs lc=>?_⟩
 subst hr0
 refine zg fun r hr0=>?_
 walk_at "ra"
 refine ⟨by split <;> omega,by split <;> omega,?_⟩
 refine ⟨I12 cs M,⟨Fr.refl,Pu.refl,_,_,_,_,_,_,_,_,_,_,_,_,_,_,_,rfl,Z6,Z6,Z6,Z6,Z6,Z6,Z6,Z6,Z6⟩,?_,?_⟩
 ·rintro i y ρ M1 hy ⟨f1,pu,x1,x2,x3,x4,x5,x6,x7,x8,x9,x10,x11,x12,x13,x14,x15,rfl,t4,t5,t6,t10,t11,t12,t13,t14,t15⟩
  obtain ⟨hi,rfl⟩:=j9 hy
  have hi':(i:Int)<=1000:=by
   have:(i:Int)<(if (cs.length:Int) > 2 then (cs.length:Int) else 2):=by omega
   split at this <;> omega
  refine ⟨trivial,?_⟩
  rw [Int.zero_add,Int.mul_one]
  show kH _ _ _ _ _ _
  refine zg fun r2 hr2=>?_
  walk_at "ra"
  refine ⟨_,i,cs,rfl,D7 _ _,by omega,by omega,by omega,fun b o hb bx=>?_⟩
  have b0:=f1.non hb
  have f2:=f1.mup b0 o
  have sb:=SB.refl bx
  have pu:=pu.box rfl bx
  generalize mup M1 b o=M2 at *
  subst hr2
  refine zg fun r2 hr2=>?_
  walk_at "ra"
  refine ⟨b,40,0,rfl,sb.bx,by omega,by omega,by omega,fun n M3 s3 n0 n1=>?_⟩
  have sb:=sb.go s3
  have pu:=pu.bx s3
  obtain ⟨n,rfl⟩:∃ k:Nat,n=k:=⟨n.toNat,by omega⟩
  subst hr2
  refine zg fun r2 hr2=>?_
  walk_at "ra"
  refine ⟨b,21,_,rfl,sb.bx,by omega,by omega,by omega,fun m M4 s4 m0 m1=>?_⟩
  have sb:=sb.go s4
  have pu:=pu.bx s4
  refine ⟨b,n,_,m,rfl,by omega,m0,by omega,sb.bx,by omega,fun M5 ds st p s5 hp hpb ld hdo=>⟨rfl,?_⟩⟩
  obtain ⟨p0,pb⟩:=sb.new hp
  have sb:=((sb.go s5).mono (show _<=400 by omega)).put p0 pb (.lst ((ds.map dD).map .d))
  have pu:=(pu.bx s5).mup p (ds.map dD)
  have hpl:mup M5 p (.lst ((ds.map dD).map .d)) p=some (.lst ((ds.map dD).map .d)):=zh
  generalize mup M5 p (.lst ((ds.map dD).map .d))=M6 at *
  have cst:=Z9 hdo (j6 n)
  have l1:st.1.length=n:=cst.1
  have okd:∀ (ds:List De) st,kT ds ((qa 0 1 n).map some,none) st->∀ d ∈ ds.map dD,OkE d:=fun ds st hdo d hd=>by
   obtain ⟨e,he,rfl⟩:=List.mem_map.mp hd
   refine GK fun k hk=>?_
   have:=Gb hdo e he k hk
   rw [show ((qa 0 1 n).map some,(none:Option Int)).1.length=n by rw [List.length_map,zZ]] at this
   exact Nat.lt_of_le_of_lt (show k<=60 by omega) (by decide)
  refine ⟨_,_,rfl,_,_,rfl,_,_,rfl,rfl,?_⟩
  subst hr2
  refine zg fun r2 hr2=>?_
  have key:∀ (ds:List De) (row:List (Option Int)) M',kT ds ((qa 0 1 n).map some,none) (row,none)->ds.length<=21->SB M2 M' b 401->Pu M M'->M' p=some (.lst ((ds.map dD).map .d))->r2 M { nx:=I12 cs M (i+1),rt:=rtA M Q,bk:=r M { nx:=fun x M'=>rtA M Q (.d .non) M',rt:=rtA M Q },ct:=I12 cs M (i+1) }
    [some (.d (ilD cs)),some (.d (.int i)),some (.ref b),some (.d (.int n)),x4,x5,x6,some (.ref p),some (.d (.lst (st.1.map oD))),some (.d (oD st.2)),x10,x11,x12,x13,x14,x15] M':=fun ds row M' hdo ll sb pu hpl=>by
   subst hr2
   have okl:=okd ds _ hdo
   have ll:(ds.map dD).length<=21:=by rw [List.length_map];exact ll
   obtain ⟨ms,hwk⟩:=Y0 hdo 0 (List.replicate n 0)
   have hwk:kq n (.lst (ds.map dD))=.ok ((row,none),ms):=hwk
   have cs':=Z9 hdo (j6 n)
   generalize ds.map dD=l at *
   have mp:=f2.non p0
   refine QH fun r3 hr3=>?_
   walk_at "ra"
   refine ⟨_,hpl,_,zV _,mp,fun j hj z=>?_,fun q o hq e=>(pu q o e).imp id fun z=>z p,?_⟩
   ·match j with
    | 0 | 1 | 3 | 8 | 9=>cases z
    | 2=>cases z;exact pb rfl
    | 4=>exact t4 p (Option.some.inj z)
    | 5=>exact t5 p (Option.some.inj z)
    | 6=>exact t6 p (Option.some.inj z)
    | 7=>exact hj rfl
    | 10=>exact t10 p (Option.some.inj z)
    | 11=>exact t11 p (Option.some.inj z)
    | 12=>exact t12 p (Option.some.inj z)
    | 13=>exact t13 p (Option.some.inj z)
    | 14=>exact t14 p (Option.some.inj z)
    | 15=>exact t15 p (Option.some.inj z)
    | n+16=>cases z
   have sb:=SB.mdel sb p0 pb
   have pu:=pu.mdel p
   generalize mdel M' p=M7 at *
   subst hr3
   refine zg fun r3 hr3=>?_
   walk_at "ra"
   obtain ⟨os,rfl,ho⟩:=ZF cs'
   have hb:=WY ho
   have hjd:wX n (.lst l)=.tup [.str (Str.ofString "done"),.lst ((bL (os.map some)).map .int),.tup (ms.map .int)]:=by unfold wX;rw [hwk];rfl
   refine ⟨n,.lst l,rfl,by omega,(vz (by omega) okl).w.p,?_⟩
   rw [hjd]
   generalize bL (os.map some)=own at *
   refine ⟨_,rfl,_,rfl,?_⟩
   subst hr3
   refine zg fun r3 hr3=>?_
   walk_at "ra"
   refine ⟨b,_,n,rfl,sb.bx,by omega,by omega,fun u M8 s8 ou su=>⟨by omega,[.lst l,.lst [],u],rfl,by omega,by omega,?_⟩⟩
   have sb:=sb.go s8
   have pu:=pu.bx s8
   have oku:∀ x ∈ [Dat.lst l,.lst [],u],OkV x:=fun x hx=>by
    simp only [List.mem_cons,List.not_mem_nil,or_false] at hx
    rcases hx with rfl | rfl | rfl
    ·exact vz (by omega) okl
    ·exact vz (by simp) (by simp)
    ·exact IU ⟨ou,su⟩
   generalize hls:[Dat.lst l,.lst [],u]=ls at *
   have lls:ls.length=3:=by rw [<- hls];rfl
   refine ⟨fun j acc ρ M'=>∃ (x15:Option AV) (as:List Dat),acc=as.map .d/\as.length=j/\(∀ x ∈ as,OkV x)/\ρ=[some (.d (ilD cs)),some (.d (.int i)),some (.ref b),some (.d (.int n)),some (.d (.lst (own.map .int))),x5,x6,some (.d (.lst l)),some (.d (.lst (st.1.map oD))),some (.d (oD st.2)),x10,x11,x12,x13,x14,x15]/\SB M2 M' b (410+10 * j)/\Pu M M',⟨_,[],rfl,rfl,by simp,rfl,sb.mono (by omega),pu⟩,?_,?_⟩
   ·rintro j y acc ρ M' hy ⟨x15,as,rfl,la,oka,rfl,sb,pu⟩
    obtain ⟨hj,rfl⟩:=j9 hy
    have hj:j<6:=hj
    refine ⟨trivial,?_⟩
    walk_at "ra"
    refine ⟨b,_,n,rfl,sb.bx,by omega,by omega,fun u M8 s8 ou su=>?_⟩
    have sb:=sb.go s8
    have pu:=pu.bx s8
    refine ⟨b,_,l,u,rfl,sb.bx,by omega,by omega,fun l' M9 s9 ml ll'=>⟨by omega,_,as ++ [.lst l'],by rw [List.map_append];rfl,by rw [List.length_append,la];rfl,fun x hx=>?_,rfl,(sb.go s9).mono (by omega),pu.bx s9⟩⟩
    rcases List.mem_append.mp hx with hx | hx
    ·exact oka x hx
    ·rw [List.mem_singleton.mp hx]
     refine vz (by omega) fun d hd=>?_
     rcases ml d hd with h | rfl
     ·exact okl d h
     ·exact ⟨ou,su⟩
   ·rintro acc ρ M' ⟨x15',as,rfl,la,oka,rfl,sb,pu⟩
    have la:as.length=6:=la
    refine ⟨trivial,as,zV _,by omega,ls ++ as,by rw [<- List.map_append];exact zV _,?_⟩
    have oka:∀ x ∈ ls ++ as,OkV x:=fun x hx=>(List.mem_append.mp hx).elim (oku x) (oka x)
    have la:(ls ++ as).length=9:=by rw [List.length_append];omega
    generalize ls ++ as=ls at *
    have sb:=sb.mono (show _<=500 from by show 410+10 * 6<=500;omega)
    subst hr3
    refine zg fun r3 hr3=>?_
    walk_at "ra"
    refine ⟨b,_,n,own,rfl,sb.bx,by omega,hb,by omega,fun oss M8 s8 lo oko=>?_⟩
    have sb:=sb.go s8
    have pu:=pu.bx s8
    refine ⟨_,rfl,?_⟩
    refine ⟨fun j ρ M'=>∃ x6 x10 x11 x12 x13 x14,ρ=[some (.d (ilD cs)),some (.d (.int i)),some (.ref b),some (.d (.int n)),some (.d (.lst (own.map .int))),some (.d (.lst ls)),x6,some (.d (.lst l)),some (.d (.lst (st.1.map oD))),some (.d (oD st.2)),x10,x11,x12,x13,x14,x15]/\Tr x6/\Tr x10/\Tr x11/\Tr x12/\Tr x13/\Tr x14/\SB M2 M' b (510+10 * j)/\Pu M M',⟨_,_,_,_,_,_,rfl,t6,t10,t11,t12,t13,t14,sb.mono (by omega),pu⟩,?_,?_⟩
    ·rintro j y ρ MO hy ⟨x6,x10,x11,x12,x13,x14,rfl,t6,t10,t11,t12,t13,t14,sb,pu⟩
     refine ⟨rfl,?_⟩
     have hj:=(List.getElem?_eq_some_iff.mp hy).1
     obtain ⟨od,hod,rfl⟩:=List.mem_map.mp (List.mem_of_getElem? hy)
     obtain ⟨o,ho,rfl⟩:=List.mem_map.mp hod
     have oko:=oko o ho
     have hj:j<8:=by rw [List.length_map,List.length_map] at hj;omega
     walk_at "ra"
     refine ⟨fun k ρ M'=>∃ x10 x11 x12 x13 x14,ρ=[some (.d (ilD cs)),some (.d (.int i)),some (.ref b),some (.d (.int n)),some (.d (.lst (own.map .int))),some (.d (.lst ls)),some (.d (.lst (o.map .int))),some (.d (.lst l)),some (.d (.lst (st.1.map oD))),some (.d (oD st.2)),x10,x11,x12,x13,x14,x15]/\Tr x10/\Tr x11/\Tr x12/\Tr x13/\Tr x14/\SB M2 M' b (510+10 * j+k)/\Pu M M',⟨_,_,_,_,_,rfl,t10,t11,t12,t13,t14,sb,pu⟩,?_,?_⟩
     ·rintro k y ρ M' hy ⟨x10,x11,x12,x13,x14,rfl,t10,t11,t12,t13,t14,sb,pu⟩
      refine ⟨trivial,?_⟩
      have hk:=(List.getElem?_eq_some_iff.mp hy).1
      rw [List.length_map] at hk
      obtain ⟨th,hth,rfl⟩:=List.mem_map.mp (List.mem_of_getElem? hy)
      have okt:=oka th hth
      have okp:=okt.w.p
      obtain ⟨shp,dpp⟩:=BV oko okt
      have lo1:=oko.1
      show kH _ _ _ _ _ _
      refine zg fun r4 hr4=>?_
      walk_at "ra"
      have pl:(pdD (.lst [.lst (o.map .int),th])).shown.length<=sizeLine:=Nat.le_trans shp.l (by omega)
      refine ⟨by omega,.inl ⟨_,rfl⟩,dpp,shp.s,pl,?_⟩
      subst hr4
      refine zg fun r4 hr4=>?_
      walk_at "ra"
      obtain ⟨lw,lw1,lw2,lw3,lw4⟩:=GW o th
      refine ⟨o.length,th,rfl,by omega,okp,lw,by rw [lw1],lw2,by omega,lw3,dp2 _ (dpl _),?_⟩
      rw [lw4]
      subst hr4
      refine wY fun r4 D4 hr4 hD4=>?_
      walk_at "ra"
      refine ⟨b,2,_,rfl,sb.bx,by omega,by omega,by omega,fun w M8 s8 w0 w1=>⟨_,rfl,by rw [qV];omega,?_⟩⟩
      have sb:=sb.go s8
      have pu:=pu.bx s8
      have fin:∀ ox,(ox=Dat.lst (o.map .int) \/ ox=Dat.tup (o.map .int))->r4 MO D4 [some (.d (ilD cs)),some (.d (.int i)),some (.ref b),some (.d (.int n)),some (.d (.lst (own.map .int))),some (.d (.lst ls)),some (.d (.lst (o.map .int))),some (.d (.lst l)),some (.d (.lst (st.1.map oD))),some (.d (oD st.2)),some (.d th),some (.d (.str (shD (.lst [.lst (o.map .int),th])))),some (.d (.bl (shB o th))),some (.d ox),x14,x15] M8:=fun ox hox=>by
       subst hr4
       refine wY fun r4 D5 hr4 hD5=>?_
       have fin2:r4 MO D5 [some (.d (ilD cs)),some (.d (.int i)),some (.ref b),some (.d (.int n)),some (.d (.lst (own.map .int))),some (.d (.lst ls)),some (.d (.lst (o.map .int))),some (.d (.lst l)),some (.d (.lst (st.1.map oD))),some (.d (oD st.2)),some (.d th),some (.d (.str (shD (.lst [.lst (o.map .int),th])))),some (.d (.bl (shB o th))),some (.d ox),some (.d (.bl (shB o th))),x15] M8:=by
        subst hr4
        subst hD5
        subst hD4
        have e3:eqD (.bl (shB o th)) (.bl (shB o th))=true:=by rw [Bt];exact decide_eq_true rfl
        have e4:eqD (.str (shD (.lst [.lst (o.map .int),th]))) (.str (shD (.lst [.lst (o.map .int),th])))=true:=by rw [jl];exact decide_eq_true rfl
        refine zg fun r4 hr4=>?_
        walk_at "ra"
        refine ⟨_,_,o,rfl,.inl rfl,by omega,okp,_,rfl,by simp [dp],?_⟩
        rw [e3,if_neg (fun z=>nomatch z)]
        subst hr4
        walk_at "ra"
        exact ⟨by omega,.inl ⟨_,rfl⟩,dpp,shp.s,pl,QC _,QC _,QC _,QC _,QC _,sb,pu⟩
       have lo2:o.length<=1000:=by omega
       cases th with
       | lst k=>walk_at "ra";exact ⟨_,_,o,rfl,hox,lo2,DN okt,fin2⟩
       | tup k=>walk_at "ra";exact ⟨_,_,o,rfl,hox,lo2,okp,fin2⟩
       | non=>walk_at "ra";exact ⟨_,_,o,rfl,hox,lo2,okp,fin2⟩
       | bl k=>walk_at "ra";exact ⟨_,_,o,rfl,hox,lo2,okp,fin2⟩
       | int k=>walk_at "ra";exact ⟨_,_,o,rfl,hox,lo2,okp,fin2⟩
       | str k=>walk_at "ra";exact ⟨_,_,o,rfl,hox,lo2,okp,fin2⟩
       | ty _=>have:=okp.1;rw [dp] at this;omega
       | rng _ _ _=>have:=okp.1;rw [dp] at this;omega
       | scr _ _=>have:=okp.1;rw [dp] at this;omega
      by_cases c:eqD (.int w) (.int 0)=true
      ·rw [if_pos c];exact fin _ (.inr rfl)
      ·rw [if_neg c];exact fin _ (.inl rfl)
     ·rintro ρ M' ⟨x10,x11,x12,x13,x14,rfl,t10,t11,t12,t13,t14,sb,pu⟩
      exact ⟨trivial,_,_,_,_,_,_,rfl,QC _,t10,t11,t12,t13,t14,sb.mono (by rw [List.length_map,la];omega),pu⟩
    ·rintro ρ M' ⟨x6,x10,x11,x12,x13,x14,rfl,t6,t10,t11,t12,t13,t14,sb,pu⟩
     refine ⟨rfl,?_⟩
     subst hr3
     have oks:OkP (.str (Str.ofString "")):=⟨by rw [qT];omega,fun l e=>by rcases e with e | e <;> cases e⟩
     walk_at "ra"
     exact ⟨_,_,own,rfl,.inl rfl,by have:=hb.1;omega,oks,false,rfl,_,_,_,rfl,small_one (by omega) (by omega) (by omega) (by omega),n,by rw [rangeSize_one];split <;> omega,by omega,_,_,_,rfl,.inl rfl,by rw [zZ];omega,oks,false,rfl,SB.frm f2 b0 sb,pu,_,_,_,_,_,_,_,_,_,_,_,_,_,_,_,rfl,QC _,QC _,t6,t10,t11,t12,t13,t14,t15⟩
  walk_at "ra"
  obtain ⟨row,hd⟩:=st
  cases hd with
  | none=>
   rw [if_neg (by rw [show jM (AV.d (oD none))=true from rfl];exact fun z=>nomatch z)]
   exact key ds row _ hdo (by omega) (sb.mono (by omega)) pu hpl
  | some h=>
   rw [if_pos (show jM (AV.d (oD (some h)))=false from rfl)]
   obtain ⟨j,j1,j2,j3⟩:=vW (En cst)
   have j1':j<n:=by rw [<- l1];exact j1
   refine ⟨⟨_,ji hpl⟩,⟨_,rfl⟩,row.map vC,by rw [List.map_map];exact Bj row,.non,rfl,j,by rw [List.length_map];exact j1,fun y hy=>?_,fun m y hm hy=>?_,by omega,_,hpl,by rw [List.length_map,List.length_map];omega,?_⟩
   ·rw [List.getElem?_map,j2] at hy;cases hy;rfl
   ·rw [List.getElem?_map] at hy
    cases e:row[m]? with
    | none=>rw [e] at hy;cases hy
    | some c=>
     rw [e] at hy;cases hy
     cases c with
     | none=>exact absurd rfl (j3 m none hm e)
     | some x=>rfl
   ·have el:(ds.map dD).map AV.d ++ [AV.d (.tup [.str (Str.ofString "lay"),.int j])]=((ds ++ [De.lay j]).map dD).map AV.d:=by rw [List.map_append,List.map_append];rfl
    rw [el]
    exact key (ds ++ [.lay j]) _ _ (Bz hdo (.lay j2)) (by rw [List.length_append];show _+1<=_;omega) ((sb.mono (by omega)).put p0 pb _) (pu.mup p _) zh
 ·rintro ρ M' ⟨f1,pu,x1,x2,x3,x4,x5,x6,x7,x8,x9,x10,x11,x12,x13,x14,x15,rfl,-⟩
  refine ⟨trivial,?_⟩
  subst hr0
  walk_at "ra"
  exact xV f1 q
end
theorem all_mk {l:PySem.W.OpenLaw}{w:World}{K:PySem.W.Frag}{h:Heap}{mg:Str->Option Value}{fa C pa cBadDeed cBadPlan fBadDeed fBadPlan:Addr}{cdd:ClassData}{cdp:ClassData}(X:K.In h)(G:h.Ns mainGlobals mg)(hfa:mg "law"=some (.ref fa))(a:At K mg "law" VI)(B:Blt mg)(Ball:mg "all"=none)
  (a__law_take:At K mg "_law_take" JT) (a__law_box:At K mg "_law_box" AB) (a__law_folded:At K mg "_law_folded" wm) (a__law_length:At K mg "_law_length" wl) (a__law_deed:At K mg "_law_deed" Jh) (a__law_done:At K mg "_law_done" Kq) (a__law_plan:At K mg "_law_plan" Jg) (a__law_odd:At K mg "_law_odd" V0) (a__law_why:At K mg "_law_why" Js) (a__law_counted:At K mg "_law_counted" xP) (a__law_judged:At K mg "_law_judged" JS) (a__law_bent:At K mg "_law_bent" vV) (a_is_place:At K mg "is_place" xZ) (a_is_deed:At K mg "is_deed" vU) (a_back_of:At K mg "back_of" JZ) (a_room_behind:At K mg "room_behind" JU) (a_walked:At K mg "walked" VF) (a__law_orders:At K mg "_law_orders" Zl) (a_is_order:At K mg "is_order" yP) (a_shows_plan:At K mg "shows_plan" Au)
  (ag_BadDeed:PySem.W.nsIn K mainGlobals "BadDeed"=some (some (.ref cBadDeed)))
  (ag_BadPlan:PySem.W.nsIn K mainGlobals "BadPlan"=some (some (.ref cBadPlan)))
  (xgs:PySem.W.specialIn K (.builtin "object.__class__") "__get__"=some (some (.builtin "getset_descriptor.__get__")))
  (xtk:PySem.W.takesIn K (.builtin "object.__class__")=some true)
  (dbx:PySem.W.subIn K (.ref cBadDeed) (.type "BaseException")=some true)
  (dga:PySem.W.findIn K (.ref cBadDeed) "__getattribute__"=some (some (.builtin "BaseException.__getattribute__")))
  (dgt:PySem.W.findIn K (.ref cBadDeed) "__getattr__"=some none)
  (dcl:PySem.W.findIn K (.ref cBadDeed) "__class__"=some (some (.builtin "object.__class__")))
  (dmo:PySem.W.mroIn K cBadDeed (.type "object")=some true)
  (dis:PySem.W.clsIn K cBadDeed=some cdd)
  (dhd:PySem.W.hasDictIn K cBadDeed=true)
  (dfw:PySem.W.findIn K (.ref cBadDeed) "word"=some none)
  (pbx:PySem.W.subIn K (.ref cBadPlan) (.type "BaseException")=some true)
  (pga:PySem.W.findIn K (.ref cBadPlan) "__getattribute__"=some (some (.builtin "BaseException.__getattribute__")))
  (pgt:PySem.W.findIn K (.ref cBadPlan) "__getattr__"=some none)
  (pcl:PySem.W.findIn K (.ref cBadPlan) "__class__"=some (some (.builtin "object.__class__")))
  (pmo:PySem.W.mroIn K cBadPlan (.type "object")=some true)
  (pis:PySem.W.clsIn K cBadPlan=some cdp)
  (phd:PySem.W.hasDictIn K cBadPlan=true)
  (pfw:PySem.W.findIn K (.ref cBadPlan) "word"=some none)
  (di:PySem.W.exmOne K (.ref cBadDeed) (.ref cBadDeed)=some true)
  (pe:PySem.W.exmOne K (.ref cBadPlan) (.ref cBadPlan)=some true)
  (pfp:PySem.W.findIn K (.ref cBadPlan) "place"=some none)
  (xa_BadDeed:PySem.W.findIn K (.ref cBadDeed) "__init__"=some (some (.ref fBadDeed))) (xd_BadDeed:∃ fd,Fun K "__init__" "BadDeed.__init__" wg fBadDeed fd) (xn_BadDeed:PySem.W.isFn K (.ref fBadDeed)=true) (xq_BadDeed:j7 K cBadDeed vG "ValueError.__new__" fBadDeed=true) (xs_BadDeed_word:yr K cBadDeed "word")
  (xa_BadPlan:PySem.W.findIn K (.ref cBadPlan) "__init__"=some (some (.ref fBadPlan))) (xd_BadPlan:∃ fd,Fun K "__init__" "BadPlan.__init__" yq fBadPlan fd) (xn_BadPlan:PySem.W.isFn K (.ref fBadPlan)=true) (xq_BadPlan:j7 K cBadPlan vG "ValueError.__new__" fBadPlan=true) (xs_BadPlan_place:yr K cBadPlan "place") (xs_BadPlan_word:yr K cBadPlan "word")
  (aP:PySem.W.nsIn K mainGlobals "PLACES_OF"=some (some (.ref pa))) {t1 t2 t3 t4 u1 u2 u3 u4:Tok} {ep:Nat}
  (lP:K.lookup pa=some ⟨.type "dict",none,.dict #[⟨hashStr w "swap",.str "swap" t1,.int 2 u1⟩,⟨hashStr w "take",.str "take" t2,.int 1 u2⟩,⟨hashStr w "move",.str "move" t3,.int 2 u3⟩,⟨hashStr w "lay",.str "lay" t4,.int 1 u4⟩] ep,#[]⟩) (nP:(pa == sysModules)=false)
  (aC:PySem.W.nsIn K mainGlobals "Room"=some (some (.ref C))) (pg:PySem.W.plainGet K C Str.empty=true) (hd:PySem.W.hasDictIn K C=true) (po:PySem.W.plainOver K C=true) (sa:PySem.W.findIn K (.ref C) "__setattr__"=some (some (.builtin "object.__setattr__"))) (mk:PySem.W.makesIn K C=true) (kc:PySem.W.keepIn K (.ref C)=true)
  (nr:PySem.W.findIn K (.ref C) "row"=some none) (nh:PySem.W.findIn K (.ref C) "hand"=some none) (nm:PySem.W.findIn K (.ref C) "moved"=some none)
  (am___init__:AtM K C "__init__" "Room.__init__" ZL) (am_do:AtM K C "do" "Room.do" GU) (am_swap:AtM K C "swap" "Room.swap" JI) (am_take:AtM K C "take" "Room.take" Z5) (am_move:AtM K C "move" "Room.move" Kb) (am_lay:AtM K C "lay" "Room.lay" Wk) (am_lift:AtM K C "lift" "Room.lift" Jf) (am_row_now:AtM K C "row_now" "Room.row_now" Q9) (am_hand_now:AtM K C "hand_now" "Room.hand_now" Jx) (am_moved_now:AtM K C "moved_now" "Room.moved_now" JF)
 :∃ fd:FuncData,(∀ (s:Shared) (v:Value),BindsTo s fd ⟨[v],[]⟩ [("_law_script",v)])/\∀ base:Heap,K.In base->base.Ns mainGlobals mg->jx l.prog w K mg base CX0 20 fa fd ["_law_script"] (Xn K):=by
 obtain ⟨f,fd,F,m⟩:=id a
 obtain rfl:fa=f:=by rw [hfa] at m;cases m;rfl
 obtain ⟨oc,od,kV,doc,pm,an,cdv,ct,osl,e,lk,hcd⟩:=F.ex
 refine ⟨fd,fun s v=>?_,fun base _ _=>?_⟩
 ·subst e;exact .of_eq rfl
 ·have T:=EV (P:=l.prog) (w:=w) (base:=base) a__law_take B
  have XG_BadDeed:=PySem.W.mg_of X G ag_BadDeed
  have XG_BadPlan:=PySem.W.mg_of X G ag_BadPlan
  have R:RTx K C:=⟨⟨pg,hd,po,sa⟩,nr,nh,nm⟩
  have KP:KD K w pa Dy:=Y3 lP nP
  have MP:=PySem.W.mg_of X G aP
  have MC:=PySem.W.mg_of X G aC
  have XD:XB K cBadDeed:=⟨⟨dbx,dga,dgt,dcl,xgs,xtk,dmo,by rw [dis];rfl⟩,di,dhd,dfw⟩
  obtain ⟨fdB,FB⟩:=xd_BadDeed
  obtain ⟨fdP,FP⟩:=xd_BadPlan
  have MX:MkX l.prog w K mg base cBadDeed 1 1 fnW:=GV FB xq_BadDeed xn_BadDeed xs_BadDeed_word
  have MP1:MkX l.prog w K mg base cBadPlan 1 2 fnP:=HL FP xq_BadPlan xn_BadPlan xs_BadPlan_place xs_BadPlan_word
  have MP2:Z2 l.prog w K mg base cBadPlan 1 2 fnP:=EX FP xq_BadPlan xn_BadPlan xs_BadPlan_place xs_BadPlan_word
  have d1:=YC (P:=l.prog) (w:=w) (base:=base) a_is_deed B Ball (yY a_is_place B) KP MP
  have ml:=W3 am_lift R B MX XG_BadDeed
  have md:=G0 am_do R B (MkX.mono MX (by decide)) XG_BadDeed (d1.mono (by decide)) ((VY am_swap R B MX XG_BadDeed).mono (by decide)) (Yc am_take R B (MkX.mono MX (by decide)) XG_BadDeed ml) (Aa am_move R B (MkX.mono MX (by decide)) XG_BadDeed ml) ((Da am_lay R B MX XG_BadDeed).mono (by decide))
  obtain ⟨fi,fdi,Fi,bi,mi⟩:=(A7 (P:=l.prog) (w:=w) (base:=base) am___init__ R B).mono (show 1<=5 by decide)
  have MR:Mkr l.prog w K mg base "Room" C ["self","n"] 5 (cSp (A9 C)):=⟨fi,fdi,Fi,bi,⟨mk,mi.at_,mi.fn,kc⟩,MC⟩
  have rb:=DM (P:=l.prog) (w:=w) (base:=base) a_room_behind B R.cl XG_BadDeed XG_BadPlan (MkX.mono MP1 (by decide)) (MP2.mono (by decide)) XD MR (md.mono (by decide))
  have wk:=GM (P:=l.prog) (w:=w) (base:=base) a_walked B R.cl rb ((DY a_back_of B).mono (by decide)) ((D9 am_row_now R B).mono (by decide)) ((Eu am_hand_now R B).mono (by decide)) ((B4 am_moved_now R B).mono (by decide))
  have tk:=T.imp' EE
  have dn:=(Et (P:=l.prog) (w:=w) (base:=base) a__law_done B)
  have dd:=(DV (P:=l.prog) (w:=w) (base:=base) a__law_deed B tk)
  have wy:=Eb (P:=l.prog) (w:=w) (base:=base) a__law_why B
  have jd:=Dh (P:=l.prog) (w:=w) (base:=base) a__law_judged B (wy.mono (by decide)) ((QW a__law_counted B).mono (by decide)) (dn.mono (by decide))
  have pl:=DI (P:=l.prog) (w:=w) (base:=base) a__law_plan B dd (dn.mono (by decide))
  have io:=Qa (P:=l.prog) (w:=w) (base:=base) a_is_order B ((yY a_is_place B).mono (by decide))
  have sp:=Hc (P:=l.prog) (w:=w) (base:=base) a_shows_plan B XG_BadPlan wk (io.mono (by decide)) ⟨pe⟩
  have L:=Hg (P:=l.prog) (w:=w) (base:=base) a B (((GR a__law_box B).imp' FX).mono (by decide)) (((Yz a__law_folded B).imp' Yk).mono (by decide)) (((YA a__law_length B T).imp' XX).mono (by decide)) (tk.mono (by decide)) (pl.mono (by decide)) ((Gq a__law_odd B tk).mono (by decide)) ((Y7 a__law_bent B tk).mono (by decide)) (jd.mono (by decide)) ((VJ a__law_orders B tk).mono (by decide)) (sp.mono (by decide))
  exact (L.imp' (sp_law (K:=K))).fn m lk
theorem walk {l:PySem.W.OpenLaw}{q:Program}{loose:List Str}{XP:(Str->Option Value)->Heap->Prop}{YP:World->Heap->Prop}{d:DefRec}{K:Params->PySem.W.Frag}(hn:l.most=some 63)(hdf:d.params.defaults=[])
  (hY:∀ (w:World) (h:Heap),YP w h->(K w.params).In h)
  (F:∀ (w:World) (mg:Str->Option Value) (fa:Addr) (h:Heap),(K w.params).In h->h.Ns mainGlobals mg->mg d.name=some (.ref fa) ->
   ∃ fd:FuncData,(∀ (s:Shared) (u:Value),BindsTo s fd ⟨[u],[]⟩ [("_law_script",u)])/\∀ base:Heap,(K w.params).In base->base.Ns mainGlobals mg->jx l.prog w (K w.params) mg base CX0 20 fa fd ["_law_script"] (Xn (K w.params))) :
  PySem.W.WalkO q loose XP YP l.row.toRowW d [] (fun f vs=>PySem.call f vs):=
 L2.walk_of (n:=63) (k:=20) (x:="_law_script") (CX:=fun _=>CX0) (sp:=fun w=>Xn (K w.params)) hn (by decide) hdf ⟨rfl,rfl,by decide,by decide⟩ hY F (fun _ _ a ns hl _ hS=>⟨a,ns,rfl,hS,hl,fun _=>rfl⟩) fun _ _ _ _ _ z=>z
end Ot
theorem PySem.W.Fast.te14033662352591358487:True:=trivial
theorem PySem.W.Fast.te13259404691175370852:True:=trivial
theorem PySem.W.Fast.te8935746564717684590:True:=trivial
namespace PySem.W.Fast
def tw14478686958707128466:=()
def tw3968460061152652119:=()
def tw16284009343764657656:=()
def tw10091890531382792324:=()
def tw12287064404252149872:=()
def tw17013432783391379888:=()
def tw13665000156250057000:=()
def tw4711221322429446747:=()
def tw3685552973146104697:=()
def tw17440647880874417248:=()
def tw17574172118743967248:=()
def tw3940739218807243401:=()
def tw9437082463822694975:=()
def tw1407567730119172751:=()
def tw10176325264842597560:=()
def tw11232970116833208997:=()
def tw12040907052474348954:=()
def tw2155469688924487639:=()
def tw17325700900511504742:=()
def tw13594114435625430759:=()
def tw16288327751165622806:=()
def tw9574159578957589150:=()
def tw12821423657531107576:=()
def tw12864117854591500016:=()
def tw7831392317519090451:=()
def tw12637346853916676667:=()
def tw11959267970887940862:=()
def tw8973921267590386287:=()
def tw6852892964983652416:=()
def tw10876987905142328899:=()
def tw1548863885202131914:=()
def tw9501412307451270204:=()
def tw17769209980352987761:=()
def tw16155325315471655966:=()
def tw18398672655646052414:=()
def tw12534484142590758506:=()
def tw10919051904923232918:=()
def tw9940849473671053649:=()
def tw16259096806011729192:=()
def tw2545729626195962998:=()
def tw2818216731538528329:=()
def tw553253335701453387:=()
def tw3576989669745522891:=()
def tw11266420339595963221:=()
def tw3983802603514647834:=()
def tw12625182319044517517:=()
def tw11487700590376566311:=()
def tw6479105813954701575:=()
def tw8657778695092145497:=()
def tw13040306069229670059:=()
def tw16277481834126282224:=()
def tw16673068706061144450:=()
def tw8593376493136866624:=()
def tw12792816290359362359:=()
def tw17549606050676589611:=()
def tw4051986651069220957:=()
def tw5014813407546981597:=()
def tw8710291911575115417:=()
def tw15574173079126802343:=()
def tw8489660587214055154:=()
def tw4594032346388379800:=()
def tw9941928954618246164:=()
def tw10440459229852268252:=()
def tw2013760033544162227:=()
def tw8386763803469315135:=()
def tw8343203505126778945:=()
def tw2847469834445425689:=()
def tw1535931420036495251:=()
def tw18366597060069889882:=()
def tw14210847270806969422:=()
def tw6297003905742322680:=()
def tw14159683895888593022:=()
def tw2426716083407365521:=()
def tw7434840189181529243:=()
def tw9662315393704669433:=()
def tw8921313081008213849:=()
def tw9993118258221969346:=()
def tw18224357803130402681:=()
def tw3779080086378149227:=()
def tw14896289691928427953:=()
def tw16156136535588669520:=()
def tw9217098946602635687:=()
def tw17292269881358366497:=()
def tw13257379609362149466:=()
def tw6333175983722006001:=()
def tw10389067078931765314:=()
def tw15014305602975241561:=()
def tw10144267219721358202:=()
def tw5413642551396049171:=()
def tw1059885490666481082:=()
def tw14228322068266434516:=()
def tw12111434398475676076:=()
def tw16489758940747237822:=()
def tw5202828397287946408:=()
def tw17340023970871693836:=()
def tw18022826002072660224:=()
def tw2644933167412036995:=()
def tw2963978554631847521:=()
def tw11165970965229245010:=()
def tw15047061359273628711:=()
def tw7857827560057851355:=()
def tw9233855414081930451:=()
def tw11229915952399351777:=()
def tw17760510951080947783:=()
def tw14526304741568766688:=()
def tw9305226246937012448:=()
def tw14923657256068402104:=()
def tw11500160005778333390:=()
def tw9933495294186882228:=()
def tw9927623151121818999:=()
def tw17384154096091516735:=()
def tw6919474219396791500:=()
def tw16786782548422525007:=()
def tw2109171104577789602:=()
def tw15787715170368493400:=()
def tw7598267910022108310:=()
def tw656417560501682744:=()
def tw8474268220460787131:=()
def tw16965552442347876543:=()
def tw3864786840922134529:=()
def tw11779918814267069282:=()
def tw11370264702234661754:=()
def tw15189798924782155130:=()
def tw2976921594969025072:=()
def tw10767130401041661700:=()
def tw17684791258376570864:=()
def tw5492083968592292863:=()
def tw5074374646489881733:=()
def tw9733068080741298094:=()
def tw7931689004767051103:=()
def tw8042919512148548027:=()
def tw6027350651912463626:=()
def tw1089650547037249067:=()
def tw18049950808250379069:=()
def tw14110113674125169502:=()
def tw309056175022552536:=()
def tw5585476474801329225:=()
def tw4671907676201154201:=()
def tw6752120382203876144:=()
def tw9497657601275858696:=()
def tw15264915120922073480:=()
def tw10166705678247503613:=()
def tw7057321869203850092:=()
def tw2812153148801753659:=()
def tw16589811200022999800:=()
def tw8115803341849052915:=()
def tw6263097642860466815:=()
def tw5010697357955166633:=()
def tw5113889105980309349:=()
def tw6179163434627007795:=()
def tw8763210228824024900:=()
def tw12518245389922085209:=()
def tw5453070409375047882:=()
def tw18388275500629541486:=()
def tw9755885946453011580:=()
def tw16818953521658878982:=()
def tw14779714453203763297:=()
def tw14970936131031005410:=()
def tw4407565923911896881:=()
def tw11374729826438969360:=()
def tw12073314396919487023:=()
def tw13726640058193179866:=()
def tw10644899945250803505:=()
def tw9404010494501895994:=()
def tw17614965192020538760:=()
def tw18137587738382719344:=()
def tw4032410437374940383:=()
def tw17350044494966891845:=()
def tw6849260018891986886:=()
def tw5852974216116575152:=()
def tw4936257069704969983:=()
def tw3328017221687034643:=()
def tw882369890257729416:=()
def tw3592026003672811368:=()
def tw7217291276582678843:=()
def tw10732570378948049337:=()
def tw7248912558467971788:=()
def tw7945969579830751566:=()
def tw9012367805398617400:=()
def tw8576920602139129251:=()
def tw5575587974035235060:=()
def tw7681380563546036685:=()
def tw5516009156633238521:=()
def tw17871304967212080520:=()
def tw12493521929581081408:=()
def tw14936862433488072780:=()
def tw1491043107769252709:=()
def tw4291040848525221093:=()
def tw16592664214082517726:=()
def tw3745245715745537636:=()
def tw5941904429137789390:=()
def tw7390541609318274015:=()
def tw16162571647535763123:=()
def tw12510548929867169496:=()
def tw486408975494626945:=()
def tw3088880871701140396:=()
def tw8020470963872678052:=()
def tw11944532758566896070:=()
def tw10960237772593823624:=()
def tw451640252472574485:=()
def tw3132595316338698150:=()
def tw15181929232511175594:=()
def tw5797386467707094662:=()
def tw2113798730449740453:=()
def tw11206453790151316771:=()
def tw10088289621822620761:=()
def tw8238862132362790670:=()
def tw10234638111304039414:=()
def tw3483804609725705862:=()
def tw6970272757840807796:=()
def tw10037665009602123562:=()
def tw16618152018006263714:=()
def tw15160066209130470178:=()
def tw17687199060557906671:=()
def tw15030403930733166056:=()
def tw1606734163978959256:=()
def tw16638190280136723958:=()
def tw12385946675864160684:=()
def tw13688032734477027717:=()
def tw2735836908861716386:=()
def tw3026833072040106745:=()
def tw904892069973768729:=()
def tw6771986637241802111:=()
def tw12420170025284995227:=()
def tw8512686192496931554:=()
def tw1280891311042366277:=()
def tw4461539427573566692:=()
def tw2660018815101934325:=()
def tw11926714884806825927:=()
def tw17486205297017022608:=()
def tw17359493879907721745:=()
def tw1224860972455741525:=()
def tw14871719209910845819:=()
def tw7102662344644296789:=()
def tw16760151522652706493:=()
def tw2336339002899405766:=()
def tw7620397792181134391:=()
def tw14522826313818028068:=()
def tw17397294499303610755:=()
def tw6836580978530439688:=()
def tw11733588702324584407:=()
def tw13830292760672580765:=()
def tw5259380805931036641:=()
def tw1496828542285932340:=()
def tw2468556550834625851:=()
def tw10647926865380890193:=()
def tw12607600465877946108:=()
def tw9789685921834851734:=()
def tw463259993750743356:=()
def tw17426460544678064297:=()
def tw109698361493260064:=()
def tw4207950560499645181:=()
def tw265898750687557487:=()
def tw18191304821764784480:=()
def tw6195301674055692415:=()
def tw18178601710769940018:=()
def tw5938481091796273509:=()
def tw3485975906174467275:=()
def tw3206392242713104868:=()
def tw10000173901313308162:=()
def tw12230503549258738569:=()
def tw18026211457405596493:=()
def tw13288072100305408004:=()
def tw11486676449383541548:=()
def tw10575495409189191359:=()
def tw12584430202522167525:=()
def tw9863239630420282164:=()
def tw17065549030422454731:=()
def tw4229609244600899732:=()
def tw15219081033190395:=()
def tw9802770300197761530:=()
def tw6229607566793197476:=()
def tw2955495291256303799:=()
def tw9290964274095937785:=()
def tw1350046275491560660:=()
def tw1242067452636136340:=()
def tw5289675364782786448:=()
end PySem.W.Fast
open PySem PySem.W PyProof.Rows
set_option maxRecDepth 100000 in
set_option maxHeartbeats 0 in
theorem PySem.Challenge.cw_ownturn_k12_plans_shown_holds : PySem.Challenge.rw_ownturn_k12_plans_shown.Holds := by
 w_on; o_law; k_head; (case hw => w_witness2)
 k_fill
 refine Ot.walk (l := PySem.Challenge.rw_ownturn_k12_plans_shown) rfl rfl (fun w h Y => PySem.W.kIn_of Y) ?F
 case F =>
  intro w mg fa h KX G hmg
  refine' Ot.all_mk KX G hmg (L2.at_mk KX G ?a0 ?l0 ?c0 ?k0) (L2.blt_mk KX G ?z1 ?z2 ?z3 ?z4 ?z5 ?z6 ?z7 ?z8 ?z9 ?z10 ?z11 ?z12 ?z13 ?z14 ?z15 ?z16) (PySem.W.mg_none_of KX G ?zall) (L2.at_mk KX G ?a1 ?l1 ?c1 ?k1) (L2.at_mk KX G ?a2 ?l2 ?c2 ?k2) (L2.at_mk KX G ?a3 ?l3 ?c3 ?k3) (L2.at_mk KX G ?a4 ?l4 ?c4 ?k4) (L2.at_mk KX G ?a5 ?l5 ?c5 ?k5) (L2.at_mk KX G ?a6 ?l6 ?c6 ?k6) (L2.at_mk KX G ?a7 ?l7 ?c7 ?k7) (L2.at_mk KX G ?a8 ?l8 ?c8 ?k8) (L2.at_mk KX G ?a9 ?l9 ?c9 ?k9) (L2.at_mk KX G ?a10 ?l10 ?c10 ?k10) (L2.at_mk KX G ?a11 ?l11 ?c11 ?k11) (L2.at_mk KX G ?a12 ?l12 ?c12 ?k12) (L2.at_mk KX G ?a13 ?l13 ?c13 ?k13) (L2.at_mk KX G ?a14 ?l14 ?c14 ?k14) (L2.at_mk KX G ?a15 ?l15 ?c15 ?k15) (L2.at_mk KX G ?a16 ?l16 ?c16 ?k16) (L2.at_mk KX G ?a17 ?l17 ?c17 ?k17) (L2.at_mk KX G ?a18 ?l18 ?c18 ?k18) (L2.at_mk KX G ?a19 ?l19 ?c19 ?k19) (L2.at_mk KX G ?a20 ?l20 ?c20 ?k20) ?xgBadDeed ?xgBadPlan ?xfxgs ?xfxtk ?xfdbx ?xfdga ?xfdgt ?xfdcl ?xfdmo ?xfdis ?xfdhd ?xfdfw ?xfpbx ?xfpga ?xfpgt ?xfpcl ?xfpmo ?xfpis ?xfphd ?xfpfw ?xfdi ?xfpe ?xfpfp ?xaBadDeed ⟨_, L2.fun_mk ?xlBadDeed ?xcBadDeed ?xkBadDeed⟩ ?xnBadDeed ?xqBadDeed ⟨?xsBadDeedword, ?xtBadDeedword, ?xhBadDeedword, ?xmBadDeedword, ?xvBadDeedword⟩ ?xaBadPlan ⟨_, L2.fun_mk ?xlBadPlan ?xcBadPlan ?xkBadPlan⟩ ?xnBadPlan ?xqBadPlan ⟨?xsBadPlanplace, ?xtBadPlanplace, ?xhBadPlanplace, ?xmBadPlanplace, ?xvBadPlanplace⟩ ⟨?xsBadPlanword, ?xtBadPlanword, ?xhBadPlanword, ?xmBadPlanword, ?xvBadPlanword⟩ ?aP ?lP ?nP ?aC ?pg ?hd ?po ?sa ?mk ?kc ?nr ?nh ?nm (L2.atm_mk ?ma0 ?mi0 ?ml0 ?mc0 ?mk0) (L2.atm_mk ?ma1 ?mi1 ?ml1 ?mc1 ?mk1) (L2.atm_mk ?ma2 ?mi2 ?ml2 ?mc2 ?mk2) (L2.atm_mk ?ma3 ?mi3 ?ml3 ?mc3 ?mk3) (L2.atm_mk ?ma4 ?mi4 ?ml4 ?mc4 ?mk4) (L2.atm_mk ?ma5 ?mi5 ?ml5 ?mc5 ?mk5) (L2.atm_mk ?ma6 ?mi6 ?ml6 ?mc6 ?mk6) (L2.atm_mk ?ma7 ?mi7 ?ml7 ?mc7 ?mk7) (L2.atm_mk ?ma8 ?mi8 ?ml8 ?mc8 ?mk8) (L2.atm_mk ?ma9 ?mi9 ?ml9 ?mc9 ?mk9)
  (case xgBadDeed => k_is)
  (case xgBadPlan => k_is)
  (case xfxgs => first | k_is | kit_is | kts_exm)
  (case xfxtk => first | k_is | kit_is | kts_exm)
  (case xfdbx => first | k_is | kit_is | kts_exm)
  (case xfdga => first | k_is | kit_is | kts_exm)
  (case xfdgt => first | k_is | kit_is | kts_exm)
  (case xfdcl => first | k_is | kit_is | kts_exm)
  (case xfdmo => first | k_is | kit_is | kts_exm)
  (case xfdis => first | k_is | kit_is | kts_exm)
  (case xfdhd => first | k_is | kit_is | kts_exm)
  (case xfdfw => first | k_is | kit_is | kts_exm)
  (case xfpbx => first | k_is | kit_is | kts_exm)
  (case xfpga => first | k_is | kit_is | kts_exm)
  (case xfpgt => first | k_is | kit_is | kts_exm)
  (case xfpcl => first | k_is | kit_is | kts_exm)
  (case xfpmo => first | k_is | kit_is | kts_exm)
  (case xfpis => first | k_is | kit_is | kts_exm)
  (case xfphd => first | k_is | kit_is | kts_exm)
  (case xfpfw => first | k_is | kit_is | kts_exm)
  (case xfdi => first | k_is | kit_is | kts_exm)
  (case xfpe => first | k_is | kit_is | kts_exm)
  (case xfpfp => first | k_is | kit_is | kts_exm)
  (case xaBadDeed => k_is); (case xlBadDeed => k_is); (case xcBadDeed => k_is); (case xkBadDeed => k_is); (case xnBadDeed => k_is)
  (case xqBadDeed => first | rfl | with_unfolding_all rfl | exact Eq.refl true)
  (case xsBadDeedword => k_is); (case xtBadDeedword => k_is); (case xhBadDeedword => k_is); (case xmBadDeedword => k_is); (case xvBadDeedword => first | rfl | with_unfolding_all rfl | exact Eq.refl true)
  (case xaBadPlan => k_is); (case xlBadPlan => k_is); (case xcBadPlan => k_is); (case xkBadPlan => k_is); (case xnBadPlan => k_is)
  (case xqBadPlan => first | rfl | with_unfolding_all rfl | exact Eq.refl true)
  (case xsBadPlanplace => k_is); (case xtBadPlanplace => k_is); (case xhBadPlanplace => k_is); (case xmBadPlanplace => k_is); (case xvBadPlanplace => first | rfl | with_unfolding_all rfl | exact Eq.refl true)
  (case xsBadPlanword => k_is); (case xtBadPlanword => k_is); (case xhBadPlanword => k_is); (case xmBadPlanword => k_is); (case xvBadPlanword => first | rfl | with_unfolding_all rfl | exact Eq.refl true)
  (case aP => k_is); (case lP => k_is); (case nP => first | rfl | decide | k_is); (case aC => k_is)
  (case a0 => k_is); (case l0 => k_is); (case c0 => k_is); (case k0 => k_is)
  (case a1 => k_is); (case l1 => k_is); (case c1 => k_is); (case k1 => k_is)
  (case a2 => k_is); (case l2 => k_is); (case c2 => k_is); (case k2 => k_is)
  (case a3 => k_is); (case l3 => k_is); (case c3 => k_is); (case k3 => k_is)
  (case a4 => k_is); (case l4 => k_is); (case c4 => k_is); (case k4 => k_is)
  (case a5 => k_is); (case l5 => k_is); (case c5 => k_is); (case k5 => k_is)
  (case a6 => k_is); (case l6 => k_is); (case c6 => k_is); (case k6 => k_is)
  (case a7 => k_is); (case l7 => k_is); (case c7 => k_is); (case k7 => k_is)
  (case a8 => k_is); (case l8 => k_is); (case c8 => k_is); (case k8 => k_is)
  (case a9 => k_is); (case l9 => k_is); (case c9 => k_is); (case k9 => k_is)
  (case a10 => k_is); (case l10 => k_is); (case c10 => k_is); (case k10 => k_is)
  (case a11 => k_is); (case l11 => k_is); (case c11 => k_is); (case k11 => k_is)
  (case a12 => k_is); (case l12 => k_is); (case c12 => k_is); (case k12 => k_is)
  (case a13 => k_is); (case l13 => k_is); (case c13 => k_is); (case k13 => k_is)
  (case a14 => k_is); (case l14 => k_is); (case c14 => k_is); (case k14 => k_is)
  (case a15 => k_is); (case l15 => k_is); (case c15 => k_is); (case k15 => k_is)
  (case a16 => k_is); (case l16 => k_is); (case c16 => k_is); (case k16 => k_is)
  (case a17 => k_is); (case l17 => k_is); (case c17 => k_is); (case k17 => k_is)
  (case a18 => k_is); (case l18 => k_is); (case c18 => k_is); (case k18 => k_is)
  (case a19 => k_is); (case l19 => k_is); (case c19 => k_is); (case k19 => k_is)
  (case a20 => k_is); (case l20 => k_is); (case c20 => k_is); (case k20 => k_is)
  (case zall => k_is)
  (case z1 => k_is)
  (case z2 => k_is)
  (case z3 => k_is)
  (case z4 => k_is)
  (case z5 => k_is)
  (case z6 => k_is)
  (case z7 => k_is)
  (case z8 => k_is)
  (case z9 => k_is)
  (case z10 => k_is)
  (case z11 => k_is)
  (case z12 => k_is)
  (case z13 => k_is)
  (case z14 => k_is)
  (case z15 => k_is)
  (case z16 => k_is)
  (case pg => k_is); (case hd => k_is); (case po => k_is); (case sa => k_is); (case mk => k_is); (case kc => k_is); (case nr => k_is); (case nh => k_is); (case nm => k_is)
  (case ma0 => k_is); (case mi0 => k_is); (case ml0 => k_is); (case mc0 => k_is); (case mk0 => k_is)
  (case ma1 => k_is); (case mi1 => k_is); (case ml1 => k_is); (case mc1 => k_is); (case mk1 => k_is)
  (case ma2 => k_is); (case mi2 => k_is); (case ml2 => k_is); (case mc2 => k_is); (case mk2 => k_is)
  (case ma3 => k_is); (case mi3 => k_is); (case ml3 => k_is); (case mc3 => k_is); (case mk3 => k_is)
  (case ma4 => k_is); (case mi4 => k_is); (case ml4 => k_is); (case mc4 => k_is); (case mk4 => k_is)
  (case ma5 => k_is); (case mi5 => k_is); (case ml5 => k_is); (case mc5 => k_is); (case mk5 => k_is)
  (case ma6 => k_is); (case mi6 => k_is); (case ml6 => k_is); (case mc6 => k_is); (case mk6 => k_is)
  (case ma7 => k_is); (case mi7 => k_is); (case ml7 => k_is); (case mc7 => k_is); (case mk7 => k_is)
  (case ma8 => k_is); (case mi8 => k_is); (case ml8 => k_is); (case mc8 => k_is); (case mk8 => k_is)
  (case ma9 => k_is); (case mi9 => k_is); (case ml9 => k_is); (case mc9 => k_is); (case mk9 => k_is)
