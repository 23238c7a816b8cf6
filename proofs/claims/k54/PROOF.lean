import PyProof.Rows.All
import Wide.All
import OpenK.AllK
import Wide.FinOn
import Lean
import PyProof.EqAt
import PyProof.EqKinds
import PyProof.TupleCall
import Lean
import PyProof.ExcInit
import PyProof.ExcClass3
import PyProof.InstStoreFacts
import KE.KIsAll
import KE.KTryMore
import PyProof.ExcBaseAll.ValueError
import PyProof.ExcArgsOwn
import KE.RegKIsAll
import KE.RegKTryMore
import PyProof.RulesAs
import PyProof.WalksMore
import PySem.Challenge.RW_ownturn_k54_plans_tidied
set_option compiler.extract_closed false
set_option Elab.async false
set_option linter.all false
set_option maxRecDepth 100000
namespace L2
open PySem PySem.Spec PyProof.Rows
noncomputable abbrev Key:=Sum Int Str
noncomputable def yS:Key->Value->Bool
 | .inl k,v=>Value.isInt k v
 | .inr x,v=>Value.isStrOf x v
noncomputable def D7 (w:World):Key->Int
 | .inl k=>hashInt k
 | .inr x=>hashStr w x
theorem zZ:∀ {k:Key} {v:Value},yS k v=true->(∃ i t,k=Sum.inl i/\v=Value.int i t) \/ (∃ x t,k=Sum.inr x/\v=Value.str x t)
 | .inl i,v,h=>by
  obtain ⟨t,e⟩:=Value.isInt_shape (k:=i) (v:=v) h
  exact .inl ⟨i,t,rfl,e⟩
 | .inr x,v,h=>by
  obtain ⟨t,e⟩:=Value.isStrOf_shape (x:=x) (v:=v) h
  exact .inr ⟨x,t,rfl,e⟩
theorem JI (i:Int)(t:Tok):yS (.inl i) (.int i t)=true:=by simp [yS,Value.isInt]
theorem JU (x:Str)(t:Tok):yS (.inr x) (.str x t)=true:=by simp [yS,Value.isStrOf]
theorem W9 (a b:Int):decide ((Sum.inl a:Key)=Sum.inl b)=(a == b):=by
 by_cases e:a=b
 ·subst e;simp
 ·have h:¬ (Sum.inl a:Key)=Sum.inl b:=fun q=>e (Sum.inl.inj q)
  rw [decide_eq_false h]
  exact (beq_eq_false_iff_ne.mpr e).symm
theorem Aa (a b:Str):decide ((Sum.inr a:Key)=Sum.inr b)=decide (a=b):=by
 by_cases e:a=b
 ·subst e;simp
 ·have h:¬ (Sum.inr a:Key)=Sum.inr b:=fun q=>e (Sum.inr.inj q)
  rw [decide_eq_false h,decide_eq_false e]
theorem Bi (a:Int)(b:Str):decide ((Sum.inl a:Key)=Sum.inr b)=false:=decide_eq_false (fun q=>nomatch q)
theorem Ar (a:Str)(b:Int):decide ((Sum.inr a:Key)=Sum.inl b)=false:=decide_eq_false (fun q=>nomatch q)
noncomputable def qa (prog:Program)(w:World):PySem.KeyKind prog w Key where
 is:=yS
 hash:=D7 w
 inj:=fun v a b ha hb=>by
  rcases zZ ha with ⟨i,t,rfl,rfl⟩ | ⟨x,t,rfl,rfl⟩
  ·rcases zZ hb with ⟨j,u,rfl,e⟩ | ⟨y,u,rfl,e⟩
   ·injection e with e1 _;rw [e1]
   ·exact nomatch e
  ·rcases zZ hb with ⟨j,u,rfl,e⟩ | ⟨y,u,rfl,e⟩
   ·exact nomatch e
   ·injection e with e1 _;rw [e1]
 byValue:=fun k v h=>by
  rcases zZ h with ⟨i,t,rfl,rfl⟩ | ⟨x,t,rfl,rfl⟩ <;> rfl
 pyHash:=fun hv h=>by
  rcases zZ hv with ⟨i,t,rfl,rfl⟩ | ⟨x,t,rfl,rfl⟩
  ·exact wpAny_pyHash_int h
  ·exact wpAny_pyHash_str h
 eqBool:=fun hu hv h=>by
  rcases zZ hu with ⟨i,t,rfl,rfl⟩ | ⟨x,t,rfl,rfl⟩
  ·rcases zZ hv with ⟨j,u,rfl,rfl⟩ | ⟨y,u,rfl,rfl⟩
   ·rw [W9] at h;exact wpAny_eqBool_int h
   ·rw [Bi] at h;exact SeqAt.EqAt.int_str i t y u _ _ _ _ h
  ·rcases zZ hv with ⟨j,u,rfl,rfl⟩ | ⟨y,u,rfl,rfl⟩
   ·rw [Ar] at h;exact SeqAt.EqAt.str_int x t j u _ _ _ _ h
   ·rw [Aa] at h;exact wpAny_eqBool_str h
 «strs»:=fun k x t v h=>by
  rcases zZ h with ⟨i,u,rfl,e⟩ | ⟨y,u,rfl,e⟩
  ·exact nomatch e
  ·injection e with e1 _
   subst e1
   cases v <;> rfl
theorem wb (prog:Program)(w:World)(i:Int)(t:Tok):(qa prog w).is (.inl i) (.int i t)=true:=JI i t
theorem Zg (prog:Program)(w:World)(x:Str)(t:Tok):(qa prog w).is (.inr x) (.str x t)=true:=JU x t
inductive V where
 | non | bl (b:Bool) | int (i:Int) | str (x:Str) | byt (b:Array UInt8) | flt (b:UInt64) | ref (a:Addr) | ty (n:String)
 deriving DecidableEq
noncomputable def zx:V->Value->Prop
 | .non,u=>u=Value.none
 | .bl b,u=>u=Value.bool b
 | .int i,u=>∃ t,u=Value.int i t
 | .str x,u=>∃ t,u=Value.str x t
 | .byt b,u=>∃ t,u=Value.bytes b t
 | .flt b,u=>∃ t,u=Value.float b t
 | .ref a,u=>u=Value.ref a
 | .ty n,u=>u=Value.type n
noncomputable abbrev zw:List V->List Value->Prop:=Paired zx
theorem zw.length {xs:List V}{us:List Value}(r:zw xs us):xs.length=us.length:=Paired.length r
theorem zw.get:∀ {xs:List V} {us:List Value} {i:Nat} {x:V},zw xs us->xs[i]?=some x->∃ u,us[i]?=some u/\zx x u
 | _,_,_,_,.nil,e=>by simp at e
 | _,_,0,_,.cons r _,e=>by simp at e;subst e;exact ⟨_,rfl,r⟩
 | _,_,i+1,x,.cons _ t,e=>by
  obtain ⟨u,h1,h2⟩:=zw.get (i:=i) (x:=x) t (by simpa using e)
  exact ⟨u,by simpa using h1,h2⟩
theorem zw.set {x:V}{u:Value}(r:zx x u):∀ {xs:List V} {us:List Value} (i:Nat),zw xs us->zw (xs.set i x) (us.set i u)
 | _,_,_,.nil=>.nil
 | _,_,0,.cons _ t=>.cons r t
 | _,_,i+1,.cons q t=>.cons q (zw.set r i t)
theorem zw.append:∀ {xs ys:List V} {us ws:List Value},zw xs us->zw ys ws->zw (xs ++ ys) (us ++ ws)
 | _,_,_,_,.nil,s=>s
 | _,_,_,_,.cons r t,s=>.cons r (zw.append t s)
theorem zw.take:∀ {xs:List V} {us:List Value} (n:Nat),zw xs us->zw (xs.take n) (us.take n)
 | _,_,0,_=>.nil
 | _,_,_+1,.nil=>.nil
 | _,_,n+1,.cons r t=>.cons r (zw.take n t)
theorem zw.drop:∀ {xs:List V} {us:List Value} (n:Nat),zw xs us->zw (xs.drop n) (us.drop n)
 | _,_,0,r=>r
 | _,_,_+1,.nil=>.nil
 | _,_,n+1,.cons _ t=>zw.drop n t
noncomputable def xU:Option V->Option Value->Prop
 | some v,some u=>zx v u
 | none,none=>True
 | _,_=>False
noncomputable def KV {κ:Type}:List (κ × V)->List (κ × Value)->Prop:=Paired fun (p:κ × V) (q:κ × Value)=>p.1=q.1/\zx p.2 q.2
noncomputable def kV:Key->V
 | .inl i=>.int i
 | .inr x=>.str x
inductive HO where
  | lst (xs:List V)
  | tup (xs:List V)
  | dK (kvs:List (Key × V)) | dT (kvs:List (List Key × V))
  | set (S:Int->Bool) (n:Nat)
  | ins (C dx:Addr) (fs:List (Str × V))
  | own (x:Addr)
  | xd (fs:List (Str × V))
  | met (f x:Addr)
  | rng (lo hi:Int)
  | frz (o:Obj) (u:HO)
  | tbl (ps:Array Value)
  | ext (φ:Heap->Prop)
noncomputable abbrev Hp:=Addr->Option HO
noncomputable def upd (H:Hp)(a:Addr)(o:HO):Hp:=fun b=>if b=a then some o else H b
theorem zp {H:Hp}{a:Addr}{o:HO}:upd H a o a=some o:=by unfold upd;rw [if_pos rfl]
theorem zi {H:Hp}{a b:Addr}{o:HO}(h:b ≠ a):upd H a o b=H b:=by unfold upd;rw [if_neg h]
theorem yU {H:Hp}{a b:Addr}{o u:HO}(h:H a=some o)(h':H b=some u)(d:o ≠ u):a ≠ b:=by
 intro e;subst e;rw [h] at h';exact d (Option.some.inj h')
theorem zk {H:Hp}{a b:Addr}{o:HO}(h:H a=some o)(h':H b=none):a ≠ b:=by
 intro e;subst e;rw [h] at h';cases h'
noncomputable def xT (h:Heap)(a:Addr)(items:Array Value):Prop:=∃ o,h.get? a=some o/\o.cls=.type "tuple"/\(∃ n,o.data=.seq items n)/\o.dict=none
theorem xT.is {h:Heap}{a:Addr}{items:Array Value}(x:xT h a items):IsTup h a items:=let ⟨o,e,c,n,_⟩:=x;⟨o,e,c,n⟩
theorem xT.lt {h:Heap}{a:Addr}{items:Array Value}(x:xT h a items):a<h.objs.size:=x.is.lt
theorem xT.new (h:Heap)(items:Array Value):xT (h.push { cls:=.type "tuple",data:=.seq items }) h.objs.size items:=⟨_,Heap.get?_push_size _ rfl,rfl,⟨_,rfl⟩,rfl⟩
section
variable (P:Program)(w:World)
noncomputable def zL (H:Hp)(h:Heap)(a:Addr):HO->Prop
  | .lst xs=>xs.length<=sizeLine/\∃ (its:List Value) (n:Nat),zw xs its/\h.get? a=some { cls:=.type "list",data:=.seq its.toArray n }
  | .tup xs=>xs.length<=sizeLine/\∃ its:List Value,zw xs its/\xT h a its.toArray
  | .dK kvs=>kvs.length<=sizeLine/\(a == sysModules)=false/\∃ vs,KV kvs vs/\h.DictOf (qa P w) a vs
  | .dT kvs => kvs.length <= sizeLine /\ (a == sysModules) = false /\ ∃ xs : List (List Key × Addr × Value),
      Paired (fun (p:List Key × V) (q:List Key × Addr × Value)=>p.1=q.1/\H q.2.1=some (.tup (p.1.map kV))/\zx p.2 q.2.2) kvs xs /\
      ∃ o es ep,h.get? a=some o/\o.ExactDict/\o.data=.dict es ep/\es.toList=xs.map (entryOfKey (tupleKind (qa P w)))/\(xs.map (·.1)).Nodup
  | .set S n=>h.SetOf (intKind P w) a S n
  | .ins C dx fs => H dx = some (.own a) /\ fs.length <= 1000 /\ dx ≠ a /\ h.get? a = some (PySem.W.instObj C dx) /\
      ∃ mA,h.Ns1 dx mA/\(∀ f,xU (fs.lookup f) (mA f))/\PySem.Within mA (fs.map (·.1))
  | .own _=>∃ o,h.get? a=some o
  | .xd fs=>∃ mA,h.Ns1 a mA/\∀ f,xU (fs.lookup f) (mA f)
  | .rng lo hi=>∃ t u v,h.get? a=some { cls:=.type "range",data:=.fields #[.int lo t,.int hi u,.int 1 v] }
  | .frz o u=>h.get? a=some o/\zL H h a u
  | .tbl ps=>h.get? a=some { cls:=.none,data:=.fields ps }
  | .met f x=>h.get? a=some (PySem.W.methodObj (.ref f) (.ref x))
  | .ext φ=>φ h/\(∃ o,h.get? a=some o)/\∀ h1 h2:Heap,φ h1->(∀ o,h1.get? a=some o->h2.get? a=some o)->φ h2
noncomputable def HOk (H:Hp)(h:Heap):Prop:=∀ a o,H a=some o->zL P w H h a o
end
section
variable {P:Program}{w:World}{H H':Hp}{h h':Heap}{a:Addr}{o:HO}
theorem zL.lt (x:zL P w H h a o):a<h.objs.size:=by
 cases o with
 | lst xs=>obtain ⟨_,_,_,_,e⟩:=x;exact Heap.lt_size e
 | tup xs=>obtain ⟨_,_,_,p⟩:=x;exact p.lt
 | dK kvs=>obtain ⟨_,_,_,_,o,_,_,e,_⟩:=x;exact Heap.lt_size e
 | dT kvs=>obtain ⟨_,_,_,_,o,_,_,e,_⟩:=x;exact Heap.lt_size e
 | set S n=>obtain ⟨o,_,_,_,e,_⟩:=x;exact Heap.lt_size e
 | ins C dx fs=>obtain ⟨_,_,_,e,_⟩:=x;exact Heap.lt_size e
 | own y=>obtain ⟨_,e⟩:=x;exact Heap.lt_size e
 | xd fs=>obtain ⟨_,⟨_,_,_,e,_⟩,_⟩:=x;exact Heap.lt_size e
 | rng lo hi=>obtain ⟨_,_,_,e⟩:=x;exact Heap.lt_size e
 | frz ob u=>obtain ⟨e,_⟩:=x;exact Heap.lt_size e
 | tbl ps=>exact Heap.lt_size (show h.get? a=some _ from x)
 | met f y=>exact Heap.lt_size (show h.get? a=some _ from x)
 | ext φ=>obtain ⟨_,⟨_,e⟩,_⟩:=x;exact Heap.lt_size e
theorem Paired.mapP {α β:Type}{F G:α->β->Prop}:∀ {l₁:List α} {l₂:List β},Paired F l₁ l₂->(∀ a b,F a b->G a b)->Paired G l₁ l₂
 | _,_,.nil,_=>.nil
 | _,_,.cons r t,f=>.cons (f _ _ r) (Paired.mapP t f)
theorem zL.stay (x:zL P w H h a o)(k:∀ b u,(b=a \/ H b=some (.own a))->h.get? b=some u->h'.get? b=some u)
  (ho:∀ b,H b=some (.own a)->H' b=some (.own a)) (ht:∀ b xs,H b=some (.tup xs)->H' b=some (.tup xs)):zL P w H' h' a o:=by
 induction o with
 | lst xs=>obtain ⟨z,its,n,r,e⟩:=x;exact ⟨z,its,n,r,k _ _ (.inl rfl) e⟩
 | tup xs=>obtain ⟨z,its,r,ob,e,c⟩:=x;exact ⟨z,its,r,ob,k _ _ (.inl rfl) e,c⟩
 | dK kvs=>obtain ⟨z,y,vs,r,ob,es,ep,e,c⟩:=x;exact ⟨z,y,vs,r,ob,es,ep,k _ _ (.inl rfl) e,c⟩
 | dT kvs=>
  obtain ⟨z,y,xs,r,ob,es,ep,e,c⟩:=x
  exact ⟨z,y,xs,Paired.mapP r fun p q z=>⟨z.1,ht _ _ z.2.1,z.2.2⟩,ob,es,ep,k _ _ (.inl rfl) e,c⟩
 | set S n=>obtain ⟨ob,es,ep,t,e,c⟩:=x;exact ⟨ob,es,ep,t,k _ _ (.inl rfl) e,c⟩
 | ins C dx fs=>
  obtain ⟨d,z,ne,e,mA,⟨od,es,ep,e2,c⟩,r⟩:=x
  exact ⟨ho _ d,z,ne,k _ _ (.inl rfl) e,mA,⟨od,es,ep,k _ _ (.inr d) e2,c⟩,r⟩
 | own y=>obtain ⟨ob,e⟩:=x;exact ⟨ob,k _ _ (.inl rfl) e⟩
 | xd fs=>obtain ⟨mA,⟨od,es,ep,e,c⟩,r⟩:=x;exact ⟨mA,⟨od,es,ep,k _ _ (.inl rfl) e,c⟩,r⟩
 | rng lo hi=>obtain ⟨t,u,v,e⟩:=x;exact ⟨t,u,v,k _ _ (.inl rfl) e⟩
 | frz ob u ih=>obtain ⟨e,q⟩:=x;exact ⟨k _ _ (.inl rfl) e,ih q⟩
 | tbl ps=>
  have e:h.get? a=some { cls:=.none,data:=.fields ps }:=x
  show h'.get? a=some { cls:=.none,data:=.fields ps }
  exact k a _ (.inl rfl) e
 | met f y=>
  have e:h.get? a=some (PySem.W.methodObj (.ref f) (.ref y)):=x
  show h'.get? a=some (PySem.W.methodObj (.ref f) (.ref y))
  exact k a _ (.inl rfl) e
 | ext φ=>obtain ⟨p,⟨o,e⟩,st⟩:=x;exact ⟨st _ _ p fun o q=>k _ _ (.inl rfl) q,⟨o,k _ _ (.inl rfl) e⟩,st⟩
theorem HOk.lt (x:HOk P w H h)(e:H a=some o):a<h.objs.size:=(x a o e).lt
theorem HOk.fresh (x:HOk P w H h)(e:h.objs.size<=a):H a=none:=by
 cases q:H a with
 | none=>rfl
 | some u=>exact absurd (Nat.lt_of_lt_of_le (x.lt q) e) (Nat.lt_irrefl _)
theorem HOk.kept (x:HOk P w H h)(k:∀ b u,h.get? b=some u->h'.get? b=some u):HOk P w H h':=fun a o e=>
 (x a o e).stay (fun b u _ q=>k b u q) (fun _ q=>q) fun _ _ q=>q
theorem HOk.laid (x:HOk P w H h)(k:∀ b u,h.get? b=some u->h'.get? b=some u)(hp:h.objs.size<=a)(new:zL P w (upd H a o) h' a o):HOk P w (upd H a o) h':=fun b u e=>by
 have hn:=x.fresh hp
 by_cases hb:b=a
 ·subst hb;rw [zp] at e;cases e;exact new
 ·rw [zi hb] at e
  exact (x b u e).stay (fun c v _ q=>k c v q) (fun c q=>by rw [zi (zk q hn)];exact q) fun c xs q=>by rw [zi (zk q hn)];exact q
end
noncomputable def Rd (H:Hp)(a:Addr)(u:HO):Prop:=H a=some u \/ ∃ o,H a=some (.frz o u)
theorem Rd.ok {P:Program}{w:World}{H:Hp}{h:Heap}{a:Addr}{u:HO}(r:Rd H a u)(x:HOk P w H h):zL P w H h a u:=by
 rcases r with r | ⟨o,r⟩
 ·exact x a u r
 ·obtain ⟨_,q⟩:=x a _ r
  exact q
noncomputable def Mut:Option HO->Prop
 | some (.lst _)=>True
 | some (.dK _)=>True
 | some (.dT _)=>True
 | some (.set _ _)=>True
 | some (.ins _ _ _)=>True
 | some (.ext _)=>True
 | _=>False
section
variable {P:Program}{w:World}{H:Hp}{h h':Heap}{x e:Addr}{o':HO}
theorem HOk.write (ok : HOk P w H h)(mu : Mut (H x))(he : e = x \/ H e = some (.own x))(k : ∀ b u, b ≠ e -> h.get? b = some u -> h'.get? b = some u)(heo : ∃ u, h'.get? e = some u)
    (new:zL P w (upd H x o') h' x o'):HOk P w (upd H x o') h':=fun b u q=>by
  have nown:∀ c y,H c=some (.own y)->c ≠ x:=fun c y r z=>by subst z;rw [r] at mu;exact mu
  have ntup:∀ c xs,H c=some (.tup xs)->c ≠ x:=fun c xs r z=>by subst z;rw [r] at mu;exact mu
  by_cases hb:b=x
  · subst hb;rw [zp] at q;cases q;exact new
  · rw [zi hb] at q
    by_cases hbe:b=e
    · have q' : H b = some (.own x) := by
        rcases he with z | z
        · exact absurd (hbe.trans z) hb
        · rw [hbe];exact z
      rw [q] at q';cases q'
      obtain ⟨v,hv⟩:=heo
      exact ⟨v,by rw [hbe];exact hv⟩
    · refine (ok b u q).stay (fun c v hc r=>k c v ?_ r) (fun c r=>by rw [zi (nown c b r)];exact r) fun c xs r=>by rw [zi (ntup c xs r)];exact r
      rcases hc with rfl | hc
      · exact hbe
      · rintro rfl
        rcases he with z | z
        · exact nown c b hc z
        · rw [hc] at z;cases z;exact hb rfl
end
structure Un (fs ex:List Addr)(H H':Hp)(h h':Heap):Prop where
 keep:∀ b o,h.get? b=some o->H b=none->b ∉ fs->b ∉ ex->h'.get? b=some o
 slot:∀ b o,h.get? b=some o->H b=none->b ∈ fs->b ∉ ex->∃ sl,h'.get? b=some { o with slots:=sl }
 free:∀ b o,h.get? b=some o->H b=none->b ∉ ex->H' b=none
 there:∀ b o,h.get? b=some o->b ∉ ex->∃ o',h'.get? b=some o'
 tups:∀ b xs,H b=some (.tup xs)->H' b=some (.tup xs)
 frzs:∀ b o u,H b=some (.frz o u)->H' b=some (.frz o u)
 tbls:∀ b ps,H b=some (.tbl ps)->∃ more,H' b=some (.tbl (ps ++ more))
section
variable {fs fs' ex ex':List Addr}{H H1 H2:Hp}{h h1 h2 h':Heap}{a x e:Addr}{o:HO}
theorem Un.any (u:Un fs ex H H1 h h1){b:Addr}{ob:Obj}(q:h.get? b=some ob)(n:H b=none)(hx:b ∉ ex):∃ sl,h1.get? b=some { ob with slots:=sl }:=by
 by_cases hb:b ∈ fs
 ·exact u.slot b ob q n hb hx
 ·exact ⟨ob.slots,u.keep b ob q n hb hx⟩
theorem Un.kept (k:∀ b u,h.get? b=some u->h'.get? b=some u):Un fs ex H H h h':=
 ⟨fun b ob q _ _ _=>k b ob q,fun b ob q _ _ _=>⟨ob.slots,k b ob q⟩,fun _ _ _ n _=>n,fun b ob q _=>⟨ob,k b ob q⟩,fun _ _ q=>q,fun _ _ _ q=>q,fun _ ps q=>⟨#[],by rw [q];simp⟩⟩
theorem Un.refl:Un fs ex H H h h:=Un.kept fun _ _ q=>q
theorem Un.laid (k:∀ b u,h.get? b=some u->h'.get? b=some u)(hp:h.objs.size<=a)(hn:H a=none):Un fs ex H (upd H a o) h h' where
 keep:=fun b u q _ _ _=>k b u q
 slot:=fun b u q _ _ _=>⟨u.slots,k b u q⟩
 free:=fun b u q n _=>by rw [zi (Nat.ne_of_lt (Nat.lt_of_lt_of_le (Heap.lt_size q) hp))];exact n
 there:=fun b u q _=>⟨u,k b u q⟩
 tups:=fun b xs q=>by rw [zi (zk q hn)];exact q
 frzs:=fun b u xs q=>by rw [zi (zk q hn)];exact q
 tbls:=fun b ps q=>⟨#[],by rw [zi (zk q hn),q];simp⟩
theorem Un.write (mu:Mut (H x))(he:e=x \/ H e=some (.own x))(k:∀ b u,b ≠ e->h.get? b=some u->h'.get? b=some u)(heo:∃ u,h'.get? e=some u):Un fs ex H (upd H x o) h h':=by
 have hx:∀ b,H b=none->b ≠ x:=fun b n z=>by subst z;rw [n] at mu;exact mu
 have hb:∀ b,H b=none->b ≠ e:=fun b n z=>by
  subst z
  rcases he with r | r
  ·exact hx b n r
  ·rw [n] at r;cases r
 have hm:∀ b u,H b=some u->¬ Mut (some u)->b ≠ x:=fun b u q nm z=>by subst z;rw [q] at mu;exact nm mu
 refine ⟨fun b u q n _ _=>k b u (hb b n) q,fun b u q n _ _=>⟨u.slots,k b u (hb b n) q⟩,fun b u q n _=>by rw [zi (hx b n)];exact n,fun b u q _=>?_,
  fun b xs q=>by rw [zi (hm b _ q fun z=>z)];exact q,fun b u xs q=>by rw [zi (hm b _ q fun z=>z)];exact q,fun b ps q=>⟨#[],by rw [zi (hm b _ q fun z=>z),q];simp⟩⟩
 by_cases hbe:b=e
 ·subst hbe;exact heo
 ·exact ⟨u,k b u hbe q⟩
end
noncomputable def trk (h:Heap)(H:Hp):List Addr:=(List.range h.objs.size).filter fun a=>(H a).isSome
noncomputable def vp (h:Heap)(H:Hp):Heap:=PySem.W.hideAll h (trk h H)
theorem Jd (h:Heap)(H:Hp):(vp h H).objs.size=h.objs.size:=PySem.W.hideAll_size _ _
theorem KL {h:Heap}{H:Hp}{b:Addr}{o:Obj}(e:h.get? b=some o)(n:H b=none):(vp h H).get? b=some o:=
 PySem.W.hideAll_get _ e fun hm=>by
  have q:(H b).isSome=true:=(List.mem_filter.mp hm).2
  rw [n] at q;simp at q
theorem Wn {h:Heap}{H:Hp}{b:Addr}{o:Obj}(e:(vp h H).get? b=some o):h.get? b=some o/\H b=none:=by
 have e':h.get? b=some o:=PySem.W.of_hideAll (trk h H) e
 refine ⟨e',?_⟩
 cases q:H b with
 | none=>rfl
 | some x=>
  have hm:b ∈ trk h H:=List.mem_filter.mpr ⟨List.mem_range.mpr (Heap.lt_size e'),by simp [q]⟩
  have z:(vp h H).get? b=none:=PySem.W.hideAll_none (trk h H) hm
  rw [z] at e;cases e
noncomputable def V2 (g h:Heap)(L:Addr):List (Addr × Obj):=(List.range h.objs.size).filterMap fun a=>if a=L \/ (g.get? a).isSome=true then none else (h.get? a).map fun o=>(a,o)
noncomputable def qR (g h:Heap)(L d:Addr):List (Addr × Obj):=(V2 g h L).filter fun p=>decide (p.1 ≠ d)
structure Mod (K:PySem.W.Frag)(mg:Str->Option Value)(base:Heap):Prop where
 kin:K.In base
 glob:base.Ns mainGlobals mg
 blt:∃ mb,base.Ns builtinsNs mb/\∀ x:Str,x ≠ "__name__"->mb x=bootBuiltins x
 nolimit:base.NoLimit
structure Cx where
 prog:Program
 w:World
 K:PySem.W.Frag
 mg:Str->Option Value
 base:Heap
 A:Around
 N:List Str
 s₀:Shared
 H₀:Hp
 env:Env
 outer:List Env
 stack:List Env
 ex:List Addr
 fn:Str->Bool
 calm:Bool
 pn:List (Addr × Obj)
 xe:Value->Shared->Prop
noncomputable def frs (l:List Env):List Addr:=l.filterMap (·.frame)
noncomputable abbrev Cx.fs (X:Cx):List Addr:=frs X.outer
noncomputable def Vis (sc:Scope)(x:Str):Prop:=sc.names.lookup x=some .local \/ sc.names.lookup x=some .cell \/ sc.names.lookup x=some .free
noncomputable def Loc (sc:Scope)(x:Str):Prop:=sc.names.lookup x=some .local \/ sc.names.lookup x=some .cell
noncomputable def DK (env:Env)(h:Heap)(m:Str->Option Value)(x:Str)(u:Value):Prop:=
 (env.kindOf x=some .local/\m x=some u) \/ ((env.kindOf x=some .cell \/ env.kindOf x=some .free)/\∃ c,env.cells.lookup x=some c/\h.IsCell c (some u))
structure Cx.Ok (X:Cx):Prop where
 mod:Mod X.K X.mg X.base
 kind:X.env.scope.kind=.function
 glob:X.env.globals=mainGlobals
 blt:X.env.builtins=builtinsNs
 above:X.s₀.heap.objs.size<=X.env.locals
 inj:∀ x y c,X.env.cells.lookup x=some c->X.env.cells.lookup y=some c->x=y
 has:∀ x,(X.env.kindOf x=some .cell \/ X.env.kindOf x=some .free)->∃ c,X.env.cells.lookup x=some c
 cab:∀ x c,X.fn x=true->X.env.cells.lookup x=some c->X.s₀.heap.objs.size<=c
 hd:X.calm=true->X.A.handled=none
 frames:X.A.frames=some X.stack
 stk:X.stack=X.outer \/ (X.stack=X.env :: X.outer/\X.env.frame=some X.env.locals)
 exf:∀ b ∈ X.ex,b ≠ X.env.locals/\∀ x c,X.env.cells.lookup x=some c->c ≠ b
 bs:∀ b o,X.base.get? b=some o->X.s₀.heap.get? b=some o/\X.H₀ b=none
 bsz:X.base.objs.size<=X.s₀.heap.objs.size
 noex:∀ b o,X.base.get? b=some o->b ∉ X.ex
 exfs:∀ b ∈ X.ex,b ∉ X.fs
 funs:X.s₀.heap.FunFrames X.base X.outer
 frf:∀ b ∈ X.fs,X.H₀ b=none
structure Inv (X:Cx)(pins:List (Addr × Obj))(σ:List (Option V))(H:Hp)(s:Shared):Prop where
 ok:X.Ok
 os:s.os=X.s₀.os
 bare:AllBare s.gens
 base:Un X.fs X.ex X.H₀ H X.s₀.heap s.heap
 loc:∃ m,s.heap.Ns X.env.locals m/\∀ (i:Nat) (x:Str) (v:V),X.N[i]?=some x->σ[i]?=some (some v)->Vis X.env.scope x->∃ u,zx v u/\DK X.env s.heap m x u
 cell:∀ x c,X.env.cells.lookup x=some c->∃ v,s.heap.IsCell c v
 free:H X.env.locals=none
 freeC:∀ x c,X.env.cells.lookup x=some c->H c=none
 pin:∀ p ∈ X.pn ++ pins,s.heap.get? p.1=some p.2/\H p.1=none/\p.1 ≠ X.env.locals/\p.1 ∉ X.fs/\∀ v,p.2.data ≠ .cell v
 hok:HOk X.prog X.w H s.heap
 len:σ.length=X.N.length
section
variable {X:Cx}{pins:List (Addr × Obj)}{σ:List (Option V)}{H H':Hp}{s:Shared}{h':Heap}
theorem Cx.Ok.nofr (ok:X.Ok){b:Addr}{o:Obj}(e:X.base.get? b=some o):b ∉ X.fs:=fun hb=>by
 have:=(ok.funs.mem hb).1
 rw [e] at this;cases this
theorem Inv.bs (I:Inv X pins σ H s):∀ b o,X.base.get? b=some o->s.heap.get? b=some o/\H b=none:=fun b o e=>
 ⟨I.base.keep b o (I.ok.bs b o e).1 (I.ok.bs b o e).2 (I.ok.nofr e) (I.ok.noex b o e),I.base.free b o (I.ok.bs b o e).1 (I.ok.bs b o e).2 (I.ok.noex b o e)⟩
theorem Inv.bk (I:Inv X pins σ H s):∀ b o,X.base.get? b=some o->s.heap.get? b=some o:=fun b o e=>(I.bs b o e).1
theorem Inv.mod (I:Inv X pins σ H s):Mod X.K X.mg X.base:=I.ok.mod
theorem Inv.kIn (I:Inv X pins σ H s):X.K.In s.heap:=I.ok.mod.kin.keeps I.bk
theorem Inv.lt (I:Inv X pins σ H s):X.env.locals<s.heap.objs.size:=let ⟨_,hn,_⟩:=I.loc;hn.lt
theorem Inv.sz (I:Inv X pins σ H s):X.s₀.heap.objs.size<=s.heap.objs.size:=Nat.le_trans I.ok.above (Nat.le_of_lt I.lt)
theorem Inv.nofs (I:Inv X pins σ H s){a:Addr}(h:s.heap.objs.size<=a):a ∉ X.fs:=fun hb=>by
 obtain ⟨_,o,ho,_⟩:=I.ok.funs.mem hb
 exact absurd (Nat.lt_of_lt_of_le (Heap.lt_size ho) (Nat.le_trans I.sz h)) (Nat.lt_irrefl _)
theorem Inv.cne (I:Inv X pins σ H s):∀ x c,X.env.cells.lookup x=some c->c ≠ X.env.locals:=fun x c e z=>by
 obtain ⟨v,o,ho,hd⟩:=I.cell x c e
 obtain ⟨m,⟨o',es,ep,ho',hd',_⟩,_⟩:=I.loc
 rw [z,ho'] at ho;cases ho;rw [hd'] at hd;cases hd
theorem Inv.funs (I:Inv X pins σ H s):s.heap.FunFrames X.base X.outer:=by
 have all:∀ (l:List Env),(∀ b ∈ frs l,b ∈ X.fs)->X.s₀.heap.FunFrames X.base l->s.heap.FunFrames X.base l:=by
  intro l
  induction l with
  | nil=>intro _ _;trivial
  | cons env r ih=>
   intro hs hl
   obtain ⟨hk,⟨L,o,hf,hn,ho,hd⟩,hr⟩:=hl
   have hL:L ∈ X.fs:=hs L (by unfold frs;rw [List.filterMap_cons,hf];exact List.mem_cons_self)
   obtain ⟨sl,e⟩:=I.base.slot L o ho (I.ok.frf L hL) hL fun z=>I.ok.exfs L z hL
   exact ⟨hk,⟨L,_,hf,hn,e,hd⟩,ih (fun b hb=>hs b (by unfold frs;rw [List.filterMap_cons,hf];exact List.mem_cons_of_mem _ hb)) hr⟩
 exact all X.outer (fun _ hb=>hb) I.ok.funs
theorem Inv.stack (I:Inv X pins σ H s):s.heap.FunFrames X.base X.stack:=by
 rcases I.ok.stk with e | ⟨e,hf⟩
 ·rw [e];exact I.funs
 ·rw [e]
  obtain ⟨m,hn,_⟩:=I.loc
  refine .cons (by rw [I.ok.kind];decide) hf hn ?_ I.funs
  exact Heap.get?_none_of_le (Nat.le_trans I.ok.bsz I.ok.above)
theorem Inv.stkSub (I:Inv X pins σ H s):∀ b ∈ frs X.stack,b ∈ X.env.locals :: X.fs:=fun b hb=>by
 rcases I.ok.stk with e | ⟨e,hf⟩
 ·rw [e] at hb;exact List.mem_cons_of_mem _ hb
 ·rw [e] at hb
  unfold frs at hb
  rw [List.filterMap_cons,hf] at hb
  exact hb
theorem Inv.stkFree (I:Inv X pins σ H s):∀ b ∈ frs X.stack,H b=none:=fun b hb=>by
 rcases List.mem_cons.mp (I.stkSub b hb) with e | hb
 ·rw [e];exact I.free
 ·obtain ⟨_,o,ho,_⟩:=I.ok.funs.mem hb
  exact I.base.free b o ho (I.ok.frf b hb) fun z=>I.ok.exfs b z hb
theorem Inv.step {g':Array GenState}{t':Nat}{d':Drawn}{ch:List Addr}(I:Inv X pins σ H s)
  (hch:∀ b ∈ ch,(b ∈ X.ex \/ X.s₀.heap.objs.size<=b)/\b ≠ X.env.locals/\(∀ x c,X.env.cells.lookup x=some c->c ≠ b)/\∀ p ∈ X.pn ++ pins,p.1 ≠ b)
  (keep:∀ b o,b ≠ X.env.locals->b ∉ X.fs->b ∉ ch->s.heap.get? b=some o->H b=none->h'.get? b=some o)
  (slot:∀ b o,b ≠ X.env.locals->b ∈ X.fs->b ∉ ch->s.heap.get? b=some o->H b=none->∃ sl,h'.get? b=some { o with slots:=sl }) (free:∀ b o,b ∉ ch->s.heap.get? b=some o->H b=none->H' b=none)
  (there:∀ b o,b ∉ ch->s.heap.get? b=some o->∃ o',h'.get? b=some o')
  (tups:∀ b xs,H b=some (.tup xs)->H' b=some (.tup xs)) (frzs:∀ b o u,H b=some (.frz o u)->H' b=some (.frz o u)) (tbls:∀ b ps,H b=some (.tbl ps)->∃ more,H' b=some (.tbl (ps ++ more)))
  (ns:∀ m,s.heap.Ns X.env.locals m->h'.Ns X.env.locals m) (hok:HOk X.prog X.w H' h') (hg:AllBare g') :
  Inv X pins σ H' { s with heap:=h',gens:=g',drawn:=d',toks:=t' }:=by
 have neL:∀ b o,X.s₀.heap.get? b=some o->b ≠ X.env.locals:=fun b o e=>Nat.ne_of_lt (Nat.lt_of_lt_of_le (Heap.lt_size e) I.ok.above)
 have neC:∀ b o,X.s₀.heap.get? b=some o->b ∉ X.ex->b ∉ ch:=fun b o e hx hb=>by
  rcases (hch b hb).1 with z | z
  ·exact hx z
  ·exact absurd (Nat.lt_of_lt_of_le (Heap.lt_size e) z) (Nat.lt_irrefl _)
 have cellK:∀ x c,X.env.cells.lookup x=some c->∀ v,s.heap.IsCell c v->h'.IsCell c v:=fun x c e v ⟨o,ho,hd⟩=>by
  have nch:c ∉ ch:=fun z=>(hch c z).2.2.1 x c e rfl
  by_cases hc:c ∈ X.fs
  ·obtain ⟨sl,q⟩:=slot c o (I.cne x c e) hc nch ho (I.freeC x c e)
   exact ⟨_,q,hd⟩
  ·exact ⟨o,keep c o (I.cne x c e) hc nch ho (I.freeC x c e),hd⟩
 refine ⟨I.ok,I.os,hg,⟨fun b o e n hb hx=>?_,fun b o e n hb hx=>?_,fun b o e n hx=>?_,fun b o e hx=>?_,fun b xs e=>tups b xs (I.base.tups b xs e),fun b o xs e=>frzs b o xs (I.base.frzs b o xs e),fun b ps e=>?_⟩,?_,fun x c e=>?_,?_,fun x c e=>?_,fun p hp=>?_,hok,I.len⟩
 ·exact keep b o (neL b o e) hb (neC b o e hx) (I.base.keep b o e n hb hx) (I.base.free b o e n hx)
 ·obtain ⟨sl,e1⟩:=I.base.slot b o e n hb hx
  obtain ⟨sl',e2⟩:=slot b _ (neL b o e) hb (neC b o e hx) e1 (I.base.free b o e n hx)
  exact ⟨sl',e2⟩
 ·obtain ⟨o',e1⟩:=I.base.there b o e hx
  exact free b o' (neC b o e hx) e1 (I.base.free b o e n hx)
 ·obtain ⟨o',e1⟩:=I.base.there b o e hx
  exact there b o' (neC b o e hx) e1
 ·obtain ⟨m1,e1⟩:=I.base.tbls b ps e
  obtain ⟨m2,e2⟩:=tbls b _ e1
  exact ⟨m1 ++ m2,by rw [e2,Array.append_assoc]⟩
 ·obtain ⟨m,hn,hl⟩:=I.loc
  refine ⟨m,ns m hn,fun i x v e1 e2 e3=>?_⟩
  obtain ⟨u,r,l⟩:=hl i x v e1 e2 e3
  refine ⟨u,r,?_⟩
  rcases l with l | ⟨k,c,e,z⟩
  ·exact .inl l
  ·exact .inr ⟨k,c,e,cellK x c e _ z⟩
 ·obtain ⟨v,z⟩:=I.cell x c e
  exact ⟨v,cellK x c e v z⟩
 ·obtain ⟨m,⟨o,_,_,ho,_⟩,_⟩:=I.loc
  exact free _ o (fun z=>(hch _ z).2.1 rfl) ho I.free
 ·obtain ⟨v,o,ho,hd⟩:=I.cell x c e
  exact free c o (fun z=>(hch c z).2.2.1 x c e rfl) ho (I.freeC x c e)
 ·obtain ⟨e,n,ne,nf,d⟩:=I.pin p hp
  have nch:p.1 ∉ ch:=fun z=>(hch p.1 z).2.2.2 p hp rfl
  exact ⟨keep p.1 p.2 ne nf nch e n,free p.1 p.2 nch e n,ne,nf,d⟩
theorem Inv.un {t':Nat}(I:Inv X pins σ H s)(u:Un X.fs [] H H' s.heap h')(hok:HOk X.prog X.w H' h'):Inv X pins σ H' { s with heap:=h',toks:=t' }:=by
 obtain ⟨m,⟨o,es,ep,ho,r⟩,_⟩:=id I.loc
 obtain ⟨sl,hL⟩:=u.any ho I.free (by simp)
 exact I.step (g':=s.gens) (d':=s.drawn) (ch:=[]) (fun _ z=>nomatch z) (fun b o _ hb _ e n=>u.keep b o e n hb (by simp)) (fun b o _ hb _ e n=>u.slot b o e n hb (by simp)) (fun b o _ e n=>u.free b o e n (by simp)) (fun b o _ e=>u.there b o e (by simp)) u.tups u.frzs u.tbls (fun m' hm=>by
  obtain ⟨o',es',ep',ho',r'⟩:=hm
  rw [ho] at ho';cases ho'
  exact ⟨_,es',ep',hL,r'⟩) hok I.bare
theorem Inv.call {g':Array GenState}{t':Nat}{d':Drawn}{ch:List Addr}(I:Inv X pins σ H s)(u:Un (frs X.stack) ch H H' s.heap h')(hok:HOk X.prog X.w H' h')(hg:AllBare g')
  (hch:∀ b ∈ ch,(b ∈ X.ex \/ X.s₀.heap.objs.size<=b)/\b ≠ X.env.locals/\(∀ x c,X.env.cells.lookup x=some c->c ≠ b)/\∀ p ∈ X.pn ++ pins,p.1 ≠ b) :
  Inv X pins σ H' { s with heap:=h',gens:=g',drawn:=d',toks:=t' }:=by
 obtain ⟨m,⟨o,es,ep,ho,r⟩,_⟩:=id I.loc
 obtain ⟨sl,hL⟩:=u.any ho I.free fun z=>(hch _ z).2.1 rfl
 exact I.step (ch:=ch) hch (fun b o hL hb hc e n=>u.keep b o e n (fun z=>(List.mem_cons.mp (I.stkSub b z)).elim hL hb) hc) (fun b o _ _ hc e n=>u.any e n hc) (fun b o hc e n=>u.free b o e n hc) (fun b o hc e=>u.there b o e hc) u.tups u.frzs u.tbls (fun m' hm=>by
  obtain ⟨o',es',ep',ho',r'⟩:=hm
  rw [ho] at ho';cases ho'
  exact ⟨_,es',ep',hL,r'⟩) hok hg
theorem Inv.turned {t':Nat}{it:Addr}(I:Inv X pins σ H s)(k:∀ b o,b ≠ it->s.heap.get? b=some o->h'.get? b=some o)(hn:H it=none)(hL:it ≠ X.env.locals)
  (h1:it ∈ X.ex \/ X.s₀.heap.objs.size<=it) (h2:∀ x c,X.env.cells.lookup x=some c->c ≠ it) (h3:∀ p ∈ X.pn ++ pins,p.1 ≠ it):Inv X pins σ H { s with heap:=h',toks:=t' }:=by
 have nit:∀ b u,H b=some u->b ≠ it:=fun b u e z=>by rw [z,hn] at e;cases e
 refine I.step (g':=s.gens) (d':=s.drawn) (ch:=[it]) (fun b hb=>?_) (fun b o _ _ hc e _=>k b o (fun z=>hc (by simp [z])) e) (fun b o _ _ hc e _=>⟨o.slots,k b o (fun z=>hc (by simp [z])) e⟩) (fun _ _ _ _ n=>n)
  (fun b o hc e=>⟨o,k b o (fun z=>hc (by simp [z])) e⟩) (fun _ _ e=>e) (fun _ _ _ e=>e) (fun b ps e=>⟨#[],by rw [e];simp⟩) (fun m hm=>?_) (fun b u e=>?_) I.bare
 ·have e:b=it:=by simpa using hb
  subst e
  exact ⟨h1,hL,h2,h3⟩
 ·obtain ⟨o,es,ep,ho,r⟩:=hm
  exact ⟨o,es,ep,k _ o (Ne.symm hL) ho,r⟩
 ·refine (I.hok b u e).stay (fun c v hc q=>k c v ?_ q) (fun _ q=>q) fun _ _ q=>q
  rcases hc with z | z
  ·rw [z];exact nit b u e
  ·exact nit c _ z
theorem Inv.tok (I:Inv X pins σ H s)(t:Nat):Inv X pins σ H { s with toks:=t }:=I.un (h':=s.heap) (t':=t) Un.refl I.hok
theorem Inv.kept {t':Nat}(I:Inv X pins σ H s)(k:∀ b u,s.heap.get? b=some u->h'.get? b=some u):Inv X pins σ H { s with heap:=h',toks:=t' }:=I.un (Un.kept k) (I.hok.kept k)
theorem Inv.laid {a:Addr}{o:HO}{t':Nat}(I:Inv X pins σ H s)(k:∀ b u,s.heap.get? b=some u->h'.get? b=some u)(hp:s.heap.objs.size<=a)(new:zL X.prog X.w (upd H a o) h' a o) :
  Inv X pins σ (upd H a o) { s with heap:=h',toks:=t' }:=I.un (Un.laid k hp (I.hok.fresh hp)) (I.hok.laid k hp new)
theorem Inv.write {x e:Addr}{o:HO}{t':Nat}(I:Inv X pins σ H s)(mu:Mut (H x))(he:e=x \/ H e=some (.own x))(k:∀ b u,b ≠ e->s.heap.get? b=some u->h'.get? b=some u)(heo:∃ u,h'.get? e=some u)
  (new:zL X.prog X.w (upd H x o) h' x o):Inv X pins σ (upd H x o) { s with heap:=h',toks:=t' }:=I.un (Un.write mu he k heo) (I.hok.write mu he k heo new)
theorem Inv.pins_of {pins':List (Addr × Obj)}(I:Inv X pins σ H s)(h:∀ p ∈ pins',s.heap.get? p.1=some p.2/\H p.1=none/\p.1 ≠ X.env.locals/\p.1 ∉ X.fs/\∀ v,p.2.data ≠ .cell v):Inv X pins' σ H s:=
 ⟨I.ok,I.os,I.bare,I.base,I.loc,I.cell,I.free,I.freeC,fun p hp=>(List.mem_append.mp hp).elim (fun z=>I.pin p (List.mem_append_left _ z)) (h p),I.hok,I.len⟩
theorem v0 {N:List Str}(hN:N.Nodup){i j:Nat}{x:Str}(a:N[i]?=some x)(b:N[j]?=some x):i=j:=by
 obtain ⟨h1,e1⟩:=List.getElem?_eq_some_iff.mp a
 obtain ⟨h2,e2⟩:=List.getElem?_eq_some_iff.mp b
 exact (List.getElem_inj hN).mp (e1.trans e2.symm)
theorem vc {M : Model}{A : Around}{E : Value -> Shared -> Prop}{i : Nat}{x : Str}{v : V}{u : Value}{Q : Unit -> Shared -> Prop}(I : Inv X pins σ H s)(hN : X.N.Nodup)(hi : X.N[i]? = some x)(hx : Loc X.env.scope x)(r : zx v u)
    (h:∀ s',Inv X pins (σ.set i (some v)) H s'->(∃ a,Heap.SameBut a s.heap s'.heap/\(a=X.env.locals \/ X.env.cells.lookup x=some a))->Q () s') (hf:X.fn x=true \/ X.env.scope.names.lookup x=some .local:=by first | exact .inl rfl | exact .inr rfl | assumption):wpAny M A (storeName X.env x u) Q E s:=by
  obtain ⟨m,hn,hl⟩:=id I.loc
  have hcls:(X.env.scope.kind == .class || (X.env.scope.kind == .module && X.env.locals != X.env.globals))=false:=by rw [I.ok.kind];rfl
  have hiσ:i<σ.length:=by rw [I.len];exact (List.getElem?_eq_some_iff.mp hi).1
  have cne:=I.cne
  have tracked:∀ {a:Addr} {h':Heap},(∃ o,s.heap.get? a=some o/\H a=none)->Heap.SameBut a s.heap h'->HOk X.prog X.w H h':=fun {a h'} ha hs b ob e=>by
    obtain ⟨_,_,hfree⟩:=ha
    refine (I.hok b ob e).stay (fun c w' hc q=>(hs.2 c ?_).trans q) (fun _ q=>q) fun _ _ q=>q
    rintro rfl
    rcases hc with rfl | hc
    · rw [hfree] at e;cases e
    · rw [hfree] at hc;cases hc
  rcases hx with hk | hk
  · refine wpAny_storeName_local hk hn (fun h' hn' hs=>?_) hcls
    obtain ⟨oL,_,_,hoL,_⟩:=id hn
    refine h _ ⟨I.ok,I.os,I.bare,⟨fun b o e n hb hx=>?_,fun b o e n hb hx=>?_,I.base.free,fun b o e hx=>?_,I.base.tups,I.base.frzs,I.base.tbls⟩,⟨_,hn',fun j y v' e1 e2 e3=>?_⟩,fun y c e=>?_,I.free,I.freeC,fun p hp=>?_,tracked ⟨oL,hoL,I.free⟩ hs,by simpa using I.len⟩ ⟨_,hs,.inl rfl⟩
    · exact (hs.2 b (Nat.ne_of_lt (Nat.lt_of_lt_of_le (Heap.lt_size e) I.ok.above))).trans (I.base.keep b o e n hb hx)
    · obtain ⟨sl,e1⟩:=I.base.slot b o e n hb hx
      exact ⟨sl,(hs.2 b (Nat.ne_of_lt (Nat.lt_of_lt_of_le (Heap.lt_size e) I.ok.above))).trans e1⟩
    · obtain ⟨o',e1⟩:=I.base.there b o e hx
      exact ⟨o',(hs.2 b (Nat.ne_of_lt (Nat.lt_of_lt_of_le (Heap.lt_size e) I.ok.above))).trans e1⟩
    · by_cases hj:j=i
      · subst hj
        rw [hi] at e1;cases e1
        rw [List.getElem?_set_self hiσ] at e2
        cases e2
        exact ⟨u,r,.inl ⟨hk,by simp⟩⟩
      · rw [List.getElem?_set_ne (Ne.symm hj)] at e2
        obtain ⟨u',r',q⟩:=hl j y v' e1 e2 e3
        refine ⟨u',r',?_⟩
        rcases q with ⟨k,e⟩ | ⟨k,c,e,z⟩
        · refine .inl ⟨k,?_⟩
          have:y ≠ x:=fun e=>hj (v0 hN e1 (e ▸ hi))
          simp [this,e]
        · exact .inr ⟨k,c,e,z.sameBut hs (cne y c e)⟩
    · obtain ⟨w',z⟩:=I.cell y c e
      exact ⟨w',z.sameBut hs (cne y c e)⟩
    · obtain ⟨e,n,ne,nf,d⟩:=I.pin p hp
      exact ⟨(hs.2 p.1 ne).trans e,n,ne,nf,d⟩
  · have hfn : X.fn x = true := by
      rcases hf with z | z
      · exact z
      · rw [z] at hk;cases hk
    obtain ⟨c,hc⟩:=I.ok.has x (.inl hk)
    obtain ⟨w',z⟩:=I.cell x c hc
    refine wpAny_storeName_cell I.ok.kind hk hc z (fun h' hc' hs=>?_)
    obtain ⟨oc,hoc,hocd⟩:=id z
    refine h { s with heap:=h' } ⟨I.ok,I.os,I.bare,⟨fun b o e n hb hx=>?_,fun b o e n hb hx=>?_,I.base.free,fun b o e hx=>?_,I.base.tups,I.base.frzs,I.base.tbls⟩,⟨m,hn.sameBut hs (Ne.symm (cne x c hc)),fun j y v' e1 e2 e3=>?_⟩,fun y c' e=>?_,I.free,I.freeC,fun p hp=>?_,tracked ⟨oc,hoc,I.freeC x c hc⟩ hs,by simpa using I.len⟩ ⟨c,hs,.inr hc⟩
    · exact (hs.2 b (Nat.ne_of_lt (Nat.lt_of_lt_of_le (Heap.lt_size e) (I.ok.cab x c hfn hc)))).trans (I.base.keep b o e n hb hx)
    · obtain ⟨sl,e1⟩:=I.base.slot b o e n hb hx
      exact ⟨sl,(hs.2 b (Nat.ne_of_lt (Nat.lt_of_lt_of_le (Heap.lt_size e) (I.ok.cab x c hfn hc)))).trans e1⟩
    · obtain ⟨o',e1⟩:=I.base.there b o e hx
      exact ⟨o',(hs.2 b (Nat.ne_of_lt (Nat.lt_of_lt_of_le (Heap.lt_size e) (I.ok.cab x c hfn hc)))).trans e1⟩
    · by_cases hj:j=i
      · subst hj
        rw [hi] at e1;cases e1
        rw [List.getElem?_set_self hiσ] at e2
        cases e2
        exact ⟨u,r,.inr ⟨.inl hk,c,hc,hc'⟩⟩
      · rw [List.getElem?_set_ne (Ne.symm hj)] at e2
        obtain ⟨u',r',q⟩:=hl j y v' e1 e2 e3
        refine ⟨u',r',?_⟩
        rcases q with q | ⟨k,c',e,z'⟩
        · exact .inl q
        · refine .inr ⟨k,c',e,z'.sameBut hs ?_⟩
          rintro rfl
          exact hj (v0 hN e1 (I.ok.inj _ _ _ e hc ▸ hi))
    · by_cases hcc:c'=c
      · subst hcc;exact ⟨_,hc'⟩
      · obtain ⟨w2,z2⟩:=I.cell y c' e
        exact ⟨w2,z2.sameBut hs hcc⟩
    · obtain ⟨e,n,ne,nf,d⟩:=I.pin p hp
      refine ⟨(hs.2 p.1 ?_).trans e,n,ne,nf,d⟩
      intro q
      rw [q,hoc] at e
      have q':oc=p.2:=Option.some.inj e
      exact d w' (by rw [<- q'];exact hocd)
theorem jg {M:Model}{A:Around}{E:Value->Shared->Prop}{i:Nat}{x:Str}{v:V}{u:Value}{Q:Unit->Shared->Prop}(I:Inv X pins σ H s)(hN:X.N.Nodup)(hi:X.N[i]?=some x)(hx:Loc X.env.scope x)(r:zx v u)
  (h:∀ s',Inv X pins (σ.set i (some v)) H s'->Q () s') (hf:X.fn x=true \/ X.env.scope.names.lookup x=some .local:=by first | exact .inl rfl | exact .inr rfl | assumption):wpAny M A (storeName X.env x u) Q E s:=
 vc I hN hi hx r (fun s' I' _=>h s' I') hf
theorem Inv.call' {s':Shared}{ch:List Addr}(I:Inv X pins σ H s)(ho:s'.os=s.os)(u:Un (frs X.stack) ch H H' s.heap s'.heap)(hok:HOk X.prog X.w H' s'.heap)(hg:AllBare s'.gens)
  (hch:∀ b ∈ ch,(b ∈ X.ex \/ X.s₀.heap.objs.size<=b)/\b ≠ X.env.locals/\(∀ x c,X.env.cells.lookup x=some c->c ≠ b)/\∀ p ∈ X.pn ++ pins,p.1 ≠ b):Inv X pins σ H' s':=by
 obtain ⟨h',g',d',t',o'⟩:=s'
 have e:o'=s.os:=ho
 subst e
 exact I.call (g':=g') (t':=t') (d':=d') u hok hg hch
end
noncomputable abbrev XK:=Value->Option Addr->Hp->Prop
noncomputable abbrev St:=List (Option V)
noncomputable abbrev VK:=V->Hp->Prop
noncomputable abbrev TE:=St->Hp->VK->Prop
noncomputable abbrev TT:=St->Hp->(Bool->Hp->Prop)->Prop
noncomputable abbrev TA:=St->Hp->(List V->Hp->Prop)->Prop
structure xi where
 nx:St->Hp->Prop
 rt:VK
 bk:St->Hp->Prop:=fun _ _=>False
 ct:St->Hp->Prop:=fun _ _=>False
noncomputable abbrev TS:=xi->St->Hp->Prop
noncomputable def EP (X:Cx)(pins:List (Addr × Obj))(σ:St)(Q:VK)(u:Value)(s':Shared):Prop:=∃ v H',Inv X pins σ H' s'/\zx v u/\Q v H'
noncomputable def TP (X:Cx)(pins:List (Addr × Obj))(σ:St)(Q:Bool->Hp->Prop)(b:Bool)(s':Shared):Prop:=∃ H',Inv X pins σ H' s'/\Q b H'
noncomputable def AP (X:Cx)(pins:List (Addr × Obj))(σ:St)(Q:List V->Hp->Prop)(us:List Value)(s':Shared):Prop:=∃ vs H',Inv X pins σ H' s'/\zw vs us/\Q vs H'
noncomputable def SP (X:Cx)(pins:List (Addr × Obj))(D:xi)(f:Flow)(s':Shared):Prop:=
 match f with
 | .next=>∃ σ' H',Inv X pins σ' H' s'/\D.nx σ' H'
 | .brk=>∃ σ' H',Inv X pins σ' H' s'/\D.bk σ' H'
 | .cont=>∃ σ' H',Inv X pins σ' H' s'/\D.ct σ' H'
 | .ret u=>∃ v σ' H',Inv X pins σ' H' s'/\zx v u/\D.rt v H'
noncomputable def PE (X:Cx)(e:Expr)(t:TE):Prop:=
 ∀ (pins:List (Addr × Obj)) (s:Shared) (σ:St) (H:Hp) (Q:VK),Inv X pins σ H s->t σ H Q->wpAny (model X.prog X.w) X.A (eval e X.env) (EP X pins σ Q) X.xe s
noncomputable def PT (X:Cx)(e:Expr)(t:TT):Prop:=
 ∀ (pins:List (Addr × Obj)) (s:Shared) (σ:St) (H:Hp) (Q:Bool->Hp->Prop),Inv X pins σ H s->t σ H Q->wpAny (model X.prog X.w) X.A (isTrue e X.env (eval e X.env)) (TP X pins σ Q) X.xe s
noncomputable def PW (X:Cx)(e:Expr)(t:TT):Prop:=
 ∀ (whole:Sem Value) (pins:List (Addr × Obj)) (s:Shared) (σ:St) (H:Hp) (Q:Bool->Hp->Prop),Inv X pins σ H s->t σ H Q->wpAny (model X.prog X.w) X.A (isTrue e X.env whole) (TP X pins σ Q) X.xe s
theorem PW.pt {X:Cx}{e:Expr}{t:TT}(h:PW X e t):PT X e t:=h _
noncomputable def PA (X:Cx)(es:List Expr)(t:TA):Prop:=
 ∀ (pos:Pos) (pins:List (Addr × Obj)) (s:Shared) (σ:St) (H:Hp) (Q:List V->Hp->Prop),Inv X pins σ H s->t σ H Q->wpAny (model X.prog X.w) X.A (spliced (backTo pos (starEach es X.env))) (AP X pins σ Q) X.xe s
noncomputable def PS (X:Cx)(st:Stmt)(t:TS):Prop:=
 ∀ (pins:List (Addr × Obj)) (s:Shared) (σ:St) (H:Hp) (D:xi),Inv X pins σ H s->t D σ H->wpAny (model X.prog X.w) X.A (exec st X.env) (SP X pins D) X.xe s
noncomputable def PSs (X:Cx)(st:List Stmt)(t:TS):Prop:=
 ∀ (pins:List (Addr × Obj)) (s:Shared) (σ:St) (H:Hp) (D:xi),Inv X pins σ H s->t D σ H->wpAny (model X.prog X.w) X.A (execs st X.env) (SP X pins D) X.xe s
theorem thn {α:Type}{t:Sem α}{Q Q':α->Shared->Prop}{M:Model}{A:Around}{E:Value->Shared->Prop}{s:Shared}(h:wpAny M A t Q E s)(hQ:∀ a s,Q a s->Q' a s):wpAny M A t Q' E s:=wpAny_mono h hQ fun _ _ x=>x
section
variable {X:Cx}
theorem bin {a b:Expr}{ta tb:TE}(ha:PE X a ta)(hb:PE X b tb){pins:List (Addr × Obj)}{s:Shared}{σ:St}{H:Hp}{R:V->V->Hp->Prop}(I:Inv X pins σ H s)(h:ta σ H fun x H1=>tb σ H1 fun y H2=>R x y H2)
  {α:Type} {Q:α->Shared->Prop} {f:Value->Value->Sem α}
  (hf:∀ v u s2 x y H2,Inv X pins σ H2 s2->zx x v->zx y u->R x y H2->wpAny (model X.prog X.w) X.A (f v u) Q X.xe s2) :
  wpAny (model X.prog X.w) X.A (eval a X.env) (fun v s₁=>wpAny (model X.prog X.w) X.A (eval b X.env) (fun u s₂=>wpAny (model X.prog X.w) X.A (f v u) Q X.xe s₂) X.xe s₁) X.xe s:=by
 refine thn (ha pins s σ H _ I h) fun v s1 ⟨x,H1,I1,r1,q1⟩=>?_
 refine thn (hb pins s1 σ H1 _ I1 q1) fun u s2 ⟨y,H2,I2,r2,q2⟩=>?_
 exact hf v u s2 x y H2 I2 r1 r2 q2
noncomputable def Wx (i:Nat):TE:=fun σ H Q=>∃ v,σ[i]?=some (some v)/\Q v H
noncomputable def tC (v:V):TE:=fun _ H Q=>Q v H
theorem A7 {i:Nat}{x:Str}{pos:Pos}(hN:X.N[i]?=some x)(hv:Vis X.env.scope x)(hd:(x == ("__debug__":Str))=false:=by decide)(hcd:(x == ("__classdict__":Str))=false:=by decide):PE X (.Name x pos) (Wx i):=by
 intro pins s σ H Q I h
 obtain ⟨v,e,h⟩:=h
 obtain ⟨m,hn,hl⟩:=I.loc
 obtain ⟨u,r,l⟩:=hl i x v hN e hv
 have fin:EP X pins σ Q u s:=⟨v,H,I,r,h⟩
 rcases l with ⟨hk,hm⟩ | ⟨hk,c,hc,hcell⟩
 ·exact wpAny_Name (wpAny_loadName_local I.ok.kind hk hn hm fin) hd
 ·rcases hk with hk | hk
  ·exact wpAny_Name (wpAny_loadName_cell I.ok.kind hk hc hcell fin) hd
  ·exact wpAny_Name (wpAny_loadName_free I.ok.kind hk hc hcell fin hcd) hd
theorem zc {i j pos}:PE X (.Constant (.int i) j pos) (tC (.int i)):=fun _ _ _ H _ I h=>wpAny_Constant_int ⟨.int i,H,I.tok _,⟨_,rfl⟩,h⟩
theorem v7 {b j pos}:PE X (.Constant (.bool b) j pos) (tC (.bl b)):=fun _ _ _ H _ I h=>Constant_bool ⟨.bl b,H,I,rfl,h⟩
theorem zN {j pos}:PE X (.Constant .none j pos) (tC .non):=fun _ _ _ H _ I h=>Constant_none ⟨.non,H,I,rfl,h⟩
theorem zD {x j pos}:PE X (.Constant (.str x) j pos) (tC (.str x)):=fun _ _ _ H _ I h=>Calls.Constant_str ⟨.str x,H,I.tok _,⟨_,rfl⟩,h⟩
noncomputable def Gl (X:Cx)(x:Str):Prop:=X.env.kindOf x=some .globalImplicit
theorem Vh {E:Value->Shared->Prop}{pins:List (Addr × Obj)}{s:Shared}{σ:St}{H:Hp}{x:Str}{u:Value}{pos:Pos}{Q:Value->Shared->Prop}(I:Inv X pins σ H s)(hg:Gl X x)(hm:X.mg x=some u)(h:Q u s)
  (hd:(x == ("__debug__":Str))=false:=by decide):wpAny (model X.prog X.w) X.A (eval (.Name x pos) X.env) Q E s:=
 Calls.Name_function_global I.ok.kind hg (Calls.loadGlobal_global (by rw [I.ok.glob];exact I.mod.glob.keeps I.bk) hm h) hd
theorem xf {E:Value->Shared->Prop}{pins:List (Addr × Obj)}{s:Shared}{σ:St}{H:Hp}{x:Str}{u:Value}{pos:Pos}{Q:Value->Shared->Prop}(I:Inv X pins σ H s)(hg:Gl X x)(hm:X.mg x=none)(hv:bootBuiltins x=some u)(h:Q u s)
  (hn:x ≠ "__name__":=by decide) (hd:(x == ("__debug__":Str))=false:=by decide):wpAny (model X.prog X.w) X.A (eval (.Name x pos) X.env) Q E s:=by
 obtain ⟨mb,h1,h2⟩:=I.mod.blt
 exact Calls.Name_function_global I.ok.kind hg (Calls.loadGlobal_builtin (by rw [I.ok.glob];exact I.mod.glob.keeps I.bk) hm (by rw [I.ok.blt];exact h1.keeps I.bk) ((h2 x hn).trans hv) h) hd
theorem qH {x:Str}{v:V}{u:Value}{pos:Pos}(hg:Gl X x)(hm:X.mg x=none)(hv:bootBuiltins x=some u)(r:zx v u)(hn:x ≠ "__name__":=by decide)(hd:(x == ("__debug__":Str))=false:=by decide):PE X (.Name x pos) (tC v):=
 fun _ _ _ H _ I h=>xf I hg hm hv ⟨v,H,I,r,h⟩ hn hd
variable {a b:Expr}{ta tb:TE}{pos:Pos}
noncomputable def PC (X:Cx)(op:CmpOp)(a b:Expr)(t:TE):Prop:=
 ∀ (pins:List (Addr × Obj)) (s:Shared) (σ:St) (H:Hp) (Q:VK),Inv X pins σ H s->t σ H Q ->
  wpAny (model X.prog X.w) X.A (eval a X.env) (fun v s₁=>wpAny (model X.prog X.w) X.A (eval b X.env) (fun u s₂=>wpAny (model X.prog X.w) X.A (compareOp op v u) (EP X pins σ Q) X.xe s₂) X.xe s₁) X.xe s
theorem Kh (b:Expr){op:CmpOp}(h:op ≠ .In)(h2:op ≠ .NotIn):behindInMarks op b=false:=by
 have e1:(op == CmpOp.In)=false:=by cases op <;> first | rfl | exact absurd rfl h
 have e2:(op == CmpOp.NotIn)=false:=by cases op <;> first | rfl | exact absurd rfl h2
 cases b <;> simp [behindInMarks,e1,e2]
noncomputable def tB (t:TE):TT:=fun σ H Q=>t σ H fun x H1=>∃ c,x=.bl c/\Q c H1
theorem DJ {op:CmpOp}{t:TE}(h:PC X op a b t)(h1:behindInMarks op b=false:=by first | exact Kh _ (by decide) (by decide) | rfl):PT X (.Compare a [op] [b] pos) (tB t):=by
 intro pins s σ H Q I hw
 refine wpAny_isTrue_Compare1 (thn (h pins s σ H _ I hw) fun v s1 h1=>thn h1 fun u s2 h2=>thn h2 fun c s3 ⟨x,H1,I1,r1,q1⟩=>?_) h1
 obtain ⟨d,rfl,q⟩:=q1
 cases r1
 exact wpAny_truthy_bool ⟨H1,I1,q⟩
theorem kF {e:Expr}{t:TE}(h:PE X e t)(he:∀ whole,isTrue e X.env whole=(do let v <- whole;standAt e.pos;holding [v] (truthy v)):=by intro _;rfl):PT X e (tB t):=by
 intro pins s σ H Q I hw
 refine isTrue_plain (thn (h pins s σ H _ I hw) fun v s1 ⟨x,H1,I1,r1,q1⟩=>?_) (he _)
 obtain ⟨d,rfl,q⟩:=q1
 cases r1
 exact wpAny_truthy_bool ⟨H1,I1,q⟩
variable {tA tB':TT}{qR:List Expr}
noncomputable def A0 (t u:TT):TT:=fun σ H Q=>t σ H fun c H1=>if c=true then u σ H1 Q else Q false H1
noncomputable def tOr (t u:TT):TT:=fun σ H Q=>t σ H fun c H1=>if c=true then Q true H1 else u σ H1 Q
noncomputable def A1 (t:TT):TT:=fun σ H Q=>t σ H fun c H1=>Q (!c) H1
theorem kc (ha:PT X a tA):PW X (.BoolOp .And [a] pos) tA:=by
 intro wh pins s σ H Q I h
 refine isTrue_and (thn (ha pins s σ H Q I h) fun c s1 e=>?_)
 cases c with
 | true=>exact isTrue_and_nil e
 | false=>exact e
theorem kD (ha:PT X a tA):PW X (.BoolOp .Or [a] pos) tA:=by
 intro wh pins s σ H Q I h
 refine isTrue_or (thn (ha pins s σ H Q I h) fun c s1 e=>?_)
 cases c with
 | false=>exact isTrue_or_nil e
 | true=>exact e
theorem kZ (ha:PT X a tA)(hb:PW X (.BoolOp .And (b :: qR) pos) tB'):PW X (.BoolOp .And (a :: b :: qR) pos) (A0 tA tB'):=by
 intro wh pins s σ H Q I h
 refine isTrue_and (thn (ha pins s σ H _ I h) fun c s1 ⟨H1,I1,q1⟩=>?_)
 cases c with
 | true=>exact hb wh pins s1 σ H1 Q I1 q1
 | false=>exact ⟨H1,I1,q1⟩
theorem xo (ha:PT X a tA)(hb:PW X (.BoolOp .Or (b :: qR) pos) tB'):PW X (.BoolOp .Or (a :: b :: qR) pos) (tOr tA tB'):=by
 intro wh pins s σ H Q I h
 refine isTrue_or (thn (ha pins s σ H _ I h) fun c s1 ⟨H1,I1,q1⟩=>?_)
 cases c with
 | true=>exact ⟨H1,I1,q1⟩
 | false=>exact hb wh pins s1 σ H1 Q I1 q1
theorem ZW (ha:PT X a tA):PT X (.UnaryOp .Not a pos) (A1 tA):=by
 intro pins s σ H Q I h
 exact isTrue_not (ha pins s σ H (fun c H1=>Q (!c) H1) I h)
noncomputable def Xh (ta tb:TE):TE:=fun σ H Q=>ta σ H fun x H1=>∃ c,x=.bl c/\if c=true then tb σ H1 Q else Q (.bl false) H1
theorem vN {op}{t:TE}(h:PE X a t):PE X (.BoolOp op [a] pos) t:=fun pins s σ H Q I hw=>BoolOp_one (h pins s σ H Q I hw)
theorem xX (ha:PE X a ta)(hb:PE X (.BoolOp .And (b :: qR) pos) tb):PE X (.BoolOp .And (a :: b :: qR) pos) (Xh ta tb):=by
 intro pins s σ H Q I h
 refine BoolOp_and (thn (ha pins s σ H _ I h) fun v s1 ⟨x,H1,I1,r1,q1⟩=>?_)
 obtain ⟨c,rfl,q1⟩:=q1
 cases r1
 refine wpAny_truthy_bool ?_
 cases c with
 | true=>exact hb pins s1 σ H1 Q I1 q1
 | false=>exact ⟨.bl false,H1,I1,rfl,q1⟩
noncomputable def tIf (t:TT)(ta tb:TE):TE:=fun σ H Q=>t σ H fun c H1=>if c=true then ta σ H1 Q else tb σ H1 Q
theorem X4 {c:Expr}(hc:PT X c tA)(ha:PE X a ta)(hb:PE X b tb):PE X (.IfExp c a b pos) (tIf tA ta tb):=by
 intro pins s σ H Q I h
 refine wpAny_IfExp (thn (hc pins s σ H _ I h) fun d s1 ⟨H1,I1,q1⟩=>?_)
 cases d with
 | true=>exact ha pins s1 σ H1 Q I1 q1
 | false=>exact hb pins s1 σ H1 Q I1 q1
end
noncomputable def SqL (K:PySem.W.Frag)(H:Hp)(a:Addr)(xs:List V):Prop:=
 Rd H a (.lst xs) \/
  ∃ (o:Obj) (its:Array Value) (n:Nat),K.lookup a=some o/\o.cls=.type "list"/\o.dict=none/\o.data=.seq its n/\its.size<=sizeLine/\zw xs its.toList
noncomputable def SqT (K:PySem.W.Frag)(H:Hp)(a:Addr)(xs:List V):Prop:=
 Rd H a (.tup xs) \/
  ∃ (o:Obj) (its:Array Value) (n:Nat),K.lookup a=some o/\o.cls=.type "tuple"/\o.data=.seq its n/\its.size<=sizeLine/\zw xs its.toList
noncomputable def DZ:Value->Option V
 | .none=>some .non
 | .bool b=>some (.bl b)
 | .int i _=>some (.int i)
 | .str x _=>some (.str x)
 | .bytes b _=>some (.byt b)
 | .float b _=>some (.flt b)
 | .ref a=>some (.ref a)
 | .type n=>some (.ty n)
 | _=>none
theorem zx.abs {x:V}{u:Value}(r:zx x u):DZ u=some x:=by
 cases x with
 | non=>cases r;rfl
 | bl _=>cases r;rfl
 | int _=>obtain ⟨t,rfl⟩:=r;rfl
 | str _=>obtain ⟨t,rfl⟩:=r;rfl
 | byt _=>obtain ⟨t,rfl⟩:=r;rfl
 | flt _=>obtain ⟨t,rfl⟩:=r;rfl
 | ref _=>cases r;rfl
 | ty _=>cases r;rfl
theorem zx.inj {x y:V}{u:Value}(r:zx x u)(q:zx y u):x=y:=Option.some.inj (r.abs.symm.trans q.abs)
theorem zw.inj:∀ {xs ys:List V} {us:List Value},zw xs us->zw ys us->xs=ys
 | _,_,_,.nil,.nil=>rfl
 | _,_,_,.cons r t,.cons r' t'=>by rw [r.inj r',zw.inj t t']
section
variable {X:Cx}{pins:List (Addr × Obj)}{σ:St}{H:Hp}{s:Shared}{a:Addr}{xs ys:List V}
theorem SqL.of {K:PySem.W.Frag}(h:H a=some (.lst xs)):SqL K H a xs:=.inl (.inl h)
theorem SqT.of {K:PySem.W.Frag}(h:H a=some (.tup xs)):SqT K H a xs:=.inl (.inl h)
theorem Inv.list (I:Inv X pins σ H s)(h:SqL X.K H a xs):∃ its:List Value,zw xs its/\PlainL s.heap a its.toArray/\xs.length<=sizeLine:=by
 rcases h with h | ⟨o,its,n,hk,hc,hd,hs,hz,r⟩
 ·obtain ⟨z,its,n,r,e⟩:=h.ok I.hok
  exact ⟨its,r,⟨_,n,e,rfl,rfl,rfl⟩,z⟩
 ·refine ⟨its.toList,r,⟨o,n,I.kIn a o hk,hc,hd,by simpa using hs⟩,?_⟩
  have e:=r.length
  simp only [Array.length_toList] at e
  omega
theorem Inv.tuple (I:Inv X pins σ H s)(h:SqT X.K H a xs):∃ its:List Value,zw xs its/\IsTup s.heap a its.toArray/\xs.length<=sizeLine:=by
 rcases h with h | ⟨o,its,n,hk,hc,hs,hz,r⟩
 ·obtain ⟨z,its,r,p⟩:=h.ok I.hok
  exact ⟨its,r,p.is,z⟩
 ·refine ⟨its.toList,r,⟨o,I.kIn a o hk,hc,n,by simpa using hs⟩,?_⟩
  have e:=r.length
  simp only [Array.length_toList] at e
  omega
theorem Inv.list_inj (I:Inv X pins σ H s)(h:SqL X.K H a xs)(h':SqL X.K H a ys):xs=ys:=by
 obtain ⟨its,r,⟨o,n,e,_,_,d⟩,_⟩:=I.list h
 obtain ⟨its',r',⟨o',n',e',_,_,d'⟩,_⟩:=I.list h'
 rw [e] at e';cases e'
 rw [d] at d'
 injection d' with d1 _
 have:its=its':=by simpa using congrArg Array.toList d1
 subst this
 exact r.inj r'
theorem Inv.tuple_inj (I:Inv X pins σ H s)(h:SqT X.K H a xs)(h':SqT X.K H a ys):xs=ys:=by
 obtain ⟨its,r,⟨o,e,_,n,d⟩,_⟩:=I.tuple h
 obtain ⟨its',r',⟨o',e',_,n',d'⟩,_⟩:=I.tuple h'
 rw [e] at e';cases e'
 rw [d] at d'
 injection d' with d1 _
 have:its=its':=by simpa using congrArg Array.toList d1
 subst this
 exact r.inj r'
end
noncomputable abbrev Cx.wish (X:Cx)(E:Value->Shared->Prop):Cx:={ X with xe:=E }
noncomputable abbrev Cx.nox (X:Cx):Cx:=X.wish fun _ _=>False
theorem Cx.Ok.wish {X:Cx}(ok:X.Ok)(E:Value->Shared->Prop):(X.wish E).Ok:=
 ⟨ok.mod,ok.kind,ok.glob,ok.blt,ok.above,ok.inj,ok.has,ok.cab,ok.hd,ok.frames,ok.stk,ok.exf,ok.bs,ok.bsz,ok.noex,ok.exfs,ok.funs,ok.frf⟩
theorem Cx.Ok.unwish {X:Cx}{E:Value->Shared->Prop}(ok:(X.wish E).Ok):X.Ok:=
 ⟨ok.mod,ok.kind,ok.glob,ok.blt,ok.above,ok.inj,ok.has,ok.cab,ok.hd,ok.frames,ok.stk,ok.exf,ok.bs,ok.bsz,ok.noex,ok.exfs,ok.funs,ok.frf⟩
section
variable {X:Cx}{pins:List (Addr × Obj)}{σ:St}{H:Hp}{s:Shared}{E:Value->Shared->Prop}
theorem Inv.wish (I:Inv X pins σ H s)(E:Value->Shared->Prop):Inv (X.wish E) pins σ H s:=⟨I.ok.wish E,I.os,I.bare,I.base,I.loc,I.cell,I.free,I.freeC,I.pin,I.hok,I.len⟩
theorem Inv.unwish (I:Inv (X.wish E) pins σ H s):Inv X pins σ H s:=⟨I.ok.unwish,I.os,I.bare,I.base,I.loc,I.cell,I.free,I.freeC,I.pin,I.hok,I.len⟩
theorem SP.unwish {D:xi}{f:Flow}{s':Shared}(h:SP (X.wish E) pins D f s'):SP X pins D f s':=by
 cases f with
 | next=>obtain ⟨σ',H',I,q⟩:=h;exact ⟨σ',H',I.unwish,q⟩
 | brk=>obtain ⟨σ',H',I,q⟩:=h;exact ⟨σ',H',I.unwish,q⟩
 | cont=>obtain ⟨σ',H',I,q⟩:=h;exact ⟨σ',H',I.unwish,q⟩
 | ret u=>obtain ⟨v,σ',H',I,r,q⟩:=h;exact ⟨v,σ',H',I.unwish,r,q⟩
theorem PSs.nox {st:List Stmt}{t:TS}(h:PSs X.nox st t):PSs X st t:=fun pins s σ H D I hw=>
 wpAny_mono (h pins s σ H D (I.wish _) hw) (fun _ _ q=>q.unwish) fun _ _ z=>False.elim z
end
section
variable {X:Cx}{st:Stmt}{qR:List Stmt}{t u:TS}{e:Expr}{te:TE}{pos:Pos}
noncomputable def Yb:TS:=fun D σ H=>D.nx σ H
noncomputable def WZ (t u:TS):TS:=fun D σ H=>t { D with nx:=u D } σ H
theorem zC:PSs X [] Yb:=fun _ _ σ H _ I h=>wpAny_execs_nil ⟨σ,H,I,h⟩
theorem zd (h1:PS X st t)(h2:PSs X qR u):PSs X (st :: qR) (WZ t u):=by
 intro pins s σ H D I h
 refine wpAny_execs_cons (thn (h1 pins s σ H { D with nx:=u D } I h) fun f s1 q=>?_)
 cases f with
 | next=>
  obtain ⟨σ',H',I',q⟩:=q
  exact h2 pins s1 σ' H' D I' q
 | ret v=>exact q
 | brk=>exact q
 | cont=>exact q
theorem zg (h1:PS X st t):PSs X [st] t:=by
 intro pins s σ H D I h
 refine wpAny_execs_cons (thn (h1 pins s σ H D I h) fun f s1 q=>?_)
 cases f with
 | next=>exact wpAny_execs_nil q
 | ret v=>exact q
 | brk=>exact q
 | cont=>exact q
theorem Inv.quiet {pins:List (Addr × Obj)}{σ:St}{H:Hp}{s:Shared}(I:Inv X pins σ H s):interactive X.env=false:=by simp [interactive,I.ok.kind]
noncomputable def Yf (te:TE):TS:=fun D σ H=>te σ H fun _ H1=>D.nx σ H1
theorem qL (he:PE X e te)(hs:swapsWith e none pos.line X.env=pure false:=by rfl):PS X (.Expr e pos) (Yf te):=by
 intro pins s σ H D I h
 exact wpAny_Expr_any (thn (he pins s σ H _ I h) fun v s1 ⟨x,H1,I1,r1,q1⟩=>⟨σ,H1,I1,q1⟩) I.quiet hs
noncomputable def Al (te:TE):TS:=fun D σ H=>te σ H D.rt
theorem zG (he:PE X e te):PS X (.Return (some e) pos) (Al te):=by
 intro pins s σ H D I h
 exact wpAny_Return_some (thn (he pins s σ H _ I h) fun v s1 ⟨x,H1,I1,r1,q1⟩=>⟨x,σ,H1,I1,r1,q1⟩)
noncomputable def Bh (c:TT)(t u:TS):TS:=fun D σ H=>c σ H fun b H1=>if b=true then t D σ H1 else u D σ H1
theorem zU {c:Expr}{a b:List Stmt}{tc:TT}(hc:PT X c tc)(ha:PSs X a t)(hb:PSs X b u):PS X (.If c a b pos) (Bh tc t u):=by
 intro pins s σ H D I h
 refine wpAny_If (thn (hc pins s σ H _ I h) fun d s1 ⟨H1,I1,q1⟩=>?_)
 cases d with
 | true=>exact ha pins s1 σ H1 D I1 q1
 | false=>exact hb pins s1 σ H1 D I1 q1
end
noncomputable abbrev TG:=V->St->Hp->(St->Hp->Prop)->Prop
noncomputable abbrev TGs:=List V->St->Hp->(St->Hp->Prop)->Prop
noncomputable def PG (X:Cx)(target:Expr)(t:TG):Prop:=
 ∀ (pins:List (Addr × Obj)) (s:Shared) (σ:St) (H:Hp) (v:V) (u:Value) (Q:St->Hp->Prop),Inv X pins σ H s->zx v u->t v σ H Q ->
  wpAny (model X.prog X.w) X.A (assign target X.env u) (fun _ s'=>∃ σ' H',Inv X pins σ' H' s'/\Q σ' H') X.xe s
noncomputable def PGs (X:Cx)(ts:List Expr)(t:TGs):Prop:=
 ∀ (pins:List (Addr × Obj)) (s:Shared) (σ:St) (H:Hp) (vs:List V) (us:List Value) (Q:St->Hp->Prop),Inv X pins σ H s->zw vs us->t vs σ H Q ->
  wpAny (model X.prog X.w) X.A (assignInOrder ((assignEach ts X.env).map (·.2)) us) (fun _ s'=>∃ σ' H',Inv X pins σ' H' s'/\Q σ' H') X.xe s
noncomputable abbrev Yr:=V->V->V->Hp->(Hp->Prop)->Prop
noncomputable def BK (X:Cx)(t:Yr):Prop:=
 ∀ (pins:List (Addr × Obj)) (s:Shared) (σ:St) (H:Hp) (o i v:V) (ov iv u:Value) (Q:Hp->Prop),Inv X pins σ H s->zx o ov->zx i iv->zx v u->t o i v H Q ->
  wpAny (model X.prog X.w) X.A (setItem ov iv u) (fun _ s'=>∃ H',Inv X pins σ H' s'/\Q H') X.xe s
noncomputable abbrev TIp:=V->V->Hp->VK->Prop
section
variable {X:Cx}{pos:Pos}
noncomputable def Zb (i:Nat):TG:=fun v σ H Q=>Q (σ.set i (some v)) H
theorem zA {i:Nat}{x:Str}(hN:X.N.Nodup)(hi:X.N[i]?=some x)(hx:Loc X.env.scope x)(hf:X.fn x=true \/ X.env.scope.names.lookup x=some .local:=by first | exact .inl rfl | exact .inr rfl | assumption):PG X (.Name x pos) (Zb i):=by
 intro pins s σ H v u Q I r h
 exact wpAny_assign_Name (jg I hN hi hx r (fun s' I'=>⟨_,H,I',h⟩) hf)
noncomputable def AW:TGs:=fun vs σ H Q=>vs=[]/\Q σ H
noncomputable def Xm (t:TG)(u:TGs):TGs:=fun vs σ H Q=>∃ v r,vs=v :: r/\t v σ H fun σ' H'=>u r σ' H' Q
theorem qu:PGs X [] AW:=by
 intro pins s σ H vs us Q I r h
 obtain ⟨e,h⟩:=h
 subst e
 cases r
 exact assignInOrder_nil ⟨σ,H,I,h⟩
theorem zv {e:Expr}{es:List Expr}{t:TG}{u:TGs}(h1:PG X e t)(h2:PGs X es u)
  (hs:(assignEach (e :: es) X.env).map (·.2)=assign e X.env :: (assignEach es X.env).map (·.2):=by rfl):PGs X (e :: es) (Xm t u):=by
 intro pins s σ H vs us Q I r h
 obtain ⟨v,vr,e1,h⟩:=h
 subst e1
 cases r with
 | cons r rr=>
  rw [hs]
  refine assignInOrder_cons (thn (h1 pins s σ H _ _ _ I r h) fun _ s1 ⟨σ1,H1,I1,q1⟩=>?_)
  exact h2 pins s1 σ1 H1 _ _ Q I1 rr q1
noncomputable def Xe (K:PySem.W.Frag)(n:Nat)(t:TGs):TG:=fun v σ H Q=>∃ a xs,v=.ref a/\SqT K H a xs/\xs.length=n/\t xs σ H Q
theorem WW {es:List Expr}{k:Nat}{t:TGs}{n:Nat}(hc:X.calm=true)(h:PGs X es t)
  (hn:(assignEach es X.env).length=n:=by rfl) (hst:(assignEach es X.env).findIdx? (·.1)=none:=by rfl):PG X (.Tuple es k pos) (Xe X.K n t):=by
 intro pins s σ H v u Q I r hw
 obtain ⟨a,xs,e1,hq,hl,hw⟩:=hw
 subst e1
 cases r
 obtain ⟨its,rv,ht,hz⟩:=I.tuple hq
 refine assign_Tuple_tuple (I.ok.hd hc) ht (by simp [hn,<- hl,rv.length]) hst fun h' hx=>?_
 have I1:Inv X pins σ H { s with heap:=h' }:=I.kept (t':=s.toks) fun b o e=>hx b o (Nat.ne_of_lt (Heap.lt_size e)) e
 exact h pins _ σ H xs _ Q I1 (by simpa using rv) hw
noncomputable def AU (to ti:TE)(t:Yr):TG:=fun v σ H Q=>to σ H fun o H1=>ti σ H1 fun i H2=>t o i v H2 fun H3=>Q σ H3
theorem qw {o i:Expr}{to ti:TE}{t:Yr}(ho:PE X o to)(hi:PE X i ti)(hs:BK X t)
  (ha:∀ v,assign (.Subscript o i pos) X.env v=(do
   let ov <- holding [v] (eval o X.env)
   let iv <- holding [v,ov] (eval i X.env)
   standAt pos
   holding [v,ov,iv] (setItem ov iv v)
   release [v,ov,iv] []):=by intro _;rfl):PG X (.Subscript o i pos) (AU to ti t):=by
 intro pins s σ H v u Q I r h
 rw [ha]
 refine wpAny_bind (wpAny_holding (thn (ho pins s σ H _ I h) fun ov s1 ⟨x,H1,I1,r1,q1⟩=>?_))
 refine wpAny_bind (wpAny_holding (thn (hi pins s1 σ H1 _ I1 q1) fun iv s2 ⟨y,H2,I2,r2,q2⟩=>?_))
 refine wpAny_bind (wpAny_standAt (wpAny_bind (wpAny_holding (thn (hs pins s2 σ H2 x y v ov iv u _ I2 r1 r2 r q2) fun _ s3 ⟨H3,I3,q3⟩=>?_))))
 exact wpAny_release ⟨σ,H3,I3,q3⟩
noncomputable def J8 (te:TE)(g:TG):TS:=fun D σ H=>te σ H fun x H1=>g x σ H1 D.nx
theorem qm {tg e:Expr}{te:TE}{g:TG}(he:PE X e te)(hg:PG X tg g)(hs:swapsWithSole [tg] e pos.line X.env=pure false:=by rfl)(hw:swappedStores [tg] e X.env=pure none:=by rfl)
  (h1:(assignEach [tg] X.env).map (·.2)=[assign tg X.env]:=by rfl):PS X (.Assign [tg] e pos) (J8 te g):=by
 intro pins s σ H D I h
 refine wpAny_Assign_stores (thn (he pins s σ H _ I h) fun v s1 ⟨x,H1,I1,r1,q1⟩=>?_) hs hw
 rw [h1]
 exact thn (hg pins s1 σ H1 x v _ I1 r1 q1) fun _ s2 q=>q
theorem zS {i:Nat}{x:Str}{e:Expr}{te:TE}{pos':Pos}(hN:X.N.Nodup)(hi:X.N[i]?=some x)(hx:Loc X.env.scope x)(he:PE X e te)(hs:swapsWith e (some (.Name x pos')) pos.line X.env=pure false:=by rfl)(hf:X.fn x=true \/ X.env.scope.names.lookup x=some .local:=by first | exact .inl rfl | exact .inr rfl | assumption) :
  PS X (.Assign [.Name x pos'] e pos) (J8 te (Zb i)):=by
 intro pins s σ H D I h
 refine wpAny_Assign_Name (thn (he pins s σ H _ I h) fun v s1 ⟨y,H1,I1,r1,q1⟩=>?_) hs
 exact jg I1 hN hi hx r1 (fun s2 I2=>⟨_,H1,I2,q1⟩) hf
noncomputable def Bj (i j:Nat)(ta:TA):TS:=fun D σ H=>ta σ H fun vs H1=>∃ v w,vs=[v,w]/\D.nx ((σ.set i (some v)).set j (some w)) H1
theorem ZK {i j:Nat}{x y:Str}{a b:Expr}{ta:TA}{px py pt:Pos}{kt k2 pt2}(hc:X.calm=true)(hN:X.N.Nodup)(hi:X.N[i]?=some x)(hj:X.N[j]?=some y)(hij:i ≠ j)
  (hx:X.env.scope.names.lookup x=some .local) (hy:X.env.scope.names.lookup y=some .local) (ha:PA X [a,b] ta)
  (hw:swappedStores [.Tuple [.Name x px,.Name y py] kt pt] (.Tuple [a,b] k2 pt2) X.env=pure (some [x,y]))
  (hs:swapsWithSole [.Tuple [.Name x px,.Name y py] kt pt] (.Tuple [a,b] k2 pt2) pos.line X.env=pure false:=by rfl) :
  PS X (.Assign [.Tuple [.Name x px,.Name y py] kt pt] (.Tuple [a,b] k2 pt2) pos) (Bj i j ta):=by
 intro pins s σ H D I h
 rw [exec_Assign_arm]
 refine wpAny_bind (wpAny_standAt ?_)
 rw [hs]
 refine wpAny_bind (wpAny_pure ?_)
 rw [if_neg (by decide)]
 refine wpAny_bind (Tuple_ (thn (ha _ pins s σ H _ I h) fun us s1 ⟨vs,H1,I1,r1,q1⟩=>?_))
 obtain ⟨v,w,e1,q1⟩:=q1
 subst e1
 obtain ⟨u1,u2,rfl,rv,rw'⟩:∃ u1 u2,us=[u1,u2]/\zx v u1/\zx w u2:=by
  cases r1 with
  | cons p q=>
   cases q with
   | cons p' q'=>
    cases q'
    exact ⟨_,_,rfl,p,p'⟩
 refine wpAny_newObj_type ?_ (by show 2<=sizeLine;decide)
 have I2:Inv X pins σ H1 { s1 with heap:=s1.heap.push { cls:=.type "tuple",data:=.seq [u1,u2].toArray } }:=I1.kept (t':=s1.toks) fun b o e=>Heap.get?_push_of_some _ e
 rw [hw]
 refine wpAny_bind (wpAny_pure ?_)
 show wpAny (model X.prog X.w) X.A (do rule "assign.swapped-stores";let items <- unpackItems (.ref s1.heap.objs.size) 2 none;assignInOrder [fun v=>bindName X.env y v,fun v=>bindName X.env x v] items.reverse;pure Flow.next) _ _ _
 refine wpAny_bind (wpAny_rule (wpAny_bind (unpackItems_tuple (items:=#[u1,u2]) (I.ok.hd hc) (IsTup.new s1.heap _) fun h' hx'=>?_)))
 have I3:=I2.kept (h':=h') (t':=s1.toks) fun b o e=>hx' b o (Nat.ne_of_lt (Heap.lt_size e)) e
 show wpAny _ _ (assignInOrder [fun v=>bindName X.env y v,fun v=>bindName X.env x v] [u2,u1] >>= fun _=>pure Flow.next) _ _ _
 refine wpAny_bind (assignInOrder_cons (wpAny_bindName (jg I3 hN hj (.inl hy) rw' (fun s2 I4=>?_) (.inr hy))))
 refine assignInOrder_cons (wpAny_bindName (jg I4 hN hi (.inl hx) rv (fun s3 I5=>assignInOrder_nil (wpAny_pure ?_)) (.inr hx)))
 rw [List.set_comm _ _ (Ne.symm hij)] at I5
 exact ⟨_,H1,I5,q1⟩
end
section
variable {X:Cx}{pos:Pos}
noncomputable def K8 (c:TT)(tb:TS):TS:=fun D σ H=>∃ W:Nat->St->Hp->Prop,(∃ m,W m σ H)/\∀ m σ H,W m σ H ->
 c σ H fun b H1=>if b=true then ∃ N:St->Hp->Prop,(∀ σ' H',N σ' H'->∃ m',m'<m/\W m' σ' H')/\tb { D with nx:=N,ct:=N,bk:=D.nx } σ H1 else D.nx σ H1
theorem Ki {c:Expr}{body:List Stmt}{tc:TT}{tb:TS}(hp:PassesOwn (model X.prog X.w) X.A X.env X.xe)(hc:PT X c tc)(hb:PSs X body tb):PS X (.While c body [] pos) (K8 tc tb):=by
 intro pins s σ H D I h
 obtain ⟨W,⟨m0,w0⟩,turn⟩:=h
 refine wpAny_While (codeAny_whileLoop (fun n s'=>∃ σ' H',Inv X pins σ' H' s'/\W n σ' H') ?_ m0 ⟨σ,H,I,w0⟩)
 rintro n s1 ⟨σ1,H1,I1,w1⟩
 refine wpAny_passesOwn hp (thn (hc pins s1 σ1 H1 _ I1 (turn n σ1 H1 w1)) fun b s2 ⟨H2,I2,q2⟩=>?_)
 cases b with
 | true=>
  obtain ⟨N,hN,q2⟩:=q2
  rw [if_pos rfl]
  refine wpAny_passesOwn hp (thn (hb pins s2 σ1 H2 _ I2 q2) fun f s3 q3=>?_)
  cases f with
  | next=>
   obtain ⟨σ3,H3,I3,n3⟩:=q3
   obtain ⟨m',hm,w3⟩:=hN σ3 H3 n3
   exact ⟨m',hm,σ3,H3,I3,w3⟩
  | cont=>
   obtain ⟨σ3,H3,I3,n3⟩:=q3
   obtain ⟨m',hm,w3⟩:=hN σ3 H3 n3
   exact ⟨m',hm,σ3,H3,I3,w3⟩
  | brk=>exact q3
  | ret v=>exact q3
 | false=>
  rw [if_neg Bool.false_ne_true]
  exact wpAny_execs_nil ⟨σ1,H2,I2,q2⟩
end
structure It where
 go:Nat->Hp->Prop
 yld:Nat->Hp->V->Hp->Prop
 stop:Nat->Hp->Prop
noncomputable def xu (X:Cx)(pins:List (Addr × Obj))(H:Hp)(b:Addr):Prop:=
 H b=none/\b ≠ X.env.locals/\b ∉ X.fs/\(b ∈ X.ex \/ X.s₀.heap.objs.size<=b)/\(∀ x c,X.env.cells.lookup x=some c->c ≠ b)/\∀ p ∈ X.pn ++ pins,p.1 ≠ b
theorem Inv.fpOk {X:Cx}{pins:List (Addr × Obj)}{σ:St}{H H':Hp}{s:Shared}{b:Addr}(I:Inv X pins σ H s)(hb:s.heap.objs.size<=b)(hn:H' b=none):xu X pins H' b:=by
 refine ⟨hn,Nat.ne_of_gt (Nat.lt_of_lt_of_le I.lt hb),I.nofs hb,.inr (Nat.le_trans I.sz hb),fun x c e z=>?_,fun p hp z=>?_⟩
 ·obtain ⟨v,q⟩:=I.cell x c e
  exact absurd (Nat.lt_of_lt_of_le q.lt (by rw [z];exact hb)) (Nat.lt_irrefl _)
 ·exact absurd (Nat.lt_of_lt_of_le (Heap.lt_size (I.pin p hp).1) (by rw [z];exact hb)) (Nat.lt_irrefl _)
structure ZJ (P:Program)(w:World)(K:PySem.W.Frag)(tg:Expr)(J:It)(fp:List Addr)(it:Addr)(tn:Nat->Heap->Prop):Prop where
 mem:it ∈ fp
 obj:∀ i h,tn i h->∀ b ∈ fp,∃ o,h.get? b=some o/\∀ v,o.data ≠ .cell v
 keep:∀ i h h',tn i h->(∀ b ∈ fp,∀ o,h.get? b=some o->h'.get? b=some o)->tn i h'
 item:∀ (X:Cx),X.prog=P->X.w=w->X.K=K->X.calm=true->∀ (i:Nat) (pins:List (Addr × Obj)) (s:Shared) (σ:St) (H:Hp) (E:Value->Shared->Prop),Inv X pins σ H s->(∀ b ∈ fp,xu X pins H b)->tn i s.heap->J.go i H ->
  wpAny (model P w) X.A (pyNext (.ref it)) (fun r s1=>∃ u,r=some u /\
   wpAny (model P w) X.A (letOwnedTupleGo tg (.ref it) u) (fun _ s2=>∃ x H',Inv X pins σ H' s2/\zx x u/\J.yld i H x H'/\tn (i+1) s2.heap/\∀ b ∈ fp,H' b=none) E s1) E s
 done:∀ (X:Cx),X.prog=P->X.w=w->X.K=K->X.calm=true->∀ (i:Nat) (pins:List (Addr × Obj)) (s:Shared) (σ:St) (H:Hp) (E:Value->Shared->Prop),Inv X pins σ H s->(∀ b ∈ fp,xu X pins H b)->tn i s.heap->J.stop i H ->
  wpAny (model P w) X.A (pyNext (.ref it)) (fun r s1=>r=none/\Inv X pins σ H s1) E s
 self:∀ (A:Around) (i:Nat) (s:Shared) (Q:Value->Shared->Prop) (E:Value->Shared->Prop),tn i s.heap->Q (.ref it) s->wpAny (model P w) A (pyIter (.ref it)) Q E s
noncomputable abbrev TI:=St->Hp->(It->Hp->Prop)->Prop
noncomputable def PIE (X:Cx)(pins:List (Addr × Obj))(σ:St)(tg:Expr)(R:It->Hp->Prop)(itv:Value)(s2:Shared):Prop:=
 ∃ (it:Addr) (fp:List Addr) (tn:Nat->Heap->Prop) (J:It) (H':Hp),itv=.ref it/\Inv X pins σ H' s2/\ZJ X.prog X.w X.K tg J fp it tn/\tn 0 s2.heap/\(∀ b ∈ fp,xu X pins H' b)/\R J H'
noncomputable def PI (X:Cx)(tg iter:Expr)(wi:TI):Prop:=
 ∀ (pins:List (Addr × Obj)) (s:Shared) (σ:St) (H:Hp) (R:It->Hp->Prop),Inv X pins σ H s->wi σ H R ->
  wpAny (model X.prog X.w) X.A (eval iter X.env) (fun v s1=>wpAny (model X.prog X.w) X.A (pyIter v) (PIE X pins σ tg R) X.xe s1) X.xe s
theorem YC {M : Model}{A : Around}{E : Value -> Shared -> Prop}{s : Shared}{tg : Expr}{it : Addr}{u : Value}{o : Obj}{n : String}{vs : Array Value}{Q : Unit -> Shared -> Prop}(ho : s.heap.get? it = some o)(hc : o.cls = .type n)(hd : o.data = .fields vs)
    (hn:["enumerate","zip","dict_itemiterator","dict_reverseitemiterator","odict_iterator","itertools.zip_longest","itertools.pairwise"].contains n=false) (hQ:Q () s):wpAny M A (letOwnedTupleGo tg (.ref it) u) Q E s:=by
  unfold letOwnedTupleGo
  cases tg <;> first
    | exact wpAny_pure hQ
    | (cases u <;> first
        | exact wpAny_pure hQ
        | (refine wpAny_bind (wpAny_load ho ?_)
           rw [hc,hd]
           show wpAny M A (if (["enumerate","zip","dict_itemiterator","dict_reverseitemiterator","odict_iterator","itertools.zip_longest","itertools.pairwise"].contains n && vs[0]? == some (rawInt _))=true then _ else _) Q E s
           rw [if_neg (by intro h;rw [hn,Bool.false_and] at h;cases h)]
           exact wpAny_pure hQ))
noncomputable def Itl (K:PySem.W.Frag)(a:Addr):It:=
 ⟨fun i H=>∃ xs x,SqL K H a xs/\xs[i]?=some x,fun i H x H'=>H'=H/\∀ xs,SqL K H a xs->xs[i]?=some x,fun i H=>∃ xs,SqL K H a xs/\xs.length<=i⟩
noncomputable def Itt (K:PySem.W.Frag)(a:Addr):It:=
 ⟨fun i H=>∃ xs x,SqT K H a xs/\xs[i]?=some x,fun i H x H'=>H'=H/\∀ xs,SqT K H a xs->xs[i]?=some x,fun i H=>∃ xs,SqT K H a xs/\xs.length<=i⟩
noncomputable def Itr (lo:Int)(n:Nat):It:=⟨fun i _=>i<n,fun i H x H'=>H'=H/\x=.int (lo+i),fun i _=>n<=i⟩
theorem JP {P:Program}{w:World}{K:PySem.W.Frag}{tg:Expr}(a it:Addr):ZJ P w K tg (Itl K a) [it] it (fun i h=>h.IsListIter it a i) where
 mem:=by simp
 obj:=fun i h st b hb=>by
  have e:b=it:=by simpa using hb
  subst e
  obtain ⟨o,e,c,d⟩:=st
  exact ⟨o,e,fun v z=>by rw [d] at z;cases z⟩
 keep:=fun i h h' st k=>st.at fun o e=>k it (by simp) o e
 item:=by
  intro X hP hw hK hc i pins s σ H E I hf st hg
  subst hP hw hK
  obtain ⟨xs,x,hq,hx⟩:=hg
  obtain ⟨its,rv,p,hz⟩:=I.list hq
  obtain ⟨u,hu,ru⟩:=rv.get hx
  obtain ⟨f0,f1,f2,f3,f4,f5⟩:=hf it (by simp)
  refine wpAny_pyNext_list_item st p.isList (x:=u) (by simpa using hu) fun h' st' sb=>?_
  have I1:Inv X pins σ H { s with heap:=h' }:=I.turned (t':=s.toks) (fun b o hb e=>(sb.2 b hb).trans e) f0 f1 f3 f4 f5
  obtain ⟨o,e,c,d⟩:=id st'
  exact ⟨u,rfl,YC (s:={ s with heap:=h' }) e c d (by decide) ⟨x,H,I1,ru,⟨rfl,fun ys hy=>by rw [I.list_inj hy hq];exact hx⟩,st',fun b hb=>(hf b hb).1⟩⟩
 done:=by
  intro X hP hw hK hc i pins s σ H E I hf st hg
  subst hP hw hK
  obtain ⟨xs,hq,hx⟩:=hg
  obtain ⟨its,rv,p,hz⟩:=I.list hq
  obtain ⟨f0,f1,f2,f3,f4,f5⟩:=hf it (by simp)
  have hl:=rv.length
  exact wpAny_pyNext_list_end (I.ok.hd hc) st p.isList (by simp;omega) fun h' eb=>⟨rfl,I.turned (t':=s.toks) (fun b o hb e=>eb b o hb e) f0 f1 f3 f4 f5⟩
 self:=fun _ _ _ _ _ st h=>wpAny_pyIter_listiter st h
theorem ZF {P:Program}{w:World}{K:PySem.W.Frag}{tg:Expr}(a it:Addr):ZJ P w K tg (Itt K a) [it] it (fun i h=>h.IsTupleIter it a i) where
 mem:=by simp
 obj:=fun i h st b hb=>by
  have e:b=it:=by simpa using hb
  subst e
  obtain ⟨o,e,c,d⟩:=st
  exact ⟨o,e,fun v z=>by rw [d] at z;cases z⟩
 keep:=fun i h h' st k=>st.at fun o e=>k it (by simp) o e
 item:=by
  intro X hP hw hK hc i pins s σ H E I hf st hg
  subst hP hw hK
  obtain ⟨xs,x,hq,hx⟩:=hg
  obtain ⟨its,rv,p,hz⟩:=I.tuple hq
  obtain ⟨u,hu,ru⟩:=rv.get hx
  obtain ⟨f0,f1,f2,f3,f4,f5⟩:=hf it (by simp)
  refine wpAny_pyNext_tuple_item st (show s.heap.IsTuple a its.toArray from p) (x:=u) (by simpa using hu) fun h' st' sb=>?_
  have I1:Inv X pins σ H { s with heap:=h' }:=I.turned (t':=s.toks) (fun b o hb e=>(sb.2 b hb).trans e) f0 f1 f3 f4 f5
  obtain ⟨o,e,c,d⟩:=id st'
  exact ⟨u,rfl,YC (s:={ s with heap:=h' }) e c d (by decide) ⟨x,H,I1,ru,⟨rfl,fun ys hy=>by rw [I.tuple_inj hy hq];exact hx⟩,st',fun b hb=>(hf b hb).1⟩⟩
 done:=by
  intro X hP hw hK hc i pins s σ H E I hf st hg
  subst hP hw hK
  obtain ⟨xs,hq,hx⟩:=hg
  obtain ⟨its,rv,p,hz⟩:=I.tuple hq
  obtain ⟨f0,f1,f2,f3,f4,f5⟩:=hf it (by simp)
  have hl:=rv.length
  exact wpAny_pyNext_tuple_end (I.ok.hd hc) st (show s.heap.IsTuple a its.toArray from p) (by simp;omega) fun h' eb=>⟨rfl,I.turned (t':=s.toks) (fun b o hb e=>eb b o hb e) f0 f1 f3 f4 f5⟩
 self:=fun _ _ _ _ _ st h=>wpAny_pyIter_tupleiter st h
theorem Zu {P:Program}{w:World}{K:PySem.W.Frag}{tg:Expr}(it:Addr)(lo:Int)(n:Nat):ZJ P w K tg (Itr lo n) [it] it (fun i h=>IsRangeIter h it (lo+(i:Nat) * 1) ((n:Int) - (i:Nat)) 1) where
 mem:=by simp
 obj:=fun i h st b hb=>by
  have e:b=it:=by simpa using hb
  subst e
  exact ⟨_,st,fun v z=>by
   have z':Data.fields _=Data.cell v:=z
   cases z'⟩
 keep:=fun i h h' st k=>k it (by simp) _ st
 item:=by
  intro X hP hw hK hc i pins s σ H E I hf st hg
  subst hP hw hK
  obtain ⟨f0,f1,f2,f3,f4,f5⟩:=hf it (by simp)
  have W:=Walks.range (prog:=X.prog) (w:=X.w) (I.ok.hd hc) it lo 1 n
  refine W.item i s _ _ hg st fun v h' tk hv st' kk=>?_
  obtain ⟨t,rfl⟩:=hv
  have I1:Inv X pins σ H { s with heap:=h',toks:=tk }:=I.turned (fun b o hb e=>kk b o (by simpa using hb) e) f0 f1 f3 f4 f5
  refine ⟨_,rfl,YC (s:={ s with heap:=h',toks:=tk }) (n:="range_iterator") st' rfl rfl (by decide) ⟨.int (lo+i),H,I1,⟨t,?_⟩,⟨rfl,rfl⟩,st',fun b hb=>(hf b hb).1⟩⟩
  rw [Int.mul_one]
 done:=by
  intro X hP hw hK hc i pins s σ H E I hf st hg
  subst hP hw hK
  obtain ⟨f0,f1,f2,f3,f4,f5⟩:=hf it (by simp)
  exact wpAny_pyNext_range_end (I.ok.hd hc) st (by have:n<=i:=hg;omega) fun h' eb=>⟨rfl,I.turned (t':=s.toks) (fun b o hb e=>eb b o hb e) f0 f1 f3 f4 f5⟩
 self:=fun _ _ _ _ _ st h=>wpAny_pyIter_rangeiter st h
section
variable {X:Cx}{tg:Expr}
theorem YI {pins:List (Addr × Obj)}{σ:St}{H:Hp}{s:Shared}{R:It->Hp->Prop}{E:Value->Shared->Prop}{lo hi:Int}{t u v:Tok}{tk:Nat}(I:Inv X pins σ H s)(h1:-(2 ^ 62)<=lo)(h2:lo<2 ^ 62)(h3:-(2 ^ 62)<=hi)(h4:hi<2 ^ 62)
  (q:R (Itr lo (hi - lo).toNat) H):wpAny (model X.prog X.w) X.A (pyIter (.ref s.heap.objs.size)) (PIE X pins σ tg R) E { s with heap:=s.heap.push { cls:=.type "range",data:=.fields #[.int lo t,.int hi u,.int 1 v] },toks:=tk }:=by
 refine wpAny_pyIter_range (IsRange.new ..) (small_one h1 h2 h3 h4) ?_
 have I1:Inv X pins σ H { s with heap:=s.heap.push { cls:=.type "range",data:=.fields #[.int lo t,.int hi u,.int 1 v] },toks:=tk }:=I.kept fun b o e=>Heap.get?_push_of_some _ e
 refine ⟨(s.heap.push { cls:=.type "range",data:=.fields #[.int lo t,.int hi u,.int 1 v] }).objs.size,[(s.heap.push { cls:=.type "range",data:=.fields #[.int lo t,.int hi u,.int 1 v] }).objs.size],_,_,H,rfl,
  I1.kept (t':=tk) fun b o e=>Heap.get?_push_of_some _ e,Zu _ lo (hi - lo).toNat,?_,fun b hb=>?_,q⟩
 ·have e1:lo+((0:Nat):Int) * 1=lo:=by simp
  have e2:(((hi - lo).toNat:Nat):Int) - ((0:Nat):Int)=Builtin.Range.rangeSize lo hi 1:=by rw [rangeSize_one];split <;> omega
  show IsRangeIter _ _ (lo+((0:Nat):Int) * 1) ((((hi - lo).toNat:Nat):Int) - ((0:Nat):Int)) 1
  rw [e1,e2]
  exact Heap.get?_push_size _ rfl
 ·have e:b=(s.heap.push { cls:=.type "range",data:=.fields #[.int lo t,.int hi u,.int 1 v] }).objs.size:=by simpa using hb
  subst e
  exact I1.fpOk (Nat.le_refl _) (I1.hok.fresh (Nat.le_refl _))
noncomputable def KN (ta:TA):TI:=fun σ H R=>ta σ H fun vs H1=>∃ j:Int,vs=[.int j]/\-(2 ^ 62)<=j/\j<2 ^ 62/\R (Itr 0 j.toNat) H1
theorem jC {a:Expr}{ta:TA}{p pos:Pos}(hg:Gl X "range")(hm:X.mg "range"=none)(ha:PA X [a] ta)(hs:starEach [a] X.env=[(false,eval a X.env)]:=by rfl):PI X tg (.Call (.Name "range" p) [a] [] pos) (KN ta):=by
 intro pins s σ H R I h
 refine Call_ (xf I hg hm boot_range (PyProof.Rows.callWith_type1 (thn (ha pos pins s σ H _ I h) fun us s1 ⟨vs,H1,I1,r1,q1⟩=>?_) hs rfl))
 obtain ⟨j,e,q1,q2,q⟩:=q1
 subst e
 cases r1 with
 | cons r rr=>
  cases rr
  obtain ⟨t,rfl⟩:=r
  exact call_range_1 (YI I1 (by omega) (by omega) q1 q2 (by simpa using q))
noncomputable def WX (wi:TI)(g:TG)(tb:TS):TS:=fun D σ H=>wi σ H fun J H1=>∃ W:Nat->Nat->St->Hp->Prop,(∃ m,W 0 m σ H1)/\∀ i m σ H,W i m σ H ->
 (J.stop i H/\D.nx σ H) \/ (J.go i H/\∃ N:St->Hp->Prop,(∀ σ' H',N σ' H'->∃ m',m'<m/\W (i+1) m' σ' H')/\∀ x H',J.yld i H x H'->g x σ H' fun σ2 H2=>tb { D with nx:=N,ct:=N,bk:=D.nx } σ2 H2)
noncomputable def yh (fp:List Addr)(h:Heap):List (Addr × Obj):=fp.filterMap fun b=>(h.get? b).map fun o=>(b,o)
theorem jG {fp:List Addr}{h:Heap}{b:Addr}{o:Obj}(hb:b ∈ fp)(e:h.get? b=some o):(b,o) ∈ yh fp h:=List.mem_filterMap.mpr ⟨b,hb,by rw [e];rfl⟩
theorem Jx {fp:List Addr}{h:Heap}{p:Addr × Obj}(hp:p ∈ yh fp h):p.1 ∈ fp/\h.get? p.1=some p.2:=by
 obtain ⟨b,hb,e⟩:=List.mem_filterMap.mp hp
 cases q:h.get? b with
 | none=>rw [q] at e;cases e
 | some o=>
  rw [q] at e
  have e':(b,o)=p:=Option.some.inj e
  subst e'
  exact ⟨hb,q⟩
theorem Inv.pinned {pins:List (Addr × Obj)}{σ:St}{H:Hp}{s:Shared}{fp:List Addr}(I:Inv X pins σ H s)(hf:∀ b ∈ fp,xu X pins H b)(ho:∀ b ∈ fp,∃ o,s.heap.get? b=some o/\∀ v,o.data ≠ .cell v):Inv X (pins ++ yh fp s.heap) σ H s:=
 I.pins_of fun p hp=>(List.mem_append.mp hp).elim (fun z=>I.pin p (List.mem_append_right _ z)) fun z=>by
  obtain ⟨hb,e⟩:=Jx z
  obtain ⟨f0,f1,f2,_⟩:=hf p.1 hb
  obtain ⟨o,e',d⟩:=ho p.1 hb
  rw [e] at e';cases e'
  exact ⟨e,f0,f1,f2,d⟩
theorem Inv.unpinned {pins pl:List (Addr × Obj)}{σ:St}{H:Hp}{s:Shared}(I:Inv X (pins ++ pl) σ H s):Inv X pins σ H s:=I.pins_of fun p hp=>I.pin p (List.mem_append_right _ (List.mem_append_left _ hp))
theorem jv {iter:Expr}{body:List Stmt}{wi:TI}{g:TG}{tb:TS}{pos:Pos}(hp:PassesOwn (model X.prog X.w) X.A X.env X.xe)(hc:X.calm=true)(hi:PI X tg iter wi)(hg:PG X tg g)(hb:PSs X body tb)
  (hs:∀ x,foldedSetIterable iter X.env x=pure x:=by intro _;rfl):PS X (.For tg iter body [] pos) (WX wi g tb):=by
 intro pins s σ H D I h
 refine wpAny_For (thn (hi pins s σ H _ I h) fun v s1 h1=>thn h1 fun itv s2 h2=>?_) hs
 obtain ⟨it,fp,tn,J,H2,e,I2,T,st2,f2,W,⟨m0,w0⟩,turn⟩:=h2
 subst e
 have stat:∀ {H':Hp},(∀ b ∈ fp,H' b=none)->∀ b ∈ fp,xu X pins H' b:=fun hn b hb=>⟨hn b hb,(f2 b hb).2⟩
 refine codeAny_forLoop_any (fun n s'=>∃ i σ' H',Inv X pins σ' H' s'/\tn i s'.heap/\(∀ b ∈ fp,H' b=none)/\W i n σ' H') ?_ m0 ⟨0,σ,H2,I2,st2,fun b hb=>(f2 b hb).1,w0⟩
 rintro n s3 ⟨i,σ3,H3,I3,st3,fr3,w3⟩
 rcases turn i n σ3 H3 w3 with ⟨stop,qn⟩ | ⟨go,N,hN,step⟩
 ·refine wpAny_passesOwn hp (thn (T.done X rfl rfl rfl hc i pins s3 σ3 H3 X.xe I3 (stat fr3) st3 stop) fun r s4 ⟨hr,I4⟩=>?_)
  subst hr
  exact wpAny_execs_nil ⟨σ3,H3,I4,qn⟩
 ·refine wpAny_passesOwn hp (thn (T.item X rfl rfl rfl hc i pins s3 σ3 H3 X.xe I3 (stat fr3) st3 go) fun r s4 ⟨u,hr,h4⟩=>?_)
  subst hr
  refine wpAny_passesOwn hp (thn h4 fun _ s5 ⟨x,H5,I5,r5,y5,st5,fr5⟩=>?_)
  have I5':=I5.pinned (stat fr5) (T.obj _ _ st5)
  refine wpAny_passesOwn hp (thn (hg _ s5 σ3 H5 x u _ I5' r5 (step x H5 y5)) fun _ s6 ⟨σ6,H6,I6,q6⟩=>?_)
  refine wpAny_passesOwn hp (thn (hb _ s6 σ6 H6 _ I6 q6) fun f s7 q7=>?_)
  have again:∀ {σ7:St} {H7:Hp},Inv X (pins ++ yh fp s5.heap) σ7 H7 s7->N σ7 H7->∃ m,m<n/\∃ i σ' H',Inv X pins σ' H' s7/\tn i s7.heap/\(∀ b ∈ fp,H' b=none)/\W i m σ' H':=fun {σ7 H7} I7 n7=>by
   obtain ⟨m',hm,w7⟩:=hN σ7 H7 n7
   refine ⟨m',hm,i+1,σ7,H7,I7.unpinned,T.keep _ _ _ st5 fun b hb o e=>(I7.pin (b,o) (List.mem_append_right _ (List.mem_append_right _ (jG hb e)))).1,fun b hb=>?_,w7⟩
   obtain ⟨o,e,d⟩:=T.obj _ _ st5 b hb
   exact (I7.pin (b,o) (List.mem_append_right _ (List.mem_append_right _ (jG hb e)))).2.1
  cases f with
  | next=>obtain ⟨σ7,H7,I7,n7⟩:=q7;exact again I7 n7
  | cont=>obtain ⟨σ7,H7,I7,n7⟩:=q7;exact again I7 n7
  | brk=>obtain ⟨σ7,H7,I7,q7⟩:=q7;exact ⟨σ7,H7,I7.unpinned,q7⟩
  | ret v=>obtain ⟨x7,σ7,H7,I7,r7,q7⟩:=q7;exact ⟨x7,σ7,H7,I7.unpinned,r7,q7⟩
end
noncomputable abbrev R2:=V->V->Hp->VK->Prop
noncomputable def OpR (X:Cx)(f:Value->Value->Sem Value)(r:R2):Prop:=
 ∀ (pins:List (Addr × Obj)) (s:Shared) (σ:St) (H:Hp) (x y:V) (v u:Value) (Q:VK),Inv X pins σ H s->zx x v->zx y u->r x y H Q ->
  wpAny (model X.prog X.w) X.A (f v u) (EP X pins σ Q) X.xe s
noncomputable def UnR (X:Cx)(f:Value->Sem Value)(r:V->Hp->VK->Prop):Prop:=
 ∀ (pins:List (Addr × Obj)) (s:Shared) (σ:St) (H:Hp) (x:V) (v:Value) (Q:VK),Inv X pins σ H s->zx x v->r x H Q ->
  wpAny (model X.prog X.w) X.A (f v) (EP X pins σ Q) X.xe s
noncomputable def qW (X:Cx)(f:Value)(r:List V->Hp->VK->Prop):Prop:=
 ∀ (pins:List (Addr × Obj)) (s:Shared) (σ:St) (H:Hp) (xs:List V) (us:List Value) (Q:VK),Inv X pins σ H s->zw xs us->r xs H Q ->
  wpAny (model X.prog X.w) X.A (call f us) (EP X pins σ Q) X.xe s
noncomputable def tOp (r:R2)(ta tb:TE):TE:=fun σ H Q=>ta σ H fun x H1=>tb σ H1 fun y H2=>r x y H2 Q
noncomputable def tUn (r:V->Hp->VK->Prop)(ta:TE):TE:=fun σ H Q=>ta σ H fun x H1=>r x H1 Q
noncomputable def rI (C:Int->Int->Prop)(g:Int->Int->V):R2:=fun x y H Q=>∃ i j,x=.int i/\y=.int j/\C i j/\Q (g i j) H
noncomputable def rI0 (g:Int->Int->V):R2:=fun x y H Q=>∃ i j,x=.int i/\y=.int j/\Q (g i j) H
noncomputable def rU (g:Int->V):V->Hp->VK->Prop:=fun x H Q=>∃ i,x=.int i/\Q (g i) H
section
variable {X:Cx}{a b c:Expr}{ta tb tc:TE}{pos:Pos}
theorem BI (ha:PE X a ta)(hb:PE X b tb){pins:List (Addr × Obj)}{s:Shared}{σ:St}{H:Hp}{R:V->V->Hp->Prop}(I:Inv X pins σ H s)
  (h:ta σ H fun x H1=>tb σ H1 fun y H2=>R x y H2) {Q:Value->Shared->Prop} {f:Value->Value->Sem Value}
  (hf:∀ v u s2 x y H2,Inv X pins σ H2 s2->zx x v->zx y u->R x y H2->wpAny (model X.prog X.w) X.A (f v u) Q X.xe s2) :
  wpAny (model X.prog X.w) X.A (eval a X.env) (fun v s₁=>wpAny (model X.prog X.w) X.A (eval b X.env) (fun u s₂=>wpAny (model X.prog X.w) X.A (f v u) Q X.xe s₂) X.xe s₁) X.xe s:=by
 refine thn (ha pins s σ H _ I h) fun v s1 ⟨x,H1,I1,r1,q1⟩=>?_
 refine thn (hb pins s1 σ H1 _ I1 q1) fun u s2 ⟨y,H2,I2,r2,q2⟩=>?_
 exact hf v u s2 x y H2 I2 r1 r2 q2
theorem zz {op:Operator}{r:R2}(ho:OpR X (binaryOp op) r)(ha:PE X a ta)(hb:PE X b tb):PE X (.BinOp a op b pos) (tOp r ta tb):=by
 intro pins s σ H Q I h
 exact wpAny_BinOp (BI ha hb I h fun v u s2 x y H2 I2 rx ry q=>ho pins s2 σ H2 x y v u Q I2 rx ry q)
theorem yN {op:UnaryOp}{r:V->Hp->VK->Prop}(ho:UnR X (unaryOp op) r)(ha:PE X a ta):PE X (.UnaryOp op a pos) (tUn r ta):=by
 intro pins s σ H Q I h
 exact UnaryOp_ (thn (ha pins s σ H _ I h) fun v s1 ⟨x,H1,I1,r1,q1⟩=>ho pins s1 σ H1 x v Q I1 r1 q1)
theorem opI {f:Value->Value->Sem Value}{C:Int->Int->Prop}{g:Int->Int->Int}
  (rule:∀ (i j:Int) (t u:Tok) (s:Shared) (Q:Value->Shared->Prop) (E:Value->Shared->Prop),C i j->Q (.int (g i j) s.toks) { s with toks:=s.toks+1 }->wpAny (model X.prog X.w) X.A (f (.int i t) (.int j u)) Q E s) :
  OpR X f (rI C fun i j=>.int (g i j)):=by
 intro pins s σ H x y v u Q I rx ry h
 obtain ⟨i,j,rfl,rfl,hc,q⟩:=h
 obtain ⟨t,rfl⟩:=rx
 obtain ⟨t',rfl⟩:=ry
 exact rule i j t t' s _ _ hc ⟨.int (g i j),H,I.tok _,⟨_,rfl⟩,q⟩
theorem B3 {f:Value->Value->Sem Value}{g:Int->Int->Int}
  (rule:∀ (i j:Int) (t u:Tok) (s:Shared) (Q:Value->Shared->Prop) (E:Value->Shared->Prop),Q (.int (g i j) s.toks) { s with toks:=s.toks+1 }->wpAny (model X.prog X.w) X.A (f (.int i t) (.int j u)) Q E s) :
  OpR X f (rI0 fun i j=>.int (g i j)):=by
 intro pins s σ H x y v u Q I rx ry h
 obtain ⟨i,j,rfl,rfl,q⟩:=h
 obtain ⟨t,rfl⟩:=rx
 obtain ⟨t',rfl⟩:=ry
 exact rule i j t t' s _ _ ⟨.int (g i j),H,I.tok _,⟨_,rfl⟩,q⟩
theorem Dp {f:Value->Value->Sem Value}{g:Int->Int->Bool}
  (rule:∀ (i j:Int) (t u:Tok) (s:Shared) (Q:Value->Shared->Prop) (E:Value->Shared->Prop),Q (.bool (g i j)) s->wpAny (model X.prog X.w) X.A (f (.int i t) (.int j u)) Q E s) :
  OpR X f (rI0 fun i j=>.bl (g i j)):=by
 intro pins s σ H x y v u Q I rx ry h
 obtain ⟨i,j,rfl,rfl,q⟩:=h
 obtain ⟨t,rfl⟩:=rx
 obtain ⟨t',rfl⟩:=ry
 exact rule i j t t' s _ _ ⟨.bl (g i j),H,I,rfl,q⟩
noncomputable def BM (i j:Int):Prop:=0<j/\j<1073741824
noncomputable def D6 (i j:Int):Prop:=0<=j/\j<=1000000/\i.natAbs<2 ^ 64
noncomputable def XA (i j:Int):Prop:=(-(2 ^ 64)<i/\i<2 ^ 64) \/ (-(2 ^ 64)<j/\j<2 ^ 64)
theorem XA.ok {i j:Int}(h:XA i j):IntMulOk i j:=by
 rcases h with ⟨h1,h2⟩ | ⟨h1,h2⟩
 ·exact .of_left (intBits_le_64 h1 h2)
 ·exact .of_right (intBits_le_64 h1 h2)
theorem qI:OpR X (binaryOp .Add) (rI0 fun i j=>.int (i+j)):=B3 fun _ _ _ _ _ _ _ q=>add_int q
theorem vw:OpR X (binaryOp .Sub) (rI0 fun i j=>.int (i - j)):=B3 fun _ _ _ _ _ _ _ q=>sub_int q
theorem j7:OpR X (binaryOp .Mult) (rI XA fun i j=>.int (i * j)):=opI fun _ _ _ _ _ _ _ hc q=>mul_int q hc.ok
theorem Ql:OpR X (binaryOp .FloorDiv) (rI BM fun i j=>.int (i / j)):=opI fun i j _ _ _ _ _ hc q=>by
 have h1:(0:Int)<j:=hc.1
 have h2:j<1073741824:=hc.2
 exact floordiv_int (by omega) (by rw [Int.fdiv_eq_ediv_of_nonneg i (by omega)];exact q) (.inl (PyProof.noPylong_small (by omega)))
theorem ju:OpR X (binaryOp .Mod) (rI (fun _ j=>0<j) fun i j=>.int (i % j)):=opI fun i j _ _ _ _ _ hc q=>by
 have h1:(0:Int)<j:=hc
 exact mod_int' (by omega) (by rw [Int.fmod_eq_emod_of_nonneg i (by omega)];exact q)
theorem A6:OpR X (binaryOp .Pow) (rI D6 fun i j=>.int (i ^ j.toNat)):=opI fun _ _ _ _ _ _ _ hc q=>pow_int_small hc.1 hc.2.1 hc.2.2 q
theorem unI {f:Value->Sem Value}{g:Int->Int}
  (rule:∀ (i:Int) (t:Tok) (s:Shared) (Q:Value->Shared->Prop) (E:Value->Shared->Prop),Q (.int (g i) s.toks) { s with toks:=s.toks+1 }->wpAny (model X.prog X.w) X.A (f (.int i t)) Q E s) :
  UnR X f (rU fun i=>.int (g i)):=by
 intro pins s σ H x v Q I rx h
 obtain ⟨i,rfl,q⟩:=h
 obtain ⟨t,rfl⟩:=rx
 exact rule i t s _ _ ⟨.int (g i),H,I.tok _,⟨_,rfl⟩,q⟩
theorem kY:UnR X (unaryOp .USub) (rU fun i=>.int (-i)):=unI fun _ _ _ _ _ q=>neg_int q
end
noncomputable def DM:V->V->Bool
 | .non,.non=>true | .non,.int _=>true | .int _,.non=>true | .non,.bl _=>true | .bl _,.non=>true | .non,.str _=>true | .str _,.non=>true
 | .int _,.int _=>true | .bl _,.bl _=>true | .str _,.str _=>true | .byt _,.byt _=>true
 | .int _,.str _=>true | .str _,.int _=>true | .bl _,.str _=>true | .str _,.bl _=>true
 | _,_=>false
noncomputable def rEq:R2:=fun x y H Q=>DM x y=true/\Q (.bl (decide (x=y))) H
theorem Wl {i j:Int}:decide (V.int i=V.int j)=(i == j):=by
 rw [Bool.eq_iff_iff]
 simp
theorem A2 {i j:Bool}:decide (V.bl i=V.bl j)=(i == j):=by
 rw [Bool.eq_iff_iff]
 simp
theorem Wq {i j:Str}:decide (V.str i=V.str j)=(i == j):=by
 rw [Bool.eq_iff_iff]
 simp
theorem Wc {i j:Array UInt8}:decide (V.byt i=V.byt j)=(i.toList == j.toList):=by
 rw [Bool.eq_iff_iff]
 cases i
 cases j
 simp
section
variable {X:Cx}{a b c:Expr}{ta tb tc:TE}{pos:Pos}
theorem qx {pins:List (Addr × Obj)}{σ:St}{H:Hp}{s:Shared}{Q:VK}{k k':Bool}(I:Inv X pins σ H s)(q:Q (.bl k) H)(e:k=k'):EP X pins σ Q (.bool k') s:=by
 subst e
 exact ⟨.bl k,H,I,rfl,q⟩
theorem WG:OpR X (compareOp .Eq) rEq:=by
 intro pins s σ H x y v u Q I rx ry h
 obtain ⟨hs,q⟩:=h
 cases x with
 | non=>
  cases rx
  cases y with
  | non=>cases ry;exact PySem.EqNone.eq_none_none (qx I q (by simp))
  | bl j=>cases ry;exact PySem.EqNone.eq_none_bool (qx I q (by simp))
  | int j=>obtain ⟨t',rfl⟩:=ry;exact PySem.EqNone.eq_none_int (qx I q (by simp))
  | str j=>obtain ⟨t',rfl⟩:=ry;exact PySem.EqNone.eq_none_str (qx I q (by simp))
  | _=>exact absurd (show false=true from hs) Bool.false_ne_true
 | bl i=>
  cases rx
  cases y with
  | non=>cases ry;exact PySem.EqNone.eq_bool_none (qx I q (by simp))
  | bl j=>cases ry;exact eq_bool (qx I q A2)
  | str j=>obtain ⟨t',rfl⟩:=ry;exact PySem.EqMixed.eq_bool_str (qx I q (by simp))
  | _=>exact absurd (show false=true from hs) Bool.false_ne_true
 | int i=>
  obtain ⟨t,rfl⟩:=rx
  cases y with
  | non=>cases ry;exact PySem.EqNone.eq_int_none (qx I q (by simp))
  | int j=>obtain ⟨t',rfl⟩:=ry;exact eq_int (qx I q Wl)
  | str j=>obtain ⟨t',rfl⟩:=ry;exact PySem.EqMixed.eq_int_str (qx I q (by simp))
  | _=>exact absurd (show false=true from hs) Bool.false_ne_true
 | str i=>
  obtain ⟨t,rfl⟩:=rx
  cases y with
  | non=>cases ry;exact PySem.EqNone.eq_str_none (qx I q (by simp))
  | bl j=>cases ry;exact PySem.EqMixed.eq_str_bool (qx I q (by simp))
  | int j=>obtain ⟨t',rfl⟩:=ry;exact PySem.EqMixed.eq_str_int (qx I q (by simp))
  | str j=>obtain ⟨t',rfl⟩:=ry;exact eq_str (qx I q Wq)
  | _=>exact absurd (show false=true from hs) Bool.false_ne_true
 | byt i=>
  obtain ⟨t,rfl⟩:=rx
  cases y with
  | byt j=>obtain ⟨t',rfl⟩:=ry;exact PySem.W.eq_bytes (qx I q Wc)
  | _=>exact absurd (show false=true from hs) Bool.false_ne_true
 | _=>cases y <;> exact absurd (show false=true from hs) Bool.false_ne_true
theorem X3:OpR X (compareOp .Gt) (rI0 fun i j=>.bl (decide (j<i))):=Dp fun _ _ _ _ _ _ _ q=>gt_int q
theorem DI:OpR X (compareOp .GtE) (rI0 fun i j=>.bl (decide (j<=i))):=Dp fun _ _ _ _ _ _ _ q=>ge_int q
theorem kG:OpR X (compareOp .Is) (fun x y H Q=>y=.non/\Q (.bl (decide (x=.non))) H):=by
 intro pins s σ H x y v u Q I rx ry h
 obtain ⟨rfl,q⟩:=h
 cases ry
 refine is_none_gen (qx I q ?_)
 cases x <;> first
  | (cases rx;rfl)
  | (obtain ⟨t,rfl⟩:=rx;rfl)
theorem jo:OpR X (compareOp .IsNot) (fun x y H Q=>y=.non/\Q (.bl (!decide (x=.non))) H):=by
 intro pins s σ H x y v u Q I rx ry h
 obtain ⟨rfl,q⟩:=h
 cases ry
 refine isnot_none_gen (qx I q ?_)
 cases x <;> first
  | (cases rx;rfl)
  | (obtain ⟨t,rfl⟩:=rx;rfl)
theorem zj (b:Expr){op:CmpOp}(h:op ≠ .In:=by decide)(h2:op ≠ .NotIn:=by decide):behindInMarks op b=false:=by
 have e1:(op == CmpOp.In)=false:=by cases op <;> first | rfl | exact absurd rfl h
 have e2:(op == CmpOp.NotIn)=false:=by cases op <;> first | rfl | exact absurd rfl h2
 cases b <;> simp [behindInMarks,e1,e2]
theorem qi {op:CmpOp}{r:R2}(ho:OpR X (compareOp op) r)(ha:PE X a ta)(hb:PE X b tb)(hm:behindInMarks op b=false):PE X (.Compare a [op] [b] pos) (tOp r ta tb):=by
 intro pins s σ H Q I h
 exact wpAny_Compare1 (BI ha hb I h fun v u s2 x y H2 I2 rx ry q=>ho pins s2 σ H2 x y v u Q I2 rx ry q) hm
noncomputable def X8 (t:TE):TT:=fun σ H Q=>t σ H fun x H'=>∃ k,x=.bl k/\Q k H'
theorem zl {op:CmpOp}{r:R2}(ho:OpR X (compareOp op) r)(ha:PE X a ta)(hb:PE X b tb)(hm:behindInMarks op b=false):PT X (.Compare a [op] [b] pos) (X8 (tOp r ta tb)):=by
 intro pins s σ H Q I h
 refine wpAny_isTrue_Compare1 (thn (ha pins s σ H _ I h) fun v s1 ⟨x,H1,I1,r1,q1⟩=>thn (hb pins s1 σ H1 _ I1 q1) fun u s2 ⟨y,H2,I2,r2,q2⟩=>
  thn (ho pins s2 σ H2 x y v u _ I2 r1 r2 q2) fun c s3 ⟨z,H3,I3,r3,k,e,q3⟩=>?_) hm
 subst e
 cases r3
 exact wpAny_truthy_bool ⟨H3,I3,q3⟩
theorem vH:(sizeLine:Nat)<2 ^ 63:=by rw [sizeLine_eq];decide
theorem jO {x:V}{us:List Value}(r:zw [x] us):∃ u,us=[u]/\zx x u:=by
 cases r with
 | cons r1 r2=>cases r2;exact ⟨_,rfl,r1⟩
theorem wn {x y:V}{us:List Value}(r:zw [x,y] us):∃ u w',us=[u,w']/\zx x u/\zx y w':=by
 cases r with
 | cons r1 r2=>
  cases r2 with
  | cons r3 r4=>cases r4;exact ⟨_,_,rfl,r1,r3⟩
theorem v5:qW X (.builtin "abs") (fun xs H Q=>∃ i,xs=[.int i]/\Q (.int (if i<0 then -i else i)) H):=by
 intro pins s σ H xs us Q I r h
 obtain ⟨i,rfl,q⟩:=h
 obtain ⟨u,rfl,t,rfl⟩:=jO r
 exact call_abs_int fun u tk=>⟨.int (if i<0 then -i else i),H,I.tok _,⟨_,rfl⟩,q⟩
theorem yW (hc:X.calm=true):qW X (.builtin "max") (fun xs H Q=>∃ i j,xs=[.int i,.int j]/\Q (.int (if j > i then j else i)) H):=by
 intro pins s σ H xs us Q I r h
 obtain ⟨i,j,rfl,q⟩:=h
 obtain ⟨u,w',rfl,⟨t,rfl⟩,⟨t',rfl⟩⟩:=wn r
 refine max_two_ints (I.ok.hd hc) fun h' tk k=>⟨_,H,I.kept k,?_,q⟩
 by_cases hj:j > i
 ·rw [if_pos hj,if_pos hj];exact ⟨_,rfl⟩
 ·rw [if_neg hj,if_neg hj];exact ⟨_,rfl⟩
theorem Jf:qW X (.type "int") (fun xs H Q=>(∃ i,xs=[.int i]/\Q (.int i) H) \/ ∃ k,xs=[.bl k]/\Q (.int (if k then 1 else 0)) H):=by
 intro pins s σ H xs us Q I r h
 rcases h with ⟨i,rfl,q⟩ | ⟨k,rfl,q⟩
 ·obtain ⟨u,rfl,t,rfl⟩:=jO r
  exact call_int_int ⟨.int i,H,I,⟨_,rfl⟩,q⟩
 ·obtain ⟨u,rfl,r1⟩:=jO r
  cases r1
  exact call_int_bool ⟨.int (if k then 1 else 0),H,I.tok _,⟨_,rfl⟩,q⟩
theorem wC:qW X (.builtin "divmod") (fun xs H Q=>∃ i j,xs=[.int i,.int j]/\BM i j/\∀ p,H p=none->Q (.ref p) (upd H p (.tup [.int (i / j),.int (i % j)]))):=by
 intro pins s σ H xs us Q I r h
 obtain ⟨i,j,rfl,⟨h1,h2⟩,q⟩:=h
 obtain ⟨u,w',rfl,⟨t,rfl⟩,⟨t',rfl⟩⟩:=wn r
 refine divmod_int (by omega) ?_ (.inl (PyProof.noPylong_small (by omega)))
 rw [Int.fdiv_eq_ediv_of_nonneg i (by omega),Int.fmod_eq_emod_of_nonneg i (by omega)]
 have hn:H s.heap.objs.size=none:=I.hok.fresh (Nat.le_refl _)
 refine ⟨.ref s.heap.objs.size,_,?_,rfl,q _ hn⟩
 refine I.laid (fun b o e=>Heap.get?_push_of_some _ e) (Nat.le_refl _) ⟨by simp only [List.length_cons,List.length_nil];rw [sizeLine_eq];decide,[.int (i / j) s.toks,.int (i % j) (s.toks+1)],.cons ⟨_,rfl⟩ (.cons ⟨_,rfl⟩ .nil),?_⟩
 exact ⟨_,Heap.get?_push_size s.heap rfl,rfl,⟨0,rfl⟩,rfl⟩
end
structure KM (h:Heap)(x dx C:Addr)(mA:Str->Option Value):Prop where
 obj:h.get? x=some (PySem.W.instObj C dx)
 ns:h.Ns1 dx mA
 ne:dx ≠ x
theorem JD {h:Heap}{dx:Addr}{mA:Str->Option Value}(n:h.Ns1 dx mA):∃ od,h.get? dx=some od/\∀ name,PySem.W.lookIn name od=some (mA name):=by
 obtain ⟨o,es,ep,ho,hd,hk,_,hm⟩:=n
 refine ⟨o,ho,fun name=>?_⟩
 have e:=hm name
 unfold nsFind findBy at e
 rw [<- Array.find?_toList] at e
 unfold PySem.W.lookIn
 rw [hd]
 dsimp only
 split
 ·rename_i y q
  rw [q] at e
  exact congrArg some e
 ·rename_i q
  rw [q] at e
  have a:es.toList.any (·.refKey)=false:=by
   rw [List.any_eq_false]
   intro y hy
   obtain ⟨z,t,hkey⟩:=hk y (Array.mem_toList_iff.mp hy)
   simp [DictEntry.refKey,hkey]
  have a':¬ es.toList.any (·.refKey)=true:=by rw [a];exact Bool.false_ne_true
  rw [if_neg a']
  exact congrArg some e
theorem KM.look {h:Heap}{x dx C:Addr}{mA:Str->Option Value}(I:KM h x dx C mA):∃ od,PySem.W.InstAt h x (PySem.W.instObj C dx) C (some od)/\∀ name,PySem.W.lookIn name od=some (mA name):=
 let ⟨od,ho,hl⟩:=JD I.ns
 ⟨od,⟨I.obj,rfl,rfl,ho⟩,hl⟩
section
variable {prog:Program}{w:World}{A:Around}{E:Value->Shared->Prop}{s:Shared}{K:PySem.W.Frag}{x dx C f:Addr}{mA:Str->Option Value}{name:Str}{v:Value}
theorem Qp {ns:List Str}{Q:Unit->Shared->Prop}(X:K.In s.heap)(I:KM s.heap x dx C mA)
  (hs:PySem.W.findIn K (.ref C) "__setattr__"=some (some (.builtin "object.__setattr__"))) (hp:PySem.W.plainOver K C=true) (ht:PySem.W.takerIn K C name=some none) (hh:PySem.W.hasDictIn K C=true)
  (hw:PySem.Within mA ns) (hsz:ns.length<=sizeLine)
  (h:∀ h',KM h' x dx C (fun y=>if y=name then some v else mA y)->Heap.SameBut dx s.heap h'->Q () { s with heap:=h',toks:=s.toks+2 }) :
  wpAny (model prog w) A (setAttr (.ref x) name v) Q E s:=by
 obtain ⟨od,J,hl⟩:=I.look
 refine PySem.W.set_plain X J hs (PySem.W.osa_open (s:={ s with toks:=s.toks+1 }) (r:=none) X J hp ht fun b=>?_)
 obtain ⟨cd,hc,hd'⟩:=PySem.W.any_some hh
 have hx:s.heap.get? x=some ⟨.ref C,some dx,.plain,#[]⟩:=I.obj
 refine wpAny_bind (wpAny_pure (wpAny_bind (wpAny_bind (wpAny_loadPart hx (wpAny_bind (PySem.W.Looks.here (s:={ s with toks:=s.toks+1 }) (PySem.W.looks_clsIn X hc) ?_))))))
 rw [hd']
 refine wpAny_pure (a:=some dx) (wpAny_bind (wpAny_pure (wpAny_bind ?_)))
 refine wpAny_nsSet1 (s:={ s with toks:=s.toks+1 }) I.ns fun h' hn2 hs2=>?_
 obtain ⟨oD,esD,epD,hoD,hdD,hcD⟩:=hn2.count (PySem.Within.cons name v hw)
 refine wpAny_bind (wpAny_lookBehind hoD (by rw [hdD];exact pastItsLine_dict (Nat.le_trans hcD (by rw [List.length_cons];omega))) ?_)
 exact wpAny_pure (h _ ⟨(hs2.2 _ (Ne.symm I.ne)).trans I.obj,hn2,I.ne⟩ hs2)
end
theorem xU.some_of {v:V}{o:Option Value}(r:xU (some v) o):∃ u,o=some u/\zx v u:=by
 cases o with
 | none=>exact (show False from r).elim
 | some u=>exact ⟨u,rfl,r⟩
section
variable {P:Program}{w:World}{H H':Hp}{h h':Heap}{a C dx:Addr}{fs fs':List (Str × V)}
theorem Wu (hok:HOk P w H h)(e:H a=some (.ins C dx fs)):∃ mA,KM h a dx C mA/\(∀ f,xU (fs.lookup f) (mA f))/\PySem.Within mA (fs.map (·.1))/\fs.length<=1000/\H dx=some (.own a):=by
 obtain ⟨d,z,ne,ob,mA,n,r,q⟩:=(show zL P w H h a (.ins C dx fs) from hok a _ e)
 exact ⟨mA,⟨ob,n,ne⟩,r,q,z,d⟩
end
structure Cls (K:PySem.W.Frag)(C:Addr):Prop where
 pg:PySem.W.plainGet K C Str.empty=true
 hd:PySem.W.hasDictIn K C=true
 po:PySem.W.plainOver K C=true
 sa:PySem.W.findIn K (.ref C) "__setattr__"=some (some (.builtin "object.__setattr__"))
theorem Cls.get {K:PySem.W.Frag}{C:Addr}(c:Cls K C)(f:Str):PySem.W.plainGet K C f=true:=c.pg
structure Con (K:PySem.W.Frag)(C:Addr)(f:Str)(v:V)(u:Value):Prop where
 at_:PySem.W.findIn K (.ref C) f=some (some u)
 rel:zx v u
 get:PySem.W.specialIn K u "__get__"=some none
 cp:PySem.W.copiedNames.contains f=false
structure D8 (K:PySem.W.Frag)(C:Addr)(m:Str)(f:Addr):Prop where
 at_:PySem.W.findIn K (.ref C) m=some (some (.ref f))
 fn:PySem.W.isFn K (.ref f)=true
 kp:PySem.W.keepIn K (.ref f)=true
section
variable {X:Cx}{pins:List (Addr × Obj)}{σ:St}{H:Hp}{s:Shared}{a C dx:Addr}{fs:List (Str × V)}{f:Str}{v:V}{A:Around}{E:Value->Shared->Prop}
end
section
variable {X:Cx}{o e value:Expr}{f:Str}{pos pos' tpos:Pos}{ta tv:TE}
end
section
variable {X:Cx}{pins:List (Addr × Obj)}{σ:St}{H:Hp}{s:Shared}{A:Around}{E:Value->Shared->Prop}{Q:Value->Shared->Prop}{c:Value}{b:Bool}
inductive j0 (K:PySem.W.Frag) (H:Hp):V->Value->Prop where
  | non:j0 K H .non (.type "NoneType")
  | bl (x:Bool):j0 K H (.bl x) (.type "bool")
  | int (i:Int):j0 K H (.int i) (.type "int")
  | str (x:Str):j0 K H (.str x) (.type "str")
  | flt (x:UInt64):j0 K H (.flt x) (.type "float")
  | lst {a:Addr} {xs:List V} (e:H a=some (.lst xs)):j0 K H (.ref a) (.type "list")
  | frz {a:Addr} {o:Obj} {xs:List V} (e:H a=some (.frz o (.lst xs))):j0 K H (.ref a) (.type "list")
  | tup {a:Addr} {xs:List V} (e:H a=some (.tup xs)):j0 K H (.ref a) (.type "tuple")
  | dK {a:Addr} {kvs:List (Key × V)} (e:H a=some (.dK kvs)):j0 K H (.ref a) (.type "dict")
  | dT {a:Addr} {kvs:List (List Key × V)} (e:H a=some (.dT kvs)):j0 K H (.ref a) (.type "dict")
  | ins {a C dx : Addr} {fs : List (Str × V)} (e : H a = some (.ins C dx fs)) (cl : Cls K C) (ha : PySem.W.findIn K (.ref C) "__class__" = some (some (.builtin "object.__class__")))
      (hn:PySem.W.specialIn K (.builtin "object.__class__") "__get__"=some (some (.builtin "getset_descriptor.__get__"))) (htk:PySem.W.takesIn K (.builtin "object.__class__")=some true)
      (hm:PySem.W.mroIn K C (.type "object")=some true):j0 K H (.ref a) (.ref C)
theorem JY {x:V}{u t:Value}(I:Inv X pins σ H s)(rx:zx x u)(ty:j0 X.K H x t)(e:PySem.W.kitOne X.K t c=some b)(h:∀ tk,Q (.bool b) { s with toks:=tk }) :
  wpAny (model X.prog X.w) A (call (.builtin "isinstance") [u,c]) Q E s:=by
 cases ty with
 | non=>cases (show u=Value.none from rx);exact PySem.W.kia_one PySem.W.kitx_none I.kIn True.intro e (fun z=>nomatch z) h
 | bl y=>cases (show u=Value.bool y from rx);exact PySem.W.kia_one PySem.W.kitx_bool I.kIn True.intro e (fun z=>nomatch z) h
 | int i=>obtain ⟨t,q⟩:=(show ∃ t,u=Value.int i t from rx);cases q;exact PySem.W.kia_one PySem.W.kitx_int I.kIn True.intro e (fun z=>nomatch z) h
 | str y=>obtain ⟨t,q⟩:=(show ∃ t,u=Value.str y t from rx);cases q;exact PySem.W.kia_one PySem.W.kitx_str I.kIn True.intro e (fun z=>nomatch z) h
 | flt y=>obtain ⟨t,q⟩:=(show ∃ t,u=Value.float y t from rx);cases q;exact PySem.W.kia_one PySem.W.kitx_float I.kIn True.intro e (fun z=>nomatch z) h
 | @lst a xs ea=>
  cases (show u=Value.ref a from rx)
  obtain ⟨_,_,n,_,h1⟩:=(show zL X.prog X.w H s.heap a (.lst xs) from I.hok a _ ea)
  exact PySem.W.kia_one PySem.W.kitx_list I.kIn ⟨_,h1,rfl⟩ e (fun z=>nomatch z) h
 | @frz a ob xs ea=>
  cases (show u=Value.ref a from rx)
  obtain ⟨_,_,_,n,_,h1⟩:=(show zL X.prog X.w H s.heap a (.frz ob (.lst xs)) from I.hok a _ ea)
  exact PySem.W.kia_one PySem.W.kitx_list I.kIn ⟨_,h1,rfl⟩ e (fun z=>nomatch z) h
 | @tup a xs ea=>
  cases (show u=Value.ref a from rx)
  obtain ⟨_,_,_,p⟩:=(show zL X.prog X.w H s.heap a (.tup xs) from I.hok a _ ea)
  obtain ⟨o,h1,h2,_⟩:=p
  exact PySem.W.kia_one PySem.W.kitx_tuple I.kIn ⟨o,h1,h2⟩ e (fun z=>nomatch z) h
 | @dK a kvs ea=>
  cases (show u=Value.ref a from rx)
  obtain ⟨_,_,vs,_,p⟩:=(show zL X.prog X.w H s.heap a (.dK kvs) from I.hok a _ ea)
  obtain ⟨o,es,ep,h1,h2,_⟩:=p
  exact PySem.W.kia_one PySem.W.kitx_dict I.kIn ⟨o,h1,h2.1⟩ e (fun z=>nomatch z) h
 | @dT a kvs ea=>
  cases (show u=Value.ref a from rx)
  obtain ⟨_,_,xs,_,o,es,ep,h1,h2,_⟩:=(show zL X.prog X.w H s.heap a (.dT kvs) from I.hok a _ ea)
  exact PySem.W.kia_one PySem.W.kitx_dict I.kIn ⟨o,h1,h2.1⟩ e (fun z=>nomatch z) h
 | @ins a C dx fs ea cl ha hn htk hm=>
  cases (show u=Value.ref a from rx)
  obtain ⟨mA,O,_⟩:=Wu I.hok ea
  obtain ⟨od,J,_⟩:=O.look
  exact PySem.W.kia_one (PySem.W.kitx_own (cl.get _) cl.hd ha hn htk hm) I.kIn J e (fun z=>nomatch z) h
end
structure jw (k:Nat)(A:Around):Prop where
 hd:A.handled=none
 gd:A.guards=some []
 dp:A.depth+3 * k+5<recursionLimit
 un:A.units+16 * k+200<cLine
theorem jw.mono {j k:Nat}{A:Around}(r:jw k A)(h:j<=k):jw j A:=⟨r.hd,r.gd,by have:=r.dp;omega,by have:=r.un;omega⟩
theorem jw.deeper {k:Nat}{A:Around}(r:jw (k+1) A)(env:Env):jw k (A.deeper env):=
 ⟨r.hd,r.gd,by have:=r.dp;show A.depth+1+3 * k+5<_;omega,by have:=r.un;show A.units+3+16 * k+200<_;omega⟩
theorem jw.depth {k:Nat}{A:Around}(r:jw k A):A.depth<recursionLimit:=by have:=r.dp;omega
theorem jw.units {k:Nat}{A:Around}(r:jw k A):A.units+64<cLine:=by have:=r.un;omega
noncomputable def AQ:TA:=fun _ H Q=>Q [] H
noncomputable def YD (ta:TE)(tr:TA):TA:=fun σ H Q=>ta σ H fun x H1=>tr σ H1 fun xs H2=>Q (x :: xs) H2
section
variable {X:Cx}{e:Expr}{es:List Expr}{te:TE}{t:TA}{pos:Pos}
theorem zb:PA X [] AQ:=fun _ _ _ _ H Q I h=>Calls.spliced_nil ⟨[],H,I,.nil,h⟩
theorem za (ha:PE X e te)(hr:PA X es t)(hs:starEach (e :: es) X.env=(false,eval e X.env) :: starEach es X.env:=by rfl):PA X (e :: es) (YD te t):=by
 intro pos pins s σ H Q I h
 rw [hs]
 show wpAny _ _ (spliced ((false,eval e X.env) :: backTo pos (starEach es X.env))) _ _ s
 refine Calls.spliced_cons (thn (ha pins s σ H _ I h) fun u s1 ⟨x,H1,I1,r1,q1⟩=>?_)
 exact thn (hr pos pins s1 σ H1 _ I1 q1) fun us s2 ⟨xs,H2,I2,r2,q2⟩=>⟨x :: xs,H2,I2,.cons r1 r2,q2⟩
noncomputable def YY (t:TA):TE:=fun σ H Q=>t σ H fun xs H1=>xs.length<=sizeLine/\∀ p,H1 p=none->Q (.ref p) (upd H1 p (.tup xs))
noncomputable def Ad (t:TA):TE:=fun σ H Q=>t σ H fun xs H1=>xs.length<=sizeLine/\∀ p,H1 p=none->Q (.ref p) (upd H1 p (.lst xs))
theorem zM {x1}(h:PA X es t):PE X (.Tuple es x1 pos) (YY t):=by
 intro pins s σ H Q I hq
 refine wpAny_Tuple_spliced (thn (h pos pins s σ H _ I hq) fun us s1 ⟨xs,H1,I1,r,z,q⟩=>⟨by rw [<- r.length];exact z,?_⟩)
 have hf:H1 s1.heap.objs.size=none:=I1.hok.fresh (Nat.le_refl _)
 refine ⟨.ref s1.heap.objs.size,upd H1 s1.heap.objs.size (.tup xs),I1.laid (t':=s1.toks) (fun b u e=>Heap.get?_push_of_some _ e) (Nat.le_refl _) ?_,rfl,q _ hf⟩
 exact ⟨z,us,r,⟨_,Heap.get?_push_size _ rfl,rfl,⟨_,rfl⟩,rfl⟩⟩
theorem zW (h:PA X es t):PE X (.List es pos) (Ad t):=by
 intro pins s σ H Q I hq
 refine wpAny_List_spliced (thn (h pos pins s σ H _ I hq) fun us s1 ⟨xs,H1,I1,r,z,q⟩=>⟨by rw [<- r.length];exact z,?_⟩)
 have hf:H1 s1.heap.objs.size=none:=I1.hok.fresh (Nat.le_refl _)
 refine ⟨.ref s1.heap.objs.size,upd H1 s1.heap.objs.size (.lst xs),I1.laid (t':=s1.toks) (fun b u e=>Heap.get?_push_of_some _ e) (Nat.le_refl _) ?_,rfl,q _ hf⟩
 exact ⟨z,us,0,r,Heap.get?_push_size _ rfl⟩
end
noncomputable abbrev Sp:=List V->Hp->VK->XK->Prop
noncomputable abbrev CXT:=List Env->Hp->Shared->XK->Value->Shared->Prop
structure Y7 (P:Program)(w:World)(K:PySem.W.Frag)(mg:Str->Option Value)(base:Heap)(A:Around)(outer:List Env)(s:Shared)(H:Hp):Prop where
 frames:A.frames=some outer
 mod:Mod K mg base
 bs:∀ b o,base.get? b=some o->s.heap.get? b=some o/\H b=none
 bsz:base.objs.size<=s.heap.objs.size
 funs:s.heap.FunFrames base outer
 frf:∀ b ∈ frs outer,H b=none
 hok:HOk P w H s.heap
 bare:AllBare s.gens
noncomputable def CE (outer:List Env)(P:Program)(w:World)(H:Hp)(s:Shared)(Q:VK)(u:Value)(s':Shared):Prop:=
 ∃ v H',s'.os=s.os/\AllBare s'.gens/\Un (frs outer) [] H H' s.heap s'.heap/\HOk P w H' s'.heap/\zx v u/\Q v H'
noncomputable def CR (CX:CXT)(outer:List Env)(P:Program)(w:World)(H:Hp)(s:Shared)(Q:VK)(E:XK)(r:Result)(s':Shared):Prop:=
 match r with
 | .ok (.ret u)=>CE outer P w H s Q u s'
 | .ok _=>False
 | .error e=>CX outer H s E e s'
structure kf (P:Program)(w:World)(K:PySem.W.Frag)(mg:Str->Option Value)(base:Heap)(CX:CXT)(k:Nat)(f:Addr)(fd:FuncData)(ps:List Str)(sp:Sp):Prop where
 len:∀ vs H Q E,sp vs H Q E->vs.length=ps.length
 run:∀ (A:Around) (outer:List Env) (s:Shared) (H:Hp) (args:Args) (us:List Value) (vs:List V) (Q:VK) (E:XK),jw k A->Y7 P w K mg base A outer s H->BindsTo s fd args (ps.zip us)->zw vs us->sp vs H Q E ->
  codeAny (model P w) A (.call (.ref f) args) (CR CX outer P w H s Q E) s
theorem kf.mono {P:Program}{w:World}{K:PySem.W.Frag}{mg:Str->Option Value}{base:Heap}{CX:CXT}{j k:Nat}{f:Addr}{fd:FuncData}{ps:List Str}{sp:Sp}(F:kf P w K mg base CX j f fd ps sp)(h:j<=k) :
  kf P w K mg base CX k f fd ps sp:=⟨F.len,fun A outer s H args us vs Q E hr=>F.run A outer s H args us vs Q E (hr.mono h)⟩
theorem kf.imp {P:Program}{w:World}{K:PySem.W.Frag}{mg:Str->Option Value}{base:Heap}{CX:CXT}{k:Nat}{f:Addr}{fd:FuncData}{ps:List Str}{sp sp':Sp}(F:kf P w K mg base CX k f fd ps sp)
  (h:∀ vs H Q E,sp' vs H Q E->sp vs H Q E):kf P w K mg base CX k f fd ps sp':=
 ⟨fun vs H Q E q=>F.len vs H Q E (h _ _ _ _ q),fun A outer s H args us vs Q E hr he hb hv hs=>F.run A outer s H args us vs Q E hr he hb hv (h _ _ _ _ hs)⟩
section
variable {X:Cx}{pins:List (Addr × Obj)}{σ:St}{H:Hp}{s s':Shared}
theorem Inv.env0 (I:Inv X pins σ H s):Y7 X.prog X.w X.K X.mg X.base X.A X.stack s H:=
 ⟨I.ok.frames,I.ok.mod,I.bs,Nat.le_trans I.ok.bsz I.sz,I.stack,I.stkFree,I.hok,I.bare⟩
theorem Inv.after {Q:VK}{u:Value}(I:Inv X pins σ H s)(h:CE X.stack X.prog X.w H s Q u s'):EP X pins σ Q u s':=by
 obtain ⟨v,H',os,bare,un,hok,r,q⟩:=h
 obtain ⟨hh,g,d,t,os'⟩:=s'
 obtain rfl:os'=s.os:=os
 exact ⟨v,H',I.call (h':=hh) (g':=g) (d':=d) (t':=t) (ch:=[]) un hok bare (fun b z=>absurd z (by simp)),r,q⟩
end
noncomputable def Qn (sp:Sp)(dvs:List V)(E:XK)(t:TA):TE:=fun σ H Q=>t σ H fun vs H1=>sp (vs ++ dvs) H1 Q E
noncomputable def yP (K:PySem.W.Frag)(fd:FuncData)(ps:List Str)(ds:List Value):Prop:=
 ∀ (s:Shared) (us:List Value),K.In s.heap->(us ++ ds).length=ps.length->BindsTo s fd ⟨us,[]⟩ (ps.zip (us ++ ds))
theorem yP.all {K:PySem.W.Frag}{fd:FuncData}{ps:List Str}(h:∀ us:List Value,us.length=ps.length->bindArgs fd ⟨us,[]⟩=pure (ps.zip us)):yP K fd ps []:=fun s us _ hl=>by
 rw [List.append_nil] at hl ⊢
 exact .of_eq (h us hl)
noncomputable def ZM (CX:CXT)(X:Cx)(E:XK):Prop:=∀ (pins:List (Addr × Obj)) (σ:St) (H:Hp) (s:Shared) (e:Value) (s':Shared),Inv X pins σ H s->CX X.stack H s E e s'->X.xe e s'
section
variable {X:Cx}{CX:CXT}{k:Nat}{f C:Addr}{fd:FuncData}{ps:List Str}{sp:Sp}{dvs:List V}{ds:List Value}{E:XK}{x m:Str}{p pos apos:Pos}{e o:Expr}{es:List Expr}{ta:TE}{t:TA}
theorem Aq {pins:List (Addr × Obj)}{σ:St}{H:Hp}{s:Shared}{Q:VK}{us:List Value}{vs:List V}(F:kf X.prog X.w X.K X.mg X.base CX k f fd ps sp)(hr:jw k X.A)(hb:yP X.K fd ps ds)(hd:zw dvs ds)(hx:ZM CX X E)
  (I:Inv X pins σ H s) (r:zw vs us) (h:sp (vs ++ dvs) H Q E):wpAny (model X.prog X.w) X.A (call (.ref f) us) (EP X pins σ Q) X.xe s:=by
 have r2:zw (vs ++ dvs) (us ++ ds):=r.append hd
 have hl:(us ++ ds).length=ps.length:=by rw [<- r2.length];exact F.len _ _ _ _ h
 refine wpAny_call (codeAny_mono (F.run X.A X.stack s H ⟨us,[]⟩ (us ++ ds) (vs ++ dvs) Q E hr I.env0 (hb s us I.kIn hl) r2 h) fun r s' hq=>?_)
 cases r with
 | error e=>exact hx pins σ H s e s' I hq
 | ok fl=>
  cases fl with
  | ret u=>exact I.after hq
  | next=>exact False.elim hq
  | brk=>exact False.elim hq
  | cont=>exact False.elim hq
theorem VJ (F:kf X.prog X.w X.K X.mg X.base CX k f fd ps sp)(hr:jw k X.A)(hg:Gl X x)(hm:X.mg x=some (.ref f))(hk:PySem.W.keepIn X.K (.ref f)=true)(hb:yP X.K fd ps ds)(hd:zw dvs ds)(hx:ZM CX X E)
  (ha:PA X (e :: es) t) (hdb:(x == ("__debug__":Str))=false:=by decide) (he:starEach (e :: es) X.env=(false,eval e X.env) :: starEach es X.env:=by rfl) (hpl:(backTo pos (starEach es X.env)).any (·.1)=false:=by rfl) :
  PE X (.Call (.Name x p) (e :: es) [] pos) (Qn sp dvs E t):=by
 intro pins s σ H Q I h
 refine wpAny_Call_Name_kw (Vh I hg hm ?_ hdb)
 refine PySem.W.callWith_K (h₀:=X.base) I.ok.mod.kin hk (thn (ha pos pins s σ H _ I h) fun us s1 ⟨vs,H1,I1,r,q⟩=>⟨I1.kIn,?_⟩) he hpl
 exact Aq F hr hb hd hx I1 r q
structure Mk (K:PySem.W.Frag)(C f:Addr):Prop where
 makes:PySem.W.makesIn K C=true
 init:PySem.W.findIn K (.ref C) "__init__"=some (some (.ref f))
 fn:PySem.W.isFn K (.ref f)=true
 kp:PySem.W.keepIn K (.ref C)=true
end
section
variable {X:Cx}{CX:CXT}{k:Nat}{f C:Addr}{fd:FuncData}{ps ks:List Str}{sp:Sp}{E:XK}{x m:Str}{p pos apos kpos:Pos}{e o:Expr}{es:List Expr}{kws:List Keyword}{te ta:TE}{t tk:TA}{nm:Option Str}
structure DV (K:PySem.W.Frag)(fd:FuncData)(ps ks:List Str)(g:List Value->List Value->List Value)(gV:List V->List V->List V):Prop where
 to:∀ (s:Shared) (us ws:List Value),K.In s.heap->(g us ws).length=ps.length->BindsTo s fd ⟨us,ks.zip ws⟩ (ps.zip (g us ws))
 rel:∀ {vs:List V} {us:List Value} {zs:List V} {ws:List Value},zw vs us->zw zs ws->zw (gV vs zs) (g us ws)
variable {g:List Value->List Value->List Value}{gV:List V->List V->List V}
end
structure zO (N P:List Str)(sc:Scope):Prop where
 kind:sc.kind=.function
 co:sc.isCoroutine=false
 gen:sc.isGenerator=false
 nd:N.Nodup
 pre:N.take P.length=P
 par:∀ x ∈ P,sc.names.lookup x=some .local \/ sc.names.lookup x=some .cell
 nofree:∀ y ∈ sc.names,y.2 ≠ .free
theorem yZ {kindOf:Str->Option NameKind}{x:Str}:∀ {binds:List (Str × Value)} {m:Str->Option Value},(∀ v,(x,v) ∉ binds)->bindL kindOf binds m x=m x
 | [],_,_=>rfl
 | (n,v) :: r,m,h=>by
  unfold bindL
  rw [yZ fun w hw=>h w (List.mem_cons_of_mem _ hw)]
  split
  ·have:x ≠ n:=by rintro rfl;exact h v List.mem_cons_self
   simp [this]
  ·rfl
theorem vf {kindOf:Str->Option NameKind}{x:Str}:∀ {binds:List (Str × Value)} {m:Str->Option Value},(∀ v,(x,v) ∉ binds)->bindC kindOf binds m x=m x
 | [],_,_=>rfl
 | (n,v) :: r,m,h=>by
  unfold bindC
  rw [vf fun w hw=>h w (List.mem_cons_of_mem _ hw)]
  split
  ·rfl
  ·have:x ≠ n:=by rintro rfl;exact h v List.mem_cons_self
   simp [this]
theorem yM {kindOf:Str->Option NameKind}{x:Str}{v:Value}:∀ {P:List Str} {vs:List Value} {i:Nat} {m:Str->Option Value},P.Nodup->P[i]?=some x->vs[i]?=some v->kindOf x=some .local ->
  bindL kindOf (P.zip vs) m x=some v
 | [],_,_,_,_,h,_,_=>by simp at h
 | _ :: _,[],_,_,_,_,h,_=>by simp at h
 | p :: P,w :: vs,0,m,nd,h1,h2,hk=>by
  simp at h1 h2;subst h1;subst h2
  show bindL kindOf ((p,w) :: P.zip vs) m p=_
  unfold bindL
  rw [yZ fun v hv=>(List.nodup_cons.mp nd).1 (List.of_mem_zip hv).1,if_pos hk]
  simp
 | p :: P,w :: vs,i+1,m,nd,h1,h2,hk=>by
  show bindL kindOf ((p,w) :: P.zip vs) m x=_
  unfold bindL
  exact yM (i:=i) (List.nodup_cons.mp nd).2 (by simpa using h1) (by simpa using h2) hk
theorem vd {kindOf:Str->Option NameKind}{x:Str}{v:Value}:∀ {P:List Str} {vs:List Value} {i:Nat} {m:Str->Option Value},P.Nodup->P[i]?=some x->vs[i]?=some v->kindOf x ≠ some .local ->
  bindC kindOf (P.zip vs) m x=some v
 | [],_,_,_,_,h,_,_=>by simp at h
 | _ :: _,[],_,_,_,_,h,_=>by simp at h
 | p :: P,w :: vs,0,m,nd,h1,h2,hk=>by
  simp at h1 h2;subst h1;subst h2
  show bindC kindOf ((p,w) :: P.zip vs) m p=_
  unfold bindC
  rw [vf fun v hv=>(List.nodup_cons.mp nd).1 (List.of_mem_zip hv).1,if_neg hk]
  simp
 | p :: P,w :: vs,i+1,m,nd,h1,h2,hk=>by
  show bindC kindOf ((p,w) :: P.zip vs) m x=_
  unfold bindC
  exact vd (i:=i) (List.nodup_cons.mp nd).2 (by simpa using h1) (by simpa using h2) hk
noncomputable def jk (N:List Str)(vs:List V):St:=vs.map some ++ List.replicate (N.length - vs.length) none
noncomputable def vM (CX:CXT)(P:Program)(w:World)(K:PySem.W.Frag)(mg:Str->Option Value)(base:Heap)(N:List Str)(qual:Str)(scope:Scope)(f:Addr)(cd:Value)(A:Around)(outer:List Env)(s:Shared)(H:Hp)(E:XK):Cx where
 prog:=P
 w:=w
 K:=K
 mg:=mg
 base:=base
 A:=A.deeper (envOfC qual scope s.heap.objs.size f cd)
 N:=N
 s₀:=s
 H₀:=H
 env:=envOfC qual scope s.heap.objs.size f cd
 outer:=outer
 stack:=envOfC qual scope s.heap.objs.size f cd :: outer
 ex:=[]
 calm:=true
 fn:=fun _=>true
 pn:=[]
 xe:=fun e s'=>wpAny (model P w) (A.deeper (envOfC qual scope s.heap.objs.size f cd)) (leaving (envOfC qual scope s.heap.objs.size f cd) e) (fun _ s''=>CX outer H s E e s'') (fun e' s''=>CX outer H s E e' s'') s'
theorem wl {sc:Scope}{n:Nat}{x:Str}(h:sc.names.lookup x=some .cell):∃ c,(cellsFrom n sc.names []).lookup x=some c:=by
 have q:=PySem.W.cellsFrom_some sc.names n [] (.inl h)
 exact Option.isSome_iff_exists.mp q
theorem Jk {CX : CXT}{P : Program}{w : World}{K : PySem.W.Frag}{mg : Str -> Option Value}{base : Heap}{N ps : List Str}{qual : Str}{scope : Scope}{f : Addr}{cd : Value}{A : Around}{outer : List Env}{s s1 : Shared}{H : Hp}{E : XK}{us : List Value}{vs : List V}
    (S:zO N ps scope) (hd:A.handled=none) (e0:Y7 P w K mg base A outer s H) (hl:vs.length=ps.length) (r:zw vs us)
    (x:InCallC s s.heap.objs.size (bindL (envOfC qual scope s.heap.objs.size f cd).kindOf (ps.zip us) fun _=>none) (cellsFrom (s.heap.objs.size+1) scope.names []) (bindC (envOfC qual scope s.heap.objs.size f cd).kindOf (ps.zip us) fun _=>none) s1) :
    Inv (vM CX P w K mg base N qual scope f cd A outer s H E) [] (jk N vs) H s1:=by
  have hpl:ps.length<=N.length:=by have:=congrArg List.length S.pre;rw [List.length_take] at this;omega
  obtain ⟨h1,tk,rfl,hk⟩:=x.done
  have noA:∀ b:Addr,b ∉ (vM CX P w K mg base N qual scope f cd A outer s H E).ex:=fun b z=>absurd (show b ∈ ([]:List Addr) from z) (by simp)
  refine ⟨⟨e0.mod,S.kind,rfl,rfl,Nat.le_refl _,fun y z c h1 h2=>?_,fun y hy=>?_,fun y c _ h=>?_,fun _=>hd,Around.frames_deeper e0.frames,.inr ⟨rfl,rfl⟩,fun b z=>absurd z (noA b),e0.bs,e0.bsz,fun b _ _=>noA b,fun b z=>absurd z (noA b),e0.funs,e0.frf⟩,
    rfl,e0.bare,Un.kept hk,⟨_,x.toInCall.ns,fun i y v h1 h2 h3=>?_⟩,fun y c h=>⟨_,x.cell y c h⟩,e0.hok.fresh (Nat.le_refl _),fun y c h=>?_,fun p hp=>absurd (show p ∈ ([]:List (Addr × Obj)) from hp) (by simp),e0.hok.kept hk,?_⟩
  · exact name_of_addr x.apart (PySem.mem_of_lookup h1) (PySem.mem_of_lookup h2)
  · have hy:scope.names.lookup y=some .cell \/ scope.names.lookup y=some .free:=hy
    rcases hy with hy | hy
    · exact wl hy
    · exact absurd rfl (S.nofree _ (PySem.mem_of_lookup hy))
  · exact Nat.le_of_lt (x.above y c (PySem.mem_of_lookup h))
  · have hi : i < vs.length := by
      unfold jk at h2
      by_cases hi:i<vs.length
      · exact hi
      · rw [List.getElem?_append_right (by simpa using hi)] at h2
        rw [List.getElem?_replicate] at h2
        split at h2 <;> cases h2
    have ha:vs[i]?=some v:=by
      unfold jk at h2
      rw [List.getElem?_append_left (by simpa using hi),List.getElem?_map] at h2
      cases e:vs[i]? with
      | none=>rw [e] at h2;cases h2
      | some a=>rw [e] at h2;cases h2;rfl
    obtain ⟨u,hu,rv⟩:=r.get ha
    have hp:ps[i]?=some y:=by
      rw [<- S.pre,List.getElem?_take_of_lt (by omega)];exact h1
    have ndP:ps.Nodup:=by rw [<- S.pre];exact S.nd.sublist (List.take_sublist _ _)
    refine ⟨u,rv,?_⟩
    rcases S.par y (List.mem_of_getElem? hp) with k | k
    · exact .inl ⟨k,yM ndP hp hu k⟩
    · obtain ⟨c,e⟩:=wl (n:=s.heap.objs.size+1) k
      refine .inr ⟨.inl k,c,e,?_⟩
      have q:=x.cell y c e
      rw [vd ndP hp hu (by show scope.names.lookup y ≠ _;rw [k];decide)] at q
      exact q
  · exact e0.hok.fresh (Nat.le_of_lt (x.above y c (PySem.mem_of_lookup h)))
  · unfold jk
    show _=N.length
    rw [List.length_append,List.length_map,List.length_replicate]
    omega
theorem DE {CX:CXT}{P:Program}{w:World}{K:PySem.W.Frag}{mg:Str->Option Value}{base:Heap}{k:Nat}{f:Addr}{name qual:Str}{params:Arguments}{body:List Stmt}{scope:Scope}{dV kV doc pm cdv ct oc:Value}{an od:Option Addr}
  {osl:Array (Option Value)} {N ps:List Str} {sp:Sp} (lk:K.lookup f=some ⟨oc,od,.func (PySem.W.fnOf name qual params body scope dV kV doc pm an cdv ct),osl⟩) (hcd:PySem.W.codeIn K cdv qual=true) (S:zO N ps scope)
  (len:∀ vs H Q E,sp vs H Q E->vs.length=ps.length)
  (hbody:∀ (A:Around) (outer:List Env) (s:Shared) (H:Hp) (vs:List V) (Q:VK) (E:XK),jw k (A.deeper (envOfC qual scope s.heap.objs.size f cdv))->sp vs H Q E ->
   ∃ t,PSs (vM CX P w K mg base N qual scope f cdv A outer s H E) body t/\t { nx:=fun _ H'=>Q .non H',rt:=Q } (jk N vs) H) :
  kf P w K mg base CX (k+1) f (PySem.W.fnOf name qual params body scope dV kV doc pm an cdv ct) ps sp:=by
 refine ⟨len,fun A outer s H args us vs Q E hr e0 hb r hsp=>?_⟩
 have hl:=len _ _ _ _ hsp
 have KX:K.In s.heap:=e0.mod.kin.keeps fun b o e=>(e0.bs b o e).1
 have lim:s.heap.NoLimit:=e0.mod.nolimit.keeps fun b o e=>(e0.bs b o e).1
 have hkind:∀ y ∈ ps.zip us,scope.names.lookup y.1=some .local \/ (scope.names.lookup y.1=some .cell/\((cellsFrom (s.heap.objs.size+1) scope.names []).lookup y.1).isSome=true):=fun ⟨n,v⟩ hy=>by
  rcases S.par n (List.of_mem_zip hy).1 with q | q
  ·exact .inl q
  ·exact .inr ⟨q,PySem.W.cellsFrom_some _ _ _ (.inl q)⟩
 refine codeAny_call_function hr.depth (KX _ _ lk) rfl S.co S.gen rfl (PySem.W.codeRec_of KX hcd) (hb _ _ _ _ ?_)
 refine wpAny_newFunctionEnv_cells S.kind hkind fun env he s1 x=>?_
 subst he
 refine ⟨lim.keeps x.toInCall.keep,codeAny_func ?_⟩
 obtain ⟨t,ht,hq⟩:=hbody A outer s H vs Q E (hr.deeper _) hsp
 have I:Inv (vM CX P w K mg base N qual scope f cdv A outer s H E) [] (jk N vs) H s1:=Jk S hr.hd e0 hl r x
 refine wpAny_mono (ht [] s1 (jk N vs) H _ I hq) (fun fl s' hs=>?_) fun e s' hs=>hs
 have fin:∀ {σ':St} {H':Hp} {v:V} {u:Value},Inv (vM CX P w K mg base N qual scope f cdv A outer s H E) [] σ' H' s'->zx v u->Q v H'->CE outer P w H s Q u s':=
  fun {σ' H' v u} J rv q=>⟨v,H',J.os,J.bare,J.base,J.hok,rv,q⟩
 cases fl with
 | ret u=>
  obtain ⟨v,σ',H',J,rv,q⟩:=hs
  exact fin J rv q
 | next=>
  obtain ⟨σ',H',J,q⟩:=hs
  exact fin (v:=V.non) (u:=Value.none) J rfl q
 | brk=>
  obtain ⟨_,_,_,q⟩:=hs
  exact False.elim q
 | cont=>
  obtain ⟨_,_,_,q⟩:=hs
  exact False.elim q
section
variable {X:Cx}{x:Str}{p pos:Pos}{e:Expr}{es:List Expr}{t:TA}{id T:String}{r:List V->Hp->VK->Prop}
noncomputable def tCB (r:List V->Hp->VK->Prop)(t:TA):TE:=fun σ H Q=>t σ H fun vs H1=>r vs H1 Q
theorem zo (hc:qW X (.builtin id) r)(hg:Gl X x)(hm:X.mg x=none)(hv:bootBuiltins x=some (.builtin id))(ha:PA X (e :: es) t)(hn:x ≠ "__name__":=by decide)(hdb:(x == ("__debug__":Str))=false:=by decide)
  (he:starEach (e :: es) X.env=(false,eval e X.env) :: starEach es X.env:=by rfl) (hpl:(backTo pos (starEach es X.env)).any (·.1)=false:=by rfl):PE X (.Call (.Name x p) (e :: es) [] pos) (tCB r t):=by
 intro pins s σ H Q I h
 refine wpAny_Call_Name_kw (xf I hg hm hv ?_ hn hdb)
 exact PyProof.Rows.callWith_builtin1 (thn (ha pos pins s σ H _ I h) fun us s1 ⟨vs,H1,I1,r1,q1⟩=>hc pins s1 σ H1 vs us Q I1 r1 q1) he hpl
theorem zP (hc:qW X (.type T) r)(hg:Gl X x)(hm:X.mg x=none)(hv:bootBuiltins x=some (.type T))(ha:PA X (e :: es) t)(hn:x ≠ "__name__":=by decide)(hdb:(x == ("__debug__":Str))=false:=by decide)
  (he:starEach (e :: es) X.env=(false,eval e X.env) :: starEach es X.env:=by rfl) (hpl:(backTo pos (starEach es X.env)).any (·.1)=false:=by rfl):PE X (.Call (.Name x p) (e :: es) [] pos) (tCB r t):=by
 intro pins s σ H Q I h
 refine wpAny_Call_Name_kw (xf I hg hm hv ?_ hn hdb)
 exact PyProof.Rows.callWith_type1 (thn (ha pos pins s σ H _ I h) fun us s1 ⟨vs,H1,I1,r1,q1⟩=>hc pins s1 σ H1 vs us Q I1 r1 q1) he hpl
end
end L2
namespace HT
open PySem PyProof.Rows
section
open PySem.SeqAt
open PySem.AutoSeq1 (wpAny_loadPart')
open PySem.MeetsSeq PySem.MeetsSeq2 PySem.MeetsSeq3
end
section
variable {prog:Program}{w:World}{A:Around}{E:Value->Shared->Prop}{s:Shared}
theorem cat_tup {t b : Addr}{vs ws : List Value}{Q : Value -> Shared -> Prop}(ht : IsTup s.heap t vs.toArray)(hb : IsTup s.heap b ws.toArray)(hv : vs ≠ [])
    (h1:ws=[]->Q (.ref t) s) (h2:ws ≠ []->Q (.ref s.heap.objs.size) { s with heap:=s.heap.push { cls:=.type "tuple",data:=.seq (vs ++ ws).toArray } })
    (hsz:vs.length+ws.length<=sizeLine):wpAny (model prog w) A (binaryOp .Add (.ref t) (.ref b)) Q E s:=by
  obtain ⟨⟨cls,dd,data,sl⟩,ho,hc,n,hd⟩:=id ht
  obtain ⟨⟨cls2,dd2,data2,sl2⟩,ho2,hc2,n2,hd2⟩:=id hb
  simp only at hc hd hc2 hd2
  subst hc hd hc2 hd2
  have e:vs.toArray ++ ws.toArray=(vs ++ ws).toArray:=by simp
  by_cases hw:ws=[]
  · exact concat_meets ⟨_, ho, rfl⟩ ⟨_, ho2, rfl⟩ noFill_tuple_add seq_tuple_add PySem.F.slot_tuple_add PySem.F.entry_tuple_add (PySem.F.args_tuple_add_2 _ _)
      (tuple_addW1 t b vs.toArray ws.toArray n n2 dd dd2 sl sl2 (by simpa using hv) (by simp [hw])) ⟨ho,ho2,h1 hw⟩
  · refine concat_meets ⟨_, ho, rfl⟩ ⟨_, ho2, rfl⟩ noFill_tuple_add seq_tuple_add PySem.F.slot_tuple_add PySem.F.entry_tuple_add (PySem.F.args_tuple_add_2 _ _)
      (tuple_addW2 t b vs.toArray ws.toArray n n2 dd dd2 sl sl2 (by simpa using hv) (by simpa using hw) (by rw [List.size_toArray,List.size_toArray];exact hsz)) ⟨ho,ho2,?_⟩
    rw [e]
    exact h2 hw
noncomputable def sIx (n d:Nat):Option Int->Nat
 | none=>d
 | some v=>if v<0 then (v+(n:Int)).toNat else min v.toNat n
theorem sIx_none (n d:Nat):sIx n d none=d:=rfl
theorem sIx_nat (n d k:Nat):sIx n d (some (k:Int))=min k n:=by
 show (if (k:Int)<0 then ((k:Int)+(n:Int)).toNat else min (k:Int).toNat n)=min k n
 rw [if_neg (by omega),Int.toNat_natCast]
theorem Aw (n d:Nat)(hd:d<=n)(o:Option Int):sIx n d o<=n:=by
 cases o with
 | none=>exact hd
 | some v=>
  show (if v<0 then (v+(n:Int)).toNat else min v.toNat n)<=n
  by_cases hv:v<0
  ·rw [if_pos hv];omega
  ·rw [if_neg hv];exact Nat.min_le_right _ _
theorem Qv (v:Int)(n d:Nat):(if v<0 then max (v+(n:Int)) 0 else min v (n:Int))=((sIx n d (some v):Nat):Int):=by
 show (if v<0 then max (v+(n:Int)) 0 else min v (n:Int))=(((if v<0 then (v+(n:Int)).toNat else min v.toNat n):Nat):Int)
 by_cases hv:v<0
 ·simp only [if_pos hv];omega
 ·simp only [if_neg hv];omega
theorem ZI (lo hi:Option Int)(n:Nat):Builtin.Slice.sliceAdjust lo hi 1 (n:Int)=(((sIx n 0 lo:Nat):Int),((sIx n n hi:Nat):Int)):=by
 have h1:¬ ((1:Int)<0):=by omega
 unfold Builtin.Slice.sliceAdjust
 simp only [h1,if_false]
 refine Prod.ext ?_ ?_
 ·cases lo with
  | none=>rfl
  | some v=>exact Qv v n 0
 ·cases hi with
  | none=>rfl
  | some v=>exact Qv v n n
theorem Zm (i j:Nat):Builtin.Slice.slicePlaces (i:Int) (j:Int) 1=j - i:=by
 unfold Builtin.Slice.slicePlaces
 have h1:(1:Int) > 0:=by omega
 simp only [h1,if_true,Int.ediv_one]
 split <;> omega
theorem slicePart_ {v:Value}{o:Option Int}{Q:Option Int->Shared->Prop}(p:IsPart v o)(h:Q o s):wpAny (model prog w) A (Builtin.Slice.slicePartIndex v) Q E s:=by
 cases p with
 | none=>exact slicePart_none h
 | int i t=>exact slicePart_int h
theorem xa {sl:Addr}{vl vu:Value}{lo hi:Option Int}{n:Nat}{Q:Int × Int × Nat->Shared->Prop}(hs:s.heap.IsSliceOf sl vl vu .none)(pl:IsPart vl lo)(pu:IsPart vu hi)
  (h:Q (((sIx n 0 lo:Nat):Int),1,sIx n n hi - sIx n 0 lo) s):wpAny (model prog w) A (Builtin.Slice.sliceApplied (.ref sl) (pure (n:Int))) Q E s:=by
 obtain ⟨os,hos,hcs,hds⟩:=id hs
 unfold Builtin.Slice.sliceApplied Builtin.Slice.sliceFields
 refine wpAny_bind (wpAny_bind (wpAny_field hos hds (x:=vl) rfl (wpAny_bind (wpAny_field hos hds (x:=vu) rfl (wpAny_bind (wpAny_field hos hds (x:=.none) rfl (wpAny_pure ?_)))))))
 refine wpAny_bind (slicePart_none ?_)
 show wpAny _ _ (if ((1:Int) == 0)=true then _ else _) _ _ s
 rw [if_neg (by decide)]
 refine wpAny_bind (slicePart_ pl (wpAny_bind (slicePart_ pu (wpAny_bind (wpAny_pure ?_)))))
 show wpAny _ _ (match Builtin.Slice.sliceAdjust lo hi 1 (n:Int) with | (lo,hi)=>pure (lo,(1:Int),Builtin.Slice.slicePlaces lo hi 1)) _ _ s
 rw [ZI lo hi n]
 show wpAny _ _ (pure (((sIx n 0 lo:Nat):Int),(1:Int),Builtin.Slice.slicePlaces ((sIx n 0 lo:Nat):Int) ((sIx n n hi:Nat):Int) 1)) _ _ s
 rw [Zm]
 exact wpAny_pure h
theorem Ku (xs:Array Value)(i k:Nat):((List.range k).filterMap fun (m:Nat)=>xs[((i:Int)+(m:Int) * 1).toNat]?).toArray=((xs.toList.drop i).take k).toArray:=by
 have e:(fun (m:Nat)=>xs[((i:Int)+(m:Int) * 1).toNat]?)=fun m=>xs[i+m]?:=by
  funext m
  have:((i:Int)+(m:Int) * 1).toNat=i+m:=by omega
  rw [this]
 rw [e]
 have:=pick_run xs i k
 rw [List.filterMap_map] at this
 have e2:((fun x=>xs[x]?) ∘ fun x=>i+x)=fun m=>xs[i+m]?:=rfl
 rw [e2] at this
 rw [this]
theorem getItem_tuple_cut {t sl:Addr}{items:Array Value}{vl vu:Value}{lo hi:Option Int}{Q:Value->Shared->Prop}(ht:IsTup s.heap t items)(hs:s.heap.IsSliceOf sl vl vu .none)(pl:IsPart vl lo)(pu:IsPart vu hi)
  (hw:¬ (sIx items.size 0 lo=0/\sIx items.size items.size hi=items.size))
  (h:Q (.ref s.heap.objs.size) { s with heap:=s.heap.push { cls:=.type "tuple",data:=.seq ((items.toList.drop (sIx items.size 0 lo)).take (sIx items.size items.size hi - sIx items.size 0 lo)).toArray } })
  (hsz:items.size<=sizeLine):wpAny (model prog w) A (getItem (.ref t) (.ref sl)) Q E s:=by
 have htake:sizeOk (.seq ((items.toList.drop (sIx items.size 0 lo)).take (sIx items.size items.size hi - sIx items.size 0 lo)).toArray):=by
  show ((items.toList.drop (sIx items.size 0 lo)).take (sIx items.size items.size hi - sIx items.size 0 lo)).toArray.size<=sizeLine
  rw [List.size_toArray,List.length_take,List.length_drop,Array.length_toList]
  omega
 have hj:sIx items.size items.size hi<=items.size:=Aw _ _ (Nat.le_refl _) hi
 obtain ⟨os,hos,hcs,hds⟩:=id hs
 have hTs:s.TypeIs (.ref sl) "slice":=⟨os,hos,hcs⟩
 unfold getItem
 try with_reducible refine wpAny_holding ?_
 first | refine wpAny_bind (wpAny_pure ?_) | skip
 refine wpAny_bind (wpAny_sequenceKey ht.typeIs (by decide) ?_)
 refine wpAny_bind (wpAny_callSpecial?_slot (name:=Str.ofString "__getitem__") ht.typeIs PyProof.Rows.slot_tuple_getitem
  (wpAny_call_entry PyProof.Rows.slot_tuple_getitem ht.typeIs entry_tuple_getitem ?_ (args_tuple_getitem _ _)))
 show wpAny _ _ (Builtin.Tuple.tupleItemsOf (.ref t) >>= _) _ _ s
 refine wpAny_bind (tupleItemsOf_ ht ?_)
 refine wpAny_bind (wpAny_typeOf hTs ?_)
 rw [if_pos (by decide)]
 refine wpAny_bind (xa hs pl pu ?_)
 have hno:¬ ((((sIx items.size 0 lo:Nat):Int) == 0 && (1:Int) == 1 && (sIx items.size items.size hi - sIx items.size 0 lo) == items.size)=true):=by
  intro q
  rw [Bool.and_eq_true,Bool.and_eq_true] at q
  have q1:((sIx items.size 0 lo:Nat):Int)=0:=eq_of_beq q.1.1
  have q2:sIx items.size items.size hi - sIx items.size 0 lo=items.size:=eq_of_beq q.2
  exact hw ⟨by omega,by omega⟩
 show wpAny _ _ (if (((sIx items.size 0 lo:Nat):Int) == 0 && (1:Int) == 1 && (sIx items.size items.size hi - sIx items.size 0 lo) == items.size)=true then _ else _) _ _ s
 rw [if_neg hno,Ku]
 first
  | exact wpAny_bind (m:=Builtin.Tuple.tupleExact _) (wpAny_newObj_type (wpAny_pure ⟨_,rfl,wpAny_pure h⟩) htake)
  | exact wpAny_bind (m:=Builtin.Tuple.tupleExact _) (wpAny_newObj_type (wpAny_bind (wpAny_pure (wpAny_pure ⟨_,rfl,wpAny_pure h⟩))) htake)
  | exact wpAny_bind (wpAny_bind (m:=Builtin.Tuple.tupleExact _) (wpAny_newObj_type (wpAny_pure (wpAny_pure ⟨_,rfl,wpAny_pure h⟩)) htake))
  | exact wpAny_bind (wpAny_bind (m:=Builtin.Tuple.tupleExact _) (wpAny_newObj_type (wpAny_pure ⟨_,rfl,wpAny_pure h⟩) htake))
end
end HT
namespace L2
open PySem PySem.Spec PyProof.Rows
noncomputable abbrev TO:=St->Hp->(Option Int->Hp->Prop)->Prop
noncomputable def PO (X:Cx)(e:Option Expr)(t:TO):Prop:=
 ∀ (pins:List (Addr × Obj)) (s:Shared) (σ:St) (H:Hp) (Q:Option Int->Hp->Prop),Inv X pins σ H s->t σ H Q ->
  wpAny (model X.prog X.w) X.A (evalPart e X.env) (fun u s'=>∃ o H',Inv X pins σ H' s'/\IsPart u o/\Q o H') X.xe s
noncomputable def vL:TO:=fun _ H Q=>Q none H
noncomputable def Xc (t:TE):TO:=fun σ H Q=>t σ H fun x H1=>∃ i,x=.int i/\Q (some i) H1
theorem ZG {ns:List Int}:∀ {us:List Value},zw (ns.map V.int) us->IntsAre us ns:=by
 induction ns with
 | nil=>intro us r;rw [List.map_nil] at r;cases r;exact .nil
 | cons n ns ih=>
  intro us r
  rw [List.map_cons] at r
  cases r with
  | cons r1 r2=>
   obtain ⟨t,e⟩:=r1
   subst e
   exact .cons n t (ih r2)
section
variable {X:Cx}{e:Expr}{te:TE}{lo hi:Option Expr}{tl th:TO}{pos p2:Pos}
theorem qt:PO X none vL:=by
 intro pins s σ H Q I h
 rw [evalPart_none]
 exact wpAny_pure ⟨none,H,I,.none,h⟩
theorem qd (h:PE X e te):PO X (some e) (Xc te):=by
 intro pins s σ H Q I hw
 rw [evalPart_some]
 refine thn (h pins s σ H _ I hw) fun u s1 ⟨x,H1,I1,r1,q1⟩=>?_
 obtain ⟨i,rfl,q⟩:=q1
 obtain ⟨t,rfl⟩:=r1
 exact ⟨some i,H1,I1,.int i t,q⟩
noncomputable def SlR (X:Cx)(r:V->Option Int->Option Int->Hp->VK->Prop):Prop:=
 ∀ (pins:List (Addr × Obj)) (s:Shared) (σ:St) (H:Hp) (x:V) (v vl vu:Value) (lo hi:Option Int) (sl:Addr) (Q:VK),Inv X pins σ H s->zx x v->s.heap.IsSliceOf sl vl vu .none->IsPart vl lo->IsPart vu hi->r x lo hi H Q ->
  ∃ T id,typeLookup (.type T) "__getitem__"=pure (some (.builtin id))/\s.TypeIs v T/\wpAny (model X.prog X.w) X.A (getItem v (.ref sl)) (EP X pins σ Q) X.xe s
noncomputable def tSl (r:V->Option Int->Option Int->Hp->VK->Prop)(te:TE)(tl th:TO):TE:=fun σ H Q=>te σ H fun x H1=>tl σ H1 fun l H2=>th σ H2 fun u H3=>r x l u H3 Q
theorem qg {r:V->Option Int->Option Int->Hp->VK->Prop}(hr:SlR X r)(he:PE X e te)(hl:PO X lo tl)(hu:PO X hi th):PE X (.Subscript e (.Slice lo hi none p2) pos) (tSl r te tl th):=by
 intro pins s σ H Q I h
 refine Subscript_ (thn (he pins s σ H _ I h) fun v s1 ⟨x,H1,I1,r1,q1⟩=>?_)
 refine wpAny_Slice (thn (hl pins s1 σ H1 _ I1 q1) fun vl s2 ⟨l,H2,I2,pl,q2⟩=>thn (hu pins s2 σ H2 _ I2 q2) fun vu s3 ⟨u,H3,I3,pu,q3⟩=>?_)
 rw [evalPart_none]
 refine wpAny_pure ?_
 have I4:Inv X pins σ H3 { s3 with heap:=s3.heap.push { cls:=.type "slice",data:=.fields #[vl,vu,.none] } }:=I3.kept (t':=s3.toks) fun b ob q=>Heap.get?_push_of_some _ q
 obtain ⟨T,id,hT,ht,hg⟩:=hr pins { s3 with heap:=s3.heap.push { cls:=.type "slice",data:=.fields #[vl,vu,.none] } } σ H3 x v vl vu l u s3.heap.objs.size Q I4 r1 (Heap.IsSliceOf.new ..) pl pu q3
 show wpAny (model X.prog X.w) X.A (subscriptTail e (.Slice lo hi none p2) v (.ref s3.heap.objs.size)) (EP X pins σ Q) X.xe { s3 with heap:=s3.heap.push { cls:=.type "slice",data:=.fields #[vl,vu,.none] } }
 exact tail_any (ops:=[.ref s3.heap.objs.size,v]) ht hT hg (by with_unfolding_all rfl)
noncomputable def yC (xs:List V)(lo hi:Option Int):List V:=(xs.drop (HT.sIx xs.length 0 lo)).take (HT.sIx xs.length xs.length hi - HT.sIx xs.length 0 lo)
theorem xp (xs:List V)(lo hi:Option Int):(yC xs lo hi).length<=xs.length:=by
 unfold yC
 rw [List.length_take,List.length_drop]
 omega
noncomputable def Dz (K:PySem.W.Frag):V->Option Int->Option Int->Hp->VK->Prop:=fun x lo hi H Q=>∃ a xs,x=.ref a/\SqT K H a xs /\
 ¬ (HT.sIx xs.length 0 lo=0/\HT.sIx xs.length xs.length hi=xs.length)/\∀ p,H p=none->Q (.ref p) (upd H p (.tup (yC xs lo hi)))
theorem jp:SlR X (Dz X.K):=by
 intro pins s σ H x v vl vu lo hi sl Q I rx hs pl pu h
 obtain ⟨a,xs,rfl,hx,hw,q⟩:=h
 cases rx
 obtain ⟨its,r,ht,hz⟩:=I.tuple hx
 have hlen:its.toArray.size=xs.length:=by rw [List.size_toArray];exact r.length.symm
 refine ⟨"tuple",_,PyProof.Rows.slot_tuple_getitem.lookup,ht.typeIs,?_⟩
 refine HT.getItem_tuple_cut ht hs pl pu (by rw [hlen];exact hw) ?_ (by rw [hlen];exact hz)
 rw [hlen]
 refine ⟨.ref s.heap.objs.size,_,I.laid (t':=s.toks) (o:=.tup (yC xs lo hi)) (fun b ob q=>Heap.get?_push_of_some _ q) (Nat.le_refl _) ?_,rfl,q _ (I.hok.fresh (Nat.le_refl _))⟩
 exact ⟨Nat.le_trans (xp xs lo hi) hz,_,(r.drop (HT.sIx xs.length 0 lo)).take (HT.sIx xs.length xs.length hi - HT.sIx xs.length 0 lo),xT.new _ _⟩
noncomputable def XU (K:PySem.W.Frag):R2:=fun x y H Q=>∃ a b xs ys,x=.ref a/\y=.ref b/\SqT K H a xs/\SqT K H b ys/\xs ≠ []/\xs.length+ys.length<=sizeLine /\
 (ys=[]->Q (.ref a) H)/\(ys ≠ []->∀ p,H p=none->Q (.ref p) (upd H p (.tup (xs ++ ys))))
theorem zw.nil_iff {xs:List V}{us:List Value}(r:zw xs us):us=[] ↔ xs=[]:=by
 cases r with
 | nil=>simp
 | cons _ _=>simp
theorem xI:OpR X (binaryOp .Add) (XU X.K):=by
 intro pins s σ H x y v u Q I rx ry h
 obtain ⟨a,b,xs,ys,rfl,rfl,ha,hb,hx,hz,q1,q2⟩:=h
 cases rx
 cases ry
 obtain ⟨its,r1,p1,_⟩:=I.tuple ha
 obtain ⟨its2,r2,p2,_⟩:=I.tuple hb
 refine HT.cat_tup p1 p2 (fun z=>hx (r1.nil_iff.mp z)) (fun z=>⟨.ref a,H,I,rfl,q1 (r2.nil_iff.mp z)⟩) (fun z=>?_) (by rw [<- r1.length,<- r2.length];exact hz)
 refine ⟨.ref s.heap.objs.size,_,I.laid (t':=s.toks) (o:=.tup (xs ++ ys)) (fun b ob q=>Heap.get?_push_of_some _ q) (Nat.le_refl _) ?_,rfl,q2 (fun w=>z (r2.nil_iff.mpr w)) _ (I.hok.fresh (Nat.le_refl _))⟩
 exact ⟨by rw [List.length_append];exact hz,_,r1.append r2,xT.new _ _⟩
end
noncomputable def ixN (n:Nat)(i:Int):Option Nat:=if 0<=i then (if i<n then some i.toNat else none) else if -(n:Int)<=i then some (i+n).toNat else none
noncomputable def atI {α:Type}(xs:List α)(i:Int):Option α:=(ixN xs.length i).bind fun j=>xs[j]?
theorem QD {n:Nat}{i:Int}{j:Nat}(h:ixN n i=some j):seqIndex? i n=some j/\j<n/\-(n:Int)<=i/\i<n:=by
 unfold ixN at h
 by_cases h0:0<=i
 ·rw [if_pos h0] at h
  by_cases h1:i<n
  ·rw [if_pos h1] at h
   have e:i.toNat=j:=Option.some.inj h
   exact ⟨by rw [seqIndex_of h0 h1,e],by omega,by omega,h1⟩
  ·rw [if_neg h1] at h;cases h
 ·rw [if_neg h0] at h
  by_cases h1:-(n:Int)<=i
  ·rw [if_pos h1] at h
   have e:(i+n).toNat=j:=Option.some.inj h
   exact ⟨by rw [seqIndex_neg (by omega) h1,e],by omega,h1,by omega⟩
  ·rw [if_neg h1] at h;cases h
theorem QJ {α:Type}{xs:List α}{i:Int}{v:α}(h:atI xs i=some v):∃ j,seqIndex? i xs.length=some j/\xs[j]?=some v/\j<xs.length/\-(xs.length:Int)<=i/\i<xs.length:=by
 unfold atI at h
 cases e:ixN xs.length i with
 | none=>rw [e] at h;cases h
 | some j=>
  rw [e] at h
  obtain ⟨h1,h2,h3,h4⟩:=QD e
  exact ⟨j,h1,h,h2,h3,h4⟩
theorem Wy {α:Type}{xs:List α}{j:Nat}{v:α}(h:xs[j]?=some v):atI xs (j:Int)=some v:=by
 have hj:j<xs.length:=(List.getElem?_eq_some_iff.mp h).1
 have e:ixN xs.length (j:Int)=some j:=by
  unfold ixN
  rw [if_pos (by omega),if_pos (by omega)];simp
 unfold atI;rw [e];exact h
theorem yx {α:Type}(xs:List α)(v:α):atI (xs ++ [v]) (-1)=some v:=by
 have hl:(xs ++ [v]).length=xs.length+1:=by simp
 have e:ixN (xs ++ [v]).length (-1)=some xs.length:=by
  unfold ixN
  rw [hl,if_neg (by decide),if_pos (by omega)]
  congr 1
  omega
 unfold atI
 rw [e]
 show (xs ++ [v])[xs.length]?=some v
 simp
noncomputable def Vu (b:Expr):Prop:=∀ o i,subscripted b false o i=operate [o,i] (getItem o i)
noncomputable def IxR (X:Cx)(r:R2):Prop:=
 ∀ (value slice:Expr) (pins:List (Addr × Obj)) (s:Shared) (σ:St) (H:Hp) (x y:V) (v u:Value) (Q:VK),Inv X pins σ H s->zx x v->zx y u->r x y H Q ->
  subscripted slice false v u=operate [v,u] (getItem v u)->wpAny (model X.prog X.w) X.A (subscriptTail value slice v u) (EP X pins σ Q) X.xe s
noncomputable def MtR (X:Cx)(id:String)(r:V->List V->Hp->VK->Prop):Prop:=
 ∀ (pins:List (Addr × Obj)) (s:Shared) (σ:St) (H:Hp) (x:V) (xs:List V) (v:Value) (us:List Value) (Q:VK),Inv X pins σ H s->zx x v->zw xs us->r x xs H Q ->
  wpAny (model X.prog X.w) X.A (call (.builtin id) (v :: us)) (EP X pins σ Q) X.xe s
section
variable {X:Cx}{a b:Expr}{ta tb:TE}{pos:Pos}
theorem zh {r:R2}(hr:IxR X r)(ha:PE X a ta)(hb:PE X b tb)(hs:Vu b):PE X (.Subscript a b pos) (tOp r ta tb):=by
 intro pins s σ H Q I h
 exact Subscript_ (BI ha hb I h fun v u s2 x y H2 I2 rx ry q=>hr a b pins s2 σ H2 x y v u Q I2 rx ry q (hs _ _))
noncomputable def Dk (K:PySem.W.Frag):R2:=fun x y H Q=>∃ p xs i v,x=.ref p/\y=.int i/\SqL K H p xs/\atI xs i=some v/\Q v H
noncomputable def B9 (K:PySem.W.Frag):R2:=fun x y H Q=>∃ p xs i v,x=.ref p/\y=.int i/\SqT K H p xs/\atI xs i=some v/\Q v H
theorem qo:IxR X (Dk X.K):=by
  intro value slice pins s σ H x y v u Q I rx ry h hs
  obtain ⟨p,xs,i,z,rfl,rfl,hq,he,q⟩:=h
  cases rx
  obtain ⟨t,rfl⟩:=ry
  obtain ⟨its,r,pl,hz⟩:=I.list hq
  obtain ⟨j,h1,h2,h3,h4,h5⟩:=QJ he
  obtain ⟨w,ew,rw'⟩:=r.get h2
  have hl:=r.length
  have hn:=vH
  have fin:EP X pins σ Q w s:=⟨z,H,I,rw',q⟩
  by_cases h0:0<=i
  · have hj : i.toNat = j := by
      rw [seqIndex_of h0 h5] at h1
      exact Option.some.inj h1
    exact item_listR pl.isList h0 (by omega) (by rw [hj];simpa using ew) fin hs
  · have hj : (i + (its.toArray.size : Int)).toNat = j := by
      rw [seqIndex_neg (by omega) h4] at h1
      rw [List.size_toArray,<- hl]
      exact Option.some.inj h1
    exact subscriptTail_builtinR (x:=w) pl.isList.typeIs slot_list_getitem.lookup
      (wpAny_getItem_list_neg (Q:=fun r s'=>r=w/\EP X pins σ Q r s') pl.isList (by omega) (by rw [List.size_toArray] <;> omega) (by omega) (by rw [hj];simpa using ew) ⟨rfl,fin⟩) hs
theorem BG:IxR X (B9 X.K):=by
 intro value slice pins s σ H x y v u Q I rx ry h hs
 obtain ⟨p,xs,i,z,rfl,rfl,hq,he,q⟩:=h
 cases rx
 obtain ⟨t,rfl⟩:=ry
 obtain ⟨its,r,pl,hz⟩:=I.tuple hq
 obtain ⟨j,h1,h2,h3,h4,h5⟩:=QJ he
 obtain ⟨w,ew,rw'⟩:=r.get h2
 have hl:=r.length
 have hn:=vH
 have fin:EP X pins σ Q w s:=⟨z,H,I,rw',q⟩
 exact subscriptTail_builtinR (x:=w) pl.typeIs slot_tuple_getitem.lookup
  (getItem_tuple (j:=j) (Q:=fun r s'=>r=w/\EP X pins σ Q r s') pl (by omega) (by omega) (by rw [List.size_toArray,<- hl];exact h1) (by simpa using ew) ⟨rfl,fin⟩) hs
theorem ZH (its:List Value)(n j:Nat)(u:Value):Obj.mapSeq (·.setIfInBounds j u) { cls:=.type "list",data:=.seq its.toArray n }={ cls:=.type "list",data:=.seq (its.set j u).toArray n }:=by
 simp [Obj.mapSeq]
theorem Inv.lst {pins:List (Addr × Obj)}{σ:St}{H:Hp}{s:Shared}{p:Addr}{xs:List V}(I:Inv X pins σ H s)(h:H p=some (.lst xs)) :
  ∃ (its:List Value) (n:Nat),zw xs its/\s.heap.get? p=some { cls:=.type "list",data:=.seq its.toArray n }/\xs.length<=sizeLine:=by
 obtain ⟨z,its,n,r,e⟩:=I.hok p _ h
 exact ⟨its,n,r,e,z⟩
theorem Inv.lstUpd {pins:List (Addr × Obj)}{σ:St}{H:Hp}{s:Shared}{p:Addr}{xs ys:List V}{its its':List Value}{n n':Nat}{f:Obj->Obj}(I:Inv X pins σ H s)(h:H p=some (.lst xs))
  (ho:s.heap.get? p=some { cls:=.type "list",data:=.seq its.toArray n }) (hf:f { cls:=.type "list",data:=.seq its.toArray n }={ cls:=.type "list",data:=.seq its'.toArray n' }) (r:zw ys its') (hz:ys.length<=sizeLine) (t:Nat) :
  Inv X pins σ (upd H p (.lst ys)) { s with heap:=s.heap.update p f,toks:=t }:=by
 have e:(s.heap.update p f).get? p=some { cls:=.type "list",data:=.seq its'.toArray n' }:=by
  rw [Heap.get?_update_self f ho (by rw [hf] <;> rfl),hf]
 refine I.write (x:=p) (e:=p) (by rw [h];trivial) (.inl rfl) (fun b u hb q=>(Heap.get?_update_other _ _ (Ne.symm hb)).trans q) ⟨_,e⟩ ?_
 exact ⟨hz,its',n',r,e⟩
noncomputable def WA:V->V->V->Hp->(Hp->Prop)->Prop:=fun o i v H Q=>∃ p xs k j,o=.ref p/\i=.int k/\H p=some (.lst xs)/\ixN xs.length k=some j/\Q (upd H p (.lst (xs.set j v)))
theorem YT:BK X WA:=by
  intro pins s σ H o i v ov iv u Q I ro ri rv h
  obtain ⟨p,xs,k,j,rfl,rfl,hp,hj,q⟩:=h
  cases ro
  obtain ⟨t,rfl⟩:=ri
  obtain ⟨its,n,r,ho,hz⟩:=I.lst hp
  obtain ⟨h1,h2,h3,h4⟩:=QD hj
  have hl:=r.length
  have hn:=vH
  have I':Inv X pins σ (upd H p (.lst (xs.set j v))) { s with heap:=s.heap.update p (Obj.mapSeq (·.setIfInBounds j u)) }:=
    I.lstUpd hp ho (ZH its n j u) (r.set rv j) (by rw [List.length_set];exact hz) s.toks
  by_cases h0:0<=k
  · have hk : k.toNat = j := by
      rw [seqIndex_of h0 h4] at h1
      exact Option.some.inj h1
    exact PySem.W.ki_setAt ho h0 (by omega) (by rw [List.size_toArray,<- hl];exact h4) (by rw [hk];exact ⟨_,I',q⟩)
  · have hk : (k + (its.toArray.size : Int)).toNat = j := by
      rw [seqIndex_neg (by omega) h3] at h1
      rw [List.size_toArray,<- hl]
      exact Option.some.inj h1
    exact PySem.W.ki_setBack ho (by omega) (by rw [List.size_toArray,<- hl];exact h3) (by omega) (by rw [hk];exact ⟨_,I',q⟩)
theorem vq (lo hi:Option Int)(n:Nat):(sliceBounds lo hi none n).1=((HT.sIx n 0 lo:Nat):Int)/\(sliceBounds lo hi none n).2.1=((HT.sIx n n hi:Nat):Int)/\(sliceBounds lo hi none n).2.2=1:=by
 refine ⟨?_,?_,rfl⟩
 ·cases lo with
  | none=>simp [sliceBounds,HT.sIx]
  | some i=>
   simp only [sliceBounds,HT.sIx,Option.getD_none,show (1:Int) > 0 by decide,if_true]
   by_cases h:i<0
   ·simp only [h,if_true] <;> omega
   ·simp only [h,if_false] <;> omega
 ·cases hi with
  | none=>simp [sliceBounds,HT.sIx]
  | some i=>
   simp only [sliceBounds,HT.sIx,Option.getD_none,show (1:Int) > 0 by decide,if_true]
   by_cases h:i<0
   ·simp only [h,if_true] <;> omega
   ·simp only [h,if_false] <;> omega
theorem yB (its:List Value)(lo hi:Option Int):slicePick its.toArray lo hi none=((its.drop (HT.sIx its.length 0 lo)).take (HT.sIx its.length its.length hi - HT.sIx its.length 0 lo)).toArray:=by
 obtain ⟨h1,h2,h3⟩:=vq lo hi its.toArray.size
 unfold slicePick
 rw [h1,h2,h3]
 simp only [sliceRange_one,pick_run,List.size_toArray] <;> rfl
noncomputable def As (K:PySem.W.Frag):V->Option Int->Option Int->Hp->VK->Prop:=fun x lo hi H Q=>∃ a xs,x=.ref a/\SqL K H a xs/\∀ p,H p=none->Q (.ref p) (upd H p (.lst (yC xs lo hi)))
theorem vJ:SlR X (As X.K):=by
 intro pins s σ H x v vl vu lo hi sl Q I rx hs pl pu h
 obtain ⟨a,xs,rfl,hx,q⟩:=h
 cases rx
 obtain ⟨its,r,ht,hz⟩:=I.list hx
 have hlen:=r.length
 refine ⟨"list",_,slot_list_getitem.lookup,ht.isList.typeIs,?_⟩
 refine wpAny_getItem_list_slice ht.isList hs pl pu .none (by simp) ?_ (by rw [List.size_toArray] <;> omega)
 rw [yB,<- hlen]
 refine ⟨.ref s.heap.objs.size,_,I.laid (t':=s.toks) (o:=.lst (yC xs lo hi)) (fun b ob q=>Heap.get?_push_of_some _ q) (Nat.le_refl _) ?_,rfl,q _ (I.hok.fresh (Nat.le_refl _))⟩
 exact ⟨Nat.le_trans (xp xs lo hi) hz,_,0,(r.drop (HT.sIx xs.length 0 lo)).take (HT.sIx xs.length xs.length hi - HT.sIx xs.length 0 lo),Heap.get?_push_size _ rfl⟩
theorem zB:qW X (.builtin "len") (fun xs H Q=>∃ p ys,xs=[.ref p]/\(SqL X.K H p ys \/ SqT X.K H p ys)/\Q (.int ys.length) H):=by
 intro pins s σ H xs us Q I r h
 obtain ⟨p,ys,rfl,hq,q⟩:=h
 obtain ⟨u,rfl,rx⟩:=jO r
 cases rx
 have hn:=vH
 rcases hq with hq | hq
 ·obtain ⟨its,r',pl,hz⟩:=I.list hq
  have hlen:=r'.length
  exact Calls.call_len_list pl.isList (by simp only [List.size_toArray] <;> omega) ⟨.int ys.length,H,I.tok _,⟨s.toks+1,by rw [List.size_toArray,hlen]⟩,q⟩
 ·obtain ⟨its,r',pl,hz⟩:=I.tuple hq
  have hlen:=r'.length
  exact len_tuple pl (by simp only [List.size_toArray] <;> omega) ⟨.int ys.length,H,I.tok _,⟨s.toks+1,by rw [List.size_toArray,hlen]⟩,q⟩
theorem jd:qW X (.type "list") (fun xs H Q=>∃ p ys,xs=[.ref p]/\(SqL X.K H p ys \/ SqT X.K H p ys)/\∀ l,H l=none->Q (.ref l) (upd H l (.lst ys))):=by
 intro pins s σ H xs us Q I r h
 obtain ⟨p,ys,rfl,hq,q⟩:=h
 obtain ⟨u,rfl,rx⟩:=jO r
 cases rx
 have fin:∀ (its:List Value),zw ys its->ys.length<=sizeLine->∀ (h':Heap) (c':Nat),(∀ b o',s.heap.get? b=some o'->h'.get? b=some o') ->
   h'.get? s.heap.objs.size=some { cls:=.type "list",dict:=none,data:=.seq its.toArray c',slots:=#[] }->EP X pins σ Q (.ref s.heap.objs.size) { s with heap:=h' }:=fun its r' hz h' c' kp e=>
  ⟨.ref s.heap.objs.size,_,I.laid (t':=s.toks) kp (Nat.le_refl _) (show zL X.prog X.w _ h' _ (.lst ys) from ⟨hz,its,c',r',e⟩),rfl,q _ (I.hok.fresh (Nat.le_refl _))⟩
 rcases hq with hq | hq
 ·obtain ⟨its,r',pl,hz⟩:=I.list hq
  have hlen:=r'.length
  obtain ⟨o,ho,hc,n,hd⟩:=pl.isList
  exact call_list_seq p (.inl rfl) ho hc hd (fun h' c' kp e=>fin its r' hz h' c' kp e) (by simp only [List.size_toArray] <;> omega)
 ·obtain ⟨its,r',pl,hz⟩:=I.tuple hq
  have hlen:=r'.length
  obtain ⟨o,ho,hc,n,hd⟩:=pl
  exact call_list_seq p (.inr rfl) ho hc hd (fun h' c' kp e=>fin its r' hz h' c' kp e) (by simp only [List.size_toArray] <;> omega)
theorem yA:qW X (.type "tuple") (fun xs H Q=>∃ p ys,xs=[.ref p]/\((SqL X.K H p ys/\∀ l,H l=none->Q (.ref l) (upd H l (.tup ys))) \/ (SqT X.K H p ys/\Q (.ref p) H))):=by
 intro pins s σ H xs us Q I r h
 obtain ⟨p,ys,rfl,h⟩:=h
 obtain ⟨u,rfl,rx⟩:=jO r
 cases rx
 rcases h with ⟨hq,q⟩ | ⟨hq,q⟩
 ·obtain ⟨its,r',pl,hz⟩:=I.list hq
  have hlen:=r'.length
  refine call_tuple_list pl.isList (fun h' kp=>?_) (by simp only [List.size_toArray] <;> omega)
  have I1:Inv X pins σ H { s with heap:=h' }:=I.kept (t':=s.toks) kp
  have I2:Inv X pins σ (upd H h'.objs.size (.tup ys)) { s with heap:=h'.push { cls:=.type "tuple",data:=.seq its.toArray } }:=
   I1.laid (t':=s.toks) (fun b o e=>Heap.get?_push_of_some _ e) (Nat.le_refl _) (show zL X.prog X.w _ _ _ (.tup ys) from ⟨hz,its,r',xT.new _ _⟩)
  exact ⟨.ref h'.objs.size,_,I2,rfl,q _ (I1.hok.fresh (Nat.le_refl _))⟩
 ·obtain ⟨its,r',pl,hz⟩:=I.tuple hq
  exact call_tuple_same pl ⟨.ref p,H,I,rfl,q⟩
noncomputable def tyV (K:PySem.W.Frag)(T:String)(x:V)(H:Hp):Prop:=match x with
  | .str _=>T="str"
  | .int _=>T="int"
  | .ref p => (T = "list" /\ ∃ xs, SqL K H p xs) \/ (T = "tuple" /\ ((∃ xs, Rd H p (.tup xs)) \/ ∃ o, K.lookup p = some o /\ o.cls = .type "tuple" /\ o.dict = none)) \/
      (T="dict"/\((∃ kvs,H p=some (.dK kvs)) \/ ∃ kvs,H p=some (.dT kvs))) \/ (T="set"/\∃ S n,H p=some (.set S n))
  | _=>False
theorem YN {pins : List (Addr × Obj)}{σ : St}{H : Hp}{s : Shared}{T : String}{x : V}{v : Value}(I : Inv X pins σ H s)(r : zx x v)(ty : tyV X.K T x H) :
    s.TypeIs v T/\∀ a,v=.ref a->∃ ob,s.heap.get? a=some ob/\ob.dict=none:=by
  cases x with
  | str z=>
    obtain ⟨t,rfl⟩:=r
    cases (show T="str" from ty)
    exact ⟨typeIs_str s z t,fun _ e=>nomatch e⟩
  | int i=>
    obtain ⟨t,rfl⟩:=r
    cases (show T="int" from ty)
    exact ⟨typeIs_int s i t,fun _ e=>nomatch e⟩
  | ref p=>
    cases r
    rcases ty with ⟨rfl,xs,hq⟩ | ⟨rfl,⟨xs,hx⟩ | ⟨o,hk,hc,hd⟩⟩ | ⟨rfl,hk⟩ | ⟨rfl,S,n,hk⟩
    · obtain ⟨its,_,pl,_⟩:=I.list hq
      refine ⟨pl.isList.typeIs,fun a e=>?_⟩
      cases e
      obtain ⟨o,n,e,c,hd,_⟩:=pl
      exact ⟨o,e,hd⟩
    · obtain ⟨_,its,_,o,e,c,_,hd⟩:=hx.ok I.hok
      refine ⟨⟨o,e,c⟩,fun a e2=>?_⟩
      cases e2
      exact ⟨o,e,hd⟩
    · refine ⟨⟨o,I.kIn p o hk,hc⟩,fun a e=>?_⟩
      cases e
      exact ⟨o,I.kIn _ o hk,hd⟩
    · have z : ∃ o, s.heap.get? p = some o /\ o.ExactDict := by
        rcases hk with ⟨kvs,hk⟩ | ⟨kvs,hk⟩
        · obtain ⟨_,_,_,_,o,_,_,e,ex,_⟩:=I.hok p _ hk
          exact ⟨o,e,ex⟩
        · obtain ⟨_,_,_,_,o,_,_,e,ex,_⟩:=I.hok p _ hk
          exact ⟨o,e,ex⟩
      obtain ⟨o,e,ex⟩:=z
      refine ⟨⟨o,e,ex.1⟩,fun a e2=>?_⟩
      cases e2
      exact ⟨o,e,ex.2.1⟩
    · obtain ⟨o,_,_,_,e,ex,_⟩:=I.hok p _ hk
      refine ⟨⟨o,e,ex.1⟩,fun a e2=>?_⟩
      cases e2
      exact ⟨o,e,ex.2.1⟩
  | _=>exact False.elim ty
noncomputable def Ak (K:PySem.W.Frag)(T:String)(r:V->List V->Hp->VK->Prop)(to:TE):TE:=fun σ H Q=>to σ H fun x H1=>tyV K T x H1/\r x [] H1 Q
noncomputable def tBM (K:PySem.W.Frag)(T:String)(r:V->List V->Hp->VK->Prop)(to:TE)(t:TA):TE:=fun σ H Q=>to σ H fun x H1=>tyV K T x H1/\t σ H1 fun xs H2=>r x xs H2 Q
variable {o e:Expr}{es:List Expr}{to:TE}{t:TA}{name:Str}{apos cpos:Pos}{T id:String}{r:V->List V->Hp->VK->Prop}
theorem Yz (pa:PlainAttrs T)(slot:Slot T name id)(hty:typeOf (.builtin id)=pure (.type "method_descriptor"))(hm:MtR X id r)(ho:PE X o to)
  (hbase:attributeBase o name X.env (eval o X.env)=eval o X.env:=by rfl) (hline:(apos.endLine == cpos.line)=true:=by rfl):PE X (.Call (.Attribute o name apos) [] [] cpos) (Ak X.K T r to):=by
 intro pins s σ H Q I h
 refine wpAny_Call_method0_late hbase hline (thn (ho pins s σ H _ I h) fun v s1 ⟨x,H1,I1,r1,ty,q1⟩=>?_)
 obtain ⟨h1,h2⟩:=YN I1 r1 ty
 exact ⟨T,id,pa,slot,hty,h1,h2,Calls.callWith_builtin rfl (PySem.evalArgs_none (hm pins s1 σ H1 x [] v [] Q I1 r1 .nil q1))⟩
theorem kq (pa:PlainAttrs T)(slot:Slot T name id)(hty:typeOf (.builtin id)=pure (.type "method_descriptor"))(hm:MtR X id r)(ho:PE X o to)(ha:PA X (e :: es) t)
  (hbase:attributeBase o name X.env (eval o X.env)=eval o X.env:=by rfl)
  (hfew:((backTo cpos (starEach (e :: es) X.env)).all (fun x=>!x.1) && (backToKw cpos (keywordEach [] X.env)).all (fun x=>x.1.isSome)
   && decide ((e :: es).length+([]:List Keyword).length+(if ([]:List Keyword).isEmpty then 0 else 1)<30))=true:=by rfl)
  (hline:(apos.endLine == cpos.line)=true:=by rfl) (hs:starEach (e :: es) X.env=(false,eval e X.env) :: starEach es X.env:=by rfl) (hplain:(backTo cpos (starEach es X.env)).any (·.1)=false:=by rfl) :
  PE X (.Call (.Attribute o name apos) (e :: es) [] cpos) (tBM X.K T r to t):=by
 intro pins s σ H Q I h
 refine wpAny_Call_method_late hbase hfew hline rfl (thn (ho pins s σ H _ I h) fun v s1 ⟨x,H1,I1,r1,ty,q1⟩=>?_)
 obtain ⟨h1,h2⟩:=YN I1 r1 ty
 refine ⟨T,id,pa,slot,hty,h1,h2,?_⟩
 have hA:=ha cpos pins s1 σ H1 _ I1 q1
 rw [hs] at hA ⊢
 refine Calls.callWith_builtin (by show (false || (backTo cpos (starEach es X.env)).any (·.1))=false;rw [hplain] <;> rfl) (Calls.evalArgs_plain ?_)
 exact thn hA fun us s2 ⟨vs,H2,I2,r2,q2⟩=>hm pins s2 σ H2 x vs v us Q I2 r1 r2 q2
/- xs.append(e),list.index on a module's tuple .. are MtR facts of 06m -/
end
noncomputable def MtM (X:Cx)(id:String)(r:V->List V->Hp->VK->Prop):Prop:=
 ∀ (pins:List (Addr × Obj)) (s:Shared) (σ:St) (H:Hp) (x:V) (xs:List V) (v:Value) (us:List Value) (Q:VK),Inv X pins σ H s->zx x v->zw xs us->r x xs H Q ->
  wpAny (model X.prog X.w) X.A (call (.builtin id) (v :: us)) (EP X pins σ Q) X.xe s
theorem zw.one:∀ {x:V} {us:List Value},zw [x] us->∃ u,us=[u]/\zx x u
 | _,_,.cons r .nil=>⟨_,rfl,r⟩
theorem zw.zero:∀ {us:List Value},zw [] us->us=[]
 | _,.nil=>rfl
theorem zw.dropLast {xs:List V}{us:List Value}(h:zw xs us):zw xs.dropLast us.dropLast:=by
 induction h with
 | nil=>exact .nil
 | cons r t ih=>
  cases t with
  | nil=>exact .nil
  | cons q t'=>exact .cons r ih
theorem zw.rep {xs:List V}{us:List Value}(h:zw xs us):∀ k:Nat,zw (List.replicate k xs).flatten (List.replicate k us).flatten
 | 0=>.nil
 | k+1=>by
  rw [List.replicate_succ,List.replicate_succ,List.flatten_cons,List.flatten_cons]
  exact zw.append h (zw.rep h k)
theorem ZR {α:Type}(l:List α):l.eraseIdx (l.length - 1)=l.dropLast:=by
 induction l with
 | nil=>rfl
 | cons a r ih=>
  cases r with
  | nil=>rfl
  | cons b r=>
   have e:(a :: b :: r).length - 1=((b :: r).length - 1)+1:=by
    have h1:(a :: b :: r).length=r.length+2:=rfl
    have h2:(b :: r).length=r.length+1:=rfl
    omega
   rw [e,List.eraseIdx_cons_succ,ih]
   all_goals rfl
theorem vi (its:List Value):∀ (k:Nat) (acc:List Value),
  List.foldl (fun x1 x2=>x1 ++ x2) acc.toArray (List.replicate k its.toArray)=(acc ++ (List.replicate k its).flatten).toArray
 | 0,acc=>by simp
 | k+1,acc=>by
  have e:acc.toArray ++ its.toArray=(acc ++ its).toArray:=by simp
  have e2:(acc ++ its) ++ (List.replicate k its).flatten=acc ++ (List.replicate (k+1) its).flatten:=by
   rw [List.replicate_succ,List.flatten_cons,List.append_assoc]
  rw [<- e2,<- vi its k (acc ++ its),<- e,List.replicate_succ,List.foldl_cons]
section
variable {X:Cx}{pins:List (Addr × Obj)}{σ:St}{H:Hp}{s:Shared}{l b:Addr}{xs ys zs:List V}
theorem Inv.lset {its its':List Value}{n:Nat}{f:Array Value->Array Value}{t':Nat}(I:Inv X pins σ H s)(hH:H l=some (.lst xs))
  (e:s.heap.get? l=some { cls:=.type "list",data:=.seq its.toArray n }) (hf:f its.toArray=its'.toArray) (hv:zw ys its') (hz:ys.length<=sizeLine) :
  Inv X pins σ (upd H l (.lst ys)) { s with heap:=s.heap.update l (Obj.mapSeq f),toks:=t' }:=by
 have q:=PySem.IsL.update e f
 rw [hf] at q
 refine I.write (x:=l) (e:=l) (by rw [hH];exact trivial) (.inl rfl) (fun b' u hb hu=>(Heap.get?_update_other s.heap (Obj.mapSeq f) (Ne.symm hb)).trans hu) ⟨_,q⟩ ?_
 exact ⟨hz,its',_,hv,q⟩
theorem Inv.lnew {its:List Value}{t':Nat}(I:Inv X pins σ H s)(hv:zw ys its)(hz:ys.length<=sizeLine) :
  Inv X pins σ (upd H s.heap.objs.size (.lst ys)) { s with heap:=s.heap.push { cls:=.type "list",data:=.seq its.toArray },toks:=t' }:=
 I.laid (fun _ _ q=>Heap.get?_push_of_some _ q) (Nat.le_refl _) ⟨hz,its,0,hv,Heap.get?_push_size _ rfl⟩
theorem Inv.fresh (I:Inv X pins σ H s):H s.heap.objs.size=none:=I.hok.fresh (Nat.le_refl _)
theorem Inv.lstM (I:Inv X pins σ H s)(hH:H l=some (.lst xs)):xs.length<=sizeLine/\∃ (its:List Value) (n:Nat),zw xs its/\xs.length=its.length/\s.heap.get? l=some { cls:=.type "list",data:=.seq its.toArray n }:=by
 obtain ⟨z,its,n,r,e⟩:=I.hok l _ hH
 exact ⟨z,its,n,r,r.length,e⟩
theorem wN {n:Nat}(h:n<=sizeLine):Builtin.List.listTooLong n=false:=by
 unfold Builtin.List.listTooLong
 exact decide_eq_false (by omega)
end
section
variable {X:Cx}
noncomputable def xE:V->List V->Hp->VK->Prop:=fun x vs H Q=>∃ l xs y,x=.ref l/\vs=[y]/\H l=some (.lst xs)/\xs.length<sizeLine/\Q .non (upd H l (.lst (xs ++ [y])))
theorem y6:MtM X "list.append" xE:=by
 intro pins s σ H x vs v us Q I rx rv h
 obtain ⟨l,xs,y,rfl,rfl,hH,hz,q⟩:=h
 cases rx
 obtain ⟨u,rfl,ru⟩:=rv.one
 obtain ⟨z,its,n,r,hl,e⟩:=I.lstM hH
 refine call_meets F.slot_list_append ⟨_,e,rfl⟩ F.entry_list_append (F.args_list_append_2 _ _) (PySem.list_append l its.toArray n u (by rw [List.size_toArray];omega)) ⟨e,?_⟩
 refine ⟨.non,_,I.lset (its':=its ++ [u]) hH e (by simp) (r.append (.cons ru .nil)) ?_,rfl,q⟩
 rw [List.length_append,List.length_singleton]
 omega
noncomputable def QM:V->List V->Hp->VK->Prop:=fun x vs H Q=>∃ l b xs zs,x=.ref l/\vs=[.ref b]/\H l=some (.lst xs)/\H b=some (.lst zs)/\xs.length+zs.length<=sizeLine/\Q .non (upd H l (.lst (xs ++ zs)))
theorem BQ:MtM X "list.extend" QM:=by
 intro pins s σ H x vs v us Q I rx rv h
 obtain ⟨l,b,xs,zs,rfl,rfl,hH,hB,hz,q⟩:=h
 cases rx
 obtain ⟨u,rfl,ru⟩:=rv.one
 cases ru
 obtain ⟨z,its,n,r,hl,e⟩:=I.lstM hH
 obtain ⟨z2,its2,n2,r2,hl2,e2⟩:=I.lstM hB
 have hsz:its.toArray.size+its2.toArray.size<=sizeLine:=by rw [List.size_toArray,List.size_toArray];omega
 have hlong:¬ (!its.toArray.isEmpty && Builtin.List.listTooLong (its.toArray.size+its2.toArray.size))=true:=by
  rw [wN hsz,Bool.and_false]
  exact Bool.false_ne_true
 refine call_meets F.slot_list_extend ⟨_,e,rfl⟩ F.entry_list_extend (F.args_list_extend_2 _ _)
  (AutoSeq1.list_extend_list_list_0 l its.toArray n b its2.toArray n2 hlong (by rw [List.size_toArray];omega) (by omega)) ⟨e,e2,?_⟩
 refine ⟨.non,_,I.lset (its':=its ++ its2) hH e (by simp) (r.append r2) ?_,rfl,q⟩
 rw [List.length_append]
 omega
noncomputable def Av:V->List V->Hp->VK->Prop:=fun x vs H Q=>∃ l xs y,x=.ref l/\vs=[]/\H l=some (.lst xs)/\xs[xs.length - 1]?=some y/\Q y (upd H l (.lst xs.dropLast))
theorem By:MtM X "list.pop" Av:=by
 intro pins s σ H x vs v us Q I rx rv h
 obtain ⟨l,xs,y,rfl,rfl,hH,hy,q⟩:=h
 cases rx
 have hus:=rv.zero
 subst hus
 obtain ⟨z,its,n,r,hl,e⟩:=I.lstM hH
 obtain ⟨u,hu,ru⟩:=r.get hy
 have hy':its.toArray[its.toArray.size - 1]?=some u:=by
  show its.toArray[its.length - 1]?=some u
  rw [<- Array.getElem?_toList,<- hl]
  exact hu
 refine call_meets F.slot_list_pop ⟨_,e,rfl⟩ F.entry_list_pop (F.args_list_pop_1 _) (MeetsSeq.list_pop_last l its.toArray n u hy' (by rw [List.size_toArray];omega)) ⟨e,?_⟩
 refine ⟨y,_,I.lset (its':=its.dropLast) hH e ?_ r.dropLast ?_,ru,q⟩
 ·show its.toArray.eraseIdxIfInBounds (its.toArray.size - 1)=its.dropLast.toArray
  rw [List.size_toArray,List.eraseIdxIfInBounds_toArray,ZR]
 ·rw [List.length_dropLast]
  omega
noncomputable def Wm:R2:=fun x y H Q=>∃ l b xs zs,x=.ref l/\y=.ref b/\H l=some (.lst xs)/\H b=some (.lst zs)/\xs.length+zs.length<=sizeLine/\∀ p,H p=none->Q (.ref p) (upd H p (.lst (xs ++ zs)))
theorem yl:OpR X (binaryOp .Add) Wm:=by
 intro pins s σ H x y v u Q I rx ry h
 obtain ⟨l,b,xs,zs,rfl,rfl,hH,hB,hz,q⟩:=h
 cases rx
 cases ry
 obtain ⟨z,its,n,r,hl,e⟩:=I.lstM hH
 obtain ⟨z2,its2,n2,r2,hl2,e2⟩:=I.lstM hB
 refine PySem.P.add_list e e2 ?_ (by rw [List.size_toArray,List.size_toArray];omega)
 have ea:its.toArray ++ its2.toArray=(its ++ its2).toArray:=by simp
 rw [ea]
 exact ⟨.ref _,_,I.lnew (t':=s.toks) (r.append r2) (by rw [List.length_append];omega),rfl,q _ I.fresh⟩
noncomputable def Vn:R2:=fun x y H Q=>∃ l k xs,x=.ref l/\y=.int k/\H l=some (.lst xs)/\-(2 ^ 63)<=k/\k<2 ^ 63/\xs.length * k.toNat<=sizeLine /\
 ∀ p,H p=none->Q (.ref p) (upd H p (.lst (List.replicate k.toNat xs).flatten))
theorem VB {α:Type}(xs:List α)(k:Nat):(List.replicate k xs).flatten.length=k * xs.length:=by
 induction k with
 | zero=>simp
 | succ k ih=>rw [List.replicate_succ,List.flatten_cons,List.length_append,ih,Nat.succ_mul,Nat.add_comm]
theorem ZX:OpR X (binaryOp .Mult) Vn:=by
 intro pins s σ H x y v u Q I rx ry h
 obtain ⟨l,k,xs,rfl,rfl,hH,h1,h2,hz,q⟩:=h
 cases rx
 obtain ⟨t,rfl⟩:=ry
 obtain ⟨z,its,n,r,hl,e⟩:=I.lstM hH
 have hlen:its.toArray.size * k.toNat<=sizeLine:=by rw [List.size_toArray,<- hl];exact hz
 have hcap:¬ its.toArray.size * k.toNat > (2 ^ 63 - 1) / 8:=by
  have:(sizeLine:Nat)<=(2 ^ 63 - 1) / 8:=by decide
  omega
 have hfit:¬ (!Builtin.List.listFitsIndex k)=true:=by
  rw [fitsIndex_both h1 h2]
  exact Bool.false_ne_true
 have hlong:¬ Builtin.List.listTooLong (its.toArray.size * k.toNat)=true:=by
  rw [wN hlen]
  exact Bool.false_ne_true
 have hnew:List.foldl (fun x1 x2=>x1 ++ x2) #[] (List.replicate (if its.toArray.isEmpty=true then 0 else k.toNat) its.toArray)=(List.replicate k.toNat its).flatten.toArray:=by
  have f0:∀ m:Nat,List.foldl (fun x1 x2=>x1 ++ x2) #[] (List.replicate m its.toArray)=(List.replicate m its).flatten.toArray:=fun m=>by
   have:=vi its m []
   rw [List.nil_append] at this
   exact this
  rw [f0]
  cases its with
  | nil=>simp
  | cons a r'=>rw [if_neg (by simp)]
 refine wpAny_binaryOp_repeat_ref (T:="list") (U:="int") (by decide) ⟨_,e,rfl⟩ (fun s'=>typeIs_int s' k t) noFill_list_mul F.fills_int_mul F.slot_int_rmul repeat_list F.slot_int_index.lookup
  (call_meets F.slot_int_rmul (typeIs_int s k t) F.entry_int_rmul (F.args_int_rmul_2 _ _) (int___rmul___int_list k t l its.toArray n)
   ⟨e,rfl,⟨_,e,rfl⟩,call_meets F.slot_list_mul ⟨_,e,rfl⟩ F.entry_list_mul (F.args_list_mul_2 _ _) (AutoListH.list___mul___list_int_3 l its.toArray n k t hfit hcap hlong) ⟨e,?_⟩⟩)
 rw [hnew]
 exact ⟨.ref _,_,I.lnew (t':=s.toks) (r.rep k.toNat) (by rw [VB,Nat.mul_comm];exact hz),rfl,q _ I.fresh⟩
end
section
variable {prog:Program}{w:World}{A:Around}{E:Value->Shared->Prop}{s:Shared}
end
section
variable {X:Cx}
end
end L2
namespace Att
open PySem PySem.W PySem.Calls PyProof.Rows
theorem xv {P:Params}{h:Heap}:∀ (ns:List Int) (vs:List Value),WellAll P h vs (ns.map WData.int)->IntsAre vs ns:=by
 intro ns
 induction ns with
 | nil=>
  intro vs w
  rw [List.map_nil] at w
  cases w
  exact .nil
 | cons n ns ih=>
  intro vs w
  rw [List.map_cons] at w
  cases w with
  | cons a b=>
   cases a
   exact .cons _ _ (ih _ b)
theorem J2 {l:OpenLaw}{n:Nat}(hn:l.most=some n){P:Params}{h:Heap}{args:List WData}{vals:List Value}
  (hpre:l.row.toRowW.claim.pre args=true) (hwl:WellAll P h vals args) :
  ∃ a vs ns,vals=[Value.ref a]/\args=[WData.list (ns.map WData.int)]/\h.get? a=some { cls:=.type "list",data:=.seq vs.toArray }/\IntsAre vs ns/\ns.length<=n:=by
 have hsh:WShape.hasAll [] args [.list .int]=true:=(pre_splitW hpre).1
 have hc:l.pre.holds [] { args:=args }=true:=(pre_splitW hpre).2
 obtain ⟨d,r,rfl,h1,h2⟩:=hasAllW_cons hsh
 obtain rfl:=hasAllW_nil h2
 obtain ⟨xs,rfl,h3⟩:=hasW_list h1
 obtain ⟨ns,rfl⟩:=items_int h3
 have hlen:ns.length<=n:=by
  unfold OpenLaw.pre at hc
  have h4:(WTm.not (.lt (.lit (.int (n:Int))) (.len (.arg 0)))).holds [] { args:=[.list (ns.map .int)] }=true:=by
   have h4:=(holds_andW hc).1
   rw [hn] at h4
   exact h4
  have h5:=condW_of h4 (w_not (w_lt w_lit (w_len_list (w_arg rfl))))
  rw [List.length_map] at h5
  refine Nat.le_of_not_lt fun q=>?_
  have q':(n:Int)<((ns.length:Nat):Int):=by omega
  first
   | (rw [decide_eq_true q'] at h5;exact absurd h5 (by decide))
   | (simp at h5;omega)
 cases hwl with
 | cons w1 w2=>
  cases w2
  cases w1 with
  | list ho hall=>exact ⟨_,_,ns,rfl,rfl,ho,xv ns _ hall,hlen⟩
theorem JL (l:OpenLaw)(args:List WData):l.row.toRowW.claim.post args (.bool true) args=true:=
 postW_of (r:=l.row.toRowW) (X:=(true == true))
  (show WShape.has [] (.bool true) .bool=true by first | rfl | decide | simp [WShape.has,WShape.arms,WShape.armsAll])
  (show (WTm.eq .res (.lit (.bool true))).value [] { args:=args,res:=some (.bool true),after:=args }=some (.bool (true == true)) from w_eq_bool (w_res rfl) w_lit) rfl
theorem attach_call {l:OpenLaw}{n:Nat}{q:Program}{loose:List Str}{XP:(Str->Option Value)->Heap->Prop}{YP:World->Heap->Prop}{d:DefRec}
  (hn:l.most=some n) (hdf:d.params.defaults=[])
  (call:∀ (w:World) (s₀ s₁:Shared) (mg mb:Str->Option Value) (fa:Addr) (o:Obj) (pm cd doc:Value) (a:Addr) (vs:List Value) (ns:List Int),
   Ground q loose [] XP w s₀ mg mb s₁.heap->YP w s₁.heap ->
   s₁.heap.get? fa=some o->o.data=.func (docDef d.name d.params d.body d.scope pm cd doc)->s₁.heap.CodeRec cd d.name->mg d.name=some (.ref fa) ->
   s₁.heap.get? a=some { cls:=.type "list",data:=.seq vs.toArray }->IntsAre vs ns->ns.length<=n->s₁.gens=#[] ->
   codeAny (model l.prog w) callerA (.call (.ref fa) ⟨[.ref a],[]⟩) (fun r s'=>r=.ok (.ret (.bool true))/\OldK s₁.heap s'.heap/\s'.os=s₁.os/\AllBare s'.gens) s₁) :
  WalkO q loose XP YP l.row.toRowW d [] (fun f vs=>PySem.call f vs):=by
 intro w s₀ s₁ mg mb G Y fa o pm cd doc dV kV ho hd hcd hD hmg hg args vals as hpre hlay hrd hwl hlo
 obtain rfl:dV=.none:=Dflts.none hD hdf
 obtain rfl:kV=.none:=Dflts.noKw hD
 obtain ⟨a,vs,ns,rfl,rfl,hobj,hints,hlen⟩:=J2 hn hpre hwl
 refine enter_call (codeAny_mono (call w s₀ s₁ mg mb fa o pm cd doc a vs ns G Y ho (fd_plain hd) hcd hmg hobj hints hlen hg) fun r s' hq=>?_)
 obtain ⟨rfl,h2,h3,h4⟩:=hq
 exact ⟨.inl ⟨.bool true,.bool true,[],rfl,fun _=>rfl,.bool true,JL l _,fun _=>⟨List.Pairwise.nil,fun _ hm=>(nomatch hm)⟩⟩,h2,h3,h4⟩
section
variable {prog:Program}{w:World}{A:Around}{E:Value->Shared->Prop}{s:Shared}{K:Frag}
noncomputable def DL (h:Heap)(L d:Addr):List (Addr × Obj):=(List.range h.objs.size).filterMap fun a=>if a=L \/ a=d then none else (h.get? a).map fun o=>(a,o)
end
end Att
namespace L2
open PySem PySem.Spec PyProof.Rows
theorem xl:∀ {vs:List Value} {ns:List Int},IntsAre vs ns->zw (ns.map V.int) vs
 | _,_,.nil=>.nil
 | _,_,.cons n t h=>.cons ⟨t,rfl⟩ (xl h)
noncomputable def BN (H:Hp):Prop:=∀ b,H b=none \/ ∃ o xs,H b=some (.frz o (.lst xs))
theorem KB {P:Program}{w:World}{K:PySem.W.Frag}{mg mb:Str->Option Value}{CX:CXT}{k:Nat}{fa a:Addr}{fd:FuncData}{x:Str}{sp:Sp}{s₁:Shared}{vs:List Value}{ns:List Int}
  (KX:K.In s₁.heap) (hns:s₁.heap.Ns mainGlobals mg) (hb:s₁.heap.Ns builtinsNs mb) (hbb:∀ x:Str,x ≠ "__name__"->mb x=bootBuiltins x) (hlim:s₁.heap.NoLimit) (hg:s₁.gens=#[])
  (ha:s₁.heap.get? a=some { cls:=.type "list",data:=.seq vs.toArray }) (hi:IntsAre vs ns) (hl:ns.length<=sizeLine) (hr:jw k callerA)
  (F:∀ base:Heap,K.In base->base.Ns mainGlobals mg->kf P w K mg base CX k fa fd [x] sp) (hbind:∀ (s:Shared) (u:Value),BindsTo s fd ⟨[u],[]⟩ [(x,u)])
  (hsp:∀ H:Hp,BN H->SqL K H a (ns.map V.int)->sp [.ref a] H (fun v _=>v=.bl true) fun _ _ _=>False)
  (hCX:∀ H e s',CX [] H s₁ (fun _ _ _=>False) e s'->False) :
  codeAny (model P w) callerA (.call (.ref fa) ⟨[.ref a],[]⟩) (fun r s'=>r=.ok (.ret (.bool true))/\OldK s₁.heap s'.heap/\s'.os=s₁.os/\AllBare s'.gens) s₁:=by
 have rv:=xl hi
 have lenV:=hi.length
 have core:∀ H:Hp,BN H->SqL K H a (ns.map V.int)->HOk P w H s₁.heap->(∀ b,H b ≠ none->b=a)->(H a ≠ none->K.lookup a=none) ->
   codeAny (model P w) callerA (.call (.ref fa) ⟨[.ref a],[]⟩) (fun r s'=>r=.ok (.ret (.bool true))/\OldK s₁.heap s'.heap/\s'.os=s₁.os/\AllBare s'.gens) s₁:=by
  intro H hO hS hok hA hK
  have base_of:∀ {b:Addr} {o:Obj},s₁.heap.get? b=some o->H b=none->(vp s₁.heap H).get? b=some o:=fun e n=>KL e n
  have noA:∀ {b:Addr} {o:Obj} {es:Array DictEntry} {ep:Nat},s₁.heap.get? b=some o->o.data=.dict es ep->H b=none:=fun {b o es ep} e d=>by
   cases q:H b with
   | none=>rfl
   | some u=>
    have e':b=a:=hA b (by rw [q];simp)
    subst e'
    rw [ha] at e;cases e
    have d':Data.seq vs.toArray _=Data.dict es ep:=d
    cases d'
  have nsK:∀ {b:Addr} {m:Str->Option Value},s₁.heap.Ns b m->(vp s₁.heap H).Ns b m:=fun {b m} ⟨o,es,ep,e,d,r⟩=>⟨o,es,ep,base_of e (noA e d),d,r⟩
  have hKb:K.In (vp s₁.heap H):=fun b o e=>base_of (KX b o e) (by
   cases q:H b with
   | none=>rfl
   | some u=>
    have e':b=a:=hA b (by rw [q];simp)
    subst e'
    rw [hK (by rw [q];simp)] at e;cases e)
  have hM:Mod K mg (vp s₁.heap H):=⟨hKb,nsK hns,⟨mb,nsK hb,hbb⟩,let ⟨mc,h1,h2⟩:=hlim;⟨mc,nsK h1,h2⟩⟩
  have e0:Y7 P w K mg (vp s₁.heap H) callerA [] s₁ H:=⟨rfl,hM,fun b o e=>Wn e,Nat.le_of_eq (Jd _ _),trivial,fun b hb=>absurd (show b ∈ ([]:List Addr) from hb) (by simp),hok,.of_eq hg⟩
  refine codeAny_mono ((F _ hKb (nsK hns)).run callerA [] s₁ H ⟨[.ref a],[]⟩ [.ref a] [.ref a] _ _ hr e0 (hbind s₁ (.ref a)) (.cons rfl .nil) (hsp H hO hS)) fun r s' h=>?_
  cases r with
  | error e=>exact (hCX H e s' h).elim
  | ok fl=>
   cases fl with
   | next=>exact False.elim h
   | brk=>exact False.elim h
   | cont=>exact False.elim h
   | ret u=>
    obtain ⟨v,H',os,bare,un,hok',r',q⟩:=h
    have q':v=.bl true:=q
    subst q'
    obtain rfl:u=Value.bool true:=r'
    refine ⟨rfl,OldK.of_keep fun b o e=>?_,os,bare⟩
    cases q:H b with
    | none=>exact un.keep b o e q (by intro z;exact absurd (show b ∈ ([]:List Addr) from z) (by simp)) (by simp)
    | some u=>
     rcases hO b with z | ⟨ob,xs,z⟩
     ·rw [q] at z;cases z
     ·have z2:=un.frzs b ob _ z
      obtain ⟨e1,_⟩:=hok b _ z
      obtain ⟨e2,_⟩:=hok' b _ z2
      rw [e] at e1;cases e1
      exact e2
 cases hk:K.lookup a with
 | some o=>
  have e:=KX a o hk
  rw [ha] at e
  cases e
  refine core (fun _=>none) (fun _=>.inl rfl) (.inr ⟨_,vs.toArray,_,hk,rfl,rfl,rfl,by rw [List.size_toArray,lenV];exact hl,by simpa using rv⟩) (fun b u z=>by have z':(none:Option HO)=some u:=z;cases z') (fun b z=>absurd rfl z) fun z=>absurd rfl z
 | none=>
  refine core (fun b=>if b=a then some (.frz { cls:=.type "list",data:=.seq vs.toArray } (.lst (ns.map V.int))) else none) (fun b=>?_) (.inl (.inr ⟨{ cls:=.type "list",data:=.seq vs.toArray },if_pos rfl⟩)) (fun b u z=>?_) (fun b z=>?_) fun _=>hk
  ·by_cases hb:b=a
   ·exact .inr ⟨_,_,if_pos hb⟩
   ·exact .inl (if_neg hb)
  ·by_cases hb:b=a
   ·have z':=(if_pos hb).symm.trans z
    cases z'
    subst hb
    exact ⟨ha,by rw [List.length_map];exact hl,vs,_,rv,ha⟩
   ·have z':=(if_neg hb).symm.trans z
    cases z'
  ·by_cases hb:b=a
   ·exact hb
   ·exact absurd (if_neg hb) z
noncomputable abbrev KOf {K:PySem.W.Frag}{h:Heap}(_:K.In h):PySem.W.Frag:=K
theorem walk_of {l:PySem.W.OpenLaw}{n k:Nat}{q:Program}{loose:List Str}{XP:(Str->Option Value)->Heap->Prop}{YP:World->Heap->Prop}{d:DefRec}{K:Params->PySem.W.Frag}{CX:World->CXT}{sp:World->Sp}{x:Str}
  (hn:l.most=some n) (hn2:n<=sizeLine) (hdf:d.params.defaults=[]) (hr:jw k callerA)
  (hY:∀ (w:World) (h:Heap),YP w h->(K w.params).In h)
  (F:∀ (w:World) (mg:Str->Option Value) (fa:Addr) (h:Heap),(K w.params).In h->h.Ns mainGlobals mg->mg d.name=some (.ref fa) ->
   ∃ fd:FuncData,(∀ (s:Shared) (u:Value),BindsTo s fd ⟨[u],[]⟩ [(x,u)]) /\
    ∀ base:Heap,(K w.params).In base->base.Ns mainGlobals mg->kf l.prog w (K w.params) mg base (CX w) k fa fd [x] (sp w))
  (hsp:∀ (w:World) (H:Hp) (a:Addr) (ns:List Int),ns.length<=n->BN H->SqL (K w.params) H a (ns.map V.int)->sp w [.ref a] H (fun v _=>v=.bl true) fun _ _ _=>False)
  (hCX:∀ (w:World) (H:Hp) (s:Shared) (e:Value) (s':Shared),CX w [] H s (fun _ _ _=>False) e s'->False) :
  PySem.W.WalkO q loose XP YP l.row.toRowW d [] (fun f vs=>PySem.call f vs):=by
 refine Att.attach_call hn hdf fun w s₀ s₁ mg mb fa o pm cd doc a vs ns G Y ho hd hcd hmg hobj hints hlen hg=>?_
 have KX:=hY w _ Y
 obtain ⟨fd,hb,hF⟩:=F w mg fa _ KX G.T.g hmg
 exact KB KX G.T.g G.T.b G.T.builtins G.T.nolimit hg hobj hints (Nat.le_trans hlen hn2) hr hF hb (fun H hO hS=>hsp w H a ns hlen hO hS) fun H e s'=>hCX w H s₁ e s'
end L2
/- THE LAST THEOREM (shape;LID,My.* are yours):
   My.Adr: a structure of the addresses that your layer names (classes,functions);My.Txt K t: a structure (Prop) of the equations over K;
   My.txt_mk:{K} {implicit addresses ..} (e1:nsIn K mainGlobals "law"=some (some (.ref f))) (e2:K.lookup f=some ⟨oc,od,.func (fnOf "law" "law" params body scope dV kV doc pm an cdv ct),sl⟩) (e3:codeIn K cdv "law"=true) ..:∃ t,My.Txt K t
set_option maxRecDepth 100000 in
set_option maxHeartbeats 0 in
theorem PySem.Challenge.cw_LID_holds:PySem.Challenge.rw_LID.Holds:=by
 w_on;o_law;k_head;(case hw=>w_witness2)
 k_fill
 refine L2.walk_of (l:=PySem.Challenge.rw_LID) (n:=63) (k:=40) (x:="script") (CX:=fun w=>..) (sp:=fun _=>My.sp_law) rfl (by decide) rfl ⟨rfl,by decide,by decide⟩ (fun w h Y=>PySem.W.kIn_of Y) ?F ?S ?C
 case F=>
  intro w mg fa h KX G hmg
  have T:∃ t,My.Txt (L2.KOf KX) t:=by
   dsimp only [L2.KOf]                          -- K must stand as «<heap const> w.params» for k_is
   refine' My.txt_mk ?e1 ?e2 ?e3 ..
   (case e1=>PySem.W.k_is)                    -- in the order: a name->its address->its object->its parts
   (case e2=>PySem.W.k_is)
   ..
  obtain ⟨t,T⟩:=T
  have e0:=hmg.symm.trans (PySem.W.mg_of KX G T.law)
  cases e0                                       -- fa is the law's own address
  exact ⟨_,fun s u=>.of_eq rfl,fun base kb nb=>My.law_fn T kb nb⟩     -- if «.of_eq rfl» comes too early: refine' ⟨_,?b,fun base kb nb=>My.law_fn T kb nb⟩;exact fun s u=>.of_eq rfl
 case S=>exact fun w H a ns hl hO hS=>..
 case C=>exact ..
(the tactic k_is has no namespace: write k_is) -/
namespace L2
open PySem PySem.Spec PyProof.Rows
noncomputable def jn (s:Stmt):Arguments:=match s with
 | .FunctionDef _ a _ _ _ _ _ _ _ _=>a
 | _=>{ posonlyargs:=[],args:=[],vararg:=none,kwonlyargs:=[],kw_defaults:=[],kwarg:=none,defaults:=[] }
noncomputable def qN (s:Stmt):List Stmt:=match s with
 | .FunctionDef _ _ b _ _ _ _ _ _ _=>b
 | _=>[]
noncomputable def zn (s:Stmt):Scope:=match s with
 | .FunctionDef _ _ _ _ _ _ sc _ _ _=>sc
 | _=>{ kind:=.function,names:=[],isGenerator:=false,isCoroutine:=false }
noncomputable abbrev CX0:CXT:=fun _ _ _ _ _ _=>False
noncomputable abbrev E0:XK:=fun _ _ _=>False
theorem BS {X:Cx}:ZM CX0 X E0:=fun _ _ _ _ _ _ _ h=>h.elim
structure Fun (K:PySem.W.Frag)(x qual:Str)(st:Stmt)(f:Addr)(fd:FuncData):Prop where
 ex:∃ (oc:Value) (od:Option Addr) (kV doc pm:Value) (an:Option Addr) (cdv ct:Value) (osl:Array (Option Value)),
  fd=PySem.W.fnOf x qual (jn st) (qN st) (zn st) .none kV doc pm an cdv ct/\K.lookup f=some ⟨oc,od,.func fd,osl⟩/\PySem.W.codeIn K cdv qual=true
 kp:PySem.W.keepIn K (.ref f)=true
section
variable {P:Program}{w:World}{K:PySem.W.Frag}{mg:Str->Option Value}{base:Heap}
theorem Fun.ok {x qual:Str}{st:Stmt}{f:Addr}{fd:FuncData}{N ps:List Str}{k:Nat}{sp:Sp}(F:Fun K x qual st f fd)(S:zO N ps (zn st))(len:∀ vs H Q E,sp vs H Q E->vs.length=ps.length)
  (hbody:∀ (cdv:Value) (A:Around) (outer:List Env) (s:Shared) (H:Hp) (vs:List V) (Q:VK) (E:XK),jw k (A.deeper (envOfC qual (zn st) s.heap.objs.size f cdv))->sp vs H Q E ->
   ∃ t,PSs (vM CX0 P w K mg base N qual (zn st) f cdv A outer s H E).nox (qN st) t/\t { nx:=fun _ H'=>Q .non H',rt:=Q } (jk N vs) H):kf P w K mg base CX0 (k+1) f fd ps sp:=by
 obtain ⟨oc,od,kV,doc,pm,an,cdv,ct,osl,rfl,lk,hcd⟩:=F.ex
 refine DE lk hcd S len fun A outer s H vs Q E hr hsp=>?_
 obtain ⟨t,h,q⟩:=hbody cdv A outer s H vs Q E hr hsp
 exact ⟨t,h.nox,q⟩
theorem Fun.binds {x qual:Str}{st:Stmt}{f:Addr}{fd:FuncData}{ps:List Str}(F:Fun K x qual st f fd)
  (h:∀ (kV doc pm:Value) (an:Option Addr) (cdv ct:Value) (us:List Value),us.length=ps.length->bindArgs (PySem.W.fnOf x qual (jn st) (qN st) (zn st) .none kV doc pm an cdv ct) ⟨us,[]⟩=pure (ps.zip us)):yP K fd ps []:=by
 obtain ⟨oc,od,kV,doc,pm,an,cdv,ct,osl,rfl,lk,hcd⟩:=F.ex
 exact .all (h kV doc pm an cdv ct)
theorem Yq {x qual:Str}{st:Stmt}{f:Addr}{oc:Value}{od an:Option Addr}{osl:Array (Option Value)}{kV doc pm cdv ct:Value}(l:K.lookup f=some ⟨oc,od,.func (PySem.W.fnOf x qual (jn st) (qN st) (zn st) .none kV doc pm an cdv ct),osl⟩)
  (c:PySem.W.codeIn K cdv qual=true) (k:PySem.W.keepIn K (.ref f)=true):Fun K x qual st f (PySem.W.fnOf x qual (jn st) (qN st) (zn st) .none kV doc pm an cdv ct):=⟨⟨oc,od,kV,doc,pm,an,cdv,ct,osl,rfl,l,c⟩,k⟩
end
theorem Qw {A:Around}{k:Nat}(hr:jw k A):A.units+1<cLine:=Nat.lt_of_le_of_lt (Nat.add_le_add_left (by decide:1<=64) _) hr.units
theorem JS {n:Nat}(h:n<=1000):n<sizeLine:=Nat.lt_of_le_of_lt h (by decide)
section
variable {X:Cx}
theorem pv (i:Nat){x:Str}{pos:Pos}(hN:X.N[i]?=some x:=by rfl)(hv:Vis X.env.scope x:=by first | exact Or.inl rfl | exact Or.inr (Or.inl rfl) | exact Or.inr (Or.inr rfl))(hd:(x == ("__debug__":Str))=false:=by decide)
  (hcd:(x == ("__classdict__":Str))=false:=by decide):PE X (.Name x pos) (Wx i):=A7 hN hv hd hcd
end
theorem Dx {c A B:Prop}[Decidable c](h1:c->A)(h2:¬ c->B):if c then A else B:=by
 by_cases h:c
 ·rw [if_pos h]
  exact h1 h
 ·rw [if_neg h]
  exact h2 h
section
variable {κ:Type}[DecidableEq κ]
noncomputable def xA (kvs:List (κ × V))(k:κ):Option V:=(kvs.find? fun kv=>decide (kv.1=k)).map (·.2)
noncomputable def jA (kvs:List (κ × V))(k:κ)(v:V):List (κ × V):=
 if (kvs.any fun kv=>decide (kv.1=k))=true then kvs.map (fun kv=>if kv.1=k then (kv.1,v) else kv) else kvs ++ [(k,v)]
theorem kK {p:κ × V}{r:List (κ × V)}{k:κ}(e:p.1=k):xA (p :: r) k=some p.2:=by simp [xA,List.find?_cons,e]
theorem kW {p:κ × V}{r:List (κ × V)}{k:κ}(e:¬ p.1=k):xA (p :: r) k=xA r k:=by simp [xA,List.find?_cons,e]
theorem wU (k:κ):∀ kvs:List (κ × V),(kvs.any fun kv=>decide (kv.1=k))=(xA kvs k).isSome
 | []=>rfl
 | p :: r=>by
  rw [List.any_cons]
  by_cases e:p.1=k
  ·simp only [kK e,decide_eq_true e,Bool.true_or,Option.isSome_some]
  ·rw [kW e,decide_eq_false e,Bool.false_or];exact wU k r
theorem j4 (kvs:List (κ × V))(k:κ)(v:V):(jA kvs k v).length<=kvs.length+1:=by
 unfold jA
 split
 ·rw [List.length_map];omega
 ·rw [List.length_append,List.length_cons,List.length_nil];omega
theorem xU.isSome_eq {o:Option V}{u:Option Value}(r:xU o u):o.isSome=u.isSome:=by
 cases o with
 | none=>cases u with
  | none=>rfl
  | some _=>exact (show False from r).elim
 | some _=>cases u with
  | none=>exact (show False from r).elim
  | some _=>rfl
theorem KV.val {kvs:List (κ × V)}{vs:List (κ × Value)}(r:KV kvs vs)(k:κ):xU (xA kvs k) (valueAt vs k):=by
 unfold KV at r
 induction r with
 | nil=>exact True.intro
 | @cons p q ps qs h t ih=>
  obtain ⟨h1,h2⟩:=h
  by_cases e:p.1=k
  ·have e':q.1=k:=h1.symm.trans e
   have b:valueAt (q :: qs) k=some q.2:=by simp [valueAt,List.find?_cons,e']
   rw [kK e,b];exact h2
  ·have e':¬ q.1=k:=fun z=>e (h1.trans z)
   have b:valueAt (q :: qs) k=valueAt qs k:=by simp [valueAt,List.find?_cons,e']
   rw [kW e,b];exact ih
theorem KV.any {kvs:List (κ × V)}{vs:List (κ × Value)}(r:KV kvs vs)(k:κ):(kvs.any fun kv=>decide (kv.1=k))=vs.any fun kv=>decide (kv.1=k):=by
 unfold KV at r
 induction r with
 | nil=>rfl
 | cons h t ih=>rw [List.any_cons,List.any_cons,ih,h.1]
theorem KV.repl {kvs:List (κ × V)}{vs:List (κ × Value)}(r:KV kvs vs)(k:κ){y:V}{u:Value}(ry:zx y u) :
  KV (kvs.map fun kv=>if kv.1=k then (kv.1,y) else kv) (vs.map fun kv=>if kv.1=k then (kv.1,u) else kv):=by
 unfold KV at r ⊢
 induction r with
 | nil=>exact .nil
 | @cons p q ps qs h t ih=>
  rw [List.map_cons,List.map_cons]
  refine .cons ?_ ih
  obtain ⟨h1,h2⟩:=h
  by_cases e:p.1=k
  ·rw [if_pos e,if_pos (h1.symm.trans e)];exact ⟨h1,ry⟩
  ·rw [if_neg e,if_neg (fun z=>e (h1.trans z))];exact ⟨h1,h2⟩
theorem KV.put {kvs:List (κ × V)}{vs:List (κ × Value)}(r:KV kvs vs)(k:κ){y:V}{u:Value}(ry:zx y u):KV (jA kvs k y) (stored vs k u):=by
 unfold jA stored
 rw [r.any k]
 by_cases e:(vs.any fun kv=>decide (kv.1=k))=true
 ·rw [if_pos e,if_pos e];exact r.repl k ry
 ·rw [if_neg e,if_neg e];exact Paired.snoc r ⟨rfl,ry⟩
theorem KV.length {kvs:List (κ × V)}{vs:List (κ × Value)}(r:KV kvs vs):kvs.length=vs.length:=Paired.length r
end
theorem Q6 {P:Program}{w:World}{k:Key}{u:Value}(r:zx (kV k) u):(qa P w).is k u=true:=by
 cases k with
 | inl i=>obtain ⟨t,e⟩:=(show ∃ t,u=Value.int i t from r);subst e;exact wb P w i t
 | inr x=>obtain ⟨t,e⟩:=(show ∃ t,u=Value.str x t from r);subst e;exact Zg P w x t
theorem yO {P:Program}{w:World}:∀ {ks:List Key} {us:List Value},zw (ks.map kV) us->ItemsAre (qa P w) ks us
 | [],_,r=>by rw [List.map_nil] at r;cases r;exact .nil
 | k :: ks,_,r=>by
  rw [List.map_cons] at r
  cases r with
  | cons h t=>exact .cons (Q6 h) (yO t)
noncomputable abbrev KT (H:Hp):List (List Key × V)->List (List Key × Addr × Value)->Prop:=Paired fun p q=>p.1=q.1/\H q.2.1=some (.tup (p.1.map kV))/\zx p.2 q.2.2
theorem KT.val {H:Hp}{kvs:List (List Key × V)}{xs:List (List Key × Addr × Value)}(r:KT H kvs xs)(k:List Key):xU (xA kvs k) ((atKey xs k).map (·.2)):=by
 induction r with
 | nil=>exact True.intro
 | @cons p q ps qs h t ih=>
  obtain ⟨h1,_,h2⟩:=h
  by_cases e:p.1=k
  ·have e':q.1=k:=h1.symm.trans e
   have b:atKey (q :: qs) k=some q.2:=by simp [atKey,List.find?_cons,e']
   rw [kK e,b];exact h2
  ·have e':¬ q.1=k:=fun z=>e (h1.trans z)
   have b:atKey (q :: qs) k=atKey qs k:=by simp [atKey,List.find?_cons,e']
   rw [kW e,b];exact ih
theorem KT.repl {H:Hp}{kvs:List (List Key × V)}{xs:List (List Key × Addr × Value)}(r:KT H kvs xs)(k:List Key){y:V}{u:Value}(ry:zx y u) :
  KT H (kvs.map fun kv=>if kv.1=k then (kv.1,y) else kv) (xs.map (putAt k u)):=by
 induction r with
 | nil=>exact .nil
 | @cons p q ps qs h t ih=>
  rw [List.map_cons,List.map_cons]
  refine .cons ?_ ih
  obtain ⟨h1,h2,h3⟩:=h
  unfold putAt
  by_cases e:p.1=k
  ·rw [if_pos e,if_pos (h1.symm.trans e)];exact ⟨h1,h2,ry⟩
  ·rw [if_neg e,if_neg (fun z=>e (h1.trans z))];exact ⟨h1,h2,h3⟩
theorem KT.put {H:Hp}{kvs:List (List Key × V)}{xs:List (List Key × Addr × Value)}(r:KT H kvs xs)(k:List Key){b:Addr}{y:V}{u:Value}(hb:H b=some (.tup (k.map kV)))(ry:zx y u) :
  KT H (jA kvs k y) (storedH xs k b u):=by
 have e:(kvs.any fun kv=>decide (kv.1=k))=(atKey xs k).isSome:=by
  rw [wU,(r.val k).isSome_eq,Option.isSome_map]
 unfold jA storedH
 rw [e]
 by_cases q:(atKey xs k).isSome=true
 ·rw [if_pos q,if_pos q];exact r.repl k ry
 ·rw [if_neg q,if_neg q];exact Paired.snoc r ⟨rfl,hb,ry⟩
theorem KT.keeps {H H':Hp}{kvs:List (List Key × V)}{xs:List (List Key × Addr × Value)}(r:KT H kvs xs)(ht:∀ b ys,H b=some (.tup ys)->H' b=some (.tup ys)):KT H' kvs xs:=
 Paired.mapP r fun _ _ z=>⟨z.1,ht _ _ z.2.1,z.2.2⟩
section
variable {P:Program}{w:World}{H:Hp}{h:Heap}{a:Addr}
theorem Wz {u:HO}(ok:HOk P w H h)(e:Rd H a u):zL P w H h a u:=e.ok ok
theorem Xl {kvs:List (Key × V)}(ok:HOk P w H h)(e:Rd H a (.dK kvs)):kvs.length<=sizeLine/\(a == sysModules)=false/\∃ vs,KV kvs vs/\h.DictOf (qa P w) a vs:=
 show zL P w H h a (.dK kvs) from Wz ok e
theorem WN {kvs:List (Key × V)}(ok:HOk P w H h)(e:H a=some (.dK kvs)):kvs.length<=sizeLine/\(a == sysModules)=false/\∃ vs,KV kvs vs/\h.DictOf (qa P w) a vs:=Xl ok (.inl e)
theorem ZZ {ks:List Key}(ok:HOk P w H h)(e:H a=some (.tup (ks.map kV))):(tupleKind (qa P w)).is h ks a:=by
 obtain ⟨_,its,r,o,h1,h2,⟨n,h3⟩,_⟩:=(show zL P w H h a (.tup (ks.map kV)) from ok a _ e)
 exact ⟨o,its.toArray,n,h1,h2,h3,by simpa using yO r⟩
theorem X7 {kvs:List (List Key × V)}(ok:HOk P w H h)(e:Rd H a (.dT kvs)):kvs.length<=sizeLine/\(a == sysModules)=false /\
  ∃ xs,KT H kvs xs/\h.DictOfH (tupleKind (qa P w)) a xs:=by
 obtain ⟨z,y,xs,r,o,es,ep,h1,h2,h3,h4,h5⟩:=(show zL P w H h a (.dT kvs) from Wz ok e)
 refine ⟨z,y,xs,r,o,es,ep,h1,h2,h3,h4,fun x hx=>?_,h5⟩
 have all:∀ {l:List (List Key × V)} {m:List (List Key × Addr × Value)},KT H l m->∀ x ∈ m,(tupleKind (qa P w)).is h x.1 x.2.1:=by
  intro l m q
  induction q with
  | nil=>intro x hx;exact nomatch hx
  | @cons p q ps qs hq t ih=>
   intro x hx
   rcases List.mem_cons.mp hx with e | hx
   ·subst e
    exact ZZ ok (by rw [<- hq.1];exact hq.2.1)
   ·exact ih x hx
 exact all r x hx
theorem BY {kvs:List (List Key × V)}(ok:HOk P w H h)(e:H a=some (.dT kvs)):kvs.length<=sizeLine/\(a == sysModules)=false /\
  ∃ xs,KT H kvs xs/\h.DictOfH (tupleKind (qa P w)) a xs:=X7 ok (.inl e)
end
noncomputable def J1 (H:Hp)(a:Addr)(y:V)(r:Option V):Prop:=
 (∃ kvs k,Rd H a (.dK kvs)/\y=kV k/\r=xA kvs k) \/ ∃ kvs k b,Rd H a (.dT kvs)/\y=.ref b/\H b=some (.tup (k.map kV))/\r=xA kvs k
noncomputable def XH (H:Hp)(a:Addr)(y v:V)(H':Hp):Prop:=
 (∃ kvs k,H a=some (.dK kvs)/\y=kV k/\kvs.length<sizeLine/\H'=upd H a (.dK (jA kvs k v))) \/
 ∃ kvs k b,H a=some (.dT kvs)/\y=.ref b/\H b=some (.tup (k.map kV))/\kvs.length<sizeLine/\H'=upd H a (.dT (jA kvs k v))
theorem J1.k {H:Hp}{a:Addr}{kvs:List (Key × V)}{k:Key}(e:H a=some (.dK kvs)):J1 H a (kV k) (xA kvs k):=.inl ⟨kvs,k,.inl e,rfl,rfl⟩
theorem XH.k {H:Hp}{a:Addr}{kvs:List (Key × V)}{k:Key}{v:V}(e:H a=some (.dK kvs))(hl:kvs.length<sizeLine):XH H a (kV k) v (upd H a (.dK (jA kvs k v))):=.inl ⟨kvs,k,e,rfl,hl,rfl⟩
section
variable {X:Cx}{pins:List (Addr × Obj)}{σ:St}{H:Hp}{s:Shared}{a:Addr}{y v:V}{u r:Value}{o:Option V}{A:Around}{E:Value->Shared->Prop}
theorem Inv.big (I:Inv X pins σ H s):sysModules<s.heap.objs.size:=by
 have h:mainGlobals<s.heap.objs.size:=(I.mod.glob.keeps I.bk).lt
 exact Nat.lt_trans (by decide) h
theorem Jo {Q:Value->Shared->Prop}(hu:A.units+1<cLine)(I:Inv X pins σ H s)(g:J1 H a y (some v))(ry:zx y u)(h:∀ w' s',Inv X pins σ H s'->zx v w'->Q w' s') :
  wpAny (model X.prog X.w) A (getItem (.ref a) u) Q E s:=by
 rcases g with ⟨kvs,k,e,ey,l⟩ | ⟨kvs,k,b,e,ey,eb,l⟩
 ·subst ey
  obtain ⟨z,hd,vs,rel,dd⟩:=Xl I.hok e
  obtain ⟨w',hw,rw'⟩:=xU.some_of (v:=v) (o:=valueAt vs k) (by rw [l];exact rel.val k)
  exact wpAny_getItem_of (Q6 ry) dd.mapOf hw (h w' _ (I.tok _) rw')
 ·subst ey
  cases (show u=Value.ref b from ry)
  obtain ⟨z,hd,xs,rel,dd⟩:=X7 I.hok e
  obtain ⟨w',hw,rw'⟩:=xU.some_of (v:=v) (o:=(atKey xs k).map (·.2)) (by rw [l];exact rel.val k)
  obtain ⟨p,hp,hp2⟩:=Option.map_eq_some_iff.mp hw
  refine wpAny_getItem_heap (tupleKind_room_in1 hu) (ZZ I.hok eb) dd hp ?_
  rw [hp2]
  exact h w' _ (I.tok _) rw'
theorem vP {h':Heap}{t':Nat}{ob:HO}(I:Inv X pins σ H s)(mu:Mut (H a))(hs:Heap.SameBut a s.heap h')(he:∃ q,h'.get? a=some q)(new:zL X.prog X.w (upd H a ob) h' a ob) :
  Inv X pins σ (upd H a ob) { s with heap:=h',toks:=t' }:=
 I.write (x:=a) (e:=a) mu (.inl rfl) (fun b q hb z=>(hs.2 b hb).trans z) he new
theorem XQ {P:Program}{w:World}{H':Hp}{h':Heap}{kvs:List (Key × V)}{vs:List (Key × Value)}(z:kvs.length<=sizeLine)(hd:(a == sysModules)=false)(rel:KV kvs vs)(dd:h'.DictOf (qa P w) a vs) :
  zL P w H' h' a (.dK kvs):=⟨z,hd,vs,rel,dd⟩
theorem JW {H':Hp}{Q:Unit->Shared->Prop}(hu:A.units+1<cLine)(I:Inv X pins σ H s)(g:XH H a y v H')(ry:zx y u)(rv:zx v r)(h:∀ s',Inv X pins σ H' s'->Q () s') :
  wpAny (model X.prog X.w) A (setItem (.ref a) u r) Q E s:=by
 rcases g with ⟨kvs,k,e,ey,l,eH⟩ | ⟨kvs,k,b,e,ey,eb,l,eH⟩
 ·subst ey eH
  obtain ⟨z,hd,vs,rel,dd⟩:=WN I.hok e
  have hz:vs.length<=sizeLine:=by rw [<- rel.length];exact z
  have hl:(jA kvs k v).length<=sizeLine:=by have:=j4 kvs k v;omega
  refine wpAny_setItem_pairs (hsz:=hz) (Q6 ry) dd fun h' dd' hs=>h _ ?_
  have he:∃ q,h'.get? a=some q:=let ⟨q,_,_,hq,_⟩:=dd';⟨q,hq⟩
  exact vP I (by rw [e];exact True.intro) hs he (XQ hl hd (rel.put k rv) dd')
 ·subst ey eH
  cases (show u=Value.ref b from ry)
  obtain ⟨z,hd,xs,rel,dd⟩:=BY I.hok e
  have hz:xs.length<=sizeLine:=by rw [<- Paired.length rel];exact z
  have hl:(jA kvs k v).length<=sizeLine:=by have:=j4 kvs k v;omega
  refine wpAny_setItem_heap (hsz:=hz) (tupleKind_room_in1 hu) (ZZ I.hok eb) dd fun h' dd' hs=>h _ ?_
  obtain ⟨q,es,ep,hq,h2,h3,h4,_,h5⟩:=dd'
  refine vP I (by rw [e];exact True.intro) hs ⟨q,hq⟩ ⟨hl,hd,_,(rel.put k eb rv).keeps fun c ys ec=>?_,q,es,ep,hq,h2,h3,h4,h5⟩
  rw [zi (yU ec e (fun z=>nomatch z))]
  exact ec
end
section
variable {X:Cx}{pins:List (Addr × Obj)}{σ:St}{H:Hp}{s:Shared}{a:Addr}{kvs:List (Key × V)}{k:Key}{u:Value}{A:Around}{E:Value->Shared->Prop}
end
noncomputable def Dg (i:Expr):Prop:=∀ ov iv,subscripted i false ov iv=operate [ov,iv] (getItem ov iv)
theorem V7 {prog:Program}{w:World}{A:Around}{E:Value->Shared->Prop}{s:Shared}{env:Env}{value slice:Expr}{pos:Pos}{T id:String}{Q:Value->Shared->Prop}
  (hl:typeLookup (.type T) "__getitem__"=pure (some (.builtin id))) (hs:Dg slice)
  (h:wpAny (model prog w) A (eval value env) (fun o s₁=>wpAny (model prog w) A (eval slice env) (fun i s₂=>s₂.TypeIs o T/\wpAny (model prog w) A (getItem o i) Q E s₂) E s₁) E s) :
  wpAny (model prog w) A (eval (.Subscript value slice pos) env) Q E s:=by
 refine Subscript_ (wpAny_mono h (fun o s₁ h₁=>wpAny_mono h₁ (fun i s₂ h₂=>?_) fun _ _ x=>x) fun _ _ x=>x)
 obtain ⟨hT,h₂⟩:=h₂
 unfold subscriptTail
 refine wpAny_bind ?_
 rw [getitemInPython_of_ne hT.not_modules]
 refine wpAny_bind (wpAny_specialOf hT hl ?_)
 have fin:wpAny (model prog w) A (subscripted slice false o i) (fun r s₃=>wpAny (model prog w) A (letTemporaryGo value o r >>= fun _=>pure r) Q E s₃) E s₂:=by
  rw [hs o i]
  exact wpAny_operating (wpAny_mono h₂ (fun r s₃ h₃=>wpAny_bind (wpAny_letTemporaryGo (wpAny_pure h₃))) fun _ _ x=>x)
 first
  | exact wpAny_pure (wpAny_bind fin)
  | exact wpAny_bind (wpAny_pure (wpAny_bind fin))
  | exact wpAny_bind fin
theorem wG {X:Cx}{pins:List (Addr × Obj)}{σ:St}{H:Hp}{s:Shared}{a:Addr}{y:V}{o:Option V}(I:Inv X pins σ H s)(g:J1 H a y o):s.TypeIs (.ref a) "dict":=by
 rcases g with ⟨kvs,k,e,_,_⟩ | ⟨kvs,k,b,e,_,_,_⟩
 ·obtain ⟨_,_,vs,_,dd⟩:=Xl I.hok e
  exact dd.typeIs
 ·obtain ⟨_,_,xs,_,dd⟩:=X7 I.hok e
  exact dd.typeIs
noncomputable def XF (td ty:TE):TE:=fun σ H Q=>td σ H fun x H1=>ty σ H1 fun y H2=>∃ a v,x=.ref a/\J1 H2 a y (some v)/\Q v H2
noncomputable def YF (td ty tv:TE):TS:=fun D σ H=>tv σ H fun v H1=>td σ H1 fun x H2=>ty σ H2 fun y H3=>∃ a H4,x=.ref a/\XH H3 a y v H4/\D.nx σ H4
section
variable {X:Cx}{o i e value:Expr}{pos pos' tpos:Pos}{td ty tv:TE}
theorem QX (hu:X.A.units+1<cLine)(ho:PE X o td)(hi:PE X i ty)(hs:Dg i):PE X (.Subscript o i pos) (XF td ty):=by
 intro pins s σ H Q I h
 refine V7 PySem.F.slot_dict_getitem.lookup hs (thn (ho pins s σ H _ I h) fun u s1 ⟨x,H1,I1,rx,q1⟩=>thn (hi pins s1 σ H1 _ I1 q1) fun iv s2 ⟨y,H2,I2,ry,a,v,ex,g,q2⟩=>?_)
 subst ex
 obtain rfl:u=Value.ref a:=rx
 exact ⟨wG I2 g,Jo hu I2 g ry fun w' s3 I3 rw'=>⟨v,H2,I3,rw',q2⟩⟩
theorem Wk (hu:X.A.units+1<cLine)(ho:PE X o td)(hi:PE X i ty)(hv:PE X value tv)(hs:swapsWith value (some (.Subscript o i pos')) pos.line X.env=pure false) :
  PS X (.Assign [.Subscript o i pos'] value pos) (YF td ty tv):=by
 intro pins s σ H D I h
 refine wpAny_Assign_Subscript (thn (hv pins s σ H _ I h) fun r s1 ⟨v,H1,I1,rv,q1⟩=>thn (ho pins s1 σ H1 _ I1 q1) fun u s2 ⟨x,H2,I2,rx,q2⟩=>thn (hi pins s2 σ H2 _ I2 q2) fun iv s3 ⟨y,H3,I3,ry,a,H4,ex,g,q3⟩=>?_) hs
 subst ex
 obtain rfl:u=Value.ref a:=rx
 exact JW hu I3 g ry rv fun s4 I4=>⟨σ,H4,I4,q3⟩
end
theorem YR {P:Program}{w:World}{H:Hp}(h:Heap)(hb:sysModules<h.objs.size):zL P w H (h.push { cls:=.type "dict",data:=.dict #[] }) h.objs.size (.dK []):=
 ⟨Nat.zero_le _,beq_eq_false_iff_ne.mpr (Ne.symm (Nat.ne_of_lt hb)),[],.nil,Heap.DictOf.new h⟩
section
variable {X:Cx}{pos:Pos}
end
noncomputable def ye:List (TE × TE)->St->Hp->(List (V × V)->Hp->Prop)->Prop
 | [],_,H,Q=>Q [] H
 | (tk,tv) :: r,σ,H,Q=>tk σ H fun x H1=>tv σ H1 fun y H2=>ye r σ H2 fun ps H3=>Q ((x,y) :: ps) H3
noncomputable abbrev VV:List (V × V)->List (Value × Value)->Prop:=Paired fun p q=>zx p.1 q.1/\zx p.2 q.2
noncomputable def PPs (X:Cx)(pos:Pos)(keys:List (Option Expr))(values:List Expr)(trs:List (TE × TE)):Prop:=
 ∀ (pins:List (Addr × Obj)) (s:Shared) (σ:St) (H:Hp) (Q:List (V × V)->Hp->Prop),Inv X pins σ H s->ye trs σ H Q ->
  wpAny (model X.prog X.w) X.A (evalPairs (pairTrees keys values X.env pos)) (fun vs s'=>∃ ps H',Inv X pins σ H' s'/\VV ps vs/\Q ps H') X.xe s
theorem Ja {X:Cx}{pos:Pos}:PPs X pos [] [] []:=fun pins s σ H Q I h=>pairTrees_nil_walk ⟨[],H,I,.nil,h⟩
theorem j6 {X:Cx}{pos:Pos}{k v:Expr}{ks:List (Option Expr)}{vs:List Expr}{tk tv:TE}{trs:List (TE × TE)}(hk:PE X k tk)(hv:PE X v tv)(hr:PPs X pos ks vs trs) :
  PPs X pos (some k :: ks) (v :: vs) ((tk,tv) :: trs):=fun pins s σ H Q I h=>
 pairTrees_cons_walk (thn (hk pins s σ H _ I h) fun u s1 ⟨x,H1,I1,rx,q1⟩=>thn (hv pins s1 σ H1 _ I1 q1) fun w2 s2 ⟨y,H2,I2,ry,q2⟩=>
  thn (hr pins s2 σ H2 _ I2 q2) fun ws s3 ⟨ps,H3,I3,rel,q3⟩=>⟨(x,y) :: ps,H3,I3,.cons ⟨rx,ry⟩ rel,q3⟩)
noncomputable def ky (kvs more:List (Key × V)):List (Key × V):=more.foldl (fun acc kv=>jA acc kv.1 kv.2) kvs
theorem KV.merge:∀ {more:List (Key × V)} {rs:List (Key × Value)} {kvs:List (Key × V)} {vs:List (Key × Value)},KV more rs->KV kvs vs->KV (ky kvs more) (merged vs rs):=by
 intro more rs kvs vs r
 unfold KV at r
 induction r generalizing kvs vs with
 | nil=>intro q;exact q
 | @cons p q ps qs h t ih=>
  intro r0
  have e:KV (jA kvs p.1 p.2) (stored vs q.1 q.2):=by
   have:=r0.put p.1 h.2
   rw [<- h.1];exact this
  exact ih e
theorem kl:∀ (more kvs:List (Key × V)),(ky kvs more).length<=kvs.length+more.length
 | [],kvs=>by show kvs.length<=kvs.length+0;omega
 | p :: r,kvs=>by
  have h1:=kl r (jA kvs p.1 p.2)
  have h2:=j4 kvs p.1 p.2
  show (ky (jA kvs p.1 p.2) r).length<=_
  rw [List.length_cons];omega
theorem yy {P:Program}{w:World}:∀ {kvs:List (Key × V)} {ws:List (Value × Value)},VV (kvs.map fun kv=>(kV kv.1,kv.2)) ws->∃ rs,Carries (qa P w) ws rs/\KV kvs rs
 | [],_,r=>by rw [List.map_nil] at r;cases r;exact ⟨[],True.intro,.nil⟩
 | p :: kvs,_,r=>by
  rw [List.map_cons] at r
  cases r with
  | @cons a b as bs h t=>
   obtain ⟨rs,c,q⟩:=yy (P:=P) (w:=w) t
   obtain ⟨b1,b2⟩:=b
   exact ⟨(p.1,b2) :: rs,⟨Q6 h.1,rfl,c⟩,.cons ⟨rfl,h.2⟩ q⟩
noncomputable def Yt (trs:List (TE × TE)):TE:=fun σ H Q=>∀ p,H p=none->ye trs σ (upd H p (.dK [])) fun ps H2=>H2 p=some (.dK [])/\∃ kvs:List (Key × V),ps=kvs.map (fun kv=>(kV kv.1,kv.2))/\kvs.length<=15/\Q (.ref p) (upd H2 p (.dK (ky [] kvs)))
theorem Qo {X:Cx}{pos:Pos}{keys:List (Option Expr)}{values:List Expr}{trs:List (TE × TE)}(h:PPs X pos keys values trs)(hall:keys.all (·.isSome)=true)(hl:keys.length=values.length)(h0:keys ≠ [])
  (h15:keys.length<=15):PE X (.Dict keys values pos) (Yt trs):=by
 intro pins s σ H Q I q
 have hn:=I.hok.fresh (Nat.le_refl s.heap.objs.size)
 have I1:=I.laid (a:=s.heap.objs.size) (o:=.dK []) (h':=s.heap.push { cls:=.type "dict",data:=.dict #[] }) (t':=s.toks) (fun _ _ q=>Heap.get?_push_of_some _ q) (Nat.le_refl _) (YR s.heap I.big)
 refine wpAny_Dict_walk (knd:=qa X.prog X.w) hall hl h0 h15 (thn (h pins _ σ _ _ I1 (q _ hn)) fun ws s2 ⟨ps,H2,I2,rel,e,kvs,ep,lk,q2⟩=>?_)
 subst ep
 obtain ⟨rs,c,rk⟩:=yy (P:=X.prog) (w:=X.w) rel
 obtain ⟨z,hd,vs0,r0,dd⟩:=WN I2.hok e
 cases r0
 refine ⟨rs,c,dd,fun h' dd' hs=>⟨.ref s.heap.objs.size,_,?_,rfl,q2⟩⟩
 have hz:(ky [] kvs).length<=sizeLine:=by
  have h1:=kl kvs []
  rw [List.length_nil] at h1
  rw [sizeLine_eq];omega
 have he:∃ q,h'.get? s.heap.objs.size=some q:=let ⟨q,_,_,hq,_⟩:=dd';⟨q,hq⟩
 exact vP I2 (by rw [e];exact True.intro) hs he (XQ hz hd (rk.merge .nil) dd')
structure M1 (X:Cx)(o:Expr)(m:Str)(apos:Pos)(e:Expr)(cpos:Pos):Prop where
 base:attributeBase o m X.env (eval o X.env)=eval o X.env
 few:((backTo cpos (starEach [e] X.env)).all (fun x=>!x.1) && (backToKw cpos (keywordEach [] X.env)).all (fun x=>x.1.isSome)
  && decide (([e]:List Expr).length+([]:List Keyword).length+(if ([]:List Keyword).isEmpty then 0 else 1)<30))=true
 line:(apos.endLine == cpos.line)=true
 trees:backTo cpos (starEach [e] X.env)=[(false,eval e X.env)]
structure M2 (X:Cx)(o:Expr)(m:Str)(apos:Pos)(e f:Expr)(cpos:Pos):Prop where
 base:attributeBase o m X.env (eval o X.env)=eval o X.env
 few:((backTo cpos (starEach [e,f] X.env)).all (fun x=>!x.1) && (backToKw cpos (keywordEach [] X.env)).all (fun x=>x.1.isSome)
  && decide (([e,f]:List Expr).length+([]:List Keyword).length+(if ([]:List Keyword).isEmpty then 0 else 1)<30))=true
 line:(apos.endLine == cpos.line)=true
 trees:backTo cpos (starEach [e,f] X.env)=[(false,eval e X.env),(false,eval f X.env)]
section
variable {X:Cx}{pins:List (Addr × Obj)}{σ:St}{H:Hp}{s:Shared}{a:Addr}{y d:V}{u r:Value}{o:Option V}{A:Around}{E:Value->Shared->Prop}
end
section
variable {X:Cx}{o e f:Expr}{apos cpos:Pos}{td ty tx:TE}
end
section
variable {X:Cx}{pins:List (Addr × Obj)}{σ:St}{H:Hp}{s:Shared}{a:Addr}{kvs:List (Key × V)}{A:Around}{E:Value->Shared->Prop}
end
section
variable {X:Cx}{pins:List (Addr × Obj)}{σ:St}{H:Hp}{s:Shared}{a:Addr}{y:V}{u:Value}{A:Around}{E:Value->Shared->Prop}
end
section
variable {κ:Type}[DecidableEq κ]
end
end L2
set_option Elab.async false
set_option linter.all false
set_option maxRecDepth 100000
set_option maxHeartbeats 4000000
namespace L2
open PySem PySem.Spec PyProof.Rows
noncomputable def Xv (N:List Str)(ts:List Nat)(sc:Scope)(kind:Str->Option NameKind):Bool:=
 sc.kind == .function && sc.names.all (fun y=>y.2 != .cell && (y.2 != .local || sc.names.lookup y.1 == some .local) && (y.2 != .free || kind y.1 == some .cell || kind y.1 == some .free)) &&
  N.zipIdx.all (fun p=>sc.names.lookup p.1 != some .local || ts.contains p.2)
noncomputable def qP (cells:List (Str × Addr)):List (Str × NameKind)->List (Str × Addr)->List (Str × Addr)
 | [],acc=>acc
 | (n,k) :: r,acc=>qP cells r (if k=.free then (n,(cells.lookup n).getD 0) :: acc else acc)
theorem vC {env:Env}:∀ (names:List (Str × NameKind)) (acc:List (Str × Addr)),(∀ y ∈ names,y.2=.free->∃ c,env.cells.lookup y.1=some c) ->
  (forIn names acc fun (x:Str × NameKind) (cs:List (Str × Addr))=>(match x with | (name,kind)=>if (kind == NameKind.free)=true then (do let c <- cellOf env name;pure (ForInStep.yield ((name,c) :: cs))) else pure (ForInStep.yield cs):Sem (ForInStep (List (Str × Addr)))))=pure (qP env.cells names acc)
 | [],acc,_=>rfl
 | (n,k) :: r,acc,h=>by
  rw [List.forIn_cons]
  by_cases hk:k=.free
  ·subst hk
   obtain ⟨c,hc⟩:=h (n,.free) List.mem_cons_self rfl
   have e1:cellOf env n=pure c:=by unfold cellOf;rw [hc]
   simp only [beq_self_eq_true,if_true,e1,pure_bind]
   rw [vC r _ fun y hy=>h y (List.mem_cons_of_mem _ hy)]
   show _=pure (qP env.cells r (if NameKind.free=.free then _ else _))
   rw [if_pos rfl,hc];rfl
  ·have hb:(k == NameKind.free)=false:=by simpa using hk
   simp only [hb,Bool.false_eq_true,if_false,pure_bind]
   rw [vC r _ fun y hy=>h y (List.mem_cons_of_mem _ hy)]
   show _=pure (qP env.cells r (if k=.free then _ else _))
   rw [if_neg hk]
theorem xc {cells : List (Str × Addr)} : ∀ (names : List (Str × NameKind)) (acc : List (Str × Addr)), (∀ y ∈ names, y.2 = .free -> ∃ c, cells.lookup y.1 = some c) -> (∀ x c, acc.lookup x = some c -> cells.lookup x = some c) ->
    (∀ x c,(qP cells names acc).lookup x=some c->cells.lookup x=some c)/\(∀ x c,acc.lookup x=some c->∃ c',(qP cells names acc).lookup x=some c')/\∀ y ∈ names,y.2=.free->∃ c,(qP cells names acc).lookup y.1=some c
  | [],acc,_,h2=>⟨h2,fun x c e=>⟨c,e⟩,fun y hy=>nomatch hy⟩
  | (n,k) :: r,acc,h1,h2=>by
    by_cases hk:k=.free
    · subst hk
      obtain ⟨c,hc⟩:=h1 (n,.free) List.mem_cons_self rfl
      have hc:cells.lookup n=some c:=hc
      have e:qP cells ((n,.free) :: r) acc=qP cells r ((n,c) :: acc):=by
        show qP cells r (if NameKind.free=.free then _ else _)=_
        rw [if_pos rfl,hc];rfl
      rw [e]
      obtain ⟨q1,q2,q3⟩:=xc (cells:=cells) r ((n,c) :: acc) (fun y hy=>h1 y (List.mem_cons_of_mem _ hy)) (fun x c' e'=>by
        rw [List.lookup_cons] at e'
        cases hx:x == n with
        | true => rw [hx] at e'; have : x = n := by simpa using hx
                  subst this;cases e';exact hc
        | false=>rw [hx] at e';exact h2 x c' e')
      refine ⟨q1,fun x c' e'=>?_,fun y hy hf=>?_⟩
      · cases hx:x == n with
        | true=>exact q2 x c (by rw [List.lookup_cons,hx])
        | false=>exact q2 x c' (by rw [List.lookup_cons,hx];exact e')
      · rcases List.mem_cons.mp hy with rfl | hy
        · exact q2 n c (by rw [List.lookup_cons,beq_self_eq_true])
        · exact q3 y hy hf
    · have e : qP cells ((n, k) :: r) acc = qP cells r acc := by
        show qP cells r (if k=.free then _ else _)=_
        rw [if_neg hk]
      rw [e]
      obtain ⟨q1,q2,q3⟩:=xc (cells:=cells) r acc (fun y hy=>h1 y (List.mem_cons_of_mem _ hy)) h2
      refine ⟨q1,q2,fun y hy hf=>?_⟩
      rcases List.mem_cons.mp hy with rfl | hy
      · exact absurd hf hk
      · exact q3 y hy hf
theorem Z1 {scope:Scope}{env:Env}(h:∀ y ∈ scope.names,y.2=.free->∃ c,env.cells.lookup y.1=some c) :
  ∃ cl,closureFor scope env=pure cl/\(∀ x c,cl.lookup x=some c->env.cells.lookup x=some c)/\∀ y ∈ scope.names,y.2=.free->∃ c,cl.lookup y.1=some c:=by
 obtain ⟨q1,_,q3⟩:=xc (cells:=env.cells) scope.names [] h (fun x c e=>nomatch e)
 refine ⟨qP env.cells scope.names [],?_,q1,q3⟩
 unfold closureFor
 have:=vC (env:=env) scope.names [] h
 first
  | exact this
  | (simp only [bind_pure];exact this)
  | (refine Eq.trans ?_ this;simp)
theorem kU {env:Env}:∀ {names:List (Str × NameKind)} {x:Str},(names.map fun (n,k)=>if (k == NameKind.free && env.scope.kind == .function && env.kindOf n == some .cell) then (n,NameKind.cell) else (n,k)).lookup x =
  (names.lookup x).map fun k=>if (k == NameKind.free && env.scope.kind == .function && env.kindOf x == some .cell) then NameKind.cell else k
 | [],_=>rfl
 | (n,k) :: r,x=>by
  have ih:=@kU env r x
  rw [List.map_cons]
  cases hx:x == n with
  | true=>
   have e:x=n:=by simpa using hx
   subst e
   rw [List.lookup_cons (as:=r),beq_self_eq_true]
   show List.lookup x ((if (k == NameKind.free && env.scope.kind == .function && env.kindOf x == some .cell)=true then (x,NameKind.cell) else (x,k)) :: _)=some _
   by_cases hc:(k == NameKind.free && env.scope.kind == .function && env.kindOf x == some .cell)=true
   ·rw [if_pos hc,List.lookup_cons,beq_self_eq_true];dsimp only;rw [if_pos hc]
   ·rw [if_neg hc,List.lookup_cons,beq_self_eq_true];dsimp only;rw [if_neg hc]
  | false=>
   rw [List.lookup_cons (as:=r),hx]
   show List.lookup x ((if (k == NameKind.free && env.scope.kind == .function && env.kindOf n == some .cell)=true then (n,NameKind.cell) else (n,k)) :: _)=_
   by_cases hc:(k == NameKind.free && env.scope.kind == .function && env.kindOf n == some .cell)=true
   ·rw [if_pos hc,List.lookup_cons,hx];exact ih
   ·rw [if_neg hc,List.lookup_cons,hx];exact ih
noncomputable abbrev cxC (X:Cx)(scope:Scope)(cl:List (Str × Addr))(s:Shared)(H:Hp)(fp:List Addr):Cx:=
 { X with s₀:=s,H₀:=H,env:=compEnvC scope cl s.heap.objs.size X.env,outer:=X.stack,ex:=fp,fn:=fun _=>false,pn:=[],xe:=fun _ _=>False }
noncomputable def clr:List Nat->St->St
 | [],σ=>σ
 | j :: r,σ=>clr r (σ.set j none)
theorem QR:∀ (ts:List Nat) (σ:St),(clr ts σ).length=σ.length
 | [],_=>rfl
 | j :: r,σ=>by show (clr r (σ.set j none)).length=_;rw [QR r];simp
theorem w6:∀ (ts:List Nat) (σ:St) (i:Nat) (v:V),(clr ts σ)[i]?=some (some v)->i ∉ ts/\σ[i]?=some (some v)
 | [],_,_,_,h=>⟨by simp,h⟩
 | j :: r,σ,i,v,h=>by
  obtain ⟨h1,h2⟩:=w6 r (σ.set j none) i v h
  by_cases e:j=i
  ·subst e
   rw [List.getElem?_set] at h2
   simp at h2
  ·rw [List.getElem?_set_ne e] at h2
   exact ⟨by simp [h1,Ne.symm e],h2⟩
structure ScF (X:Cx)(ts:List Nat)(scope:Scope):Prop where
 kind:scope.kind=.function
 cell:∀ y ∈ scope.names,y.2 ≠ .cell
 loc:∀ y ∈ scope.names,y.2=.local->scope.names.lookup y.1=some .local
 free:∀ y ∈ scope.names,y.2=.free->X.env.kindOf y.1=some .cell \/ X.env.kindOf y.1=some .free
 ts:∀ (i:Nat) x,X.N[i]?=some x->scope.names.lookup x=some .local->i ∈ ts
theorem AL {X:Cx}{ts:List Nat}{scope:Scope}(h:Xv X.N ts scope X.env.kindOf=true):ScF X ts scope:=by
  unfold Xv at h
  simp only [Bool.and_eq_true,List.all_eq_true,bne_iff_ne,ne_eq,Bool.or_eq_true,beq_iff_eq] at h
  obtain ⟨⟨h1,h2⟩,h3⟩:=h
  refine ⟨h1,fun y hy=>(h2 y hy).1.1,fun y hy e=>?_,fun y hy e=>?_,fun i x e1 e2=>?_⟩
  · rcases (h2 y hy).1.2 with z | z
    · exact absurd e z
    · exact z
  · rcases (h2 y hy).2 with (z | z) | z
    · exact absurd e z
    · exact .inl z
    · exact .inr z
  · have hm : (x, i) ∈ X.N.zipIdx := by
      rw [List.mem_zipIdx_iff_getElem?];exact e1
    rcases h3 _ hm with z | z
    · exact absurd e2 z
    · simpa using z
section
variable {X:Cx}{ts:List Nat}{scope:Scope}{pins:List (Addr × Obj)}{σ:St}{H:Hp}{s:Shared}{fp:List Addr}
theorem Z4 (I:Inv X pins σ H s)(S:ScF X ts scope)(hf:∀ b ∈ fp,xu X pins H b)(hfl:∀ b ∈ fp,b<s.heap.objs.size){cl:List (Str × Addr)}(c1:∀ x c,cl.lookup x=some c->X.env.cells.lookup x=some c)
  (c2:∀ y ∈ scope.names,y.2=.free->∃ c,cl.lookup y.1=some c) {h1:Heap} {t1:Nat} (hns:h1.Ns s.heap.objs.size (fun x=>([]:List (Str × Value)).reverse.lookup x))
  (hk:∀ b o,s.heap.get? b=some o->h1.get? b=some o):Inv (cxC X scope cl s H fp) [] (clr ts σ) H { s with heap:=h1,toks:=t1 }:=by
 have hlk:∀ x,(relabel scope X.env).names.lookup x=(scope.names.lookup x).map fun k=>if (k == NameKind.free && X.env.scope.kind == .function && X.env.kindOf x == some .cell) then NameKind.cell else k:=fun x=>kU
 have cfree:∀ x,((relabel scope X.env).names.lookup x=some .cell \/ (relabel scope X.env).names.lookup x=some .free)->(x,NameKind.free) ∈ scope.names:=fun x hx=>by
  rw [hlk] at hx
  cases e:scope.names.lookup x with
  | none=>rw [e] at hx;rcases hx with hx | hx <;> cases hx
  | some k=>
   have hm:=mem_of_lookup_some e
   cases k with
   | free=>exact hm
   | cell=>exact absurd rfl (S.cell _ hm)
   | «local»=>rw [e] at hx;rcases hx with hx | hx <;> cases hx
   | globalExplicit=>rw [e] at hx;rcases hx with hx | hx <;> cases hx
   | globalImplicit=>rw [e] at hx;rcases hx with hx | hx <;> cases hx
 have ccell:∀ x c,cl.lookup x=some c->∃ v,s.heap.IsCell c v:=fun x c e=>I.cell x c (c1 x c e)
 have fpne:∀ b ∈ fp,b ∉ frs X.stack:=fun b hb z=>by
  obtain ⟨_,f1,f2,_⟩:=hf b hb
  rcases List.mem_cons.mp (I.stkSub b z) with e | e
  ·exact f1 e
  ·exact f2 e
 refine ⟨⟨I.ok.mod,S.kind,I.ok.glob,I.ok.blt,Nat.le_refl _,fun x y c e1 e2=>I.ok.inj x y c (c1 x c e1) (c1 y c e2),fun x hx=>c2 (x,.free) (cfree x hx) rfl,(fun x c hx=>nomatch hx),I.ok.hd,I.ok.frames,.inl rfl,fun b hb=>⟨Nat.ne_of_lt (hfl b hb),fun x c e=>(hf b hb).2.2.2.2.1 x c (c1 x c e)⟩,
  I.bs,Nat.le_trans I.ok.bsz I.sz,fun b o e hb=>?_,fpne,I.stack,I.stkFree⟩,rfl,I.bare,Un.kept hk,⟨_,hns,fun i x v e1 e2 e3=>?_⟩,fun x c e=>?_,I.hok.fresh (Nat.le_refl _),fun x c e=>I.freeC x c (c1 x c e),fun p hp=>absurd hp (by simp),I.hok.kept hk,by rw [QR];exact I.len⟩
 ·rcases (hf b hb).2.2.2.1 with z | z
  ·exact I.ok.noex b o e z
  ·exact absurd (Nat.lt_of_lt_of_le (Heap.lt_size e) (Nat.le_trans I.ok.bsz z)) (Nat.lt_irrefl _)
 ·obtain ⟨nt,e2⟩:=w6 ts σ i v e2
  have e3':(relabel scope X.env).names.lookup x=some .local \/ (relabel scope X.env).names.lookup x=some .cell \/ (relabel scope X.env).names.lookup x=some .free:=e3
  rcases e3' with z | z
  ·rw [hlk] at z
   cases e:scope.names.lookup x with
   | none=>rw [e] at z;cases z
   | some k=>
    rw [e] at z
    have z':(if (k == NameKind.free && X.env.scope.kind == .function && X.env.kindOf x == some .cell)=true then NameKind.cell else k)=.local:=Option.some.inj z
    split at z'
    ·cases z'
    ·subst z'
     exact absurd (S.ts i x e1 e) nt
  ·have hm:=cfree x z
   obtain ⟨c,hc⟩:=c2 _ hm rfl
   obtain ⟨m,hn,hl⟩:=I.loc
   have vis:Vis X.env.scope x:=by
    rcases S.free _ hm rfl with q | q
    ·exact .inr (.inl q)
    ·exact .inr (.inr q)
   obtain ⟨u,r,l⟩:=hl i x v e1 e2 vis
   refine ⟨u,r,.inr ⟨z,c,hc,?_⟩⟩
   rcases l with ⟨q,_⟩ | ⟨_,c',hc',hcell⟩
   ·rcases S.free _ hm rfl with q' | q'
    ·rw [q'] at q;cases q
    ·rw [q'] at q;cases q
   ·rw [c1 x c hc] at hc'
    cases hc'
    obtain ⟨o,ho,hd⟩:=hcell
    exact ⟨o,hk _ _ ho,hd⟩
 ·obtain ⟨v,o,ho,hd⟩:=ccell x c e
  exact ⟨v,o,hk _ _ ho,hd⟩
end
section
variable {prog:Program}{w:World}{A:Around}{R:Result->Shared->Prop}{s:Shared}
theorem kg {elt target iter : Expr}{ifs : List Expr}{scope : Scope}{pos : Pos}{it acc : Value}{env : Env}(I : Nat -> Shared -> Prop)
    (turn:∀ n s,I n s->wpAny (model prog w) A (pyNext it) (fun r s₁=>match r with
      | none=>R (.ok .next) s₁
      | some v => wpAny (model prog w) A (letOwnedTupleGo target it v) (fun _ s₀ => wpAny (model prog w) A (assign target env v) (fun _ s₂ =>
          wpAny (model prog w) A (forIn ifs true fun c r=>if r=true then do let ok <- isTrue c env (eval c env);pure (ForInStep.yield ok) else pure (ForInStep.yield r)) (fun ok s₃=>
            if ok=true then wpAny (model prog w) A (eval elt env) (fun x s₄=>
              wpAny (model prog w) A (call (.builtin "list.append") [acc,x]) (fun _ s₅=>∃ m,m<n/\I m s₅) (fun _ _=>False) s₄) (fun _ _=>False) s₃
            else ∃ m,m<n/\I m s₃) (fun _ _=>False) s₂) (fun _ _=>False) s₀) (fun _ _=>False) s₁) (fun _ _=>False) s)
    (n:Nat) (h:I n s) :
    codeAny (model prog w) A (.compLoop (.ListComp elt [⟨target,iter,ifs,0⟩] scope pos) 0 it acc env) R s:=by
  refine codeAny_loop rfl I (fun n s hI=>?_) n h
  show wpAny _ A ((compTurn (.ListComp elt [⟨target,iter,ifs,0⟩] scope pos) 0 it acc env).onRaise (fun x=>do noteFrame x env;theTreesLotGoes x)) _ _ s
  refine wpAny_noted ?_
  rw [compTurn_list]
  refine wpAny_bind (wpAny_standAt (wpAny_bind (wpAny_mono (turn n s hI) (fun r s₁ h₁=>?_) fun _ _ h'=>h'.elim)))
  cases r with
  | none=>exact wpAny_pure h₁
  | some v=>
    refine wpAny_bind (wpAny_mono h₁ (fun _ s₀ h₀=>?_) fun _ _ h'=>h'.elim)
    refine wpAny_bind (wpAny_mono h₀ (fun _ s₂ h₂=>wpAny_bind (wpAny_mono h₂ (fun ok s₃ h₃=>?_) fun _ _ h'=>h'.elim)) fun _ _ h'=>h'.elim)
    cases ok with
    | false=>exact wpAny_pure ⟨rfl,h₃⟩
    | true=>
      exact wpAny_bind (wpAny_bind (wpAny_mono h₃ (fun x s₄ h₄=>wpAny_bind (wpAny_mono h₄ (fun _ s₅ h₅=>wpAny_pure (wpAny_pure ⟨rfl,h₅⟩)) fun _ _ h'=>h'.elim)) fun _ _ h'=>h'.elim))
end
noncomputable def XY:TT:=fun _ H Q=>Q true H
noncomputable def PIf (X:Cx)(ifs:List Expr)(t:TT):Prop:=
 ∀ (pins:List (Addr × Obj)) (s:Shared) (σ:St) (H:Hp) (Q:Bool->Hp->Prop),Inv X pins σ H s->t σ H Q ->
  wpAny (model X.prog X.w) X.A (forIn ifs true fun c r=>if r=true then do let ok <- isTrue c X.env (eval c X.env);pure (ForInStep.yield ok) else pure (ForInStep.yield r)) (TP X pins σ Q) X.xe s
theorem Q7 {X:Cx}:PIf X [] XY:=fun _ _ _ H _ I h=>wpAny_tests_nil ⟨H,I,h⟩
theorem QL {X:Cx}{c:Expr}{t:TT}(h:PT X c t):PIf X [c] t:=fun pins s σ H Q I hq=>wpAny_tests_one (h pins s σ H Q I hq)
noncomputable def wZ (ts:List Nat)(wi:TI)(g:TG)(tt:TT)(te:TE):TE:=fun σ H Q=>wi σ H fun J H1=>∀ D,H1 D=none->∃ W:Nat->Nat->St->Hp->Prop,(∃ m,W 0 m (clr ts σ) (upd H1 D (.lst [])))/\∀ i m τ H2,W i m τ H2 ->
 (J.stop i H2/\Q (.ref D) H2) \/ (J.go i H2/\∃ N:St->Hp->Prop,(∀ τ' H',N τ' H'->∃ m',m'<m/\W (i+1) m' τ' H')/\∀ x H',J.yld i H2 x H'->g x τ H' fun τ2 H3=>tt τ2 H3 fun b H4=>
  if b=true then te τ2 H4 fun v H5=>∃ ys,H5 D=some (.lst ys)/\ys.length<sizeLine/\N τ2 (upd H5 D (.lst (ys ++ [v]))) else N τ2 H4)
section
variable {X:Cx}{ts:List Nat}{scope:Scope}{tg iter elt:Expr}{ifs:List Expr}{wi:TI}{g:TG}{tt:TT}{te:TE}{pos:Pos}
theorem wB (hc:X.calm=true)(hsc:Xv X.N ts scope X.env.kindOf=true)(hi:PI X tg iter wi)(hg:∀ cl s H fp,PG (cxC X scope cl s H fp) tg g)(ht:∀ cl s H fp,PIf (cxC X scope cl s H fp) ifs tt)(he:∀ cl s H fp,PE (cxC X scope cl s H fp) elt te)
  {pins:List (Addr × Obj)} {s:Shared} {σ:St} {H:Hp} {Q:VK} (I:Inv X pins σ H s) (h:wZ ts wi g tt te σ H Q) {use:Option (Value->Sem Unit)} {Q':Value->Shared->Prop}
  (fin:∀ (D C:Addr) (H':Hp) (s':Shared),Inv X pins σ H' s'->(∃ m,s'.heap.Ns C m)->H' C=none->C ≠ X.env.locals->(∀ x c,X.env.cells.lookup x=some c->c ≠ C)->X.s₀.heap.objs.size<=C->(∀ p ∈ X.pn ++ pins,p.1 ≠ C)->C ∉ X.fs->Q (.ref D) H' ->
   compPost (model X.prog X.w) X.A X.xe use Q' (.ref D) C (.ok .next) s')
  (hs:∀ x,foldedSetIterable iter X.env x=pure x) :
  wpAny (model X.prog X.w) X.A (comprehension (.ListComp elt [⟨tg,iter,ifs,0⟩] scope pos) scope X.env (firstIterPos [⟨tg,iter,ifs,0⟩] pos) (newList []) false (eval iter X.env) use) Q' X.xe s:=by
 have S:=AL hsc
 obtain ⟨cl,hcl,c1,c2⟩:=Z1 (scope:=scope) (env:=X.env) fun y hy e=>I.ok.has y.1 (S.free y hy e)
 refine wpAny_comprehension_free (use:=use) rfl hs hcl S.kind S.loc ?_
 refine wpAny_mono (hi pins s σ H _ I h) (fun v s1 h1=>wpAny_mono h1 (fun itv s2 h2=>?_) fun _ _ e=>e) fun _ _ e=>e
 obtain ⟨it,fp,tn,J,H2,e,I2,T,st2,f2,q2⟩:=h2
 subst e
 have hD:H2 s2.heap.objs.size=none:=I2.hok.fresh (Nat.le_refl _)
 obtain ⟨W,⟨m0,w0⟩,turn⟩:=q2 _ hD
 refine wpAny_newObj_type (wpAny_newFunctionEnv S.cell (by intro y hy;simp at hy) (fun h₁ hns₁ hsb₁=>?_) S.kind)
 dsimp only at hns₁ hsb₁ ⊢
 generalize hh3:s2.heap.push { cls:=.type "list",dict:=none,data:=.seq ([]:List Value).toArray }=g3 at hns₁ hsb₁ ⊢
 have I3:Inv X pins σ (upd H2 s2.heap.objs.size (.lst [])) { s2 with heap:=g3 }:=by
  rw [<- hh3]
  exact I2.laid (t':=s2.toks) (fun b u e=>Heap.get?_push_of_some _ e) (Nat.le_refl _) ⟨Nat.zero_le _,[],_,.nil,Heap.get?_push_size _ rfl⟩
 have st3:tn 0 g3:=T.keep _ _ _ st2 fun b _ o e=>by rw [<- hh3];exact Heap.get?_push_of_some _ e
 have lt2:∀ b ∈ fp,b<s2.heap.objs.size:=fun b hb=>by obtain ⟨o,e,_⟩:=T.obj _ _ st2 b hb;exact Heap.lt_size e
 have hsz3:g3.objs.size=s2.heap.objs.size+1:=by rw [<- hh3,Heap.size_push]
 have f3:∀ b ∈ fp,xu X pins (upd H2 s2.heap.objs.size (.lst [])) b:=fun b hb=>⟨by rw [zi (Nat.ne_of_lt (lt2 b hb))];exact (f2 b hb).1,(f2 b hb).2⟩
 have lt3:∀ b ∈ fp,b<g3.objs.size:=fun b hb=>by rw [hsz3];exact Nat.lt_succ_of_lt (lt2 b hb)
 have old:∀ b o,g3.get? b=some o->h₁.get? b=some o:=fun b o e=>hsb₁.extBut b o (Nat.ne_of_lt (Heap.lt_size e)) (Heap.get?_push_of_some _ e)
 have hns:h₁.Ns g3.objs.size (fun x=>([]:List (Str × Value)).reverse.lookup x):=hns₁
 have I4:∀ t,Inv (cxC X scope cl { s2 with heap:=g3 } (upd H2 s2.heap.objs.size (.lst [])) fp) [] (clr ts σ) (upd H2 s2.heap.objs.size (.lst [])) { s2 with heap:=h₁,toks:=t }:=fun t=>Z4 I3 S f3 lt3 c1 c2 hns old
 have fpne:∀ b ∈ fp,b ∉ frs X.stack:=fun b hb z=>by
  obtain ⟨_,f1,f2,_⟩:=f3 b hb
  rcases List.mem_cons.mp (I3.stkSub b z) with e | e
  ·exact f1 e
  ·exact f2 e
 have stat:∀ {H':Hp},(∀ b ∈ fp,H' b=none)->∀ b ∈ fp,xu (cxC X scope cl { s2 with heap:=g3 } (upd H2 s2.heap.objs.size (.lst [])) fp) [] H' b:=fun hn b hb=>
  ⟨hn b hb,Nat.ne_of_lt (lt3 b hb),fpne b hb,.inl hb,fun x c e=>(f2 b hb).2.2.2.2.1 x c (c1 x c e),fun p hp=>absurd hp (by simp)⟩
 have loop:∀ t,codeAny (model X.prog X.w) X.A (.compLoop (.ListComp elt [⟨tg,iter,ifs,0⟩] scope pos) 0 (.ref it) (.ref s2.heap.objs.size) (compEnvC scope cl g3.objs.size X.env))
   (compPost (model X.prog X.w) X.A X.xe use Q' (.ref s2.heap.objs.size) g3.objs.size) { s2 with heap:=h₁,toks:=t }:=by
  intro t
  refine kg (fun n s'=>∃ i τ H',Inv (cxC X scope cl { s2 with heap:=g3 } (upd H2 s2.heap.objs.size (.lst [])) fp) [] τ H' s'/\tn i s'.heap/\(∀ b ∈ fp,H' b=none)/\W i n τ H') ?_ m0
   ⟨0,clr ts σ,_,I4 t,T.keep _ _ _ st3 fun b _ o e=>old b o e,fun b hb=>(f3 b hb).1,w0⟩
  rintro n s5 ⟨i,τ,H5,I5,st5,fr5,w5⟩
  rcases turn i n τ H5 w5 with ⟨stop,qn⟩ | ⟨go,N,hN,step⟩
  ·refine thn (T.done (cxC X scope cl { s2 with heap:=g3 } (upd H2 s2.heap.objs.size (.lst [])) fp) rfl rfl rfl hc i [] s5 τ H5 _ I5 (stat fr5) st5 stop) fun r s6 ⟨hr,I6⟩=>?_
   subst hr
   have base:Un (frs X.stack) fp (upd H2 s2.heap.objs.size (.lst [])) H5 g3 s6.heap:=I6.base
   have J6:Inv X pins σ H5 s6:=I3.call' (ch:=fp) I6.os base I6.hok I6.bare fun b hb=>⟨(f3 b hb).2.2.2.1,(f3 b hb).2.1,(f3 b hb).2.2.2.2.1,(f3 b hb).2.2.2.2.2⟩
   obtain ⟨m6,n6,_⟩:=I6.loc
   have hC:g3.get? g3.objs.size=none:=Heap.get?_none_of_le (Nat.le_refl _)
   refine fin _ g3.objs.size H5 s6 J6 ⟨m6,n6⟩ I6.free (Nat.ne_of_gt I3.lt) (fun x c e z=>?_) I3.sz (fun p hp z=>?_) (I3.nofs (Nat.le_refl _)) qn
   ·obtain ⟨v,q⟩:=I3.cell x c e
    exact absurd q.lt (by rw [z];exact Nat.lt_irrefl _)
   ·exact absurd (Heap.lt_size (I3.pin p hp).1) (by rw [z];exact Nat.lt_irrefl _)
  ·refine thn (T.item (cxC X scope cl { s2 with heap:=g3 } (upd H2 s2.heap.objs.size (.lst [])) fp) rfl rfl rfl hc i [] s5 τ H5 _ I5 (stat fr5) st5 go) fun r s6 ⟨u,hr,h6⟩=>?_
   subst hr
   refine thn h6 fun _ s7 ⟨x,H7,I7,r7,y7,st7,fr7⟩=>?_
   have I7':=I7.pinned (stat fr7) (T.obj _ _ st7)
   refine thn (hg cl { s2 with heap:=g3 } _ fp _ s7 τ H7 x u _ I7' r7 (step x H7 y7)) fun _ s8 ⟨τ8,H8,I8,q8⟩=>?_
   refine thn (ht cl { s2 with heap:=g3 } _ fp _ s8 τ8 H8 _ I8 q8) fun b s9 ⟨H9,I9,q9⟩=>?_
   have again:∀ {τ9:St} {H9:Hp} {s9:Shared},Inv (cxC X scope cl { s2 with heap:=g3 } (upd H2 s2.heap.objs.size (.lst [])) fp) ([] ++ yh fp s7.heap) τ9 H9 s9->N τ9 H9 ->
     ∃ m,m<n/\∃ i τ H',Inv (cxC X scope cl { s2 with heap:=g3 } (upd H2 s2.heap.objs.size (.lst [])) fp) [] τ H' s9/\tn i s9.heap/\(∀ b ∈ fp,H' b=none)/\W i m τ H':=fun {τ9 H9 s9} I9 n9=>by
    obtain ⟨m',hm,w9⟩:=hN _ _ n9
    refine ⟨m',hm,i+1,τ9,H9,I9.unpinned,T.keep _ _ _ st7 fun b hb o e=>(I9.pin (b,o) (List.mem_append_right _ (List.mem_append_right _ (jG hb e)))).1,fun b hb=>?_,w9⟩
    obtain ⟨o,e,d⟩:=T.obj _ _ st7 b hb
    exact (I9.pin (b,o) (List.mem_append_right _ (List.mem_append_right _ (jG hb e)))).2.1
   cases b with
   | false=>
    rw [if_neg Bool.false_ne_true] at q9 ⊢
    exact again I9 q9
   | true=>
    rw [if_pos rfl] at q9 ⊢
    refine thn (he cl { s2 with heap:=g3 } _ fp _ s9 τ8 H9 _ I9 q9) fun y s10 ⟨v,H10,I10,r10,ys,hys,hlen,n10⟩=>?_
    exact thn (y6 (X:=cxC X scope cl { s2 with heap:=g3 } (upd H2 s2.heap.objs.size (.lst [])) fp) _ s10 τ8 H10 (.ref s2.heap.objs.size) [v] (.ref s2.heap.objs.size) [y] (fun _ H11=>N τ8 H11) I10 rfl (.cons r10 .nil) ⟨_,ys,v,rfl,rfl,hys,hlen,n10⟩) fun _ s11 ⟨_,H11,I11,_,n11⟩=>again I11 n11
 have LW:=loop (s2.toks+([]:List (Str × Value)).length)
 exact codeAny_compStart_list LW (T.self _ 0 _ _ _ (T.keep _ _ _ st3 fun b _ o e=>old b o e) LW)
end
section
variable {X:Cx}{ts:List Nat}{scope:Scope}{tg iter elt:Expr}{ifs:List Expr}{wi:TI}{g:TG}{tt:TT}{te:TE}{pos:Pos}
theorem Q8 (hc:X.calm=true)(hsc:Xv X.N ts scope X.env.kindOf=true)(hi:PI X tg iter wi)(hg:∀ cl s H fp,PG (cxC X scope cl s H fp) tg g)(ht:∀ cl s H fp,PIf (cxC X scope cl s H fp) ifs tt)(he:∀ cl s H fp,PE (cxC X scope cl s H fp) elt te)
  (hs:∀ x,foldedSetIterable iter X.env x=pure x:=by intro _;rfl):PE X (.ListComp elt [⟨tg,iter,ifs,0⟩] scope pos) (wZ ts wi g tt te):=by
 intro pins s σ H Q I h
 rw [eval_ListComp]
 refine wB hc hsc hi hg ht he I h (use:=none) (fun D C H' s' I' ⟨m,hn⟩ hC hL hce hsz hp hfs q=>⟨m,hn,fun h' hs'=>?_⟩) hs
 exact ⟨.ref D,H',I'.turned (t':=s'.toks) (it:=C) (fun b o hb e=>(hs'.2 b hb).trans e) hC hL (.inr hsz) hce hp,rfl,q⟩
theorem Qs {j:Nat}{y:Str}{py spos:Pos}(hc:X.calm=true)(hN:X.N.Nodup)(hj:X.N[j]?=some y)(hy:Loc X.env.scope y)(hsc:Xv X.N ts scope X.env.kindOf=true)(hi:PI X tg iter wi)(hg:∀ cl s H fp,PG (cxC X scope cl s H fp) tg g)(ht:∀ cl s H fp,PIf (cxC X scope cl s H fp) ifs tt)(he:∀ cl s H fp,PE (cxC X scope cl s H fp) elt te)
  (hsw:swapsWith (.ListComp elt [⟨tg,iter,ifs,0⟩] scope pos) (some (.Name y py)) spos.line X.env=pure true:=by rfl)
  (hs:∀ x,foldedSetIterable iter X.env x=pure x:=by intro _;rfl) (hf:X.fn y=true \/ X.env.scope.names.lookup y=some .local:=by first | exact .inl rfl | exact .inr rfl | assumption) :
  PS X (.Assign [.Name y py] (.ListComp elt [⟨tg,iter,ifs,0⟩] scope pos) spos) (J8 (wZ ts wi g tt te) (Zb j)):=by
 intro pins s σ H D I h
 rw [exec_Assign_Name_used _ _ _ _ hsw]
 refine wpAny_bind (wpAny_standAt (wpAny_bind ?_))
 show wpAny _ _ (do let _ <- comprehension (.ListComp elt [⟨tg,iter,ifs,0⟩] scope pos) scope X.env _ (newList []) false (eval iter X.env) (some (assign (.Name y py) X.env))) _ _ s
 refine wpAny_bind (wpAny_mono (wB hc hsc hi hg ht he I h (use:=some (assign (.Name y py) X.env)) (Q':=fun _ s'=>SP X pins D .next s') (fun D' C H' s' I' ⟨m,hn⟩ hC hL hce hsz hp hfs q=>?_) hs) (fun _ s' hq=>wpAny_pure (wpAny_pure hq)) fun _ _ e=>e)
 show wpAny _ _ (assign (.Name y py) X.env (.ref D')) _ _ _
 refine wpAny_assign_Name (vc (v:=.ref D') I' hN hj hy rfl (fun s2 I2 ⟨a,hsb,ha⟩=>?_) hf)
 have hCa:C ≠ a:=by
  rcases ha with rfl | ha
  ·exact hL
  ·exact Ne.symm (hce y a ha)
 refine ⟨m,hn.sameBut hsb hCa,fun h' hs'=>?_⟩
 exact ⟨_,H',I2.turned (t':=s2.toks) (it:=C) (fun b o hb e=>(hs'.2 b hb).trans e) hC hL (.inr hsz) hce hp,q⟩
end
noncomputable def Ite (K:PySem.W.Frag)(a:Addr):It:=
 ⟨fun i H=>∃ xs x,SqL K H a xs/\xs[i]?=some x,fun i H y H'=>∃ p x,H p=none/\y=.ref p/\(∀ xs,SqL K H a xs->xs[i]?=some x)/\H'=upd H p (.tup [.int i,x]),fun i H=>∃ xs,SqL K H a xs/\xs.length<=i⟩
theorem Ji {P:Program}{w:World}{K:PySem.W.Frag}{es:List Expr}{kt:Nat}{tp:Pos}(a e it:Addr)(hei:e ≠ it):ZJ P w K (.Tuple es kt tp) (Ite K a) [e,it] e (fun i h=>(∃ old,IsEnum h e it (i:Nat) old)/\h.IsListIter it a i) where
 mem:=by simp
 obj:=fun i h st b hb=>by
  obtain ⟨⟨old,he⟩,⟨o,e1,c,d⟩⟩:=st
  rcases List.mem_cons.mp hb with rfl | hb
  ·exact ⟨_,he,fun v z=>by have z':Data.fields _=Data.cell v:=z;cases z'⟩
  ·have e2:b=it:=by simpa using hb
   subst e2
   exact ⟨o,e1,fun v z=>by rw [d] at z;cases z⟩
 keep:=fun i h h' st k=>by
  obtain ⟨⟨old,he⟩,st⟩:=st
  exact ⟨⟨old,k e (by simp) _ he⟩,st.at fun o e=>k it (by simp) o e⟩
 item:=by
  intro X hP hw hK hc i pins s σ H E I hf st hg
  subst hP hw hK
  obtain ⟨⟨old,he⟩,st⟩:=st
  obtain ⟨xs,x,hq,hx⟩:=hg
  obtain ⟨its,rv,p,hz⟩:=I.list hq
  obtain ⟨u,hu,ru⟩:=rv.get hx
  have fe:=hf e (by simp)
  have fi:=hf it (by simp)
  refine wpAny_pyNext_enum_item he st p.isList (x:=u) (by simpa using hu) hei fun h1 heo hit1 ht1 hz1 hk1=>?_
  refine ⟨.ref s.heap.objs.size,rfl,wpAny_letOwnedTupleGo_enum heo fun h2 he2 hs2=>?_⟩
  replace hs2:Heap.SameBut e h1 h2:=hs2
  have elt:e<s.heap.objs.size:=Heap.lt_size he
  have hfr:H s.heap.objs.size=none:=I.hok.fresh (Nat.le_refl _)
  have ht2:h2.get? s.heap.objs.size=some { cls:=.type "tuple",data:=.seq #[.int i s.toks,u] }:=(hs2.2 _ (Nat.ne_of_gt elt)).trans ht1
  have kk:∀ b o,b ∉ [e,it]->s.heap.get? b=some o->h2.get? b=some o:=fun b o hc q=>by
   have n1:b ≠ e:=fun z=>hc (by simp [z])
   have n2:b ≠ it:=fun z=>hc (by simp [z])
   exact (hs2.2 b n1).trans (hk1 b o n1 n2 q)
  have nb:∀ c v,H c=some v->c ∉ [e,it]:=fun c v z hm=>by
   rcases List.mem_cons.mp hm with z' | z'
   ·rw [z',fe.1] at z;cases z
   ·have e2:c=it:=by simpa using z'
    rw [e2,fi.1] at z;cases z
  have I2:Inv X pins σ (upd H s.heap.objs.size (.tup [.int i,x])) { s with heap:=h2,toks:=s.toks+1 }:=by
   refine I.step (g':=s.gens) (d':=s.drawn) (ch:=[e,it]) (fun b hb=>?_) (fun b o _ _ hc q _=>kk b o hc q) (fun b o _ _ hc q _=>⟨o.slots,kk b o hc q⟩) (fun b o _ q n=>by rw [zi (Nat.ne_of_lt (Heap.lt_size q))];exact n) (fun b o hc q=>⟨o,kk b o hc q⟩)
    (fun b xs q=>by rw [zi (zk q hfr)];exact q) (fun b o u q=>by rw [zi (zk q hfr)];exact q) (fun b ps q=>⟨#[],by rw [zi (zk q hfr),q];simp⟩) (fun m hm=>?_) (fun b v q=>?_) I.bare
   ·rcases List.mem_cons.mp hb with z | hb
    ·rw [z];exact ⟨fe.2.2.2.1,fe.2.1,fe.2.2.2.2.1,fe.2.2.2.2.2⟩
    ·have e2:b=it:=by simpa using hb
     rw [e2];exact ⟨fi.2.2.2.1,fi.2.1,fi.2.2.2.2.1,fi.2.2.2.2.2⟩
   ·obtain ⟨o,es,ep,ho,r⟩:=hm
    exact ⟨o,es,ep,kk _ o (by simp [Ne.symm fe.2.1,Ne.symm fi.2.1]) ho,r⟩
   ·by_cases hb:b=s.heap.objs.size
    ·subst hb
     rw [zp] at q
     cases q
     exact ⟨by show 2<=sizeLine;decide,[.int i s.toks,u],.cons ⟨_,rfl⟩ (.cons ru .nil),_,ht2,rfl,⟨_,rfl⟩,rfl⟩
    ·rw [zi hb] at q
     refine (I.hok b v q).stay (fun c o hc q'=>kk c o ?_ q') (fun c z=>by rw [zi (zk z hfr)];exact z) fun c xs z=>by rw [zi (zk z hfr)];exact z
     rcases hc with z | z
     ·rw [z];exact nb b v q
     ·exact nb c _ z
  refine ⟨.ref s.heap.objs.size,_,I2,rfl,⟨s.heap.objs.size,x,hfr,rfl,fun ys hy=>by rw [I.list_inj hy hq];exact hx,rfl⟩,⟨⟨_,by simpa using he2⟩,hit1.extBut hs2.extBut (Ne.symm hei)⟩,fun b hb=>?_⟩
  have hlt:b<s.heap.objs.size:=by
   rcases List.mem_cons.mp hb with rfl | hb
   ·exact elt
   ·have e2:b=it:=by simpa using hb
    subst e2
    obtain ⟨o,e1,_⟩:=st
    exact Heap.lt_size e1
  rw [zi (Nat.ne_of_lt hlt)]
  exact (hf b hb).1
 done:=by
  intro X hP hw hK hc i pins s σ H E I hf st hg
  subst hP hw hK
  obtain ⟨⟨old,he⟩,st⟩:=st
  obtain ⟨xs,hq,hx⟩:=hg
  obtain ⟨its,rv,p,hz⟩:=I.list hq
  obtain ⟨f0,f1,f2,f3,f4,f5⟩:=hf it (by simp)
  have hl:=rv.length
  exact wpAny_pyNext_enum_end (I.ok.hd hc) he st p.isList (by simp;omega) fun h' eb=>⟨rfl,I.turned (t':=s.toks) (fun b o hb e=>eb b o hb e) f0 f1 f3 f4 f5⟩
 self:=fun _ _ _ _ _ st h=>by
  obtain ⟨⟨old,he⟩,_⟩:=st
  exact wpAny_pyIter_enum he h
section
variable {X:Cx}{pins:List (Addr × Obj)}{σ:St}{H:Hp}{s:Shared}
theorem Inv.yieldTup {ch:List Addr}{h2:Heap}{tk:Nat}{T:Addr}{xs:List V}{us:List Value}(I:Inv X pins σ H s)(hf:∀ b ∈ ch,xu X pins H b)(kk:∀ b o,b ∉ ch->s.heap.get? b=some o->h2.get? b=some o)(hT:s.heap.objs.size<=T)
  (ht2:h2.get? T=some { cls:=.type "tuple",data:=.seq us.toArray }) (rv:zw xs us) (hz:xs.length<=sizeLine):Inv X pins σ (upd H T (.tup xs)) { s with heap:=h2,toks:=tk }:=by
 have hfr:H T=none:=I.hok.fresh hT
 have nb:∀ c v,H c=some v->c ∉ ch:=fun c v z hm=>by rw [(hf c hm).1] at z;cases z
 refine I.step (g':=s.gens) (d':=s.drawn) (ch:=ch) (fun b hb=>⟨(hf b hb).2.2.2.1,(hf b hb).2.1,(hf b hb).2.2.2.2.1,(hf b hb).2.2.2.2.2⟩) (fun b o _ _ hc q _=>kk b o hc q) (fun b o _ _ hc q _=>⟨o.slots,kk b o hc q⟩)
  (fun b o _ q n=>by rw [zi (Nat.ne_of_lt (Nat.lt_of_lt_of_le (Heap.lt_size q) hT))];exact n) (fun b o hc q=>⟨o,kk b o hc q⟩)
  (fun b xs q=>by rw [zi (zk q hfr)];exact q) (fun b o u q=>by rw [zi (zk q hfr)];exact q) (fun b ps q=>⟨#[],by rw [zi (zk q hfr),q];simp⟩) (fun m hm=>?_) (fun b v q=>?_) I.bare
 ·obtain ⟨o,es,ep,ho,r⟩:=hm
  exact ⟨o,es,ep,kk _ o (fun z=>(hf _ z).2.1 rfl) ho,r⟩
 ·by_cases hb:b=T
  ·subst hb
   rw [zp] at q
   cases q
   exact ⟨hz,us,rv,_,ht2,rfl,⟨_,rfl⟩,rfl⟩
  ·rw [zi hb] at q
   refine (I.hok b v q).stay (fun c o hc q'=>kk c o ?_ q') (fun c z=>by rw [zi (zk z hfr)];exact z) fun c xs z=>by rw [zi (zk z hfr)];exact z
   rcases hc with z | z
   ·rw [z];exact nb b v q
   ·exact nb c _ z
theorem Inv.turnedL {ch:List Addr}{h2:Heap}{tk:Nat}(I:Inv X pins σ H s)(hf:∀ b ∈ ch,xu X pins H b)(kk:∀ b o,b ∉ ch->s.heap.get? b=some o->h2.get? b=some o):Inv X pins σ H { s with heap:=h2,toks:=tk }:=by
 have nb:∀ c v,H c=some v->c ∉ ch:=fun c v z hm=>by rw [(hf c hm).1] at z;cases z
 refine I.step (g':=s.gens) (d':=s.drawn) (ch:=ch) (fun b hb=>⟨(hf b hb).2.2.2.1,(hf b hb).2.1,(hf b hb).2.2.2.2.1,(hf b hb).2.2.2.2.2⟩) (fun b o _ _ hc q _=>kk b o hc q) (fun b o _ _ hc q _=>⟨o.slots,kk b o hc q⟩)
  (fun b o _ q n=>n) (fun b o hc q=>⟨o,kk b o hc q⟩) (fun b xs q=>q) (fun b o u q=>q) (fun b ps q=>⟨#[],by rw [q];simp⟩) (fun m hm=>?_) (fun b v q=>?_) I.bare
 ·obtain ⟨o,es,ep,ho,r⟩:=hm
  exact ⟨o,es,ep,kk _ o (fun z=>(hf _ z).2.1 rfl) ho,r⟩
 ·refine (I.hok b v q).stay (fun c o hc q'=>kk c o ?_ q') (fun c z=>z) fun c xs z=>z
  rcases hc with z | z
  ·rw [z];exact nb b v q
  ·exact nb c _ z
end
noncomputable def Itz (K:PySem.W.Frag)(a b:Addr):It:=
 ⟨fun i H=>∃ xs ys x y,SqL K H a xs/\SqL K H b ys/\xs[i]?=some x/\ys[i]?=some y,fun i H z H'=>∃ p x y,H p=none/\z=.ref p/\(∀ xs,SqL K H a xs->xs[i]?=some x)/\(∀ ys,SqL K H b ys->ys[i]?=some y)/\H'=upd H p (.tup [x,y]),
  fun i H=>∃ xs ys,SqL K H a xs/\SqL K H b ys/\(xs.length<=i \/ ys.length<=i)⟩
theorem Ym {P:Program}{w:World}{K:PySem.W.Frag}{es:List Expr}{kt:Nat}{tp:Pos}(l1 l2 z TI TO i1 i2:Addr)(D:ZipApart z TI TO i1 i2 l1 l2) :
  ZJ P w K (.Tuple es kt tp) (Itz K l1 l2) [z,TI,TO,i1,i2] z (fun i h=>IsZip h z TI TO .none/\IsPair h TI (.ref i1) (.ref i2)/\(∃ a b,IsPair h TO a b)/\h.IsListIter i1 l1 i/\h.IsListIter i2 l2 i) where
 mem:=by simp
 obj:=fun i h st b hb=>by
  obtain ⟨hz,hTI,⟨a,c,hTO⟩,⟨o1,e1,c1,d1⟩,⟨o2,e2,c2,d2⟩⟩:=st
  simp only [List.mem_cons,List.not_mem_nil,or_false] at hb
  rcases hb with rfl | rfl | rfl | rfl | rfl
  ·exact ⟨_,hz,fun v q=>by have q':Data.fields _=Data.cell v:=q;cases q'⟩
  ·exact ⟨_,hTI,fun v q=>by have q':Data.seq _ _=Data.cell v:=q;cases q'⟩
  ·exact ⟨_,hTO,fun v q=>by have q':Data.seq _ _=Data.cell v:=q;cases q'⟩
  ·exact ⟨o1,e1,fun v q=>by rw [d1] at q;cases q⟩
  ·exact ⟨o2,e2,fun v q=>by rw [d2] at q;cases q⟩
 keep:=fun i h h' st k=>by
  obtain ⟨hz,hTI,⟨a,c,hTO⟩,h1,h2⟩:=st
  exact ⟨k _ (by simp) _ hz,k _ (by simp) _ hTI,⟨a,c,k _ (by simp) _ hTO⟩,h1.at fun o e=>k _ (by simp) o e,h2.at fun o e=>k _ (by simp) o e⟩
 item:=by
  intro X hP hw hK hc i pins s σ H E I hf st hg
  subst hP hw hK
  obtain ⟨hz,hTI,⟨a,c,hTO⟩,h1,h2⟩:=st
  obtain ⟨xs,ys,x,y,hq1,hq2,hx,hy⟩:=hg
  obtain ⟨its1,rv1,p1,hz1⟩:=I.list hq1
  obtain ⟨its2,rv2,p2,hz2⟩:=I.list hq2
  obtain ⟨u,hu,ru⟩:=rv1.get hx
  obtain ⟨v,hv,rvv⟩:=rv2.get hy
  refine wpAny_pyNext_zip_item D hz hTI hTO h1 h2 p1.isList p2.isList (x:=u) (y:=v) (by simpa using hu) (by simpa using hv) fun g1 b1 b2 b3 b4 b5 b6 hk=>?_
  refine ⟨.ref s.heap.objs.size,rfl,wpAny_letOwnedTupleGo_zip b1 fun g2 hz2' hs2=>?_⟩
  replace hs2:Heap.SameBut z g1 g2:=hs2
  have zlt:z<s.heap.objs.size:=Heap.lt_size hz
  have I2:Inv X pins σ (upd H s.heap.objs.size (.tup [x,y])) { s with heap:=g2,toks:=s.toks }:=by
   refine I.yieldTup (us:=[u,v]) hf (fun b o hb e=>?_) (Nat.le_refl _) ((hs2.2 _ (Nat.ne_of_gt zlt)).trans b5) (.cons ru (.cons rvv .nil)) (by show 2<=sizeLine;decide)
   simp only [List.mem_cons,List.not_mem_nil,or_false,not_or] at hb
   exact (hs2.2 b hb.1).trans (hk b o hb.1 hb.2.2.1 hb.2.2.2.1 hb.2.2.2.2 e)
  refine ⟨.ref s.heap.objs.size,_,I2,rfl,⟨s.heap.objs.size,x,y,I.hok.fresh (Nat.le_refl _),rfl,fun xs' h'=>by rw [I.list_inj h' hq1];exact hx,fun ys' h'=>by rw [I.list_inj h' hq2];exact hy,rfl⟩,
   ⟨hz2',(hs2.2 _ D.TIz).trans (hk _ _ D.TIz D.TITO D.TIi1 D.TIi2 hTI),⟨_,_,(hs2.2 _ D.TOz).trans b2⟩,b3.extBut hs2.extBut D.i1z,b4.extBut hs2.extBut D.i2z⟩,fun b hb=>?_⟩
  have hlt:b<s.heap.objs.size:=by
   simp only [List.mem_cons,List.not_mem_nil,or_false] at hb
   rcases hb with rfl | rfl | rfl | rfl | rfl
   ·exact zlt
   ·exact Heap.lt_size hTI
   ·exact Heap.lt_size hTO
   ·obtain ⟨o,e,_⟩:=h1;exact Heap.lt_size e
   ·obtain ⟨o,e,_⟩:=h2;exact Heap.lt_size e
  rw [zi (Nat.ne_of_lt hlt)]
  exact (hf b hb).1
 done:=by
  intro X hP hw hK hc i pins s σ H E I hf st hg
  subst hP hw hK
  obtain ⟨hz,hTI,⟨a,c,hTO⟩,h1,h2⟩:=st
  obtain ⟨xs,ys,hq1,hq2,hend⟩:=hg
  obtain ⟨its1,rv1,p1,hz1⟩:=I.list hq1
  obtain ⟨its2,rv2,p2,hz2⟩:=I.list hq2
  have l1:=rv1.length
  have l2:=rv2.length
  refine wpAny_pyNext_zip_end (I.ok.hd hc) D hz hTI hTO h1 h2 p1.isList p2.isList (by simp;omega) fun h' hk=>⟨rfl,I.turnedL (tk:=s.toks) hf fun b o hb e=>?_⟩
  simp only [List.mem_cons,List.not_mem_nil,or_false,not_or] at hb
  exact hk b o hb.1 hb.2.2.1 hb.2.2.2.1 hb.2.2.2.2 e
 self:=fun _ _ _ _ _ st h=>wpAny_pyIter_zip st.1 h
theorem Zw:bootBuiltins "enumerate"=some (.type "enumerate"):=by decide +kernel
theorem JV:bootBuiltins "zip"=some (.type "zip"):=by decide +kernel
section
variable {X:Cx}{es:List Expr}{kt:Nat}{tp:Pos}
noncomputable def WM (K:PySem.W.Frag)(ta:TA):TI:=fun σ H R=>ta σ H fun vs H1=>∃ a,vs=[.ref a]/\(∃ xs,SqL K H1 a xs)/\R (Ite K a) H1
theorem Vx {e:Expr}{ta:TA}{p pos:Pos}(hg:Gl X "enumerate")(hm:X.mg "enumerate"=none)(ha:PA X [e] ta)(hs:starEach [e] X.env=[(false,eval e X.env)]:=by rfl) :
  PI X (.Tuple es kt tp) (.Call (.Name "enumerate" p) [e] [] pos) (WM X.K ta):=by
 intro pins s σ H R I h
 refine Call_ (xf I hg hm (Zw) (PyProof.Rows.callWith_type1 (thn (ha pos pins s σ H _ I h) fun us s1 ⟨vs,H1,I1,r1,q1⟩=>?_) hs rfl))
 obtain ⟨a,e,⟨xs,hq⟩,q⟩:=q1
 subst e
 obtain ⟨u,rfl,ru⟩:=jO r1
 cases ru
 obtain ⟨its,rv,pl,hz⟩:=I1.list hq
 refine call_enumerate_list pl.isList fun h' he hit hsz hk=>wpAny_pyIter_enum he ?_
 have I2:Inv X pins σ H1 { s1 with heap:=h' }:=I1.kept (t':=s1.toks) hk
 refine ⟨s1.heap.objs.size+1,[s1.heap.objs.size+1,s1.heap.objs.size],_,_,H1,rfl,I2,Ji a _ _ (Nat.succ_ne_self _),⟨⟨_,he⟩,hit⟩,fun b hb=>?_,q⟩
 have hb':s1.heap.objs.size<=b:=by
  simp only [List.mem_cons,List.not_mem_nil,or_false] at hb
  rcases hb with rfl | rfl
  ·exact Nat.le_succ _
  ·exact Nat.le_refl _
 exact I1.fpOk hb' (I1.hok.fresh hb')
end
theorem Ye {K:PySem.W.Frag}{a:Addr}{xs:List V}{g:TG}{tb:TS}{D:xi}{σ:St}{H:Hp}(Pv:Nat->St->Hp->Prop)(h0:Pv 0 σ H)(hl:∀ i σ H,i<=xs.length->Pv i σ H->SqL K H a xs)
  (hs:∀ i x p σ H,xs[i]?=some x->H p=none->Pv i σ H->g (.ref p) σ (upd H p (.tup [.int i,x])) fun σ2 H2=>tb { D with nx:=Pv (i+1),ct:=Pv (i+1),bk:=D.nx } σ2 H2) (hd:∀ σ H,Pv xs.length σ H->D.nx σ H) :
  ∃ W:Nat->Nat->St->Hp->Prop,(∃ m,W 0 m σ H)/\∀ i m σ H,W i m σ H ->
   ((Ite K a).stop i H/\D.nx σ H) \/ ((Ite K a).go i H/\∃ N:St->Hp->Prop,(∀ σ' H',N σ' H'->∃ m',m'<m/\W (i+1) m' σ' H')/\∀ x H',(Ite K a).yld i H x H'->g x σ H' fun σ2 H2=>tb { D with nx:=N,ct:=N,bk:=D.nx } σ2 H2):=by
 refine ⟨fun i m σ H=>m=xs.length - i/\i<=xs.length/\Pv i σ H,⟨xs.length,by simp,Nat.zero_le _,h0⟩,?_⟩
 rintro i m σ H ⟨rfl,hi,p⟩
 have q:=hl i σ H hi p
 by_cases hlt:i<xs.length
 ·refine .inr ⟨⟨xs,xs[i],q,by simp [hlt]⟩,Pv (i+1),fun σ' H' p'=>⟨xs.length - (i+1),by omega,rfl,hlt,p'⟩,fun x H' y=>?_⟩
  obtain ⟨pp,x',hp,rfl,y,rfl⟩:=y
  exact hs i x' pp σ _ (y xs q) hp p
 ·have e:i=xs.length:=by omega
  subst e
  exact .inl ⟨⟨xs,q,Nat.le_refl _⟩,hd σ H p⟩
noncomputable def wj (p:Addr)(a b c:Int):HO:=.ext fun h=>∃ t u v,h.get? p=some { cls:=.type "range",data:=.fields #[.int a t,.int b u,.int c v] }
theorem Aj {P:Program}{w:World}{H:Hp}{h:Heap}{p:Addr}{a b c:Int}{t u v:Tok}(e:h.get? p=some { cls:=.type "range",data:=.fields #[.int a t,.int b u,.int c v] }):zL P w H h p (wj p a b c):=
 ⟨⟨t,u,v,e⟩,⟨_,e⟩,fun h1 h2 ⟨t,u,v,q⟩ k=>⟨t,u,v,k _ q⟩⟩
noncomputable def qA (a c:Int)(n:Nat):List Int:=(List.range n).map fun (i:Nat)=>a+(i:Int) * c
theorem qJ (a c:Int)(n:Nat):(qA a c n).length=n:=by simp [qA]
theorem Qd {a c:Int}:∀ {n:Nat} {acc:Array Value},ItemsOf (fun (i:Nat) (v:Value)=>∃ t,v=Value.int (a+(i:Int) * c) t) acc n->zw ((qA a c n).map V.int) acc.toList:=by
 intro n acc ⟨hs,hi⟩
 have key:∀ (k:Nat) (l:List Value),l.length=k->(∀ (j:Nat) v,l[j]?=some v->∃ t,v=Value.int (a+(j:Int) * c) t)->zw ((qA a c k).map V.int) l:=by
  intro k
  induction k with
  | zero=>intro l hl _;cases l with
   | nil=>exact .nil
   | cons=>simp at hl
  | succ k ih=>
   intro l hl hv
   obtain ⟨l',x,rfl⟩:∃ l' x,l=l' ++ [x]:=⟨l.dropLast,l.getLast (by intro e;rw [e] at hl;simp at hl),(List.dropLast_concat_getLast _).symm⟩
   have hl':l'.length=k:=by simpa using hl
   have e:(qA a c (k+1)).map V.int=(qA a c k).map V.int ++ [.int (a+(k:Int) * c)]:=by simp [qA,List.range_succ]
   rw [e]
   refine (ih l' hl' fun j v hj=>hv j v ?_).append (.cons ?_ .nil)
   ·rw [List.getElem?_append_left (List.getElem?_eq_some_iff.mp hj).1];exact hj
   ·obtain ⟨t,rfl⟩:=hv k x (by rw [List.getElem?_append_right (by omega),hl'];simp)
    exact ⟨t,rfl⟩
 exact key n acc.toList (by simpa using hs) fun j v hj=>hi j v (by simpa using hj)
section
variable {X:Cx}
theorem jW:qW X (.type "range") (fun xs H Q=>∃ b:Int,xs=[.int b]/\∀ p,H p=none->Q (.ref p) (upd H p (wj p 0 b 1))):=by
 intro pins s σ H xs us Q I r h
 obtain ⟨b,rfl,q⟩:=h
 obtain ⟨u,rfl,t,rfl⟩:=jO r
 refine call_range_1 ⟨.ref s.heap.objs.size,_,I.laid (fun b o e=>Heap.get?_push_of_some _ e) (Nat.le_refl _) ?_,rfl,q _ (I.hok.fresh (Nat.le_refl _))⟩
 exact Aj (Heap.get?_push_size _ rfl)
theorem jt (hc:X.calm=true):qW X (.type "list") (fun xs H Q=>∃ p a b c n,xs=[.ref p]/\H p=some (wj p a b c)/\Builtin.Range.small a b c=true/\Builtin.Range.rangeSize a b c=((n:Nat):Int)/\n<=100000/\∀ l,H l=none->Q (.ref l) (upd H l (.lst ((qA a c n).map V.int)))):=by
 intro pins s σ H xs us Q I r h
 obtain ⟨p,a,b,c,n,rfl,hp,hs,hn,hz,q⟩:=h
 obtain ⟨u,rfl,rx⟩:=jO r
 cases rx
 obtain ⟨⟨t,u,v,e⟩,_⟩:=(show zL X.prog X.w H s.heap p (wj p a b c) from I.hok _ _ hp)
 refine call_list_range (I.ok.hd hc) e hs hn (Nat.le_trans hz (by decide)) fun h' tk acc c' hk he hi=>?_
 refine ⟨.ref s.heap.objs.size,_,I.laid hk (Nat.le_refl _) (show zL X.prog X.w _ h' _ (.lst ((qA a c n).map V.int)) from ⟨?_,acc.toList,c',Qd hi,by simpa using he⟩),rfl,q _ (I.hok.fresh (Nat.le_refl _))⟩
 rw [List.length_map,qJ]
 exact Nat.le_trans hz (by decide)
end
section
variable {X:Cx}
noncomputable def isT (t c:String):Option Bool:=if (Value.type t == Value.type c)=true then some true else if PySem.W.kitMeta c=true then (fastBuiltinMro t).map (·.contains (Value.type c)) else none
theorem Qq (K:PySem.W.Frag)(t c:String):PySem.W.kitOne K (.type t) (.type c)=isT t c:=rfl
noncomputable def xx (t:String):List String->Option Bool
 | []=>some false
 | c :: r=>match isT t c with
  | some true=>some true
  | some false=>xx t r
  | none=>none
theorem vY (K:PySem.W.Frag)(t:String):∀ cs:List String,PySem.W.kitAny K (.type t) (cs.map Value.type)=xx t cs
 | []=>rfl
 | c :: r=>by
  show (match PySem.W.kitOne K (.type t) (.type c) with | some true=>some true | some false=>PySem.W.kitAny K (.type t) (r.map Value.type) | none=>none)=_
  rw [Qq,vY K t r];rfl
theorem qD:qW X (.builtin "isinstance") (fun xs H Q=>∃ x t c b,xs=[x,.ty c]/\j0 X.K H x (.type t)/\isT t c=some b/\Q (.bl b) H):=by
 intro pins s σ H xs us Q I r h
 obtain ⟨x,t,c,b,rfl,ty,e,q⟩:=h
 obtain ⟨u,v,rfl,ru,rv⟩:=wn r
 cases rv
 exact JY I ru ty (by rw [Qq];exact e) fun tk=>⟨.bl b,H,I.tok _,rfl,q⟩
theorem Zc:∀ {cs:List String} {us:List Value},zw (cs.map V.ty) us->us=cs.map Value.type
 | [],_,.nil=>rfl
 | c :: cs,_,.cons r t=>by rw [Zc t];cases r;rfl
theorem Jb:qW X (.builtin "isinstance") (fun xs H Q=>∃ x t p cs b,xs=[x,.ref p]/\H p=some (.tup (List.map V.ty cs))/\j0 X.K H x (.type t)/\xx t cs=some b/\Q (.bl b) H):=by
 intro pins s σ H xs us Q I r h
 obtain ⟨x,t,p,cs,b,rfl,hp,ty,e,q⟩:=h
 obtain ⟨u,v,rfl,rx,rv⟩:=wn r
 cases rv
 obtain ⟨_,its,rt,o,ho,hc,⟨n,hd⟩,_⟩:=(show zL X.prog X.w H s.heap p (.tup (List.map V.ty cs)) from I.hok _ _ hp)
 obtain ⟨oc,od,odt,osl⟩:=o
 simp only at hc hd
 subst hc hd
 have e':PySem.W.kitAny X.K (.type t) its=some b:=by rw [Zc rt,vY];exact e
 have fin:∀ tk,EP X pins σ Q (.bool b) { s with toks:=tk }:=fun tk=>⟨.bl b,H,I.tok _,rfl,q⟩
 cases ty with
 | non=>cases (show u=Value.none from rx);exact PySem.W.kia_tup PySem.W.kitx_none I.kIn True.intro ho e' (fun z=>nomatch z) fin
 | bl y=>cases (show u=Value.bool y from rx);exact PySem.W.kia_tup PySem.W.kitx_bool I.kIn True.intro ho e' (fun z=>nomatch z) fin
 | int i=>obtain ⟨t,q⟩:=(show ∃ t,u=Value.int i t from rx);cases q;exact PySem.W.kia_tup PySem.W.kitx_int I.kIn True.intro ho e' (fun z=>nomatch z) fin
 | str y=>obtain ⟨t,q⟩:=(show ∃ t,u=Value.str y t from rx);cases q;exact PySem.W.kia_tup PySem.W.kitx_str I.kIn True.intro ho e' (fun z=>nomatch z) fin
 | flt y=>obtain ⟨t,q⟩:=(show ∃ t,u=Value.float y t from rx);cases q;exact PySem.W.kia_tup PySem.W.kitx_float I.kIn True.intro ho e' (fun z=>nomatch z) fin
 | @lst a xs ea=>
  cases (show u=Value.ref a from rx)
  obtain ⟨_,_,n,_,h1⟩:=(show zL X.prog X.w H s.heap a (.lst xs) from I.hok a _ ea)
  exact PySem.W.kia_tup PySem.W.kitx_list I.kIn ⟨_,h1,rfl⟩ ho e' (fun z=>nomatch z) fin
 | @frz a ob xs ea=>
  cases (show u=Value.ref a from rx)
  obtain ⟨_,_,_,n,_,h1⟩:=(show zL X.prog X.w H s.heap a (.frz ob (.lst xs)) from I.hok a _ ea)
  exact PySem.W.kia_tup PySem.W.kitx_list I.kIn ⟨_,h1,rfl⟩ ho e' (fun z=>nomatch z) fin
 | @tup a xs ea=>
  cases (show u=Value.ref a from rx)
  obtain ⟨_,_,_,p⟩:=(show zL X.prog X.w H s.heap a (.tup xs) from I.hok a _ ea)
  obtain ⟨o,h1,h2,_⟩:=p
  exact PySem.W.kia_tup PySem.W.kitx_tuple I.kIn ⟨o,h1,h2⟩ ho e' (fun z=>nomatch z) fin
 | @dK a kvs ea=>
  cases (show u=Value.ref a from rx)
  obtain ⟨_,_,vs,_,p⟩:=(show zL X.prog X.w H s.heap a (.dK kvs) from I.hok a _ ea)
  obtain ⟨o,es,ep,h1,h2,_⟩:=p
  exact PySem.W.kia_tup PySem.W.kitx_dict I.kIn ⟨o,h1,h2.1⟩ ho e' (fun z=>nomatch z) fin
 | @dT a kvs ea=>
  cases (show u=Value.ref a from rx)
  obtain ⟨_,_,xs,_,o,es,ep,h1,h2,_⟩:=(show zL X.prog X.w H s.heap a (.dT kvs) from I.hok a _ ea)
  exact PySem.W.kia_tup PySem.W.kitx_dict I.kIn ⟨o,h1,h2.1⟩ ho e' (fun z=>nomatch z) fin
end
noncomputable def At (K:PySem.W.Frag)(mg:Str->Option Value)(x:Str)(st:Stmt):Prop:=∃ f fd,Fun K x x st f fd/\mg x=some (.ref f)
noncomputable def Df (P:Program)(w:World)(K:PySem.W.Frag)(mg:Str->Option Value)(base:Heap)(x:Str)(ps:List Str)(k:Nat)(sp:Sp):Prop:=
 ∃ f fd,kf P w K mg base CX0 k f fd ps sp/\yP K fd ps []/\PySem.W.keepIn K (.ref f)=true/\mg x=some (.ref f)/\∃ oc od osl,K.lookup f=some ⟨oc,od,.func fd,osl⟩
theorem Df.mono {P:Program}{w:World}{K:PySem.W.Frag}{mg:Str->Option Value}{base:Heap}{x:Str}{ps:List Str}{j k:Nat}{sp:Sp}(D:Df P w K mg base x ps j sp)(h:j<=k):Df P w K mg base x ps k sp:=
 let ⟨f,fd,F,r⟩:=D
 ⟨f,fd,F.mono h,r⟩
section
variable {X:Cx}{k:Nat}{x:Str}{ps:List Str}{sp:Sp}{p pos:Pos}{e:Expr}{es:List Expr}{t:TA}
theorem zK (D:Df X.prog X.w X.K X.mg X.base x ps k sp)(hr:jw k X.A)(hg:Gl X x)(ha:PA X (e :: es) t)(hdb:(x == ("__debug__":Str))=false:=by decide)
  (he:starEach (e :: es) X.env=(false,eval e X.env) :: starEach es X.env:=by rfl) (hpl:(backTo pos (starEach es X.env)).any (·.1)=false:=by rfl):PE X (.Call (.Name x p) (e :: es) [] pos) (Qn sp [] E0 t):=by
 obtain ⟨f,fd,F,b,kp,m,_⟩:=D
 exact VJ F hr hg m kp b .nil BS ha hdb he hpl
end
theorem va {P:Program}{w:World}{K:PySem.W.Frag}{mg:Str->Option Value}{base:Heap}{x:Str}{st:Stmt}{N ps:List Str}{k:Nat}{sp:Sp}(a:At K mg x st)(S:zO N ps (zn st))
  (hb:∀ (kV doc pm:Value) (an:Option Addr) (cdv ct:Value) (us:List Value),us.length=ps.length->bindArgs (PySem.W.fnOf x x (jn st) (qN st) (zn st) .none kV doc pm an cdv ct) ⟨us,[]⟩=pure (ps.zip us))
  (len:∀ vs H Q E,sp vs H Q E->vs.length=ps.length)
  (hbody:∀ (f:Addr) (cdv:Value) (A:Around) (outer:List Env) (s:Shared) (H:Hp) (vs:List V) (Q:VK) (E:XK),jw k (A.deeper (envOfC x (zn st) s.heap.objs.size f cdv))->sp vs H Q E ->
   ∃ t,PSs (vM CX0 P w K mg base N x (zn st) f cdv A outer s H E).nox (qN st) t/\t { nx:=fun _ H'=>Q .non H',rt:=Q } (jk N vs) H):Df P w K mg base x ps (k+1) sp:=by
 obtain ⟨f,fd,F,m⟩:=a
 obtain ⟨oc,od,kV,doc,pm,an,cdv,ct,osl,_,lk,_⟩:=id F.ex
 exact ⟨f,fd,F.ok S len fun cdv A outer s H vs Q E=>hbody f cdv A outer s H vs Q E,F.binds hb,F.kp,m,oc,od,osl,lk⟩
theorem at_mk {K:PySem.W.Frag}{mg:Str->Option Value}{h:Heap}{x:Str}{st:Stmt}{f:Addr}{oc:Value}{od an:Option Addr}{osl:Array (Option Value)}{kV doc pm cdv ct:Value}(X:K.In h)(G:h.Ns mainGlobals mg)(a:PySem.W.nsIn K mainGlobals x=some (some (.ref f)))
  (l:K.lookup f=some ⟨oc,od,.func (PySem.W.fnOf x x (jn st) (qN st) (zn st) .none kV doc pm an cdv ct),osl⟩) (c:PySem.W.codeIn K cdv x=true) (k:PySem.W.keepIn K (.ref f)=true):At K mg x st:=⟨f,_,Yq l c k,PySem.W.mg_of X G a⟩
theorem Df.fn {P:Program}{w:World}{K:PySem.W.Frag}{mg:Str->Option Value}{base:Heap}{x:Str}{ps:List Str}{k:Nat}{sp:Sp}{f:Addr}{fd:FuncData}{oc:Value}{od:Option Addr}{osl:Array (Option Value)}(D:Df P w K mg base x ps k sp)(m:mg x=some (.ref f))(l:K.lookup f=some ⟨oc,od,.func fd,osl⟩):kf P w K mg base CX0 k f fd ps sp:=by
 obtain ⟨f',fd',F,_,_,m',oc',od',osl',l'⟩:=D
 rw [m] at m'
 cases m'
 rw [l] at l'
 cases l'
 exact F
structure Blt (mg:Str->Option Value):Prop where
 len:mg "len"=none
 range:mg "range"=none
 list:mg "list"=none
 tuple:mg "tuple"=none
 int:mg "int"=none
 bool:mg "bool"=none
 str:mg "str"=none
 abs:mg "abs"=none
 divmod:mg "divmod"=none
 enumerate:mg "enumerate"=none
 zip:mg "zip"=none
 sorted:mg "sorted"=none
 max:mg "max"=none
 min:mg "min"=none
 isinstance:mg "isinstance"=none
 all:mg "all"=none
theorem blt_mk {K:PySem.W.Frag}{mg:Str->Option Value}{h:Heap}(X:K.In h)(G:h.Ns mainGlobals mg)(z1:PySem.W.nsIn K mainGlobals "len"=some none)(z2:PySem.W.nsIn K mainGlobals "range"=some none)(z3:PySem.W.nsIn K mainGlobals "list"=some none)(z4:PySem.W.nsIn K mainGlobals "tuple"=some none)(z5:PySem.W.nsIn K mainGlobals "int"=some none)(z6:PySem.W.nsIn K mainGlobals "bool"=some none)(z7:PySem.W.nsIn K mainGlobals "str"=some none)(z8:PySem.W.nsIn K mainGlobals "abs"=some none)
  (z9:PySem.W.nsIn K mainGlobals "divmod"=some none) (z10:PySem.W.nsIn K mainGlobals "enumerate"=some none) (z11:PySem.W.nsIn K mainGlobals "zip"=some none) (z12:PySem.W.nsIn K mainGlobals "sorted"=some none) (z13:PySem.W.nsIn K mainGlobals "max"=some none) (z14:PySem.W.nsIn K mainGlobals "min"=some none) (z15:PySem.W.nsIn K mainGlobals "isinstance"=some none) (z16:PySem.W.nsIn K mainGlobals "all"=some none):Blt mg:=
 ⟨PySem.W.mg_none_of X G z1,PySem.W.mg_none_of X G z2,PySem.W.mg_none_of X G z3,PySem.W.mg_none_of X G z4,PySem.W.mg_none_of X G z5,PySem.W.mg_none_of X G z6,PySem.W.mg_none_of X G z7,PySem.W.mg_none_of X G z8,PySem.W.mg_none_of X G z9,PySem.W.mg_none_of X G z10,PySem.W.mg_none_of X G z11,PySem.W.mg_none_of X G z12,PySem.W.mg_none_of X G z13,PySem.W.mg_none_of X G z14,PySem.W.mg_none_of X G z15,PySem.W.mg_none_of X G z16⟩
theorem zH:bootBuiltins "isinstance"=some (.builtin "isinstance"):=by decide +kernel
theorem yF:bootBuiltins "sorted"=some (.builtin "sorted"):=by decide +kernel
theorem K4:bootBuiltins "abs"=some (.builtin "abs"):=by decide +kernel
theorem Jg:bootBuiltins "divmod"=some (.builtin "divmod"):=by decide +kernel
theorem X0:bootBuiltins "max"=some (.builtin "max"):=by decide +kernel
theorem qO:bootBuiltins "len"=some (.builtin "len"):=by decide +kernel
theorem qV:bootBuiltins "list"=some (.type "list"):=by decide +kernel
theorem kL:bootBuiltins "tuple"=some (.type "tuple"):=by decide +kernel
theorem ZP:bootBuiltins "int"=some (.type "int"):=by decide +kernel
theorem Q0:bootBuiltins "bool"=some (.type "bool"):=by decide +kernel
theorem ZV:bootBuiltins "str"=some (.type "str"):=by decide +kernel
theorem yn:bootBuiltins "range"=some (.type "range"):=by decide +kernel
noncomputable def Kp (bs:List Addr)(H H':Hp):Prop:=∀ c o,c ∉ bs->H c=some o->H' c=some o
theorem Kp.refl {bs:List Addr}{H:Hp}:Kp bs H H:=fun _ _ _ h=>h
theorem Kp.trans {bs:List Addr}{H H1 H2:Hp}(a:Kp bs H H1)(b:Kp bs H1 H2):Kp bs H H2:=fun c o n h=>b c o n (a c o n h)
theorem Kp.new {bs:List Addr}{H:Hp}{p:Addr}(o:HO)(h:H p=none):Kp bs H (upd H p o):=fun c u _ q=>by rw [zi (zk q h)];exact q
theorem Kp.set {bs:List Addr}{H:Hp}{p:Addr}(o:HO)(h:p ∈ bs):Kp bs H (upd H p o):=fun c u n q=>by have hne:c ≠ p:=(fun e=>n (by rw [e];exact h));rw [zi hne];exact q
theorem Kp.free {H H':Hp}(e:Kp [] H H'){l:Addr}(h:H' l=Option.none):H l=Option.none:=by
 cases q:H l with
 | none=>rfl
 | some o=>rw [e l o (by simp) q] at h;cases h
noncomputable def Bx (H:Hp)(b:Addr)(N:Nat):Prop:=∃ x y z:Int,H b=some (.lst [.int x,.int y,.int z])/\0<=x/\0<=y/\y<2147483648/\0<=z/\z<=N
noncomputable abbrev il (ns:List Int):HO:=.lst (ns.map V.int)
theorem cxK {CX:CXT}{P:Program}{w:World}{K:PySem.W.Frag}{mg:Str->Option Value}{base:Heap}{N:List Str}{qual:Str}{scope:Scope}{f:Addr}{cd:Value}{A:Around}{outer:List Env}{s:Shared}{H:Hp}{E:XK} :
  (vM CX P w K mg base N qual scope f cd A outer s H E).K=K:=rfl
noncomputable def B2 (J:It)(g:TG)(tb:TS)(D:xi)(σ:St)(H:Hp):Prop:=∃ W:Nat->Nat->St->Hp->Prop,(∃ m,W 0 m σ H)/\∀ i m σ H,W i m σ H ->
 (J.stop i H/\D.nx σ H) \/ (J.go i H/\∃ N:St->Hp->Prop,(∀ σ' H',N σ' H'->∃ m',m'<m/\W (i+1) m' σ' H')/\∀ x H',J.yld i H x H'->g x σ H' fun σ2 H2=>tb { D with nx:=N,ct:=N,bk:=D.nx } σ2 H2)
theorem Qu {wi:TI}{g:TG}{tb:TS}{D:xi}{σ:St}{H:Hp}:WX wi g tb D σ H=wi σ H (fun J H1=>B2 J g tb D σ H1):=rfl
noncomputable def DH (J:It)(g:TG)(tt:TT)(te:TE)(D:Addr)(Q:VK)(τ:St)(H:Hp):Prop:=∃ W:Nat->Nat->St->Hp->Prop,(∃ m,W 0 m τ H)/\∀ i m τ H2,W i m τ H2 ->
 (J.stop i H2/\Q (.ref D) H2) \/ (J.go i H2/\∃ N:St->Hp->Prop,(∀ τ' H',N τ' H'->∃ m',m'<m/\W (i+1) m' τ' H')/\∀ x H',J.yld i H2 x H'->g x τ H' fun τ2 H3=>tt τ2 H3 fun b H4=>
  if b=true then te τ2 H4 fun v H5=>∃ ys,H5 D=some (.lst ys)/\ys.length<sizeLine/\N τ2 (upd H5 D (.lst (ys ++ [v]))) else N τ2 H4)
theorem XO {ts:List Nat}{wi:TI}{g:TG}{tt:TT}{te:TE}{σ:St}{H:Hp}{Q:VK} :
  wZ ts wi g tt te σ H Q=wi σ H (fun J H1=>∀ D,H1 D=none->DH J g tt te D Q (clr ts σ) (upd H1 D (.lst []))):=rfl
theorem VX {K:PySem.W.Frag}{a:Addr}{xs:List V}{g:TG}{tb:TS}{D:xi}{σ:St}{H:Hp}(Pv:Nat->St->Hp->Prop)(h0:Pv 0 σ H)(hl:∀ i σ H,i<=xs.length->Pv i σ H->SqL K H a xs)
  (hs:∀ i x p σ H,xs[i]?=some x->H p=none->Pv i σ H->g (.ref p) σ (upd H p (.tup [.int i,x])) fun σ2 H2=>tb { D with nx:=Pv (i+1),ct:=Pv (i+1),bk:=D.nx } σ2 H2) (hd:∀ σ H,Pv xs.length σ H->D.nx σ H):B2 (Ite K a) g tb D σ H:=Ye Pv h0 hl hs hd
noncomputable def XG (i j k:Nat)(ta:TA):TS:=fun D σ H=>ta σ H fun vs H1=>∃ v w x,vs=[v,w,x]/\D.nx (((σ.set i (some v)).set j (some w)).set k (some x)) H1
theorem QY {X:Cx}{pos:Pos}{i j k:Nat}{x y z:Str}{a b c:Expr}{ta:TA}{px py pz pt:Pos}{kt k2 pt2}(hc:X.calm=true)(hN:X.N.Nodup)(hi:X.N[i]?=some x)(hj:X.N[j]?=some y)(hk:X.N[k]?=some z)(hij:i ≠ j)(hik:i ≠ k)(hjk:j ≠ k)
  (hx:X.env.scope.names.lookup x=some .local) (hy:X.env.scope.names.lookup y=some .local) (hz:X.env.scope.names.lookup z=some .local) (ha:PA X [a,b,c] ta)
  (hw:swappedStores [.Tuple [.Name x px,.Name y py,.Name z pz] kt pt] (.Tuple [a,b,c] k2 pt2) X.env=pure (some [x,y,z]))
  (hs:swapsWithSole [.Tuple [.Name x px,.Name y py,.Name z pz] kt pt] (.Tuple [a,b,c] k2 pt2) pos.line X.env=pure false:=by rfl) :
  PS X (.Assign [.Tuple [.Name x px,.Name y py,.Name z pz] kt pt] (.Tuple [a,b,c] k2 pt2) pos) (XG i j k ta):=by
 intro pins s σ H D I h
 rw [exec_Assign_arm]
 refine wpAny_bind (wpAny_standAt ?_)
 rw [hs]
 refine wpAny_bind (wpAny_pure ?_)
 rw [if_neg (by decide)]
 refine wpAny_bind (Tuple_ (thn (ha _ pins s σ H _ I h) fun us s1 ⟨vs,H1,I1,r1,q1⟩=>?_))
 obtain ⟨v,w,v3,e1,q1⟩:=q1
 subst e1
 obtain ⟨u1,u2,u3,rfl,rv,rw',r3⟩:∃ u1 u2 u3,us=[u1,u2,u3]/\zx v u1/\zx w u2/\zx v3 u3:=by
  cases r1 with
  | cons p q=>
   cases q with
   | cons p' q'=>
    cases q' with
    | cons p'' q''=>
     cases q''
     exact ⟨_,_,_,rfl,p,p',p''⟩
 refine wpAny_newObj_type ?_ (by show 3<=sizeLine;decide)
 have I2:Inv X pins σ H1 { s1 with heap:=s1.heap.push { cls:=.type "tuple",data:=.seq [u1,u2,u3].toArray } }:=I1.kept (t':=s1.toks) fun b o e=>Heap.get?_push_of_some _ e
 rw [hw]
 refine wpAny_bind (wpAny_pure ?_)
 show wpAny (model X.prog X.w) X.A (do rule "assign.swapped-stores";let items <- unpackItems (.ref s1.heap.objs.size) 3 none;assignInOrder [fun v=>bindName X.env z v,fun v=>bindName X.env y v,fun v=>bindName X.env x v] items.reverse;pure Flow.next) _ _ _
 refine wpAny_bind (wpAny_rule (wpAny_bind (unpackItems_tuple (items:=#[u1,u2,u3]) (I.ok.hd hc) (IsTup.new s1.heap _) fun h' hx'=>?_)))
 have I3:=I2.kept (h':=h') (t':=s1.toks) fun b o e=>hx' b o (Nat.ne_of_lt (Heap.lt_size e)) e
 show wpAny _ _ (assignInOrder [fun v=>bindName X.env z v,fun v=>bindName X.env y v,fun v=>bindName X.env x v] [u3,u2,u1] >>= fun _=>pure Flow.next) _ _ _
 refine wpAny_bind (assignInOrder_cons (wpAny_bindName (jg I3 hN hk (.inl hz) r3 (fun s2 I4=>?_) (.inr hz))))
 refine assignInOrder_cons (wpAny_bindName (jg I4 hN hj (.inl hy) rw' (fun s3 I5=>?_) (.inr hy)))
 refine assignInOrder_cons (wpAny_bindName (jg I5 hN hi (.inl hx) rv (fun s4 I6=>assignInOrder_nil (wpAny_pure ?_)) (.inr hx)))
 rw [List.set_comm _ _ (Ne.symm hij),List.set_comm _ _ (Ne.symm hik),List.set_comm _ _ (Ne.symm hjk)] at I6
 refine ⟨_,H1,?_,q1⟩
 first | exact I6 | (rw [List.set_comm _ _ hij] at I6;exact I6) | (have e:∀ τ:St,((τ.set k (some v3)).set j (some w)).set i (some v)=((τ.set i (some v)).set j (some w)).set k (some v3):=fun τ=>by rw [List.set_comm _ _ (Ne.symm hij),List.set_comm _ _ (Ne.symm hik),List.set_comm _ _ (Ne.symm hjk)];exact I6)
theorem Pn1_ {α:Type}{p:List α->Prop}(f:∀ a,p [a]):∀ us:List α,us.length=1->p us
 | [_],_=>f _
theorem Pn2_ {α:Type}{p:List α->Prop}(f:∀ a b,p [a,b]):∀ us:List α,us.length=2->p us
 | [_,_],_=>f _ _
theorem Pn3_ {α:Type}{p:List α->Prop}(f:∀ a b c,p [a,b,c]):∀ us:List α,us.length=3->p us
 | [_,_,_],_=>f _ _ _
theorem Pn4_ {α:Type}{p:List α->Prop}(f:∀ a b c d,p [a,b,c,d]):∀ us:List α,us.length=4->p us
 | [_,_,_,_],_=>f _ _ _ _
noncomputable def Jj_:Expr->Option Int
 | .Constant (.int i) _ _=>some i
 | _=>none
noncomputable def ZE:List Expr->Option (List Int)
 | []=>some []
 | e :: r=>match Jj_ e with
  | some i=>(ZE r).map (i :: ·)
  | none=>none
noncomputable def WK (is:List Int):TA:=fun _ H Q=>Q (is.map V.int) H
theorem QC {X:Cx}:∀ {es:List Expr} {is:List Int},ZE es=some is->PA X es (WK is)
 | [],is,h=>by
  cases (show some []=some is from h)
  exact zb
 | e :: r,is,h=>by
  unfold ZE at h
  split at h
  ·rename_i i hi
   obtain ⟨js,e',rfl⟩:=Option.map_eq_some_iff.mp h
   unfold Jj_ at hi
   split at hi
   ·cases hi;exact za (te:=tC (.int i)) zc (QC e')
   ·cases hi
  ·cases h
theorem vb {X:Cx}:qW X (.type "int") (fun xs H Q=>∃ k,xs=[.bl k]/\Q (.int (if k then 1 else 0)) H):=by
 intro pins s σ H xs us Q I r h
 exact Jf pins s σ H xs us Q I r (.inr h)
theorem Bx.mono {H:Hp}{b:Addr}{N M:Nat}(h:Bx H b N)(le:N<=M):Bx H b M:=let ⟨x,y,z,h1,h2,h3,h4,h5,h6⟩:=h;⟨x,y,z,h1,h2,h3,h4,h5,by omega⟩
theorem Bx.new {H:Hp}{b p:Addr}{N:Nat}{o:HO}(h:Bx H b N)(hp:H p=none):Bx (upd H p o) b N:=let ⟨x,y,z,h1,r⟩:=h;⟨x,y,z,(zi (zk h1 hp)).trans h1,r⟩
theorem vE {ns:List Int}{i:Nat}(h:i<ns.length):ns.getD i 0=ns[i]:=by rw [List.getD_eq_getElem?_getD,List.getElem?_eq_getElem h];rfl
noncomputable def Zx:V->V->V->Hp->(Hp->Prop)->Prop:=fun o i v H Q=>∃ k,i=.int k/\∃ p,o=.ref p/\∃ xs,H p=some (.lst xs)/\∃ j,ixN xs.length k=some j/\Q (upd H p (.lst (xs.set j v)))
section
variable {X:Cx}
theorem qj:MtR X "list.append" xE:=y6
theorem qp {es:List Expr}{k:Nat}{t:TGs}{pos:Pos}{K:PySem.W.Frag}(n:Nat)(h:X.K=K)(hc:X.calm=true)(hs:PGs X es t)(hn:(assignEach es X.env).length=n:=by rfl)(hst:(assignEach es X.env).findIdx? (·.1)=none:=by rfl):PG X (.Tuple es k pos) (Xe K n t):=h ▸ WW hc hs hn hst
theorem zJ:BK X Zx:=by
 intro pins s σ H o i v ov iv u Q I ro ri rv h
 obtain ⟨k,e1,p,e2,xs,h1,j,h2,q⟩:=h
 exact YT pins s σ H o i v ov iv u Q I ro ri rv ⟨p,xs,k,j,e2,e1,h1,h2,q⟩
end
section
variable {X:Cx}
noncomputable def Qi (K:PySem.W.Frag):R2:=fun x y H Q=>∃ p xs i v,x=.ref p/\y=.int i/\(SqL K H p xs \/ SqT K H p xs)/\atI xs i=some v/\Q v H
theorem zu:IxR X (Qi X.K):=by
 intro value slice pins s σ H x y v u Q I rx ry h hs
 obtain ⟨p,xs,i,z,e1,e2,hq | hq,he,q⟩:=h
 ·exact qo value slice pins s σ H x y v u Q I rx ry ⟨p,xs,i,z,e1,e2,hq,he,q⟩ hs
 ·exact BG value slice pins s σ H x y v u Q I rx ry ⟨p,xs,i,z,e1,e2,hq,he,q⟩ hs
theorem KQ {K:PySem.W.Frag}(h:X.K=K):IxR X (Qi K):=h ▸ zu
theorem WY:bootBuiltins "all"=some (.builtin "all"):=by decide +kernel
theorem yb:∀ {bs:List Bool} {us:List Value},zw (bs.map V.bl) us->us=bs.map Value.bool
 | [],_,h=>by cases h;rfl
 | b :: bs,_,h=>by
  cases h with
  | cons r rs=>cases r;rw [yb rs];rfl
theorem Zv (bs:List Bool):((List.range bs.length).all fun i=>(bs[i]?).getD true)=bs.all id:=by
 rw [Bool.eq_iff_iff,List.all_eq_true,List.all_eq_true]
 constructor
 ·intro h x hx
  obtain ⟨i,hi,rfl⟩:=List.getElem_of_mem hx
  have:=h i (by simpa using hi)
  simpa [List.getElem?_eq_getElem hi] using this
 ·intro h i hi
  have hi':i<bs.length:=by simpa using hi
  simpa [List.getElem?_eq_getElem hi'] using h bs[i] (List.getElem_mem hi')
theorem Jm (hc:X.calm=true):qW X (.builtin "all") (fun xs H Q=>∃ p bs,xs=[.ref p]/\SqL X.K H p (List.map V.bl bs)/\Q (.bl (bs.all id)) H):=by
  intro pins s σ H xs us Q I r h
  obtain ⟨p,bs,rfl,hq,q⟩:=h
  obtain ⟨u,rfl,rx⟩:=jO r
  cases rx
  obtain ⟨its,rv,pl,hz⟩:=I.list hq
  have hu:=yb rv
  subst hu
  have hlt:p<s.heap.objs.size:=by obtain ⟨_,e,_⟩:=pl.isList;exact Heap.lt_size e
  refine call_all_walk (wpAny_pyIter_list pl.isList ?_)
  refine ⟨s.heap.objs.size,[s.heap.objs.size,p],[s.heap.objs.size],(bs.map Value.bool).toArray.size,_,_,fun i=>(bs[i]?).getD true,rfl,Walks.list (A:=X.A.in1) (I.ok.hd hc) _ p (Nat.ne_of_lt hlt) (bs.map Value.bool).toArray,
    ⟨⟨_,Heap.get?_push_size _ rfl,rfl,rfl⟩,pl.isList.push _⟩,fun i v s' Q' E' hP hQ=>?_,fun h' tk hk=>?_⟩
  · have hP':(bs.map Value.bool)[i]?=some v:=by simpa using hP
    rw [List.getElem?_map] at hP'
    cases e:bs[i]? with
    | none=>rw [e] at hP';cases hP'
    | some b=>
      rw [e] at hP'
      cases hP'
      simp only [e,Option.getD_some] at hQ
      exact wpAny_truthy_bool hQ
  · have e : ((List.range (bs.map Value.bool).toArray.size).all fun i => (bs[i]?).getD true) = bs.all id := by
      rw [List.size_toArray,List.length_map];exact Zv bs
    rw [e]
    refine ⟨.bl (bs.all id),H,I.turnedL (ch:=[]) (tk:=tk) (fun b hb=>nomatch hb) (fun b o _ eb=>?_),rfl,q⟩
    exact hk b o (fun hm=>by rw [List.mem_singleton.mp hm] at eb;exact Nat.lt_irrefl _ (Heap.lt_size eb)) (Heap.get?_push_of_some _ eb)
end
section
variable {P:Program}{w:World}{A:Around}{E:Value->Shared->Prop}{s:Shared}{j t:Addr}{i:Nat}{its:Array Value}{Q:Value->Shared->Prop}
theorem kI {x:Value}(hj:s.heap.IsTupleIter j t i)(ht:s.heap.IsTuple t its)(hx:its[i]?=some x)(hQ:∀ h',h'.IsTupleIter j t (i+1)->Heap.SameBut j s.heap h'->Q x { s with heap:=h' }):wpAny (model P w) A (Builtin.SmallTypes.nextOf (.ref j)) Q E s:=by
 obtain ⟨o,ho,hc,hd⟩:=id hj
 obtain ⟨ot,hot,_,nt,hdt⟩:=ht
 unfold Builtin.SmallTypes.nextOf
 refine wpAny_bind (wpAny_callSpecial?_slot (name:=Str.ofString "__next__") hj.typeIs F.slot_tuple_iterator_next (wpAny_call_entry F.slot_tuple_iterator_next hj.typeIs F.entry_tuple_iterator_next ?_ (F.args_tuple_iterator_next_1 _)))
 refine wpAny_bind (m:=field (.ref j) 0) (wpAny_field ho hd (x:=.ref t) rfl ?_);show wpAny _ _ (if (Value.ref t == Value.none)=true then _ else _) _ _ s;rw [if_neg (show ¬ ((Value.ref t == Value.none)=true) from Bool.false_ne_true)]
 refine wpAny_bind (m:=field (.ref j) 1) (wpAny_field ho hd (x:=.int i 0) rfl ?_);refine wpAny_bind (m:=seqItems? (.ref t)) (wpAny_seqItems hot hdt ?_);simp only [Int.toNat_natCast,hx]
 refine wpAny_bind (wpAny_setField ho hd (by simp) (wpAny_pure ⟨x,rfl,wpAny_pure (hQ _ ⟨_,Heap.get?_update_self _ ho (Obj.isFreed_of_fields (Obj.data_mapFields hd _)),(Obj.cls_mapFields ..).trans hc,by rw [Obj.data_mapFields hd];simp [rawInt]⟩ (Heap.SameBut.update ..))⟩))
theorem wL (hh:A.handled=none)(hj:s.heap.IsTupleIter j t i)(ht:s.heap.IsTuple t its)(hx:its[i]?=none)(hE:∀ h' e,Heap.ExtBut j s.heap h'->(∃ o,h'.get? e=some o/\o.cls=.type "StopIteration")->E (.ref e) { s with heap:=h' }):wpAny (model P w) A (Builtin.SmallTypes.nextOf (.ref j)) Q E s:=by
 obtain ⟨o,ho,hc,hd⟩:=id hj
 obtain ⟨ot,hot,_,nt,hdt⟩:=ht
 unfold Builtin.SmallTypes.nextOf
 refine wpAny_bind (wpAny_callSpecial?_slot (name:=Str.ofString "__next__") hj.typeIs F.slot_tuple_iterator_next (wpAny_call_entry F.slot_tuple_iterator_next hj.typeIs F.entry_tuple_iterator_next ?_ (F.args_tuple_iterator_next_1 _)))
 refine wpAny_bind (m:=field (.ref j) 0) (wpAny_field ho hd (x:=.ref t) rfl ?_);show wpAny _ _ (if (Value.ref t == Value.none)=true then _ else _) _ _ s;rw [if_neg (show ¬ ((Value.ref t == Value.none)=true) from Bool.false_ne_true)]
 refine wpAny_bind (m:=field (.ref j) 1) (wpAny_field ho hd (x:=.int i 0) rfl ?_);refine wpAny_bind (m:=seqItems? (.ref t)) (wpAny_seqItems hot hdt ?_);simp only [Int.toNat_natCast,hx]
 refine wpAny_bind (wpAny_rule (wpAny_bind (wpAny_setField ho hd (by simp) ?_)));refine wpAny_bind (m:=newExc (.type "StopIteration") []) ?_;simp only [newExc,newTuple];refine wpAny_bind (wpAny_newObj_type ?_ (by size_fits));refine wpAny_bind (m:=firstArgMember _ _) (wpAny_of_eq (a:=Value.none) (by first | rfl | (simp only [firstArgMember];rfl)) ?_);refine wpAny_newObj_type ?_ (by size_fits);simp only [raiseNew];refine wpAny_bind (wpAny_handled ?_)
 (first | rw [show A.in1.handled=none from hh] | rw [hh]);refine wpAny_bind (wpAny_pure (wpAny_throw ?_));exact hE _ _ (((Heap.SameBut.update ..).extBut.push _).push _) ⟨_,Heap.get?_push_size _ rfl,rfl⟩
end
open AutoSeq1 (wpAny_loadPart') in
section
variable {X:Cx}{es:List Expr}{kt:Nat}{tp:Pos}
end
noncomputable def iLT (K:PySem.W.Frag)(tl:TE):TI:=fun σ H R=>tl σ H fun x H1=>∃ a,x=.ref a/\(((∃ xs,SqL K H1 a xs)/\R (Itl K a) H1) \/ ((∃ xs,SqT K H1 a xs)/\R (Itt K a) H1))
theorem yd {X:Cx}{tg:Expr}{l:Expr}{tl:TE}(hl:PE X l tl):PI X tg l (iLT X.K tl):=by
 intro pins s σ H R I h
 refine thn (hl pins s σ H _ I h) fun v s1 ⟨x,H1,I1,r1,q1⟩=>?_
 obtain ⟨a,e,q⟩:=q1
 subst e
 cases r1
 have fo:∀ b ∈ [s1.heap.objs.size],xu X pins H1 b:=fun b hb=>by
  have e:b=s1.heap.objs.size:=by simpa using hb
  subst e
  exact I1.fpOk (Nat.le_refl _) (I1.hok.fresh (Nat.le_refl _))
 rcases q with ⟨⟨xs,hq⟩,q⟩ | ⟨⟨xs,hq⟩,q⟩
 ·obtain ⟨its,rv,p,hz⟩:=I1.list hq
  refine wpAny_pyIter_list p.isList ?_
  exact ⟨s1.heap.objs.size,[s1.heap.objs.size],_,_,H1,rfl,I1.kept (t':=s1.toks) fun b o e=>Heap.get?_push_of_some _ e,JP a _,⟨_,Heap.get?_push_size _ rfl,rfl,rfl⟩,fo,q⟩
 ·obtain ⟨its,rv,p,hz⟩:=I1.tuple hq
  refine wpAny_pyIter_tuple (show s1.heap.IsTuple a its.toArray from p) ?_
  exact ⟨s1.heap.objs.size,[s1.heap.objs.size],_,_,H1,rfl,I1.kept (t':=s1.toks) fun b o e=>Heap.get?_push_of_some _ e,ZF a _,⟨_,Heap.get?_push_size _ rfl,rfl,rfl⟩,fo,q⟩
section
variable {X:Cx}
end
section
variable {X:Cx}
end
section
variable {prog:Program}{w:World}{A:Around}{R:Result->Shared->Prop}{s:Shared}
end
noncomputable def CL (J:It)(g:TG)(tt:TT)(tr:St->Hp->(St->Hp->Prop)->Prop)(N:St->Hp->Prop)(σ:St)(H:Hp):Prop:=∃ W:Nat->Nat->St->Hp->Prop,(∃ m,W 0 m σ H)/\∀ i m τ H2,W i m τ H2 ->
 (J.stop i H2/\N τ H2) \/ (J.go i H2/\∃ N1:St->Hp->Prop,(∀ τ' H',N1 τ' H'->∃ m',m'<m/\W (i+1) m' τ' H')/\∀ x H',J.yld i H2 x H'->g x τ H' fun τ2 H3=>tt τ2 H3 fun b H4=>
  if b=true then tr τ2 H4 N1 else N1 τ2 H4)
noncomputable abbrev TR:=St->Hp->(St->Hp->Prop)->Prop
noncomputable def Qc (te:TE)(D:Addr):TR:=fun σ H N=>te σ H fun v H5=>∃ ys,H5 D=some (.lst ys)/\ys.length<sizeLine/\N σ (upd H5 D (.lst (ys ++ [v])))
noncomputable def Bz (wi:TI)(g:TG)(tt:TT)(tr:Addr->TR)(D:Addr):TR:=fun σ H N=>wi σ H fun J H1=>CL J g tt (tr D) N σ H1
section
variable {C:Cx}{elt tg iter:Expr}{ifs:List Expr}{gens:List Comprehension}{scope:Scope}{pos:Pos}{d:Nat}{D:Addr}{g:TG}{tt:TT}{te:TE}{tr:TR}
end
noncomputable def Xr (ts:List Nat)(wi:TI)(g:TG)(tt:TT)(tr:Addr->TR):TE:=fun σ H Q=>wi σ H fun J H1=>∀ D,H1 D=none->CL J g tt (tr D) (fun _ H2=>Q (.ref D) H2) (clr ts σ) (upd H1 D (.lst []))
section
variable {X:Cx}{ts:List Nat}{scope:Scope}{tg iter elt:Expr}{ifs:List Expr}{qR:List Comprehension}{wi:TI}{g:TG}{tt:TT}{tr:Addr->TR}{pos:Pos}
end
theorem Jq {ts:List Nat}{wi:TI}{g:TG}{tt:TT}{tr:Addr->TR}{σ:St}{H:Hp}{Q:VK} :
  Xr ts wi g tt tr σ H Q=wi σ H (fun J H1=>∀ D,H1 D=none->CL J g tt (tr D) (fun _ H2=>Q (.ref D) H2) (clr ts σ) (upd H1 D (.lst []))):=rfl
theorem J3 {wi:TI}{g:TG}{tt:TT}{tr:Addr->TR}{D:Addr}{σ:St}{H:Hp}{N:St->Hp->Prop}:Bz wi g tt tr D σ H N=wi σ H (fun J H1=>CL J g tt (tr D) N σ H1):=rfl
theorem Js {te:TE}{D:Addr}{σ:St}{H:Hp}{N:St->Hp->Prop}:Qc te D σ H N=te σ H (fun v H5=>∃ ys,H5 D=some (.lst ys)/\ys.length<sizeLine/\N σ (upd H5 D (.lst (ys ++ [v])))):=rfl
section
variable {P:Program}{w:World}{A:Around}{E:Value->Shared->Prop}{it l:Addr}{items:Array Value}
end
section
variable {X:Cx}{pos:Pos}
end
noncomputable def rep (o:Nat)(G:List Int):List Int:=(List.range (o * G.length)).map fun (i:Nat)=>((i / G.length * G.length:Nat):Int)+G.getD (i % G.length) 0
section
variable {P:Program}{w:World}{A:Around}{E:Value->Shared->Prop}{s:Shared}{z TI TO i1 i2 l1 l2:Addr}{k:Nat}{xs ys:Array Value}{x y a b:Value}{Q:Option Value->Shared->Prop}
theorem Jr (D:ZipApart z TI TO i1 i2 l1 l2)(hz:IsZip s.heap z TI TO .none)(hTI:IsPair s.heap TI (.ref i1) (.ref i2))(hTO:IsPair s.heap TO a b)(h1:s.heap.IsTupleIter i1 l1 k)(h2:s.heap.IsTupleIter i2 l2 k)(p1:s.heap.IsTuple l1 xs)(p2:s.heap.IsTuple l2 ys)(hx:xs[k]?=some x)(hy:ys[k]?=some y)
  (hQ:∀ h',IsZip h' z TI TO (rawInt s.heap.objs.size)->IsPair h' TO x y->h'.IsTupleIter i1 l1 (k+1)->h'.IsTupleIter i2 l2 (k+1)->IsPair h' s.heap.objs.size x y->h'.objs.size=s.heap.objs.size+1->(∀ c o,c ≠ z->c ≠ TO->c ≠ i1->c ≠ i2->s.heap.get? c=some o->h'.get? c=some o)->Q (some (.ref s.heap.objs.size)) { s with heap:=h' }) :
  wpAny (model P w) A (pyNext (.ref z)) Q E s:=by
 have hT:s.TypeIs (.ref z) "zip":=⟨_,hz,rfl⟩
 unfold pyNext
 refine wpAny_bind (wpAny_attempt (wpAny_callSpecial?_slot (name:=Str.ofString "__next__") hT F.slot_zip_next (wpAny_call_entry F.slot_zip_next hT F.entry_zip_next ?_ (F.args_zip_next_1 _))))
 refine wpAny_bind (m:=field (.ref z) 2) (wpAny_field hz rfl (x:=.bool false) rfl ?_)
 refine wpAny_bind (m:=field (.ref z) 3) (wpAny_field hz rfl (x:=.ref TI) rfl ?_)
 refine wpAny_bind (m:=seqItems? (.ref TI)) (wpAny_seqItems hTI rfl ?_)
 refine wpAny_bind (m:=Builtin.SmallTypes.ownedTupleIsFree (.ref z)) ?_
 unfold Builtin.SmallTypes.ownedTupleIsFree
 refine wpAny_bind (wpAny_field hz rfl (x:=.none) rfl (wpAny_pure ?_))
 refine wpAny_bind (m:=rule "zip.__next__.owned-tuple-again") (wpAny_rule ?_)
 refine wpAny_bind (m:=field (.ref z) 4) (wpAny_field hz rfl (x:=.ref TO) rfl ?_)
 refine wpAny_bind (m:=setField (.ref z) 0 .ellipsis) (wpAny_setField hz rfl (by simp) ?_)
 have sb1:=Heap.SameBut.update s.heap z (Obj.mapFields fun x_1=>x_1.setIfInBounds 0 Value.ellipsis)
 have g1:(s.heap.update z (Obj.mapFields fun x_1=>x_1.setIfInBounds 0 Value.ellipsis)).get? z=some { cls:=Value.type "zip",data:=Data.fields #[.ellipsis,Value.bool false,Value.bool false,Value.ref TI,Value.ref TO] }:=Heap.get?_update_self _ hz (Obj.isFreed_of_fields (Obj.data_mapFields rfl _))
 generalize s.heap.update z (Obj.mapFields fun x_1=>x_1.setIfInBounds 0 Value.ellipsis)=h1' at *
 refine wpAny_bind ?_
 rw [show (#[Value.ref i1,Value.ref i2].toList.zipIdx:List (Value × Nat))=[(.ref i1,0),(.ref i2,1)] from rfl,List.forIn_cons]
 dsimp only
 have it1:h1'.IsTupleIter i1 l1 k:=by obtain ⟨o,ho,r⟩:=h1;exact ⟨o,(sb1.2 i1 D.i1z).trans ho,r⟩
 have tp1:h1'.IsTuple l1 xs:=by obtain ⟨o,ho,r⟩:=p1;exact ⟨o,(sb1.2 l1 D.l1z).trans ho,r⟩
 refine wpAny_bind (wpAny_bind (wpAny_onRaise ?_))
 show wpAny _ _ (Builtin.SmallTypes.nextOf (.ref i1) >>= fun v=>pure (some v)) _ _ _
 refine wpAny_bind (kI it1 tp1 hx fun h2' it2 sb2=>wpAny_pure ?_)
 dsimp only
 have gTO2:IsPair h2' TO a b:=((sb2.2 TO D.TOi1).trans (sb1.2 TO D.TOz)).trans hTO
 refine wpAny_bind (wpAny_seqItems gTO2 rfl ?_)
 dsimp only
 refine wpAny_bind (wpAny_updateSeq_pair gTO2 fun h3' g3 sb3=>?_)
 refine wpAny_bind (wpAny_letGo (wpAny_pure ?_))
 dsimp only
 have g3':IsPair h3' TO x b:=g3
 have it3:h3'.IsTupleIter i2 l2 k:=by obtain ⟨o,ho,r⟩:=h2;exact ⟨o,(((sb3.2 i2 (Ne.symm D.TOi2)).trans (sb2.2 i2 (Ne.symm D.i12))).trans (sb1.2 i2 D.i2z)).trans ho,r⟩
 have tp3:h3'.IsTuple l2 ys:=by obtain ⟨o,ho,r⟩:=p2;exact ⟨o,(((sb3.2 l2 D.l2TO).trans (sb2.2 l2 D.l2i1)).trans (sb1.2 l2 D.l2z)).trans ho,r⟩
 rw [List.forIn_cons]
 refine wpAny_bind (wpAny_bind (wpAny_onRaise ?_))
 show wpAny _ _ (Builtin.SmallTypes.nextOf (.ref i2) >>= fun v=>pure (some v)) _ _ _
 refine wpAny_bind (kI it3 tp3 hy fun h4' it4 sb4=>wpAny_pure ?_)
 dsimp only
 have gTO4:IsPair h4' TO x b:=(sb4.2 TO D.TOi2).trans g3'
 refine wpAny_bind (wpAny_seqItems gTO4 rfl ?_)
 dsimp only
 refine wpAny_bind (wpAny_updateSeq_pair gTO4 fun h5' g5 sb5=>?_)
 refine wpAny_bind (wpAny_letGo (wpAny_pure ?_))
 dsimp only
 have g5':IsPair h5' TO x y:=g5
 rw [List.forIn_nil]
 refine wpAny_pure ?_
 dsimp only
 refine wpAny_bind (wpAny_seqItems g5' rfl ?_)
 dsimp only
 have sz5:h5'.objs.size=s.heap.objs.size:=((((sb5.1).trans sb4.1).trans sb3.1).trans sb2.1).trans sb1.1
 refine wpAny_bind (wpAny_newTuple ?_ (by show 2<=sizeLine;decide))
 have gz5:h5'.get? z=some { cls:=Value.type "zip",data:=Data.fields #[.ellipsis,Value.bool false,Value.bool false,Value.ref TI,Value.ref TO] }:=((((sb5.2 z (Ne.symm D.TOz)).trans (sb4.2 z (Ne.symm D.i2z))).trans (sb3.2 z (Ne.symm D.TOz))).trans (sb2.2 z (Ne.symm D.i1z))).trans g1
 have zlt:z<h5'.objs.size:=Heap.lt_size gz5
 have g6:(h5'.push { cls:=Value.type "tuple",data:=Data.seq #[x,y] }).get? z=_:=Heap.get?_push_of_some _ gz5
 have n6:(h5'.push { cls:=Value.type "tuple",data:=Data.seq #[x,y] }).get? h5'.objs.size=some { cls:=Value.type "tuple",data:=Data.seq #[x,y] }:=Heap.get?_push_size _ rfl
 have ex6:∀ c o,h5'.get? c=some o->(h5'.push { cls:=Value.type "tuple",data:=Data.seq #[x,y] }).get? c=some o:=fun c o e=>Heap.get?_push_of_some _ e
 have sz6:(h5'.push { cls:=Value.type "tuple",data:=Data.seq #[x,y] }).objs.size=h5'.objs.size+1:=Heap.size_push ..
 show wpAny _ _ (Builtin.SmallTypes.ownedTupleHandOut (.ref z) (.ref h5'.objs.size) >>= _) _ _ { s with heap:=h5'.push { cls:=Value.type "tuple",data:=Data.seq #[x,y] } }
 generalize h5'.push { cls:=Value.type "tuple",data:=Data.seq #[x,y] }=h6' at *
 unfold Builtin.SmallTypes.ownedTupleHandOut
 refine wpAny_bind (wpAny_bind (wpAny_setField g6 rfl (by simp) (wpAny_setField (Heap.get?_update_self _ g6 (Obj.isFreed_of_fields (Obj.data_mapFields rfl _))) rfl (by simp) ?_)))
 have sb7:=Heap.SameBut.update h6' z (Obj.mapFields fun x_1=>x_1.setIfInBounds 0 (rawInt h5'.objs.size))
 have g7:(h6'.update z (Obj.mapFields fun x_1=>x_1.setIfInBounds 0 (rawInt h5'.objs.size))).get? z=some { cls:=Value.type "zip",data:=Data.fields #[rawInt h5'.objs.size,Value.bool false,Value.bool false,Value.ref TI,Value.ref TO] }:=Heap.get?_update_self _ g6 (Obj.isFreed_of_fields (Obj.data_mapFields rfl _))
 dsimp only
 generalize h6'.update z (Obj.mapFields fun x_1=>x_1.setIfInBounds 0 (rawInt h5'.objs.size))=h7' at *
 have sb8:=Heap.SameBut.update h7' z (Obj.mapFields fun x_1=>x_1.setIfInBounds 1 (Value.bool false))
 have g8:(h7'.update z (Obj.mapFields fun x_1=>x_1.setIfInBounds 1 (Value.bool false))).get? z=some { cls:=Value.type "zip",data:=Data.fields #[rawInt h5'.objs.size,Value.bool false,Value.bool false,Value.ref TI,Value.ref TO] }:=Heap.get?_update_self _ g7 (Obj.isFreed_of_fields (Obj.data_mapFields rfl _))
 generalize h7'.update z (Obj.mapFields fun x_1=>x_1.setIfInBounds 1 (Value.bool false))=h8' at *
 have far:∀ c o,c ≠ z->h6'.get? c=some o->h8'.get? c=some o:=fun c o hc e=>((sb8.2 c hc).trans (sb7.2 c hc)).trans e
 refine wpAny_pure ⟨_,rfl,wpAny_pure ?_⟩
 rw [sz5] at g8 n6 sz6 zlt ⊢
 refine hQ h8' g8 (far _ _ D.TOz (ex6 _ _ g5')) ?_ ?_ (far _ _ (Nat.ne_of_gt zlt) n6) (by rw [sb8.1,sb7.1,sz6]) fun c o c1 c2 c3 c4 e=>?_
 ·obtain ⟨o,ho,r⟩:=it2
  exact ⟨o,far _ _ D.i1z (ex6 _ _ (((sb5.2 i1 (Ne.symm D.TOi1)).trans (sb4.2 i1 D.i12)).trans ((sb3.2 i1 (Ne.symm D.TOi1)).trans ho))),r⟩
 ·obtain ⟨o,ho,r⟩:=it4
  exact ⟨o,far _ _ D.i2z (ex6 _ _ ((sb5.2 i2 (Ne.symm D.TOi2)).trans ho)),r⟩
 ·exact far _ _ c1 (ex6 _ _ ((sb5.2 c c2).trans ((sb4.2 c c4).trans ((sb3.2 c c2).trans ((sb2.2 c c3).trans ((sb1.2 c c1).trans e))))))
theorem XW (hh:A.handled=none)(D:ZipApart z TI TO i1 i2 l1 l2)(hz:IsZip s.heap z TI TO .none)(hTI:IsPair s.heap TI (.ref i1) (.ref i2))(h1:s.heap.IsTupleIter i1 l1 k)(p1:s.heap.IsTuple l1 xs)(hx:xs[k]?=none)
  (hQ:∀ h',(∀ c o,c ≠ z->c ≠ TO->c ≠ i1->c ≠ i2->s.heap.get? c=some o->h'.get? c=some o)->Q none { s with heap:=h' }):wpAny (model P w) A (pyNext (.ref z)) Q E s:=by
 have hT:s.TypeIs (.ref z) "zip":=⟨_,hz,rfl⟩
 unfold pyNext
 refine wpAny_bind (wpAny_attempt (wpAny_callSpecial?_slot (name:=Str.ofString "__next__") hT F.slot_zip_next (wpAny_call_entry F.slot_zip_next hT F.entry_zip_next ?_ (F.args_zip_next_1 _))))
 refine wpAny_bind (m:=field (.ref z) 2) (wpAny_field hz rfl (x:=.bool false) rfl ?_)
 refine wpAny_bind (m:=field (.ref z) 3) (wpAny_field hz rfl (x:=.ref TI) rfl ?_)
 refine wpAny_bind (m:=seqItems? (.ref TI)) (wpAny_seqItems hTI rfl ?_)
 refine wpAny_bind (m:=Builtin.SmallTypes.ownedTupleIsFree (.ref z)) ?_
 unfold Builtin.SmallTypes.ownedTupleIsFree
 refine wpAny_bind (wpAny_field hz rfl (x:=.none) rfl (wpAny_pure ?_))
 refine wpAny_bind (m:=rule "zip.__next__.owned-tuple-again") (wpAny_rule ?_)
 refine wpAny_bind (m:=field (.ref z) 4) (wpAny_field hz rfl (x:=.ref TO) rfl ?_)
 refine wpAny_bind (m:=setField (.ref z) 0 .ellipsis) (wpAny_setField hz rfl (by simp) ?_)
 have sb1:=Heap.SameBut.update s.heap z (Obj.mapFields fun x_1=>x_1.setIfInBounds 0 Value.ellipsis)
 have g1:(s.heap.update z (Obj.mapFields fun x_1=>x_1.setIfInBounds 0 Value.ellipsis)).get? z=some { cls:=Value.type "zip",data:=Data.fields #[.ellipsis,Value.bool false,Value.bool false,Value.ref TI,Value.ref TO] }:=Heap.get?_update_self _ hz (Obj.isFreed_of_fields (Obj.data_mapFields rfl _))
 generalize s.heap.update z (Obj.mapFields fun x_1=>x_1.setIfInBounds 0 Value.ellipsis)=h1' at *
 refine wpAny_bind ?_
 rw [show (#[Value.ref i1,Value.ref i2].toList.zipIdx:List (Value × Nat))=[(.ref i1,0),(.ref i2,1)] from rfl,List.forIn_cons]
 dsimp only
 have it1:h1'.IsTupleIter i1 l1 k:=by obtain ⟨o,ho,r⟩:=h1;exact ⟨o,(sb1.2 i1 D.i1z).trans ho,r⟩
 have tp1:h1'.IsTuple l1 xs:=by obtain ⟨o,ho,r⟩:=p1;exact ⟨o,(sb1.2 l1 D.l1z).trans ho,r⟩
 refine wpAny_bind (wpAny_bind (wpAny_onRaise ?_))
 show wpAny _ _ (Builtin.SmallTypes.nextOf (.ref i1) >>= fun v=>pure (some v)) _ _ _
 refine wpAny_bind (wL (by first | exact hh | (show A.in1.handled=none;exact hh)) it1 tp1 hx fun h2' e ex2 ⟨oe,hoe,hce⟩=>?_)
 have gz2:h2'.get? z=some { cls:=Value.type "zip",data:=Data.fields #[.ellipsis,Value.bool false,Value.bool false,Value.ref TI,Value.ref TO] }:=ex2 z _ (Ne.symm D.i1z) g1
 have hez:e ≠ z:=by
  intro h
  subst h
  have hoe':h2'.get? e=some oe:=hoe
  rw [gz2] at hoe'
  cases hoe'
  exact absurd (show Value.type "zip"=Value.type "StopIteration" from hce) (by decide)
 refine wpAny_setField gz2 rfl (by simp) ?_
 have sb3:=Heap.SameBut.update h2' z (Obj.mapFields fun x_1=>x_1.setIfInBounds 0 Value.none)
 dsimp only
 generalize h2'.update z (Obj.mapFields fun x_1=>x_1.setIfInBounds 0 Value.none)=h3' at *
 refine wpAny_bind (wpAny_isInstance (T:="StopIteration") (b:=true) ⟨oe,(sb3.2 e hez).trans hoe,hce⟩ isSubtype_stop ?_)
 refine wpAny_pure (hQ h3' fun c o c1 c2 c3 c4 ec=>?_)
 exact (sb3.2 c c1).trans (ex2 c o c3 ((sb1.2 c c1).trans ec))
end
open AutoSeq1 (wpAny_loadPart') in
theorem KJ (l1 l2:Addr)(xs ys:Array Value)(n1 n2:Nat)(d1 d2:Option Addr)(s1 s2:Array (Option Value)) :
  Meets (Builtin.«zip.__new__» ⟨[.type "zip",.ref l1,.ref l2],[]⟩) (fun _ R s=>s.heap.get? l1=some { cls:=.type "tuple",dict:=d1,data:=.seq xs n1,slots:=s1 }/\s.heap.get? l2=some { cls:=.type "tuple",dict:=d2,data:=.seq ys n2,slots:=s2 } /\
   ∀ g1 g2 g3 g4 g5,g1=s.heap.push { cls:=.type "tuple_iterator",data:=.fields #[.ref l1,.int 0 0] }->g2=g1.push { cls:=.type "tuple_iterator",data:=.fields #[.ref l2,.int 0 0] }->g3=g2.push { cls:=.type "tuple",data:=.seq #[.ref s.heap.objs.size,.ref g1.objs.size] }->g4=g3.push { cls:=.type "tuple",data:=.seq #[.none,.none] }->g5=g4.push { cls:=.type "zip",data:=.fields #[.none,.bool false,.bool false,.ref g2.objs.size,.ref g3.objs.size] }->R (.ok (.ret (.ref g4.objs.size))) { s with heap:=g5 }):=
 .of_wp fun prog w A R s h=>by
  obtain ⟨hp,g,d,tk,os⟩:=s
  obtain ⟨hl1,hl2,h⟩:=h
  have hT1:Heap.IsTuple (Shared.heap ⟨hp,g,d,tk,os⟩) l1 xs:=⟨_,hl1,rfl,n1,rfl⟩
  have hT2:Heap.IsTuple (hp.push { cls:=.type "tuple_iterator",data:=.fields #[.ref l1,.int 0 0] }) l2 ys:=⟨_,Heap.get?_push_of_some _ hl2,rfl,n2,rfl⟩
  have hsub:isSubtype (Value.type "zip") (Value.type "zip")=pure true:=by first | exact sub_zip | rfl
  wp_walk using wpAny_loadPart' hl1,wpAny_pyIter_tuple hT1,wpAny_pyIter_tuple hT2
  exact ⟨_,rfl,h _ _ _ _ _ rfl rfl rfl rfl rfl⟩
theorem JG {P:Program}{w:World}{A:Around}{E:Value->Shared->Prop}{s:Shared}{l1 l2:Addr}{xs ys:Array Value}{Q:Value->Shared->Prop}(hT1:s.heap.IsTuple l1 xs)(hT2:s.heap.IsTuple l2 ys)
  (h:∀ h',IsZip h' (s.heap.objs.size+4) (s.heap.objs.size+2) (s.heap.objs.size+3) .none->IsPair h' (s.heap.objs.size+2) (.ref s.heap.objs.size) (.ref (s.heap.objs.size+1))->IsPair h' (s.heap.objs.size+3) .none .none->h'.IsTupleIter s.heap.objs.size l1 0->h'.IsTupleIter (s.heap.objs.size+1) l2 0->(∀ b o,s.heap.get? b=some o->h'.get? b=some o)->Q (.ref (s.heap.objs.size+4)) { s with heap:=h' }) :
  wpAny (model P w) A (call (.type "zip") [.ref l1,.ref l2]) Q E s:=by
 obtain ⟨⟨c1,d1,dt1,sl1⟩,hl1,hc1,n1,hd1⟩:=hT1
 replace hc1:c1=.type "tuple":=hc1
 replace hd1:dt1=.seq xs n1:=hd1
 subst hc1 hd1
 obtain ⟨⟨c2,d2,dt2,sl2⟩,hl2,hc2,n2,hd2⟩:=hT2
 replace hc2:c2=.type "tuple":=hc2
 replace hd2:dt2=.seq ys n2:=hd2
 subst hc2 hd2
 refine callType_new F.called_zip (by decide) (F.typeCall_zip_2 _ _) (F.newCall_zip_2 _ _) (fun obj=>F.args_object_init_3 obj _ _) F.entry_zip_new (KJ l1 l2 xs ys n1 n2 d1 d2 sl1 sl2) ⟨hl1,hl2,?_⟩
 intro g1 g2 g3 g4 g5 e1 e2 e3 e4 e5
 have z1:g1.objs.size=s.heap.objs.size+1:=by rw [e1,Heap.size_push]
 have z2:g2.objs.size=s.heap.objs.size+2:=by rw [e2,Heap.size_push,z1]
 have z3:g3.objs.size=s.heap.objs.size+3:=by rw [e3,Heap.size_push,z2]
 have z4:g4.objs.size=s.heap.objs.size+4:=by rw [e4,Heap.size_push,z3]
 have k1:∀ b o,s.heap.get? b=some o->g1.get? b=some o:=fun b o x=>by rw [e1];exact Heap.get?_push_of_some _ x
 have k2:∀ b o,g1.get? b=some o->g2.get? b=some o:=fun b o x=>by rw [e2];exact Heap.get?_push_of_some _ x
 have k3:∀ b o,g2.get? b=some o->g3.get? b=some o:=fun b o x=>by rw [e3];exact Heap.get?_push_of_some _ x
 have k4:∀ b o,g3.get? b=some o->g4.get? b=some o:=fun b o x=>by rw [e4];exact Heap.get?_push_of_some _ x
 have k5:∀ b o,g4.get? b=some o->g5.get? b=some o:=fun b o x=>by rw [e5];exact Heap.get?_push_of_some _ x
 have p1:g1.get? s.heap.objs.size=some { cls:=.type "tuple_iterator",data:=.fields #[.ref l1,.int 0 0] }:=by rw [e1];exact Heap.get?_push_size _ rfl
 have p2:g2.get? (s.heap.objs.size+1)=some { cls:=.type "tuple_iterator",data:=.fields #[.ref l2,.int 0 0] }:=by
  have:=Heap.get?_push_size g1 (o:={ cls:=.type "tuple_iterator",data:=.fields #[.ref l2,.int 0 0] }) rfl
  rw [z1] at this;rw [e2];exact this
 have p3:g3.get? (s.heap.objs.size+2)=some { cls:=.type "tuple",data:=.seq #[.ref s.heap.objs.size,.ref (s.heap.objs.size+1)] }:=by
  have:=Heap.get?_push_size g2 (o:={ cls:=.type "tuple",data:=.seq #[.ref s.heap.objs.size,.ref g1.objs.size] }) rfl
  rw [z2] at this;rw [e3,this,z1]
 have p4:g4.get? (s.heap.objs.size+3)=some { cls:=.type "tuple",data:=.seq #[.none,.none] }:=by
  have:=Heap.get?_push_size g3 (o:={ cls:=.type "tuple",data:=.seq #[.none,.none] }) rfl
  rw [z3] at this;rw [e4,this]
 have p5:g5.get? (s.heap.objs.size+4)=some { cls:=.type "zip",data:=.fields #[.none,.bool false,.bool false,.ref (s.heap.objs.size+2),.ref (s.heap.objs.size+3)] }:=by
  have:=Heap.get?_push_size g4 (o:={ cls:=.type "zip",data:=.fields #[.none,.bool false,.bool false,.ref g2.objs.size,.ref g3.objs.size] }) rfl
  rw [z4] at this;rw [e5,this,z2,z3]
 show _/\_
 rw [z4]
 exact ⟨⟨_,p5,rfl⟩,h _ p5 (k5 _ _ (k4 _ _ p3)) (k5 _ _ p4) ⟨_,k5 _ _ (k4 _ _ (k3 _ _ (k2 _ _ p1))),rfl,rfl⟩ ⟨_,k5 _ _ (k4 _ _ (k3 _ _ p2)),rfl,rfl⟩ fun b o x=>k5 _ _ (k4 _ _ (k3 _ _ (k2 _ _ (k1 _ _ x))))⟩
noncomputable def Bp (K:PySem.W.Frag)(a b:Addr):It:=
 ⟨fun i H=>∃ xs ys x y,SqT K H a xs/\SqT K H b ys/\xs[i]?=some x/\ys[i]?=some y,fun i H z H'=>∃ p x y,H p=none/\z=.ref p/\(∀ xs,SqT K H a xs->xs[i]?=some x)/\(∀ ys,SqT K H b ys->ys[i]?=some y)/\H'=upd H p (.tup [x,y]),
  fun i H=>∃ xs,SqT K H a xs/\xs.length<=i⟩
theorem JK {P:Program}{w:World}{K:PySem.W.Frag}{es:List Expr}{kt:Nat}{tp:Pos}(l1 l2 z TI TO i1 i2:Addr)(D:ZipApart z TI TO i1 i2 l1 l2) :
  ZJ P w K (.Tuple es kt tp) (Bp K l1 l2) [z,TI,TO,i1,i2] z (fun i h=>IsZip h z TI TO .none/\IsPair h TI (.ref i1) (.ref i2)/\(∃ a b,IsPair h TO a b)/\h.IsTupleIter i1 l1 i/\h.IsTupleIter i2 l2 i) where
 mem:=by simp
 obj:=fun i h st b hb=>by
  obtain ⟨hz,hTI,⟨a,c,hTO⟩,⟨o1,e1,c1,d1⟩,⟨o2,e2,c2,d2⟩⟩:=st
  simp only [List.mem_cons,List.not_mem_nil,or_false] at hb
  rcases hb with rfl | rfl | rfl | rfl | rfl
  ·exact ⟨_,hz,fun v q=>by have q':Data.fields _=Data.cell v:=q;cases q'⟩
  ·exact ⟨_,hTI,fun v q=>by have q':Data.seq _ _=Data.cell v:=q;cases q'⟩
  ·exact ⟨_,hTO,fun v q=>by have q':Data.seq _ _=Data.cell v:=q;cases q'⟩
  ·exact ⟨o1,e1,fun v q=>by rw [d1] at q;cases q⟩
  ·exact ⟨o2,e2,fun v q=>by rw [d2] at q;cases q⟩
 keep:=fun i h h' st k=>by
  obtain ⟨hz,hTI,⟨a,c,hTO⟩,h1,h2⟩:=st
  exact ⟨k _ (by simp) _ hz,k _ (by simp) _ hTI,⟨a,c,k _ (by simp) _ hTO⟩,h1.at fun o e=>k _ (by simp) o e,h2.at fun o e=>k _ (by simp) o e⟩
 item:=by
  intro X hP hw hK hc i pins s σ H E I hf st hg
  subst hP hw hK
  obtain ⟨hz,hTI,⟨a,c,hTO⟩,h1,h2⟩:=st
  obtain ⟨xs,ys,x,y,hq1,hq2,hx,hy⟩:=hg
  obtain ⟨its1,rv1,p1,hz1⟩:=I.tuple hq1
  obtain ⟨its2,rv2,p2,hz2⟩:=I.tuple hq2
  obtain ⟨u,hu,ru⟩:=rv1.get hx
  obtain ⟨v,hv,rvv⟩:=rv2.get hy
  refine Jr D hz hTI hTO h1 h2 p1 p2 (x:=u) (y:=v) (by simpa using hu) (by simpa using hv) fun g1 b1 b2 b3 b4 b5 b6 hk=>?_
  refine ⟨.ref s.heap.objs.size,rfl,wpAny_letOwnedTupleGo_zip b1 fun g2 hz2' hs2=>?_⟩
  replace hs2:Heap.SameBut z g1 g2:=hs2
  have zlt:z<s.heap.objs.size:=Heap.lt_size hz
  have I2:Inv X pins σ (upd H s.heap.objs.size (.tup [x,y])) { s with heap:=g2,toks:=s.toks }:=by
   refine I.yieldTup (us:=[u,v]) hf (fun b o hb e=>?_) (Nat.le_refl _) ((hs2.2 _ (Nat.ne_of_gt zlt)).trans b5) (.cons ru (.cons rvv .nil)) (by show 2<=sizeLine;decide)
   simp only [List.mem_cons,List.not_mem_nil,or_false,not_or] at hb
   exact (hs2.2 b hb.1).trans (hk b o hb.1 hb.2.2.1 hb.2.2.2.1 hb.2.2.2.2 e)
  refine ⟨.ref s.heap.objs.size,_,I2,rfl,⟨s.heap.objs.size,x,y,I.hok.fresh (Nat.le_refl _),rfl,fun xs' h'=>by rw [I.tuple_inj h' hq1];exact hx,fun ys' h'=>by rw [I.tuple_inj h' hq2];exact hy,rfl⟩,
   ⟨hz2',(hs2.2 _ D.TIz).trans (hk _ _ D.TIz D.TITO D.TIi1 D.TIi2 hTI),⟨_,_,(hs2.2 _ D.TOz).trans b2⟩,b3.extBut hs2.extBut D.i1z,b4.extBut hs2.extBut D.i2z⟩,fun b hb=>?_⟩
  have hlt:b<s.heap.objs.size:=by
   simp only [List.mem_cons,List.not_mem_nil,or_false] at hb
   rcases hb with rfl | rfl | rfl | rfl | rfl
   ·exact zlt
   ·exact Heap.lt_size hTI
   ·exact Heap.lt_size hTO
   ·obtain ⟨o,e,_⟩:=h1;exact Heap.lt_size e
   ·obtain ⟨o,e,_⟩:=h2;exact Heap.lt_size e
  rw [zi (Nat.ne_of_lt hlt)]
  exact (hf b hb).1
 done:=by
  intro X hP hw hK hc i pins s σ H E I hf st hg
  subst hP hw hK
  obtain ⟨hz,hTI,⟨a,c,hTO⟩,h1,h2⟩:=st
  obtain ⟨xs,hq1,hend⟩:=hg
  obtain ⟨its1,rv1,p1,hz1⟩:=I.tuple hq1
  have l1:=rv1.length
  refine XW (I.ok.hd hc) D hz hTI h1 p1 (by simp;omega) fun h' hk=>⟨rfl,I.turnedL (tk:=s.toks) hf fun b o hb e=>?_⟩
  simp only [List.mem_cons,List.not_mem_nil,or_false,not_or] at hb
  exact hk b o hb.1 hb.2.2.1 hb.2.2.2.1 hb.2.2.2.2 e
 self:=fun _ _ _ _ _ st h=>wpAny_pyIter_zip st.1 h
section
variable {X:Cx}{es:List Expr}{kt:Nat}{tp:Pos}
noncomputable def ZT (K:PySem.W.Frag)(ta:TA):TI:=fun σ H R=>ta σ H fun vs H1=>∃ a b,vs=[.ref a,.ref b]/\(((∃ xs,SqL K H1 a xs)/\(∃ ys,SqL K H1 b ys)/\R (Itz K a b) H1) \/ ((∃ xs,SqT K H1 a xs)/\(∃ ys,SqT K H1 b ys)/\R (Bp K a b) H1))
theorem Kr {e1 e2:Expr}{ta:TA}{p pos:Pos}(hg:Gl X "zip")(hm:X.mg "zip"=none)(ha:PA X [e1,e2] ta)(hs:starEach [e1,e2] X.env=[(false,eval e1 X.env),(false,eval e2 X.env)]:=by rfl)(hs2:starEach [e2] X.env=[(false,eval e2 X.env)]:=by rfl) :
  PI X (.Tuple es kt tp) (.Call (.Name "zip" p) [e1,e2] [] pos) (ZT X.K ta):=by
 intro pins s σ H R I h
 refine Call_ (xf I hg hm JV (PyProof.Rows.callWith_type1 (thn (ha pos pins s σ H _ I h) fun us s1 ⟨vs,H1,I1,r1,q1⟩=>?_) (by rw [hs,hs2]) (by rw [hs2];rfl)))
 obtain ⟨a,b,e,q1⟩:=q1
 subst e
 obtain ⟨u,v,rfl,ru,rv⟩:=wn r1
 cases ru
 cases rv
 rcases q1 with ⟨⟨xs,hq1⟩,⟨ys,hq2⟩,q⟩ | ⟨⟨xs,hq1⟩,⟨ys,hq2⟩,q⟩
 ·obtain ⟨its1,rv1,p1,hz1⟩:=I1.list hq1
  obtain ⟨its2,rv2,p2,hz2⟩:=I1.list hq2
  have la:a<s1.heap.objs.size:=by obtain ⟨o,e,_⟩:=p1.isList;exact Heap.lt_size e
  have lb:b<s1.heap.objs.size:=by obtain ⟨o,e,_⟩:=p2.isList;exact Heap.lt_size e
  refine call_zip_2 p1.isList p2.isList fun h' b1 b2 b3 b4 b5 hsz hk=>wpAny_pyIter_zip b1 ?_
  have I2:Inv X pins σ H1 { s1 with heap:=h' }:=I1.kept (t':=s1.toks) hk
  refine ⟨s1.heap.objs.size+4,[s1.heap.objs.size+4,s1.heap.objs.size+2,s1.heap.objs.size+3,s1.heap.objs.size,s1.heap.objs.size+1],_,_,H1,rfl,I2,Ym a b _ _ _ _ _ (zipApart_new la lb),⟨b1,b2,⟨_,_,b3⟩,b4,b5⟩,fun c hb=>?_,q⟩
  have hb':s1.heap.objs.size<=c:=by
   simp only [List.mem_cons,List.not_mem_nil,or_false] at hb
   rcases hb with rfl | rfl | rfl | rfl | rfl <;> first | exact Nat.le_refl _ | exact Nat.le_add_right _ _
  exact I1.fpOk hb' (I1.hok.fresh hb')
 ·obtain ⟨its1,rv1,p1,hz1⟩:=I1.tuple hq1
  obtain ⟨its2,rv2,p2,hz2⟩:=I1.tuple hq2
  have la:a<s1.heap.objs.size:=by obtain ⟨o,e,_⟩:=p1;exact Heap.lt_size e
  have lb:b<s1.heap.objs.size:=by obtain ⟨o,e,_⟩:=p2;exact Heap.lt_size e
  refine JG p1 p2 fun h' b1 b2 b3 b4 b5 hk=>wpAny_pyIter_zip b1 ?_
  have I2:Inv X pins σ H1 { s1 with heap:=h' }:=I1.kept (t':=s1.toks) hk
  refine ⟨s1.heap.objs.size+4,[s1.heap.objs.size+4,s1.heap.objs.size+2,s1.heap.objs.size+3,s1.heap.objs.size,s1.heap.objs.size+1],_,_,H1,rfl,I2,JK a b _ _ _ _ _ (zipApart_new la lb),⟨b1,b2,⟨_,_,b3⟩,b4,b5⟩,fun c hb=>?_,q⟩
  have hb':s1.heap.objs.size<=c:=by
   simp only [List.mem_cons,List.not_mem_nil,or_false] at hb
   rcases hb with rfl | rfl | rfl | rfl | rfl <;> first | exact Nat.le_refl _ | exact Nat.le_add_right _ _
  exact I1.fpOk hb' (I1.hok.fresh hb')
end
noncomputable def slV (xs:List V)(lo hi st:Option Int):List V:=(sliceRange (sliceBounds lo hi st xs.length).1 (sliceBounds lo hi st xs.length).2.1 (sliceBounds lo hi st xs.length).2.2).filterMap fun k=>xs[k]?
theorem yK {xs:List V}{us:List Value}(r:zw xs us):∀ ks:List Nat,zw (ks.filterMap fun k=>xs[k]?) (ks.filterMap fun k=>us[k]?)
 | []=>.nil
 | k :: ks=>by
  have ih:=yK r ks
  have hl:=r.length
  by_cases h:k<xs.length
  ·have e1:xs[k]?=some xs[k]:=List.getElem?_eq_getElem h
   obtain ⟨u,hu,ru⟩:=r.get e1
   rw [List.filterMap_cons_some e1,List.filterMap_cons_some hu]
   exact .cons ru ih
  ·have e1:xs[k]?=none:=List.getElem?_eq_none (by omega)
   have e2:us[k]?=none:=List.getElem?_eq_none (by omega)
   rw [List.filterMap_cons_none e1,List.filterMap_cons_none e2]
   exact ih
section
variable {X:Cx}{e st:Expr}{te:TE}{lo hi:Option Expr}{tl th ts:TO}{p2 pos:Pos}
end
section
variable {X:Cx}
variable {o e:Expr}{es:List Expr}{to:TE}{t:TA}{name:Str}{apos cpos:Pos}{T id:String}{r:V->List V->Hp->VK->Prop}{K:PySem.W.Frag}
end
section
variable {X:Cx}{tg:Expr}
end
inductive Dd where
 | take (p:Nat) | move (p g:Nat) | lay (g:Nat)
noncomputable abbrev RS:=List (Option Int) × Option Int × List Int
noncomputable def inc (mv:List Int)(x:Int):List Int:=mv.set x.toNat (mv.getD x.toNat 0+1)
inductive Do:Dd->RS->RS->Prop
 | take {p:Nat} {row:List (Option Int)} {mv:List Int} {x:Int}:row[p]?=some (some x)->Do (.take p) (row,none,mv) (row.set p none,some x,inc mv x)
 | move {p g:Nat} {row:List (Option Int)} {h:Option Int} {mv:List Int} {x:Int}:row[p]?=some (some x)->row[g]?=some none->Do (.move p g) (row,h,mv) ((row.set p none).set g (some x),h,inc mv x)
 | lay {g:Nat} {row:List (Option Int)} {mv:List Int} {x:Int}:row[g]?=some none->Do (.lay g) (row,some x,mv) (row.set g (some x),none,inc mv x)
inductive Dos:List Dd->RS->RS->Prop
 | nil {s:RS}:Dos [] s s
 | cons {d:Dd} {l:List Dd} {s t u:RS}:Do d s t->Dos l t u->Dos (d :: l) s u
noncomputable def unl (ns:List Int):List Int:=ns.foldl step_dedup []
theorem kR (ns:List Int):firstMet (fun i=>ns.getD i 0) ns.length=unl ns:=by
 unfold firstMet unl
 congr 1
 refine List.ext_getElem (by simp) fun i h1 h2=>?_
 rw [List.getElem_map,List.getElem_range]
 exact vE h2
theorem xr:∀ (ns acc:List Int),(acc ++ ns).Nodup->ns.foldl step_dedup acc=acc ++ ns
 | [],acc,_=>by simp
 | x :: ns,acc,h=>by
  have hx:x ∉ acc:=fun z=>by
   rw [List.nodup_append] at h
   exact h.2.2 x z x (by simp) rfl
  have e:step_dedup acc x=acc ++ [x]:=by
   unfold step_dedup
   rw [if_neg]
   intro z
   obtain ⟨y,hy,e⟩:=List.any_eq_true.mp z
   have:y=x:=by simpa using e
   exact hx (this ▸ hy)
  show ns.foldl step_dedup (step_dedup acc x)=_
  rw [e,xr ns (acc ++ [x]) (by simpa using h)]
  simp
theorem JM {ns:List Int}(h:ns.Nodup):(unl ns).length=ns.length:=by
 unfold unl
 rw [xr ns [] (by simpa using h)]
 rfl
theorem yp:∀ {ns:List Int} {its:List Value},zw (ns.map V.int) its->IntsAre its ns
 | [],_,h=>by cases h;exact .nil
 | n :: ns,_,h=>by
  cases h with
  | cons r rr=>
   obtain ⟨t,rfl⟩:=r
   exact .cons n t (yp rr)
theorem Xy:bootBuiltins "set"=some (.type "set"):=by decide +kernel
section
variable {X:Cx}{K:PySem.W.Frag}
end
section
variable {X:Cx}
end
section
variable {X:Cx}
end
theorem xj {prog:Program}{w:World}{A:Around}{E:Value->Shared->Prop}{s:Shared}{sl:Addr}{vl vu vs:Value}{n:Nat}{Q:Int × Int × Nat->Shared->Prop}(hs:s.heap.IsSliceOf sl vl vu vs)(pl:IsPart vl none)(pu:IsPart vu none)(ps:IsPart vs (some (-1)))
  (h:Q ((n:Int) - 1,-1,n) s):wpAny (model prog w) A (Builtin.Slice.sliceApplied (.ref sl) (pure (n:Int))) Q E s:=by
 obtain ⟨os,hos,hcs,hds⟩:=id hs
 unfold Builtin.Slice.sliceApplied Builtin.Slice.sliceFields
 refine wpAny_bind (wpAny_bind (wpAny_field hos hds (x:=vl) rfl (wpAny_bind (wpAny_field hos hds (x:=vu) rfl (wpAny_bind (wpAny_field hos hds (x:=vs) rfl (wpAny_pure ?_)))))))
 refine wpAny_bind (HT.slicePart_ ps ?_)
 show wpAny _ _ (if ((-1:Int) == 0)=true then _ else _) _ _ s
 rw [if_neg (by decide)]
 refine wpAny_bind (HT.slicePart_ pl (wpAny_bind (HT.slicePart_ pu (wpAny_bind (wpAny_pure ?_)))))
 show wpAny _ _ (pure ((n:Int) - 1,(-1:Int),Builtin.Slice.slicePlaces ((n:Int) - 1) (-1) (-1))) _ _ s
 have e:Builtin.Slice.slicePlaces ((n:Int) - 1) (-1) (-1)=n:=by
  unfold Builtin.Slice.slicePlaces
  rw [if_neg (by decide)]
  split
  ·rw [show - -(1:Int)=1 from rfl,Int.ediv_one];omega
  ·omega
 rw [e]
 exact wpAny_pure h
theorem Xo (xs:List Value):((List.range xs.length).filterMap fun (m:Nat)=>xs.toArray[(((xs.length:Int) - 1)+(m:Int) * -1).toNat]?)=xs.reverse:=by
 have go:∀ (ks:List Nat),(∀ k ∈ ks,k<xs.length)->(ks.filterMap fun (m:Nat)=>xs.toArray[(((xs.length:Int) - 1)+(m:Int) * -1).toNat]?)=ks.map fun k=>xs.reverse.getD k .none:=by
  intro ks
  induction ks with
  | nil=>intro _;rfl
  | cons k ks ih=>
   intro hk
   have h0:=hk k (by simp)
   have e1:(((xs.length:Int) - 1)+(k:Int) * -1).toNat=xs.length - 1 - k:=by omega
   have e2:xs.toArray[(((xs.length:Int) - 1)+(k:Int) * -1).toNat]?=some (xs.reverse.getD k .none):=by
    rw [e1,List.getElem?_toArray,List.getD_eq_getElem?_getD,List.getElem?_reverse h0,List.getElem?_eq_getElem (by omega)];rfl
   rw [List.filterMap_cons_some (f:=fun (m:Nat)=>xs.toArray[(((xs.length:Int) - 1)+(m:Int) * -1).toNat]?) e2,ih fun j hj=>hk j (by simp [hj])];rfl
 rw [go _ fun k hk=>by simpa using hk]
 refine List.ext_getElem? fun i=>?_
 rw [List.getElem?_map]
 by_cases h:i<xs.length
 ·rw [List.getElem?_range h,List.getElem?_eq_getElem (by rw [List.length_reverse];exact h)]
  show some (xs.reverse.getD i .none)=_
  rw [List.getD_eq_getElem?_getD,List.getElem?_eq_getElem (by rw [List.length_reverse];exact h)];rfl
 ·rw [List.getElem?_eq_none (by rw [List.length_range];omega),List.getElem?_eq_none (by rw [List.length_reverse];omega)];rfl
theorem kT {prog:Program}{w:World}{A:Around}{E:Value->Shared->Prop}{s:Shared}{t sl:Addr}{xs:List Value}{vl vu vs:Value}{Q:Value->Shared->Prop}(ht:IsTup s.heap t xs.toArray)(hs:s.heap.IsSliceOf sl vl vu vs)(pl:IsPart vl none)(pu:IsPart vu none)(ps:IsPart vs (some (-1)))
  (h:Q (.ref s.heap.objs.size) { s with heap:=s.heap.push { cls:=.type "tuple",data:=.seq xs.reverse.toArray } })
  (hsz:xs.length<=sizeLine):wpAny (model prog w) A (getItem (.ref t) (.ref sl)) Q E s:=by
 have htake:sizeOk (.seq xs.reverse.toArray):=by
  show xs.reverse.toArray.size<=sizeLine
  rw [List.size_toArray,List.length_reverse];exact hsz
 obtain ⟨os,hos,hcs,hds⟩:=id hs
 have hTs:s.TypeIs (.ref sl) "slice":=⟨os,hos,hcs⟩
 unfold getItem
 try with_reducible refine wpAny_holding ?_
 first | refine wpAny_bind (wpAny_pure ?_) | skip
 refine wpAny_bind (wpAny_sequenceKey ht.typeIs (by decide) ?_)
 refine wpAny_bind (wpAny_callSpecial?_slot (name:=Str.ofString "__getitem__") ht.typeIs PyProof.Rows.slot_tuple_getitem
  (wpAny_call_entry PyProof.Rows.slot_tuple_getitem ht.typeIs PyProof.Rows.entry_tuple_getitem ?_ (PyProof.Rows.args_tuple_getitem _ _)))
 show wpAny _ _ (Builtin.Tuple.tupleItemsOf (.ref t) >>= _) _ _ s
 refine wpAny_bind (tupleItemsOf_ ht ?_)
 refine wpAny_bind (wpAny_typeOf hTs ?_)
 rw [if_pos (by decide)]
 refine wpAny_bind (xj hs pl pu ps ?_)
 have hno:¬ ((((xs.toArray.size:Int) - 1) == 0 && (-1:Int) == 1 && xs.toArray.size == xs.toArray.size)=true):=by
  intro q
  rw [Bool.and_eq_true,Bool.and_eq_true] at q
  exact absurd q.1.2 (by decide)
 show wpAny _ _ (if (((xs.toArray.size:Int) - 1) == 0 && (-1:Int) == 1 && xs.toArray.size == xs.toArray.size)=true then _ else _) _ _ s
 have ep:=Xo xs
 rw [if_neg hno]
 rw [List.size_toArray]
 rw [ep]
 first
  | exact wpAny_bind (m:=Builtin.Tuple.tupleExact _) (wpAny_newObj_type (wpAny_pure ⟨_,rfl,wpAny_pure h⟩) htake)
  | exact wpAny_bind (m:=Builtin.Tuple.tupleExact _) (wpAny_newObj_type (wpAny_bind (wpAny_pure (wpAny_pure ⟨_,rfl,wpAny_pure h⟩))) htake)
  | exact wpAny_bind (wpAny_bind (m:=Builtin.Tuple.tupleExact _) (wpAny_newObj_type (wpAny_pure (wpAny_pure ⟨_,rfl,wpAny_pure h⟩)) htake))
  | exact wpAny_bind (wpAny_bind (m:=Builtin.Tuple.tupleExact _) (wpAny_newObj_type (wpAny_pure ⟨_,rfl,wpAny_pure h⟩) htake))
theorem Vc (xs:List V):slV xs none none (some (-1))=xs.reverse:=by
 have hb:sliceBounds none none (some (-1)) xs.length=((xs.length:Int) - 1,-1,-1):=rfl
 unfold slV
 rw [hb]
 have key:sliceRange ((xs.length:Int) - 1) (-1) (-1)=(List.range xs.length).map fun k=>xs.length - 1 - k:=by
  unfold sliceRange
  dsimp only
  rw [if_neg (by decide)]
  have hc:((if (xs.length:Int) - 1 > -1 then ((xs.length:Int) - 1 - -1 - -1 - 1) / - -1 else 0).toNat)=xs.length:=by
   split
   ·rw [show - -(1:Int)=1 from rfl,Int.ediv_one];omega
   ·omega
  rw [hc]
  refine List.map_congr_left fun k hk=>?_
  have:k<xs.length:=by simpa using hk
  omega
 show List.filterMap (fun k=>xs[k]?) (sliceRange ((xs.length:Int) - 1) (-1) (-1))=_
 rw [key,List.filterMap_map]
 have go:∀ (ks:List Nat),(∀ k ∈ ks,k<xs.length)->List.filterMap ((fun k=>xs[k]?) ∘ fun k=>xs.length - 1 - k) ks=ks.map fun k=>xs.reverse.getD k .non:=by
  intro ks
  induction ks with
  | nil=>intro _;rfl
  | cons k ks ih=>
   intro hk
   have h0:=hk k (by simp)
   have e2:((fun k=>xs[k]?) ∘ fun k=>xs.length - 1 - k) k=some (xs.reverse.getD k .non):=by
    show xs[xs.length - 1 - k]?=_
    rw [List.getD_eq_getElem?_getD,List.getElem?_reverse h0,List.getElem?_eq_getElem (by omega)];rfl
   rw [List.filterMap_cons_some e2,ih fun j hj=>hk j (by simp [hj])];rfl
 rw [go _ fun k hk=>by simpa using hk]
 refine List.ext_getElem? fun i=>?_
 rw [List.getElem?_map]
 by_cases h:i<xs.length
 ·rw [List.getElem?_range h,List.getElem?_eq_getElem (by rw [List.length_reverse];exact h)]
  show some (xs.reverse.getD i .non)=_
  rw [List.getD_eq_getElem?_getD,List.getElem?_eq_getElem (by rw [List.length_reverse];exact h)];rfl
 ·rw [List.getElem?_eq_none (by rw [List.length_range];omega),List.getElem?_eq_none (by rw [List.length_reverse];omega)];rfl
theorem zw.rev {xs:List V}{us:List Value}(r:zw xs us):zw xs.reverse us.reverse:=by
 induction r with
 | nil=>exact .nil
 | cons h _ ih=>rw [List.reverse_cons,List.reverse_cons];exact ih.append (.cons h .nil)
noncomputable def YW (K:PySem.W.Frag):V->Hp->VK->Prop:=fun x H Q=>∃ a xs,x=.ref a/\((SqL K H a xs/\∀ p,H p=none->Q (.ref p) (upd H p (.lst xs.reverse))) \/ (SqT K H a xs/\∀ p,H p=none->Q (.ref p) (upd H p (.tup xs.reverse))))
noncomputable def Bc (K:PySem.W.Frag)(te:TE)(ts:TO):TE:=fun σ H Q=>te σ H fun x H1=>ts σ H1 fun z H2=>z=some (-1)/\YW K x H2 Q
section
variable {X:Cx}{e st:Expr}{te:TE}{ts:TO}{p2 pos:Pos}
theorem xm (he:PE X e te)(hst:PO X (some st) ts):PE X (.Subscript e (.Slice none none (some st) p2) pos) (Bc X.K te ts):=by
 intro pins s σ H Q I h
 refine Subscript_ (thn (he pins s σ H _ I h) fun v s1 ⟨x,H1,I1,r1,q1⟩=>?_)
 refine wpAny_Slice (thn (qt pins s1 σ H1 (fun z H2=>z=none/\ts σ H2 fun z H2=>z=some (-1)/\YW X.K x H2 Q) I1 ⟨rfl,q1⟩) fun vl s2 ⟨l,H2,I2,pl,e1,q2⟩=>thn (qt pins s2 σ H2 (fun z H3=>z=none/\ts σ H3 fun z H2=>z=some (-1)/\YW X.K x H2 Q) I2 ⟨rfl,q2⟩) fun vu s3 ⟨u,H3,I3,pu,e2,q3⟩=>thn (hst pins s3 σ H3 _ I3 q3) fun vs s4 ⟨z,H4,I4,pz,e3,q4⟩=>?_)
 subst e1 e2 e3
 have I5:Inv X pins σ H4 { s4 with heap:=s4.heap.push { cls:=.type "slice",data:=.fields #[vl,vu,vs] } }:=I4.kept (t':=s4.toks) fun b ob q=>Heap.get?_push_of_some _ q
 obtain ⟨a,xs,rfl,q⟩:=q4
 cases r1
 rcases q with ⟨hx,q⟩ | ⟨hx,q⟩
 ·obtain ⟨its,r,ht,hz⟩:=I5.list hx
  have hlen:=r.length
  show wpAny (model X.prog X.w) X.A (subscriptTail e (.Slice none none (some st) p2) (.ref a) (.ref s4.heap.objs.size)) (EP X pins σ Q) X.xe { s4 with heap:=s4.heap.push { cls:=.type "slice",data:=.fields #[vl,vu,vs] } }
  refine tail_any (ops:=[.ref a,.ref s4.heap.objs.size]) ht.isList.typeIs slot_list_getitem.lookup ?_ rfl
  refine wpAny_getItem_list_slice ht.isList (Heap.IsSliceOf.new ..) pl pu pz (by decide) ?_ (by rw [List.size_toArray];omega)
  have e1:slicePick its.toArray none none (some (-1))=(List.filterMap (fun x=>its[x]?) (sliceRange (sliceBounds none none (some (-1)) xs.length).1 (sliceBounds none none (some (-1)) xs.length).2.1 (sliceBounds none none (some (-1)) xs.length).2.2)).toArray:=by
   unfold slicePick
   rw [List.size_toArray,<- hlen]
   simp only [List.getElem?_toArray]
  rw [e1]
  have rr:=yK r (sliceRange (sliceBounds none none (some (-1)) xs.length).1 (sliceBounds none none (some (-1)) xs.length).2.1 (sliceBounds none none (some (-1)) xs.length).2.2)
  have er:(List.filterMap (fun k=>xs[k]?) (sliceRange (sliceBounds none none (some (-1)) xs.length).1 (sliceBounds none none (some (-1)) xs.length).2.1 (sliceBounds none none (some (-1)) xs.length).2.2))=xs.reverse:=Vc xs
  rw [er] at rr
  refine ⟨.ref _,_,I5.laid (t':=s4.toks) (o:=.lst xs.reverse) (fun b ob q=>Heap.get?_push_of_some _ q) (Nat.le_refl _) ?_,rfl,q _ (I5.hok.fresh (Nat.le_refl _))⟩
  refine ⟨?_,_,0,rr,Heap.get?_push_size _ rfl⟩
  rw [List.length_reverse];exact hz
 ·obtain ⟨its,r,ht,hz⟩:=I5.tuple hx
  show wpAny (model X.prog X.w) X.A (subscriptTail e (.Slice none none (some st) p2) (.ref a) (.ref s4.heap.objs.size)) (EP X pins σ Q) X.xe { s4 with heap:=s4.heap.push { cls:=.type "slice",data:=.fields #[vl,vu,vs] } }
  refine tail_any (ops:=[.ref a,.ref s4.heap.objs.size]) ht.typeIs PyProof.Rows.slot_tuple_getitem.lookup ?_ rfl
  refine kT ht (Heap.IsSliceOf.new ..) pl pu pz ?_ (by rw [<- r.length];exact hz)
  refine ⟨.ref _,_,I5.laid (t':=s4.toks) (o:=.tup xs.reverse) (fun b ob q=>Heap.get?_push_of_some _ q) (Nat.le_refl _) ?_,rfl,q _ (I5.hok.fresh (Nat.le_refl _))⟩
  exact ⟨by rw [List.length_reverse];exact hz,_,zw.rev r,xT.new _ _⟩
end
section
variable {X:Cx}
end
noncomputable def AtM (K:PySem.W.Frag)(C:Addr)(m qual:Str)(st:Stmt):Prop:=∃ f fd,Fun K m qual st f fd/\D8 K C m f
section
variable {X:Cx}{k:Nat}{C:Addr}{m x:Str}{ps:List Str}{sp:Sp}{p pos apos:Pos}{o e:Expr}{es:List Expr}{t:TA}{to:TE}
end
structure KD (K:PySem.W.Frag)(w:World)(a:Addr)(kvs:List (Key × V)):Prop where
 ex:∃ es ep,K.lookup a=some ⟨.type "dict",none,.dict es ep,#[]⟩/\∀ P:Program,PySem.KeysOf (qa P w) es/\∃ vs,KV kvs vs/\Pairs (qa P w) es.toList vs/\(vs.map (·.1)).Nodup
 ns:(a == sysModules)=false
section
variable {X:Cx}{e:Expr}{ty:TE}{p apos cpos:Pos}{x:Str}{a:Addr}{kvs:List (Key × V)}
end
section
variable {X:Cx}
end
theorem DY {K:PySem.W.Frag}{C f:Addr}{m qual:Str}{st:Stmt}{oc kV dc pm cd ct:Value}{od an:Option Addr}{sl:Array (Option Value)}(a1:PySem.W.findIn K (.ref C) m=some (some (.ref f)))(i1:PySem.W.isFn K (.ref f)=true)
  (l1:K.lookup f=some ⟨oc,od,.func (PySem.W.fnOf m qual (jn st) (qN st) (zn st) .none kV dc pm an cd ct),sl⟩) (c1:PySem.W.codeIn K cd qual=true) (k1:PySem.W.keepIn K (.ref f)=true):AtM K C m qual st:=⟨f,_,Yq l1 c1 k1,⟨a1,i1,k1⟩⟩
section
variable {X:Cx}
end
structure ScG (X:Cx)(ts:List Nat)(scope:Scope):Prop where
 kind:scope.kind=.function
 cell:∀ y ∈ scope.names,y.2=.cell->scope.names.lookup y.1=some .cell
 loc:∀ y ∈ scope.names,y.2=.local->scope.names.lookup y.1=some .local
 free:∀ y ∈ scope.names,y.2=.free->X.env.kindOf y.1=some .cell \/ X.env.kindOf y.1=some .free
 ts:∀ (i:Nat) x,X.N[i]?=some x->scope.names.lookup x=some .local \/ scope.names.lookup x=some .cell->i ∈ ts
section
variable {X:Cx}{ts:List Nat}{scope:Scope}{pins:List (Addr × Obj)}{σ:St}{H:Hp}{s:Shared}{fp:List Addr}
end
section
variable {X:Cx}{ts:List Nat}{scope:Scope}{tg iter elt:Expr}{ifs:List Expr}{wi:TI}{g:TG}{tt:TT}{te:TE}{pos:Pos}
end
section
variable {X:Cx}
end
inductive Dat where
 | non | bl (b:Bool) | int (i:Int) | str (x:Str) | ty (n:String) | lst (l:List Dat) | tup (l:List Dat) | rng (lo hi c:Int) | scr (K:PySem.W.Frag) (l:List Int)
inductive AV where
 | d (x:Dat) | ref (a:Addr)
inductive MO where
 | lst (l:List AV) | dK (kvs:List (Key × AV)) | ins (C:Addr) (fs:List (Str × AV)) | exc (C:Addr) (fs:List (Str × V)) | tb (R:Array Value->Addr->Obj->Prop) | dT (kvs:List (List Key × AV))
noncomputable def D5 (a C:Addr)(d:Option Addr):HO:=.ext fun h=>∃ o,h.get? a=some o/\o.cls=.ref C/\o.dict=d/\∃ vs,o.data=.fields vs
noncomputable abbrev MH:=Addr->Option MO
noncomputable abbrev ASt:=List (Option AV)
noncomputable def mup (M:MH)(a:Addr)(o:MO):MH:=fun b=>if b=a then some o else M b
noncomputable def mdel (M:MH)(a:Addr):MH:=fun b=>if b=a then none else M b
theorem ze {M:MH}{a:Addr}{o:MO}:mup M a o a=some o:=if_pos rfl
theorem zq {M:MH}{a b:Addr}{o:MO}(h:b ≠ a):mup M a o b=M b:=if_neg h
theorem xh {M:MH}{a:Addr}:mdel M a a=none:=if_pos rfl
theorem qE {M:MH}{a b:Addr}(h:b ≠ a):mdel M a b=M b:=if_neg h
theorem xL {M:MH}{a:Addr}{o u:MO}:mup (mup M a o) a u=mup M a u:=by
 funext b;unfold mup;split <;> rfl
noncomputable abbrev Own:=Addr->Prop
inductive Rep (H:Hp) (O:Own):V->Dat->Prop
 | non:Rep H O .non .non
 | bl {b:Bool}:Rep H O (.bl b) (.bl b)
 | int {i:Int}:Rep H O (.int i) (.int i)
 | str {x:Str}:Rep H O (.str x) (.str x)
 | ty {n:String}:Rep H O (.ty n) (.ty n)
 | lst {a:Addr} {xs:List V} {l:List Dat}:¬ O a->H a=some (.lst xs)->xs.length=l.length->(∀ (i:Nat) x d,xs[i]?=some x->l[i]?=some d->Rep H O x d)->Rep H O (.ref a) (.lst l)
 | tup {a:Addr} {xs:List V} {l:List Dat}:¬ O a->H a=some (.tup xs)->xs.length=l.length->(∀ (i:Nat) x d,xs[i]?=some x->l[i]?=some d->Rep H O x d)->Rep H O (.ref a) (.tup l)
 | rng {a:Addr} {lo hi c:Int}:¬ O a->H a=some (wj a lo hi c)->Rep H O (.ref a) (.rng lo hi c)
 | scr {a:Addr} {K:PySem.W.Frag} {l:List Int}:¬ O a->Rd H a (.lst (l.map V.int))->Rep H O (.ref a) (.scr K l)
 | scrK {a:Addr} {K:PySem.W.Frag} {l:List Int}:SqL K (fun _=>none) a (l.map V.int)->Rep H O (.ref a) (.scr K l)
noncomputable def Jv (H:Hp)(O:Own)(xs:List V)(l:List Dat):Prop:=xs.length=l.length/\∀ (i:Nat) x d,xs[i]?=some x->l[i]?=some d->Rep H O x d
noncomputable def zr (H:Hp)(O:Own)(M:MH)(v:V):AV->Prop
 | .d x=>Rep H O v x
 | .ref a=>v=.ref a/\M a ≠ none
noncomputable def zf (H:Hp)(O:Own)(M:MH)(xs:List V)(l:List AV):Prop:=xs.length=l.length/\∀ (i:Nat) x d,xs[i]?=some x->l[i]?=some d->zr H O M x d
noncomputable def j3 {κ:Type}(H:Hp)(O:Own)(M:MH)(xs:List (κ × V))(l:List (κ × AV)):Prop:=xs.map (·.1)=l.map (·.1)/\zf H O M (xs.map (·.2)) (l.map (·.2))
noncomputable def qQ (H:Hp)(O:Own)(M:MH)(a:Addr):MO->Prop
 | .lst l=>∃ xs,H a=some (.lst xs)/\zf H O M xs l
 | .dK kvs=>∃ xs,H a=some (.dK xs)/\j3 H O M xs kvs
 | .dT kvs=>∃ xs,H a=some (.dT xs)/\j3 H O M xs kvs
 | .ins C fs=>∃ dx xs,H a=some (.ins C dx xs)/\j3 H O M xs fs/\O dx/\M dx=none/\H dx=some (.own a)
 | .exc C fs=>∃ d,H a=some (D5 a C d)/\(d=none/\fs=[] \/ ∃ dx,d=some dx/\H dx=some (.xd fs)/\O dx/\M dx=none)
 | .tb R=>∃ ps,H a=some (.tbl ps)/\(ps=#[] \/ ∃ c oc u,R ps c oc/\¬ O c/\H c=some (.frz oc u))
structure Wf (H:Hp)(O:Own)(M:MH):Prop where
 mo:∀ a o,M a=some o->qQ H O M a o
 own:∀ a,M a ≠ none->O a
 al:∀ a,O a->∃ o,H a=some o/\∀ xs,o ≠ .tup xs
theorem Wf.ne {H:Hp}{O:Own}{M:MH}(w:Wf H O M)(a:Addr)(h:O a):H a ≠ none:=by obtain ⟨o,e,_⟩:=w.al a h;rw [e];exact fun z=>nomatch z
structure Ext (H:Hp)(O:Own)(M:MH)(H':Hp)(O':Own)(M':MH):Prop where
 fix:∀ a o,¬ O a->H a=some o->H' a=some o/\¬ O' a
 prv:∀ a,O a->M a=none->H' a=H a/\O' a/\M' a=none
 mst:∀ a,M a ≠ none->M' a ≠ none
theorem Ext.refl {H:Hp}{O:Own}{M:MH}:Ext H O M H O M:=⟨fun _ _ h e=>⟨e,h⟩,fun _ h e=>⟨rfl,h,e⟩,fun _ h=>h⟩
theorem Ext.trans {H H1 H2:Hp}{O O1 O2:Own}{M M1 M2:MH}(a:Ext H O M H1 O1 M1)(b:Ext H1 O1 M1 H2 O2 M2):Ext H O M H2 O2 M2:=
 ⟨fun x o h e=>let ⟨e1,h1⟩:=a.fix x o h e;b.fix x o h1 e1,fun x h e=>by
  obtain ⟨e1,h1,n1⟩:=a.prv x h e
  obtain ⟨e2,h2,n2⟩:=b.prv x h1 n1
  exact ⟨e2.trans e1,h2,n2⟩,fun x h=>b.mst x (a.mst x h)⟩
theorem Rep.imp {H H':Hp}{O O':Own}(k:∀ a o,¬ O a->H a=some o->H' a=some o/\¬ O' a){v:V}{d:Dat}(r:Rep H O v d):Rep H' O' v d:=by
 induction r with
 | non=>exact .non
 | bl=>exact .bl
 | int=>exact .int
 | str=>exact .str
 | ty=>exact .ty
 | lst h e l _ ih=>exact .lst (k _ _ h e).2 (k _ _ h e).1 l ih
 | tup h e l _ ih=>exact .tup (k _ _ h e).2 (k _ _ h e).1 l ih
 | rng h e=>exact .rng (k _ _ h e).2 (k _ _ h e).1
 | scr h e=>
  rcases e with e | ⟨o,e⟩
  ·exact .scr (k _ _ h e).2 (.inl (k _ _ h e).1)
  ·exact .scr (k _ _ h e).2 (.inr ⟨o,(k _ _ h e).1⟩)
 | scrK h=>exact .scrK h
theorem Va {H:Hp}{O:Own}{K:PySem.W.Frag}{v:V}{l:List Int}(r:Rep H O v (.scr K l)):∃ a,v=.ref a/\SqL K H a (l.map V.int):=by
 cases r with
 | @scr a _ _ _ h=>exact ⟨a,rfl,.inl h⟩
 | @scrK a _ _ h=>
  rcases h with (h | ⟨o,h⟩) | h
  ·cases h
  ·cases h
  ·exact ⟨a,rfl,.inr h⟩
theorem Y8 {H:Hp}{O:Own}{K:PySem.W.Frag}{a:Addr}{l:List Int}(ho:∀ a,¬ O a)(h:SqL K H a (l.map V.int)):Rep H O (.ref a) (.scr K l):=by
 rcases h with h | h
 ·exact .scr (ho a) h
 ·exact .scrK (.inr h)
theorem Rep.ext {H H':Hp}{O O':Own}{M M':MH}(k:Ext H O M H' O' M'){v:V}{d:Dat}(r:Rep H O v d):Rep H' O' v d:=r.imp k.fix
theorem zr.ext {H H':Hp}{O O':Own}{M M':MH}(k:Ext H O M H' O' M'){v:V}{x:AV}(r:zr H O M v x):zr H' O' M' v x:=by
 cases x with
 | d x=>exact Rep.ext k r
 | ref a=>exact ⟨r.1,k.mst a r.2⟩
theorem zf.ext {H H':Hp}{O O':Own}{M M':MH}(k:Ext H O M H' O' M'){xs:List V}{l:List AV}(r:zf H O M xs l):zf H' O' M' xs l:=⟨r.1,fun i x d e1 e2=>(r.2 i x d e1 e2).ext k⟩
theorem j3.ext {κ:Type}{H H':Hp}{O O':Own}{M M':MH}(k:Ext H O M H' O' M'){xs:List (κ × V)}{l:List (κ × AV)}(r:j3 H O M xs l):j3 H' O' M' xs l:=⟨r.1,r.2.ext k⟩
theorem zf.nil {H:Hp}{O:Own}{M:MH}:zf H O M [] []:=⟨rfl,fun i x d e=>by simp at e⟩
theorem zf.cons {H:Hp}{O:Own}{M:MH}{x:V}{d:AV}{xs:List V}{l:List AV}(h:zr H O M x d)(r:zf H O M xs l):zf H O M (x :: xs) (d :: l):=
 ⟨by simp [r.1],fun i y e h1 h2=>by
  cases i with
  | zero=>simp at h1 h2;subst h1 h2;exact h
  | succ i=>simp at h1 h2;exact r.2 i y e h1 h2⟩
theorem zf.head {H:Hp}{O:Own}{M:MH}{x:V}{d:AV}{xs:List V}{l:List AV}(r:zf H O M (x :: xs) (d :: l)):zr H O M x d/\zf H O M xs l:=
 ⟨r.2 0 x d rfl rfl,by have:=r.1;simpa using this,fun i y e h1 h2=>r.2 (i+1) y e (by simpa using h1) (by simpa using h2)⟩
theorem zf.nil_inv {H:Hp}{O:Own}{M:MH}{xs:List V}(r:zf H O M xs []):xs=[]:=List.length_eq_zero_iff.mp r.1
theorem zf.cons_inv {H:Hp}{O:Own}{M:MH}{xs:List V}{d:AV}{l:List AV}(r:zf H O M xs (d :: l)):∃ x r',xs=x :: r'/\zr H O M x d/\zf H O M r' l:=by
 cases xs with
 | nil=>have:=r.1;simp at this
 | cons x r'=>exact ⟨x,r',rfl,r.head⟩
theorem zf.append {H:Hp}{O:Own}{M:MH}{xs ys:List V}{l m:List AV}(a:zf H O M xs l)(b:zf H O M ys m):zf H O M (xs ++ ys) (l ++ m):=
 ⟨by rw [List.length_append,List.length_append,a.1,b.1],fun i x d h1 h2=>by
  by_cases c:i<xs.length
  ·rw [List.getElem?_append_left c] at h1
   rw [List.getElem?_append_left (by rw [<- a.1];exact c)] at h2
   exact a.2 i x d h1 h2
  ·rw [List.getElem?_append_right (by omega)] at h1
   rw [List.getElem?_append_right (by rw [<- a.1];omega),<- a.1] at h2
   exact b.2 _ x d h1 h2⟩
theorem zf.snoc {H:Hp}{O:Own}{M:MH}{xs:List V}{l:List AV}{x:V}{d:AV}(a:zf H O M xs l)(b:zr H O M x d):zf H O M (xs ++ [x]) (l ++ [d]):=a.append (.cons b .nil)
theorem zf.set {H:Hp}{O:Own}{M:MH}{xs:List V}{l:List AV}{x:V}{d:AV}(a:zf H O M xs l)(b:zr H O M x d)(j:Nat):zf H O M (xs.set j x) (l.set j d):=
 ⟨by rw [List.length_set,List.length_set,a.1],fun i y e h1 h2=>by
  rw [List.getElem?_set] at h1 h2
  by_cases c:j=i
  ·rw [if_pos c] at h1 h2
   split at h1
   ·split at h2
    ·cases h1;cases h2;exact b
    ·cases h2
   ·cases h1
  ·rw [if_neg c] at h1 h2
   exact a.2 i y e h1 h2⟩
theorem zf.get {H:Hp}{O:Own}{M:MH}{xs:List V}{l:List AV}(a:zf H O M xs l){i:Nat}{d:AV}(h:l[i]?=some d):∃ x,xs[i]?=some x/\zr H O M x d:=by
 have hi:=(List.getElem?_eq_some_iff.mp h).1
 have hx:i<xs.length:=by rw [a.1];exact hi
 exact ⟨xs[i],by simp [hx],a.2 i _ _ (by simp [hx]) h⟩
theorem zf.drop {H:Hp}{O:Own}{M:MH}{xs:List V}{l:List AV}(a:zf H O M xs l)(k:Nat):zf H O M (xs.drop k) (l.drop k):=
 ⟨by rw [List.length_drop,List.length_drop,a.1],fun i x d h1 h2=>by rw [List.getElem?_drop] at h1 h2;exact a.2 _ x d h1 h2⟩
theorem zf.take {H:Hp}{O:Own}{M:MH}{xs:List V}{l:List AV}(a:zf H O M xs l)(k:Nat):zf H O M (xs.take k) (l.take k):=
 ⟨by rw [List.length_take,List.length_take,a.1],fun i x d h1 h2=>by
  rw [List.getElem?_take] at h1 h2
  by_cases c:i<k
  ·rw [if_pos c] at h1 h2
   exact a.2 _ x d h1 h2
  ·rw [if_neg c] at h1
   cases h1⟩
theorem Jv.av {H:Hp}{O:Own}{M:MH}{xs:List V}{l:List Dat}(r:Jv H O xs l):zf H O M xs (l.map .d):=
 ⟨by rw [List.length_map];exact r.1,fun i x d h1 h2=>by
  rw [List.getElem?_map] at h2
  cases e:l[i]? with
  | none=>rw [e] at h2;cases h2
  | some y=>rw [e] at h2;cases h2;exact r.2 i x y h1 e⟩
theorem zf.pure {H:Hp}{O:Own}{M:MH}{xs:List V}{l:List Dat}(r:zf H O M xs (l.map .d)):Jv H O xs l:=
 ⟨by have:=r.1;rwa [List.length_map] at this,fun i x d h1 h2=>r.2 i x (.d d) h1 (by rw [List.getElem?_map,h2];rfl)⟩
theorem Wf.fresh {H:Hp}{O:Own}{M:MH}(w:Wf H O M){p:Addr}(h:H p=none):¬ O p/\M p=none:=by
 have:¬ O p:=fun z=>w.ne p z h
 exact ⟨this,by
  cases e:M p with
  | none=>rfl
  | some o=>exact absurd (w.own p (by rw [e];exact fun z=>nomatch z)) this⟩
theorem qQ.ext {H H':Hp}{O O':Own}{M M':MH}(k:Ext H O M H' O' M'){a:Addr}{o:MO}(e:H' a=H a)(r:qQ H O M a o):qQ H' O' M' a o:=by
 cases o with
 | lst l=>obtain ⟨xs,h,r⟩:=r;exact ⟨xs,e.trans h,r.ext k⟩
 | dK l=>obtain ⟨xs,h,r⟩:=r;exact ⟨xs,e.trans h,r.ext k⟩
 | dT l=>obtain ⟨xs,h,r⟩:=r;exact ⟨xs,e.trans h,r.ext k⟩
 | ins C fs=>obtain ⟨dx,xs,h,r,q1,q2,q3⟩:=r;obtain ⟨x1,x2,x3⟩:=k.prv dx q1 q2;exact ⟨dx,xs,e.trans h,r.ext k,x2,x3,x1.trans q3⟩
 | exc C fs=>
  obtain ⟨d,h,r⟩:=r
  refine ⟨d,e.trans h,?_⟩
  rcases r with r | ⟨dx,e1,h1,h2,h3⟩
  ·exact .inl r
  ·obtain ⟨x1,x2,x3⟩:=k.prv dx h2 h3;exact .inr ⟨dx,e1,x1.trans h1,x2,x3⟩
 | tb R=>obtain ⟨ps,h,r⟩:=r;exact ⟨ps,e.trans h,r.imp id fun ⟨c,oc,u,h1,h2,h3⟩=>⟨c,oc,u,h1,(k.fix c _ h2 h3).2,(k.fix c _ h2 h3).1⟩⟩
theorem qh {H:Hp}{O:Own}{M:MH}(w:Wf H O M){p:Addr}(h:H p=none)(o:HO):Ext H O M (upd H p o) O M:=
 ⟨fun a u ha e=>⟨by rw [zi (zk e h)];exact e,ha⟩,fun a ha e=>⟨zi (fun z=>w.ne a ha (by rw [z];exact h)),ha,e⟩,fun _ h=>h⟩
theorem jK {H:Hp}{O:Own}{M:MH}(w:Wf H O M){p:Addr}(h:H p=none)(o:HO):Wf (upd H p o) O M:=
 ⟨fun a mo e=>qQ.ext (qh w h o) (zi (fun z=>by rw [z,(w.fresh h).2] at e;cases e)) (w.mo a mo e),w.own,fun a ha=>by
  have:a ≠ p:=fun z=>w.ne a ha (by rw [z];exact h)
  rw [zi this];exact w.al a ha⟩
noncomputable def yD (O:Own)(p:Addr):Own:=fun a=>a=p \/ O a
noncomputable def vv (O:Own)(p:Addr):Own:=fun a=>a ≠ p/\O a
theorem QQ {H:Hp}{O:Own}{M:MH}(w:Wf H O M){p:Addr}(h:H p=none)(o:HO)(mo:MO):Ext H O M (upd H p o) (yD O p) (mup M p mo):=
 ⟨fun a u ha e=>⟨by rw [zi (zk e h)];exact e,fun z=>z.elim (zk e h) ha⟩,fun a ha e=>by
  have hne:a ≠ p:=fun z=>w.ne a ha (by rw [z];exact h)
  exact ⟨zi hne,.inr ha,by rw [zq hne];exact e⟩,fun a ha=>by
  by_cases e:a=p
  ·rw [e,ze];exact fun z=>nomatch z
  ·rw [zq e];exact ha⟩
theorem Au {H:Hp}{O:Own}{M:MH}(w:Wf H O M){p:Addr}(h:H p=none){o:HO}{mo:MO}(ho:∀ xs,o ≠ .tup xs)(r:qQ (upd H p o) (yD O p) (mup M p mo) p mo):Wf (upd H p o) (yD O p) (mup M p mo):=by
 refine ⟨fun a u e=>?_,fun a ha=>?_,fun a ha=>?_⟩
 ·by_cases c:a=p
  ·subst c;rw [ze] at e;cases e;exact r
  ·rw [zq c] at e
   exact qQ.ext (QQ w h o mo) (zi c) (w.mo a u e)
 ·by_cases c:a=p
  ·exact .inl c
  ·rw [zq c] at ha;exact .inr (w.own a ha)
 ·by_cases c:a=p
  ·rw [c,zp];exact ⟨o,rfl,ho⟩
  ·rw [zi c];exact w.al a (ha.resolve_left c)
theorem jN {H:Hp}{O:Own}{M:MH}(w:Wf H O M){p:Addr}(h:M p ≠ none)(o:HO)(mo:MO):Ext H O M (upd H p o) O (mup M p mo):=
 ⟨fun a u ha e=>⟨by rw [zi (fun z=>ha (by rw [z];exact w.own p h))];exact e,ha⟩,fun a ha e=>by
  have hne:a ≠ p:=fun z=>h (by rw [<- z];exact e)
  exact ⟨zi hne,ha,by rw [zq hne];exact e⟩,fun a ha=>by
  by_cases e:a=p
  ·rw [e,ze];exact fun z=>nomatch z
  ·rw [zq e];exact ha⟩
theorem Zp {H:Hp}{O:Own}{M:MH}(w:Wf H O M){p:Addr}(h:M p ≠ none){o:HO}{mo:MO}(ho:∀ xs,o ≠ .tup xs)(r:qQ (upd H p o) O (mup M p mo) p mo):Wf (upd H p o) O (mup M p mo):=by
 refine ⟨fun a u e=>?_,fun a ha=>?_,fun a ha=>?_⟩
 ·by_cases c:a=p
  ·subst c;rw [ze] at e;cases e;exact r
  ·rw [zq c] at e
   exact qQ.ext (jN w h o mo) (zi c) (w.mo a u e)
 ·by_cases c:a=p
  ·subst c;exact w.own a h
  ·rw [zq c] at ha;exact w.own a ha
 ·by_cases c:a=p
  ·rw [c,zp];exact ⟨o,rfl,ho⟩
  ·rw [zi c];exact w.al a ha
theorem qF {H:Hp}{O:Own}{M:MH}(w:Wf H O M){p:Addr}(h:H p=none)(o:HO):Ext H O M (upd H p o) (yD O p) M:=
 ⟨fun a u ha e=>⟨by rw [zi (zk e h)];exact e,fun z=>z.elim (zk e h) ha⟩,fun a ha e=>by
  have hne:a ≠ p:=fun z=>w.ne a ha (by rw [z];exact h)
  exact ⟨zi hne,.inr ha,e⟩,fun _ h=>h⟩
theorem kz {H:Hp}{O:Own}{M:MH}(w:Wf H O M){p:Addr}(h:H p=none)(o:HO)(ho:∀ xs,o ≠ .tup xs):Wf (upd H p o) (yD O p) M:=
 ⟨fun a mo e=>qQ.ext (qF w h o) (zi (fun z=>by rw [z,(w.fresh h).2] at e;cases e)) (w.mo a mo e),fun a ha=>.inr (w.own a ha),fun a ha=>by
  by_cases c:a=p
  ·rw [c,zp];exact ⟨o,rfl,ho⟩
  ·rw [zi c];exact w.al a (ha.resolve_left c)⟩
theorem xH {H:Hp}{O:Own}{p:Addr}(hO:O p)(o:HO):∀ a u,¬ O a->H a=some u->upd H p o a=some u/\¬ O a:=fun a u ha e=>⟨by rw [zi (fun z=>ha (by rw [z];exact hO))];exact e,ha⟩
theorem zr.imp {H H':Hp}{O O':Own}{M M':MH}(k:∀ a o,¬ O a->H a=some o->H' a=some o/\¬ O' a)(hm:∀ a,M a ≠ none->M' a ≠ none){v:V}{x:AV}(r:zr H O M v x):zr H' O' M' v x:=by
 cases x with
 | d x=>exact Rep.imp k r
 | ref a=>exact ⟨r.1,hm a r.2⟩
theorem zf.imp {H H':Hp}{O O':Own}{M M':MH}(k:∀ a o,¬ O a->H a=some o->H' a=some o/\¬ O' a)(hm:∀ a,M a ≠ none->M' a ≠ none){xs:List V}{l:List AV}(r:zf H O M xs l):zf H' O' M' xs l:=⟨r.1,fun i x d e1 e2=>(r.2 i x d e1 e2).imp k hm⟩
theorem qQ.imp {H H':Hp}{O O':Own}{M:MH}(k:∀ a o,¬ O a->H a=some o->H' a=some o/\¬ O' a){a:Addr}{o:MO}(e:H' a=H a)(hd:∀ dx x,O dx->M dx=none->H dx=some x->((∃ b,x=.own b) \/ ∃ fs,x=.xd fs)->H' dx=some x/\O' dx)(r:qQ H O M a o):qQ H' O' M a o:=by
 cases o with
 | lst l=>obtain ⟨xs,h,r⟩:=r;exact ⟨xs,e.trans h,r.imp k fun _ z=>z⟩
 | dK l=>obtain ⟨xs,h,r⟩:=r;exact ⟨xs,e.trans h,r.1,r.2.imp k fun _ z=>z⟩
 | dT l=>obtain ⟨xs,h,r⟩:=r;exact ⟨xs,e.trans h,r.1,r.2.imp k fun _ z=>z⟩
 | ins C fs=>obtain ⟨dx,xs,h,r,q1,q2,q3⟩:=r;exact ⟨dx,xs,e.trans h,⟨r.1,r.2.imp k fun _ z=>z⟩,(hd dx _ q1 q2 q3 (.inl ⟨_,rfl⟩)).2,q2,(hd dx _ q1 q2 q3 (.inl ⟨_,rfl⟩)).1⟩
 | exc C fs=>
  obtain ⟨d,h,r⟩:=r
  refine ⟨d,e.trans h,?_⟩
  rcases r with r | ⟨dx,e1,h1,h2,h3⟩
  ·exact .inl r
  ·obtain ⟨x1,x2⟩:=hd dx _ h2 h3 h1 (.inr ⟨_,rfl⟩);exact .inr ⟨dx,e1,x1,x2,h3⟩
 | tb R=>obtain ⟨ps,h,r⟩:=r;exact ⟨ps,e.trans h,r.imp id fun ⟨c,oc,u,h1,h2,h3⟩=>⟨c,oc,u,h1,(k c _ h2 h3).2,(k c _ h2 h3).1⟩⟩
theorem ZU {H:Hp}{O:Own}{M:MH}(w:Wf H O M){p:Addr}(hO:O p)(hM:M p=none){xs:List V}(hp:H p=some (.lst xs))(o:HO)(ho:∀ xs,o ≠ .tup xs):Wf (upd H p o) O M:=
 ⟨fun a mo e=>qQ.imp (xH hO o) (zi (fun z=>by rw [z,hM] at e;cases e)) (fun dx x h1 _ h3 h4=>⟨by rw [zi (yU h3 hp (by rcases h4 with ⟨_,rfl⟩ | ⟨_,rfl⟩ <;> exact fun z=>nomatch z))];exact h3,h1⟩) (w.mo a mo e),w.own,fun a ha=>by
  by_cases c:a=p
  ·rw [c,zp];exact ⟨o,rfl,ho⟩
  ·rw [zi c];exact w.al a ha⟩
theorem ke {H:Hp}{O:Own}(p:Addr):∀ a u,¬ O a->H a=some u->H a=some u/\¬ vv O p a:=fun a u ha e=>⟨e,fun z=>ha z.2⟩
theorem Yk {H:Hp}{O:Own}{M:MH}(w:Wf H O M){p:Addr}(hM:M p=none){xs:List V}(hp:H p=some (.lst xs)):Wf H (vv O p) M:=
 ⟨fun a mo e=>qQ.imp (ke p) rfl (fun dx x h1 _ h3 h4=>⟨h3,⟨yU h3 hp (by rcases h4 with ⟨_,rfl⟩ | ⟨_,rfl⟩ <;> exact fun z=>nomatch z),h1⟩⟩) (w.mo a mo e),fun a ha=>⟨fun z=>ha (by rw [z];exact hM),w.own a ha⟩,fun a ha=>w.al a ha.2⟩
noncomputable abbrev AK:=AV->MH->Prop
noncomputable abbrev AE:=ASt->MH->AK->Prop
noncomputable abbrev AT:=ASt->MH->(Bool->MH->Prop)->Prop
noncomputable abbrev AA:=ASt->MH->(List AV->MH->Prop)->Prop
structure qB where
 nx:ASt->MH->Prop
 rt:AK
 bk:ASt->MH->Prop:=fun _ _=>False
 ct:ASt->MH->Prop:=fun _ _=>False
noncomputable abbrev AS:=MH->qB->ASt->MH->Prop
noncomputable abbrev AG:=AV->ASt->MH->(ASt->MH->Prop)->Prop
noncomputable abbrev AGs:=List AV->ASt->MH->(ASt->MH->Prop)->Prop
noncomputable abbrev AI:=ASt->MH->(List AV->(MH->Prop)->MH->Prop)->Prop
structure Er (H:Hp)(O:Own)(M:MH)(σ:St)(ρ:ASt):Prop where
 len:σ.length=ρ.length
 get:∀ (i:Nat) x,ρ[i]?=some (some x)->∃ v,σ[i]?=some (some v)/\zr H O M v x
theorem Er.ext {H H':Hp}{O O':Own}{M M':MH}{σ:St}{ρ:ASt}(e:Er H O M σ ρ)(k:Ext H O M H' O' M'):Er H' O' M' σ ρ:=⟨e.len,fun i x h=>let ⟨v,h1,h2⟩:=e.get i x h;⟨v,h1,h2.ext k⟩⟩
theorem Er.set {H:Hp}{O:Own}{M:MH}{σ:St}{ρ:ASt}(e:Er H O M σ ρ){v:V}{x:AV}(r:zr H O M v x)(j:Nat):Er H O M (σ.set j (some v)) (ρ.set j (some x)):=
 ⟨by rw [List.length_set,List.length_set,e.len],fun i y h=>by
  rw [List.getElem?_set] at h ⊢
  by_cases c:j=i
  ·rw [if_pos c] at h ⊢
   by_cases c2:j<ρ.length
   ·rw [if_pos c2] at h;rw [if_pos (by rw [e.len];exact c2)];cases h;exact ⟨v,rfl,r⟩
   ·rw [if_neg c2] at h;cases h
  ·rw [if_neg c] at h ⊢;exact e.get i y h⟩
noncomputable def Wh:List Nat->ASt->ASt
 | [],σ=>σ
 | j :: r,σ=>Wh r (σ.set j none)
theorem Er.clr {H:Hp}{O:Own}{M:MH}:∀ (ts:List Nat) {σ:St} {ρ:ASt},Er H O M σ ρ->Er H O M (clr ts σ) (Wh ts ρ)
  | [],_,_,e=>e
  | j :: r, σ, ρ, e => Er.clr r ⟨by rw [List.length_set, List.length_set, e.len], fun i y h => by
      rw [List.getElem?_set] at h ⊢
      by_cases c:j=i
      · rw [if_pos c] at h
        split at h <;> cases h
      · rw [if_neg c] at h ⊢;exact e.get i y h⟩
structure zI (t:TE)(a:AE):Prop where
 go:∀ {σ:St} {H:Hp} {O:Own} {ρ:ASt} {M:MH} {Q:VK} {Q':AK},Wf H O M->Er H O M σ ρ->a ρ M Q'->(∀ x M' v H' O',Q' x M'->Ext H O M H' O' M'->Wf H' O' M'->zr H' O' M' v x->Q v H')->t σ H Q
structure jZ (t:TT)(a:AT):Prop where
 go:∀ {σ:St} {H:Hp} {O:Own} {ρ:ASt} {M:MH} {Q:Bool->Hp->Prop} {Q':Bool->MH->Prop},Wf H O M->Er H O M σ ρ->a ρ M Q'->(∀ b M' H' O',Q' b M'->Ext H O M H' O' M'->Wf H' O' M'->Q b H')->t σ H Q
structure jI (t:TA)(a:AA):Prop where
 go:∀ {σ:St} {H:Hp} {O:Own} {ρ:ASt} {M:MH} {Q:List V->Hp->Prop} {Q':List AV->MH->Prop},Wf H O M->Er H O M σ ρ->a ρ M Q'->(∀ x M' v H' O',Q' x M'->Ext H O M H' O' M'->Wf H' O' M'->zf H' O' M' v x->Q v H')->t σ H Q
structure Za (t:TE)(a:ASt->MH->(List AV->MH->Prop)->Prop):Prop where
 go:∀ {σ:St} {H:Hp} {O:Own} {ρ:ASt} {M:MH} {Q:VK} {Q':List AV->MH->Prop},Wf H O M->Er H O M σ ρ->a ρ M Q' ->
  (∀ l M' p xs H' O',Q' l M'->Ext H O M H' O' M'->Wf H' O' M'->O' p->M' p=none->H p=none->H' p=some (.lst xs)->zf H' O' M' xs l->Q (.ref p) H')->t σ H Q
noncomputable abbrev AR2:=AV->AV->MH->AK->Prop
structure ww (r:R2)(a:AR2):Prop where
 go:∀ {x y:V} {dx dy:AV} {H:Hp} {O:Own} {M:MH} {Q:VK} {Q':AK},Wf H O M->zr H O M x dx->zr H O M y dy->a dx dy M Q'->(∀ x M' v H' O',Q' x M'->Ext H O M H' O' M'->Wf H' O' M'->zr H' O' M' v x->Q v H')->r x y H Q
structure Da (r:V->Hp->VK->Prop)(a:AV->MH->AK->Prop):Prop where
 go:∀ {x:V} {dx:AV} {H:Hp} {O:Own} {M:MH} {Q:VK} {Q':AK},Wf H O M->zr H O M x dx->a dx M Q'->(∀ x M' v H' O',Q' x M'->Ext H O M H' O' M'->Wf H' O' M'->zr H' O' M' v x->Q v H')->r x H Q
structure vX (r:List V->Hp->VK->Prop)(a:List AV->MH->AK->Prop):Prop where
 go:∀ {vs:List V} {xs:List AV} {H:Hp} {O:Own} {M:MH} {Q:VK} {Q':AK},Wf H O M->zf H O M vs xs->a xs M Q'->(∀ x M' v H' O',Q' x M'->Ext H O M H' O' M'->Wf H' O' M'->zr H' O' M' v x->Q v H')->r vs H Q
noncomputable def zE (i:Nat):AE:=fun ρ M Q=>∃ x,ρ[i]?=some (some x)/\Q x M
noncomputable def aC (d:Dat):AE:=fun _ M Q=>Q (.d d) M
theorem VI {i:Nat}:zI (Wx i) (zE i):=⟨fun w e ⟨x,h,q⟩ k=>let ⟨v,h1,h2⟩:=e.get i x h;⟨v,h1,k _ _ _ _ _ q .refl w h2⟩⟩
theorem AM {i:Int}:zI (tC (.int i)) (aC (.int i)):=⟨fun w _ q k=>k _ _ _ _ _ q .refl w .int⟩
theorem AR {i:Bool}:zI (tC (.bl i)) (aC (.bl i)):=⟨fun w _ q k=>k _ _ _ _ _ q .refl w .bl⟩
theorem Bo:zI (tC .non) (aC .non):=⟨fun w _ q k=>k _ _ _ _ _ q .refl w .non⟩
theorem Bv {i:Str}:zI (tC (.str i)) (aC (.str i)):=⟨fun w _ q k=>k _ _ _ _ _ q .refl w .str⟩
theorem BL {i:String}:zI (tC (.ty i)) (aC (.ty i)):=⟨fun w _ q k=>k _ _ _ _ _ q .refl w .ty⟩
noncomputable def aOp (r:AR2)(a b:AE):AE:=fun ρ M Q=>a ρ M fun x M1=>b ρ M1 fun y M2=>r x y M2 Q
theorem W1 {r:R2}{ra:AR2}{t u:TE}{a b:AE}(hr:ww r ra)(h1:zI t a)(h2:zI u b):zI (tOp r t u) (aOp ra a b):=
 ⟨fun w e q k=>h1.go w e q fun x M1 v H1 O1 q1 k1 w1 r1=>h2.go w1 (e.ext k1) q1 fun y M2 u H2 O2 q2 k2 w2 r2=>hr.go w2 (r1.ext k2) r2 q2 fun z M3 v3 H3 O3 q3 k3 w3 r3=>k z M3 v3 H3 O3 q3 ((k1.trans k2).trans k3) w3 r3⟩
noncomputable def aUn (r:AV->MH->AK->Prop)(a:AE):AE:=fun ρ M Q=>a ρ M fun x M1=>r x M1 Q
theorem A8 {r:V->Hp->VK->Prop}{ra:AV->MH->AK->Prop}{t:TE}{a:AE}(hr:Da r ra)(h1:zI t a):zI (tUn r t) (aUn ra a):=
 ⟨fun w e q k=>h1.go w e q fun x M1 v H1 O1 q1 k1 w1 r1=>hr.go w1 r1 q1 fun z M3 v3 H3 O3 q3 k3 w3 r3=>k z M3 v3 H3 O3 q3 (k1.trans k3) w3 r3⟩
noncomputable def jq:AA:=fun _ M Q=>Q [] M
noncomputable def zR (a:AE)(b:AA):AA:=fun ρ M Q=>a ρ M fun x M1=>b ρ M1 fun xs M2=>Q (x :: xs) M2
theorem V0:jI AQ jq:=⟨fun w _ q k=>k _ _ _ _ _ q .refl w .nil⟩
theorem Ko {t:TE}{u:TA}{a:AE}{b:AA}(h1:zI t a)(h2:jI u b):jI (YD t u) (zR a b):=
 ⟨fun w e q k=>h1.go w e q fun x M1 v H1 O1 q1 k1 w1 r1=>h2.go w1 (e.ext k1) q1 fun y M2 u H2 O2 q2 k2 w2 r2=>k _ _ _ _ _ q2 (k1.trans k2) w2 (.cons (r1.ext k2) r2)⟩
theorem vj {H:Hp}{O:Own}{M:MH}(is:List Int):zf H O M (is.map V.int) (is.map fun i=>.d (.int i)):=by
 induction is with
 | nil=>exact .nil
 | cons i r ih=>exact .cons .int ih
noncomputable def aCB (r:List AV->MH->AK->Prop)(b:AA):AE:=fun ρ M Q=>b ρ M fun xs M1=>r xs M1 Q
theorem Be {r:List V->Hp->VK->Prop}{ra:List AV->MH->AK->Prop}{u:TA}{b:AA}(hr:vX r ra)(h2:jI u b):zI (tCB r u) (aCB ra b):=
 ⟨fun w e q k=>h2.go w e q fun x M1 v H1 O1 q1 k1 w1 r1=>hr.go w1 r1 q1 fun z M3 v3 H3 O3 q3 k3 w3 r3=>k z M3 v3 H3 O3 q3 (k1.trans k3) w3 r3⟩
noncomputable abbrev ASp:=List AV->MH->AK->Prop
noncomputable def cSp (a:ASp):Sp:=fun vs H Q _=>∃ xs M O Q',Wf H O M/\zf H O M vs xs/\a xs M Q'/\∀ x M' v H' O',Q' x M'->Ext H O M H' O' M'->Wf H' O' M'->zr H' O' M' v x->Q v H'
noncomputable def y8 (sp:ASp)(b:AA):AE:=fun ρ M Q=>b ρ M fun xs M1=>sp xs M1 Q
theorem KC {sp:ASp}{u:TA}{b:AA}(h:jI u b):zI (Qn (cSp sp) [] E0 u) (y8 sp b):=
 ⟨fun w e q k=>h.go w e q fun x M1 v H1 O1 q1 k1 w1 r1=>⟨x,M1,O1,_,w1,by rw [List.append_nil];exact r1,q1,fun z M3 v3 H3 O3 q3 k3 w3 r3=>k z M3 v3 H3 O3 q3 (k1.trans k3) w3 r3⟩⟩
noncomputable def pur:List AV->Option (List Dat)
 | []=>some []
 | .d x :: r=>match pur r with | some l=>some (x :: l) | none=>none
 | .ref _ :: _=>none
theorem Y5:pur []=some []:=rfl
theorem K0 {x:Dat}{r:List AV}{l:List Dat}(h:pur r=some l):pur (.d x :: r)=some (x :: l):=by unfold pur;rw [h]
theorem zF (l:List Dat):pur (l.map .d)=some l:=by
 induction l with
 | nil=>rfl
 | cons x r ih=>exact K0 ih
theorem jr:∀ {xs:List AV} {l:List Dat},pur xs=some l->xs=l.map .d
 | [],l,h=>by cases h;rfl
 | .d x :: r,l,h=>by
  unfold pur at h
  cases e:pur r with
  | none=>rw [e] at h;cases h
  | some m=>rw [e] at h;cases h;rw [jr e];rfl
 | .ref _ :: _,_,h=>by cases h
theorem Ext.shown {H H':Hp}{O O':Own}{M M':MH}{p:Addr}(w:Wf H O M)(k:Ext H O M H' O' M')(h:H p=none):Ext H O M H' (vv O' p) M':=
 ⟨fun a o ha e=>⟨(k.fix a o ha e).1,fun z=>(k.fix a o ha e).2 z.2⟩,fun a ha e=>⟨(k.prv a ha e).1,⟨fun z=>w.ne a ha (by rw [z];exact h),(k.prv a ha e).2.1⟩,(k.prv a ha e).2.2⟩,k.mst⟩
theorem Ext.owned {H H':Hp}{O O':Own}{M M':MH}{p:Addr}(w:Wf H O M)(k:Ext H O M H' O' M')(h:H p=none)(mo:MO):Ext H O M H' O' (mup M' p mo):=
 ⟨k.fix,fun a ha e=>⟨(k.prv a ha e).1,(k.prv a ha e).2.1,by rw [zq (fun z=>w.ne a ha (by rw [z];exact h))];exact (k.prv a ha e).2.2⟩,fun a ha=>by
  by_cases e:a=p
  ·rw [e,ze];exact fun z=>nomatch z
  ·rw [zq e];exact k.mst a ha⟩
theorem wa {H:Hp}{O:Own}{M:MH}{p:Addr}(w:Wf H O M)(hO:O p)(hM:M p=none){xs:List V}{l:List AV}(hp:H p=some (.lst xs))(r:zf H O M xs l):Wf H O (mup M p (.lst l)):=by
 have km:∀ a,M a ≠ none->mup M p (.lst l) a ≠ none:=fun a ha=>by
  by_cases e:a=p
  ·rw [e,ze];exact fun z=>nomatch z
  ·rw [zq e];exact ha
 refine ⟨fun a u e=>?_,fun a ha=>?_,w.al⟩
 ·by_cases c:a=p
  ·subst c;rw [ze] at e;cases e;exact ⟨xs,hp,r.imp (fun _ _ z h=>⟨h,z⟩) km⟩
  ·rw [zq c] at e
   have:=w.mo a u e
   cases u with
   | lst m=>obtain ⟨ys,h1,h2⟩:=this;exact ⟨ys,h1,h2.imp (fun _ _ z h=>⟨h,z⟩) km⟩
   | dK m=>obtain ⟨ys,h1,h2⟩:=this;exact ⟨ys,h1,h2.1,h2.2.imp (fun _ _ z h=>⟨h,z⟩) km⟩
   | dT m=>obtain ⟨ys,h1,h2⟩:=this;exact ⟨ys,h1,h2.1,h2.2.imp (fun _ _ z h=>⟨h,z⟩) km⟩
   | ins C fs=>
    obtain ⟨dx,ys,h1,h2,h3,h4,h5⟩:=this
    exact ⟨dx,ys,h1,⟨h2.1,h2.2.imp (fun _ _ z h=>⟨h,z⟩) km⟩,h3,by rw [zq (yU h5 hp (fun z=>nomatch z))];exact h4,h5⟩
   | exc C fs=>
    obtain ⟨d,h1,h2⟩:=this
    refine ⟨d,h1,?_⟩
    rcases h2 with h2 | ⟨dx,e1,h2,h3,h4⟩
    ·exact .inl h2
    ·exact .inr ⟨dx,e1,h2,h3,by rw [zq (yU h2 hp (fun z=>nomatch z))];exact h4⟩
   | tb R=>exact this
 ·by_cases c:a=p
  ·rw [c];exact hO
  ·rw [zq c] at ha;exact w.own a ha
noncomputable abbrev AF:=ASt->MH->(List AV->MH->Prop)->Prop
noncomputable def aFz (a:AF):AE:=fun ρ M Q=>a ρ M fun l M'=>∃ ds,pur l=some ds/\Q (.d (.lst ds)) M'
noncomputable def aOw (a:AF):AE:=fun ρ M Q=>a ρ M fun l M'=>∀ p,M p=none->M' p=none->Q (.ref p) (mup M' p (.lst l))
noncomputable def Dn (t:TE):TE:=t
theorem jH {X:Cx}{e:Expr}{t:TE}(h:PE X e t):PE X e (Dn t):=h
theorem j9 {t:TE}{a:AF}(h:Za t a):zI t (aFz a):=
 ⟨fun w e q k=>h.go w e q fun l M' p xs H' O' q1 k1 w1 o1 m1 hp hx r1=>by
  obtain ⟨ds,e1,q2⟩:=q1
  rw [jr e1] at r1
  have r2:=r1.pure
  exact k _ _ _ _ _ q2 (k1.shown w hp) (Yk w1 m1 hx) (Rep.lst (fun z=>z.1 rfl) hx r2.1 fun i x d e1 e2=>(r2.2 i x d e1 e2).imp (ke p))⟩
theorem Vd {t:TE}{a:AF}(h:Za t a):zI (Dn t) (aOw a):=
 ⟨fun w e q k=>h.go w e q fun l M' p xs H' O' q1 k1 w1 o1 m1 hp hx r1=>k _ _ _ _ _ (q1 p (w.fresh hp).2 m1) (k1.owned w hp _) (wa w1 o1 m1 hx r1) ⟨rfl,by rw [ze];exact fun z=>nomatch z⟩⟩
noncomputable def Bw (b:AA):AF:=fun ρ M Q=>b ρ M fun xs M1=>xs.length<=sizeLine/\Q xs M1
theorem Kt {u:TA}{b:AA}(h:jI u b):Za (Ad u) (Bw b):=
 ⟨fun w e q k=>h.go w e q fun x M1 v H1 O1 q1 k1 w1 r1=>⟨by rw [r1.1];exact q1.1,fun p hp=>
  k x M1 p v _ _ q1.2 (k1.trans (qF w1 hp _)) (kz w1 hp _ (fun _ z=>nomatch z)) (.inl rfl) (w1.fresh hp).2 (by
   cases e0:(_:Hp) p with
   | none=>exact e0
   | some o=>
    exfalso
    rename_i H0 O0 _ M0 _ _
    by_cases c:O0 p
    ·by_cases c2:M0 p=none
     ·exact w1.ne p (k1.prv p c c2).2.1 hp
     ·exact w1.ne p (w1.own p (k1.mst p c2)) hp
    ·rw [(k1.fix p o c e0).1] at hp;cases hp) zp (r1.ext (qF w1 hp _))⟩⟩
noncomputable def Xu (b:AA):AE:=fun ρ M Q=>b ρ M fun xs M1=>xs.length<=sizeLine/\∃ ds,pur xs=some ds/\Q (.d (.tup ds)) M1
theorem Vt {u:TA}{b:AA}(h:jI u b):zI (YY u) (Xu b):=
 ⟨fun w e q k=>h.go w e q fun x M1 v H1 O1 q1 k1 w1 r1=>⟨by rw [r1.1];exact q1.1,fun p hp=>by
  obtain ⟨_,ds,e1,q2⟩:=q1
  rw [jr e1] at r1
  have r2:=r1.pure
  exact k _ _ _ _ _ q2 (k1.trans (qh w1 hp _)) (jK w1 hp _) (Rep.tup (w1.fresh hp).1 zp r2.1 fun i x d e1 e2=>(r2.2 i x d e1 e2).ext (qh w1 hp _))⟩⟩
noncomputable def aB (a:AE):AT:=fun ρ M Q=>a ρ M fun x M1=>∃ b,x=.d (.bl b)/\Q b M1
theorem yv {H:Hp}{O:Own}{v:V}{b:Bool}(r:Rep H O v (.bl b)):v=.bl b:=by cases r;rfl
theorem zY {H:Hp}{O:Own}{v:V}{b:Int}(r:Rep H O v (.int b)):v=.int b:=by cases r;rfl
theorem vz {H:Hp}{O:Own}{v:V}{b:Str}(r:Rep H O v (.str b)):v=.str b:=by cases r;rfl
theorem Yc {H:Hp}{O:Own}{v:V}{b:String}(r:Rep H O v (.ty b)):v=.ty b:=by cases r;rfl
theorem QH {H:Hp}{O:Own}{v:V}(r:Rep H O v .non):v=.non:=by cases r;rfl
theorem Dw {t:TE}{a:AE}(h:zI t a):jZ (tB t) (aB a):=⟨fun w e q k=>h.go w e q fun x M1 v H1 O1 ⟨b,e1,q1⟩ k1 w1 r1=>by
 subst e1;exact ⟨b,yv r1,k _ _ _ _ q1 k1 w1⟩⟩
theorem Xf {t:TE}{a:AE}(h:zI t a):jZ (X8 t) (aB a):=⟨fun w e q k=>h.go w e q fun x M1 v H1 O1 ⟨b,e1,q1⟩ k1 w1 r1=>by
 subst e1;exact ⟨b,yv r1,k _ _ _ _ q1 k1 w1⟩⟩
noncomputable def yf:AT:=fun _ M Q=>Q true M
theorem Kz:jZ XY yf:=⟨fun w _ q k=>k _ _ _ _ q .refl w⟩
noncomputable def VS (a b:AT):AT:=fun ρ M Q=>a ρ M fun c M1=>if c=true then b ρ M1 Q else Q false M1
noncomputable def aOr (a b:AT):AT:=fun ρ M Q=>a ρ M fun c M1=>if c=true then Q true M1 else b ρ M1 Q
noncomputable def Dr (a:AT):AT:=fun ρ M Q=>a ρ M fun c M1=>Q (!c) M1
theorem VA {t u:TT}{a b:AT}(h1:jZ t a)(h2:jZ u b):jZ (A0 t u) (VS a b):=⟨fun w e q k=>h1.go w e q fun c M1 H1 O1 q1 k1 w1=>by
 cases c with
 | true=>exact h2.go w1 (e.ext k1) q1 fun c M2 H2 O2 q2 k2 w2=>k _ _ _ _ q2 (k1.trans k2) w2
 | false=>exact k _ _ _ _ q1 k1 w1⟩
theorem Bd {t u:TT}{a b:AT}(h1:jZ t a)(h2:jZ u b):jZ (tOr t u) (aOr a b):=⟨fun w e q k=>h1.go w e q fun c M1 H1 O1 q1 k1 w1=>by
 cases c with
 | false=>exact h2.go w1 (e.ext k1) q1 fun c M2 H2 O2 q2 k2 w2=>k _ _ _ _ q2 (k1.trans k2) w2
 | true=>exact k _ _ _ _ q1 k1 w1⟩
theorem VF {t:TT}{a:AT}(h1:jZ t a):jZ (A1 t) (Dr a):=⟨fun w e q k=>h1.go w e q fun c M1 H1 O1 q1 k1 w1=>k _ _ _ _ q1 k1 w1⟩
noncomputable def YV (a b:AE):AE:=fun ρ M Q=>a ρ M fun x M1=>∃ c,x=.d (.bl c)/\if c=true then b ρ M1 Q else Q (.d (.bl false)) M1
theorem K1 {t u:TE}{a b:AE}(h1:zI t a)(h2:zI u b):zI (Xh t u) (YV a b):=⟨fun w e q k=>h1.go w e q fun x M1 v H1 O1 ⟨c,e1,q1⟩ k1 w1 r1=>by
 subst e1
 refine ⟨c,yv r1,?_⟩
 cases c with
 | true=>exact h2.go w1 (e.ext k1) q1 fun c M2 v2 H2 O2 q2 k2 w2 r2=>k _ _ _ _ _ q2 (k1.trans k2) w2 r2
 | false=>exact k _ _ _ _ _ q1 k1 w1 .bl⟩
noncomputable def aIf (c:AT)(a b:AE):AE:=fun ρ M Q=>c ρ M fun c M1=>if c=true then a ρ M1 Q else b ρ M1 Q
theorem An {c:TT}{t u:TE}{ac:AT}{a b:AE}(hc:jZ c ac)(h1:zI t a)(h2:zI u b):zI (tIf c t u) (aIf ac a b):=⟨fun w e q k=>hc.go w e q fun c M1 H1 O1 q1 k1 w1=>by
 cases c with
 | true=>exact h1.go w1 (e.ext k1) q1 fun c M2 v2 H2 O2 q2 k2 w2 r2=>k _ _ _ _ _ q2 (k1.trans k2) w2 r2
 | false=>exact h2.go w1 (e.ext k1) q1 fun c M2 v2 H2 O2 q2 k2 w2 r2=>k _ _ _ _ _ q2 (k1.trans k2) w2 r2⟩
structure ED (H0:Hp)(O0:Own)(M0:MH)(D:xi)(D':qB):Prop where
 nx:∀ σ H O ρ M,Wf H O M->Er H O M σ ρ->Ext H0 O0 M0 H O M->D'.nx ρ M->D.nx σ H
 rt:∀ v x H O M,Wf H O M->Ext H0 O0 M0 H O M->zr H O M v x->D'.rt x M->D.rt v H
 bk:∀ σ H O ρ M,Wf H O M->Er H O M σ ρ->Ext H0 O0 M0 H O M->D'.bk ρ M->D.bk σ H
 ct:∀ σ H O ρ M,Wf H O M->Er H O M σ ρ->Ext H0 O0 M0 H O M->D'.ct ρ M->D.ct σ H
theorem ED.tr {H0 H1:Hp}{O0 O1:Own}{M0 M1:MH}{D:xi}{D':qB}(E:ED H0 O0 M0 D D')(k:Ext H0 O0 M0 H1 O1 M1):ED H1 O1 M1 D D':=
 ⟨fun σ H O ρ M w e x q=>E.nx σ H O ρ M w e (k.trans x) q,fun v y H O M w x r q=>E.rt v y H O M w (k.trans x) r q,fun σ H O ρ M w e x q=>E.bk σ H O ρ M w e (k.trans x) q,fun σ H O ρ M w e x q=>E.ct σ H O ρ M w e (k.trans x) q⟩
structure jc (t:TS)(a:AS):Prop where
 go:∀ {H0:Hp} {O0:Own} {M0:MH} {D:xi} {D':qB} {σ:St} {H:Hp} {O:Own} {ρ:ASt} {M:MH},Wf H0 O0 M0->Wf H O M->Er H O M σ ρ->Ext H0 O0 M0 H O M->a M0 D' ρ M->ED H0 O0 M0 D D'->t D σ H
noncomputable def jh:AS:=fun _ D ρ M=>D.nx ρ M
theorem K9:jc Yb jh:=⟨fun _ w e x q E=>E.nx _ _ _ _ _ w e x q⟩
noncomputable def ja (a b:AS):AS:=fun B D ρ M=>a B { D with nx:=b B D } ρ M
theorem VP {t u:TS}{a b:AS}(h1:jc t a)(h2:jc u b):jc (WZ t u) (ja a b):=
 ⟨fun w0 w e x q E=>h1.go w0 w e x q ⟨fun σ H O ρ M w e x q=>h2.go w0 w e x q E,E.rt,E.bk,E.ct⟩⟩
noncomputable def WD (a:AE):AS:=fun _ D ρ M=>a ρ M fun _ M1=>D.nx ρ M1
theorem K5 {t:TE}{a:AE}(h:zI t a):jc (Yf t) (WD a):=⟨fun _ w e x q E=>h.go w e q fun y M1 v H1 O1 q1 k1 w1 r1=>E.nx _ _ _ _ _ w1 (e.ext k1) (x.trans k1) q1⟩
noncomputable def Zn (a:AE):AS:=fun _ D ρ M=>a ρ M D.rt
theorem VZ {t:TE}{a:AE}(h:zI t a):jc (Al t) (Zn a):=⟨fun _ w e x q E=>h.go w e q fun y M1 v H1 O1 q1 k1 w1 r1=>E.rt _ _ _ _ _ w1 (x.trans k1) r1 q1⟩
noncomputable def jX (c:AT)(a b:AS):AS:=fun B D ρ M=>c ρ M fun k M1=>if k=true then a B D ρ M1 else b B D ρ M1
theorem VW {c:TT}{t u:TS}{ac:AT}{a b:AS}(hc:jZ c ac)(h1:jc t a)(h2:jc u b):jc (Bh c t u) (jX ac a b):=
 ⟨fun w0 w e x q E=>hc.go w e q fun k M1 H1 O1 q1 k1 w1=>by
  cases k with
  | true=>exact h1.go w0 w1 (e.ext k1) (x.trans k1) q1 E
  | false=>exact h2.go w0 w1 (e.ext k1) (x.trans k1) q1 E⟩
structure vk (g:TG)(a:AG):Prop where
 go:∀ {v:V} {x:AV} {σ:St} {H:Hp} {O:Own} {ρ:ASt} {M:MH} {Q:St->Hp->Prop} {Q':ASt->MH->Prop},Wf H O M->Er H O M σ ρ->zr H O M v x->a x ρ M Q' ->
  (∀ σ' H' O' ρ' M',Q' ρ' M'->Ext H O M H' O' M'->Wf H' O' M'->Er H' O' M' σ' ρ'->Q σ' H')->g v σ H Q
structure v4 (g:TGs)(a:AGs):Prop where
 go:∀ {v:List V} {x:List AV} {σ:St} {H:Hp} {O:Own} {ρ:ASt} {M:MH} {Q:St->Hp->Prop} {Q':ASt->MH->Prop},Wf H O M->Er H O M σ ρ->zf H O M v x->a x ρ M Q' ->
  (∀ σ' H' O' ρ' M',Q' ρ' M'->Ext H O M H' O' M'->Wf H' O' M'->Er H' O' M' σ' ρ'->Q σ' H')->g v σ H Q
noncomputable def jb (i:Nat):AG:=fun x ρ M Q=>Q (ρ.set i (some x)) M
theorem Jl {i:Nat}:vk (Zb i) (jb i):=⟨fun w e r q k=>k _ _ _ _ _ q .refl w (e.set r i)⟩
noncomputable def yz:AGs:=fun xs ρ M Q=>xs=[]/\Q ρ M
noncomputable def qZ (a:AG)(b:AGs):AGs:=fun xs ρ M Q=>∃ x r,xs=x :: r/\a x ρ M fun ρ' M'=>b r ρ' M' Q
theorem YU:v4 AW yz:=⟨fun w e r q k=>by obtain ⟨e1,q⟩:=q;subst e1;exact ⟨r.nil_inv,k _ _ _ _ _ q .refl w e⟩⟩
theorem J4 {g:TG}{u:TGs}{a:AG}{b:AGs}(h1:vk g a)(h2:v4 u b):v4 (Xm g u) (qZ a b):=⟨fun w e r q k=>by
 obtain ⟨x,r',e1,q⟩:=q;subst e1
 obtain ⟨v,vr,e2,rv,rr⟩:=r.cons_inv
 subst e2
 exact ⟨v,vr,rfl,h1.go w e rv q fun σ' H' O' ρ' M' q1 k1 w1 e1=>h2.go w1 e1 (rr.ext k1) q1 fun σ2 H2 O2 ρ2 M2 q2 k2 w2 e2=>k _ _ _ _ _ q2 (k1.trans k2) w2 e2⟩⟩
noncomputable def Qj (n:Nat)(b:AGs):AG:=fun x ρ M Q=>∃ l,x=.d (.tup l)/\l.length=n/\b (l.map .d) ρ M Q
theorem Kj {K:PySem.W.Frag}{n:Nat}{u:TGs}{b:AGs}(h:v4 u b):vk (Xe K n u) (Qj n b):=⟨fun {v x σ H O ρ M Q Q'} w e r q k=>by
 obtain ⟨l,e1,ln,q⟩:=q;subst e1
 cases (show Rep H O v (.tup l) from r) with
 | @tup a xs _ o1 h1 l1 r1=>exact ⟨a,xs,rfl,SqT.of h1,l1.trans ln,h.go w e (Jv.av ⟨l1,r1⟩) q k⟩⟩
noncomputable def qe (x:AV)(M:MH):Option (List AV):=match x with
 | .d (.lst l)=>some (l.map .d)
 | .ref a=>match M a with
  | some (.lst l)=>some l
  | _=>none
 | _=>none
noncomputable def W4 (x:AV):Option (List AV):=match x with
 | .d (.tup l)=>some (l.map .d)
 | _=>none
noncomputable def zQ (x:AV)(M:MH):Option (List AV):=match x with
 | .d (.lst l)=>some (l.map .d)
 | .d (.tup l)=>some (l.map .d)
 | .ref a=>match M a with
  | some (.lst l)=>some l
  | _=>none
 | _=>none
theorem Zk (l:List Dat)(M:MH):qe (.d (.lst l)) M=some (l.map .d):=rfl
theorem Bu (l:List Dat):W4 (.d (.tup l))=some (l.map .d):=rfl
theorem jL (l:List Dat)(M:MH):zQ (.d (.lst l)) M=some (l.map .d):=rfl
theorem ZY (l:List Dat)(M:MH):zQ (.d (.tup l)) M=some (l.map .d):=rfl
theorem qM {a:Addr}{M:MH}{l:List AV}(h:M a=some (.lst l)):qe (.ref a) M=some l:=by unfold qe;dsimp only;rw [h]
theorem qc {a:Addr}{M:MH}{l:List AV}(h:M a=some (.lst l)):zQ (.ref a) M=some l:=by unfold zQ;dsimp only;rw [h]
theorem kO {x:AV}{M:MH}{l:List AV}(h:qe x M=some l):(∃ m,x=.d (.lst m)/\l=m.map .d) \/ ∃ a,x=.ref a/\M a=some (.lst l):=by
 cases x with
 | d x=>
  cases x with
  | lst m=>cases h;exact .inl ⟨m,rfl,rfl⟩
  | _=>cases h
 | ref a=>
  unfold qe at h
  dsimp only at h
  cases e:M a with
  | none=>rw [e] at h;cases h
  | some o=>
   rw [e] at h
   cases o with
   | lst m=>cases h;exact .inr ⟨a,rfl,e⟩
   | _=>cases h
theorem qX {x:AV}{M:MH}{l:List AV}(h:zQ x M=some l):qe x M=some l \/ ∃ m,x=.d (.tup m)/\l=m.map .d:=by
 cases x with
 | d x=>
  cases x with
  | lst m=>cases h;exact .inl rfl
  | tup m=>cases h;exact .inr ⟨m,rfl,rfl⟩
  | _=>cases h
 | ref a=>exact .inl h
theorem qy {H:Hp}{O:Own}{M:MH}{v:V}{x:AV}{l:List AV}(w:Wf H O M)(r:zr H O M v x)(h:qe x M=some l):∃ a xs,v=.ref a/\H a=some (.lst xs)/\zf H O M xs l:=by
 rcases kO h with ⟨m,rfl,rfl⟩ | ⟨a,rfl,e⟩
 ·cases (show Rep H O v (.lst m) from r) with
  | @lst a xs _ o1 h1 l1 r1=>exact ⟨a,xs,rfl,h1,Jv.av ⟨l1,r1⟩⟩
 ·obtain ⟨xs,h1,r1⟩:=w.mo a _ e
  exact ⟨a,xs,r.1,h1,r1⟩
theorem qK {H:Hp}{O:Own}{M:MH}{v:V}{x:AV}{l:List AV}(r:zr H O M v x)(h:W4 x=some l):∃ a xs,v=.ref a/\H a=some (.tup xs)/\zf H O M xs l:=by
 cases x with
 | ref a=>cases h
 | d x=>
  cases x with
  | tup m=>
   cases h
   cases (show Rep H O v (.tup m) from r) with
   | @tup a xs _ o1 h1 l1 r1=>exact ⟨a,xs,rfl,h1,Jv.av ⟨l1,r1⟩⟩
  | _=>cases h
theorem xS {H:Hp}{O:Own}{M:MH}{v:V}{x:AV}{l:List AV}(w:Wf H O M)(r:zr H O M v x)(h:zQ x M=some l):∃ a xs,v=.ref a/\(H a=some (.lst xs) \/ H a=some (.tup xs))/\zf H O M xs l:=by
 rcases qX h with e | ⟨m,rfl,rfl⟩
 ·obtain ⟨a,xs,h1,h2,h3⟩:=qy w r e;exact ⟨a,xs,h1,.inl h2,h3⟩
 ·obtain ⟨a,xs,h1,h2,h3⟩:=qK (l:=m.map .d) r rfl;exact ⟨a,xs,h1,.inr h2,h3⟩
structure Yu (t:Yr)(a:AV->AV->AV->MH->(MH->Prop)->Prop):Prop where
 go:∀ {o i v:V} {ao ai av:AV} {H:Hp} {O:Own} {M:MH} {Q:Hp->Prop} {Q':MH->Prop},Wf H O M->zr H O M o ao->zr H O M i ai->zr H O M v av->a ao ai av M Q'->(∀ M' H' O',Q' M'->Ext H O M H' O' M'->Wf H' O' M'->Q H')->t o i v H Q
noncomputable def ko (a b:AE)(s:AV->AV->AV->MH->(MH->Prop)->Prop):AG:=fun x ρ M Q=>a ρ M fun o M1=>b ρ M1 fun i M2=>s o i x M2 fun M3=>Q ρ M3
theorem Xd {to ti:TE}{t:Yr}{a b:AE}{s:AV->AV->AV->MH->(MH->Prop)->Prop}(h1:zI to a)(h2:zI ti b)(h3:Yu t s):vk (AU to ti t) (ko a b s):=⟨fun w e r q k=>
 h1.go w e q fun x M1 v H1 O1 q1 k1 w1 r1=>h2.go w1 (e.ext k1) q1 fun y M2 u H2 O2 q2 k2 w2 r2=>h3.go w2 (r1.ext k2) r2 (r.ext (k1.trans k2)) q2 fun M3 H3 O3 q3 k3 w3=>k _ _ _ _ _ q3 ((k1.trans k2).trans k3) w3 (e.ext ((k1.trans k2).trans k3))⟩
theorem qU {M:MH}{p:Addr}{o:MO}(h:M p=some o):M p ≠ none:=by rw [h];exact fun z=>nomatch z
noncomputable def asL:AV->AV->AV->MH->(MH->Prop)->Prop:=fun o i v M Q=>∃ p l k j,o=.ref p/\i=.d (.int k)/\M p=some (.lst l)/\ixN l.length k=some j/\Q (mup M p (.lst (l.set j v)))
theorem KA:Yu Zx asL:=⟨fun w ro ri rv q k=>by
 obtain ⟨p,l,n,j,rfl,rfl,hm,hj,q⟩:=q
 obtain ⟨xs,hx,rx⟩:=w.mo p _ hm
 have np:=qU hm
 refine ⟨n,zY ri,p,ro.1,xs,hx,j,by rw [rx.1];exact hj,k _ _ _ q (jN w np _ _) (Zp w np (fun _ z=>nomatch z) ⟨_,zp,(rx.set rv j).ext (jN w np _ _)⟩)⟩⟩
noncomputable def J0 (a:AE)(g:AG):AS:=fun _ D ρ M=>a ρ M fun x M1=>g x ρ M1 D.nx
theorem VY {t:TE}{g:TG}{a:AE}{ag:AG}(h:zI t a)(hg:vk g ag):jc (J8 t g) (J0 a ag):=⟨fun _ w e x q E=>h.go w e q fun y M1 v H1 O1 q1 k1 w1 r1=>hg.go w1 (e.ext k1) r1 q1 fun σ2 H2 O2 ρ2 M2 q2 k2 w2 e2=>E.nx _ _ _ _ _ w2 e2 ((x.trans k1).trans k2) q2⟩
noncomputable def AY (i j:Nat)(a:AA):AS:=fun _ D ρ M=>a ρ M fun xs M1=>∃ x y,xs=[x,y]/\D.nx ((ρ.set i (some x)).set j (some y)) M1
theorem V4 {i j:Nat}{t:TA}{a:AA}(h:jI t a):jc (Bj i j t) (AY i j a):=⟨fun _ w e x q E=>h.go w e q fun ys M1 vs H1 O1 q1 k1 w1 r1=>by
 obtain ⟨y,z,rfl,q2⟩:=q1
 obtain ⟨v1,r',rfl,a1,r2⟩:=r1.cons_inv
 obtain ⟨v2,r',rfl,a2,r3⟩:=r2.cons_inv
 rw [r3.nil_inv]
 exact ⟨v1,v2,rfl,E.nx _ _ _ _ _ w1 (((e.ext k1).set a1 i).set a2 j) (x.trans k1) q2⟩⟩
noncomputable def WF (i j m:Nat)(a:AA):AS:=fun _ D ρ M=>a ρ M fun xs M1=>∃ x y z,xs=[x,y,z]/\D.nx (((ρ.set i (some x)).set j (some y)).set m (some z)) M1
theorem Kg {i j m:Nat}{t:TA}{a:AA}(h:jI t a):jc (XG i j m t) (WF i j m a):=⟨fun _ w e x q E=>h.go w e q fun ys M1 vs H1 O1 q1 k1 w1 r1=>by
 obtain ⟨y,z,u,rfl,q2⟩:=q1
 obtain ⟨v1,r',rfl,a1,r2⟩:=r1.cons_inv
 obtain ⟨v2,r',rfl,a2,r3⟩:=r2.cons_inv
 obtain ⟨v3,r',rfl,a3,r4⟩:=r3.cons_inv
 rw [r4.nil_inv]
 exact ⟨v1,v2,v3,rfl,E.nx _ _ _ _ _ w1 ((((e.ext k1).set a1 i).set a2 j).set a3 m) (x.trans k1) q2⟩⟩
structure Ea (t:TIp)(a:AR2):Prop where
 go:∀ {x y:V} {dx dy:AV} {H:Hp} {O:Own} {M:MH} {Q:VK} {Q':AK},Wf H O M->zr H O M x dx->zr H O M y dy->a dx dy M Q'->(∀ x M' v H' O',Q' x M'->Ext H O M H' O' M'->Wf H' O' M'->zr H' O' M' v x->Q v H')->t x y H Q
noncomputable def Xt (c:AT)(b:AS):AS:=fun B D ρ M=>∃ W:Nat->ASt->MH->Prop,(∃ m,W m ρ M)/\∀ m ρ M,W m ρ M->c ρ M fun k M1=>if k=true then b B { D with nx:=fun ρ' M'=>∃ m',m'<m/\W m' ρ' M',ct:=fun ρ' M'=>∃ m',m'<m/\W m' ρ' M',bk:=D.nx } ρ M1 else D.nx ρ M1
theorem Jz {c:TT}{t:TS}{ac:AT}{a:AS}(hc:jZ c ac)(h:jc t a):jc (K8 c t) (Xt ac a):=⟨fun {H0 O0 M0 D D' σ H O ρ M} w0 w e x q E=>by
 obtain ⟨W,⟨m,h0⟩,st⟩:=q
 refine ⟨fun m σ H=>∃ O ρ M,Wf H O M/\Er H O M σ ρ/\Ext H0 O0 M0 H O M/\W m ρ M,⟨m,O,ρ,M,w,e,x,h0⟩,?_⟩
 rintro m σ H ⟨O,ρ,M,w,e,x,hw⟩
 refine hc.go w e (st m ρ M hw) fun k M1 H1 O1 q1 k1 w1=>?_
 cases k with
 | false=>exact E.nx _ _ _ _ _ w1 (e.ext k1) (x.trans k1) q1
 | true=>exact ⟨fun σ' H'=>∃ m',m'<m/\∃ O ρ M,Wf H' O M/\Er H' O M σ' ρ/\Ext H0 O0 M0 H' O M/\W m' ρ M,fun σ' H' z=>z,h.go w0 w1 (e.ext k1) (x.trans k1) q1 ⟨fun σ H O ρ M w e x ⟨m',hm,hw⟩=>⟨m',hm,O,ρ,M,w,e,x,hw⟩,E.rt,E.nx,fun σ H O ρ M w e x ⟨m',hm,hw⟩=>⟨m',hm,O,ρ,M,w,e,x,hw⟩⟩⟩⟩
noncomputable def yr (J:It)(H:Hp)(O:Own)(M:MH)(l:List AV)(G:MH->Prop):Prop:=
 ∀ (H':Hp) (O':Own) (M':MH),(∀ a o,¬ O a->H a=some o->H' a=some o/\¬ O' a)->(∀ a,M a ≠ none->M' a ≠ none)->Wf H' O' M'->G M'->∀ i:Nat,(i=l.length->J.stop i H') /\
  ∀ y,l[i]?=some y->J.go i H'/\∀ x H'',J.yld i H' x H''->Ext H' O' M' H'' O' M'/\Wf H'' O' M'/\zr H'' O' M' x y
structure JE (wi:TI)(ai:AI):Prop where
 go:∀ {σ:St} {H:Hp} {O:Own} {ρ:ASt} {M:MH} {R:It->Hp->Prop} {R':List AV->(MH->Prop)->MH->Prop},Wf H O M->Er H O M σ ρ->ai ρ M R'->(∀ l G M' J H' O',R' l G M'->Ext H O M H' O' M'->Wf H' O' M'->yr J H' O' M' l G->R J H')->wi σ H R
noncomputable def BU (ag:AG)(ab:AS)(B:MH)(D:qB)(G:MH->Prop)(l:List AV)(ρ:ASt)(M:MH):Prop:=
 ∃ Pv:Nat->ASt->MH->Prop,Pv 0 ρ M/\(∀ i x ρ M,l[i]?=some x->Pv i ρ M->G M/\ag x ρ M fun ρ' M'=>ab B { D with nx:=Pv (i+1),ct:=Pv (i+1),bk:=D.nx } ρ' M')/\∀ ρ M,Pv l.length ρ M->G M/\D.nx ρ M
noncomputable def A9 (ai:AI)(ag:AG)(ab:AS):AS:=fun _ D ρ M=>ai ρ M fun l G M1=>BU ag ab M1 D G l ρ M1
theorem Wv {wi:TI}{g:TG}{t:TS}{ai:AI}{ag:AG}{ab:AS}(hi:JE wi ai)(hg:vk g ag)(hb:jc t ab):jc (WX wi g t) (A9 ai ag ab):=⟨fun {H0 O0 M0 D D' σ H O ρ M} w0 w e x q E=>by
 rw [Qu]
 refine hi.go w e q fun l G M1 J H1 O1 q1 k1 w1 hj=>?_
 have E1:=E.tr (x.trans k1)
 obtain ⟨Pv,p0,ps,pd⟩:=q1
 refine ⟨fun i m σ H=>m=l.length - i/\i<=l.length/\∃ O ρ M,Wf H O M/\Er H O M σ ρ/\Ext H1 O1 M1 H O M/\Pv i ρ M,⟨l.length,by simp,Nat.zero_le _,O1,ρ,M1,w1,e.ext k1,.refl,p0⟩,?_⟩
 rintro i m σ H ⟨rfl,hi,O,ρ,M,w,e,x,hf⟩
 by_cases hil:i<l.length
 ·have hy:l[i]?=some l[i]:=List.getElem?_eq_getElem hil
  obtain ⟨hG,q2⟩:=ps i l[i] ρ M hy hf
  obtain ⟨j1,j2⟩:=(hj H O M x.fix x.mst w hG i).2 l[i] hy
  refine .inr ⟨j1,fun σ' H'=>∃ O ρ M,Wf H' O M/\Er H' O M σ' ρ/\Ext H1 O1 M1 H' O M/\Pv (i+1) ρ M,fun σ' H' z=>⟨l.length - (i+1),by omega,rfl,hil,z⟩,fun v H' hv=>?_⟩
  obtain ⟨k2,w2,r2⟩:=j2 v H' hv
  refine hg.go w2 (e.ext k2) r2 q2 fun σ3 H3 O3 ρ3 M3 q3 k3 w3 e3=>?_
  exact hb.go w1 w3 e3 ((x.trans k2).trans k3) q3 ⟨fun σ H O ρ M w e x q=>⟨O,ρ,M,w,e,x,q⟩,E1.rt,E1.nx,fun σ H O ρ M w e x q=>⟨O,ρ,M,w,e,x,q⟩⟩
 ·have e0:i=l.length:=by omega
  subst e0
  obtain ⟨hG,q2⟩:=pd ρ M hf
  exact .inl ⟨(hj H O M x.fix x.mst w hG l.length).1 rfl,E1.nx _ _ _ _ _ w e x q2⟩⟩
theorem kM {H H1:Hp}{O O1:Own}{M M1:MH}(w1:Wf H1 O1 M1)(k1:Ext H O M H1 O1 M1){p:Addr}(hp:H1 p=none):H p=none:=by
 cases e0:H p with
 | none=>rfl
 | some o=>
  exfalso
  by_cases c:O p
  ·by_cases c2:M p=none
   ·exact w1.ne p (k1.prv p c c2).2.1 hp
   ·exact w1.ne p (w1.own p (k1.mst p c2)) hp
  ·rw [(k1.fix p o c e0).1] at hp;cases hp
theorem J5 {K:PySem.W.Frag}{H:Hp}{O:Own}{M:MH}{a:Addr}{x:AV}{l:List AV}(r:zr H O M (.ref a) x)(h:qe x M=some l):yr (Itl K a) H O M l (fun M'=>qe x M'=some l):=by
 intro H' O' M' fix mst w' hG i
 obtain ⟨a',xs,e,h1,r1⟩:=qy w' (r.imp fix mst) hG
 cases e
 refine ⟨fun e=>⟨xs,SqL.of h1,by rw [r1.1];omega⟩,fun y hy=>?_⟩
 obtain ⟨v,hv,rv⟩:=r1.get hy
 refine ⟨⟨xs,v,SqL.of h1,hv⟩,fun z H'' hz=>?_⟩
 obtain ⟨e1,e2⟩:=hz
 subst e1
 have:=e2 xs (SqL.of h1)
 rw [hv] at this;cases this
 exact ⟨.refl,w',rv⟩
theorem Xj {K:PySem.W.Frag}{H:Hp}{O:Own}{M:MH}{a:Addr}{x:AV}{l:List AV}(r:zr H O M (.ref a) x)(h:W4 x=some l):yr (Itt K a) H O M l (fun _=>True):=by
 intro H' O' M' fix mst w' hG i
 obtain ⟨a',xs,e,h1,r1⟩:=qK (r.imp fix mst) h
 cases e
 refine ⟨fun e=>⟨xs,SqT.of h1,by rw [r1.1];omega⟩,fun y hy=>?_⟩
 obtain ⟨v,hv,rv⟩:=r1.get hy
 refine ⟨⟨xs,v,SqT.of h1,hv⟩,fun z H'' hz=>?_⟩
 obtain ⟨e1,e2⟩:=hz
 subst e1
 have:=e2 xs (SqT.of h1)
 rw [hv] at this;cases this
 exact ⟨.refl,w',rv⟩
noncomputable def aiS (a:AE):AI:=fun ρ M R=>a ρ M fun x M1=>∃ l,zQ x M1=some l/\R l (fun M'=>zQ x M'=some l) M1
theorem yr.mono {J:It}{H:Hp}{O:Own}{M:MH}{l:List AV}{G G':MH->Prop}(h:yr J H O M l G)(k:∀ M,G' M->G M):yr J H O M l G':=fun H' O' M' fix mst w' hG=>h H' O' M' fix mst w' (k _ hG)
theorem Ag {K:PySem.W.Frag}{t:TE}{a:AE}(h:zI t a):JE (iLT K t) (aiS a):=⟨fun w e q k=>h.go w e q fun x M1 v H1 O1 ⟨l,hl,q1⟩ k1 w1 r1=>by
 rcases qX hl with hl' | ⟨m,rfl,rfl⟩
 ·obtain ⟨a,xs,rfl,h1,_⟩:=qy w1 r1 hl'
  refine ⟨a,rfl,.inl ⟨⟨xs,SqL.of h1⟩,k _ _ _ _ _ _ q1 k1 w1 ((J5 r1 hl').mono fun M hM=>?_)⟩⟩
  rcases qX hM with z | ⟨m,rfl,rfl⟩
  ·exact z
  ·cases hl'
 ·obtain ⟨a,xs,rfl,h1,_⟩:=qK (l:=m.map .d) r1 rfl
  exact ⟨a,rfl,.inr ⟨⟨xs,SqT.of h1⟩,k _ _ _ _ _ _ q1 k1 w1 ((Xj r1 rfl).mono fun _ _=>trivial)⟩⟩⟩
noncomputable def vn (lo c:Int)(n:Nat):List AV:=(List.range n).map fun (k:Nat)=>.d (.int (lo+(k:Int) * c))
theorem jV (lo c:Int)(n:Nat):(vn lo c n).length=n:=by simp [vn]
theorem jY {lo c:Int}{n i:Nat}{y:AV}(h:(vn lo c n)[i]?=some y):i<n/\y=.d (.int (lo+(i:Int) * c)):=by
 have hi:=(List.getElem?_eq_some_iff.mp h).1
 rw [jV] at hi
 unfold vn at h
 rw [List.getElem?_map,List.getElem?_range hi] at h
 cases h
 exact ⟨hi,rfl⟩
theorem XD {H:Hp}{O:Own}{M:MH}(lo:Int)(n:Nat):yr (Itr lo n) H O M (vn lo 1 n) (fun _=>True):=by
 intro H' O' M' fix mst w' hG i
 refine ⟨fun e=>by rw [jV] at e;exact Nat.le_of_eq e.symm,fun y hy=>?_⟩
 obtain ⟨hi,rfl⟩:=jY hy
 refine ⟨hi,fun z H'' hz=>?_⟩
 obtain ⟨rfl,rfl⟩:=hz
 rw [Int.mul_one]
 exact ⟨.refl,w',.int⟩
noncomputable def Du (a:AA):AI:=fun ρ M R=>a ρ M fun xs M1=>∃ j:Int,xs=[.d (.int j)]/\-(2 ^ 62)<=j/\j<2 ^ 62/\R (vn 0 1 j.toNat) (fun _=>True) M1
theorem YX {t:TA}{a:AA}(h:jI t a):JE (KN t) (Du a):=⟨fun w e q k=>h.go w e q fun x M1 v H1 O1 ⟨j,e1,j1,j2,q1⟩ k1 w1 r1=>by
 subst e1
 obtain ⟨v1,r',rfl,a1,r2⟩:=r1.cons_inv
 rw [r2.nil_inv,zY a1]
 exact ⟨j,rfl,j1,j2,k _ _ _ _ _ _ q1 k1 w1 (XD _ _)⟩⟩
theorem wO {H:Hp}{O:Own}{M:MH}(w:Wf H O M){p:Addr}(hp:H p=none){x y:V}{d e:Dat}(r1:Rep H O x d)(r2:Rep H O y e):Ext H O M (upd H p (.tup [x,y])) O M/\Wf (upd H p (.tup [x,y])) O M/\zr (upd H p (.tup [x,y])) O M (.ref p) (.d (.tup [d,e])):=
 ⟨qh w hp _,jK w hp _,Rep.tup (w.fresh hp).1 zp rfl fun i z f h1 h2=>by
  match i,h1,h2 with
  | 0,h1,h2=>cases h1;cases h2;exact r1.ext (qh w hp _)
  | 1,h1,h2=>cases h1;cases h2;exact r2.ext (qh w hp _)
  | (i+2),h1,_=>cases h1⟩
noncomputable def vR (m n:List Dat):List AV:=(List.range (min m.length n.length)).map fun (i:Nat)=>.d (.tup [m.getD i .non,n.getD i .non])
theorem jS (m n:List Dat):(vR m n).length=min m.length n.length:=by simp [vR]
theorem xV {m n:List Dat}{i:Nat}{y:AV}(h:(vR m n)[i]?=some y):∃ d e,m[i]?=some d/\n[i]?=some e/\y=.d (.tup [d,e]):=by
 have hi:=(List.getElem?_eq_some_iff.mp h).1
 rw [jS] at hi
 unfold vR at h
 rw [List.getElem?_map,List.getElem?_range hi] at h
 cases h
 have h1:i<m.length:=by omega
 have h2:i<n.length:=by omega
 exact ⟨m[i],n[i],List.getElem?_eq_getElem h1,List.getElem?_eq_getElem h2,by dsimp only;rw [List.getD_eq_getElem?_getD,List.getElem?_eq_getElem h1,List.getD_eq_getElem?_getD,List.getElem?_eq_getElem h2];rfl⟩
theorem KR {K:PySem.W.Frag}{H:Hp}{O:Own}{M:MH}{a b:Addr}{x y:AV}{m n:List Dat}(r:zr H O M (.ref a) x)(h:qe x M=some (m.map .d))(r':zr H O M (.ref b) y)(h':qe y M=some (n.map .d)):yr (Itz K a b) H O M (vR m n) (fun M'=>qe x M'=some (m.map .d)/\qe y M'=some (n.map .d)):=by
 intro H' O' M' fix mst w' hG i
 obtain ⟨a',xs,e,h1,r1⟩:=qy w' (r.imp fix mst) hG.1
 cases e
 obtain ⟨b',ys,e,h2,r2⟩:=qy w' (r'.imp fix mst) hG.2
 cases e
 have l1:=r1.1
 have l2:=r2.1
 rw [List.length_map] at l1 l2
 refine ⟨fun e=>⟨xs,ys,SqL.of h1,SqL.of h2,by rw [jS] at e;omega⟩,fun z hz=>?_⟩
 obtain ⟨d,f,hd,hf,rfl⟩:=xV hz
 obtain ⟨v,hv,rv⟩:=r1.get (i:=i) (d:=.d d) (by rw [List.getElem?_map,hd];rfl)
 obtain ⟨u,hu,ru⟩:=r2.get (i:=i) (d:=.d f) (by rw [List.getElem?_map,hf];rfl)
 refine ⟨⟨xs,ys,v,u,SqL.of h1,SqL.of h2,hv,hu⟩,fun z H'' hz=>?_⟩
 obtain ⟨p,x',y',hp,rfl,e2,e3,rfl⟩:=hz
 have:=e2 xs (SqL.of h1)
 rw [hv] at this;cases this
 have:=e3 ys (SqL.of h2)
 rw [hu] at this;cases this
 exact wO w' hp rv ru
theorem JJ {K:PySem.W.Frag}{H:Hp}{O:Own}{M:MH}{a b:Addr}{m n:List Dat}(hmn:m.length<=n.length)(r:zr H O M (.ref a) (.d (.tup m)))(r':zr H O M (.ref b) (.d (.tup n))):yr (Bp K a b) H O M (vR m n) (fun _=>True):=by
 intro H' O' M' fix mst w' hG i
 obtain ⟨a',xs,e,h1,r1⟩:=qK (l:=m.map .d) (r.imp fix mst) rfl
 cases e
 obtain ⟨b',ys,e,h2,r2⟩:=qK (l:=n.map .d) (r'.imp fix mst) rfl
 cases e
 have l1:=r1.1
 have l2:=r2.1
 rw [List.length_map] at l1 l2
 refine ⟨fun e=>⟨xs,SqT.of h1,by rw [jS] at e;omega⟩,fun z hz=>?_⟩
 obtain ⟨d,f,hd,hf,rfl⟩:=xV hz
 obtain ⟨v,hv,rv⟩:=r1.get (i:=i) (d:=.d d) (by rw [List.getElem?_map,hd];rfl)
 obtain ⟨u,hu,ru⟩:=r2.get (i:=i) (d:=.d f) (by rw [List.getElem?_map,hf];rfl)
 refine ⟨⟨xs,ys,v,u,SqT.of h1,SqT.of h2,hv,hu⟩,fun z H'' hz=>?_⟩
 obtain ⟨p,x',y',hp,rfl,e2,e3,rfl⟩:=hz
 have:=e2 xs (SqT.of h1)
 rw [hv] at this;cases this
 have:=e3 ys (SqT.of h2)
 rw [hu] at this;cases this
 exact wO w' hp rv ru
noncomputable def AH (a:AA):AI:=fun ρ M R=>a ρ M fun xs M1=>∃ x y m n,xs=[x,y]/\((qe x M1=some (List.map AV.d m)/\qe y M1=some (List.map AV.d n)) \/ (x=.d (.tup m)/\y=.d (.tup n)/\m.length<=n.length))/\R (vR m n) (fun M'=>qe x M'=qe x M1/\qe y M'=qe y M1) M1
theorem Vo {K:PySem.W.Frag}{t:TA}{a:AA}(h:jI t a):JE (ZT K t) (AH a):=⟨fun w e q k=>h.go w e q fun xs M1 v H1 O1 ⟨x,y,m,n,e1,hxy,q1⟩ k1 w1 r1=>by
 subst e1
 obtain ⟨v1,r',rfl,a1,r2⟩:=r1.cons_inv
 obtain ⟨v2,r',rfl,a2,r3⟩:=r2.cons_inv
 rw [r3.nil_inv]
 rcases hxy with ⟨hx,hy⟩ | ⟨rfl,rfl,hmn⟩
 ·obtain ⟨a,xs,rfl,h1,_⟩:=qy w1 a1 hx
  obtain ⟨b,ys,rfl,h2,_⟩:=qy w1 a2 hy
  exact ⟨a,b,rfl,.inl ⟨⟨xs,SqL.of h1⟩,⟨ys,SqL.of h2⟩,k _ _ _ _ _ _ q1 k1 w1 ((KR a1 hx a2 hy).mono fun _ z=>⟨z.1.trans hx,z.2.trans hy⟩)⟩⟩
 ·obtain ⟨a,xs,rfl,h1,_⟩:=qK (l:=m.map .d) a1 rfl
  obtain ⟨b,ys,rfl,h2,_⟩:=qK (l:=n.map .d) a2 rfl
  exact ⟨a,b,rfl,.inr ⟨⟨xs,SqT.of h1⟩,⟨ys,SqT.of h2⟩,k _ _ _ _ _ _ q1 k1 w1 ((JJ hmn a1 a2).mono fun _ _=>trivial)⟩⟩⟩
structure xC (D:Addr)(H:Hp)(O:Own)(M:MH)(H':Hp)(O':Own)(M':MH):Prop where
 fix:∀ a o,¬ O a->H a=some o->H' a=some o/\¬ O' a
 prv:∀ a,a ≠ D->O a->M a=none->H' a=H a/\O' a/\M' a=none
 mst:∀ a,M a ≠ none->M' a ≠ none
theorem Ext.x {D:Addr}{H H':Hp}{O O':Own}{M M':MH}(k:Ext H O M H' O' M'):xC D H O M H' O' M':=⟨k.fix,fun a _=>k.prv a,k.mst⟩
theorem xC.trans {D:Addr}{H H1 H2:Hp}{O O1 O2:Own}{M M1 M2:MH}(a:xC D H O M H1 O1 M1)(b:xC D H1 O1 M1 H2 O2 M2):xC D H O M H2 O2 M2:=
 ⟨fun x o h e=>let ⟨e1,h1⟩:=a.fix x o h e;b.fix x o h1 e1,fun x hx h e=>by
  obtain ⟨e1,h1,n1⟩:=a.prv x hx h e
  obtain ⟨e2,h2,n2⟩:=b.prv x hx h1 n1
  exact ⟨e2.trans e1,h2,n2⟩,fun x h=>b.mst x (a.mst x h)⟩
theorem xC.set {D:Addr}{H:Hp}{O:Own}{M:MH}(hO:O D)(o:HO):xC D H O M (upd H D o) O M:=⟨xH hO o,fun a ha h e=>⟨zi ha,h,e⟩,fun _ h=>h⟩
theorem Er.imp {H H':Hp}{O O':Own}{M M':MH}{σ:St}{ρ:ASt}(e:Er H O M σ ρ)(k:∀ a o,¬ O a->H a=some o->H' a=some o/\¬ O' a)(hm:∀ a,M a ≠ none->M' a ≠ none):Er H' O' M' σ ρ:=⟨e.len,fun i x h=>let ⟨v,h1,h2⟩:=e.get i x h;⟨v,h1,h2.imp k hm⟩⟩
noncomputable abbrev ATR:=List AV->ASt->MH->(List AV->ASt->MH->Prop)->Prop
structure Q3 (D:Addr)(tr:TR)(a:ATR):Prop where
 go:∀ {σ:St} {H:Hp} {O:Own} {ρ:ASt} {M:MH} {acc:List AV} {ys:List V} {N:St->Hp->Prop} {N':List AV->ASt->MH->Prop},Wf H O M->Er H O M σ ρ->O D->M D=none->H D=some (.lst ys)->zf H O M ys acc->a acc ρ M N' ->
  (∀ acc' ρ' M' σ' H' O' ys',N' acc' ρ' M'->xC D H O M H' O' M'->Wf H' O' M'->Er H' O' M' σ' ρ'->O' D->M' D=none->H' D=some (.lst ys')->zf H' O' M' ys' acc'->N σ' H')->tr σ H N
noncomputable def ku (a:AE):ATR:=fun acc ρ M N=>a ρ M fun x M1=>acc.length<sizeLine/\N (acc ++ [x]) ρ M1
theorem wr {D:Addr}{t:TE}{a:AE}(h:zI t a):Q3 D (Qc t D) (ku a):=⟨fun {σ H O ρ M acc ys N N'} w e o m hd r q k=>h.go w e q fun x M1 v H1 O1 ⟨q0,q1⟩ k1 w1 r1=>by
 obtain ⟨e1,o1,m1⟩:=k1.prv D o m
 have r':=r.ext k1
 refine ⟨ys,e1.trans hd,by rw [r.1];exact q0,k _ _ _ _ _ _ (ys ++ [v]) q1 (k1.x.trans (xC.set o1 _)) (ZU w1 o1 m1 (e1.trans hd) _ (fun _ z=>nomatch z)) ((e.ext k1).imp (xH o1 _) (fun _ z=>z)) o1 m1 zp ((r'.snoc r1).imp (xH o1 _) (fun _ z=>z))⟩⟩
noncomputable def wk (ag:AG)(at_:AT)(tr:ATR)(G:MH->Prop)(N:List AV->ASt->MH->Prop)(l acc:List AV)(ρ:ASt)(M:MH):Prop:=
 ∃ Pv:Nat->List AV->ASt->MH->Prop,Pv 0 acc ρ M/\(∀ i x acc ρ M,l[i]?=some x->Pv i acc ρ M->G M/\ag x ρ M fun ρ2 M2=>at_ ρ2 M2 fun b M3=>if b=true then tr acc ρ2 M3 (Pv (i+1)) else Pv (i+1) acc ρ2 M3)/\∀ acc ρ M,Pv l.length acc ρ M->G M/\N acc ρ M
theorem AN {D:Addr}{g:TG}{tt:TT}{tr:TR}{ag:AG}{at_:AT}{atr:ATR}(hg:vk g ag)(ht:jZ tt at_)(hr:Q3 D tr atr){J:It}{H1:Hp}{O1:Own}{M1:MH}{l:List AV}{G:MH->Prop}(hj:yr J H1 O1 M1 l G){N':List AV->ASt->MH->Prop}{N:St->Hp->Prop}
  {σ:St} {ρ:ASt} {acc:List AV} {ys:List V} (w:Wf H1 O1 M1) (e:Er H1 O1 M1 σ ρ) (o:O1 D) (m:M1 D=none) (hd:H1 D=some (.lst ys)) (r:zf H1 O1 M1 ys acc) (q:wk ag at_ atr G N' l acc ρ M1)
  (k:∀ acc' ρ' M' σ' H' O' ys',N' acc' ρ' M'->xC D H1 O1 M1 H' O' M'->Wf H' O' M'->Er H' O' M' σ' ρ'->O' D->M' D=none->H' D=some (.lst ys')->zf H' O' M' ys' acc'->N σ' H'):CL J g tt tr N σ H1:=by
 obtain ⟨Pv,p0,ps,pd⟩:=q
 refine ⟨fun i n σ H=>n=l.length - i/\i<=l.length/\∃ O ρ M acc ys,Wf H O M/\Er H O M σ ρ/\xC D H1 O1 M1 H O M/\O D/\M D=none/\H D=some (.lst ys)/\zf H O M ys acc/\Pv i acc ρ M,
  ⟨l.length,by simp,Nat.zero_le _,O1,ρ,M1,acc,ys,w,e,Ext.refl.x,o,m,hd,r,p0⟩,?_⟩
 rintro i n σ H ⟨rfl,hi,O,ρ,M,acc,ys,w,e,x,o,m,hd,r,hf⟩
 by_cases hil:i<l.length
 ·have hy:l[i]?=some l[i]:=List.getElem?_eq_getElem hil
  obtain ⟨hG,q2⟩:=ps i l[i] acc ρ M hy hf
  obtain ⟨j1,j2⟩:=(hj H O M x.fix x.mst w hG i).2 l[i] hy
  refine .inr ⟨j1,fun σ' H'=>∃ O ρ M acc ys,Wf H' O M/\Er H' O M σ' ρ/\xC D H1 O1 M1 H' O M/\O D/\M D=none/\H' D=some (.lst ys)/\zf H' O M ys acc/\Pv (i+1) acc ρ M,fun σ' H' z=>⟨l.length - (i+1),by omega,rfl,hil,z⟩,fun v H' hv=>?_⟩
  obtain ⟨k2,w2,r2⟩:=j2 v H' hv
  refine hg.go w2 (e.ext k2) r2 q2 fun σ3 H3 O3 ρ3 M3 q3 k3 w3 e3=>?_
  refine ht.go w3 e3 q3 fun b M4 H4 O4 q4 k4 w4=>?_
  have k24:=(k2.trans k3).trans k4
  obtain ⟨d4,o4,m4⟩:=k24.prv D o m
  have r4:=r.ext k24
  cases b with
  | true=>
   exact hr.go w4 (e3.ext k4) o4 m4 (d4.trans hd) r4 q4 fun acc' ρ' M' σ' H' O' ys' q5 k5 w5 e5 o5 m5 d5 r5=>⟨O',ρ',M',acc',ys',w5,e5,(x.trans k24.x).trans k5,o5,m5,d5,r5,q5⟩
  | false=>
   exact ⟨O4,ρ3,M4,acc,ys,w4,e3.ext k4,x.trans k24.x,o4,m4,d4.trans hd,r4,q4⟩
 ·have e0:i=l.length:=by omega
  subst e0
  obtain ⟨hG,q2⟩:=pd acc ρ M hf
  exact .inl ⟨(hj H O M x.fix x.mst w hG l.length).1 rfl,k _ _ _ _ _ _ _ q2 x w e o m hd r⟩
noncomputable def Qh (ts:List Nat)(ai:AI)(ag:AG)(at_:AT)(atr:ATR):AF:=fun ρ M Q=>ai ρ M fun l G M1=>wk ag at_ atr G (fun acc _ M'=>Q acc M') l [] (Wh ts ρ) M1
theorem ZN {ts:List Nat}{wi:TI}{g:TG}{tt:TT}{tr:Addr->TR}{ai:AI}{ag:AG}{at_:AT}{atr:ATR}(hi:JE wi ai)(hg:vk g ag)(ht:jZ tt at_)(hr:∀ D,Q3 D (tr D) atr):Za (Xr ts wi g tt tr) (Qh ts ai ag at_ atr):=⟨fun {σ H O ρ M Q Q'} w e q k=>by
 refine hi.go w e q fun l G M1 J H1 O1 q1 k1 w1 hj D hD=>?_
 have kp:=qF w1 hD (.lst [])
 have hj':yr J (upd H1 D (.lst [])) (yD O1 D) M1 l G:=fun H' O' M' fix mst w' hG=>hj H' O' M' (fun a o ha ho=>fix a o (kp.fix a o ha ho).2 (kp.fix a o ha ho).1) mst w' hG
 refine AN hg ht (hr D) hj' (kz w1 hD _ (fun _ z=>nomatch z)) (((e.ext k1).clr ts).ext kp) (.inl rfl) (w1.fresh hD).2 zp .nil q1 fun acc' ρ' M' σ' H' O' ys' q5 k5 w5 e5 o5 m5 d5 r5=>?_
 have hH:=kM w1 k1 hD
 refine k _ _ _ _ _ _ q5 ⟨fun a o ha ho=>?_,fun a ha hm=>?_,fun a hm=>k5.mst a (k1.mst a hm)⟩ w5 o5 m5 hH d5 r5
 ·obtain ⟨x1,x2⟩:=(k1.trans kp).fix a o ha ho
  exact k5.fix a o x2 x1
 ·obtain ⟨x1,x2,x3⟩:=(k1.trans kp).prv a ha hm
  obtain ⟨y1,y2,y3⟩:=k5.prv a (fun z=>w.ne a ha (by rw [z];exact hH)) x2 x3
  exact ⟨y1.trans x1,y2,y3⟩⟩
theorem Jw {ts:List Nat}{wi:TI}{g:TG}{tt:TT}{te:TE}{ai:AI}{ag:AG}{at_:AT}{ae:AE}(hi:JE wi ai)(hg:vk g ag)(ht:jZ tt at_)(he:zI te ae):Za (wZ ts wi g tt te) (Qh ts ai ag at_ (ku ae)):=
 ⟨fun w e q k=>(ZN (ts:=ts) (tr:=Qc te) hi hg ht fun D=>wr he).go w e q k⟩
noncomputable def aI0 (g:Int->Int->Dat):AR2:=fun x y M Q=>∃ i j,x=.d (.int i)/\y=.d (.int j)/\Q (.d (g i j)) M
theorem Y3 {f:Int->Int->Int}:ww (rI0 fun i j=>.int (f i j)) (aI0 fun i j=>.int (f i j)):=⟨fun w r1 r2 ⟨i,j,e1,e2,q⟩ k=>by
 subst e1 e2;exact ⟨i,j,zY r1,zY r2,k _ _ _ _ _ q .refl w .int⟩⟩
theorem Kx {f:Int->Int->Bool}:ww (rI0 fun i j=>.bl (f i j)) (aI0 fun i j=>.bl (f i j)):=⟨fun w r1 r2 ⟨i,j,e1,e2,q⟩ k=>by
 subst e1 e2;exact ⟨i,j,zY r1,zY r2,k _ _ _ _ _ q .refl w .bl⟩⟩
noncomputable def aU (g:Int->Dat):AV->MH->AK->Prop:=fun x M Q=>∃ i,x=.d (.int i)/\Q (.d (g i)) M
theorem BF {f:Int->Int}:Da (rU fun i=>.int (f i)) (aU fun i=>.int (f i)):=⟨fun w r1 ⟨i,e1,q⟩ k=>by
 subst e1;exact ⟨i,zY r1,k _ _ _ _ _ q .refl w .int⟩⟩
noncomputable def eqS:Dat->Dat->Option Bool
 | .non,.non=>some true | .non,.int _=>some false | .int _,.non=>some false | .non,.bl _=>some false | .bl _,.non=>some false | .non,.str _=>some false | .str _,.non=>some false
 | .int i,.int j=>some (decide (i=j)) | .bl a,.bl b=>some (decide (a=b)) | .str a,.str b=>some (decide (a=b))
 | .int _,.str _=>some false | .str _,.int _=>some false | .bl _,.str _=>some false | .str _,.bl _=>some false
 | _,_=>none
noncomputable def jD:AV->Bool
 | .d .non=>true
 | _=>false
theorem wg {H:Hp}{O:Own}{M:MH}{v:V}{x:AV}(r:zr H O M v x):decide (v=V.non)=jD x:=by
 cases x with
 | ref a=>rw [r.1];rfl
 | d x=>cases (show Rep H O v x from r) <;> rfl
noncomputable def xt (f:Bool->Bool):AR2:=fun x y M Q=>y=.d .non/\Q (.d (.bl (f (jD x)))) M
theorem Vz:ww (fun x y H Q=>y=V.non/\Q (V.bl (decide (x=V.non))) H) (xt id):=⟨fun w r1 r2 ⟨e,q⟩ k=>by
 subst e;exact ⟨QH r2,by rw [wg r1];exact k _ _ _ _ _ q .refl w .bl⟩⟩
theorem KW:ww (fun x y H Q=>y=V.non/\Q (V.bl (!decide (x=V.non))) H) (xt not):=⟨fun w r1 r2 ⟨e,q⟩ k=>by
 subst e;exact ⟨QH r2,by rw [wg r1];exact k _ _ _ _ _ q .refl w .bl⟩⟩
theorem Wr {H:Hp}{O:Own}{M:MH}{xs:List V}{l:List AV}(r:zf H O M xs l){i:Int}{x:AV}(h:atI l i=some x):∃ v,atI xs i=some v/\zr H O M v x:=by
 unfold atI at h ⊢
 rw [r.1]
 cases e:ixN l.length i with
 | none=>rw [e] at h;cases h
 | some j=>rw [e] at h;exact r.get h
noncomputable def aIx (s:AV->MH->Option (List AV)):AR2:=fun x y M Q=>∃ l i z,s x M=some l/\y=.d (.int i)/\atI l i=some z/\Q z M
theorem Yg {K:PySem.W.Frag}:ww (Qi K) (aIx zQ):=⟨fun w r1 r2 ⟨l,i,z,h,e,hz,q⟩ k=>by
 subst e
 obtain ⟨a,xs,rfl,h1,r⟩:=xS w r1 h
 obtain ⟨v,hv,rv⟩:=Wr r hz
 exact ⟨a,xs,i,v,rfl,zY r2,h1.elim (fun h=>.inl (SqL.of h)) (fun h=>.inr (SqT.of h)),hv,k _ _ _ _ _ q .refl w rv⟩⟩
structure Kk (r:R2)(a:AV->AV->MH->(List AV->Prop)->Prop):Prop where
 go:∀ {x y:V} {dx dy:AV} {H:Hp} {O:Own} {M:MH} {Q:VK} {Q':List AV->Prop},Wf H O M->zr H O M x dx->zr H O M y dy->a dx dy M Q'->(∀ l ys,Q' l->zf H O M ys l->∀ p,H p=none->Q (.ref p) (upd H p (.lst ys)))->r x y H Q
noncomputable def fOp (r:AV->AV->MH->(List AV->Prop)->Prop)(a b:AE):AF:=fun ρ M Q=>a ρ M fun x M1=>b ρ M1 fun y M2=>r x y M2 fun l=>Q l M2
theorem vQ {r:R2}{ra:AV->AV->MH->(List AV->Prop)->Prop}{t u:TE}{a b:AE}(hr:Kk r ra)(h1:zI t a)(h2:zI u b):Za (tOp r t u) (fOp ra a b):=
 ⟨fun w e q k=>h1.go w e q fun x M1 v H1 O1 q1 k1 w1 r1=>h2.go w1 (e.ext k1) q1 fun y M2 u H2 O2 q2 k2 w2 r2=>hr.go w2 (r1.ext k2) r2 q2 fun l ys q3 r3 p hp=>
  k l M2 p ys _ _ q3 ((k1.trans k2).trans (qF w2 hp _)) (kz w2 hp _ (fun _ z=>nomatch z)) (.inl rfl) (w2.fresh hp).2 (kM w2 (k1.trans k2) hp) zp (r3.ext (qF w2 hp _))⟩
noncomputable def Bm:AV->AV->MH->(List AV->Prop)->Prop:=fun x y M Q=>∃ l m,qe x M=some l/\qe y M=some m/\l.length+m.length<=sizeLine/\Q (l ++ m)
theorem Zd:Kk Wm Bm:=⟨fun w r1 r2 ⟨l,m,h1,h2,hs,q⟩ k=>by
 obtain ⟨a,xs,rfl,e1,p1⟩:=qy w r1 h1
 obtain ⟨b,ys,rfl,e2,p2⟩:=qy w r2 h2
 exact ⟨a,b,xs,ys,rfl,rfl,e1,e2,by rw [p1.1,p2.1];exact hs,k _ _ q (p1.append p2)⟩⟩
theorem zf.rep {H:Hp}{O:Own}{M:MH}{xs:List V}{l:List AV}(a:zf H O M xs l):∀ k:Nat,zf H O M (List.replicate k xs).flatten (List.replicate k l).flatten
 | 0=>.nil
 | k+1=>by rw [List.replicate_succ,List.replicate_succ,List.flatten_cons,List.flatten_cons];exact a.append (zf.rep a k)
noncomputable def Ah:AV->AV->MH->(List AV->Prop)->Prop:=fun x y M Q=>∃ l k,qe x M=some l/\y=.d (.int k)/\-(2 ^ 63)<=k/\k<2 ^ 63/\l.length * k.toNat<=sizeLine/\Q (List.replicate k.toNat l).flatten
theorem wy:Kk Vn Ah:=⟨fun w r1 r2 ⟨l,n,h1,e,b1,b2,hs,q⟩ k=>by
 subst e
 obtain ⟨a,xs,rfl,e1,p1⟩:=qy w r1 h1
 exact ⟨a,n,xs,rfl,zY r2,e1,b1,b2,by rw [p1.1];exact hs,k _ _ q (p1.rep _)⟩⟩
noncomputable abbrev AO:=ASt->MH->(Option Int->MH->Prop)->Prop
structure Zl (t:TO)(a:AO):Prop where
 go:∀ {σ:St} {H:Hp} {O:Own} {ρ:ASt} {M:MH} {Q:Option Int->Hp->Prop} {Q':Option Int->MH->Prop},Wf H O M->Er H O M σ ρ->a ρ M Q'->(∀ x M' H' O',Q' x M'->Ext H O M H' O' M'->Wf H' O' M'->Q x H')->t σ H Q
noncomputable def DB:AO:=fun _ M Q=>Q none M
noncomputable def WE (a:AE):AO:=fun ρ M Q=>a ρ M fun x M1=>∃ i,x=.d (.int i)/\Q (some i) M1
theorem VR:Zl vL DB:=⟨fun w _ q k=>k _ _ _ _ q .refl w⟩
theorem XN {t:TE}{a:AE}(h:zI t a):Zl (Xc t) (WE a):=⟨fun w e q k=>h.go w e q fun x M1 v H1 O1 ⟨i,e1,q1⟩ k1 w1 r1=>by
 subst e1;exact ⟨i,zY r1,k _ _ _ _ q1 k1 w1⟩⟩
noncomputable def kh {α:Type}(xs:List α)(lo hi:Option Int):List α:=(xs.drop (HT.sIx xs.length 0 lo)).take (HT.sIx xs.length xs.length hi - HT.sIx xs.length 0 lo)
theorem zf.cut {H:Hp}{O:Own}{M:MH}{xs:List V}{l:List AV}(a:zf H O M xs l)(lo hi:Option Int):zf H O M (yC xs lo hi) (kh l lo hi):=by
 unfold yC kh
 rw [a.1]
 exact (a.drop _).take _
theorem X9 {α β:Type}(f:α->β)(l:List α)(lo hi:Option Int):kh (l.map f) lo hi=(kh l lo hi).map f:=by
 unfold kh
 rw [List.length_map,<- List.map_drop,<- List.map_take]
noncomputable def fSl (a:AE)(lo hi:AO):AF:=fun ρ M Q=>a ρ M fun x M1=>lo ρ M1 fun i M2=>hi ρ M2 fun j M3=>∃ l,qe x M3=some l/\Q (kh l i j) M3
theorem Vf {K:PySem.W.Frag}{t:TE}{tl th:TO}{a:AE}{lo hi:AO}(h1:zI t a)(h2:Zl tl lo)(h3:Zl th hi):Za (tSl (As K) t tl th) (fSl a lo hi):=
 ⟨fun w e q k=>h1.go w e q fun x M1 v H1 O1 q1 k1 w1 r1=>h2.go w1 (e.ext k1) q1 fun i M2 H2 O2 q2 k2 w2=>h3.go w2 (e.ext (k1.trans k2)) q2 fun j M3 H3 O3 ⟨l,hl,q3⟩ k3 w3=>by
  obtain ⟨a,xs,rfl,e1,p1⟩:=qy w3 (r1.ext (k2.trans k3)) hl
  exact ⟨a,xs,rfl,SqL.of e1,fun p hp=>k _ _ p _ _ _ q3 (((k1.trans k2).trans k3).trans (qF w3 hp _)) (kz w3 hp _ (fun _ z=>nomatch z)) (.inl rfl) (w3.fresh hp).2 (kM w3 ((k1.trans k2).trans k3) hp) zp ((p1.cut i j).ext (qF w3 hp _))⟩⟩
theorem xK {H:Hp}{O:Own}{M:MH}(w:Wf H O M){p:Addr}(hp:H p=none){xs:List V}{l:List Dat}(r:zf H O M xs (l.map .d)):zr (upd H p (.tup xs)) O M (.ref p) (.d (.tup l)):=
 have r2:=r.pure
 Rep.tup (w.fresh hp).1 zp r2.1 fun i x d e1 e2=>(r2.2 i x d e1 e2).ext (qh w hp _)
noncomputable def Ds (a:AE)(lo hi:AO):AE:=fun ρ M Q=>a ρ M fun x M1=>lo ρ M1 fun i M2=>hi ρ M2 fun j M3=>∃ l,x=.d (.tup l)/\¬ (HT.sIx l.length 0 i=0/\HT.sIx l.length l.length j=l.length)/\Q (.d (.tup (kh l i j))) M3
theorem VE {K:PySem.W.Frag}{t:TE}{tl th:TO}{a:AE}{lo hi:AO}(h1:zI t a)(h2:Zl tl lo)(h3:Zl th hi):zI (tSl (Dz K) t tl th) (Ds a lo hi):=
 ⟨fun w e q k=>h1.go w e q fun x M1 v H1 O1 q1 k1 w1 r1=>h2.go w1 (e.ext k1) q1 fun i M2 H2 O2 q2 k2 w2=>h3.go w2 (e.ext (k1.trans k2)) q2 fun j M3 H3 O3 ⟨l,hl,hn,q3⟩ k3 w3=>by
  subst hl
  obtain ⟨a,xs,rfl,e1,p1⟩:=qK (l:=l.map .d) (r1.ext (k2.trans k3)) rfl
  have l1:=p1.1
  rw [List.length_map] at l1
  refine ⟨a,xs,rfl,SqT.of e1,by rw [l1];exact hn,fun p hp=>?_⟩
  have p2:=p1.cut i j
  rw [X9] at p2
  exact k _ _ _ _ _ q3 (((k1.trans k2).trans k3).trans (qh w3 hp _)) (jK w3 hp _) (xK w3 hp p2)⟩
theorem zf.reverse {H:Hp}{O:Own}{M:MH}{xs:List V}{l:List AV}(a:zf H O M xs l):zf H O M xs.reverse l.reverse:=
 ⟨by rw [List.length_reverse,List.length_reverse,a.1],fun i x d h1 h2=>by
  have hi:=(List.getElem?_eq_some_iff.mp h1).1
  rw [List.length_reverse] at hi
  rw [List.getElem?_reverse hi] at h1
  rw [List.getElem?_reverse (by rw [<- a.1];exact hi),<- a.1] at h2
  exact a.2 _ x d h1 h2⟩
noncomputable def BX (a:AE)(st:AO):AE:=fun ρ M Q=>a ρ M fun x M1=>st ρ M1 fun i M2=>i=some (-1)/\((∃ m l,qe x M2=some m/\pur m=some l/\Q (.d (.lst l.reverse)) M2) \/ (∃ l,x=.d (.tup l)/\Q (.d (.tup l.reverse)) M2))
theorem Y9 {K:PySem.W.Frag}{t:TE}{ts:TO}{a:AE}{st:AO}(h1:zI t a)(h2:Zl ts st):zI (Bc K t ts) (BX a st):=
 ⟨fun w e q k=>h1.go w e q fun x M1 v H1 O1 q1 k1 w1 r1=>h2.go w1 (e.ext k1) q1 fun i M2 H2 O2 ⟨hi,q2⟩ k2 w2=>⟨hi,by
  have k12:=k1.trans k2
  rcases q2 with ⟨m,l,hl,hp,q2⟩ | ⟨l,rfl,q2⟩
  ·rw [jr hp] at hl
   obtain ⟨a,xs,rfl,e1,p1⟩:=qy w2 (r1.ext k2) hl
   have p2:=p1.reverse
   rw [<- List.map_reverse] at p2
   have p3:=p2.pure
   exact ⟨a,xs,rfl,.inl ⟨SqL.of e1,fun p hp=>k _ _ _ _ _ q2 (k12.trans (qh w2 hp _)) (jK w2 hp _) (Rep.lst (w2.fresh hp).1 zp p3.1 fun i x d e1 e2=>(p3.2 i x d e1 e2).ext (qh w2 hp _))⟩⟩
  ·obtain ⟨a,xs,rfl,e1,p1⟩:=qK (l:=l.map .d) (r1.ext k2) rfl
   have p2:=p1.reverse
   rw [<- List.map_reverse] at p2
   exact ⟨a,xs,rfl,.inr ⟨SqT.of e1,fun p hp=>k _ _ _ _ _ q2 (k12.trans (qh w2 hp _)) (jK w2 hp _) (xK w2 hp p2)⟩⟩⟩⟩
noncomputable def WQ:AR2:=fun x y M Q=>∃ l m,x=.d (.tup l)/\y=.d (.tup m)/\l ≠ []/\l.length+m.length<=sizeLine/\Q (.d (.tup (l ++ m))) M
theorem YH {K:PySem.W.Frag}:ww (XU K) WQ:=⟨fun w r1 r2 ⟨l,m,e1,e2,hl,hs,q⟩ k=>by
 subst e1 e2
 obtain ⟨a,xs,rfl,h1,p1⟩:=qK (l:=l.map .d) r1 rfl
 obtain ⟨b,ys,rfl,h2,p2⟩:=qK (l:=m.map .d) r2 rfl
 have l1:=p1.1
 have l2:=p2.1
 rw [List.length_map] at l1 l2
 refine ⟨a,b,xs,ys,rfl,rfl,SqT.of h1,SqT.of h2,fun z=>hl (List.length_eq_zero_iff.mp (by rw [<- l1,z];rfl)),by rw [l1,l2];exact hs,fun z=>?_,fun _ p hp=>?_⟩
 ·have:m=[]:=List.length_eq_zero_iff.mp (by rw [<- l2,z];rfl)
  subst this
  rw [List.append_nil] at q
  exact k _ _ _ _ _ q .refl w r1
 ·have p3:=p1.append p2
  rw [<- List.map_append] at p3
  exact k _ _ _ _ _ q (qh w hp _) (jK w hp _) (xK w hp p3)⟩
mutual
noncomputable def eqD:Dat->Dat->Bool
 | .non,.non=>true
 | .bl a,.bl b=>a == b
 | .bl a,.int b=>(if a then 1 else 0) == b
 | .int a,.bl b=>a == (if b then 1 else 0)
 | .int a,.int b=>a == b
 | .str a,.str b=>a == b
 | .lst a,.lst b=>jz a b
 | .tup a,.tup b=>jz a b
 | _,_=>false
noncomputable def jz:List Dat->List Dat->Bool
 | [],[]=>true
 | a :: r,b :: r'=>eqD a b && jz r r'
 | _,_=>false
end
mutual
noncomputable def dp:Dat->Nat
 | .lst l=>dps l+1
 | .tup l=>dps l+1
 | .rng _ _ _=>1000
 | .scr _ _=>1000
 | .ty _=>1000
 | _=>0
noncomputable def dps:List Dat->Nat
 | []=>0
 | a :: r=>max (dp a) (dps r)
end
theorem jF {l:List Dat}{n:Nat}(h:∀ d ∈ l,dp d<=n):dps l<=n:=by
 induction l with
 | nil=>exact Nat.zero_le _
 | cons a r ih=>rw [dps];exact Nat.max_le.mpr ⟨h a (by simp),ih fun d hd=>h d (by simp [hd])⟩
theorem ql {l:List Dat}{d:Dat}(h:d ∈ l):dp d<=dps l:=by
 induction l with
 | nil=>cases h
 | cons a r ih=>
  rw [dps]
  rcases List.mem_cons.mp h with rfl | h
  ·exact Nat.le_max_left _ _
  ·exact Nat.le_trans (ih h) (Nat.le_max_right _ _)
theorem jQ:∀ (l m:List Dat),l.length=m.length->jz l m=(List.range l.length).all fun j=>eqD (l.getD j .non) (m.getD j .non)
 | [],[],_=>rfl
 | a :: r,b :: r',h=>by
  rw [jz,jQ r r' (by simpa using h),List.length_cons,List.range_succ_eq_map,List.all_cons,List.all_map];rfl
 | [],_ :: _,h=>by simp at h
 | _ :: _,[],h=>by simp at h
theorem j8:∀ (l m:List Dat),l.length ≠ m.length->jz l m=false
 | [],[],h=>absurd rfl h
 | a :: r,b :: r',h=>by rw [jz,j8 r r' (fun z=>h (by simp [z])),Bool.and_false]
 | [],_ :: _,h=>by simp [jz]
 | _ :: _,[],h=>by simp [jz]
theorem Yj (l m:List Dat):eqD (.lst l) (.tup m)=false:=by simp [eqD]
theorem Xs (l m:List Dat):eqD (.tup l) (.lst m)=false:=by simp [eqD]
theorem Wt {p:Dat->Prop}(h:∀ a,(∀ b,dp b<dp a->p b)->p a)(a:Dat):p a:=by
 have:∀ n a,dp a<=n->p a:=fun n=>by
  induction n with
  | zero=>intro a ha;exact h a fun b hb=>absurd hb (by omega)
  | succ n ih=>intro a ha;exact h a fun b hb=>ih b (by omega)
 exact this (dp a) a (Nat.le_refl _)
theorem yT {l:List Dat}(h:∀ d ∈ l,eqD d d=true):jz l l=true:=by
 induction l with
 | nil=>rfl
 | cons a r ih=>rw [jz,h a (by simp),ih fun d hd=>h d (by simp [hd])];rfl
theorem yq {a:Dat}:dp a<1000->eqD a a=true:=by
 refine Wt (p:=fun a=>dp a<1000->eqD a a=true) (fun a ih ha=>?_) a
 cases a with
 | non=>rfl
 | bl b=>rw [eqD];simp
 | int i=>rw [eqD];simp
 | str x=>rw [eqD];simp
 | lst l=>
  rw [eqD]
  rw [dp] at ha ih
  exact yT fun d hd=>ih d (by have:=ql hd;omega) (by have:=ql hd;omega)
 | tup l=>
  rw [eqD]
  rw [dp] at ha ih
  exact yT fun d hd=>ih d (by have:=ql hd;omega) (by have:=ql hd;omega)
 | rng a b c=>rw [dp] at ha;omega
 | scr _ l=>rw [dp] at ha;omega
 | ty l=>rw [dp] at ha;omega
theorem Rep.fn {H:Hp}{O O':Own}{v:V}{a b:Dat}(r:Rep H O v a):Rep H O' v b->dp a<1000->dp b<1000->a=b:=by
 induction r generalizing b with
 | non=>intro r' _ _;cases r';rfl
 | bl=>intro r' _ _;cases r';rfl
 | int=>intro r' _ _;cases r';rfl
 | str=>intro r' _ _;cases r';rfl
 | ty=>intro r' h _;rw [dp] at h;omega
 | rng _ _=>intro r' h _;rw [dp] at h;omega
 | scr _ _=>intro r' h _;rw [dp] at h;omega
 | scrK _=>intro r' h _;rw [dp] at h;omega
 | @lst a xs l o1 h1 l1 r1 ih=>
  intro r' ha hb
  cases r' with
  | @lst _ ys m o2 h2 l2 r2=>
   rw [h1] at h2;cases h2
   congr 1
   refine List.ext_getElem (l1.symm.trans l2) fun i i1 i2=>?_
   have i0:i<xs.length:=by omega
   rw [dp] at ha hb
   refine ih i xs[i] l[i] (by simp [i0]) (by simp [i1]) (r2 i xs[i] m[i] (by simp [i0]) (by simp [i2])) ?_ ?_
   ·have:=ql (List.getElem_mem i1);omega
   ·have:=ql (List.getElem_mem i2);omega
  | @tup _ ys m o2 h2=>rw [h1] at h2;cases h2
  | rng o2 h2=>rw [dp] at hb;omega
  | scr o2 h2=>rw [dp] at hb;omega
  | scrK _=>rw [dp] at hb;omega
 | @tup a xs l o1 h1 l1 r1 ih=>
  intro r' ha hb
  cases r' with
  | @tup _ ys m o2 h2 l2 r2=>
   rw [h1] at h2;cases h2
   congr 1
   refine List.ext_getElem (l1.symm.trans l2) fun i i1 i2=>?_
   have i0:i<xs.length:=by omega
   rw [dp] at ha hb
   refine ih i xs[i] l[i] (by simp [i0]) (by simp [i1]) (r2 i xs[i] m[i] (by simp [i0]) (by simp [i2])) ?_ ?_
   ·have:=ql (List.getElem_mem i1);omega
   ·have:=ql (List.getElem_mem i2);omega
  | @lst _ ys m o2 h2=>rw [h1] at h2;cases h2
  | rng o2 h2=>rw [dp] at hb;omega
  | scr o2 h2=>rw [dp] at hb;omega
  | scrK _=>rw [dp] at hb;omega
section
variable {X:Cx}{pins:List (Addr × Obj)}{s:Shared}{σ:St}{H:Hp}
theorem jR {xs:List V}{us:List Value}(r:zw xs us){j:Nat}(h:j<us.toArray.size):∃ x,xs[j]?=some x/\zx x us.toArray[j]:=by
 have h':j<us.length:=by simpa using h
 have hx:j<xs.length:=by rw [r.length];exact h'
 obtain ⟨u,hu,ru⟩:=r.get (i:=j) (List.getElem?_eq_getElem hx)
 have e:us.toArray[j]=u:=by
  have:=(List.getElem?_eq_some_iff.mp hu).2
  simpa using this
 exact ⟨xs[j],List.getElem?_eq_getElem hx,by rw [e];exact ru⟩
theorem Yd (I : Inv X pins σ H s){A : Around}{p q : Addr}{O O' : Own}{a b : Dat}(ih : ∀ (c d : Dat) (v u : V) (v' u' : Value), dp c < dp a -> Rep H O v c -> Rep H O' u d -> dp d < 1000 -> zx v v' -> zx u u' -> SeqAt.EqAt A.in1 s v' u' (eqD c d))
    (ra:Rep H O (.ref p) a) (rb:Rep H O' (.ref q) b) (ha:dp a<1000) (hb:dp b<1000) (hu:A.units<cLine):SeqAt.RcAt A s (.ref p) (.ref q) (eqD a b):=by
  cases ra with
  | @lst _ xs l o1 h1 l1 r1=>
    obtain ⟨us,u1,p1,z1⟩:=I.list (SqL.of h1)
    cases rb with
    | @lst _ ys m o2 h2 l2 r2=>
      obtain ⟨ws,u2,p2,z2⟩:=I.list (SqL.of h2)
      have s1:us.toArray.size=l.length:=by rw [List.size_toArray,<- u1.length,l1]
      have s2:ws.toArray.size=m.length:=by rw [List.size_toArray,<- u2.length,l2]
      by_cases e:l.length=m.length
      · have h := SeqAt.RcAt.lists (A := A) (e := fun j => eqD (l.getD j .non) (m.getD j .non)) p1.isList p2.isList (by rw [s1, s2, e]) hu (fun j j1 j2 => by
          obtain ⟨x,hx,rx⟩:=jR u1 j1
          obtain ⟨y,hy,ry⟩:=jR u2 j2
          have k1:j<l.length:=by rw [<- s1];exact j1
          have k2:j<m.length:=by rw [<- s2];exact j2
          rw [dp] at ha hb ih
          refine ih _ _ x y _ _ ?_ (r1 j x _ hx ?_) (r2 j y _ hy ?_) ?_ rx ry
          · rw [List.getD_eq_getElem?_getD,List.getElem?_eq_getElem k1]
            have:=ql (List.getElem_mem k1);show dp l[j]<_;omega
          · rw [List.getD_eq_getElem?_getD,List.getElem?_eq_getElem k1];rfl
          · rw [List.getD_eq_getElem?_getD,List.getElem?_eq_getElem k2];rfl
          · rw [List.getD_eq_getElem?_getD,List.getElem?_eq_getElem k2]
            have:=ql (List.getElem_mem k2);show dp m[j]<_;omega)
        rw [s1,<- jQ l m e] at h
        rw [eqD];exact h
      · rw [eqD,j8 l m e]
        exact SeqAt.RcAt.lists_lengths p1.isList p2.isList (by rw [s1,s2];simpa using e) hu
    | @tup _ ys m o2 h2 l2 r2=>
      obtain ⟨ws,u2,p2,z2⟩:=I.tuple (SqT.of h2)
      rw [Yj]
      exact SeqAt.RcAt.list_tuple p1.isList p2 hu
    | rng o2 h2=>rw [dp] at hb;omega
    | scr o2 h2=>rw [dp] at hb;omega
    | scrK _=>rw [dp] at hb;omega
  | @tup _ xs l o1 h1 l1 r1=>
    obtain ⟨us,u1,p1,z1⟩:=I.tuple (SqT.of h1)
    cases rb with
    | @tup _ ys m o2 h2 l2 r2=>
      obtain ⟨ws,u2,p2,z2⟩:=I.tuple (SqT.of h2)
      have s1:us.toArray.size=l.length:=by rw [List.size_toArray,<- u1.length,l1]
      have s2:ws.toArray.size=m.length:=by rw [List.size_toArray,<- u2.length,l2]
      have h := SeqAt.RcAt.tuples (A := A) (e := fun j => eqD (l.getD j .non) (m.getD j .non)) (show s.heap.IsTuple p us.toArray from p1) (show s.heap.IsTuple q ws.toArray from p2) hu (fun j j1 j2 => by
          obtain ⟨x,hx,rx⟩:=jR u1 j1
          obtain ⟨y,hy,ry⟩:=jR u2 j2
          have k1:j<l.length:=by rw [<- s1];exact j1
          have k2:j<m.length:=by rw [<- s2];exact j2
          rw [dp] at ha hb ih
          refine ih _ _ x y _ _ ?_ (r1 j x _ hx ?_) (r2 j y _ hy ?_) ?_ rx ry
          · rw [List.getD_eq_getElem?_getD,List.getElem?_eq_getElem k1]
            have:=ql (List.getElem_mem k1);show dp l[j]<_;omega
          · rw [List.getD_eq_getElem?_getD,List.getElem?_eq_getElem k1];rfl
          · rw [List.getD_eq_getElem?_getD,List.getElem?_eq_getElem k2];rfl
          · rw [List.getD_eq_getElem?_getD,List.getElem?_eq_getElem k2]
            have:=ql (List.getElem_mem k2);show dp m[j]<_;omega)
      rw [s1,s2] at h
      rw [eqD]
      by_cases e:l.length=m.length
      · rw [<- e,Nat.min_self,beq_self_eq_true,Bool.and_true,<- jQ l m e] at h
        exact h
      · rw [j8 l m e]
        rw [show (l.length == m.length)=false by simpa using e,Bool.and_false] at h
        exact h
    | @lst _ ys m o2 h2 l2 r2=>
      obtain ⟨ws,u2,p2,z2⟩:=I.list (SqL.of h2)
      rw [Xs]
      exact SeqAt.RcAt.tuple_list p1 p2.isList hu
    | rng o2 h2=>rw [dp] at hb;omega
    | scr o2 h2=>rw [dp] at hb;omega
    | scrK _=>rw [dp] at hb;omega
  | rng o2 h2=>rw [dp] at ha;omega
  | scr o2 h2=>rw [dp] at ha;omega
  | scrK _=>rw [dp] at ha;omega
theorem DU (I:Inv X pins σ H s){a:Addr}{xs:List V}(h:H a=some (.lst xs)):∃ us,s.heap.IsList a us:=let ⟨_,_,p,_⟩:=I.list (SqL.of h);⟨_,p.isList⟩
theorem DO (I:Inv X pins σ H s){a:Addr}{xs:List V}(h:H a=some (.tup xs)):∃ us,s.heap.IsTuple a us:=let ⟨_,_,p,_⟩:=I.tuple (SqT.of h);⟨_,p⟩
local macro_rules | `(tactic| walk_at "sc")=>`(tactic| first
 | with_reducible exact .same _ | with_reducible exact .none_none | with_reducible exact .none_bool _ | with_reducible exact .none_int _ _ | with_reducible exact .none_str _ _ | with_reducible exact .bool_none _ | with_reducible exact .bool_bool _ _ | with_reducible exact .bool_int _ _ _ | with_reducible exact .bool_str _ _ _ | with_reducible exact .int_none _ _ | with_reducible exact .int_bool _ _ _ | with_reducible exact .int_int _ _ _ _ | with_reducible exact .int_str _ _ _ _ | with_reducible exact .str_none _ _ | with_reducible exact .str_bool _ _ _ | with_reducible exact .str_int _ _ _ _ | with_reducible exact .str_str _ _ _ _)
theorem ls_ (I:Inv X pins σ H s){a:Addr}{xs:List V}(h:H a=some (.lst xs)):s.heap.IsList a (Classical.choose (DU I h)):=Classical.choose_spec _
theorem ts_ (I:Inv X pins σ H s){a:Addr}{xs:List V}(h:H a=some (.tup xs)):s.heap.IsTuple a (Classical.choose (DO I h)):=Classical.choose_spec _
local macro_rules | `(tactic| walk_at "sq")=>`(tactic| first
 | with_reducible exact .none_list (ls_ (by assumption) (by assumption)) (by assumption) | with_reducible exact .bool_list _ (ls_ (by assumption) (by assumption)) (by assumption) | with_reducible exact .int_list _ _ (ls_ (by assumption) (by assumption)) (by assumption) | with_reducible exact .str_list _ _ (ls_ (by assumption) (by assumption)) (by assumption) | with_reducible exact .list_none (ls_ (by assumption) (by assumption)) (by assumption) | with_reducible exact .list_bool _ (ls_ (by assumption) (by assumption)) (by assumption) | with_reducible exact .list_int _ _ (ls_ (by assumption) (by assumption)) (by assumption) | with_reducible exact .list_str _ _ (ls_ (by assumption) (by assumption)) (by assumption)
 | with_reducible exact .none_tuple (ts_ (by assumption) (by assumption)) (by assumption) | with_reducible exact .bool_tuple _ (ts_ (by assumption) (by assumption)) (by assumption) | with_reducible exact .int_tuple _ _ (ts_ (by assumption) (by assumption)) (by assumption) | with_reducible exact .str_tuple _ _ (ts_ (by assumption) (by assumption)) (by assumption) | with_reducible exact .tuple_none (ts_ (by assumption) (by assumption)) (by assumption) | with_reducible exact .tuple_bool _ (ts_ (by assumption) (by assumption)) (by assumption) | with_reducible exact .tuple_int _ _ (ts_ (by assumption) (by assumption)) (by assumption) | with_reducible exact .tuple_str _ _ (ts_ (by assumption) (by assumption)) (by assumption))
theorem Qr (I : Inv X pins σ H s){O O' : Own}(A : Around)(hu : A.units < cLine)(a b : Dat)(v u : V)(v' u' : Value)(ha : dp a < 1000)(ra : Rep H O v a)(rb : Rep H O' u b)(hb : dp b < 1000)(rv : zx v v')(ru : zx u u')
    (ih:∀ (c d:Dat) (v u:V) (v' u':Value),dp c<dp a->Rep H O v c->Rep H O' u d->dp d<1000->zx v v'->zx u u'->SeqAt.EqAt A.in1 s v' u' (eqD c d)):SeqAt.EqAt A s v' u' (eqD a b):=by
  by_cases hr:∃ p q,v=.ref p/\u=.ref q
  · obtain ⟨p,q,rfl,rfl⟩:=hr
    cases rv
    cases ru
    by_cases e:p=q
    · subst e
      rw [<- ra.fn rb ha hb,yq ha]
      exact .same _
    · exact .of_refs e (Yd I ih ra rb ha hb hu)
  · cases ra <;> cases rb <;> first
      | with_reducible exact absurd ⟨_,_,rfl,rfl⟩ hr
      | (rw [dp] at ha;omega)
      | (rw [dp] at hb;omega)
      | ((first | (obtain ⟨t0,rfl⟩:=rv) | cases rv);(first | (obtain ⟨t1,rfl⟩:=ru) | cases ru);simp only [eqD,Bool.not_false,Bool.not_true];first | walk_at "sc" | walk_at "sq")
theorem Yy (I:Inv X pins σ H s){O O':Own}:∀ (n:Nat) (A:Around),A.units+n<cLine->∀ (a b:Dat) (v u:V) (v' u':Value),dp a<=n->n<1000->Rep H O v a->Rep H O' u b->dp b<1000->zx v v'->zx u u'->SeqAt.EqAt A s v' u' (eqD a b):=by
 intro n
 induction n with
 | zero=>
  intro A hu a b v u v' u' ha _ ra rb hb rv ru
  exact Qr I A (by omega) a b v u v' u' (by omega) ra rb hb rv ru fun _ _ _ _ _ _ h=>absurd h (by omega)
 | succ n ih=>
  intro A hu a b v u v' u' ha hn ra rb hb rv ru
  exact Qr I A (by omega) a b v u v' u' (by omega) ra rb hb rv ru fun c d x y x' y' hc rc rd hd rx ry=>ih A.in1 (by show A.units+1+n<_;omega) c d x y x' y' (by omega) (by omega) rc rd hd rx ry
noncomputable def W7 (f:Bool->Bool):R2:=fun x y H Q=>∃ O O' a b,Rep H O x a/\Rep H O' y b/\dp a<=40/\dp b<=40/\Q (.bl (f (eqD a b))) H
theorem Ao (I:Inv X pins σ H s){O O':Own}(A:Around)(hu:A.units+41<cLine)(a b:Dat)(v u:V)(v' u':Value)(ha:dp a<=40)(ra:Rep H O v a)(rb:Rep H O' u b)(hb:dp b<=40)(rv:zx v v')(ru:zx u u'):SeqAt.RcAt A s v' u' (eqD a b):=by
  have ih:∀ (c d:Dat) (v u:V) (v' u':Value),dp c<dp a->Rep H O v c->Rep H O' u d->dp d<1000->zx v v'->zx u u'->SeqAt.EqAt A.in1 s v' u' (eqD c d):=fun c d v u v' u' hc rc rd hd rv ru=>Yy I 40 A.in1 (by show A.units+1+40<_;omega) c d v u v' u' (by omega) (by omega) rc rd hd rv ru
  replace hu:A.units<cLine:=by omega
  by_cases hr:∃ p q,v=.ref p/\u=.ref q
  · obtain ⟨p,q,rfl,rfl⟩:=hr
    cases rv
    cases ru
    exact Yd I ih ra rb (by omega) (by omega) hu
  · cases ra <;> cases rb <;> first
      | with_reducible exact absurd ⟨_,_,rfl,rfl⟩ hr
      | (rw [dp] at ha;omega)
      | (rw [dp] at hb;omega)
      | ((first | (obtain ⟨t0,rfl⟩:=rv) | cases rv);(first | (obtain ⟨t1,rfl⟩:=ru) | cases ru);simp only [eqD,Bool.not_false,Bool.not_true];first | walk_at "sc" | walk_at "sq")
theorem Xk (I : Inv X pins σ H s){A : Around}{p q : Addr}{O O' : Own}{a b : Dat}(ih : ∀ (c d : Dat) (v u : V) (v' u' : Value), dp c < dp a -> Rep H O v c -> Rep H O' u d -> dp d < 1000 -> zx v v' -> zx u u' -> SeqAt.EqAt A.in1 s v' u' (eqD c d))
    (ra:Rep H O (.ref p) a) (rb:Rep H O' (.ref q) b) (ha:dp a<1000) (hb:dp b<1000) (hu:A.units<cLine):SeqAt.RcNeAt A s (.ref p) (.ref q) (!(eqD a b)):=by
  cases ra with
  | @lst _ xs l o1 h1 l1 r1=>
    obtain ⟨us,u1,p1,z1⟩:=I.list (SqL.of h1)
    cases rb with
    | @lst _ ys m o2 h2 l2 r2=>
      obtain ⟨ws,u2,p2,z2⟩:=I.list (SqL.of h2)
      have s1:us.toArray.size=l.length:=by rw [List.size_toArray,<- u1.length,l1]
      have s2:ws.toArray.size=m.length:=by rw [List.size_toArray,<- u2.length,l2]
      by_cases e:l.length=m.length
      · have h := SeqAt.RcNeAt.lists (A := A) (e := fun j => eqD (l.getD j .non) (m.getD j .non)) p1.isList p2.isList (by rw [s1, s2, e]) hu (fun j j1 j2 => by
          obtain ⟨x,hx,rx⟩:=jR u1 j1
          obtain ⟨y,hy,ry⟩:=jR u2 j2
          have k1:j<l.length:=by rw [<- s1];exact j1
          have k2:j<m.length:=by rw [<- s2];exact j2
          rw [dp] at ha hb ih
          refine ih _ _ x y _ _ ?_ (r1 j x _ hx ?_) (r2 j y _ hy ?_) ?_ rx ry
          · rw [List.getD_eq_getElem?_getD,List.getElem?_eq_getElem k1]
            have:=ql (List.getElem_mem k1);show dp l[j]<_;omega
          · rw [List.getD_eq_getElem?_getD,List.getElem?_eq_getElem k1];rfl
          · rw [List.getD_eq_getElem?_getD,List.getElem?_eq_getElem k2];rfl
          · rw [List.getD_eq_getElem?_getD,List.getElem?_eq_getElem k2]
            have:=ql (List.getElem_mem k2);show dp m[j]<_;omega)
        rw [s1,<- jQ l m e] at h
        rw [eqD];exact h
      · rw [eqD,j8 l m e]
        exact SeqAt.RcNeAt.lists_lengths p1.isList p2.isList (by rw [s1,s2];simpa using e) hu
    | @tup _ ys m o2 h2 l2 r2=>
      obtain ⟨ws,u2,p2,z2⟩:=I.tuple (SqT.of h2)
      rw [Yj]
      exact SeqAt.RcNeAt.list_tuple p1.isList p2 hu
    | rng o2 h2=>rw [dp] at hb;omega
    | scr o2 h2=>rw [dp] at hb;omega
    | scrK _=>rw [dp] at hb;omega
  | @tup _ xs l o1 h1 l1 r1=>
    obtain ⟨us,u1,p1,z1⟩:=I.tuple (SqT.of h1)
    cases rb with
    | @tup _ ys m o2 h2 l2 r2=>
      obtain ⟨ws,u2,p2,z2⟩:=I.tuple (SqT.of h2)
      have s1:us.toArray.size=l.length:=by rw [List.size_toArray,<- u1.length,l1]
      have s2:ws.toArray.size=m.length:=by rw [List.size_toArray,<- u2.length,l2]
      have h := SeqAt.RcNeAt.tuples (A := A) (e := fun j => eqD (l.getD j .non) (m.getD j .non)) (show s.heap.IsTuple p us.toArray from p1) (show s.heap.IsTuple q ws.toArray from p2) hu (fun j j1 j2 => by
          obtain ⟨x,hx,rx⟩:=jR u1 j1
          obtain ⟨y,hy,ry⟩:=jR u2 j2
          have k1:j<l.length:=by rw [<- s1];exact j1
          have k2:j<m.length:=by rw [<- s2];exact j2
          rw [dp] at ha hb ih
          refine ih _ _ x y _ _ ?_ (r1 j x _ hx ?_) (r2 j y _ hy ?_) ?_ rx ry
          · rw [List.getD_eq_getElem?_getD,List.getElem?_eq_getElem k1]
            have:=ql (List.getElem_mem k1);show dp l[j]<_;omega
          · rw [List.getD_eq_getElem?_getD,List.getElem?_eq_getElem k1];rfl
          · rw [List.getD_eq_getElem?_getD,List.getElem?_eq_getElem k2];rfl
          · rw [List.getD_eq_getElem?_getD,List.getElem?_eq_getElem k2]
            have:=ql (List.getElem_mem k2);show dp m[j]<_;omega)
      rw [s1,s2] at h
      rw [eqD]
      by_cases e:l.length=m.length
      · rw [<- e,Nat.min_self,beq_self_eq_true,Bool.and_true,<- jQ l m e] at h
        exact h
      · rw [j8 l m e]
        rw [show (l.length == m.length)=false by simpa using e,Bool.and_false] at h
        exact h
    | @lst _ ys m o2 h2 l2 r2=>
      obtain ⟨ws,u2,p2,z2⟩:=I.list (SqL.of h2)
      rw [Xs]
      exact SeqAt.RcNeAt.tuple_list p1 p2.isList hu
    | rng o2 h2=>rw [dp] at hb;omega
    | scr o2 h2=>rw [dp] at hb;omega
    | scrK _=>rw [dp] at hb;omega
  | rng o2 h2=>rw [dp] at ha;omega
  | scr o2 h2=>rw [dp] at ha;omega
  | scrK _=>rw [dp] at ha;omega
theorem Kf (I:Inv X pins σ H s){O O':Own}(A:Around)(hu:A.units+41<cLine)(a b:Dat)(v u:V)(v' u':Value)(ha:dp a<=40)(ra:Rep H O v a)(rb:Rep H O' u b)(hb:dp b<=40)(rv:zx v v')(ru:zx u u'):SeqAt.RcNeAt A s v' u' (!(eqD a b)):=by
  have ih:∀ (c d:Dat) (v u:V) (v' u':Value),dp c<dp a->Rep H O v c->Rep H O' u d->dp d<1000->zx v v'->zx u u'->SeqAt.EqAt A.in1 s v' u' (eqD c d):=fun c d v u v' u' hc rc rd hd rv ru=>Yy I 40 A.in1 (by show A.units+1+40<_;omega) c d v u v' u' (by omega) (by omega) rc rd hd rv ru
  replace hu:A.units<cLine:=by omega
  by_cases hr:∃ p q,v=.ref p/\u=.ref q
  · obtain ⟨p,q,rfl,rfl⟩:=hr
    cases rv
    cases ru
    exact Xk I ih ra rb (by omega) (by omega) hu
  · cases ra <;> cases rb <;> first
      | with_reducible exact absurd ⟨_,_,rfl,rfl⟩ hr
      | (rw [dp] at ha;omega)
      | (rw [dp] at hb;omega)
      | ((first | (obtain ⟨t0,rfl⟩:=rv) | cases rv);(first | (obtain ⟨t1,rfl⟩:=ru) | cases ru);simp only [eqD,Bool.not_false,Bool.not_true];first | walk_at "sc" | walk_at "sq")
theorem zV (hu:X.A.units+64<cLine):OpR X (compareOp .Eq) (W7 id):=by
 intro pins s σ H x y v u Q I rx ry h
 obtain ⟨O,O',a,b,ra,rb,ha,hb,k⟩:=h
 exact Ao I X.A (by omega) a b x y v u ha ra rb hb rx ry _ _ _ _ ⟨.bl _,H,I,rfl,k⟩
theorem qT (hu:X.A.units+64<cLine):OpR X (compareOp .NotEq) (W7 not):=by
 intro pins s σ H x y v u Q I rx ry h
 obtain ⟨O,O',a,b,ra,rb,ha,hb,k⟩:=h
 exact Kf I X.A (by omega) a b x y v u ha ra rb hb rx ry _ _ _ _ ⟨.bl _,H,I,rfl,k⟩
end
noncomputable def jM (x:AV)(M:MH):Option Dat:=match x with
 | .d x=>some x
 | .ref a=>match M a with
  | some (.lst l)=>(pur l).map .lst
  | _=>none
theorem kA (x:Dat)(M:MH):jM (.d x) M=some x:=rfl
theorem wR {a:Addr}{M:MH}{l:List AV}{ds:List Dat}(h:M a=some (.lst l))(hp:pur l=some ds):jM (.ref a) M=some (.lst ds):=by unfold jM;dsimp only;rw [h];dsimp only;rw [hp];rfl
theorem wW {H:Hp}{O:Own}{M:MH}{v:V}{x:AV}{d:Dat}(w:Wf H O M)(r:zr H O M v x)(h:jM x M=some d):∃ O',Rep H O' v d:=by
 cases x with
 | d x=>cases h;exact ⟨O,r⟩
 | ref a=>
  unfold jM at h
  dsimp only at h
  cases e:M a with
  | none=>rw [e] at h;cases h
  | some o=>
   rw [e] at h
   cases o with
   | lst l=>
    dsimp only at h
    cases ep:pur l with
    | none=>rw [ep] at h;cases h
    | some ds=>
     rw [ep] at h
     cases h
     obtain ⟨xs,hx,rx⟩:=w.mo a _ e
     rw [jr ep] at rx
     have rp:=rx.pure
     refine ⟨vv O a,?_⟩
     rw [r.1]
     exact Rep.lst (fun z=>z.1 rfl) hx rp.1 fun i x d e1 e2=>(rp.2 i x d e1 e2).imp (ke a)
   | _=>cases h
noncomputable def xP (f:Bool->Bool):AR2:=fun x y M Q=>∃ a b,jM x M=some a/\jM y M=some b/\dp a<=40/\dp b<=40/\Q (.d (.bl (f (eqD a b)))) M
theorem V8 {f:Bool->Bool}:ww (W7 f) (xP f):=⟨fun w r1 r2 ⟨a,b,e1,e2,h1,h2,q⟩ k=>by
 obtain ⟨O1,p1⟩:=wW w r1 e1
 obtain ⟨O2,p2⟩:=wW w r2 e2
 exact ⟨O1,O2,a,b,p1,p2,h1,h2,k _ _ _ _ _ q .refl w .bl⟩⟩
theorem kE (i:Int):dp (.int i)=0:=by simp [dp]
theorem QT (ns:List Int):dp (.lst (ns.map .int))<=1:=by
 rw [dp]
 have:dps (ns.map Dat.int)<=0:=jF fun d hd=>by
  obtain ⟨i,_,rfl⟩:=List.mem_map.mp hd
  rw [kE];exact Nat.le_refl _
 omega
theorem yR:∀ (ns ms:List Int),jz (ns.map .int) (ms.map .int)=decide (ns=ms)
 | [],[]=>by simp [jz]
 | [],_ :: _=>by simp [jz]
 | _ :: _,[]=>by simp [jz]
 | a :: r,b :: r'=>by
  rw [List.map_cons,List.map_cons,jz,yR r r',show eqD (.int a) (.int b)=(a == b) by simp [eqD]]
  by_cases h:a=b <;> simp [h]
theorem XS (ns ms:List Int):eqD (.lst (ns.map .int)) (.lst (ms.map .int))=decide (ns=ms):=by rw [eqD,yR]
theorem jf {H:Hp}{O:Own}{M:MH}{vs:List V}{x:AV}(r:zf H O M vs [x]):∃ v,vs=[v]/\zr H O M v x:=by
 obtain ⟨v1,r',rfl,a1,r2⟩:=r.cons_inv
 rw [r2.nil_inv];exact ⟨v1,rfl,a1⟩
theorem kC {H:Hp}{O:Own}{M:MH}{vs:List V}{x y:AV}(r:zf H O M vs [x,y]):∃ v u,vs=[v,u]/\zr H O M v x/\zr H O M u y:=by
 obtain ⟨v1,r',rfl,a1,r2⟩:=r.cons_inv
 obtain ⟨v2,rfl,a2⟩:=jf r2
 exact ⟨v1,v2,rfl,a1,a2⟩
noncomputable def Vb:List AV->MH->AK->Prop:=fun xs M Q=>∃ x l,xs=[x]/\zQ x M=some l/\Q (.d (.int (l.length:Nat))) M
theorem VQ {K:PySem.W.Frag}:vX (fun xs H Q=>∃ p ys,xs=[V.ref p]/\(SqL K H p ys \/ SqT K H p ys)/\Q (V.int ys.length) H) Vb:=⟨fun w r ⟨x,l,e,h,q⟩ k=>by
 subst e
 obtain ⟨v,rfl,rv⟩:=jf r
 obtain ⟨a,xs,rfl,h1,r1⟩:=xS w rv h
 exact ⟨a,xs,rfl,h1.elim (fun h=>.inl (SqL.of h)) (fun h=>.inr (SqT.of h)),by rw [r1.1];exact k _ _ _ _ _ q .refl w .int⟩⟩
noncomputable def bI2 (f:Int->Int->Int):List AV->MH->AK->Prop:=fun xs M Q=>∃ i j,xs=[.d (.int i),.d (.int j)]/\Q (.d (.int (f i j))) M
theorem AB {f:Int->Int->Int}:vX (fun xs H Q=>∃ i j,xs=[V.int i,V.int j]/\Q (V.int (f i j)) H) (bI2 f):=⟨fun w r ⟨i,j,e,q⟩ k=>by
 subst e
 obtain ⟨v,u,rfl,rv,ru⟩:=kC r
 exact ⟨i,j,by rw [zY rv,zY ru],k _ _ _ _ _ q .refl w .int⟩⟩
noncomputable def XJ:List AV->MH->AK->Prop:=fun xs M Q=>∃ x l ds,xs=[x]/\zQ x M=some l/\pur l=some ds/\Q (.d (.tup ds)) M
theorem J7 {K:PySem.W.Frag}:vX (fun xs H Q=>∃ p ys,xs=[V.ref p]/\((SqL K H p ys/\∀ l,H l=none->Q (V.ref l) (upd H l (HO.tup ys))) \/ SqT K H p ys/\Q (V.ref p) H)) XJ:=⟨fun w r ⟨x,l,ds,e,h,hp,q⟩ k=>by
 subst e
 obtain ⟨v,rfl,rv⟩:=jf r
 rw [jr hp] at h
 rcases qX h with h' | ⟨m,rfl,e2⟩
 ·obtain ⟨a,xs,rfl,h1,r1⟩:=qy w rv h'
  exact ⟨a,xs,rfl,.inl ⟨SqL.of h1,fun p hp=>k _ _ _ _ _ q (qh w hp _) (jK w hp _) (xK w hp r1)⟩⟩
 ·obtain rfl:ds=m:=by have:=congrArg pur e2;rw [zF,zF] at this;cases this;rfl
  obtain ⟨a,xs,rfl,h1,r1⟩:=qK (l:=ds.map .d) rv rfl
  exact ⟨a,xs,rfl,.inr ⟨SqT.of h1,k _ _ _ _ _ q .refl w rv⟩⟩⟩
structure QO (r:List V->Hp->VK->Prop)(a:List AV->MH->(List AV->Prop)->Prop):Prop where
 go:∀ {vs:List V} {xs:List AV} {H:Hp} {O:Own} {M:MH} {Q:VK} {Q':List AV->Prop},Wf H O M->zf H O M vs xs->a xs M Q'->(∀ l ys,Q' l->zf H O M ys l->∀ p,H p=none->Q (.ref p) (upd H p (.lst ys)))->r vs H Q
noncomputable def fCB (r:List AV->MH->(List AV->Prop)->Prop)(b:AA):AF:=fun ρ M Q=>b ρ M fun xs M1=>r xs M1 fun l=>Q l M1
theorem xF {r:List V->Hp->VK->Prop}{ra:List AV->MH->(List AV->Prop)->Prop}{u:TA}{b:AA}(hr:QO r ra)(h:jI u b):Za (tCB r u) (fCB ra b):=
 ⟨fun w e q k=>h.go w e q fun x M1 v H1 O1 q1 k1 w1 r1=>hr.go w1 r1 q1 fun l ys q3 r3 p hp=>
  k l M1 p ys _ _ q3 (k1.trans (qF w1 hp _)) (kz w1 hp _ (fun _ z=>nomatch z)) (.inl rfl) (w1.fresh hp).2 (kM w1 k1 hp) zp (r3.ext (qF w1 hp _))⟩
noncomputable def YG:List AV->MH->(List AV->Prop)->Prop:=fun xs M Q=>∃ x l,xs=[x]/\zQ x M=some l/\Q l
theorem yL {K:PySem.W.Frag}:QO (fun xs H Q=>∃ p ys,xs=[V.ref p]/\(SqL K H p ys \/ SqT K H p ys)/\∀ l,H l=none->Q (V.ref l) (upd H l (HO.lst ys))) YG:=⟨fun w r ⟨x,l,e,h,q⟩ k=>by
 subst e
 obtain ⟨v,rfl,rv⟩:=jf r
 obtain ⟨a,xs,rfl,h1,r1⟩:=xS w rv h
 exact ⟨a,xs,rfl,h1.elim (fun h=>.inl (SqL.of h)) (fun h=>.inr (SqT.of h)),k _ _ q r1⟩⟩
theorem jE {H:Hp}{O:Own}{M:MH}:∀ {ns:List Int} {xs:List V},zf H O M xs (ns.map fun i=>AV.d (.int i))->xs=ns.map V.int
 | [],xs,r=>r.nil_inv
 | i :: ns,xs,r=>by
  obtain ⟨v,r',rfl,a1,r2⟩:=r.cons_inv
  rw [zY a1,jE r2];rfl
noncomputable def tyA (x:AV)(M:MH):Option String:=match x with
 | .d .non=>some "NoneType"
 | .d (.bl _)=>some "bool"
 | .d (.int _)=>some "int"
 | .d (.str _)=>some "str"
 | .d (.lst _)=>some "list"
 | .d (.tup _)=>some "tuple"
 | .ref a=>match M a with
  | some (.lst _)=>some "list"
  | some (.dK _)=>some "dict"
  | some (.dT _)=>some "dict"
  | _=>none
 | _=>none
theorem KZ {K:PySem.W.Frag}{H:Hp}{O:Own}{M:MH}{v:V}{x:AV}{t:String}(w:Wf H O M)(r:zr H O M v x)(h:tyA x M=some t):j0 K H v (.type t):=by
 cases x with
 | d x=>
  cases (show Rep H O v x from r) with
  | non=>cases h;exact .non
  | bl=>cases h;exact .bl _
  | int=>cases h;exact .int _
  | str=>cases h;exact .str _
  | lst o e=>cases h;exact .lst e
  | tup o e=>cases h;exact .tup e
  | ty=>cases h
  | rng _ _=>cases h
  | scr _ _=>cases h
  | scrK _=>cases h
 | ref a=>
  unfold tyA at h
  dsimp only at h
  rw [r.1]
  cases e:M a with
  | none=>rw [e] at h;cases h
  | some o=>
   rw [e] at h
   have:=w.mo a o e
   cases o with
   | lst l=>cases h;obtain ⟨xs,hx,_⟩:=this;exact .lst hx
   | dK l=>cases h;obtain ⟨xs,hx,_⟩:=this;exact .dK hx
   | dT l=>cases h;obtain ⟨xs,hx,_⟩:=this;exact .dT hx
   | ins C fs=>cases h
   | exc C fs=>cases h
   | tb R=>cases h
noncomputable def VM:List AV->MH->AK->Prop:=fun xs M Q=>∃ x t c b,xs=[x,.d (.ty c)]/\tyA x M=some t/\isT t c=some b/\Q (.d (.bl b)) M
theorem VL {K:PySem.W.Frag}:vX (fun xs H Q=>∃ x t c b,xs=[x,V.ty c]/\j0 K H x (Value.type t)/\isT t c=some b/\Q (V.bl b) H) VM:=⟨fun w r ⟨x,t,c,b,e,h,hb,q⟩ k=>by
 subst e
 obtain ⟨v,u,rfl,rv,ru⟩:=kC r
 exact ⟨v,t,c,b,by rw [Yc ru],KZ w rv h,hb,k _ _ _ _ _ q .refl w .bl⟩⟩
theorem Qy {H:Hp}{O:Own}{M:MH}:∀ {ns:List String} {xs:List V},zf H O M xs ((ns.map Dat.ty).map .d)->xs=ns.map V.ty
 | [],xs,r=>r.nil_inv
 | i :: ns,xs,r=>by
  obtain ⟨v,r',rfl,a1,r2⟩:=r.cons_inv
  rw [Yc a1,Qy r2];rfl
noncomputable def vW:List Dat->Option (List String)
 | []=>some []
 | .ty n :: r=>(vW r).map (n :: ·)
 | _=>none
theorem QZ:∀ {l:List Dat} {cs:List String},vW l=some cs->l=cs.map Dat.ty
 | [],cs,h=>by cases h;rfl
 | .ty n :: r,cs,h=>by
  unfold vW at h
  cases e:vW r with
  | none=>rw [e] at h;cases h
  | some m=>rw [e] at h;cases h;rw [QZ e];rfl
 | .non :: _,_,h=>by cases h
 | .bl _ :: _,_,h=>by cases h
 | .int _ :: _,_,h=>by cases h
 | .str _ :: _,_,h=>by cases h
 | .lst _ :: _,_,h=>by cases h
 | .tup _ :: _,_,h=>by cases h
 | .rng _ _ _ :: _,_,h=>by cases h
 | .scr _ _ :: _,_,h=>by cases h
noncomputable def XT:List AV->MH->AK->Prop:=fun xs M Q=>∃ x t l cs b,xs=[x,.d (.tup l)]/\vW l=some cs/\tyA x M=some t/\xx t cs=some b/\Q (.d (.bl b)) M
theorem K2 {K:PySem.W.Frag}:vX (fun xs H Q=>∃ x t p cs b,xs=[x,V.ref p]/\H p=some (HO.tup (List.map V.ty cs))/\j0 K H x (Value.type t)/\xx t cs=some b/\Q (V.bl b) H) XT:=⟨fun w r ⟨x,t,l,cs,b,e,hc,h,hb,q⟩ k=>by
 subst e
 obtain ⟨v,u,rfl,rv,ru⟩:=kC r
 rw [QZ hc] at ru
 obtain ⟨a,xs,rfl,h1,r1⟩:=qK (l:=(cs.map Dat.ty).map .d) ru rfl
 rw [Qy r1] at h1
 exact ⟨v,t,a,cs,b,rfl,h1,KZ w rv h,hb,k _ _ _ _ _ q .refl w .bl⟩⟩
theorem Qt {H:Hp}{O:Own}{M:MH}:∀ {ns:List Bool} {xs:List V},zf H O M xs (ns.map fun i=>AV.d (.bl i))->xs=ns.map V.bl
 | [],xs,r=>r.nil_inv
 | i :: ns,xs,r=>by
  obtain ⟨v,r',rfl,a1,r2⟩:=r.cons_inv
  rw [yv a1,Qt r2];rfl
noncomputable def BJ (f:List Bool->Bool):List AV->MH->AK->Prop:=fun xs M Q=>∃ x bs,xs=[x]/\qe x M=some (List.map (fun b=>AV.d (.bl b)) bs)/\Q (.d (.bl (f bs))) M
theorem Y6 {K:PySem.W.Frag}{f:List Bool->Bool}:vX (fun xs H Q=>∃ p bs,xs=[V.ref p]/\SqL K H p (List.map V.bl bs)/\Q (V.bl (f bs)) H) (BJ f):=⟨fun w r ⟨x,bs,e,h,q⟩ k=>by
 subst e
 obtain ⟨v,rfl,rv⟩:=jf r
 obtain ⟨a,xs,rfl,h1,r1⟩:=qy w rv h
 rw [Qt r1] at h1
 exact ⟨a,bs,rfl,SqL.of h1,k _ _ _ _ _ q .refl w .bl⟩⟩
noncomputable def WB:List AV->MH->AK->Prop:=fun xs M Q=>∃ b,xs=[.d (.int b)]/\Q (.d (.rng 0 b 1)) M
theorem Kv:vX (fun xs H Q=>∃ b,xs=[V.int b]/\∀ (p:Addr),H p=none->Q (V.ref p) (upd H p (wj p 0 b 1))) WB:=⟨fun w r ⟨b,e,q⟩ k=>by
 subst e
 obtain ⟨v,rfl,rv⟩:=jf r
 exact ⟨b,by rw [zY rv],fun p hp=>k _ _ _ _ _ q (qh w hp _) (jK w hp _) (Rep.rng (w.fresh hp).1 zp)⟩⟩
noncomputable def YQ:List AV->MH->(List AV->Prop)->Prop:=fun xs M Q=>∃ a b c n,xs=[.d (.rng a b c)]/\Builtin.Range.small a b c=true/\Builtin.Range.rangeSize a b c=((n:Nat):Int)/\n<=100000/\Q ((qA a c n).map fun i=>AV.d (.int i))
theorem y9:QO (fun xs H Q=>∃ p a b c n,xs=[.ref p]/\H p=some (wj p a b c)/\Builtin.Range.small a b c=true/\Builtin.Range.rangeSize a b c=((n:Nat):Int)/\n<=100000/\∀ l,H l=none->Q (.ref l) (upd H l (.lst ((qA a c n).map V.int)))) YQ:=⟨fun {vs xs H O M Q Q'} w r ⟨a,b,c,n,e,h1,h2,h3,q⟩ k=>by
 subst e
 obtain ⟨v,rfl,rv⟩:=jf r
 cases (show Rep H O v (.rng a b c) from rv) with
 | rng o h=>exact ⟨_,a,b,c,n,rfl,h,h1,h2,h3,k _ _ q (vj _)⟩⟩
structure V1 (r:V->List V->Hp->VK->Prop)(a:AV->List AV->MH->AK->Prop):Prop where
 go:∀ {x:V} {dx:AV} {vs:List V} {xs:List AV} {H:Hp} {O:Own} {M:MH} {Q:VK} {Q':AK},Wf H O M->zr H O M x dx->zf H O M vs xs->a dx xs M Q'->(∀ x M' v H' O',Q' x M'->Ext H O M H' O' M'->Wf H' O' M'->zr H' O' M' v x->Q v H')->r x vs H Q
noncomputable def aBM (r:AV->List AV->MH->AK->Prop)(a:AE)(b:AA):AE:=fun ρ M Q=>a ρ M fun x M1=>(∃ l,qe x M1=some l)/\b ρ M1 fun xs M2=>r x xs M2 Q
theorem BB {K:PySem.W.Frag}{r:V->List V->Hp->VK->Prop}{ra:AV->List AV->MH->AK->Prop}{t:TE}{u:TA}{a:AE}{b:AA}(hr:V1 r ra)(h1:zI t a)(h2:jI u b):zI (tBM K "list" r t u) (aBM ra a b):=
 ⟨fun w e q k=>h1.go w e q fun x M1 v H1 O1 ⟨⟨l,hl⟩,q1⟩ k1 w1 r1=>⟨by
  obtain ⟨a,xs,rfl,hx,_⟩:=qy w1 r1 hl
  exact .inl ⟨rfl,xs,SqL.of hx⟩,h2.go w1 (e.ext k1) q1 fun y M2 u H2 O2 q2 k2 w2 r2=>hr.go w2 (r1.ext k2) r2 q2 fun z M3 v3 H3 O3 q3 k3 w3 r3=>k z M3 v3 H3 O3 q3 ((k1.trans k2).trans k3) w3 r3⟩⟩
noncomputable def B6 (r:AV->List AV->MH->AK->Prop)(a:AE):AE:=fun ρ M Q=>a ρ M fun x M1=>(∃ l,qe x M1=some l)/\r x [] M1 Q
theorem Vp {K:PySem.W.Frag}{r:V->List V->Hp->VK->Prop}{ra:AV->List AV->MH->AK->Prop}{t:TE}{a:AE}(hr:V1 r ra)(h1:zI t a):zI (Ak K "list" r t) (B6 ra a):=
 ⟨fun w e q k=>h1.go w e q fun x M1 v H1 O1 ⟨⟨l,hl⟩,q1⟩ k1 w1 r1=>⟨by
  obtain ⟨a,xs,rfl,hx,_⟩:=qy w1 r1 hl
  exact .inl ⟨rfl,xs,SqL.of hx⟩,hr.go w1 r1 .nil q1 fun z M3 v3 H3 O3 q3 k3 w3 r3=>k z M3 v3 H3 O3 q3 (k1.trans k3) w3 r3⟩⟩
theorem wf {H:Hp}{O:Own}{M:MH}{p:Addr}{l l':List AV}{xs':List V}(w:Wf H O M)(hm:M p=some (.lst l))(r:zf H O M xs' l'):Ext H O M (upd H p (.lst xs')) O (mup M p (.lst l'))/\Wf (upd H p (.lst xs')) O (mup M p (.lst l')):=
 have np:=qU hm
 ⟨jN w np _ _,Zp w np (fun _ z=>nomatch z) ⟨_,zp,r.ext (jN w np _ _)⟩⟩
noncomputable def QF:AV->List AV->MH->AK->Prop:=fun x xs M Q=>∃ p l y,x=.ref p/\xs=[y]/\M p=some (.lst l)/\l.length<sizeLine/\Q (.d .non) (mup M p (.lst (l ++ [y])))
theorem Z3:V1 xE QF:=⟨fun w r1 r2 ⟨p,l,y,e1,e2,hm,hs,q⟩ k=>by
 subst e1 e2
 obtain ⟨v,rfl,rv⟩:=jf r2
 obtain ⟨xs,hx,rx⟩:=w.mo p _ hm
 obtain ⟨k1,w1⟩:=wf w hm (rx.snoc rv)
 exact ⟨p,xs,v,r1.1,rfl,hx,by rw [rx.1];exact hs,k _ _ _ _ _ q k1 w1 .non⟩⟩
noncomputable def B0:AV->List AV->MH->AK->Prop:=fun x xs M Q=>∃ p l y,x=.ref p/\xs=[]/\M p=some (.lst l)/\l[l.length - 1]?=some y/\Q y (mup M p (.lst l.dropLast))
theorem zf.dropLast {H:Hp}{O:Own}{M:MH}{xs:List V}{l:List AV}(a:zf H O M xs l):zf H O M xs.dropLast l.dropLast:=by
 rw [List.dropLast_eq_take,List.dropLast_eq_take,a.1];exact a.take _
theorem Wp:V1 Av B0:=⟨fun w r1 r2 ⟨p,l,y,e1,e2,hm,hy,q⟩ k=>by
 subst e1 e2
 obtain ⟨xs,hx,rx⟩:=w.mo p _ hm
 obtain ⟨v,hv,rv⟩:=rx.get hy
 obtain ⟨k1,w1⟩:=wf w hm rx.dropLast
 exact ⟨p,xs,v,r1.1,r2.nil_inv,hx,by rw [rx.1];exact hv,k _ _ _ _ _ q k1 w1 (rv.ext k1)⟩⟩
noncomputable def yk (r:Addr):MO->Prop
 | .lst l=>AV.ref r ∈ l
 | .dK kvs=>AV.ref r ∈ kvs.map (·.2)
 | .dT kvs=>AV.ref r ∈ kvs.map (·.2)
 | .ins _ fs=>AV.ref r ∈ fs.map (·.2)
 | .exc _ _=>False
 | .tb _=>False
inductive Dee (M M2:MH):AV->Dat->Prop
 | d {x:Dat}:Dee M M2 (.d x) x
 | lst {p:Addr} {l:List AV} {ds:List Dat}:M p=some (.lst l)->M2 p=none->l.length=ds.length->(∀ (i:Nat) a b,l[i]?=some a->ds[i]?=some b->Dee M M2 a b)->Dee M M2 (.ref p) (.lst ds)
structure Zq (M0 M':MH)(x x':AV)(M'':MH):Prop where
 sub:∀ q,M'' q=M' q \/ (M0 q=none/\M'' q=none)
 cl:∀ q o,M'' q=some o->M0 q=some o \/ ∀ r,yk r o->M'' r ≠ none
 res:(x'=x/\∀ p,x=.ref p->M'' p ≠ none) \/ (∃ p l ds,x=.ref p/\M' p=some (.lst l)/\pur l=some ds/\M'' p=none/\x'=.d (.lst ds)) \/ ∃ d,Dee M' M'' x d/\x'=.d d
theorem Dee.rep {H:Hp}{O:Own}{M M2:MH}(w:Wf H O M){x:AV}{d:Dat}(h:Dee M M2 x d):∀ {v:V},zr H O M v x->Rep H (fun a=>O a/\¬ (M a ≠ none/\M2 a=none)) v d:=by
 induction h with
 | d=>exact fun r=>Rep.imp (fun a u h e=>⟨e,fun z=>h z.1⟩) r
 | @lst p l ds hm hn hl _ ih=>
  intro v r
  obtain ⟨xs,hx,rx⟩:=w.mo p _ hm
  rw [r.1]
  refine Rep.lst (fun z=>z.2 ⟨qU hm,hn⟩) hx (rx.1.trans hl) fun i x d e1 e2=>?_
  have hi:=(List.getElem?_eq_some_iff.mp e2).1
  have ha:l[i]?=some (l[i]'(by omega)):=List.getElem?_eq_getElem (by omega)
  exact ih i _ d ha e2 (rx.2 i x _ e1 ha)
theorem V9 {H0 H : Hp}{O0 O : Own}{M0 M' M'' : MH}{x x' : AV}{v : V}(w0 : Wf H0 O0 M0)(w : Wf H O M')(k : Ext H0 O0 M0 H O M')(r : zr H O M' v x)(f : Zq M0 M' x x' M'') :
    ∃ O'',Wf H O'' M''/\Ext H0 O0 M0 H O'' M''/\zr H O'' M'' v x'/\∀ a,O a->M' a=none->O'' a/\M'' a=none:=by
  have ks:∀ a u,¬ O a->H a=some u->H a=some u/\¬ (O a/\¬ (M' a ≠ none/\M'' a=none)):=fun a u h e=>⟨e,fun z=>h z.1⟩
  have k0:∀ a,M0 a ≠ none->M'' a=M' a:=fun a h=>(f.sub a).elim (fun z=>z) (fun z=>absurd z.1 h)
  have m0:∀ a,M0 a ≠ none->M'' a ≠ none:=fun a h=>by rw [k0 a h];exact k.mst a h
  have avs:∀ {xs:List V} {l:List AV},zf H O M' xs l->(∀ r,AV.ref r ∈ l->M'' r ≠ none)->zf H (fun a=>O a/\¬ (M' a ≠ none/\M'' a=none)) M'' xs l:=fun {xs l} rr hr=>⟨rr.1,fun i y d e1 e2=>by
    have:=rr.2 i y d e1 e2
    cases d with
    | d d=>exact Rep.imp ks this
    | ref a=>exact ⟨this.1,hr a (List.mem_of_getElem? e2)⟩⟩
  have refs0:∀ q o,M0 q=some o->∀ r,yk r o->M0 r ≠ none:=fun q o e r hr=>by
    have:=w0.mo q o e
    cases o with
    | lst l=>
      obtain ⟨xs,_,rr⟩:=this
      obtain ⟨i,hi⟩:=List.getElem?_of_mem hr
      obtain ⟨y,_,ry⟩:=rr.get hi
      exact ry.2
    | dK l=>
      obtain ⟨xs,_,rr⟩:=this
      obtain ⟨i,hi⟩:=List.getElem?_of_mem hr
      obtain ⟨y,_,ry⟩:=rr.2.get hi
      exact ry.2
    | dT l=>
      obtain ⟨xs,_,rr⟩:=this
      obtain ⟨i,hi⟩:=List.getElem?_of_mem hr
      obtain ⟨y,_,ry⟩:=rr.2.get hi
      exact ry.2
    | ins C l=>
      obtain ⟨dx,xs,_,rr,_⟩:=this
      obtain ⟨i,hi⟩:=List.getElem?_of_mem hr
      obtain ⟨y,_,ry⟩:=rr.2.get hi
      exact ry.2
    | exc C l=>exact hr.elim
    | tb R=>exact hr.elim
  refine ⟨fun a=>O a/\¬ (M' a ≠ none/\M'' a=none),⟨fun q o e=>?_,fun a h=>?_,fun a h=>w.al a h.1⟩,⟨fun a u h e=>?_,fun a h e=>?_,m0⟩,?_,fun a h e=>⟨⟨h,fun z=>z.1 e⟩,(f.sub a).elim (fun z=>z.trans e) (fun z=>z.2)⟩⟩
  · have e' : M' q = some o := by
      rcases f.sub q with z | z
      · rw [<- z];exact e
      · rw [z.2] at e;cases e
    have hr:∀ r,yk r o->M'' r ≠ none:=by
      rcases f.cl q o e with z | z
      · exact fun r hr=>m0 r (refs0 q o z r hr)
      · exact z
    have:=w.mo q o e'
    cases o with
    | lst l=>obtain ⟨xs,h1,rr⟩:=this;exact ⟨xs,h1,avs rr hr⟩
    | dK l=>obtain ⟨xs,h1,rr⟩:=this;exact ⟨xs,h1,rr.1,avs rr.2 hr⟩
    | dT l=>obtain ⟨xs,h1,rr⟩:=this;exact ⟨xs,h1,rr.1,avs rr.2 hr⟩
    | ins C l=>
      obtain ⟨dx,xs,h1,rr,h2,h3,h4⟩:=this
      refine ⟨dx,xs,h1,⟨rr.1,avs rr.2 hr⟩,⟨h2,fun z=>z.1 h3⟩,?_,h4⟩
      rcases f.sub dx with z | z
      · rw [z];exact h3
      · exact z.2
    | exc C l=>
      obtain ⟨d,h1,h2⟩:=this
      refine ⟨d,h1,?_⟩
      rcases h2 with h2 | ⟨dx,e1,h2,h3,h4⟩
      · exact .inl h2
      · refine .inr ⟨dx,e1,h2,⟨h3,fun z=>z.1 h4⟩,?_⟩
        rcases f.sub dx with z | z
        · rw [z];exact h4
        · exact z.2
    | tb R=>obtain ⟨ps,h1,h2⟩:=this;exact ⟨ps,h1,h2.imp id fun ⟨c,oc,u,a1,a2,a3⟩=>⟨c,oc,u,a1,fun z=>a2 z.1,a3⟩⟩
  · refine ⟨w.own a ?_,fun z=>h z.2⟩
    rcases f.sub a with z | z
    · rw [<- z];exact h
    · exact absurd z.2 h
  · obtain ⟨x1,x2⟩:=k.fix a u h e
    exact ⟨x1,fun z=>x2 z.1⟩
  · obtain ⟨x1,x2,x3⟩:=k.prv a h e
    refine ⟨x1,⟨x2,fun z=>z.1 x3⟩,?_⟩
    rcases f.sub a with z | z
    · rw [z];exact x3
    · exact z.2
  · rcases f.res with ⟨rfl,hp⟩ | ⟨p,l,ds,rfl,hm,hp,hn,rfl⟩ | ⟨d,hd,rfl⟩
    · cases x' with
      | d d=>exact Rep.imp ks r
      | ref a=>exact ⟨r.1,hp a rfl⟩
    · obtain ⟨xs,hx,rx⟩:=w.mo p _ hm
      rw [jr hp] at rx
      have rp:=rx.pure
      rw [r.1]
      exact Rep.lst (fun z=>z.2 ⟨qU hm,hn⟩) hx rp.1 fun i x d e1 e2=>(rp.2 i x d e1 e2).imp ks
    · exact hd.rep w r
theorem Zz {H0 H:Hp}{O0 O:Own}{M0 M' M'':MH}{x x':AV}{v:V}(w0:Wf H0 O0 M0)(w:Wf H O M')(k:Ext H0 O0 M0 H O M')(r:zr H O M' v x)(f:Zq M0 M' x x' M'') :
  ∃ O'',Wf H O'' M''/\Ext H0 O0 M0 H O'' M''/\zr H O'' M'' v x':=let ⟨O2,a,b,c,_⟩:=V9 w0 w k r f;⟨O2,a,b,c⟩
noncomputable def Fr (M0 M:MH):Prop:=∀ q,M0 q ≠ none->M q=M0 q
theorem Fr.refl {M:MH}:Fr M M:=fun _ _=>rfl
theorem Fr.mup {M0 M:MH}(f:Fr M0 M){p:Addr}(h:M0 p=none)(o:MO):Fr M0 (mup M p o):=fun q hq=>by rw [zq (fun z=>hq (by rw [z];exact h))];exact f q hq
theorem Fr.sub {M0 M:MH}(f:Fr M0 M)(q:Addr):M0 q=M q \/ (M0 q=none/\M0 q=none):=by
 cases e:M0 q with
 | none=>exact .inr ⟨rfl,rfl⟩
 | some o=>exact .inl (by rw [f q (by rw [e];exact fun z=>nomatch z),e])
theorem yI {M0 M:MH}(f:Fr M0 M)(d:Dat):Zq M0 M (.d d) (.d d) M0:=⟨f.sub,fun q o e=>.inl e,.inl ⟨rfl,fun p z=>nomatch z⟩⟩
theorem Wi {M0 M:MH}(f:Fr M0 M){p:Addr}{l:List AV}{ds:List Dat}(h0:M0 p=none)(h:M p=some (.lst l))(hp:pur l=some ds):Zq M0 M (.ref p) (.d (.lst ds)) M0:=⟨f.sub,fun q o e=>.inl e,.inr (.inl ⟨p,l,ds,rfl,h,hp,h0,rfl⟩)⟩
theorem xD {l:List AV}{ds:List Dat}(h:pur l=some ds)(r:Addr):AV.ref r ∉ l:=by
 rw [jr h];intro z
 obtain ⟨d,_,e⟩:=List.mem_map.mp z
 cases e
theorem Vw {M0 M:MH}(f:Fr M0 M){p:Addr}{l:List AV}{ds:List Dat}(h0:M0 p=none)(h:M p=some (.lst l))(hp:pur l=some ds):Zq M0 M (.ref p) (.ref p) (mup M0 p (.lst l)):=by
 refine ⟨fun q=>?_,fun q o e=>?_,.inl ⟨rfl,fun q z=>by cases z;rw [ze];exact fun z=>nomatch z⟩⟩
 ·by_cases c:q=p
  ·rw [c,ze,h];exact .inl rfl
  ·rw [zq c];exact f.sub q
 ·by_cases c:q=p
  ·rw [c,ze] at e
   cases e
   exact .inr fun r hr=>absurd hr (xD hp r)
  ·rw [zq c] at e;exact .inl e
noncomputable def qz (N:List Str)(xs:List AV):ASt:=xs.map some ++ List.replicate (N.length - xs.length) none
theorem YA {H:Hp}{O:Own}{M:MH}{vs:List V}{xs:List AV}(r:zf H O M vs xs)(N:List Str):Er H O M (jk N vs) (qz N xs):=by
 unfold jk qz
 refine ⟨by simp [r.1],fun i x h=>?_⟩
 by_cases c:i<xs.length
 ·rw [List.getElem?_append_left (by simpa using c),List.getElem?_map] at h
  cases e:xs[i]? with
  | none=>rw [e] at h;cases h
  | some y=>
   rw [e] at h
   cases h
   obtain ⟨v,hv,rv⟩:=r.get e
   exact ⟨v,by rw [List.getElem?_append_left (by rw [List.length_map,r.1];exact c),List.getElem?_map,hv];rfl,rv⟩
 ·rw [List.getElem?_append_right (by simp;omega),List.getElem?_replicate] at h
  split at h <;> cases h
noncomputable def rtA (M0:MH)(Q:AK):AK:=fun x M'=>∃ x' M'',Zq M0 M' x x' M''/\Q x' M''
theorem dfA {P:Program}{w:World}{K:PySem.W.Frag}{mg:Str->Option Value}{base:Heap}{x:Str}{st:Stmt}{N ps:List Str}{k:Nat}{a:ASp}(at_:At K mg x st)(S:zO N ps (zn st))
  (hb:∀ (kV doc pm:Value) (an:Option Addr) (cdv ct:Value) (us:List Value),us.length=ps.length->bindArgs (PySem.W.fnOf x x (jn st) (qN st) (zn st) .none kV doc pm an cdv ct) ⟨us,[]⟩=pure (ps.zip us))
  (len:∀ xs M Q,a xs M Q->xs.length=ps.length)
  (hbody:∀ (f:Addr) (cdv:Value) (A:Around) (outer:List Env) (s:Shared) (H:Hp) (E:XK),jw k (A.deeper (envOfC x (zn st) s.heap.objs.size f cdv)) ->
   ∃ t,PSs (vM CX0 P w K mg base N x (zn st) f cdv A outer s H E).nox (qN st) t/\∃ b,jc t b/\∀ xs M Q,a xs M Q->b M { nx:=fun _ M'=>rtA M Q (.d .non) M',rt:=rtA M Q } (qz N xs) M):Df P w K mg base x ps (k+1) (cSp a):=by
 refine va at_ S hb (fun vs H Q E h=>?_) (fun f cdv A outer s H vs Q E hr h=>?_)
 ·obtain ⟨xs,M,O,Q',w,r,q,_⟩:=h
  rw [r.1];exact len xs M Q' q
 ·obtain ⟨t,ht,b,hb,hq⟩:=hbody f cdv A outer s H E hr
  refine ⟨t,ht,?_⟩
  obtain ⟨xs,M,O,Q',w,r,q,kk⟩:=h
  refine hb.go w w (YA r N) .refl (hq xs M Q' q) ⟨fun σ H' O' ρ M' w' e' x' q'=>?_,fun v y H' O' M' w' x' r' q'=>?_,fun _ _ _ _ _ _ _ _ z=>z.elim,fun _ _ _ _ _ _ _ _ z=>z.elim⟩
  ·obtain ⟨y',M'',f,q2⟩:=q'
   obtain ⟨O'',w2,k2,r2⟩:=Zz w w' x' (show zr H' O' M' .non (.d .non) from .non) f
   exact kk _ _ _ _ _ q2 k2 w2 r2
  ·obtain ⟨y',M'',f,q2⟩:=q'
   obtain ⟨O'',w2,k2,r2⟩:=Zz w w' x' r' f
   exact kk _ _ _ _ _ q2 k2 w2 r2
structure DR (tr:Addr->TR)(a:ATR):Prop where
 go:∀ D,Q3 D (tr D) a
theorem Kn {t u:TE}{a b:AE}(h1:zI t a)(h2:zI u b):zI (tOp Wm t u) (aFz (fOp Bm a b)):=j9 (vQ Zd h1 h2)
theorem X1 {t u:TE}{a b:AE}(h1:zI t a)(h2:zI u b):zI (tOp Vn t u) (aFz (fOp Ah a b)):=j9 (vQ wy h1 h2)
theorem JZ {K:PySem.W.Frag}{u:TA}{b:AA}(h:jI u b):zI (tCB (fun xs H Q=>∃ p ys,xs=[V.ref p]/\(SqL K H p ys \/ SqT K H p ys)/\∀ l,H l=none->Q (V.ref l) (upd H l (HO.lst ys))) u) (aFz (fCB YG b)):=j9 (xF yL h)
theorem Jt {u:TA}{b:AA}(h:jI u b):zI (tCB (fun xs H Q=>∃ p a b c n,xs=[.ref p]/\H p=some (wj p a b c)/\Builtin.Range.small a b c=true/\Builtin.Range.rangeSize a b c=((n:Nat):Int)/\n<=100000/\∀ l,H l=none->Q (.ref l) (upd H l (.lst ((qA a c n).map V.int)))) u) (aFz (fCB YQ b)):=j9 (xF y9 h)
theorem ex2 {t:TS}{q:AS->Prop}{b:AS}(h:jc t b)(k:q b):∃ b,jc t b/\q b:=⟨b,h,k⟩
section
variable {X:Cx}{K:PySem.W.Frag}
end
theorem Bg {τ:Type}(R:τ->ASt)(f:AV->AV){ag:AG}{ae:AE}{G:MH->Prop}{N:List AV->ASt->MH->Prop}{l:List AV}{ρ:ASt}{M:MH}(h0:∃ o,ρ=R o)(hG:G M)(hl:l.length<=100000)
  (hs:∀ (o:τ) (x:AV) (Q:AV->ASt->MH->Prop),x ∈ l->(∀ o',Q (f x) (R o') M)->ag x (R o) M fun ρ2 M2=>ae ρ2 M2 fun y M3=>Q y ρ2 M3) (hN:∀ o,N (l.map f) (R o) M):wk ag yf (ku ae) G N l [] ρ M:=by
 have hsl:100000<sizeLine:=by rw [sizeLine_eq];decide
 refine ⟨fun i acc ρ' M'=>i<=l.length/\acc=(l.take i).map f/\M'=M/\∃ o,ρ'=R o,⟨Nat.zero_le _,rfl,rfl,h0⟩,?_,?_⟩
 ·rintro i x acc ρ' M' hx ⟨hi,rfl,rfl,o,rfl⟩
  have hil:=(List.getElem?_eq_some_iff.mp hx).1
  refine ⟨hG,?_⟩
  refine hs o x (fun y ρ2 M3=>((l.take i).map f).length<sizeLine/\(i+1<=l.length/\(l.take i).map f ++ [y]=(l.take (i+1)).map f/\M3=M'/\∃ o,ρ2=R o)) (List.mem_of_getElem? hx) fun o'=>⟨by rw [List.length_map,List.length_take];omega,hil,?_,rfl,o',rfl⟩
  rw [List.take_add_one,hx,List.map_append];rfl
 ·rintro acc ρ' M' ⟨_,rfl,rfl,o,rfl⟩
  rw [List.take_length]
  exact ⟨hG,hN o⟩
theorem X2 {α:Type}(F:α->Dat)(l:List α):pur (l.map fun a=>AV.d (F a))=some (l.map F):=by
 have:(l.map fun a=>AV.d (F a))=(l.map F).map .d:=by rw [List.map_map];rfl
 rw [this,zF]
theorem JT {τ:Type}(R:τ->ASt)(p:AV->Bool)(f:AV->AV){ag:AG}{at_:AT}{ae:AE}{G:MH->Prop}{N:List AV->ASt->MH->Prop}{l:List AV}{ρ:ASt}{M:MH}(h0:∃ o,ρ=R o)(hG:G M)(hl:l.length<=100000)
  (hs:∀ (o:τ) (x:AV) (Q:Option AV->ASt->MH->Prop),x ∈ l->(∀ o',Q (if p x then some (f x) else none) (R o') M)->ag x (R o) M fun ρ2 M2=>at_ ρ2 M2 fun b M3=>if b=true then ae ρ2 M3 fun y M4=>Q (some y) ρ2 M4 else Q none ρ2 M3)
  (hN:∀ o,N ((l.filter p).map f) (R o) M):wk ag at_ (ku ae) G N l [] ρ M:=by
 have hsl:100000<sizeLine:=by rw [sizeLine_eq];decide
 refine ⟨fun i acc ρ' M'=>i<=l.length/\acc=((l.take i).filter p).map f/\M'=M/\∃ o,ρ'=R o,⟨Nat.zero_le _,rfl,rfl,h0⟩,?_,?_⟩
 ·rintro i x acc ρ' M' hx ⟨hi,rfl,rfl,o,rfl⟩
  have hil:=(List.getElem?_eq_some_iff.mp hx).1
  have tk:l.take (i+1)=l.take i ++ [x]:=by rw [List.take_add_one,hx];rfl
  have hlen:(((l.take i).filter p).map f).length<=i:=by
   rw [List.length_map]
   exact Nat.le_trans (List.length_filter_le _ _) (by rw [List.length_take];omega)
  refine ⟨hG,?_⟩
  refine hs o x (fun y ρ2 M3=>match y with | some y=>(((l.take i).filter p).map f).length<sizeLine/\(i+1<=l.length/\((l.take i).filter p).map f ++ [y]=((l.take (i+1)).filter p).map f/\M3=M'/\∃ o,ρ2=R o) | none=>i+1<=l.length/\((l.take i).filter p).map f=((l.take (i+1)).filter p).map f/\M3=M'/\∃ o,ρ2=R o) (List.mem_of_getElem? hx) fun o'=>?_
  rw [tk,List.filter_append]
  cases e:p x with
  | true=>rw [if_pos rfl];exact ⟨by omega,hil,by rw [List.filter_cons_of_pos e,List.map_append];rfl,rfl,o',rfl⟩
  | false=>rw [if_neg (by decide)];exact ⟨hil,by rw [List.filter_cons_of_neg (by rw [e];decide),List.filter_nil,List.append_nil],rfl,o',rfl⟩
 ·rintro acc ρ' M' ⟨_,rfl,rfl,o,rfl⟩
  rw [List.take_length]
  exact ⟨hG,hN o⟩
theorem Yn:isT "int" "int"=some true:=by decide +kernel
theorem Zr:isT "int" "bool"=some false:=by decide +kernel
theorem XC:isT "int" "str"=some false:=by decide +kernel
theorem A3:isT "int" "list"=some false:=by decide +kernel
theorem Af:isT "int" "tuple"=some false:=by decide +kernel
theorem Yo:isT "bool" "int"=some true:=by decide +kernel
theorem Zo:isT "bool" "bool"=some true:=by decide +kernel
theorem Xa:isT "bool" "str"=some false:=by decide +kernel
theorem A4:isT "bool" "list"=some false:=by decide +kernel
theorem Ay:isT "bool" "tuple"=some false:=by decide +kernel
theorem Bl:isT "str" "int"=some false:=by decide +kernel
theorem Bb:isT "str" "bool"=some false:=by decide +kernel
theorem vA:isT "str" "str"=some true:=by decide +kernel
theorem W3:isT "str" "list"=some false:=by decide +kernel
theorem W8:isT "str" "tuple"=some false:=by decide +kernel
theorem Bk:isT "NoneType" "int"=some false:=by decide +kernel
theorem BA:isT "NoneType" "bool"=some false:=by decide +kernel
theorem Z5:isT "NoneType" "str"=some false:=by decide +kernel
theorem Ax:isT "NoneType" "list"=some false:=by decide +kernel
theorem BE:isT "NoneType" "tuple"=some false:=by decide +kernel
theorem AX:isT "list" "int"=some false:=by decide +kernel
theorem W0:isT "list" "bool"=some false:=by decide +kernel
theorem Ap:isT "list" "str"=some false:=by decide +kernel
theorem ZO:isT "list" "list"=some true:=by decide +kernel
theorem Zt:isT "list" "tuple"=some false:=by decide +kernel
theorem W6:isT "tuple" "int"=some false:=by decide +kernel
theorem WS:isT "tuple" "bool"=some false:=by decide +kernel
theorem W5:isT "tuple" "str"=some false:=by decide +kernel
theorem ZA:isT "tuple" "list"=some false:=by decide +kernel
theorem Qb:isT "tuple" "tuple"=some true:=by decide +kernel
theorem YM:xx "int" ["list","tuple"]=some false:=by decide +kernel
theorem Ks:xx "bool" ["list","tuple"]=some false:=by decide +kernel
theorem Xg:xx "str" ["list","tuple"]=some false:=by decide +kernel
theorem Ky:xx "NoneType" ["list","tuple"]=some false:=by decide +kernel
theorem XX:xx "list" ["list","tuple"]=some true:=by decide +kernel
theorem Yw:xx "tuple" ["list","tuple"]=some true:=by decide +kernel
theorem YJ:vW []=some []:=rfl
theorem Jj {n:String}{r:List Dat}:vW (.ty n :: r)=(vW r).map (n :: ·):=rfl
theorem B7 (M:MH):tyA (.d .non) M=some "NoneType":=rfl
theorem B1 (b:Bool)(M:MH):tyA (.d (.bl b)) M=some "bool":=rfl
theorem Dh (i:Int)(M:MH):tyA (.d (.int i)) M=some "int":=rfl
theorem DF (s:Str)(M:MH):tyA (.d (.str s)) M=some "str":=rfl
theorem Dj (l:List Dat)(M:MH):tyA (.d (.lst l)) M=some "list":=rfl
theorem BR (l:List Dat)(M:MH):tyA (.d (.tup l)) M=some "tuple":=rfl
theorem JA (x:Dat)(r:List AV):pur (.d x :: r)=match pur r with | some l=>some (x :: l) | none=>none:=rfl
theorem WU (i j:Int):eqS (.int i) (.int j)=some (decide (i=j)):=rfl
theorem Br (i j:Bool):eqS (.bl i) (.bl j)=some (decide (i=j)):=rfl
theorem Ab (i j:Str):eqS (.str i) (.str j)=some (decide (i=j)):=rfl
theorem Wa:jD (.d .non)=true:=rfl
theorem Ws (i:Int):jD (.d (.int i))=false:=rfl
theorem Wg (i:List Dat):jD (.d (.lst i))=false:=rfl
theorem V6 (i:List Dat):jD (.d (.tup i))=false:=rfl
theorem Wb (i:Addr):jD (.ref i)=false:=rfl
theorem Vq (i:Str):jD (.d (.str i))=false:=rfl
theorem Vl (i:Bool):jD (.d (.bl i))=false:=rfl
theorem Xx {H H':Hp}{O:Own}{M:MH}(w:Wf H O M)(k:Kp [] H H'):Ext H O M H' O M/\Wf H' O M:=by
 have e:Ext H O M H' O M:=⟨fun a o h e=>⟨k a o (by simp) e,h⟩,fun a h e=>⟨by
  obtain ⟨o,ho,_⟩:=w.al a h
  rw [ho];exact k a o (by simp) ho,h,e⟩,fun _ h=>h⟩
 refine ⟨e,⟨fun a o h=>qQ.ext e ?_ (w.mo a o h),w.own,fun a h=>?_⟩⟩
 ·obtain ⟨u,hu,_⟩:=w.al a (w.own a (by rw [h];exact fun z=>nomatch z))
  rw [hu];exact k a u (by simp) hu
 ·obtain ⟨o,ho,hn⟩:=w.al a h
  exact ⟨o,k a o (by simp) ho,hn⟩
theorem BD {H H':Hp}{O:Own}{M:MH}(w:Wf H O M){b:Addr}{l:List AV}(hb:M b=some (.lst l))(k:Kp [b] H H'){ns:List Int}(h:H' b=some (.lst (ns.map V.int))) :
  Ext H O M H' O (mup M b (.lst (ns.map fun i=>.d (.int i))))/\Wf H' O (mup M b (.lst (ns.map fun i=>.d (.int i)))):=by
 have hOb:=w.own b (qU hb)
 have kk:∀ a o,a ≠ b->H a=some o->H' a=some o:=fun a o ha e=>k a o (by simpa using ha) e
 have e:Ext H O M H' O (mup M b (.lst (ns.map fun i=>.d (.int i)))):=⟨fun a o h e=>⟨kk a o (fun z=>h (by rw [z];exact hOb)) e,h⟩,fun a ha e=>by
  have hne:a ≠ b:=fun z=>by rw [z,hb] at e;cases e
  obtain ⟨o,ho,_⟩:=w.al a ha
  exact ⟨by rw [ho];exact kk a o hne ho,ha,by rw [zq hne];exact e⟩,fun a ha=>by
  by_cases c:a=b
  ·rw [c,ze];exact fun z=>nomatch z
  ·rw [zq c];exact ha⟩
 refine ⟨e,⟨fun a o ho=>?_,fun a ha=>?_,fun a ha=>?_⟩⟩
 ·by_cases c:a=b
  ·subst c;rw [ze] at ho;cases ho;exact ⟨_,h,vj ns⟩
  ·rw [zq c] at ho
   refine qQ.ext e ?_ (w.mo a o ho)
   obtain ⟨u,hu,_⟩:=w.al a (w.own a (qU ho))
   rw [hu];exact kk a u c hu
 ·by_cases c:a=b
  ·rw [c];exact hOb
  ·rw [zq c] at ha;exact w.own a ha
 ·by_cases c:a=b
  ·rw [c];exact ⟨_,h,fun xs z=>nomatch z⟩
  ·obtain ⟨o,ho,hn⟩:=w.al a ha
   exact ⟨o,kk a o c ho,hn⟩
theorem Xn {H:Hp}{O:Own}{p:Addr}{ns:List Int}(ho:¬ O p)(h:H p=some (.lst (ns.map V.int))):Rep H O (.ref p) (.lst (ns.map .int)):=
 Rep.lst ho h (by simp) fun i x d e1 e2=>by
  rw [List.getElem?_map] at e1 e2
  cases e:ns[i]? with
  | none=>rw [e] at e1;cases e1
  | some n=>rw [e] at e1 e2;cases e1;cases e2;exact .int
theorem YK {H:Hp}{O:Own}{M:MH}{v:V}{x:AV}{ns:List Int}(w:Wf H O M)(r:zr H O M v x)(h:qe x M=some (ns.map fun i=>.d (.int i))):∃ a,v=.ref a/\H a=some (.lst (ns.map V.int)):=by
 obtain ⟨a,xs,rfl,h1,r1⟩:=qy w r h
 rw [jE r1] at h1
 exact ⟨a,rfl,h1⟩
theorem Df.imp' {P:Program}{w:World}{K:PySem.W.Frag}{mg:Str->Option Value}{base:Heap}{x:Str}{ps:List Str}{sp sp':Sp}{k:Nat}(D:Df P w K mg base x ps k sp)(h:∀ vs H Q E,sp' vs H Q E->sp vs H Q E):Df P w K mg base x ps k sp':=
 let ⟨f,fd,F,r⟩:=D
 ⟨f,fd,F.imp h,r⟩
mutual
noncomputable def wdt:Dat->Nat
 | .lst l=>max l.length (wA l)
 | .tup l=>max l.length (wA l)
 | _=>0
noncomputable def wA:List Dat->Nat
 | []=>0
 | a :: r=>max (wdt a) (wA r)
end
theorem Vj {l:List Dat}{n:Nat}(h:∀ d ∈ l,wdt d<=n):wA l<=n:=by
 induction l with
 | nil=>exact Nat.zero_le _
 | cons a r ih=>rw [wA];exact Nat.max_le.mpr ⟨h a (by simp),ih fun d hd=>h d (by simp [hd])⟩
theorem Qk {l:List Dat}{d:Dat}(h:d ∈ l):wdt d<=wA l:=by
 induction l with
 | nil=>cases h
 | cons a r ih=>
  rw [wA]
  rcases List.mem_cons.mp h with rfl | h
  ·exact Nat.le_max_left _ _
  ·exact Nat.le_trans (ih h) (Nat.le_max_right _ _)
noncomputable def ki (n:Nat)(d:Dat):Prop:=dp d<=n/\wdt d<=100000
theorem Yl {n:Nat}{l:List Dat}(hl:l.length<=100000)(h:∀ d ∈ l,ki n d):ki (n+1) (.lst l):=⟨by rw [dp];exact Nat.succ_le_succ (jF fun d hd=>(h d hd).1),by rw [wdt];exact Nat.max_le.mpr ⟨hl,Vj fun d hd=>(h d hd).2⟩⟩
theorem ki.lst {n:Nat}{l:List Dat}(h:ki (n+1) (.lst l)):l.length<=100000/\∀ d ∈ l,ki n d:=by
 obtain ⟨h1,h2⟩:=h
 rw [dp] at h1
 rw [wdt] at h2
 exact ⟨(Nat.max_le.mp h2).1,fun d hd=>⟨by have:=ql hd;omega,Nat.le_trans (Qk hd) (Nat.max_le.mp h2).2⟩⟩
theorem ki.tup {n:Nat}{l:List Dat}(h:ki (n+1) (.tup l)):l.length<=100000/\∀ d ∈ l,ki n d:=by
 obtain ⟨h1,h2⟩:=h
 rw [dp] at h1
 rw [wdt] at h2
 exact ⟨(Nat.max_le.mp h2).1,fun d hd=>⟨by have:=ql hd;omega,Nat.le_trans (Qk hd) (Nat.max_le.mp h2).2⟩⟩
theorem ki.no_l {l:List Dat}(h:ki 0 (.lst l)):False:=by have:=h.1;rw [dp] at this;omega
theorem ki.no_t {l:List Dat}(h:ki 0 (.tup l)):False:=by have:=h.1;rw [dp] at this;omega
theorem wY {x:AV}{M:MH}{l:List Dat}(h:jM x M=some (.lst l)):qe x M=some (l.map .d)/\zQ x M=some (l.map .d)/\tyA x M=some "list"/\jD x=false:=by
 cases x with
 | d x=>cases h;exact ⟨rfl,rfl,rfl,rfl⟩
 | ref a=>
  unfold jM at h
  dsimp only at h
  cases e:M a with
  | none=>rw [e] at h;cases h
  | some o=>
   rw [e] at h
   cases o with
   | lst m=>
    dsimp only at h
    cases ep:pur m with
    | none=>rw [ep] at h;cases h
    | some ds=>
     rw [ep] at h
     cases h
     rw [jr ep] at e
     exact ⟨qM e,qc e,by unfold tyA;dsimp only;rw [e],rfl⟩
   | _=>cases h
theorem qk {x:AV}{M:MH}{d:Dat}(h:jM x M=some d)(hd:∀ l,d ≠ .lst l):x=.d d:=by
 cases x with
 | d x=>cases h;rfl
 | ref a=>
  unfold jM at h
  dsimp only at h
  cases e:M a with
  | none=>rw [e] at h;cases h
  | some o=>
   rw [e] at h
   cases o with
   | lst m=>
    dsimp only at h
    cases ep:pur m with
    | none=>rw [ep] at h;cases h
    | some ds=>rw [ep] at h;cases h;exact absurd rfl (hd ds)
   | _=>cases h
theorem wz (b:Bool):dp (.bl b)=0:=by simp [dp]
theorem zy (b:Str):dp (.str b)=0:=by simp [dp]
theorem Z6:dp .non=0:=by simp [dp]
theorem Zy (a b:Bool):eqD (.bl a) (.bl b)=decide (a=b):=by rw [eqD];cases a <;> cases b <;> rfl
theorem ZQ (a b:Int):eqD (.int a) (.int b)=decide (a=b):=by rw [eqD];by_cases h:a=b <;> simp [h]
theorem kH (a b:Str):eqD (.str a) (.str b)=decide (a=b):=by rw [eqD];by_cases h:a=b <;> simp [h]
theorem Yh:eqD .non .non=true:=by simp [eqD]
theorem WR (i:Int):eqD .non (.int i)=false:=by simp [eqD]
theorem AJ (i:Int):eqD (.int i) .non=false:=by simp [eqD]
theorem AD (i:Int)(s:Str):eqD (.int i) (.str s)=false:=by simp [eqD]
theorem Ba (i:Int)(s:Str):eqD (.str s) (.int i)=false:=by simp [eqD]
theorem Ac (s:Str):eqD (.str s) .non=false:=by simp [eqD]
theorem Bf (s:Str):eqD .non (.str s)=false:=by simp [eqD]
theorem Ke {x:AV}{M:MH}{l:List AV}(h:qe x M=some l){p:Addr}(hp:M p=none)(o:MO):qe x (mup M p o)=some l:=by
 rcases kO h with ⟨m,rfl,rfl⟩ | ⟨a,rfl,e⟩
 ·rfl
 ·exact qM (by rw [zq (fun z=>by rw [z,hp] at e;cases e)];exact e)
theorem yw {x:AV}{M:MH}{l:List AV}(h:zQ x M=some l){p:Addr}(hp:M p=none)(o:MO):zQ x (mup M p o)=some l:=by
 rcases qX h with h' | ⟨m,rfl,rfl⟩
 ·have:=Ke h' hp o
  rcases kO h' with ⟨m,rfl,rfl⟩ | ⟨a,rfl,e⟩
  ·rfl
  ·exact this
 ·rfl
theorem vG {x:AV}{M M':MH}{l:List AV}(h:zQ x M=some l)(f:Fr M M'):zQ x M'=some l:=by
 rcases qX h with h' | ⟨m,rfl,rfl⟩
 ·rcases kO h' with ⟨m,rfl,rfl⟩ | ⟨a,rfl,e⟩
  ·rfl
  ·exact qc (by rw [f a (qU e)];exact e)
 ·rfl
theorem wF (ns:List Int):List.map AV.d (List.map Dat.int ns)=List.map (fun i=>AV.d (.int i)) ns:=by rw [List.map_map];rfl
theorem WO (ns:List Bool):List.map AV.d (List.map Dat.bl ns)=List.map (fun i=>AV.d (.bl i)) ns:=by rw [List.map_map];rfl
theorem wQ (ns:List Int):pur (List.map (fun i=>AV.d (.int i)) ns)=some (ns.map Dat.int):=by rw [<- wF,zF]
theorem VG (ns:List Bool):pur (List.map (fun i=>AV.d (.bl i)) ns)=some (ns.map Dat.bl):=by rw [<- WO,zF]
theorem Vs {α β:Type}(f:α->β)(l:List α)(i:Int):atI (l.map f) i=(atI l i).map f:=by
 unfold atI
 rw [List.length_map]
 cases ixN l.length i with
 | none=>rfl
 | some j=>exact List.getElem?_map ..
theorem qS {n:Nat}{i:Int}(h0:0<=i)(h1:i<n):ixN n i=some i.toNat:=by unfold ixN;rw [if_pos h0,if_pos h1]
theorem Ai {α:Type}{l:List α}{i:Int}(h0:0<=i)(h1:i<l.length)(d:α):atI l i=some (l.getD i.toNat d):=by
 unfold atI
 rw [qS h0 h1]
 show l[i.toNat]?=_
 rw [List.getD_eq_getElem?_getD,List.getElem?_eq_getElem (by omega)];rfl
theorem Kq {ns:List Int}{i:Int}(h0:0<=i)(h1:i<ns.length):atI (ns.map fun i=>AV.d (.int i)) i=some (.d (.int (ns.getD i.toNat 0))):=by rw [Vs,Ai h0 h1 0];rfl
theorem zm {a qR:AS}{B:MH}{D:qB}{ρ:ASt}{M:MH}(h:∀ r,r=qR->ja a r B D ρ M):ja a qR B D ρ M:=h qR rfl
theorem Fr.non {M M':MH}(f:Fr M M'){p:Addr}(h:M' p=none):M p=none:=by
 cases e:M p with
 | none=>rfl
 | some o=>rw [f p (by rw [e];exact fun z=>nomatch z),e] at h;cases h
noncomputable abbrev ilD (os:List Int):Dat:=.lst (os.map .int)
theorem Y0 (ns:List Int)(M:MH):qe (.d (ilD ns)) M=some (ns.map fun i=>.d (.int i)):=by rw [Zk,wF]
noncomputable def BxM (M:MH)(b:Addr)(N:Nat):Prop:=∃ x y z:Int,M b=some (.lst [.d (.int x),.d (.int y),.d (.int z)])/\0<=x/\0<=y/\y<2147483648/\0<=z/\z<=N
theorem BxM.mono {M:MH}{b:Addr}{N N':Nat}(h:BxM M b N)(hn:N<=N'):BxM M b N':=by
 obtain ⟨x,y,z,h1,h2,h3,h4,h5,h6⟩:=h
 exact ⟨x,y,z,h1,h2,h3,h4,h5,by omega⟩
theorem BxM.ne {M:MH}{b:Addr}{N:Nat}(h:BxM M b N):M b ≠ none:=by obtain ⟨x,y,z,h1,_⟩:=h;exact qU h1
theorem BxM.bx {H:Hp}{O:Own}{M:MH}{b:Addr}{N:Nat}(w:Wf H O M)(h:BxM M b N):Bx H b N:=by
 obtain ⟨x,y,z,h1,h2⟩:=h
 obtain ⟨xs,hx,rx⟩:=w.mo b _ h1
 rw [jE (ns:=[x,y,z]) rx] at hx
 exact ⟨x,y,z,hx,h2⟩
noncomputable def BxS (M M':MH)(b:Addr)(N:Nat):Prop:=BxM M' b N/\∃ o,M'=mup M b o
theorem BxS.at {M M':MH}{b:Addr}{N:Nat}(h:BxS M M' b N){q:Addr}(hq:q ≠ b):M' q=M q:=by
 obtain ⟨_,o,rfl⟩:=h
 exact zq hq
theorem XE {H H':Hp}{O:Own}{M:MH}(w:Wf H O M){b:Addr}{N N':Nat}(hb:BxM M b N)(k:Kp [b] H H')(h:Bx H' b N'):∃ M',BxS M M' b N'/\Ext H O M H' O M'/\Wf H' O M':=by
 obtain ⟨x,y,z,h1,_⟩:=hb
 obtain ⟨x',y',z',g1,g2⟩:=h
 obtain ⟨e1,e2⟩:=BD w h1 k (ns:=[x',y',z']) g1
 exact ⟨_,⟨⟨x',y',z',ze,g2⟩,_,rfl⟩,e1,e2⟩
mutual
noncomputable def pdD:Dat->PyData
 | .bl b=>.bool b
 | .int i=>.int i
 | .str x=>.str x
 | .lst l=>.list (vS l)
 | .tup l=>.tuple (vS l)
 | _=>.none
noncomputable def vS:List Dat->List PyData
 | []=>[]
 | a :: r=>pdD a :: vS r
end
section
variable {X:Cx}{pins:List (Addr × Obj)}{s:Shared}{σ:St}{H:Hp}{O:Own}
mutual
theorem Bs:∀ d:Dat,(pdD d).hasDict=false
 | .non=>by simp [pdD,PyData.hasDict]
 | .bl _=>by simp [pdD,PyData.hasDict]
 | .int _=>by simp [pdD,PyData.hasDict]
 | .str _=>by simp [pdD,PyData.hasDict]
 | .ty _=>by simp [pdD,PyData.hasDict]
 | .rng _ _ _=>by simp [pdD,PyData.hasDict]
 | .scr _ _=>by simp [pdD,PyData.hasDict]
 | .lst l=>by rw [pdD,PyData.hasDict];exact vo l
 | .tup l=>by rw [pdD,PyData.hasDict];exact vo l
theorem vo:∀ l:List Dat,PyData.hasDictAll (vS l)=false
 | []=>by simp [vS,PyData.hasDictAll]
 | a :: r=>by rw [vS,PyData.hasDictAll,Bs a,vo r];rfl
end
mutual
theorem K7:∀ d:Dat,(pdD d).depth<=dp d
 | .non=>by simp [pdD,PyData.depth]
 | .bl _=>by simp [pdD,PyData.depth]
 | .int _=>by simp [pdD,PyData.depth]
 | .str _=>by simp [pdD,PyData.depth]
 | .ty _=>by simp [pdD,PyData.depth]
 | .rng _ _ _=>by simp [pdD,PyData.depth]
 | .scr _ _=>by simp [pdD,PyData.depth]
 | .lst l=>by rw [pdD,PyData.depth,dp];exact Nat.succ_le_succ (xg l)
 | .tup l=>by rw [pdD,PyData.depth,dp];exact Nat.succ_le_succ (xg l)
theorem xg:∀ l:List Dat,PyData.depthAll (vS l)<=dps l
 | []=>by simp [vS,PyData.depthAll]
 | a :: r=>by rw [vS,PyData.depthAll,dps];exact Nat.max_le.mpr ⟨Nat.le_trans (K7 a) (Nat.le_max_left _ _),Nat.le_trans (xg r) (Nat.le_max_right _ _)⟩
end
end
section
variable {X:Cx}
end
structure Sh (b:Nat)(d:Dat):Prop where
 s:(pdD d).showable=true
 l:(pdD d).shown.length<=b
noncomputable def B4 (i:Nat)(t:TS):TS:=t
theorem xG {X:Cx}{ss:List Stmt}{t:TS}(i:Nat)(h:PSs X ss t):PSs X ss (B4 i t):=h
noncomputable def BC (i:Nat)(a:AS):AS:=fun B D ρ M=>∃ p l ds,ρ[i]?=some (some (.ref p))/\M p=some (.lst l)/\pur l=some ds/\B p=none/\(∀ j:Nat,j ≠ i->ρ[j]? ≠ some (some (.ref p)))/\(∀ q o,q ≠ p->M q=some o->B q=some o \/ ¬ yk p o)/\a B D (ρ.set i (some (.d (.lst ds)))) (mdel M p)
theorem XM {i:Nat}{t:TS}{a:AS}(h:jc t a):jc (B4 i t) (BC i a):=⟨fun {H0 O0 M0 D D' σ H O ρ M} w0 w e x q E=>by
 obtain ⟨p,l,ds,hi,hm,hp,hb,ho,hr,q⟩:=q
 obtain ⟨xs,hx,rx⟩:=w.mo p _ hm
 have rx0:=rx
 rw [jr hp] at rx
 have rp:=rx.pure
 have ks:=ke (H:=H) (O:=O) p
 have refs0:∀ q o,M0 q=some o->¬ yk p o:=fun q o eq hr'=>by
  have:=w0.mo q o eq
  cases o with
  | lst l=>obtain ⟨xs,_,rr⟩:=this;obtain ⟨i,hi⟩:=List.getElem?_of_mem hr';obtain ⟨y,_,ry⟩:=rr.get hi;exact ry.2 hb
  | dK l=>obtain ⟨xs,_,rr⟩:=this;obtain ⟨i,hi⟩:=List.getElem?_of_mem hr';obtain ⟨y,_,ry⟩:=rr.2.get hi;exact ry.2 hb
  | dT l=>obtain ⟨xs,_,rr⟩:=this;obtain ⟨i,hi⟩:=List.getElem?_of_mem hr';obtain ⟨y,_,ry⟩:=rr.2.get hi;exact ry.2 hb
  | ins C l=>obtain ⟨dx,xs,_,rr,_⟩:=this;obtain ⟨i,hi⟩:=List.getElem?_of_mem hr';obtain ⟨y,_,ry⟩:=rr.2.get hi;exact ry.2 hb
  | exc C l=>exact hr'.elim
  | tb R=>exact hr'.elim
 have av:∀ {v:V} {y:AV},zr H O M v y->y ≠ .ref p->zr H (vv O p) (mdel M p) v y:=fun {v y} r hy=>by
  cases y with
  | d y=>exact Rep.imp ks r
  | ref a=>exact ⟨r.1,by rw [qE (fun z=>hy (by rw [z]))];exact r.2⟩
 have avs:∀ {vs:List V} {ys:List AV},zf H O M vs ys->AV.ref p ∉ ys->zf H (vv O p) (mdel M p) vs ys:=fun r hy=>⟨r.1,fun i v y e1 e2=>av (r.2 i v y e1 e2) fun z=>hy (by rw [<- z];exact List.mem_of_getElem? e2)⟩
 have hOd:∀ dx b,O dx->M dx=none->H dx=some b->(∀ xs,b ≠ .lst xs)->vv O p dx/\mdel M p dx=none:=fun dx b h1 h2 h3 h4=>⟨⟨yU h3 hx (h4 _),h1⟩,by unfold mdel;split;rfl;exact h2⟩
 refine h.go w0 ⟨fun q o eq=>?_,fun a ha=>?_,fun a (ha:vv O p a)=>w.al a ha.2⟩ ⟨?_,fun j y hj=>?_⟩ ⟨fun a o ha eo=>⟨(x.fix a o ha eo).1,fun (z:vv O p a)=>(x.fix a o ha eo).2 z.2⟩,fun a ha eo=>?_,fun a ha=>?_⟩ q E
 ·have hq:q ≠ p:=fun z=>by rw [z,xh] at eq;cases eq
  rw [qE hq] at eq
  have hno:¬ yk p o:=(hr q o hq eq).elim (fun z=>refs0 q o z) (fun z=>z)
  have:=w.mo q o eq
  cases o with
  | lst l=>obtain ⟨xs,h1,rr⟩:=this;exact ⟨xs,h1,avs rr hno⟩
  | dK l=>obtain ⟨xs,h1,rr⟩:=this;exact ⟨xs,h1,rr.1,avs rr.2 hno⟩
  | dT l=>obtain ⟨xs,h1,rr⟩:=this;exact ⟨xs,h1,rr.1,avs rr.2 hno⟩
  | ins C l=>obtain ⟨dx,xs,h1,rr,h2,h3,h4⟩:=this;exact ⟨dx,xs,h1,⟨rr.1,avs rr.2 hno⟩,(hOd dx _ h2 h3 h4 (fun _ z=>nomatch z)).1,(hOd dx _ h2 h3 h4 (fun _ z=>nomatch z)).2,h4⟩
  | exc C l=>
   obtain ⟨d,h1,h2⟩:=this
   refine ⟨d,h1,?_⟩
   rcases h2 with h2 | ⟨dx,e1,h2,h3,h4⟩
   ·exact .inl h2
   ·exact .inr ⟨dx,e1,h2,(hOd dx _ h3 h4 h2 (fun _ z=>nomatch z)).1,(hOd dx _ h3 h4 h2 (fun _ z=>nomatch z)).2⟩
  | tb R=>obtain ⟨ps,h1,h2⟩:=this;exact ⟨ps,h1,h2.imp id fun ⟨c,oc,u,a1,a2,a3⟩=>⟨c,oc,u,a1,fun z=>a2 z.2,a3⟩⟩
 ·have hq:a ≠ p:=fun z=>ha (by rw [z,xh])
  rw [qE hq] at ha
  exact ⟨hq,w.own a ha⟩
 ·rw [List.length_set];exact e.len
 ·rw [List.getElem?_set] at hj
  by_cases c:i=j
  ·rw [if_pos c] at hj
   split at hj
   ·cases hj
    obtain ⟨v,hv,rv⟩:=e.get i _ hi
    rw [<- c]
    exact ⟨v,hv,by rw [rv.1];exact Rep.lst (fun z=>z.1 rfl) hx rp.1 fun i x d e1 e2=>(rp.2 i x d e1 e2).imp ks⟩
   ·cases hj
  ·rw [if_neg c] at hj
   obtain ⟨v,hv,rv⟩:=e.get j y hj
   exact ⟨v,hv,av rv fun z=>ho j (fun z'=>c z'.symm) (by rw [<- z];exact hj)⟩
 ·obtain ⟨x1,x2,x3⟩:=x.prv a ha eo
  have hne:a ≠ p:=fun z=>by rw [z,hm] at x3;cases x3
  exact ⟨x1,⟨hne,x2⟩,by rw [qE hne];exact x3⟩
 ·have hq:a ≠ p:=fun z=>ha (by rw [z];exact hb)
  rw [qE hq];exact x.mst a ha⟩
theorem Vg {a b:ASp}(h:∀ xs M Q,b xs M Q->a xs M (rtA M Q))(vs:List V)(H:Hp)(Q:VK)(E:XK)(q:cSp b vs H Q E):cSp a vs H Q E:=by
 obtain ⟨xs,M,O,Q',w,r,q,k⟩:=q
 refine ⟨xs,M,O,_,w,r,h xs M Q' q,fun x M' v H' O' q' e' w' r'=>?_⟩
 obtain ⟨y',M'',f,q2⟩:=q'
 obtain ⟨O'',w2,k2,r2⟩:=Zz w w' e' r' f
 exact k _ _ _ _ _ q2 k2 w2 r2
structure SB (M0 M:MH)(b:Addr)(N:Nat):Prop where
 bx:BxM M b N
 fr:∀ q,M0 q ≠ none->q ≠ b->M q=M0 q
 b0:M0 b ≠ none
theorem SB.refl {M:MH}{b:Addr}{N:Nat}(h:BxM M b N):SB M M b N:=⟨h,fun _ _ _=>rfl,h.ne⟩
theorem SB.go {M0 M M':MH}{b:Addr}{N N':Nat}(s:SB M0 M b N)(t:BxS M M' b N'):SB M0 M' b N':=⟨t.1,fun q hq hb=>(t.at hb).trans (s.fr q hq hb),s.b0⟩
theorem SB.mono {M0 M:MH}{b:Addr}{N N':Nat}(s:SB M0 M b N)(h:N<=N'):SB M0 M b N':=⟨s.bx.mono h,s.fr,s.b0⟩
theorem BxM.put {M:MH}{b p:Addr}{N:Nat}(h:BxM M b N)(n:b ≠ p)(o:MO):BxM (mup M p o) b N:=by
 obtain ⟨x,y,z,h1,h2⟩:=h
 exact ⟨x,y,z,by rw [zq n];exact h1,h2⟩
theorem SB.new {M0 M:MH}{b p:Addr}{N:Nat}(s:SB M0 M b N)(hp:M p=none):M0 p=none/\p ≠ b:=by
 have hb:p ≠ b:=fun z=>s.bx.ne (by rw [<- z];exact hp)
 refine ⟨?_,hb⟩
 cases e:M0 p with
 | none=>rfl
 | some o=>rw [s.fr p (by rw [e];exact fun z=>nomatch z) hb,e] at hp;cases hp
theorem SB.put {M0 M:MH}{b p:Addr}{N:Nat}(s:SB M0 M b N)(h0:M0 p=none)(hb:p ≠ b)(o:MO):SB M0 (mup M p o) b N:=
 ⟨s.bx.put (Ne.symm hb) o,fun q hq hqb=>by rw [zq (fun z=>hq (by rw [z];exact h0))];exact s.fr q hq hqb,s.b0⟩
theorem SB.fin {M0 M:MH}{b:Addr}{N:Nat}(s:SB M0 M b N)(d:Dat):∃ M'',Zq M0 M (.d d) (.d d) M''/\BxS M0 M'' b N:=by
 obtain ⟨x,y,z,h1,h2⟩:=s.bx
 refine ⟨mup M0 b (.lst [.d (.int x),.d (.int y),.d (.int z)]),⟨fun q=>?_,fun q o e=>?_,.inl ⟨rfl,fun p z=>nomatch z⟩⟩,⟨x,y,z,ze,h2⟩,_,rfl⟩
 ·by_cases c:q=b
  ·rw [c,ze,h1];exact .inl rfl
  ·rw [zq c]
   cases e:M0 q with
   | none=>exact .inr ⟨rfl,rfl⟩
   | some o=>exact .inl (by rw [s.fr q (by rw [e];exact fun z=>nomatch z) c,e])
 ·by_cases c:q=b
  ·rw [c,ze] at e
   cases e
   exact .inr fun r hr=>absurd hr (xD (ds:=[.int x,.int y,.int z]) rfl r)
  ·rw [zq c] at e;exact .inl e
theorem SB.rt {M0 M:MH}{b:Addr}{N:Nat}{Q:AK}{d:Dat}(s:SB M0 M b N)(q:∀ M',BxS M0 M' b N->Q (.d d) M'):rtA M0 Q (.d d) M:=by
 obtain ⟨M'',f,t⟩:=s.fin d
 exact ⟨_,_,f,q M'' t⟩
theorem SB.frz {M0 M:MH}{b p:Addr}{N:Nat}{Q:AK}{l:List AV}{ds:List Dat}(s:SB M0 M b N)(h0:M0 p=none)(hpb:p ≠ b)(h:M p=some (.lst l))(hp:pur l=some ds)(q:∀ M',BxS M0 M' b N->Q (.d (.lst ds)) M'):rtA M0 Q (.ref p) M:=by
 obtain ⟨M'',f,t⟩:=s.fin (.lst ds)
 refine ⟨_,M'',⟨f.sub,f.cl,.inr (.inl ⟨p,l,ds,rfl,h,hp,?_,rfl⟩)⟩,q M'' t⟩
 rw [t.at hpb];exact h0
theorem xw {M0 M:MH}{Q:AK}{d:Dat}(f:Fr M0 M)(q:Q (.d d) M0):rtA M0 Q (.d d) M:=⟨_,_,yI f d,q⟩
theorem SB.frm {M M2 M':MH}{b:Addr}{N:Nat}(f:Fr M M2)(hb:M b=none)(s:SB M2 M' b N):Fr M M':=fun q hq=>by
 have h1:q ≠ b:=fun z=>hq (by rw [z];exact hb)
 rw [s.fr q (by rw [f q hq];exact hq) h1,f q hq]
section
variable {X:Cx}
end
section
open PySem.SeqAt
open PySem.AutoSeq1 (wpAny_loadPart')
open PySem.MeetsSeq PySem.MeetsSeq2 PySem.MeetsSeq3 PySem.SeqRoads2
end
section
variable {X:Cx}
end
section
variable {X:Cx}{pins:List (Addr × Obj)}{σ:St}{H:Hp}{s:Shared}{a b:Addr}{kvs:List (List Key × V)}{k:List Key}{v:V}{r:Value}{A:Around}{E:Value->Shared->Prop}
end
section
variable {prog:Program}{w:World}{A:Around}{E:Value->Shared->Prop}{s:Shared}
theorem wJ {l:Addr}{vs:List Value}{Q:List Value->Shared->Prop}(hl:IsTup s.heap l vs.toArray)
  (h:Q vs { s with heap:=(s.heap.push (seqObj "list" #[] 0)).update s.heap.objs.size (Obj.mapSeq (· ++ vs.toArray)) }) (hsz:vs.length<=sizeLine:=by size_fits) :
  wpAny (model prog w) A (collect (.ref l)) Q E s:=by
 obtain ⟨o,ho,hc,n,hd⟩:=id hl
 unfold collect
 refine wpAny_bind (wpAny_runValue (codeAny_builtin entry_proto_collect' ?_))
 show wpAny _ _ (do again (.builtin "list.__iadd__" ⟨[<- newList [],.ref l],[]⟩)) _ _ s
 refine wpAny_bind (wpAny_newList (wpAny_pure ⟨Code.quiet_builtin _ (by decide +kernel),codeAny_builtin entry_list_iadd' ?_⟩))
 show wpAny _ _ (Builtin.List.listExtendWith (.ref s.heap.objs.size) (.ref l) (.ref s.heap.objs.size)) _ _ { s with heap:=s.heap.push (seqObj "list" #[] 0) }
 unfold Builtin.List.listExtendWith
 have ho':(s.heap.push (seqObj "list" #[] 0)).get? l=some o:=Heap.get?_push_of_some _ ho
 refine wpAny_bind (wpAny_typeOf (T:="tuple") ⟨o,ho',hc⟩ ?_)
 have ht:(Value.type "tuple" == Value.type "tuple")=true:=by rfl
 rw [if_pos (by rw [ht];simp)]
 refine wpAny_bind (listItems_at ho' hd ?_)
 refine wpAny_bind (listItems_at (xs:=#[]) (n:=0) (Heap.get?_push_size _ rfl) rfl ?_)
 rw [if_neg (by simp)]
 refine wpAny_bind (listUpdate_at (xs:=#[]) (n:=0) (Heap.get?_push_size _ rfl) rfl ?_ (Nat.zero_le _) (by show (#[] ++ vs.toArray).size<=sizeLine+1;simp only [Array.size_append,List.size_toArray,List.length_nil];omega))
 refine wpAny_pure ?_
 show wpAny (model prog w) A (do
   let o <- load s.heap.objs.size
   match o.data with
   | .seq xs _=>pure xs.toList
   | _=>unsupported "internal:collect") Q E { s with heap:=(s.heap.push (seqObj "list" #[] 0)).update s.heap.objs.size (Obj.mapSeq (· ++ vs.toArray)) }
 refine wpAny_bind (wpAny_load (get?_update_seq (Heap.get?_push_size _ rfl) _) ?_)
 show wpAny _ _ (pure ((#[]:Array Value) ++ vs.toArray).toList) Q E _
 rw [show ((#[]:Array Value) ++ vs.toArray).toList=vs by simp]
 exact wpAny_pure h
theorem vU {l:Addr}{vs:List Value}{ns:List Int}{Q:Value->Shared->Prop}(hl:IsTup s.heap l vs.toArray)(hI:IntsAre vs ns)(h64:vs.length<64)
  (h:∀ (out:Array Value) (ns':List Int),IntsAre out.toList ns'->ns'.Perm ns->ns'.Pairwise (·<=·)->Q (.ref (s.heap.objs.size+1)) { s with heap:=sortedAll s.heap vs out }) :
  wpAny (model prog w) A (call (.builtin "sorted") [.ref l]) Q E s:=by
 refine Calls.call_function_entry kind_sorted plain_sorted entry_sorted (args_sorted1 _) ?_
 unfold Builtin.«sorted»
 refine wpAny_bind (m:=checkCount "sorted" 1 1 _) (wpAny_pure ?_)
 refine wpAny_bind (wJ hl ?_)
 refine wpAny_bind (wpAny_newList ?_)
 have hsz:((s.heap.push (seqObj "list" #[] 0)).update s.heap.objs.size (Obj.mapSeq (· ++ vs.toArray))).objs.size=s.heap.objs.size+1:=by
  rw [Heap.size_update,size_push']
 have hoL:(((s.heap.push (seqObj "list" #[] 0)).update s.heap.objs.size (Obj.mapSeq (· ++ vs.toArray))).push (seqObj "list" vs.toArray 0)).get? (s.heap.objs.size+1)=some (seqObj "list" vs.toArray 0):=by
  rw [<- hsz];exact Heap.get?_push_size _ rfl
 show wpAny _ _ _ _ _ { s with heap:=((s.heap.push (seqObj "list" #[] 0)).update s.heap.objs.size (Obj.mapSeq (· ++ vs.toArray))).push (seqObj "list" vs.toArray 0) }
 rw [hsz]
 refine wpAny_bind (wpAny_holding (wpAny_call_entry slot_list_sort ⟨_,hoL,rfl⟩ entry_list_sort (list_sort_tree hoL hI h64 fun out ns' a1 a2 a3=>⟨_,rfl,?_⟩) (args_list_sort _)))
 exact wpAny_pure ⟨_,rfl,h out ns' a1 a2 a3⟩
end
section
variable {X:Cx}
theorem kJ:qW X (.builtin "sorted") (fun xs H Q=>∃ p ns,xs=[.ref p]/\SqT X.K H p (List.map V.int ns)/\ns.length<64/\∀ l ns',H l=none->ns'.Perm ns->ns'.Pairwise (·<=·)->Q (.ref l) (upd H l (.lst (List.map V.int ns')))):=by
 intro pins s σ H xs us Q I r h
 obtain ⟨p,ns,rfl,hq,h64,q⟩:=h
 obtain ⟨u,rfl,rx⟩:=jO r
 cases rx
 obtain ⟨its,rv,pl,hz⟩:=I.tuple hq
 have hlen:=rv.length
 rw [List.length_map] at hlen
 refine vU pl (ZG rv) (by omega) fun out ns' a1 a2 a3=>?_
 obtain ⟨k,he⟩:=sortedAll_at s.heap its out
 refine ⟨.ref (s.heap.objs.size+1),_,I.laid (t':=s.toks) (fun _ _=>sortedAll_old) (Nat.le_succ _) (show zL X.prog X.w _ _ _ (.lst (List.map V.int ns')) from ⟨?_,out.toList,k,xl a1,by simpa [seqObj] using he⟩),rfl,q _ _ (I.hok.fresh (Nat.le_succ _)) a2 a3⟩
 rw [List.length_map,a2.length_eq]
 exact Nat.le_of_lt (JS (by omega))
end
noncomputable def xY:List AV->MH->(List AV->Prop)->Prop:=fun xs M Q=>∃ ns,xs=[.d (.tup (ns.map .int))]/\ns.length<64/\∀ ns',ns'.Perm ns->List.Pairwise (fun x1 x2=>x1<=x2) ns'->Q (List.map (fun i=>AV.d (.int i)) ns')
theorem kX {K:PySem.W.Frag}:QO (fun xs H Q=>∃ p ns,xs=[V.ref p]/\SqT K H p (List.map V.int ns)/\ns.length<64/\∀ (l:Addr) (ns':List Int),H l=none->ns'.Perm ns->List.Pairwise (fun x1 x2=>x1<=x2) ns'->Q (V.ref l) (upd H l (HO.lst (List.map V.int ns')))) xY:=⟨fun w r ⟨ns,e,hl,q⟩ k=>by
 subst e
 obtain ⟨v,rfl,rv⟩:=jf r
 obtain ⟨a,xs,rfl,h1,r1⟩:=qK (M:=fun _=>none) (x:=.d (.tup (ns.map .int))) rv rfl
 rw [List.map_map] at r1
 rw [jE r1] at h1
 exact ⟨a,ns,rfl,SqT.of h1,hl,fun l ns' hp h2 h3=>k _ _ (q ns' h2 h3) (vj ns') l hp⟩⟩
theorem ZS {K:PySem.W.Frag}{u:TA}{b:AA}(h:jI u b):zI (tCB (fun xs H Q=>∃ p ns,xs=[V.ref p]/\SqT K H p (List.map V.int ns)/\ns.length<64/\∀ (l:Addr) (ns':List Int),H l=none->ns'.Perm ns->List.Pairwise (fun x1 x2=>x1<=x2) ns'->Q (V.ref l) (upd H l (HO.lst (List.map V.int ns')))) u) (aFz (fCB xY b)):=j9 (xF kX h)
theorem KH {X:Cx}:MtR X "list.pop" Av:=By
theorem Vy {α τ:Type}(R:τ->ASt)(g f:α->AV)(xs:List α){ag:AG}{ae:AE}{G:MH->Prop}{N:List AV->ASt->MH->Prop}{ρ:ASt}{M:MH}(h0:∃ o,ρ=R o)(hG:G M)(hl:xs.length<=100000)
  (hs:∀ (o:τ) (x:α) (Q:AV->ASt->MH->Prop),x ∈ xs->(∀ o',Q (f x) (R o') M)->ag (g x) (R o) M fun ρ2 M2=>ae ρ2 M2 fun y M3=>Q y ρ2 M3) (hN:∀ o,N (xs.map f) (R o) M):wk ag yf (ku ae) G N (xs.map g) [] ρ M:=by
 have hsl:100000<sizeLine:=by rw [sizeLine_eq];decide
 refine ⟨fun i acc ρ' M'=>i<=xs.length/\acc=(xs.take i).map f/\M'=M/\∃ o,ρ'=R o,⟨Nat.zero_le _,rfl,rfl,h0⟩,?_,?_⟩
 ·rintro i x acc ρ' M' hx ⟨hi,rfl,rfl,o,rfl⟩
  rw [List.getElem?_map] at hx
  cases e:xs[i]? with
  | none=>rw [e] at hx;cases hx
  | some y=>
   rw [e] at hx
   cases hx
   have hil:=(List.getElem?_eq_some_iff.mp e).1
   refine ⟨hG,?_⟩
   refine hs o y (fun z ρ2 M3=>((xs.take i).map f).length<sizeLine/\(i+1<=xs.length/\(xs.take i).map f ++ [z]=(xs.take (i+1)).map f/\M3=M'/\∃ o,ρ2=R o)) (List.mem_of_getElem? e) fun o'=>⟨by rw [List.length_map,List.length_take];omega,hil,?_,rfl,o',rfl⟩
   rw [List.take_add_one,e,List.map_append];rfl
 ·rintro acc ρ' M' ⟨_,rfl,rfl,o,rfl⟩
  rw [List.length_map,List.take_length]
  exact ⟨hG,hN o⟩
noncomputable def fl2 (o:Obj):Option Value:=match o.data with
 | .fields vs=>vs[2]?
 | _=>none
noncomputable def SmD (h h':Heap):Prop:=∀ b o,h.get? b=some o->∃ o',h'.get? b=some o'/\o'.dict=o.dict/\fl2 o'=fl2 o
structure Kd {α:Type}(t:Sem α):Prop where
 out:∀ (M:Model) (G:PySem.Ctx) (R:α->Pos->Shared->Prop) (Ee:Value->Pos->Shared->Prop) (p:Pos) (s:Shared),Sem.wp M G t R Ee p s->Sem.wp M G t (fun a p' s'=>R a p' s'/\SmD s.heap s'.heap) Ee p s
section
variable {α β:Type}
end
local macro_rules | `(tactic| walk_at "kd")=>`(tactic| repeat' with_reducible first
  | assumption
  | exact kd_pure _
  | exact kd_uns _
  | exact kd_field _ _
  | exact kd_setField _ _ _ (by decide)
  | exact kd_load _
  | exact kd_stack
  | exact kd_alloc _
  | apply kd_ite
  | apply kd_bind
  | intro _
  | split)
structure DT (P:Program)(w:World)(outer:List Env)(H:Hp)(s:Shared)(B:Heap)(H':Hp)(s':Shared):Prop where
 os:s'.os=s.os
 bare:AllBare s'.gens
 stay:B.StaysIn s'.heap
 cov:∀ b o,s.heap.get? b=some o->b ∉ frs outer->∃ o',B.get? b=some o'/\(H b=none->o'=o)
 slot:∀ b o,s.heap.get? b=some o->b ∈ frs outer->∃ sl,s'.heap.get? b=some { o with slots:=sl }
 frf:∀ b ∈ frs outer,H b=none
 free:∀ b o,s.heap.get? b=some o->H b=none->H' b=none
 tups:∀ b xs,H b=some (.tup xs)->H' b=some (.tup xs)
 frzs:∀ b o u,H b=some (.frz o u)->H' b=some (.frz o u)
 tbls:∀ b ps,H b=some (.tbl ps)->∃ more,H' b=some (.tbl (ps ++ more))
 hok:HOk P w H' B
section
variable {P:Program}{w:World}{outer:List Env}{H H':Hp}{s s':Shared}{B h':Heap}
end
section
variable {X:Cx}{pins:List (Addr × Obj)}{σ:St}{H H':Hp}{s s':Shared}{B h':Heap}
end
noncomputable def Two (d:Option Addr)(H:Hp):Prop:=∃ dx fs,d=some dx/\H dx=some (.xd fs)/\2<=fs.length
structure Air (P:Program)(w:World)(outer:List Env)(H:Hp)(s:Shared)(x C:Addr)(d:Option Addr)(H':Hp)(s':Shared):Prop where
 ex:∃ B a0,DT P w outer H s B H' s'/\Heap.FlyingW B outer x (.ref C) a0 s'.heap
 dct:∃ o,s'.heap.get? x=some o/\o.dict=d/\(fl2 o=some .none \/ Two d H')
noncomputable def CX1 (P:Program)(w:World):CXT:=fun outer H s E e s'=>∃ x C d H',e=.ref x/\Air P w outer H s x C d H' s'/\E (.ref C) d H'
structure DX (X:Cx)(E:XK):Prop where
 stk:X.stack=X.env :: X.outer
 ex:X.ex=[]
 fr:X.env.frame=some X.env.locals
 xe:X.xe=fun e s'=>wpAny (model X.prog X.w) X.A (leaving X.env e) (fun _ s''=>CX1 X.prog X.w X.outer X.H₀ X.s₀ E e s'') (fun e' s''=>CX1 X.prog X.w X.outer X.H₀ X.s₀ E e' s'') s'
section
variable {X:Cx}{E:XK}{pins:List (Addr × Obj)}{σ:St}{H H':Hp}{s s':Shared}
end
section
variable {X:Cx}{k:Nat}{x:Str}{ps:List Str}{sp:Sp}{E:St->XK}{p pos:Pos}{e:Expr}{es:List Expr}{t:TA}
end
abbrev D3:List Value:=[.type "ValueError",.type "Exception",.type "BaseException",.type "object"]
section
variable {X:Cx}{E:XK}{C:Addr}{x:Str}{np cpos pos:Pos}{e:Expr}{es:List Expr}{t:TA}
end
section
variable {X:Cx}{pins:List (Addr × Obj)}{σ:St}{H H':Hp}{s s':Shared}
end
section
variable {X:Cx}{pins pins':List (Addr × Obj)}{σ:St}{H:Hp}{s s':Shared}{xe:Value->Shared->Prop}
end
section
variable {X:Cx}{pins:List (Addr × Obj)}{σ:St}{H H':Hp}{s s':Shared}{B:Heap}{x C:Addr}{d:Option Addr}{a0:Value}
variable {body suite:List Stmt}{b₀:Stmt}{n tx:Str}{i:Nat}{T:Addr}{np hpos pos:Pos}{tb:(St->XK)->TS}{th:TS}
end
open PySem.W (Looks InstAt findIn findObj subIn mroIn)
section
variable {prog:Program}{w:World}{A:Around}{E:Value->Shared->Prop}{h:Heap}{g:Array GenState}{d:Drawn}{t:Nat}{os:OsState}{K:PySem.W.Frag}{x C:Addr}{ox:Obj}{od:Option Obj}{name:Str}
structure Eh (K:PySem.W.Frag)(C:Addr):Prop where
 bx:subIn K (.ref C) (.type "BaseException")=some true
 ga:findIn K (.ref C) "__getattribute__"=some (some (.builtin "BaseException.__getattribute__"))
 gt:findIn K (.ref C) "__getattr__"=some none
 cl:findIn K (.ref C) "__class__"=some (some (.builtin "object.__class__"))
 gs:PySem.W.specialIn K (.builtin "object.__class__") "__get__"=some (some (.builtin "getset_descriptor.__get__"))
 tk:PySem.W.takesIn K (.builtin "object.__class__")=some true
 mo:mroIn K C (.type "object")=some true
 is:(PySem.W.clsIn K C).isSome=true
end
inductive KG (X:Cx):List Expr->List Value->Prop
 | nil:KG X [] []
 | own {x:Str} {p:Pos} {C:Addr} {es:List Expr} {cs:List Value}:Gl X x->X.mg x=some (.ref C)->(x == ("__debug__":Str))=false->KG X es cs->KG X (.Name x p :: es) (.ref C :: cs)
 | blt {x:Str} {p:Pos} {T:String} {es:List Expr} {cs:List Value}:Gl X x->X.mg x=none->bootBuiltins x=some (.type T)->x ≠ "__name__"->(x == ("__debug__":Str))=false->KG X es cs->KG X (.Name x p :: es) (.type T :: cs)
section
variable {X:Cx}{e c:Expr}{es:List Expr}{cs:List Value}{t:TE}{p pos tp:Pos}{kk:Nat}
end
noncomputable abbrev AXK:=Addr->List (Str × V)->MH->Prop
noncomputable abbrev BZ:=List AV->MH->AK->AXK->Prop
noncomputable def DS (H:Hp)(O:Own)(M:MH)(d:Option Addr)(fs:List (Str × V)):Prop:=d=none/\fs=[] \/ ∃ dx,d=some dx/\H dx=some (.xd fs)/\O dx/\M dx=none
structure EXs (H0:Hp)(O0:Own)(M0:MH)(E:St->XK)(EA:ASt->AXK):Prop where
 go:∀ σ ρ C fs M' H' O' d,EA ρ C fs M'->Ext H0 O0 M0 H' O' M'->Wf H' O' M'->Er H' O' M' σ ρ->DS H' O' M' d fs->E σ (.ref C) d H'
structure Ed (HX:Hp)(OX:Own)(MX:MH)(t:TS)(a:AS):Prop where
 go:∀ {H0:Hp} {O0:Own} {M0:MH} {D:xi} {D':qB} {σ:St} {H:Hp} {O:Own} {ρ:ASt} {M:MH},Ext HX OX MX H0 O0 M0->Wf H0 O0 M0->Wf H O M->Er H O M σ ρ->Ext H0 O0 M0 H O M->a M0 D' ρ M->ED H0 O0 M0 D D'->t D σ H
section
variable {HX:Hp}{OX:Own}{MX:MH}{t u:TS}{a b:AS}{E:St->XK}{EA:ASt->AXK}{sp:BZ}{ta:TA}{aa:AA}
end
section
variable {K:PySem.W.Frag}{i:Nat}{T:Addr}{tb:(St->XK)->TS}{th:TS}{ab:(ASt->AXK)->AS}{ah:AS}
end
section
variable {X:Cx}{K:PySem.W.Frag}{body suite:List Stmt}{b₀:Stmt}{n tx:Str}{i:Nat}{T:Addr}{np hpos pos tp p:Pos}{tb:(St->XK)->TS}{th:TS}{e c:Expr}{es:List Expr}{cs:List Value}{t:TE}{kk:Nat}
end
section
variable {X:Cx}
end
end L2
namespace PySem
open Sem (wp)
section
variable {prog:Program}{w:World}{A:Around}{E:Value->Shared->Prop}{h:Heap}{g:Array GenState}{d:Drawn}{t:Nat}{os:OsState}
variable {nm q:Str}{C N:Addr}{bs bm bmB:List Value}{hdct:Bool}{sn:List Str}{sub:List Value}{ab:Bool}{col:Option Bool}{dd:Option Addr}{k0 k1 k2 k3 k5:Option Value}{B Bn newId nid initId inN:String}{bmN:List Value}
end
section
variable {M:Model}{A:Around}{E:Value->Shared->Prop}{env:Env}
variable {nm q:Str}{C N:Addr}{bs bm:List Value}{hdct:Bool}{sn:List Str}{sub:List Value}{ab:Bool}{col:Option Bool}{dd:Option Addr}{k0 k1 k2 k3 k5:Option Value}{newId:String}
end
section
variable {prog:Program}{w:World}{A:Around}{E:Value->Shared->Prop}{s:Shared}{env:Env}
variable {nm q:Str}{C N:Addr}{bs bm bmB:List Value}{hdct:Bool}{sn:List Str}{sub:List Value}{ab:Bool}{col:Option Bool}{dd:Option Addr}{k0 k1 k2 k3 k5:Option Value}{B Bn newId nid initId inN:String}{bmN:List Value}
end
end PySem
namespace L2
open PySem PySem.Spec PyProof.Rows
open PySem.W (Looks InstAt findIn findObj subIn mroIn clsIn takerIn hasDictIn)
noncomputable def DQ:Value->Bool
 | .ref _=>true
 | _=>false
noncomputable def BP (l:List Value):Bool:=l.dropWhile DQ == D3
structure Ef (K:PySem.W.Frag)(C:Addr)(name:Str):Prop where
 s:findIn K (.ref C) "__setattr__"=some (some (.builtin "object.__setattr__"))
 t:takerIn K C name=some none
 hd:hasDictIn K C=true
 mo:mroIn K C (.type "object")=some true
 ve:(clsIn K C).any (fun cd=>BP cd.mro)=true
section
variable {prog:Program}{w:World}{A:Around}{E:Value->Shared->Prop}{s:Shared}{K:PySem.W.Frag}{x C:Addr}{ox:Obj}{od:Option Obj}{name:Str}{v:Value}
end
open PySem.W (Looks InstAt findIn findObj subIn mroIn clsIn takerIn hasDictIn)
section
variable {X:Cx}{pins:List (Addr × Obj)}{σ:St}{H:Hp}{s:Shared}
variable {o value:Expr}{f:Str}{ta tv:TE}{pos pos':Pos}
end
section
variable {X:Cx}{E:XK}{C:Addr}{x:Str}{np cpos pos:Pos}{e:Expr}{es:List Expr}{t:TA}{k n:Nat}{fn:List V->List (Str × V)}
end
open PySem.W (Looks InstAt findIn findObj subIn mroIn clsIn takerIn hasDictIn)
section
variable {X:Cx}{k:Nat}{C:Addr}{m x:Str}{ps:List Str}{sp:Sp}{E:St->XK}{p pos apos:Pos}{o e:Expr}{es:List Expr}{t:TA}{to:TE}
end
section
variable {prog:Program}{w:World}{A:Around}{E:Value->Shared->Prop}{s:Shared}{K:PySem.W.Frag}{x C:Addr}{ox u:Obj}{name:Str}{v:Value}
end
section
variable {X:Cx}{e:Expr}{ta:TE}{f:Str}{pos:Pos}
end
open PySem.W (findIn hasDictIn)
section
variable {HX:Hp}{OX:Own}{MX:MH}{E:St->XK}{EA:ASt->AXK}{sp:BZ}{te:TE}{ae:AE}{ta:TA}{aa:AA}{C:Addr}{m:Str}
end
end L2
namespace PySem
open Sem (wp)
section
variable {prog:Program}{w:World}{A:Around}{E:Value->Shared->Prop}{s:Shared}
end
section
variable {prog:Program}{w:World}{A:Around}{E:Value->Shared->Prop}{env:Env}
variable {nm q:Str}{C N:Addr}{bs bm bmB:List Value}{hdct:Bool}{sn:List Str}{sub:List Value}{ab:Bool}{col:Option Bool}{dd:Option Addr}{k0 k1 k2 k3 k5:Option Value}{B Bn newId nid initId inN:String}{bmN:List Value}
end
end PySem
namespace L2
open PySem PySem.Spec PyProof.Rows
section
variable {M:Model}{A:Around}{E:Value->Shared->Prop}{s:Shared}
end
section
variable {X:Cx}{E:XK}{pins:List (Addr × Obj)}{σ:St}{H:Hp}{s:Shared}
end
open PySem.W (Looks InstAt findIn findObj subIn mroIn clsIn takerIn hasDictIn)
structure D9 (k:Nat)(A:Around):Prop where
 gd:A.guards=some []
 dp:A.depth+3 * k+5<recursionLimit
 un:A.units+16 * k+200<cLine
open PySem.W (Looks InstAt findIn findObj subIn mroIn clsIn takerIn hasDictIn)
section
variable {X:Cx}{E:XK}{body:List Stmt}{n tx cx:Str}{i k nn:Nat}{T C2:Addr}{np cp cpos rpos hpos pos:Pos}{tb:(St->XK)->TS}{ta:TA}{e1:Expr}{es:List Expr}{fn:List V->List (Str × V)}
end
open PySem.W (Looks InstAt findIn findObj subIn mroIn clsIn takerIn hasDictIn)
section
variable {X:Cx}{e:Expr}{ta:TE}{f:Str}{pos:Pos}{K:PySem.W.Frag}
end
section
variable {HX:Hp}{OX:Own}{MX:MH}{K:PySem.W.Frag}{i j:Nat}{T C2:Addr}{f:Str}{fn:List V->List (Str × V)}{E:XK}{EA:ASt->AXK}{tb:(St->XK)->TS}{ab:(ASt->AXK)->AS}
end
section
variable {X:Cx}{K:PySem.W.Frag}{E:XK}{body:List Stmt}{n tx cx:Str}{i k nn:Nat}{T C2:Addr}{np cp cpos rpos hpos pos:Pos}{tb:(St->XK)->TS}{ta:TA}{e1:Expr}{es:List Expr}{fn:List V->List (Str × V)}
end
noncomputable def kj (b:AA)(n:Nat)(ag:AGs):AS:=fun _ D ρ M=>b ρ M fun xs M1=>xs.length=n/\n<=sizeLine/\ag xs ρ M1 fun ρ2 M3=>D.nx ρ2 M3
theorem Yv {K:PySem.W.Frag}{u:TA}{b:AA}{n:Nat}{gs:TGs}{ag:AGs}(h:jI u b)(hg:v4 gs ag):jc (J8 (YY u) (Xe K n gs)) (kj b n ag):=⟨fun _ w e x q E=>h.go w e q fun xs M1 vs H1 O1 q1 k1 w1 r1=>
 ⟨by rw [r1.1,q1.1];exact q1.2.1,fun p hp=>
  have k2:=qh w1 hp (.tup vs)
  ⟨p,vs,rfl,SqT.of zp,r1.1.trans q1.1,hg.go (jK w1 hp _) (e.ext (k1.trans k2)) (r1.ext k2) q1.2.2 fun σ3 H3 O3 ρ3 M3 q3 k3 w3 e3=>E.nx _ _ _ _ _ w3 e3 (((x.trans k1).trans k2).trans k3) q3⟩⟩⟩
section
variable {X:Cx}
end
structure Xi where
 nx:ASt->MH->Prop
 rt:List AV->MH->Prop
noncomputable abbrev AST:=MH->Xi->ASt->MH->Prop
structure Ec (t:TS)(a:AST):Prop where
 go:∀ {H0:Hp} {O0:Own} {M0:MH} {Q:VK} {D':Xi} {σ:St} {H:Hp} {O:Own} {ρ:ASt} {M:MH} {nx:St->Hp->Prop},Wf H0 O0 M0->Wf H O M->Er H O M σ ρ->Ext H0 O0 M0 H O M->a M0 D' ρ M ->
  (∀ ys M' us H' O' p,D'.rt ys M'->Ext H0 O0 M0 H' O' M'->Wf H' O' M'->H' p=some (.tup us)->zf H' O' M' us ys->Q (.ref p) H')->t { nx:=nx,rt:=Q } σ H
end L2
namespace L2
open PySem PyProof.Rows
noncomputable def kn (p:Keyed):Int:=numOf p.1
noncomputable def LEr (rk:Keyed->Int)(p q:Keyed):Prop:=kn p<kn q \/ (kn p=kn q/\rk p<=rk q)
section
variable {rk:Keyed->Int}{p q r:Keyed}
end
noncomputable def IsI (p:Keyed):Prop:=∃ n t,p.1=Value.int n t
section
variable {prog:Program}{w:World}{A:Around}{E:Value->Shared->Prop}{s:Shared}
end
local macro_rules | `(tactic| walk_at "unG")=>do
 let n:=Lean.mkIdent (Lean.mkPrivateNameCore `PySem.Builtin.List.W1All `PySem.Builtin.gallop)
 `(tactic| unfold $n)
noncomputable def byd (left:Bool)(key x:Keyed):Bool:=if left then decide (kn x<kn key) else !decide (kn key<kn x)
structure Cut (left:Bool)(key:Keyed)(f:Nat->Keyed)(n k:Nat):Prop where
 le:k<=n
 lo:∀ i,i<k->byd left key (f i)=true
 hi:∀ i,k<=i->i<n->byd left key (f i)=false
section
variable {prog:Program}{w:World}{A:Around}{E:Value->Shared->Prop}{s:Shared}
end
end L2
namespace L2
open PySem PyProof.Rows
section
variable {rk:Keyed->Int}
structure MLo (rk:Keyed->Int)(X Y:List Keyed)(a b:Nat)(o:List Keyed):Prop where
 la:a<=X.length
 lb:b<=Y.length
 perm:o.Perm (X.take a ++ Y.take b)
 pw:o.Pairwise (LEr rk)
 lx:∀ x ∈ o,∀ y ∈ X.drop a,LEr rk x y
 ly:∀ x ∈ o,∀ y ∈ Y.drop b,LEr rk x y
structure Eg (rk:Keyed->Int)(X Y:List Keyed):Prop where
 px:X.Pairwise (LEr rk)
 py:Y.Pairwise (LEr rk)
 bel:∀ x ∈ X,∀ y ∈ Y,rk x<=rk y
 ix:∀ x ∈ X,IsI x
 iy:∀ y ∈ Y,IsI y
variable {X Y o:List Keyed}{a b:Nat}
end
local macro_rules | `(tactic| walk_at "unM")=>do
 let n:=Lean.mkIdent (Lean.mkPrivateNameCore `PySem.Builtin.List.W1All `PySem.Builtin.mergeLo)
 `(tactic| unfold $n)
section
variable {prog:Program}{w:World}{A:Around}{E:Value->Shared->Prop}{s:Shared}{rk:Keyed->Int}
end
end L2
namespace L2
open PySem PyProof.Rows
local macro_rules | `(tactic| walk_at "unM")=>do
 let n:=Lean.mkIdent (Lean.mkPrivateNameCore `PySem.Builtin.List.W1All `PySem.Builtin.mergeLo)
 `(tactic| unfold $n)
section
variable {prog:Program}{w:World}{A:Around}{E:Value->Shared->Prop}{s:Shared}{rk:Keyed->Int}
end
end L2
namespace L2
open PySem PyProof.Rows
section
variable {rk:Keyed->Int}{X Y o:List Keyed}{a b:Nat}
structure MHi (rk:Keyed->Int)(X Y:List Keyed)(a b:Nat)(o:List Keyed):Prop where
 la:a<=X.length
 lb:b<=Y.length
 perm:o.Perm (X.drop a ++ Y.drop b)
 pw:o.Pairwise fun p q=>LEr rk q p
 lx:∀ x ∈ o,∀ y ∈ X.take a,LEr rk y x
 ly:∀ x ∈ o,∀ y ∈ Y.take b,LEr rk y x
end
local macro_rules | `(tactic| walk_at "unM")=>do
 let n:=Lean.mkIdent (Lean.mkPrivateNameCore `PySem.Builtin.List.W1All `PySem.Builtin.mergeHi)
 `(tactic| unfold $n)
section
variable {prog:Program}{w:World}{A:Around}{E:Value->Shared->Prop}{s:Shared}{rk:Keyed->Int}
end
end L2
namespace L2
open PySem PyProof.Rows
noncomputable def gK (xs:Array Keyed)(i:Nat):Keyed:=xs[i]?.getD (.none,.none)
structure Sg (xs ys:Array Keyed)(lo hi:Nat):Prop where
 perm:ys.Perm xs
 out:∀ i,i<lo \/ hi<=i->ys[i]?=xs[i]?
 inn:∀ i,lo<=i->i<hi->∃ j,lo<=j/\j<hi/\ys[i]?=xs[j]?
structure SoB (a₀:Array Keyed)(st:SortSt):Prop where
 perm:(arrOf st).Perm a₀
 kind:kindOf st=oneType'
 failed:failedOf st=none
section
variable {prog:Program}{w:World}{A:Around}{E:Value->Shared->Prop}{s:Shared}{a₀:Array Keyed}{rk:Keyed->Int}
end
end L2
namespace L2
open PySem PyProof.Rows
section
variable {prog:Program}{w:World}{A:Around}{E:Value->Shared->Prop}{s:Shared}{a₀:Array Keyed}{rk:Keyed->Int}
noncomputable def Fal (rk:Keyed->Int)(xs:Array Keyed)(lo hi:Nat):Prop:=∀ i j,lo<=i->i<=j->j<hi->LEr rk (gK xs j) (gK xs i)
structure Dsc (rk:Keyed->Int)(xs:Array Keyed)(lo T hi:Nat):Prop where
 l:lo<=T
 t:T<hi
 a:Fal rk xs lo T
 b:∀ i,lo<=i->i<T->kn (gK xs (hi - 1))<kn (gK xs i)
 c:∀ i j,T<=i->i<=j->j<hi->kn (gK xs i)=kn (gK xs (hi - 1))/\rk (gK xs i)<=rk (gK xs j)
end
end L2
namespace L2
open PySem PyProof.Rows
local macro_rules | `(tactic| walk_at "unMa")=>do
 let n:=Lean.mkIdent (Lean.mkPrivateNameCore `PySem.Builtin.List.W1All `PySem.Builtin.mergeAt)
 `(tactic| unfold $n)
section
variable {prog:Program}{w:World}{A:Around}{E:Value->Shared->Prop}{s:Shared}{rk:Keyed->Int}
end
end L2
namespace L2
open PySem PyProof.Rows
noncomputable def Pnd:Nat->List (Nat × Nat × Nat)->List (List Keyed)->Prop
 | _,[],[]=>True
 | o,p :: ps,r :: rs=>p.1=o/\p.2.1=r.length/\Pnd (o+r.length) ps rs
 | _,_,_=>False
section
variable {prog:Program}{w:World}{A:Around}{E:Value->Shared->Prop}{s:Shared}{a₀:Array Keyed}{rk:Keyed->Int}
structure Rns (rk:Keyed->Int)(a₀:Array Keyed)(rs:List (List Keyed))(qR:List Keyed)(st:SortSt):Prop where
 b:SoB a₀ st
 e:(arrOf st).toList=rs.flatten ++ qR
 ne:∀ r ∈ rs,0<r.length
 so:∀ r ∈ rs,r.Pairwise (LEr rk)
 bel:rs.Pairwise fun X Y=>∀ x ∈ X,∀ y ∈ Y,rk x<=rk y
 be:∀ x ∈ rs.flatten,∀ y ∈ qR,rk x<=rk y
 pn:Pnd 0 (pendingOf st).toList rs
end
end L2
namespace L2
open PySem PyProof.Rows
section
variable {prog:Program}{w:World}{A:Around}{E:Value->Shared->Prop}{s:Shared}{a₀:Array Keyed}{rk:Keyed->Int}
end
end L2
namespace L2
open PySem PyProof.Rows
section
variable {prog:Program}{w:World}{A:Around}{E:Value->Shared->Prop}{s:Shared}{a₀:Array Keyed}{rk:Keyed->Int}
end
end L2
namespace L2
open PySem PyProof.Rows
section
variable {prog:Program}{w:World}{A:Around}{E:Value->Shared->Prop}{s:Shared}
end
section
variable {prog:Program}{w:World}{A:Around}{E:Value->Shared->Prop}{s:Shared}
end
section
variable {X:Cx}
end
section
variable {X:Cx}
variable {o e:Expr}{es:List Expr}{to:TE}{t:TA}{name:Str}{apos cpos:Pos}{T1 id1 T2 id2:String}{r1 r2:V->List V->Hp->VK->Prop}{K:PySem.W.Frag}
end
section
variable {prog:Program}{w:World}{A:Around}{R:Result->Shared->Prop}{s:Shared}
end
section
variable {C:Cx}{kx vx tg iter:Expr}{ifs:List Expr}{gens:List Comprehension}{scope:Scope}{pos:Pos}{d:Nat}{D:Addr}{g:TG}{tt:TT}{te:TE}{tr:TR}
end
section
variable {X:Cx}{ts:List Nat}{scope:Scope}{tg iter kx vx:Expr}{ifs:List Expr}{qR:List Comprehension}{wi:TI}{g:TG}{tt:TT}{tr:Addr->TR}{pos:Pos}
end
section
variable {P:Program}{w:World}{A:Around}{E:Value->Shared->Prop}{s:Shared}{n l1 l2 l3:Nat}{k:Nat}{xs ys zs:Array Value}{x y u a b c:Value}{Q:Option Value->Shared->Prop}
end
section
variable {X:Cx}{es:List Expr}{kt:Nat}{tp:Pos}
end
section
variable {X:Cx}{o i:Expr}{pos:Pos}{td ty:TE}
end
section
variable {X:Cx}{es:List Expr}{kt:Nat}{tp gp:Pos}{body:List Stmt}{pos:Pos}{tb:TS}{g:Str}{a:Addr}{is:List Nat}
end
noncomputable def VO (v:V):Option AV->Prop
 | none=>True
 | some (.d (.int i))=>v=.int i
 | some _=>False
inductive VOs:List V->List (Option AV)->Prop
 | nil:VOs [] []
 | cons {v:V} {x:Option AV} {vs:List V} {xs:List (Option AV)}:VO v x->VOs vs xs->VOs (v :: vs) (x :: xs)
inductive KU (b:List V->TS):List (List V)->List (List (Option AV) × AS)->Prop
 | nil:KU b [] []
 | cons {vs:List V} {vss:List (List V)} {xs:List (Option AV)} {ab:AS} {r:List (List (Option AV) × AS)}:VOs vs xs->jc (b vs) ab->KU b vss r->KU b (vs :: vss) ((xs,ab) :: r)
noncomputable abbrev ATD:=ASt->MH->(ASt->MH->Prop)->Prop
structure Eb (tr:TR)(a:ATD):Prop where
 go:∀ {σ:St} {H:Hp} {O:Own} {ρ:ASt} {M:MH} {N:St->Hp->Prop} {N':ASt->MH->Prop},Wf H O M->Er H O M σ ρ->a ρ M N'->(∀ σ' H' O' ρ' M',N' ρ' M'->Ext H O M H' O' M'->Wf H' O' M'->Er H' O' M' σ' ρ'->N σ' H')->tr σ H N
section
variable {X:Cx}{ts:List Nat}{scope:Scope}{tg iter kx vx:Expr}{ifs:List Expr}{qR:List Comprehension}{wi:TI}{g:TG}{tt:TT}{tr:Addr->TR}{pos:Pos}
end
section
variable {X:Cx}{es:List Expr}{kt:Nat}{tp gp:Pos}{elt:Expr}{scope:Scope}{pos:Pos}{te:TE}{g:Str}{a:Addr}{is ts:List Nat}
end
inductive W2:List (List V)->List (List (Option AV))->Prop
 | nil:W2 [] []
 | cons {vs:List V} {xs:List (Option AV)} {vss:List (List V)} {xss:List (List (Option AV))}:VOs vs xs->W2 vss xss->W2 (vs :: vss) (xs :: xss)
section
variable {X:Cx}{e hi st:Expr}{te:TE}{th ts:TO}{p2 pos:Pos}{K:PySem.W.Frag}
end
local macro_rules | `(tactic| walk_at "unC")=>do
 let n:=Lean.mkIdent (Lean.mkPrivateNameCore `PySem.Builtin.Frozenset.W1All `PySem.Builtin.compare)
 `(tactic| unfold $n)
theorem vD:entryFor table "set.__eq__"=some Builtin.«frozenset.__eq__»:=
 entryFor_alias (id':="frozenset.__eq__") (by kernel_rfl) rfl (by decide +kernel) (by kernel_rfl)
section
variable {prog:Program}{w:World}{K:Type}[DecidableEq K]{knd:KeyKind prog w K}{A:Around}{E:Value->Shared->Prop}{s:Shared}{a b:Addr}
theorem KO {T:K->Bool}{m:Nat}{Q:List (Int × Value)->Shared->Prop}(hT:s.heap.SetOf knd b T m){oa:Obj}{ea:Array (Int × Value)}{epa:Nat}{ta:SetTable}
  (hoa:s.heap.get? a=some oa) (hda:oa.data=.set ea epa ta) (hela:ElemsOf knd ea.toList) (hfa:ta.fits ea.size=true) (h:Q ea.toList s):wpAny (model prog w) A (Builtin.Frozenset.walkUnseen a b) Q E s:=by
 obtain ⟨ob,eb,epb,tb,hob,_,hdb,helb,_,_,hfb,_⟩:=hT
 unfold Builtin.Frozenset.walkUnseen
 refine wpAny_bind (wpAny_setEntries_of hoa hda hfa ?_)
 refine wpAny_bind (wpAny_setEntries_of hob hdb hfb ?_)
 refine wpAny_bind (wpAny_forIn_list _ (fun qR acc s'=>acc.1=none/\s'=s/\∀ e ∈ qR,e.2.scannable=true) _ ?_ ?_ _ _ ?_)
 ·rintro ⟨k,x⟩ qR acc s' ⟨h1,rfl,h2⟩
  have hx:x.scannable=true:=h2 _ List.mem_cons_self
  have hq:Builtin.Frozenset.quietEq x=pure true:=by
   unfold Builtin.Frozenset.quietEq
   cases x with
   | ref c=>cases hx
   | _=>rfl
  dsimp only
  rw [hq]
  refine wpAny_bind (wpAny_pure ?_)
  rw [if_neg (by decide)]
  exact wpAny_pure ⟨rfl,rfl,fun e he=>h2 e (List.mem_cons_of_mem _ he)⟩
 ·rintro acc s' ⟨h1,rfl,_⟩
  obtain ⟨a1,a2⟩:=acc
  cases h1
  exact wpAny_pure h
 ·refine ⟨rfl,rfl,fun e he=>?_⟩
  rcases List.mem_append.mp he with z | z
  ·exact (hela e z).2
  ·exact (helb e z).2
theorem J9 {id:String}{S T:K->Bool}{n m:Nat}{Q:Bool->Shared->Prop}(hS:s.heap.SetOf knd a S n)(hT:s.heap.SetOf knd b T m)(hnm:n<=m)
  (h:∀ r:Bool,(r=true ↔ ∀ k,S k=true->T k=true)->Q r s):wpAny (model prog w) A (Builtin.Frozenset.subsetOf id a b) Q E s:=by
 have hT':=hT
 obtain ⟨oa,ea,epa,ta,hoa,exa,hda,hela,hma,hba,hfa,rfl⟩:=hS
 obtain ⟨ob,eb,epb,tb,hob,exb,hdb,helb,hmb,hbb,hfb,rfl⟩:=hT
 unfold Builtin.Frozenset.subsetOf Builtin.Frozenset.sizeOf
 refine wpAny_bind (wpAny_bind (wpAny_setEntries_of hoa hda hfa (wpAny_pure ?_)))
 refine wpAny_bind (wpAny_bind (wpAny_setEntries_of hob hdb hfb (wpAny_pure ?_)))
 rw [if_neg (by omega)]
 refine wpAny_bind (wpAny_setEpoch_of hoa hda hfa ?_)
 refine wpAny_bind (KO (knd:=knd) hT' hoa hda hela hfa ?_)
 refine wpAny_bind (wpAny_forIn_list _ (fun qR acc s'=>acc.1=none/\s'=s/\(∀ e ∈ qR,e ∈ ea.toList)/\∀ e ∈ ea.toList,e ∈ qR \/ ∀ k,knd.is k e.2=true->T k=true) _ ?_ ?_ _ _ ?_)
 ·rintro ⟨hk,x⟩ qR acc s' ⟨h1,rfl,h2,h3⟩
  have hmem:=h2 _ List.mem_cons_self
  obtain ⟨⟨k,hk1,hk2⟩,hk3⟩:=hela _ hmem
  have hk2:hk=knd.hash k:=hk2
  subst hk2
  dsimp only
  refine wpAny_bind (wpAny_holding (wpAny_setFind_of hk1 hk3 hT' fun r hr=>?_))
  cases e:T k with
  | true=>
   rw [e] at hr
   cases r with
   | none=>cases hr
   | some j=>
    show wpAny _ _ (do Builtin.Frozenset.unchanged id a epa;pure (ForInStep.yield (none,()))) _ _ _
    unfold Builtin.Frozenset.unchanged
    refine wpAny_bind (wpAny_bind (wpAny_setEpoch_of hoa hda hfa ?_))
    rw [if_neg (by simp)]
    refine wpAny_pure (wpAny_pure ⟨rfl,rfl,fun e he=>h2 e (List.mem_cons_of_mem _ he),fun e' he=>?_⟩)
    rcases h3 e' he with z | z
    ·rcases List.mem_cons.mp z with rfl | z
     ·exact .inr fun k' hk'=>by rw [knd.inj _ _ _ hk' hk1];exact e
     ·exact .inl z
    ·exact .inr z
  | false=>
   rw [e] at hr
   cases r with
   | some j=>cases hr
   | none=>
    show wpAny _ _ (pure (ForInStep.done (some false,()))) _ _ _
    refine wpAny_pure (wpAny_pure (h false ⟨(fun z=>nomatch z),fun z=>?_⟩))
    have:=z k ((hma k).mpr ⟨_,hmem,hk1⟩)
    rw [e] at this;cases this
 ·rintro acc s' ⟨h1,rfl,_,h3⟩
  obtain ⟨a1,a2⟩:=acc
  cases h1
  refine wpAny_pure (h true ⟨fun _ k hk=>?_,fun _=>rfl⟩)
  obtain ⟨e,he,hke⟩:=(hma k).mp hk
  exact (h3 e he).elim (fun z=>nomatch z) fun z=>z k hke
 ·exact ⟨rfl,rfl,fun e he=>he,fun e he=>.inl he⟩
theorem Vm {S T:K->Bool}{n m:Nat}{Q:Value->Shared->Prop}(hS:s.heap.SetOf knd a S n)(hT:s.heap.SetOf knd b T m)(hu:A.units<cLine)
  (h:∀ (r:Bool) (tk:Nat),(r=true ↔ n=m/\∀ k,S k=true->T k=true)->Q (.bool r) { s with toks:=tk }):wpAny (model prog w) A (richCompare .Eq (.ref a) (.ref b)) Q E s:=by
 refine wpAny_richCompare_same_room hS.typeIs hT.typeIs F.slot_set_eq (wpAny_call_entry F.slot_set_eq hS.typeIs vD ?_ (F.args_set_eq_2 _ _)) hu
 unfold Builtin.«frozenset.__eq__»
 walk_at "unC"
 unfold Builtin.Frozenset.slot1
 rw [show slotArgs "__eq__" 1 { pos:=[Value.ref a,Value.ref b] }=pure (Value.ref a,[Value.ref b]) from rfl]
 refine wpAny_bind (wpAny_bind (wpAny_pure (wpAny_pure ?_)))
 dsimp only
 have is1:∀ {c:Addr} {U:K->Bool} {q:Nat} {s':Shared} {R:Bool->Shared->Prop},s'.heap.SetOf knd c U q->R true s'->wpAny (model prog w) A.in1 (isInstance (.ref c) (.type "set")) R E s':=fun hU hR=>wpAny_isInstance hU.typeIs sub_set_self hR
 have is2:∀ {c:Addr} {U:K->Bool} {q:Nat} {s':Shared} {R:Bool->Shared->Prop},s'.heap.SetOf knd c U q->R false s'->wpAny (model prog w) A.in1 (isInstance (.ref c) (.type "frozenset")) R E s':=fun hU hR=>wpAny_isInstance hU.typeIs (by rw [isSubtype_type];kernel_rfl) hR
 unfold Builtin.Frozenset.isAnySet
 refine wpAny_bind (wpAny_bind (is1 hT ?_))
 refine wpAny_pure ?_
 rw [if_neg (by decide)]
 refine wpAny_bind (wpAny_pure ?_)
 refine wpAny_bind (wpAny_pure ?_)
 have hS':=hS
 have hT':=hT
 obtain ⟨oa,ea,epa,ta,hoa,exa,hda,hela,hma,hba,hfa,rfl⟩:=hS
 obtain ⟨ob,eb,epb,tb,hob,exb,hdb,helb,hmb,hbb,hfb,rfl⟩:=hT
 unfold Builtin.Frozenset.sizeOf
 refine wpAny_bind (wpAny_bind (wpAny_setEntries_of hoa hda hfa (wpAny_pure ?_)))
 refine wpAny_bind (wpAny_bind (wpAny_setEntries_of hob hdb hfb (wpAny_pure ?_)))
 by_cases c:ea.size=eb.size
 ·rw [if_neg (by simp [c])]
  refine wpAny_bind (wpAny_bind (wpAny_bind (is2 hS' (wpAny_pure ?_))))
  rw [if_neg (by decide)]
  refine J9 hS' hT' (by omega) fun r hr=>?_
  exact wpAny_pure ⟨_,rfl,(fun z=>nomatch z),h r _ ⟨fun z=>⟨c,hr.mp z⟩,fun z=>hr.mpr z.2⟩⟩
 ·rw [if_pos (by simpa using c)]
  refine wpAny_bind (wpAny_pure ?_)
  exact wpAny_pure ⟨_,rfl,(fun z=>nomatch z),h false _ ⟨(fun z=>nomatch z),fun z=>absurd z.1 c⟩⟩
end
noncomputable abbrev xy (led:Bool):Obj:={ cls:=.type "set",dict:=none,data:=.set #[] 0 (.fresh 0 0 led) }
theorem Xz {P:Program}{w:World}{A:Around}{E:Value->Shared->Prop}{s:Shared}{l:Addr}{xs:Array Value}{ns:List Int}{led:Bool}(hh:A.handled=none)(hl:s.heap.IsTuple l xs)(hi:IntsAre xs.toList ns)(hb:xs.size+1<scanBound) :
  wpAny (model P w) A (Builtin.«set.__init__» ⟨[.ref s.heap.objs.size,.ref l],[]⟩) (fun r s2=>r=.done (.ret .none)/\∃ h' tk,s2={ s with heap:=h',toks:=tk }/\h'.SetOf (intKind P w) s.heap.objs.size (fun k'=>(firstMet (fun i=>ns.getD i 0) xs.size).any (· == k')) (firstMet (fun i=>ns.getD i 0) xs.size).length/\∀ b o,b<s.heap.objs.size->s.heap.get? b=some o->h'.get? b=some o) E { s with heap:=s.heap.push (xy led) }:=by
 have g0:(s.heap.push (xy led)).get? s.heap.objs.size=some (xy led):=Heap.get?_push_size _ rfl
 obtain ⟨⟨oc,od,ov,os⟩,ho,hc,nl,hd⟩:=id hl
 simp only at hc hd
 subst hc hd
 have g1:(s.heap.push (xy led)).get? l=some ⟨.type "tuple",od,.seq xs nl,os⟩:=Heap.get?_push_of_some _ ho
 have t1:=F.sub_tuple_set
 have t2:=F.sub_tuple_frozenset
 have t3:(Value.type "tuple" == Value.type "dict")=false:=by decide
 unfold Builtin.«set.__init__» noKeywords Builtin.Frozenset.updateFrom
 generalize hI:pyIter=it
 wp_walk
 subst hI
 have hlt:l<s.heap.objs.size:=Heap.lt_size ho
 have l1:(s.heap.push (xy led)).IsTuple l xs:=⟨_,g1,rfl,nl,rfl⟩
 refine wpAny_pyIter_tuple l1 (wpAny_bind (wpAny_runValue ?_))
 have hz:(s.heap.push (xy led)).objs.size=s.heap.objs.size+1:=Heap.size_push ..
 have nI:l ≠ (s.heap.push (xy led)).objs.size:=by rw [hz];exact Nat.ne_of_lt (Nat.lt_succ_of_lt hlt)
 have nS:s.heap.objs.size ∉ [(s.heap.push (xy led)).objs.size,l]:=fun z=>by
  rw [hz] at z
  rcases List.mem_cons.mp z with z | z
  ·exact absurd z (Nat.ne_of_lt (Nat.lt_succ_self _))
  ·exact absurd (List.mem_singleton.mp z) (Nat.ne_of_gt hlt)
 refine codeAny_set_update_loopS (Walks.tuple (A:=A.in1) (by simp [hh]) _ l nI xs).toS s.heap.objs.size nS (fun i=>ns.getD i 0) (fun i v hv=>IntsAre.int_at hi i v (by rw [Array.getElem?_toList];exact hv)) hb (xs.size - 0) 0 _ (by omega) (Nat.zero_le _) ⟨⟨_,Heap.get?_push_size _ rfl,rfl,rfl⟩,l1.push _⟩ ?_ ?_
 ·have g2:=Heap.get?_push_of_some { cls:=.type "tuple_iterator",data:=.fields #[.ref l,.int 0 0] } g0
  exact SetOf_congr ((setObjOf_fresh (knd:=intKind P w) led).setOf g2 (by unfold scanBound;omega)) (fun _=>rfl) rfl
 ·rintro ⟨h',g',d',tk,o'⟩ hm hS
  obtain rfl:g'=s.gens:=hm.gens
  obtain rfl:d'=s.drawn:=hm.drawn
  obtain rfl:o'=s.os:=hm.os
  refine wpAny_pure (wpAny_pure ⟨rfl,h',tk,rfl,hS,fun b o hb e=>hm.heap b o ?_ (Heap.get?_push_of_some _ (Heap.get?_push_of_some _ e))⟩)
  rw [hz]
  intro z
  rcases List.mem_cons.mp z with z | z
  ·exact absurd z (Nat.ne_of_lt hb)
  ·exact absurd (List.mem_singleton.mp z) (Nat.ne_of_lt (Nat.lt_succ_of_lt hb))
theorem vF {P:Program}{w:World}{A:Around}{E:Value->Shared->Prop}{s:Shared}{l:Addr}{xs:Array Value}{ns:List Int}{Q:Value->Shared->Prop}(hh:A.handled=none)(hl:s.heap.IsTuple l xs)(hi:IntsAre xs.toList ns)(hb:xs.size+1<scanBound)
  (q:∀ h' tk,h'.SetOf (intKind P w) s.heap.objs.size (fun k'=>(firstMet (fun i=>ns.getD i 0) xs.size).any (· == k')) (firstMet (fun i=>ns.getD i 0) xs.size).length->(∀ b o,b<s.heap.objs.size->s.heap.get? b=some o->h'.get? b=some o)->Q (.ref s.heap.objs.size) { s with heap:=h',toks:=tk }) :
  wpAny (model P w) A (call (.type "set") [.ref l]) Q E s:=by
 obtain ⟨_,_,c1⟩:=F.called_set.mro
 have c2:=F.called_set.made
 have c3:=F.called_set.sub
 have c4:=F.called_set.notType
 have c5:=F.called_set.canCreate
 have c6:=F.typeCall_set_1 (.ref l)
 refine wpAny_call (codeAny_of_tree (show wpAny _ _ (callAny (.type "set") _) _ _ _ from wpAny_pure ⟨Code.quiet_builtin _ (by decide +kernel),codeAny_builtin F.entry_type_call ?_⟩))
 rw [Around.under_plain (weight_type_call_type "set" [.ref l] []) rfl]
 repeat' first | assumption | wp_step
 refine codeAny_mono (code_set_new_1 (.ref l) (E:=E) (Q₁:=fun v s1=>∃ led,v=.ref s.heap.objs.size/\s1={ s with heap:=s.heap.push (xy led) }) fun led=>⟨led,rfl,rfl⟩) fun r s1 hr=>?_
 match r,hr with
 | .error e,hr=>exact hr
 | .ok (.ret v),hr=>
  obtain ⟨led,rfl,rfl⟩:=hr
  have g0:(s.heap.push (xy led)).get? s.heap.objs.size=some (xy led):=Heap.get?_push_size _ rfl
  have tS:Shared.TypeIs { s with heap:=s.heap.push (xy led) } (.ref s.heap.objs.size) "set":=⟨_,g0,rfl⟩
  have c7:=F.called_set.init.lookup
  have c8:=F.called_set.init.bind (.ref s.heap.objs.size)
  repeat' first | assumption | wp_step
  refine codeAny_mono (codeAny_call_builtin (R:=wants (fun r s2=>r=.none/\∃ h' tk,s2={ s with heap:=h',toks:=tk }/\h'.SetOf (intKind P w) s.heap.objs.size (fun k'=>(firstMet (fun i=>ns.getD i 0) xs.size).any (· == k')) (firstMet (fun i=>ns.getD i 0) xs.size).length/\∀ b o,b<s.heap.objs.size->s.heap.get? b=some o->h'.get? b=some o) E) F.called_set.init.plain F.entry_set_init (check_set_init_1 tS ?_)) fun r2 s2 hr2=>?_
  ·refine wpAny_mono (Xz (by simp [hh]) hl hi hb) (fun x s3 hx=>?_) (fun _ _ e=>e)
   obtain ⟨rfl,h',tk,rfl,h1,h2⟩:=hx
   exact ⟨rfl,h',tk,rfl,h1,h2⟩
  ·match r2,hr2 with
   | .error e,hr2=>exact hr2
   | .ok (.ret v),⟨hv,h',tk,hs,h1,h2⟩=>
    subst hv hs
    repeat' first | assumption | wp_step
    exact q _ _ h1 h2
noncomputable def KP (K:PySem.W.Frag):List V->Hp->VK->Prop:=fun xs H Q=>∃ p ns,xs=[.ref p]/\(SqL K H p (ns.map V.int) \/ SqT K H p (ns.map V.int))/\ns.length<=4000/\∀ l,H l=none->Q (.ref l) (upd H l (.set (fun k'=>(unl ns).any fun x=>x == k') (unl ns).length))
noncomputable def KF:R2:=fun x y H Q=>∃ p q S T n m,x=.ref p/\y=.ref q/\H p=some (.set S n)/\H q=some (.set T m)/\∀ r:Bool,(r=true ↔ n=m/\∀ k,S k=true->T k=true)->Q (.bl r) H
theorem xW {X:Cx}(hc:X.calm=true):qW X (.type "set") (KP X.K):=by
 intro pins s σ H xs us Q I r h
 obtain ⟨p,ns,rfl,hq,hz,q⟩:=h
 obtain ⟨u,rfl,rx⟩:=jO r
 cases rx
 have fin:∀ (its:List Value),zw (ns.map V.int) its->∀ h' tk,h'.SetOf (intKind X.prog X.w) s.heap.objs.size (fun k'=>(firstMet (fun i=>ns.getD i 0) its.toArray.size).any (· == k')) (firstMet (fun i=>ns.getD i 0) its.toArray.size).length->(∀ b o,b<s.heap.objs.size->s.heap.get? b=some o->h'.get? b=some o)->EP X pins σ Q (.ref s.heap.objs.size) { s with heap:=h',toks:=tk }:=fun its r' h' tk hs hk=>by
  have hlen:=r'.length
  rw [List.length_map] at hlen
  rw [show its.toArray.size=ns.length by simp [hlen],kR] at hs
  have new:zL X.prog X.w (upd H s.heap.objs.size (.set (fun k'=>(unl ns).any fun x=>x == k') (unl ns).length)) h' s.heap.objs.size (.set (fun k'=>(unl ns).any fun x=>x == k') (unl ns).length):=hs
  exact ⟨.ref s.heap.objs.size,_,I.laid (t':=tk) (fun b o e=>hk b o (Heap.lt_size e) e) (Nat.le_refl _) new,rfl,q _ (I.hok.fresh (Nat.le_refl _))⟩
 rcases hq with hq | hq
 ·obtain ⟨its,r',pl,_⟩:=I.list hq
  have hlen:=r'.length
  rw [List.length_map] at hlen
  exact call_set_list (ns:=ns) (items:=its.toArray) (I.ok.hd hc) pl.isList (by simpa using yp r') (by rw [List.size_toArray];show its.length+1<4096;omega) (fin its r')
 ·obtain ⟨its,r',⟨ob,h1,h2,n,h3⟩,_⟩:=I.tuple hq
  have hlen:=r'.length
  rw [List.length_map] at hlen
  exact vF (ns:=ns) (xs:=its.toArray) (I.ok.hd hc) ⟨ob,h1,h2,n,h3⟩ (by simpa using yp r') (by rw [List.size_toArray];show its.length+1<4096;omega) (fin its r')
theorem Yi {X:Cx}(hu:X.A.units<cLine):OpR X (compareOp .Eq) KF:=by
 intro pins s σ H x y v u Q I rx ry h
 obtain ⟨p,q,S,T,n,m,rfl,rfl,h1,h2,k⟩:=h
 cases rx
 cases ry
 have s1:s.heap.SetOf (intKind X.prog X.w) p S n:=I.hok _ _ h1
 have s2:s.heap.SetOf (intKind X.prog X.w) q T m:=I.hok _ _ h2
 exact Vm s1 s2 hu fun r tk hr=>⟨.bl r,H,I.tok tk,rfl,k r hr⟩
theorem xM {ns:List Int}{k:Int}:((unl ns).any fun x=>x == k)=true ↔ k ∈ ns:=by
 rw [<- kR,firstMet_any]
 constructor
 ·intro h
  obtain ⟨x,hx,e⟩:=List.any_eq_true.mp h
  obtain ⟨i,hi,rfl⟩:=List.mem_map.mp hx
  have hl:=List.mem_range.mp hi
  rw [<- beq_iff_eq.mp e,vE hl]
  exact List.getElem_mem hl
 ·intro h
  obtain ⟨i,hl,rfl⟩:=List.mem_iff_getElem.mp h
  exact List.any_eq_true.mpr ⟨ns[i],List.mem_map.mpr ⟨i,List.mem_range.mpr hl,vE hl⟩,by simp⟩
noncomputable def Q4 (u v:AA):AE:=fun ρ M Q=>u ρ M fun xs M1=>∃ x ns,xs=[x]/\zQ x M1=some (List.map (fun i=>AV.d (.int i)) ns)/\ns.length<=4000/\v ρ M1 fun ys M2=>∃ y ms,ys=[y]/\zQ y M2=some (List.map (fun i=>AV.d (.int i)) ms)/\ms.length<=4000/\Q (.d (.bl (decide ((unl ns).length=(unl ms).length/\∀ k ∈ ns,k ∈ ms)))) M2
theorem Z9 {K:PySem.W.Frag}{tu tv:TA}{u v:AA}(h1:jI tu u)(h2:jI tv v):zI (tOp KF (tCB (KP K) tu) (tCB (KP K) tv)) (Q4 u v):=
 ⟨fun w e q k=>h1.go w e q fun xs M1 vs H1 O1 q1 k1 w1 r1=>by
  obtain ⟨x,ns,rfl,hx,hn,q1⟩:=q1
  obtain ⟨vx,rfl,rv⟩:=jf r1
  obtain ⟨a,ys,rfl,g1,g2⟩:=xS w1 rv hx
  rw [jE g2] at g1
  refine ⟨a,ns,rfl,g1.imp SqL.of SqT.of,hn,fun l hl=>?_⟩
  have k2:=qF w1 hl (.set (fun k'=>(unl ns).any fun x=>x == k') (unl ns).length)
  have w2:=kz w1 hl (.set (fun k'=>(unl ns).any fun x=>x == k') (unl ns).length) (fun _ z=>nomatch z)
  have pl:=(w1.fresh hl).2
  refine h2.go w2 ((e.ext k1).ext k2) q1 fun ys M2 us H2 O2 q3 k3 w3 r3=>?_
  obtain ⟨y,ms,rfl,hy,hm,q3⟩:=q3
  obtain ⟨vy,rfl,rv2⟩:=jf r3
  obtain ⟨a2,ys2,rfl,g3,g4⟩:=xS w3 rv2 hy
  rw [jE g4] at g3
  refine ⟨a2,ms,rfl,g3.imp SqL.of SqT.of,hm,fun l2 hl2=>?_⟩
  have k4:=qF w3 hl2 (.set (fun k'=>(unl ms).any fun x=>x == k') (unl ms).length)
  have w4:=kz w3 hl2 (.set (fun k'=>(unl ms).any fun x=>x == k') (unl ms).length) (fun _ z=>nomatch z)
  obtain ⟨p1,_,_⟩:=k3.prv l (.inl rfl) pl
  rw [zp] at p1
  have ne:l ≠ l2:=zk p1 hl2
  refine ⟨l,l2,_,_,_,_,rfl,rfl,(zi ne).trans p1,zp,fun r hr=>?_⟩
  have er:r=decide ((unl ns).length=(unl ms).length/\∀ k ∈ ns,k ∈ ms):=by
   rw [Bool.eq_iff_iff,hr,decide_eq_true_eq]
   constructor
   ·rintro ⟨z1,z2⟩;exact ⟨z1,fun k hk=>xM.mp (z2 k (xM.mpr hk))⟩
   ·rintro ⟨z1,z2⟩;exact ⟨z1,fun k hk=>xM.mpr (z2 k (xM.mp hk))⟩
  rw [er]
  exact k _ _ _ _ _ q3 (((k1.trans k2).trans k3).trans k4) w4 Rep.bl⟩
noncomputable def jx (kvs:List (Key × AV))(k:Key):Option AV:=(kvs.find? fun kv=>decide (kv.1=k)).map (·.2)
noncomputable def Yp (kvs:List (Key × AV))(k:Key)(v:AV):List (Key × AV):=
 if (kvs.any fun kv=>decide (kv.1=k))=true then kvs.map (fun kv=>if kv.1=k then (kv.1,v) else kv) else kvs ++ [(k,v)]
theorem Zh {H:Hp}{O:Own}{M:MH}(k:Key):∀ {xs:List (Key × V)} {kvs:List (Key × AV)} {v:AV},xs.map (·.1)=kvs.map (·.1)->zf H O M (xs.map (·.2)) (kvs.map (·.2))->jx kvs k=some v->∃ u,xA xs k=some u/\zr H O M u v
 | [],[],v,_,_,h=>by cases h
 | [],_ :: _,v,e,_,h=>by cases e
 | _ :: _,[],v,e,_,h=>by cases e
 | (a,x) :: xs,(b,y) :: kvs,v,e,r,h=>by
  obtain ⟨e1,e2⟩:=List.cons.inj e
  have e1:a=b:=e1
  subst e1
  obtain ⟨r1,r2⟩:=zf.head r
  by_cases c:a=k
  ·have:jx ((a,y) :: kvs) k=some y:=by unfold jx;rw [List.find?_cons,show decide (a=k)=true from decide_eq_true c];rfl
   rw [this] at h;cases h
   exact ⟨x,kK c,r1⟩
  ·have:jx ((a,y) :: kvs) k=jx kvs k:=by unfold jx;rw [List.find?_cons,show decide (a=k)=false from decide_eq_false c]
   rw [this] at h
   obtain ⟨u,hu,ru⟩:=Zh k (xs:=xs) e2 r2 h
   exact ⟨u,by rw [kW c];exact hu,ru⟩
theorem wK {α β:Type}(k:Key):∀ {xs:List (Key × α)} {ys:List (Key × β)},xs.map (·.1)=ys.map (·.1)->(xs.any fun kv=>decide (kv.1=k))=(ys.any fun kv=>decide (kv.1=k))
 | [],[],_=>rfl
 | [],_ :: _,e=>by cases e
 | _ :: _,[],e=>by cases e
 | x :: xs,y :: ys,e=>by
  obtain ⟨e1,e2⟩:=List.cons.inj e
  have e1:x.1=y.1:=e1
  rw [List.any_cons,List.any_cons,e1,wK k e2]
theorem Vr {H:Hp}{O:Own}{M:MH}{k:Key}{u:V}{v:AV}{xs:List (Key × V)}{kvs:List (Key × AV)}(h:j3 H O M xs kvs)(r:zr H O M u v):j3 H O M (jA xs k u) (Yp kvs k v):=by
  unfold jA Yp
  rw [wK k h.1]
  split
  · have go : ∀ {xs : List (Key × V)} {kvs : List (Key × AV)}, xs.map (·.1) = kvs.map (·.1) -> zf H O M (xs.map (·.2)) (kvs.map (·.2)) -> j3 H O M (xs.map fun kv => if kv.1 = k then (kv.1, u) else kv) (kvs.map fun kv => if kv.1 = k then (kv.1, v) else kv) := by
      intro xs
      induction xs with
      | nil=>intro kvs e q;cases kvs with | nil=>exact ⟨rfl,.nil⟩ | cons _ _=>cases e
      | cons x xs ih=>
        intro kvs e q
        cases kvs with
        | nil=>cases e
        | cons y kvs=>
          obtain ⟨e1,e2⟩:=List.cons.inj e
          have e1:x.1=y.1:=e1
          obtain ⟨r1,r2⟩:=zf.head q
          obtain ⟨i1,i2⟩:=ih e2 r2
          by_cases c:y.1=k
          · refine ⟨?_,?_⟩
            · rw [List.map_cons,List.map_cons,List.map_cons,List.map_cons,if_pos c,if_pos (e1.trans c)];exact List.cons_eq_cons.mpr ⟨e1,i1⟩
            · rw [List.map_cons,List.map_cons,List.map_cons,List.map_cons,if_pos c,if_pos (e1.trans c)];exact .cons r i2
          · refine ⟨?_,?_⟩
            · rw [List.map_cons,List.map_cons,List.map_cons,List.map_cons,if_neg c,if_neg (fun z=>c (e1.symm.trans z))];exact List.cons_eq_cons.mpr ⟨e1,i1⟩
            · rw [List.map_cons,List.map_cons,List.map_cons,List.map_cons,if_neg c,if_neg (fun z=>c (e1.symm.trans z))];exact .cons r1 i2
    exact go h.1 h.2
  · exact ⟨by rw [List.map_append,List.map_append,h.1];rfl,by rw [List.map_append,List.map_append];exact h.2.append (.cons r .nil)⟩
theorem yG {H:Hp}{O:Own}{M:MH}{p:Addr}{l l':List (Key × AV)}{xs':List (Key × V)}(w:Wf H O M)(hm:M p=some (.dK l))(r:j3 H O M xs' l'):Ext H O M (upd H p (.dK xs')) O (mup M p (.dK l'))/\Wf (upd H p (.dK xs')) O (mup M p (.dK l')):=
 have np:=qU hm
 ⟨jN w np _ _,Zp w np (fun _ z=>nomatch z) ⟨_,zp,r.ext (jN w np _ _)⟩⟩
noncomputable def vO:List (AE × AE)->ASt->MH->(List (AV × AV)->MH->Prop)->Prop
 | [],_,M,Q=>Q [] M
 | (ak,av) :: r,ρ,M,Q=>ak ρ M fun x M1=>av ρ M1 fun y M2=>vO r ρ M2 fun ps M3=>Q ((x,y) :: ps) M3
inductive yt:List (TE × TE)->List (AE × AE)->Prop
 | nil:yt [] []
 | cons {tk tv:TE} {ak av:AE} {ts:List (TE × TE)} {as:List (AE × AE)}:zI tk ak->zI tv av->yt ts as->yt ((tk,tv) :: ts) ((ak,av) :: as)
noncomputable def DA (H:Hp)(O:Own)(M:MH)(vs:List (V × V))(xs:List (AV × AV)):Prop:=zf H O M (vs.map (·.1)) (xs.map (·.1))/\zf H O M (vs.map (·.2)) (xs.map (·.2))
theorem JH {ts:List (TE × TE)}{as:List (AE × AE)}(h:yt ts as):∀ {σ:St} {H:Hp} {O:Own} {ρ:ASt} {M:MH} {Q:List (V × V)->Hp->Prop} {Q':List (AV × AV)->MH->Prop},Wf H O M->Er H O M σ ρ->vO as ρ M Q' ->
  (∀ xs M' vs H' O',Q' xs M'->Ext H O M H' O' M'->Wf H' O' M'->DA H' O' M' vs xs->Q vs H')->ye ts σ H Q:=by
 induction h with
 | nil=>intro σ H O ρ M Q Q' w e q k;exact k [] M [] H O q .refl w ⟨.nil,.nil⟩
 | cons h1 h2 h3 ih=>
  intro σ H O ρ M Q Q' w e q k
  exact h1.go w e q fun x M1 v H1 O1 q1 k1 w1 r1=>h2.go w1 (e.ext k1) q1 fun y M2 u H2 O2 q2 k2 w2 r2=>ih w2 ((e.ext k1).ext k2) q2 fun xs M3 vs H3 O3 q3 k3 w3 r3=>
   k _ _ _ _ _ q3 ((k1.trans k2).trans k3) w3 ⟨.cons ((r1.ext k2).ext k3) r3.1,.cons (r2.ext k3) r3.2⟩
noncomputable def X6 (as:List (AE × AE)):AE:=fun ρ M Q=>∀ D,M D=none->vO as ρ (mup M D (.dK [])) fun ps M2=>∃ kvs:List (Str × AV),ps=kvs.map (fun kv=>(AV.d (.str kv.1),kv.2))/\kvs.length<=15/\(kvs.map (·.1)).Nodup/\M2 D=some (.dK [])/\Q (.ref D) (mup M2 D (.dK (kvs.map fun kv=>(Sum.inr kv.1,kv.2))))
theorem yX:∀ (more acc:List (Key × V)),(more.map (·.1)).Nodup->(∀ k ∈ more.map (·.1),k ∉ acc.map (·.1))->ky acc more=acc ++ more
 | [],acc,_,_=>(List.append_nil _).symm
 | kv :: r,acc,hn,ha=>by
  have hn':=List.nodup_cons.mp hn
  have e:jA acc kv.1 kv.2=acc ++ [kv]:=by
   unfold jA
   rw [if_neg]
   intro z
   obtain ⟨q,h1,h2⟩:=List.any_eq_true.mp z
   exact ha kv.1 List.mem_cons_self (List.mem_map.mpr ⟨q,h1,of_decide_eq_true h2⟩)
  show ky (jA acc kv.1 kv.2) r=_
  rw [e,yX r _ hn'.2 fun k hk z=>?_,List.append_assoc];rfl
  rw [List.map_append] at z
  rcases List.mem_append.mp z with z | z
  ·exact ha k (List.mem_cons_of_mem _ hk) z
  ·have:k=kv.1:=by simpa using z
   exact hn'.1 (by subst this;exact hk)
theorem Ze {H:Hp}{O:Own}{M:MH}:∀ {vs:List (V × V)} {kvs:List (Str × AV)},zf H O M (vs.map (·.1)) ((kvs.map fun kv=>(AV.d (.str kv.1),kv.2)).map (·.1))->vs.length=kvs.length->∃ xs:List (Key × V),vs=xs.map (fun kv=>(kV kv.1,kv.2))/\xs.map (·.1)=kvs.map (fun kv=>(Sum.inr kv.1:Key))
 | [],[],_,_=>⟨[],rfl,rfl⟩
 | [],_ :: _,_,e=>by cases e
 | _ :: _,[],_,e=>by cases e
 | (a,b) :: vs,(x,y) :: kvs,r,e=>by
  obtain ⟨r1,r2⟩:=zf.head r
  obtain ⟨xs,h1,h2⟩:=Ze (vs:=vs) (kvs:=kvs) r2 (Nat.succ.inj e)
  have:a=V.str x:=vz r1
  subst this
  exact ⟨(Sum.inr x,b) :: xs,by rw [h1];rfl,by rw [List.map_cons,h2];rfl⟩
theorem JC {ts:List (TE × TE)}{as:List (AE × AE)}(h:yt ts as):zI (Yt ts) (X6 as):=⟨fun {σ H O ρ M Q Q'} w e q k p hp=>by
 have kx:=QQ w hp (.dK []) (.dK [])
 have wx:Wf (upd H p (.dK [])) (yD O p) (mup M p (.dK [])):=Au w hp (fun _ z=>nomatch z) ⟨[],zp,rfl,.nil⟩
 refine JH h wx (e.ext kx) (q p (w.fresh hp).2) fun ps M2 vs H2 O2 q2 k2 w2 r2=>?_
 obtain ⟨kvs,rfl,hl,hn,hm,q3⟩:=q2
 have hlen:vs.length=kvs.length:=by
  have:=r2.2.1
  simpa using this
 obtain ⟨xs,rfl,hk⟩:=Ze r2.1 hlen
 obtain ⟨ys,hy,kr⟩:=w2.mo p _ hm
 have h0:ys=[]:=by
  have:=congrArg List.length kr.1
  exact List.eq_nil_of_length_eq_zero (by simpa using this)
 subst h0
 have hnd:(xs.map (·.1)).Nodup:=by
  rw [hk,show kvs.map (fun kv=>(Sum.inr kv.1:Key))=(kvs.map (·.1)).map Sum.inr by rw [List.map_map];rfl]
  exact List.Pairwise.map Sum.inr (fun a b h z=>h (Sum.inr.inj z)) hn
 have rr:j3 H2 O2 M2 xs (kvs.map fun kv=>((Sum.inr kv.1:Key),kv.2)):=by
  refine ⟨by rw [hk,List.map_map];rfl,?_⟩
  have:=r2.2
  rw [List.map_map,List.map_map] at this
  rw [List.map_map]
  exact this
 obtain ⟨k4,w4⟩:=yG w2 hm rr
 refine ⟨hy,xs,rfl,by rw [<- List.length_map (f:=fun kv:Key × V=>(kV kv.1,kv.2)),hlen];exact hl,?_⟩
 rw [yX xs [] hnd fun _ _ z=>by cases z]
 refine k _ _ _ _ _ q3 ((kx.trans k2).trans k4) w4 ⟨rfl,?_⟩
 rw [ze];exact fun z=>nomatch z⟩
noncomputable def XR (ad ai:AE):AE:=fun ρ M Q=>ad ρ M fun x M1=>ai ρ M1 fun y M2=>∃ (p:Addr) (kvs:List (Key × AV)) (s:Str) (v:AV),x=.ref p/\M2 p=some (.dK kvs)/\y=.d (.str s)/\jx kvs (.inr s)=some v/\Q v M2
theorem JO {td ty:TE}{ad ai:AE}(h1:zI td ad)(h2:zI ty ai):zI (XF td ty) (XR ad ai):=
 ⟨fun w e q k=>h1.go w e q fun x M1 v H1 O1 q1 k1 w1 r1=>h2.go w1 (e.ext k1) q1 fun y M2 u H2 O2 q2 k2 w2 r2=>by
  obtain ⟨p,kvs,s,v,rfl,hm,rfl,hv,q⟩:=q2
  cases r1.1
  cases (show u=V.str s from vz r2)
  obtain ⟨xs,hx,kr⟩:=w2.mo p _ hm
  obtain ⟨u,hu,ru⟩:=Zh (.inr s) kr.1 kr.2 hv
  exact ⟨p,u,rfl,by have:=J1.k (k:=Sum.inr s) hx;rw [hu] at this;exact this,k _ _ _ _ _ q (k1.trans k2) w2 ru⟩⟩
noncomputable def Yx (ad ai av:AE):AS:=fun _ D ρ M=>av ρ M fun v M1=>ad ρ M1 fun x M2=>ai ρ M2 fun y M3=>∃ (p:Addr) (kvs:List (Key × AV)) (s:Str),x=.ref p/\M3 p=some (.dK kvs)/\y=.d (.str s)/\kvs.length<1000000/\D.nx ρ (mup M3 p (.dK (Yp kvs (.inr s) v)))
theorem Kb {td ty tv:TE}{ad ai av:AE}(h1:zI td ad)(h2:zI ty ai)(h3:zI tv av):jc (YF td ty tv) (Yx ad ai av):=
 ⟨fun w0 w e x q E=>h3.go w e q fun z M1 v H1 O1 q1 k1 w1 r1=>h1.go w1 (e.ext k1) q1 fun y M2 u H2 O2 q2 k2 w2 r2=>h2.go w2 ((e.ext k1).ext k2) q2 fun t M3 g H3 O3 q3 k3 w3 r3=>by
  obtain ⟨p,kvs,s,rfl,hm,rfl,hl,q⟩:=q3
  cases r2.1
  cases (show g=V.str s from vz r3)
  obtain ⟨xs,hx,kr⟩:=w3.mo p _ hm
  have hxl:xs.length=kvs.length:=by
   have:=congrArg List.length kr.1
   simpa using this
  obtain ⟨k4,w4⟩:=yG w3 hm (Vr (k:=Sum.inr s) kr ((r1.ext k2).ext k3))
  exact ⟨p,_,rfl,XH.k (k:=Sum.inr s) hx (by rw [hxl];exact Nat.lt_of_lt_of_le hl (by decide)),E.nx _ _ _ _ _ w4 ((((e.ext k1).ext k2).ext k3).ext k4) (x.trans (((k1.trans k2).trans k3).trans k4)) q⟩⟩
end L2
namespace Ot
open PySem PySem.Spec PyProof.Rows L2
noncomputable def top (i:Nat):Stmt:=PySem.Challenge.pw_ownturn_k54_plans_tidied.main.body.getD i (.Pass ⟨0,0,0,0⟩)
section
variable {P:Program}{w:World}{K:PySem.W.Frag}{mg:Str->Option Value}{base:Heap}{k:Nat}
local macro_rules | `(tactic| walk_at "rd")=>`(tactic| try simp only [XY,WZ,Bh,X8,tOp,tUn,rU,Wx,tC,tB,Dk,B9,Qi,rI0,rI,J8,Zb,Al,Yf,Yb,Xe,Xm,AW,AU,tCB,YD,AQ,WK,Qn,WA,Zx,Wm,Vn,rEq,Ad,YY,tBM,xE,QM,Ak,Jq,ZT,Bc,YW,XF,Yt,ye,XU,J3,Js,tIf,tOr,A0,A1,Xh,Bj,XG,Qu,XO,cxK,KN,iLT,WM,YF,tSl,Xc,vL,As,List.append_nil,
 List.getElem?_cons_zero,List.getElem?_cons_succ,Option.some.injEq,exists_eq_left',exists_eq_left,V.int.injEq,V.ref.injEq,V.bl.injEq,List.cons.injEq,and_true,true_and,and_assoc,decide_eq_true_eq,Bool.not_eq_true',decide_eq_false_iff_not,Bool.false_eq_true,if_false,if_true,reduceIte,exists_and_left,exists_and_right,List.set_cons_zero,List.set_cons_succ,List.nil_append,List.cons_append])
theorem jT {H:Hp}{a b:Addr}{o:HO}(h':H b=none)(h:H a=some o):a ≠ b:=zk h h'
theorem wm {H H':Hp}{l:Addr}(h:H' l=none)(e:Kp [] H H'):H l=none:=e.free h
theorem ZC {K:PySem.W.Frag}{H H':Hp}{a:Addr}{xs:List V}(h:SqL K H a xs)(e:Kp [] H H'):SqL K H' a xs:=by
 rcases h with (h | ⟨o,h⟩) | h
 ·exact .inl (.inl (e _ _ (by simp) h))
 ·exact .inl (.inr ⟨o,e _ _ (by simp) h⟩)
 ·exact .inr h
theorem hsl:100000<sizeLine:=by rw [sizeLine_eq];decide
theorem A5 {α:Type}(k:Nat)(v:α):(List.replicate k [v]).flatten=List.replicate k v:=by simp
theorem jJ (i:Int){j:Int}(h:0<j):0<=i % j/\i % j<j:=⟨Int.emod_nonneg _ (by omega),Int.emod_lt_of_pos _ h⟩
theorem Bt {i j:Int}(h1:0<=i)(h2:i<18446744073709551616):XA i j:=.inl ⟨by omega,by omega⟩
theorem Xb {i j:Int}(h1:0<=j)(h2:j<18446744073709551616):XA i j:=.inr ⟨by omega,by omega⟩
theorem b01 (c:Prop)[Decidable c]:0<=(if c then (1:Int) else 0):=by split <;> decide
theorem Ww {i j:Int}(h1:0<j)(h2:j<1073741824):BM i j:=⟨h1,h2⟩
local macro_rules | `(tactic| walk_at "ne")=>`(tactic| first | (with_reducible assumption) | exact Ne.symm (by with_reducible assumption) | exact jT (by with_reducible assumption) (by walk_at "hp") | exact Ne.symm (jT (by with_reducible assumption) (by walk_at "hp")))
local macro_rules | `(tactic| walk_at "hp")=>`(tactic| first | (with_reducible assumption) | (with_reducible exact zp) | ((with_reducible refine Eq.trans (zi ?ne) ?_);(case ne=>walk_at "ne");walk_at "hp"))
local macro_rules | `(tactic| walk_at "kp")=>`(tactic| first | (with_reducible assumption) | (with_reducible exact Kp.refl) | ((with_reducible refine Kp.trans ?_ (Kp.new _ ?h));(case h=>with_reducible assumption);walk_at "kp") | ((with_reducible refine Kp.trans ?_ (Kp.set _ ?h));(case h=>(simp;done));walk_at "kp"))
local macro_rules | `(tactic| walk_at "fr")=>`(tactic| first | (with_reducible assumption) | exact wm (by with_reducible assumption) (by walk_at "kp"))
local macro_rules | `(tactic| walk_at "sz")=>`(tactic| (simp only [List.length_cons,List.length_nil,List.length_map,List.length_append,List.length_replicate,List.length_take,List.length_drop,qJ,A5,Nat.zero_add,Nat.one_mul];omega))
local macro_rules | `(tactic| walk_at "fact")=>`(tactic| first | (with_reducible assumption) | exact rfl | exact SqL.of (by walk_at "hp") | exact SqT.of (by walk_at "hp") | exact Or.inl (SqL.of (by walk_at "hp")) | exact Or.inr (SqT.of (by walk_at "hp")) | exact Or.inl (by with_reducible assumption) | exact ZC (by with_reducible assumption) (by walk_at "kp") | exact Or.inl (ZC (by with_reducible assumption) (by walk_at "kp")) | exact Exists.intro _ (SqL.of (by walk_at "hp")) | exact Exists.intro _ (ZC (by with_reducible assumption) (by walk_at "kp")) | (walk_at "hp") | decide | omega | exact Bt (by omega) (by omega) | exact Xb (by omega) (by omega) | exact Ww (by omega) (by omega) | exact ⟨by omega,by omega⟩ | (walk_at "sz") | exact ⟨by decide,by decide,by decide⟩ | exact Xb (b01 _) (b01' _) | (walk_at "fr"))
local macro_rules | `(tactic| walk_at "x1")=>`(tactic| first
 | ((with_reducible refine Exists.intro ?w (And.intro ?h ?_));(case h=>walk_at "fact"))
 | ((with_reducible refine And.intro ?h ?_);(case h=>walk_at "fact"))
 | ((with_reducible refine Exists.intro ?w (Exists.intro ?w2 (And.intro ?h ?_)));(case h=>walk_at "fact")))
local macro_rules | `(tactic| walk_at "xs")=>`(tactic| repeat walk_at "x1")
local macro_rules | `(tactic| walk_at "sim1") => `(tactic| first
 | ((with_reducible apply simX_tryR exs_def);intro HX_ OX_ MX_ E_ EA_ hE_)
 | ((with_reducible apply sim_try);intro HX_ OX_ MX_ E_ EA_ hE_)
 | ((with_reducible apply sim_try0);intro HX_ OX_ MX_ E_ EA_ hE_)
 | (with_reducible first | assumption | apply Ko | exact VI | exact AM | exact Bv | exact Bo | exact AR | exact BL | exact V0 | exact Kz | exact Jl | exact YU | exact VR | exact K9 | exact V8 | exact Y3 | exact Kx | exact Yg | exact Vz | exact KW | exact YH | exact BF | exact KA | exact VQ | exact AB | exact J7 | exact VL | exact K2 | exact Y6 | exact Kv | exact Z3 | exact Wp | exact Zd | exact wy | exact yL | exact kX | exact y9 | apply Z9 | apply JC | apply yt.cons | exact yt.nil | apply JO | apply Kb | apply Yv | apply VP | apply VW | apply VY | apply VZ | apply K5 | apply Wv | apply Jz | apply V4 | apply Kg | apply Kj | apply J4 | apply Xd | apply Xf | apply Dw | apply VA | apply Bd | apply VF | apply Ag | apply YX | apply Vo | apply KC | apply Vt | apply An | apply K1 | apply XN | apply VE | apply Y9 | apply BB | apply Vp | apply A8 | apply wr | apply Kt | apply vQ | apply Vf | apply xF | apply Jw | apply Vd | apply XM | apply Kn | apply X1 | apply W1 | apply JZ | apply ZS | apply Jt | apply Be | apply j9))
local macro_rules | `(tactic| walk_at "sim")=>`(tactic| repeat' walk_at "sim1")
local macro_rules | `(tactic| walk_at "ra")=>`(tactic| try simp only [Q4,X6,vO,XR,Yx,kj,zE,aC,aOp,aUn,jq,zR,aCB,y8,aFz,aOw,Bw,Xu,aB,yf,VS,aOr,Dr,YV,aIf,jh,ja,WD,Zn,jX,jb,yz,qZ,Qj,ko,asL,J0,AY,WF,A9,aiS,Du,AH,ku,Qh,aI0,aU,xt,aIx,fOp,Bm,Ah,DB,WE,fSl,Ds,BX,WQ,xP,Vb,bI2,XJ,fCB,YG,xY,VM,XT,BC,BJ,WB,YQ,aBM,B6,QF,B0,Wh,kA,Zk,Bu,jL,ZY,B7,B1,Dh,DF,Dj,BR,YJ,Jj,Option.map_some,YM,Ks,Xg,Ky,XX,Yw,Yn,Zr,XC,A3,Af,Yo,Zo,Xa,A4,Ay,Bl,Bb,vA,W3,W8,Bk,BA,Z5,Ax,BE,AX,W0,Ap,ZO,Zt,W6,WS,W5,ZA,Qb,Y5,JA,zF,wQ,VG,wF,WO,WU,Br,Ab,Wa,Ws,Wg,V6,Wb,Vq,Vl,kE,wz,zy,Z6,Zy,ZQ,kH,Yh,WR,AJ,AD,Ba,Ac,Bf,id,decide_true,decide_false,Bool.decide_eq_true,not_true_eq_false,not_false_eq_true,xL,
 List.getElem?_cons_zero,List.getElem?_cons_succ,Option.some.injEq,exists_eq_left',exists_eq_left,AV.d.injEq,AV.ref.injEq,Dat.int.injEq,Dat.bl.injEq,Dat.str.injEq,Dat.lst.injEq,Dat.tup.injEq,Dat.ty.injEq,List.cons.injEq,and_true,true_and,and_assoc,decide_eq_true_eq,Bool.not_eq_true',decide_eq_false_iff_not,Bool.false_eq_true,if_false,if_true,reduceIte,exists_and_left,exists_and_right,List.set_cons_zero,List.set_cons_succ,List.nil_append,List.cons_append,List.length_map,List.map_cons,List.map_nil,Nat.zero_le,Bool.not_true,Bool.not_false,Bool.true_eq_false,eq_self,List.length_cons,List.length_nil])
local macro_rules | `(tactic| walk_at "sk")=>`(tactic| (refine zm fun r9 hr9=>?_;walk_at "ra";refine ⟨_,rfl,_,rfl,by rw [zy];omega,?_⟩;rw [kH,if_neg (by decide +kernel)];subst hr9))
theorem wH (ns:List Int)(lo hi:Option Int):yC (ns.map V.int) lo hi=List.map V.int ((ns.drop (HT.sIx ns.length 0 lo)).take (HT.sIx ns.length ns.length hi - HT.sIx ns.length 0 lo)):=by
 unfold yC
 rw [List.length_map,<- List.map_drop,<- List.map_take]
theorem Qp (cs:List Int)(j:Nat)(v:Int):(cs.map V.int).set j (.int v)=(cs.set j v).map V.int:=by rw [List.map_set]
theorem xn {cs:List Int}{k:Int}(h0:0<=k)(h1:k<cs.length):ixN (cs.map V.int).length k=some k.toNat/\atI (cs.map V.int) k=some (.int (cs.getD k.toNat 0)):=by
 have hk:k.toNat<cs.length:=by omega
 have e1:ixN (cs.map V.int).length k=some k.toNat:=by unfold ixN;rw [List.length_map,if_pos h0,if_pos h1]
 refine ⟨e1,?_⟩
 unfold atI
 rw [e1]
 show (cs.map V.int)[k.toNat]?=_
 rw [List.getElem?_map,List.getD_eq_getElem?_getD,List.getElem?_eq_getElem hk];rfl
theorem vm {ns:List Int}{i:Nat}{x:V}(h:(ns.map V.int)[i]?=some x):x=.int (ns.getD i 0)/\i<ns.length:=by
 rw [List.getElem?_map] at h
 cases e:ns[i]? with
 | none=>rw [e] at h;cases h
 | some v=>
  rw [e] at h
  cases h
  exact ⟨by rw [List.getD_eq_getElem?_getD,e];rfl,(List.getElem?_eq_some_iff.mp e).1⟩
noncomputable abbrev Zs:Stmt:=top 7
theorem QA:zO ["_law_box_here","_law_many","_law_once","_law_found"] ["_law_box_here","_law_many"] (zn Zs):=⟨rfl,rfl,rfl,by decide +kernel,rfl,by decide +kernel,by decide +kernel⟩
noncomputable def Z8:Sp:=fun vs H Q _=>∃ (b:Addr) (many:Int) (N:Nat),vs=[.ref b,.int many]/\Bx H b N/\N<1000000000/\0<many/\many<1073741824/\∀ r H',Kp [b] H H'->Bx H' b (N+1)->0<=r->r<many->Q (.int r) H'
theorem V3 (a:At K mg "_law_take" Zs)(B:Blt mg):Df P w K mg base "_law_take" ["_law_box_here","_law_many"] 1 Z8:=by
 refine va (k:=0) a QA (fun _ _ _ _ _ _=>Pn2_ fun _ _=>rfl) (fun vs H Q E h=>?_) (fun f cdv A outer s H vs Q E hr h=>?_)
 ·obtain ⟨b,m,N,rfl,_⟩:=h;rfl
 obtain ⟨b,m,N,rfl,⟨x,y,z,hb,hx,hy,hy',hz,hz'⟩,hN,hm,hm',q⟩:=h
 have sc:=QA
 refine ⟨_,(zd (zU (zl X3 (zh qo (pv 0) zc (fun _ _=>rfl)) zc (zj _)) (zd (qm (zo wC rfl B.divmod Jg (za (zh qo (pv 0) zc (fun _ _=>rfl)) (za (pv 1) zb))) (qp (K:=K) 2 rfl rfl (zv (qw (pv 0) zc zJ) (zv (zA (i:=3) sc.nd rfl (by first | exact Or.inl rfl | exact Or.inr rfl)) qu))))
  (zg (zG (pv 3)))) zC)
  (zd (qm (zz qI (zh qo (pv 0) zc (fun _ _=>rfl)) zc) (qw (pv 0) zc zJ))
  (zd (zS (i:=2) sc.nd rfl (by first | exact Or.inl rfl | exact Or.inr rfl) (zz ju (zz j7 (zz qI (zh qo (pv 0) zc (fun _ _=>rfl)) (zz j7 zc (zh qo (pv 0) zc (fun _ _=>rfl)))) (zz qI zc (zh qo (pv 0) zc (fun _ _=>rfl)))) zc))
  (zd (qm (zz ju (zz qI (zz j7 (pv 2) (zz qI (zz ju (pv 2) zc) zc)) (zh qo (pv 0) zc (fun _ _=>rfl))) zc) (qw (pv 0) zc zJ))
  (zg (zG (zz ju (zz Ql (zz ju (zz j7 (zh qo (pv 0) zc (fun _ _=>rfl)) (zz qI (zz ju (zh qo (pv 0) zc (fun _ _=>rfl)) zc) zc)) zc) zc) (pv 1)))))))),?_⟩
 rw [show jk ["_law_box_here","_law_many","_law_once","_law_found"] [V.ref b,V.int m]=[some (.ref b),some (.int m),none,none] from rfl]
 walk_at "rd"
 walk_at "xs"
 refine Dx (fun c=>?_) (fun c=>?_)
 ·walk_at "xs"
  refine fun p hp=>?_
  walk_at "xs"
  refine q _ _ ((Kp.new _ hp).trans (Kp.set _ (by simp))) ⟨_,_,_,zp,Int.ediv_nonneg hx (by omega),hy,hy',hz,by omega⟩ (jJ x hm).1 (jJ x hm).2
 ·walk_at "xs"
  refine q _ _ ((Kp.set _ (by simp)).trans (Kp.set _ (by simp))) ⟨_,_,_,zp,hx,?_,?_,?_,?_⟩ (jJ _ hm).1 (jJ _ hm).2
  ·exact (jJ _ (by decide)).1
  ·exact Int.lt_trans (jJ _ (by decide)).2 (by decide)
  ·omega
  ·omega
noncomputable abbrev YS:Stmt:=top 6
theorem YE:zO ["_law_script","_law_k","_law_cell"] ["_law_script","_law_k"] (zn YS):=⟨rfl,rfl,rfl,by decide +kernel,rfl,by decide +kernel,by decide +kernel⟩
noncomputable def WH:Sp:=fun vs H Q _=>∃ (a:Addr) (k:Int) (cs:List Int),vs=[.ref a,.int k]/\H a=some (il cs)/\0<=k/\k<=1000/\cs.length<=1000/\∀ p H',Kp [] H H'->H p=none->Bx H' p 0->Q (.ref p) H'
theorem We {cs:List Int}{k:Int}(h0:0<=k):∃ c:Int,atI (cs.map V.int ++ List.replicate (k+1).toNat (V.int 0)) k=some (.int c):=by
 have e:cs.map V.int ++ List.replicate (k+1).toNat (V.int 0)=(cs ++ List.replicate (k+1).toNat 0).map V.int:=by simp
 have ek:k=((k.toNat:Nat):Int):=by omega
 have hk:k.toNat<(cs ++ List.replicate (k+1).toNat (0:Int)).length:=by rw [List.length_append,List.length_replicate];omega
 refine ⟨(cs ++ List.replicate (k+1).toNat 0)[k.toNat],?_⟩
 rw [e]
 have q:atI ((cs ++ List.replicate (k+1).toNat (0:Int)).map V.int) ((k.toNat:Nat):Int)=some (.int (cs ++ List.replicate (k+1).toNat 0)[k.toNat]):=Wy (by rw [List.getElem?_map,List.getElem?_eq_getElem hk] <;> rfl)
 rw [<- ek] at q
 exact q
theorem AZ (a:At K mg "_law_box" YS)(B:Blt mg):Df P w K mg base "_law_box" ["_law_script","_law_k"] 1 WH:=by
 refine va (k:=0) a YE (fun _ _ _ _ _ _=>Pn2_ fun _ _=>rfl) (fun vs H Q E h=>?_) (fun f cdv A outer s H vs Q E hr h=>?_)
 ·obtain ⟨a,k,cs,rfl,_⟩:=h;rfl
 obtain ⟨a,k,cs,rfl,ha,hk,hk',hcs,q⟩:=h
 have sc:=YE
 have hsl:=hsl
 refine ⟨_,(zd (zS (i:=2) sc.nd rfl (by first | exact Or.inl rfl | exact Or.inr rfl) (zh qo (zz yl (pv 0) (zz ZX (zW (za zc zb)) (zz qI (pv 1) zc))) (pv 1) (fun _ _=>rfl)))
  (zg (zG (zW (za (zz j7 (zo v5 rfl B.abs K4 (za (pv 2) zb)) (zP vb rfl B.int ZP (za (qi DI (zo v5 rfl B.abs K4 (za (pv 2) zb)) (zz A6 zc zc) (zj _)) zb))) (za (zz ju (zz j7 (zz qI (zz qI (zz ju (pv 2) zc) (zz j7 zc (pv 1))) zc) zc) zc) (za zc zb))))))),?_⟩
 rw [show jk ["_law_script","_law_k","_law_cell"] [V.ref a,V.int k]=[some (.ref a),some (.int k),none] from rfl]
 walk_at "rd"
 walk_at "xs"
 intro p1 hp1
 walk_at "xs"
 intro p2 hp2
 walk_at "xs"
 intro p3 hp3
 simp only [A5] at hp3 ⊢
 obtain ⟨c,hc⟩:=We (cs:=cs) hk
 walk_at "xs"
 intro p4 hp4
 refine q _ _ (by walk_at "kp") (by walk_at "fr") ⟨_,_,_,zp,?_,?_,?_,?_,?_⟩
 ·exact Int.mul_nonneg (by split <;> omega) (b01 _)
 ·exact (jJ _ (by decide)).1
 ·exact Int.lt_trans (jJ _ (by decide)).2 (by decide)
 ·decide
 ·decide
noncomputable abbrev yi:Stmt:=top 8
theorem yQ:zO ["_law_script","_law_many","_law_cells","_law_k","_law_cell"] ["_law_script","_law_many"] (zn yi):=⟨rfl,rfl,rfl,by decide +kernel,rfl,by decide +kernel,by decide +kernel⟩
noncomputable def wt (K:PySem.W.Frag):Sp:=fun vs H Q _=>∃ (a:Addr) (m:Int) (ns:List Int),vs=[.ref a,.int m]/\SqL K H a (ns.map V.int)/\0<m/\m<=60/\ns.length<=63/\∀ p H' cs,Kp [] H H'->H p=none->H' p=some (il cs)->cs.length<=1000->Q (.ref p) H'
theorem JF (a:At K mg "_law_folded" yi)(B:Blt mg):Df P w K mg base "_law_folded" ["_law_script","_law_many"] 1 (wt K):=by
 refine va (k:=0) a yQ (fun _ _ _ _ _ _=>Pn2_ fun _ _=>rfl) (fun vs H Q E h=>?_) (fun f cdv A outer s H vs Q E hr h=>?_)
 ·obtain ⟨a,k,cs,rfl,_⟩:=h;rfl
 obtain ⟨a,m,ns,rfl,ha,hm,hm',hns,q⟩:=h
 obtain ⟨M,rfl⟩:∃ M:Nat,m=M:=⟨m.toNat,by omega⟩
 have sc:=yQ
 have hsl:=hsl
 refine ⟨_,(zd (zS (i:=2) sc.nd rfl (by first | exact Or.inl rfl | exact Or.inr rfl) (zP jd rfl B.list qV (za (qg vJ (pv 0) qt (qd (pv 1))) zb)))
  (zd (jv PassesOwn.never rfl (Vx rfl B.enumerate (za (qg vJ (pv 0) (qd (pv 1)) (qd zc)) zb)) (qp (K:=K) 2 rfl rfl (zv (zA (i:=3) sc.nd rfl (by first | exact Or.inl rfl | exact Or.inr rfl)) (zv (zA (i:=4) sc.nd rfl (by first | exact Or.inl rfl | exact Or.inr rfl)) qu))) (zg (qm (zz qI (zh qo (pv 2) (zz ju (pv 3) (pv 1)) (fun _ _=>rfl)) (zz j7 (pv 4) (zz qI (pv 3) zc))) (qw (pv 2) (zz ju (pv 3) (pv 1)) zJ))))
  (zg (zG (pv 2))))),?_⟩
 rw [show jk ["_law_script","_law_many","_law_cells","_law_k","_law_cell"] [V.ref a,V.int M]=[some (.ref a),some (.int M),none,none,none] from rfl]
 walk_at "rd"
 walk_at "xs"
 intro p1 hp1
 rw [wH]
 walk_at "xs"
 intro p2 hp2
 walk_at "xs"
 intro p3 hp3
 rw [wH]
 have e63:(63:Int)=((63:Nat):Int):=rfl
 simp only [HT.sIx_none,HT.sIx_nat,e63,List.drop_zero,Nat.sub_zero] at hp2 hp3 ⊢
 walk_at "xs"
 generalize hc0:ns.take (min M ns.length)=c0 at hp2 hp3 ⊢
 generalize hd0:(ns.drop (min M ns.length)).take (min 63 ns.length - min M ns.length)=d0 at hp2 hp3 ⊢
 have lc:c0.length=min M ns.length:=by rw [<- hc0,List.length_take];omega
 have ld:d0.length<=ns.length - M:=by rw [<- hd0,List.length_take,List.length_drop];omega
 have n23:p2 ≠ p3:=by walk_at "ne"
 refine VX (xs:=d0.map V.int) (fun i τ H'=>∃ u v cs,τ=[some (.ref a),some (.int M),some (.ref p2),u,v]/\Kp [p2] (upd (upd (upd H p1 (HO.lst (List.map V.int c0))) p2 (HO.lst (List.map V.int c0))) p3 (HO.lst (List.map V.int d0))) H'/\H' p2=some (il cs)/\cs.length=c0.length) ?_ ?_ ?_ ?_
 ·exact ⟨none,none,c0,rfl,Kp.refl,by walk_at "hp",rfl⟩
 ·rintro i τ H' _ ⟨u,v,cs,rfl,kp,_⟩
  exact SqL.of (kp _ _ (by simp [Ne.symm n23]) (by walk_at "hp"))
 ·rintro i x pp τ H' hx hpp ⟨u,v,cs,rfl,kp,hcs,hl⟩
  obtain ⟨rfl,hi⟩:=vm hx
  have b1:=jJ (i:Int) hm
  obtain ⟨g1,g2⟩:=xn (cs:=cs) (k:=(i:Int) % (M:Int)) b1.1 (by omega)
  have hcs':upd H' pp (HO.tup [V.int i,V.int (d0.getD i 0)]) p2=some (il cs):=by walk_at "hp"
  walk_at "rd"
  walk_at "xs"
  refine ⟨(kp.trans (Kp.new _ hpp)).trans (Kp.set _ (by simp)),_,zp.trans (congrArg some (congrArg HO.lst (Qp _ _ _))),by rw [List.length_set];exact hl⟩
 ·rintro τ H' ⟨u,v,cs,rfl,kp,hcs,hl⟩
  walk_at "rd"
  refine q _ _ cs (fun c o hc hh=>kp c o ?_ ((((Kp.new _ hp1).trans (Kp.new _ hp2)).trans (Kp.new _ hp3)) c o hc hh)) (by walk_at "fr") hcs (by omega)
  have:c ≠ p2:=jT (wm hp2 (Kp.new _ hp1)) hh
  simpa using this
noncomputable abbrev Zf:List Int:=[0,1,2,3,4,5,6,7,4,5,6,7]
noncomputable abbrev xO:Stmt:=top 9
theorem vg:zO ["_law_box_here","_law_most","_law_few"] ["_law_box_here","_law_most"] (zn xO):=⟨rfl,rfl,rfl,by decide +kernel,rfl,by decide +kernel,by decide +kernel⟩
noncomputable def wM:Sp:=fun vs H Q _=>∃ (b:Addr) (m:Int) (N:Nat),vs=[.ref b,.int m]/\Bx H b N/\N<100000000/\24<=m/\m<=1000/\∀ r H',Kp [b] H H'->Bx H' b (N+10)->0<=r->r<=m->Q (.int r) H'
theorem JQ (a:At K mg "_law_length" xO)(B:Blt mg)(D_law_take:Df P w K mg base "_law_take" ["_law_box_here","_law_many"] 1 Z8):Df P w K mg base "_law_length" ["_law_box_here","_law_most"] 2 wM:=by
 refine va (k:=1) a vg (fun _ _ _ _ _ _=>Pn2_ fun _ _=>rfl) (fun vs H Q E h=>?_) (fun f cdv A outer s H vs Q E hr h=>?_)
 ·obtain ⟨a,k,cs,rfl,_⟩:=h;rfl
 obtain ⟨b,m,N,rfl,hb,hN,hm,hm',q⟩:=h
 have sc:=vg
 have hsl:=hsl
 refine' ⟨_,zd (zU (zl WG (zK D_law_take hr rfl (za (pv 0) (za zc zb))) zc (zj _)) (zg (zG (zz vw (pv 1) (zK D_law_take hr rfl (za (pv 0) (za (zo (yW rfl) rfl B.max X0 (za zc (za (zz Ql (pv 1) zc) zb))) zb)))))) zC) (zd _ _),?_⟩
 rotate_left 2
 ·refine' zS (i:=2) _ _ _ _ _ _
  rotate_left 1
  ·exact sc.nd
  ·rfl
  ·first | exact Or.inl rfl | exact Or.inr rfl
  ·refine' zh _ _ _ _
   rotate_left 3
   ·exact qo
   ·refine' zW _
    rotate_left 1
    refine' QC (is:=[0,1,2,3,4,5,6,7,4,5,6,7]) _
    rfl
   ·exact (zK D_law_take hr rfl (za (pv 0) (za zc zb)))
   ·exact (fun _ _=>rfl)
  ·rfl
  ·first | exact .inl rfl | exact .inr rfl | assumption
 ·refine' zg _
  rotate_left 1
  refine' zG _
  rotate_left 1
  refine' zh _ _ _ _
  rotate_left 3
  ·exact qo
  ·refine' zW _
   rotate_left 1
   refine' za _ _ _
   rotate_left 2
   ·exact pv 2
   ·exact (za (zz qI zc (zK D_law_take hr rfl (za (pv 0) (za zc zb)))) zb)
   ·rfl
  ·exact (zP vb rfl B.int ZP (za (qi WG (zK D_law_take hr rfl (za (pv 0) (za zc zb))) zc (zj _)) zb))
  ·exact (fun _ _=>rfl)
 rw [show jk ["_law_box_here","_law_most","_law_few"] [V.ref b,V.int m]=[some (.ref b),some (.int m),none] from rfl]
 walk_at "rd"
 refine ⟨b,16,N,rfl,hb,by omega,by decide,by decide,fun r1 H1 k1 b1 l1 u1=>⟨rfl,?_⟩⟩
 walk_at "rd"
 refine Dx (fun c=>?_) (fun c=>?_)
 ·walk_at "xs"
  refine ⟨b,_,_,rfl,b1,by omega,by split <;> omega,by split <;> omega,fun r2 H2 k2 b2 l2 u2=>⟨_,rfl,?_⟩⟩
  refine q _ _ (k1.trans k2) (b2.mono (by omega)) ?_ ?_
  ·split at u2 <;> omega
  ·omega
 ·walk_at "xs"
  intro p1 hp1
  refine ⟨b,12,_,rfl,b1.new hp1,by omega,by decide,by decide,fun r2 H2 k2 b2 l2 u2=>?_⟩
  have hne:p1 ≠ b:=by obtain ⟨_,_,_,h,_⟩:=b1;exact Ne.symm (zk h hp1)
  have h2:=k2 p1 _ (by simpa using hne) zp
  obtain ⟨e1,e2⟩:=xn (cs:=Zf) (k:=r2) l2 (by simpa using u2)
  refine ⟨_,_,rfl,SqL.of h2,_,e2,b,17,_,rfl,b2,by omega,by decide,by decide,fun r3 H3 k3 b3 l3 u3=>?_⟩
  have hv:0<=Zf.getD r2.toNat 0/\Zf.getD r2.toNat 0<=(24:Int):=by
   have:∀ j:Nat,0<=Zf.getD j 0/\Zf.getD j 0<=(24:Int):=by
    intro j
    by_cases hj:j<12
    ·have hd:∀ j:Nat,j<12->0<=Zf.getD j 0/\Zf.getD j 0<=(24:Int):=by decide
     exact hd j hj
    ·have e:Zf.getD j (0:Int)=0:=by rw [List.getD_eq_getElem?_getD,List.getElem?_eq_none (by simpa using hj)];rfl
     rw [e];decide
   exact this _
  refine ⟨_,rfl,by show 2<=sizeLine;decide,fun p2 hp2=>?_⟩
  refine ⟨b,6,_,rfl,b3.new hp2,by omega,by decide,by decide,fun r4 H4 k4 b4 l4 u4=>⟨rfl,?_⟩⟩
  have hne2:p2 ≠ b:=by obtain ⟨_,_,_,h,_⟩:=b3;exact Ne.symm (zk h hp2)
  have h4:=k4 p2 _ (by simpa using hne2) zp
  have fin:∀ r,0<=r->r<=24->Q (.int r) H4:=fun r g1 g2=>by
   refine q r H4 ?_ (b4.mono (by omega)) g1 (by omega)
   exact (((k1.trans (Kp.new _ hp1)).trans k2).trans k3).trans ((Kp.new _ hp2).trans k4)
  by_cases c4:r4=0
  ·subst c4
   exact ⟨_,SqL.of h4,_,rfl,fin _ (by omega) (by omega)⟩
  ·rw [if_neg (fun z=>c4 (V.int.inj z))]
   exact ⟨_,SqL.of h4,_,rfl,fin _ hv.1 hv.2⟩
inductive De where
 | swap (a b:Nat) | take (p:Nat) | move (p g:Nat) | lay (g:Nat)
noncomputable abbrev Dq:V:=.str (Str.ofString "swap")
noncomputable abbrev B8:V:=.str (Str.ofString "take")
noncomputable abbrev DD:V:=.str (Str.ofString "move")
noncomputable abbrev DP:V:=.str (Str.ofString "lay")
noncomputable def deV:De->List V
 | .swap a b=>[Dq,.int (a:Int),.int (b:Int)]
 | .take p=>[B8,.int (p:Int)]
 | .move p g=>[DD,.int (p:Int),.int (g:Int)]
 | .lay g=>[DP,.int (g:Int)]
noncomputable abbrev ES:=List (Option Int) × Option Int
inductive DoE:De->ES->ES->Prop
 | swap {a b:Nat} {row:List (Option Int)} {h:Option Int} {x y:Int}:a ≠ b->row[a]?=some (some x)->row[b]?=some (some y)->DoE (.swap a b) (row,h) ((row.set a (some y)).set b (some x),h)
 | take {p:Nat} {row:List (Option Int)} {x:Int}:row[p]?=some (some x)->DoE (.take p) (row,none) (row.set p none,some x)
 | move {p g:Nat} {row:List (Option Int)} {h:Option Int} {x:Int}:row[p]?=some (some x)->row[g]?=some none->DoE (.move p g) (row,h) ((row.set p none).set g (some x),h)
 | lay {g:Nat} {row:List (Option Int)} {x:Int}:row[g]?=some none->DoE (.lay g) (row,some x) (row.set g (some x),none)
inductive qC:List De->ES->ES->Prop
 | nil {s:ES}:qC [] s s
 | cons {d:De} {l:List De} {s t u:ES}:DoE d s t->qC l t u->qC (d :: l) s u
theorem qC.append {a b:List De}{s t u:ES}(h1:qC a s t)(h2:qC b t u):qC (a ++ b) s u:=by
 induction h1 with
 | nil=>exact h2
 | cons d _ ih=>exact .cons d (ih h2)
theorem qC.one {d:De}{s t:ES}(h:DoE d s t):qC [d] s t:=.cons h .nil
theorem DoE.len {d:De}{s t:ES}(h:DoE d s t):t.1.length=s.1.length:=by
 cases h <;> simp
theorem qC.len {l:List De}{s t:ES}(h:qC l s t):t.1.length=s.1.length:=by
 induction h with
 | nil=>rfl
 | cons d _ ih=>rw [ih,d.len]
noncomputable def De.back:De->De
 | .swap a b=>.swap a b
 | .take p=>.lay p
 | .move p g=>.move g p
 | .lay g=>.take g
theorem De.back_back (d:De):d.back.back=d:=by cases d <;> rfl
theorem QU {row:List (Option Int)}{p:Nat}{v:Option Int}(h:row[p]?=some v)(w:Option Int):(row.set p w).set p v=row:=by
 rw [List.set_set]
 refine List.ext_getElem? fun i=>?_
 rw [List.getElem?_set]
 by_cases e:p=i
 ·subst e
  rw [if_pos rfl,if_pos (List.getElem?_eq_some_iff.mp h).1,h]
 ·rw [if_neg e]
theorem DoE.back {d:De}{s t:ES}(h:DoE d s t):DoE d.back t s:=by
 cases h with
 | @swap a b row hh x y ne h1 h2=>
  have la:=(List.getElem?_eq_some_iff.mp h1).1
  have lb:=(List.getElem?_eq_some_iff.mp h2).1
  have e1:((row.set a (some y)).set b (some x))[a]?=some (some y):=by rw [List.getElem?_set,if_neg (fun z=>ne z.symm),List.getElem?_set,if_pos rfl,if_pos la]
  have e2:((row.set a (some y)).set b (some x))[b]?=some (some x):=by rw [List.getElem?_set,if_pos rfl,List.length_set,if_pos lb]
  have:=DoE.swap (h:=hh) ne e1 e2
  have er:(((row.set a (some y)).set b (some x)).set a (some x)).set b (some y)=row:=by
   refine List.ext_getElem? fun i=>?_
   simp only [List.getElem?_set,List.length_set]
   by_cases ib:b=i
   ·subst ib
    rw [if_pos rfl,if_pos lb,h2]
   ·rw [if_neg ib]
    by_cases ia:a=i
    ·subst ia
     rw [if_pos rfl,if_pos la,h1]
    ·rw [if_neg ia,if_neg ib,if_neg ia]
  rw [er] at this
  exact this
 | @take p row x h1=>
  have l:=(List.getElem?_eq_some_iff.mp h1).1
  have:=DoE.lay (g:=p) (row:=row.set p none) (x:=x) (by rw [List.getElem?_set,if_pos rfl,if_pos l])
  rw [QU h1] at this
  exact this
 | @move p g row hh x h1 h2=>
  have lp:=(List.getElem?_eq_some_iff.mp h1).1
  have lg:=(List.getElem?_eq_some_iff.mp h2).1
  have ne:p ≠ g:=fun z=>by rw [z,h2] at h1;cases h1
  have e1:((row.set p none).set g (some x))[g]?=some (some x):=by rw [List.getElem?_set,if_pos rfl,List.length_set,if_pos lg]
  have e2:((row.set p none).set g (some x))[p]?=some none:=by rw [List.getElem?_set,if_neg (fun z=>ne z.symm),List.getElem?_set,if_pos rfl,if_pos lp]
  have:=DoE.move (h:=hh) e1 e2
  have er:(((row.set p none).set g (some x)).set g none).set p (some x)=row:=by
   refine List.ext_getElem? fun i=>?_
   simp only [List.getElem?_set,List.length_set]
   by_cases ip:p=i
   ·subst ip
    rw [if_pos rfl,if_pos lp,h1]
   ·rw [if_neg ip]
    by_cases ig:g=i
    ·subst ig
     rw [if_pos rfl,if_pos lg,h2]
    ·rw [if_neg ig,if_neg ig,if_neg ip]
  rw [er] at this
  exact this
 | @lay g row x h1=>
  have l:=(List.getElem?_eq_some_iff.mp h1).1
  have:=DoE.take (p:=g) (row:=row.set g (some x)) (x:=x) (by rw [List.getElem?_set,if_pos rfl,if_pos l])
  rw [QU h1] at this
  exact this
noncomputable abbrev Tst (c:AT)(ρ:ASt)(M:MH)(b:Bool):Prop:=∀ Q,Q b M->c ρ M Q
theorem zT {c:AT}{ρ:ASt}{M:MH}{b b':Bool}(h:Tst c ρ M b)(e:b=b'):Tst c ρ M b':=e ▸ h
theorem ZL {c d:AT}{ρ:ASt}{M:MH}(h:Tst c ρ M false):Tst (VS c d) ρ M false:=fun Q q=>h _ (by rw [if_neg (fun z=>nomatch z)];exact q)
theorem xk {c d:AT}{ρ:ASt}{M:MH}{b:Bool}(h:Tst c ρ M true)(h':Tst d ρ M b):Tst (VS c d) ρ M b:=fun Q q=>h _ (by rw [if_pos rfl];exact h' _ q)
theorem jU {c d:AT}{ρ:ASt}{M:MH}{b:Bool}(h:Tst c ρ M false)(h':Tst d ρ M b):Tst (aOr c d) ρ M b:=fun Q q=>h _ (by rw [if_neg (fun z=>nomatch z)];exact h' _ q)
theorem Bq {c d:AT}{ρ:ASt}{M:MH}(h:Tst c ρ M true):Tst (aOr c d) ρ M true:=fun Q q=>h _ (by rw [if_pos rfl];exact q)
theorem qv {c:AT}{t r:AS}{B:MH}{D:qB}{ρ:ASt}{M:MH}(h:Tst c ρ M false)(k:r B D ρ M):ja (jX c t jh) r B D ρ M:=h _ (by rw [if_neg (fun z=>nomatch z)];exact k)
theorem Ya {c:AT}{e:AE}{r:AS}{B:MH}{D:qB}{ρ:ASt}{M:MH}(h:Tst c ρ M true)(k:e ρ M D.rt):ja (jX c (Zn e) jh) r B D ρ M:=h _ (by rw [if_pos rfl];exact k)
theorem DW {c:AT}{e f:AE}{ρ:ASt}{M:MH}{Q:AK}(h:Tst c ρ M true)(k:e ρ M Q):aIf c e f ρ M Q:=h _ (by rw [if_pos rfl];exact k)
theorem D4 {c:AT}{e f:AE}{ρ:ASt}{M:MH}{Q:AK}(h:Tst c ρ M false)(k:f ρ M Q):aIf c e f ρ M Q:=h _ (by rw [if_neg (fun z=>nomatch z)];exact k)
theorem VT {w:Dat}{ps:List Dat}:atI (AV.d w :: ps.map AV.d) 0=some (.d w):=by
 unfold atI
 rw [qS (by omega) (by rw [List.length_cons];omega)]
 rfl
theorem tW {i:Nat}{w w':Str}{ps:List Dat}{ρ:ASt}{M:MH}(hρ:ρ[i]?=some (some (.d (.tup (.str w :: ps))))):Tst (aB (aOp (xP id) (aOp (aIx zQ) (zE i) (aC (.int 0))) (aC (.str w')))) ρ M (decide (w=w')):=fun Q q=>by
 refine ⟨_,hρ,_,0,.d (.str w),rfl,rfl,VT,_,_,rfl,rfl,by rw [zy];omega,by rw [zy];omega,_,rfl,?_⟩
 rw [kH]
 exact q
theorem tNN {i:Nat}{x:AV}{ρ:ASt}{M:MH}(hρ:ρ[i]?=some (some x)):Tst (aB (aOp (xt not) (zE i) (aC .non))) ρ M (!jD x):=fun Q q=>⟨_,hρ,rfl,_,rfl,q⟩
theorem tIN {i:Nat}{x:AV}{ρ:ASt}{M:MH}(hρ:ρ[i]?=some (some x)):Tst (aB (aOp (xt id) (zE i) (aC .non))) ρ M (jD x):=fun Q q=>⟨_,hρ,rfl,_,rfl,q⟩
theorem BH {i:Nat}{x:AV}{t c:String}{b:Bool}{ρ:ASt}{M:MH}(h:ρ[i]?=some (some x))(ht:tyA x M=some t)(hb:isT t c=some b):Tst (aB (aCB VM (zR (zE i) (zR (aC (.ty c)) jq)))) ρ M b:=fun Q q=>⟨_,h,_,_,_,_,rfl,ht,hb,_,rfl,q⟩
theorem wu {c:AT}{t r:AS}{B:MH}{D:qB}{ρ:ASt}{M:MH}(h:Tst c ρ M true)(k:t B { D with nx:=r B D } ρ M):ja (jX c t jh) r B D ρ M:=h _ (by rw [if_pos rfl];exact k)
noncomputable abbrev Val (e:AE)(ρ:ASt)(M:MH)(v:AV):Prop:=∀ Q:AK,Q v M->e ρ M Q
theorem vB {e:AE}{ρ:ASt}{M:MH}{b:Bool}(h:Val e ρ M (.d (.bl b))):Tst (aB e) ρ M b:=fun Q q=>h _ ⟨_,rfl,q⟩
theorem jP {i:Nat}{x:AV}{t c:String}{b:Bool}{ρ:ASt}{M:MH}(h:ρ[i]?=some (some x))(ht:tyA x M=some t)(hb:isT t c=some b):Val (aCB VM (zR (zE i) (zR (aC (.ty c)) jq))) ρ M (.d (.bl b)):=fun Q q=>⟨_,h,_,_,_,_,rfl,ht,hb,q⟩
theorem wo {a e:AE}{f:Bool->Bool}{ρ:ASt}{M:MH}{b c:Bool}(h:Val a ρ M (.d (.bl b)))(h':Val e ρ M (.d (.bl c))):Val (aOp (xP f) a e) ρ M (.d (.bl (f (decide (b=c))))):=fun Q q=>h _ (h' _ ⟨_,_,rfl,rfl,by rw [wz];omega,by rw [wz];omega,by rw [Zy];exact q⟩)
theorem Dc {a e:AE}{f:Bool->Bool}{ρ:ASt}{M:MH}{b c:Int}(h:Val a ρ M (.d (.int b)))(h':Val e ρ M (.d (.int c))):Val (aOp (xP f) a e) ρ M (.d (.bl (f (decide (b=c))))):=fun Q q=>h _ (h' _ ⟨_,_,rfl,rfl,by rw [kE];omega,by rw [kE];omega,by rw [ZQ];exact q⟩)
theorem VN {i j:Nat}{f:Bool->Bool}{ρ:ASt}{M:MH}{x y:AV}{d d':Dat}{b:Bool}(hi:ρ[i]?=some (some x))(hj:ρ[j]?=some (some y))(hx:jM x M=some d)(hy:jM y M=some d')(h1:dp d<=40)(h2:dp d'<=40)(e:f (eqD d d')=b):Val (aOp (xP f) (zE i) (zE j)) ρ M (.d (.bl b)):=fun Q q=>⟨_,hi,_,hj,_,_,hx,hy,h1,h2,by rw [e];exact q⟩
theorem Vi {i:Nat}{ρ:ASt}{M:MH}{x:AV}{l:List AV}(hi:ρ[i]?=some (some x))(hx:zQ x M=some l):Val (aCB Vb (zR (zE i) jq)) ρ M (.d (.int (l.length:Nat))):=fun Q q=>⟨_,hi,_,_,rfl,hx,q⟩
theorem j5 {a e:AE}{ρ:ASt}{M:MH}{Q:AK}(h:Val a ρ M (.d (.bl true)))(k:e ρ M Q):YV a e ρ M Q:=h _ ⟨_,rfl,by rw [if_pos rfl];exact k⟩
theorem xq {e:AE}{ρ:ASt}{M:MH}{b b':Bool}(h:Val e ρ M (.d (.bl b)))(q:b=b'):Val e ρ M (.d (.bl b')):=q ▸ h
theorem Je {i:Nat}{x:AV}{t c c':String}{b:Bool}{ρ:ASt}{M:MH}(h:ρ[i]?=some (some x))(ht:tyA x M=some t)(hb:xx t [c,c']=some b)(hs:2<=sizeLine):Tst (aB (aCB XT (zR (zE i) (zR (Xu (zR (aC (.ty c)) (zR (aC (.ty c')) jq))) jq)))) ρ M b:=fun Q q=>⟨_,h,hs,_,rfl,_,_,_,_,_,rfl,rfl,ht,hb,_,rfl,q⟩
noncomputable def wI:ASp:=fun xs M Q=>∃ (b:Addr) (many:Int) (N:Nat),xs=[.ref b,.d (.int many)]/\BxM M b N/\N<1000000000/\0<many/\many<1073741824/\∀ r M',BxS M M' b (N+1)->0<=r->r<many->Q (.d (.int r)) M'
theorem Vv (vs:List V)(H:Hp)(Q:VK)(E:XK)(h:cSp wI vs H Q E):Z8 vs H Q E:=by
 obtain ⟨xs,M,O,Q',w,r,⟨b,many,N,rfl,hb,h1,h2,h3,q⟩,k⟩:=h
 obtain ⟨v,u,rfl,rv,ru⟩:=kC r
 rw [zY ru,rv.1]
 refine ⟨b,many,N,rfl,hb.bx w,h1,h2,h3,fun r H' kp hb' r0 r1=>?_⟩
 obtain ⟨M',s,e,w'⟩:=XE w hb kp hb'
 exact k _ _ _ _ _ (q r M' s r0 r1) e w' .int
noncomputable def Dv:ASp:=fun xs M Q=>∃ (x:AV) (k:Int) (cs:List Int),xs=[x,.d (.int k)]/\qe x M=some (cs.map fun i=>.d (.int i))/\0<=k/\k<=1000/\cs.length<=1000/\∀ p o,M p=none->BxM (mup M p o) p 0->Q (.ref p) (mup M p o)
theorem Az (vs:List V)(H:Hp)(Q:VK)(E:XK)(h:cSp Dv vs H Q E):WH vs H Q E:=by
 obtain ⟨xs,M,O,Q',w,r,⟨x,n,cs,rfl,hx,h1,h2,h3,q⟩,k⟩:=h
 obtain ⟨v,u,rfl,rv,ru⟩:=kC r
 rw [zY ru]
 obtain ⟨a,rfl,ha⟩:=YK w rv hx
 refine ⟨a,n,cs,rfl,ha,h1,h2,h3,fun p H' kp hp hb'=>?_⟩
 obtain ⟨x',y',z',g1,g2⟩:=hb'
 obtain ⟨e1,w1⟩:=Xx w kp
 have fr:=w.fresh hp
 have e2:=Ext.owned (O':=yD O p) (p:=p) w ⟨fun a o h e=>⟨(e1.fix a o h e).1,fun z=>z.elim (zk e hp) h⟩,fun a h e=>⟨(e1.prv a h e).1,.inr h,e⟩,fun _ h=>h⟩ hp (.lst ([x',y',z'].map fun i=>.d (.int i)))
 refine k _ _ _ _ _ (q p _ fr.2 ⟨x',y',z',ze,g2⟩) e2 (wa (O:=yD O p) (xs:=[V.int x',V.int y',V.int z']) ⟨fun a o h=>?_,fun a h=>.inr (w1.own a h),fun a h=>?_⟩ (.inl rfl) fr.2 g1 (vj [x',y',z'])) ⟨rfl,by rw [ze];exact fun z=>nomatch z⟩
 ·have e3:Ext H O M H' (yD O p) M:=⟨fun a o h e=>⟨(e1.fix a o h e).1,fun z=>z.elim (zk e hp) h⟩,fun a h e=>⟨(e1.prv a h e).1,.inr h,e⟩,fun _ h=>h⟩
  refine qQ.ext e3 ?_ (w.mo a o h)
  obtain ⟨u,hu,_⟩:=w.al a (w.own a (qU h))
  rw [hu];exact kp a u (by simp) hu
 ·rcases h with rfl | h
  ·exact ⟨_,g1,fun xs z=>nomatch z⟩
  ·exact w1.al a h
noncomputable def Qg (K:PySem.W.Frag):ASp:=fun xs M Q=>∃ (m:Int) (ns:List Int),xs=[.d (.scr K ns),.d (.int m)]/\0<m/\m<=60/\ns.length<=63/\∀ cs:List Int,cs.length<=1000->Q (.d (.lst (cs.map .int))) M
theorem Ju (vs:List V)(H:Hp)(Q:VK)(E:XK)(h:cSp (Qg K) vs H Q E):wt K vs H Q E:=by
 obtain ⟨xs,M,O,Q',w,r,⟨m,ns,rfl,h1,h2,h3,q⟩,k⟩:=h
 obtain ⟨v,u,rfl,rv,ru⟩:=kC r
 rw [zY ru]
 obtain ⟨a,rfl,ha⟩:=Va rv
 refine ⟨a,m,ns,rfl,ha,h1,h2,h3,fun p H' cs kp hp hc lc=>?_⟩
 obtain ⟨e1,w1⟩:=Xx w kp
 exact k _ _ _ _ _ (q cs lc) e1 w1 (Xn (w.fresh hp).1 hc)
noncomputable def QG:ASp:=fun xs M Q=>∃ (b:Addr) (m:Int) (N:Nat),xs=[.ref b,.d (.int m)]/\BxM M b N/\N<100000000/\24<=m/\m<=1000/\∀ r M',BxS M M' b (N+10)->0<=r->r<=m->Q (.d (.int r)) M'
theorem Jh (vs:List V)(H:Hp)(Q:VK)(E:XK)(h:cSp QG vs H Q E):wM vs H Q E:=by
 obtain ⟨xs,M,O,Q',w,r,⟨b,many,N,rfl,hb,h1,h2,h3,q⟩,k⟩:=h
 obtain ⟨v,u,rfl,rv,ru⟩:=kC r
 rw [zY ru,rv.1]
 refine ⟨b,many,N,rfl,hb.bx w,h1,h2,h3,fun r H' kp hb' r0 r1=>?_⟩
 obtain ⟨M',s,e,w'⟩:=XE w hb kp hb'
 exact k _ _ _ _ _ (q r M' s r0 r1) e w' .int
noncomputable def oD:Option Int->Dat
 | none=>.non
 | some x=>.int x
theorem we {row:List (Option Int)}{a:Nat}(h:a<row.length):atI ((row.map oD).map AV.d) (a:Int)=some (.d (oD (row.getD a none))):=by
 unfold atI
 rw [List.length_map,List.length_map,qS (by omega) (by omega),Int.toNat_natCast]
 show ((row.map oD).map AV.d)[a]?=_
 rw [List.getElem?_map,List.getElem?_map,List.getElem?_eq_getElem h,List.getD_eq_getElem?_getD,List.getElem?_eq_getElem h];rfl
noncomputable def dD:De->Dat
 | .swap a b=>.tup [.str (Str.ofString "swap"),.int (a:Int),.int (b:Int)]
 | .take p=>.tup [.str (Str.ofString "take"),.int (p:Int)]
 | .move p g=>.tup [.str (Str.ofString "move"),.int (p:Int),.int (g:Int)]
 | .lay g=>.tup [.str (Str.ofString "lay"),.int (g:Int)]
noncomputable def Xw:ASp:=fun xs M Q=>∃ (d:De) (st st':ES),xs=[.d (.lst (st.1.map oD)),.d (oD st.2),.d (dD d)]/\DoE d st st'/\st.1.length<=1000/\Q (.d (.tup [.lst (st'.1.map oD),oD st'.2])) M
noncomputable abbrev Di (row:List (Option Int)):MO:=.lst ((row.map oD).map AV.d)
theorem jB {row:List (Option Int)}{a:Nat}{c:Option Int}(h:row[a]?=some c):atI ((row.map oD).map AV.d) (a:Int)=some (.d (oD c))/\ixN ((row.map oD).map AV.d).length (a:Int)=some a:=by
 have hl:a<row.length:=(List.getElem?_eq_some_iff.mp h).1
 have e:ixN ((row.map oD).map AV.d).length (a:Int)=some a:=by rw [List.length_map,List.length_map,qS (by omega) (by omega),Int.toNat_natCast]
 refine ⟨?_,e⟩
 unfold atI
 rw [e]
 show ((row.map oD).map AV.d)[a]?=_
 rw [List.getElem?_map,List.getElem?_map,h];rfl
theorem je (row:List (Option Int))(a:Nat)(c:Option Int):((row.map oD).map AV.d).set a (.d (oD c))=((row.set a c).map oD).map AV.d:=by rw [List.map_set,List.map_set]
theorem Vk {c:AT}{t u:AS}{B:MH}{D:qB}{ρ:ASt}{M:MH}{v:AS}(h:∀ r,r=t->ja (jX c r u) v B D ρ M):ja (jX c t u) v B D ρ M:=h t rfl
theorem ka {t:AS}{B:MH}{D:qB}{ρ:ASt}{M:MH}(h:∀ D',D'=D->t B D' ρ M):t B D ρ M:=h D rfl
theorem qY {i:Nat}{w w':Str}{ps:List Dat}{t r:AS}{B:MH}{D:qB}{ρ:ASt}{M:MH}(hρ:ρ[i]?=some (some (.d (.tup (.str w :: ps)))))(hw:decide (w=w')=false)(h:r B D ρ M):ja (jX (aB (aOp (xP id) (aOp (aIx zQ) (zE i) (aC (.int 0))) (aC (.str w')))) t jh) r B D ρ M:=by
 refine ⟨_,hρ,_,0,.d (.str w),rfl,rfl,?_,?_⟩
 ·unfold atI;rw [qS (by omega) (by rw [List.length_map,List.length_cons];omega)];rfl
 ·refine ⟨_,_,rfl,rfl,by rw [zy];omega,by rw [zy];omega,_,rfl,?_⟩
  show (if id (eqD (.str w) (.str w'))=true then _ else _)
  rw [kH,hw]
  exact h
theorem xJ {i:Nat}{w w':Str}{ps:List Dat}{t r:AS}{B:MH}{D:qB}{ρ:ASt}{M:MH}(hρ:ρ[i]?=some (some (.d (.tup (.str w :: ps)))))(hw:decide (w=w')=true)(h:t B { nx:=fun ρ' M'=>r B D ρ' M',rt:=D.rt,bk:=D.bk,ct:=D.ct } ρ M):ja (jX (aB (aOp (xP id) (aOp (aIx zQ) (zE i) (aC (.int 0))) (aC (.str w')))) t jh) r B D ρ M:=by
 refine ⟨_,hρ,_,0,.d (.str w),rfl,rfl,?_,?_⟩
 ·unfold atI;rw [qS (by omega) (by rw [List.length_map,List.length_cons];omega)];rfl
 ·refine ⟨_,_,rfl,rfl,by rw [zy];omega,by rw [zy];omega,_,rfl,?_⟩
  show (if id (eqD (.str w) (.str w'))=true then _ else _)
  rw [kH,hw]
  exact h
noncomputable abbrev Zi:Stmt:=top 11
theorem QS:zO ["_law_row","_law_hand","_law_deed_here","_law_one","_law_other"] ["_law_row","_law_hand","_law_deed_here"] (zn Zi):=⟨rfl,rfl,rfl,by decide +kernel,rfl,by decide +kernel,by decide +kernel⟩
theorem VC (a:At K mg "_law_done" Zi)(B:Blt mg):Df P w K mg base "_law_done" ["_law_row","_law_hand","_law_deed_here"] 1 (cSp Xw):=by
 refine dfA (k:=0) a QS (fun _ _ _ _ _ _=>Pn3_ fun _ _ _=>rfl) (fun xs M Q h=>?_) (fun f cdv A outer s H E hr=>?_)
 ·obtain ⟨_,_,_,rfl,_⟩:=h;rfl
 have sc:=QS
 have hsl:=hsl
 refine ⟨_,(zd (zS (i:=0) sc.nd rfl (by first | exact Or.inl rfl | exact Or.inr rfl) (jH (zP jd rfl B.list qV (za (pv 0) zb))))
  (zd (zU (zl (zV hr.units) (zh zu (pv 2) zc (fun _ _=>rfl)) zD (zj _)) (zd (ZK (i:=3) (j:=4) rfl sc.nd rfl rfl (by decide) rfl rfl (za (zh zu (pv 0) (zh zu (pv 2) zc (fun _ _=>rfl)) (fun _ _=>rfl)) (za (zh zu (pv 0) (zh zu (pv 2) zc (fun _ _=>rfl)) (fun _ _=>rfl)) zb)) rfl)
  (zg (qm (zM (za (pv 4) (za (pv 3) zb))) (qp (K:=K) 2 rfl rfl (zv (qw (pv 0) (zh zu (pv 2) zc (fun _ _=>rfl)) zJ) (zv (qw (pv 0) (zh zu (pv 2) zc (fun _ _=>rfl)) zJ) qu)))))) zC)
  (zd (zU (zl (zV hr.units) (zh zu (pv 2) zc (fun _ _=>rfl)) zD (zj _)) (zg (qm (zM (za zN (za (zh zu (pv 0) (zh zu (pv 2) zc (fun _ _=>rfl)) (fun _ _=>rfl)) zb))) (qp (K:=K) 2 rfl rfl (zv (qw (pv 0) (zh zu (pv 2) zc (fun _ _=>rfl)) zJ) (zv (zA (i:=1) sc.nd rfl (by first | exact Or.inl rfl | exact Or.inr rfl)) qu))))) zC)
  (zd (zU (zl (zV hr.units) (zh zu (pv 2) zc (fun _ _=>rfl)) zD (zj _)) (zg (qm (zM (za zN (za (zh zu (pv 0) (zh zu (pv 2) zc (fun _ _=>rfl)) (fun _ _=>rfl)) zb))) (qp (K:=K) 2 rfl rfl (zv (qw (pv 0) (zh zu (pv 2) zc (fun _ _=>rfl)) zJ) (zv (qw (pv 0) (zh zu (pv 2) zc (fun _ _=>rfl)) zJ) qu))))) zC)
  (zd (zU (zl (zV hr.units) (zh zu (pv 2) zc (fun _ _=>rfl)) zD (zj _)) (zg (qm (zM (za (pv 1) (za zN zb))) (qp (K:=K) 2 rfl rfl (zv (qw (pv 0) (zh zu (pv 2) zc (fun _ _=>rfl)) zJ) (zv (zA (i:=1) sc.nd rfl (by first | exact Or.inl rfl | exact Or.inr rfl)) qu))))) zC)
  (xG 0 (zg (zG (zM (za (pv 0) (za (pv 1) zb))))))))))),?_⟩
 refine ex2 (by walk_at "sim") ?_
 rintro xs M Q ⟨d,⟨row,hd⟩,st',rfl,hdo,hl,q⟩
 rw [show qz ["_law_row","_law_hand","_law_deed_here","_law_one","_law_other"] [.d (.lst (row.map oD)),.d (oD hd),.d (dD d)]=[some (.d (.lst (row.map oD))),some (.d (oD hd)),some (.d (dD d)),none,none] from rfl]
 refine zm fun r1 hr1=>?_
 walk_at "ra"
 intro p hp _
 have hl:row.length<=1000:=hl
 have frz:∀ (row':List (Option Int)) (hd':Option Int) dd,st'=(row',hd')->∀ u v,u ≠ some (.ref p)->v ≠ some (.ref p)->BC 0 (Zn (Xu (zR (zE 0) (zR (zE 1) jq)))) M { nx:=fun x M'=>rtA M Q (.d .non) M',rt:=rtA M Q } [some (.ref p),some (.d (oD hd')),some (.d dd),u,v] (mup M p (Di row')):=fun row' hd' dd e u v hu hv=>by
  subst e
  walk_at "ra"
  refine ⟨_,ze,_,zF _,hp,fun j hj z=>?_,fun q' o hq e=>?_,by omega,xw (fun q' hq'=>?_) q⟩
  ·match j with
   | 0=>exact hj rfl
   | 1=>cases z
   | 2=>cases z
   | 3=>exact hu (Option.some.inj z)
   | 4=>exact hv (Option.some.inj z)
   | n+5=>cases z
  ·rw [zq hq] at e;exact .inl e
  ·have hne:q' ≠ p:=fun z=>hq' (by rw [z];exact hp)
   rw [qE hne,zq hne]
 subst hr1
 cases hdo with
 | @swap a b row hd x y ne h1 h2=>
  rw [show dD (.swap a b)=.tup [.str (Str.ofString "swap"),.int (a:Int),.int (b:Int)] from rfl]
  refine xJ rfl (by decide +kernel) ?_
  refine ka fun D hD=>?_
  walk_at "ra"
  obtain ⟨a1,a2⟩:=jB h1
  obtain ⟨b1,b2⟩:=jB h2
  refine ⟨_,rfl,_,qc ze,_,rfl,_,a1,_,rfl,_,qc ze,_,rfl,_,b1,by omega,_,rfl,_,_,rfl,ze,a,a2,_,rfl,_,_,rfl,ze,b,by rw [List.length_set];exact b2,?_⟩
  rw [je,je]
  subst hD
  refine qY rfl (by decide +kernel) ?_
  refine qY rfl (by decide +kernel) ?_
  refine qY rfl (by decide +kernel) ?_
  exact frz _ _ _ rfl _ _ (fun z=>by cases x <;> cases z) (fun z=>by cases y <;> cases z)
 | @take a row x h1=>
  rw [show dD (.take a)=.tup [.str (Str.ofString "take"),.int (a:Int)] from rfl]
  refine qY rfl (by decide +kernel) ?_
  refine xJ rfl (by decide +kernel) ?_
  refine ka fun D hD=>?_
  walk_at "ra"
  obtain ⟨a1,a2⟩:=jB h1
  refine ⟨_,rfl,_,qc ze,_,rfl,_,a1,by omega,_,rfl,_,_,rfl,ze,a,a2,?_⟩
  rw [show ((row.map oD).map AV.d).set a (AV.d .non)=_ from je row a none]
  subst hD
  refine qY rfl (by decide +kernel) ?_
  refine qY rfl (by decide +kernel) ?_
  exact frz _ (some x) _ rfl _ _ (fun z=>nomatch z) (fun z=>nomatch z)
 | @move a b row hd x h1 h2=>
  rw [show dD (.move a b)=.tup [.str (Str.ofString "move"),.int (a:Int),.int (b:Int)] from rfl]
  refine qY rfl (by decide +kernel) ?_
  refine qY rfl (by decide +kernel) ?_
  refine xJ rfl (by decide +kernel) ?_
  refine ka fun D hD=>?_
  walk_at "ra"
  obtain ⟨a1,a2⟩:=jB h1
  obtain ⟨b1,b2⟩:=jB h2
  refine ⟨_,rfl,_,qc ze,_,rfl,_,a1,by omega,_,rfl,_,_,rfl,ze,a,a2,_,rfl,_,_,rfl,ze,b,by rw [List.length_set];exact b2,?_⟩
  rw [show ((row.map oD).map AV.d).set a (AV.d .non)=_ from je row a none,je]
  subst hD
  refine qY rfl (by decide +kernel) ?_
  exact frz _ _ _ rfl _ _ (fun z=>nomatch z) (fun z=>nomatch z)
 | @lay g row x h1=>
  rw [show dD (.lay g)=.tup [.str (Str.ofString "lay"),.int (g:Int)] from rfl]
  refine qY rfl (by decide +kernel) ?_
  refine qY rfl (by decide +kernel) ?_
  refine qY rfl (by decide +kernel) ?_
  refine xJ rfl (by decide +kernel) ?_
  refine ka fun D hD=>?_
  walk_at "ra"
  obtain ⟨a1,a2⟩:=jB h1
  refine ⟨by omega,_,rfl,_,_,rfl,ze,g,a2,?_⟩
  rw [je]
  subst hD
  exact frz _ none _ rfl _ _ (fun z=>nomatch z) (fun z=>nomatch z)
noncomputable def YB:ASp:=fun xs M Q=>∃ (b:Addr) (row:List (Option Int)) (h:Option Int) (N:Nat),xs=[.ref b,.d (.lst (row.map oD)),.d (oD h)]/\BxM M b N/\N<2000000/\row.length<=1000 /\
 ∀ M',BxS M M' b (N+10)->Q (.d .non) M'/\∀ d t,DoE d (row,h) t->Q (.d (dD d)) M'
noncomputable def xB (p:Option Int->Bool)(row:List (Option Int)):List Nat:=(List.range row.length).filter fun k=>p (row.getD k none)
noncomputable abbrev niA (l:List Nat):List AV:=l.map fun k:Nat=>AV.d (.int k)
theorem QW {p:Option Int->Bool}{row:List (Option Int)}{k:Nat}(h:k ∈ xB p row):∃ c,row[k]?=some c/\p c=true:=by
 obtain ⟨h1,h2⟩:=List.mem_filter.mp h
 have hk:=List.mem_range.mp h1
 refine ⟨row.getD k none,?_,h2⟩
 rw [List.getD_eq_getElem?_getD,List.getElem?_eq_getElem hk];rfl
theorem Am (p:Option Int->Bool)(row:List (Option Int)):(xB p row).Nodup:=List.Pairwise.sublist List.filter_sublist List.nodup_range
theorem KY {l:List Nat}{r:Int}(h0:0<=r)(h1:r<l.length):∃ k,k ∈ l/\l[r.toNat]?=some k/\atI (niA l) r=some (.d (.int k)):=by
 have hr:r.toNat<l.length:=by omega
 refine ⟨l[r.toNat],List.getElem_mem hr,List.getElem?_eq_getElem hr,?_⟩
 unfold atI
 rw [qS h0 (by rw [List.length_map];exact h1)]
 show (niA l)[r.toNat]?=_
 rw [List.getElem?_map,List.getElem?_eq_getElem hr];rfl
theorem Kl {l:List Nat}{r t:Int}(h0:0<=r)(h1:r<l.length)(t0:0<=t)(t1:t<(l.length:Int) - 1):∃ j k,j ≠ r.toNat/\l[j]?=some k/\atI (niA l) (r - 1 - t)=some (.d (.int k)):=by
 by_cases c:0<=r - 1 - t
 ·obtain ⟨k,_,e1,e2⟩:=KY (l:=l) c (by omega)
  exact ⟨(r - 1 - t).toNat,k,by omega,e1,e2⟩
 ·have hj:(r - 1 - t+l.length).toNat<l.length:=by omega
  refine ⟨(r - 1 - t+l.length).toNat,l[(r - 1 - t+l.length).toNat],by omega,List.getElem?_eq_getElem hj,?_⟩
  unfold atI ixN
  rw [List.length_map,if_neg c,if_pos (by omega)]
  show (niA l)[(r - 1 - t+(l.length:Int)).toNat]?=_
  rw [List.getElem?_map,List.getElem?_eq_getElem hj];rfl
theorem wq {p : Option Int -> Bool}{row : List (Option Int)}{at_ : AT}{N : List AV -> ASt -> MH -> Prop}{M : MH}{R : Option AV -> ASt}{u : Option AV}(hl : row.length <= 1000)
    (ht:∀ (o:Option AV) (k:Nat) (Q:Bool->MH->Prop),k<row.length->Q (p (row.getD k none)) M->at_ ((R o).set 7 (some (.d (.int k)))) M Q) (hv:∀ o (y:AV),(R o).set 7 (some y)=R (some y)) (h7:∀ (y:AV),(R (some y))[7]?=some (some y)) (hN:∀ o,N (niA (xB p row)) (R o) M) :
    wk (jb 7) at_ (ku (zE 7)) (fun _=>True) N (vn 0 1 row.length) [] (R u) M:=by
  refine JT R (fun y=>match y with | .d (.int k)=>p (row.getD k.toNat none) | _=>false) id ⟨_,rfl⟩ trivial (by rw [jV];omega) (fun o y Q hy q=>?_) fun o=>?_
  · obtain ⟨i,hi⟩:=List.getElem?_of_mem hy
    obtain ⟨hk,rfl⟩:=jY hi
    rw [show (0:Int)+(i:Int) * 1=(i:Int) by omega] at q ⊢
    show at_ _ _ _
    refine ht o i _ hk ?_
    have q:Q (if p (row.getD (i:Int).toNat none)=true then some (id (AV.d (.int i))) else none) (R (some (.d (.int i)))) M:=q (some (.d (.int i)))
    rw [Int.toNat_natCast] at q
    cases hp:p (row.getD i none) with
    | true=>
      rw [if_pos rfl]
      refine ⟨_,by rw [hv];exact h7 _,?_⟩
      rw [hv]
      rw [hp,if_pos rfl] at q;exact q
    | false=>
      rw [if_neg (fun z=>nomatch z),hv]
      rw [hp,if_neg (fun z=>nomatch z)] at q;exact q
  · have e : ((vn 0 1 row.length).filter (fun y => match y with | .d (.int k) => p (row.getD k.toNat none) | _ => false)).map id = niA (xB p row) := by
      rw [List.map_id]
      unfold vn xB niA
      rw [List.filter_map]
      have:((fun y=>match y with | AV.d (.int k)=>p (row.getD k.toNat none) | _=>false) ∘ fun i:Nat=>AV.d (.int (0+(i:Int) * 1)))=fun k=>p (row.getD k none):=by
        funext k
        show p (row.getD (0+(k:Int) * 1).toNat none)=_
        rw [show (0+(k:Int) * 1).toNat=k by omega]
      rw [this]
      exact List.map_congr_left fun k _=>by rw [show (0:Int)+(k:Int) * 1=(k:Int) by omega]
    rw [e];exact hN o
theorem AC (l:List Dat):eqD (.lst l) (.lst [])=l.isEmpty:=by cases l <;> simp [eqD,jz]
theorem tNe {i:Nat}{x:AV}{l:List Dat}{ρ:ASt}{M:MH}(h:ρ[i]?=some (some x))(hx:jM x M=some (.lst l))(hd:dp (.lst l)<=40):Tst (aB (aOp (xP not) (zE i) (aFz (Bw jq)))) ρ M (!l.isEmpty):=fun Q q=>
 ⟨_,h,Nat.zero_le _,_,rfl,_,_,hx,rfl,hd,by simp [dp,dps],_,rfl,by rw [AC];exact q⟩
theorem kN (l:List Nat):dp (.lst (l.map fun k:Nat=>Dat.int k))<=40:=by
 rw [dp]
 have:=jF (l:=l.map fun k:Nat=>Dat.int k) (n:=0) fun d hd=>by obtain ⟨k,_,rfl⟩:=List.mem_map.mp hd;rw [kE];omega
 omega
theorem Qz {i:Nat}{l:List Nat}{b:Addr}{N:Nat}{ρ:ASt}{M:MH}{Q:AK}(h0:ρ[0]?=some (some (.ref b)))(hi:ρ[i]?=some (some (.d (.lst (l.map fun k:Nat=>Dat.int k)))))(hb:BxM M b N)(hN:N<10000000)(hl:l.length<=1000)(h:l ≠ [])(k:∀ k ∈ l,∀ M',BxS M M' b (N+1)->Q (.d (.int (k:Nat))) M') :
  aOp (aIx zQ) (zE i) (y8 wI (zR (zE 0) (zR (aCB Vb (zR (zE i) jq)) jq))) ρ M Q:=by
 have e:(l.map fun k:Nat=>Dat.int k).map AV.d=niA l:=by rw [List.map_map];rfl
 have hp:0<l.length:=List.length_pos_iff.mpr h
 refine ⟨_,hi,_,h0,_,hi,_,_,rfl,rfl,b,_,N,rfl,hb,by omega,by rw [e,List.length_map];omega,by rw [e,List.length_map];omega,fun r M' s r0 r1=>?_⟩
 rw [e,List.length_map] at r1
 obtain ⟨j,hj,_,a⟩:=KY r0 r1
 exact ⟨_,_,_,rfl,rfl,by rw [e];exact a,k j hj M' s⟩
theorem yg {l:List Nat}(h:l ≠ []):(!(l.map fun k:Nat=>Dat.int k).isEmpty)=true:=by cases l;exact absurd rfl h;rfl
theorem QN {M:MH}{p:Addr}{l:List AV}(h:M p=some (.lst l)):qe (.ref p) M=some l:=by unfold qe;dsimp only;rw [h]
structure DIn (M M':MH)(b p:Addr)(row:List (Option Int))(hd:Option Int)(N j:Nat)(ds:List De):Prop where
 sb:SB M M' b (N+2 * j)
 p0:M p=none
 pb:p ≠ b
 at_:M' p=some (.lst ((ds.map dD).map .d))
 len:ds.length<=2 * j
 ok:∀ d ∈ ds,∃ t,DoE d (row,hd) t
theorem DIn.mono {M M':MH}{b p:Addr}{row:List (Option Int)}{hd:Option Int}{N j k:Nat}{ds:List De}(I:DIn M M' b p row hd N j ds)(h:j<=k)(_:j<=k):DIn M M' b p row hd N k ds:=⟨I.sb.mono (by omega),I.p0,I.pb,I.at_,by have:=I.len;omega,I.ok⟩
structure Ka (M M':MH)(b p:Addr)(row:List (Option Int))(hd:Option Int)(N j:Nat)(ds:List De):Prop where
 sb:SB M M' b N
 p0:M p=none
 pb:p ≠ b
 at_:M' p=some (.lst ((ds.map dD).map .d))
 len:ds.length<=2 * j
 ok:∀ d ∈ ds,∃ t,DoE d (row,hd) t
theorem DIn.go {M M' M2:MH}{b p:Addr}{row:List (Option Int)}{hd:Option Int}{N j N':Nat}{ds:List De}(I:DIn M M' b p row hd N j ds)(s:BxS M' M2 b N'):Ka M M2 b p row hd N' j ds:=⟨I.sb.go s,I.p0,I.pb,by rw [s.at I.pb];exact I.at_,I.len,I.ok⟩
theorem Ka.go {M M' M2:MH}{b p:Addr}{row:List (Option Int)}{hd:Option Int}{N j N':Nat}{ds:List De}(I:Ka M M' b p row hd N j ds)(s:BxS M' M2 b N'):Ka M M2 b p row hd N' j ds:=⟨I.sb.go s,I.p0,I.pb,by rw [s.at I.pb];exact I.at_,I.len,I.ok⟩
theorem Ka.add {M M':MH}{b p:Addr}{row:List (Option Int)}{hd:Option Int}{N N0 j:Nat}{ds:List De}(I:Ka M M' b p row hd N j ds){d:De}{t:ES}(h:DoE d (row,hd) t)(hn:N<=N0+2 * (j+1)):DIn M (mup M' p (.lst ((ds.map dD).map .d ++ [.d (dD d)]))) b p row hd N0 (j+1) (ds ++ [d]):=by
 refine ⟨(I.sb.put I.p0 I.pb _).mono hn,I.p0,I.pb,?_,by rw [List.length_append];have:=I.len;show _+1<=_;omega,fun e he=>?_⟩
 ·rw [List.map_append,List.map_append];exact ze
 ·rcases List.mem_append.mp he with he | he
  ·exact I.ok e he
  ·rw [List.mem_singleton.mp he];exact ⟨t,h⟩
noncomputable abbrev Zj:Stmt:=top 10
theorem QB:zO ["_law_box_here","_law_row","_law_hand","_law_there","_law_free","_law_some","_law_one","_law_k"] ["_law_box_here","_law_row","_law_hand"] (zn Zj):=⟨rfl,rfl,rfl,by decide +kernel,rfl,by decide +kernel,by decide +kernel⟩
theorem YZ (a:At K mg "_law_deed" Zj)(B:Blt mg)(D_law_take:Df P w K mg base "_law_take" ["_law_box_here","_law_many"] 1 (cSp wI)):Df P w K mg base "_law_deed" ["_law_box_here","_law_row","_law_hand"] 2 (cSp YB):=by
 refine dfA (k:=1) a QB (fun _ _ _ _ _ _=>Pn3_ fun _ _ _=>rfl) (fun xs M Q h=>?_) (fun f cdv A outer s H E hr=>?_)
 ·obtain ⟨_,_,_,_,rfl,_⟩:=h;rfl
 have sc:=QB
 have hsl:=hsl
 refine ⟨_,(zd (Qs (j:=3) rfl sc.nd rfl (by first | exact Or.inl rfl | exact Or.inr rfl) (ts:=[7]) rfl (jC rfl B.range (za (zo zB rfl B.len qO (za (pv 1) zb)) zb)) (fun _ _ _ _=>(zA (i:=7) sc.nd rfl (by first | exact Or.inl rfl | exact Or.inr rfl))) (fun _ _ _ _=>QL (zl jo (zh (KQ (K:=K) rfl) (pv 1) (pv 7) (fun _ _=>rfl)) zN (zj _))) (fun _ _ _ _=>(pv 7)))
  (zd (Qs (j:=4) rfl sc.nd rfl (by first | exact Or.inl rfl | exact Or.inr rfl) (ts:=[7]) rfl (jC rfl B.range (za (zo zB rfl B.len qO (za (pv 1) zb)) zb)) (fun _ _ _ _=>(zA (i:=7) sc.nd rfl (by first | exact Or.inl rfl | exact Or.inr rfl))) (fun _ _ _ _=>QL (zl kG (zh (KQ (K:=K) rfl) (pv 1) (pv 7) (fun _ _=>rfl)) zN (zj _))) (fun _ _ _ _=>(pv 7)))
  (zd (zS (i:=5) sc.nd rfl (by first | exact Or.inl rfl | exact Or.inr rfl) (jH (zW zb)))
  (zd (zU (zl X3 (zo zB rfl B.len qO (za (pv 3) zb)) zc (zj _)) (zd (zS (i:=6) sc.nd rfl (by first | exact Or.inl rfl | exact Or.inr rfl) (zK D_law_take hr rfl (za (pv 0) (za (zo zB rfl B.len qO (za (pv 3) zb)) zb))))
  (zg (qL (kq PySem.F.plainAttrs_list PySem.F.slot_list_append PySem.F.type_list_append qj (pv 5) (za (zM (za zD (za (zh zu (pv 3) (pv 6) (fun _ _=>rfl)) (za (zh zu (pv 3) (zz vw (zz vw (pv 6) zc) (zK D_law_take hr rfl (za (pv 0) (za (zz vw (zo zB rfl B.len qO (za (pv 3) zb)) zc) zb)))) (fun _ _=>rfl)) zb)))) zb))))) zC)
  (zd (zU (PW.pt (kZ (zl kG (pv 2) zN (zj _)) (kc (zl (qT hr.units) (pv 3) (zW zb) (zj _))))) (zg (qL (kq PySem.F.plainAttrs_list PySem.F.slot_list_append PySem.F.type_list_append qj (pv 5) (za (zM (za zD (za (zh zu (pv 3) (zK D_law_take hr rfl (za (pv 0) (za (zo zB rfl B.len qO (za (pv 3) zb)) zb))) (fun _ _=>rfl)) zb))) zb)))) zC)
  (zd (zU (PW.pt (kZ (zl (qT hr.units) (pv 3) (zW zb) (zj _)) (kc (zl (qT hr.units) (pv 4) (zW zb) (zj _))))) (zg (zS (i:=5) sc.nd rfl (by first | exact Or.inl rfl | exact Or.inr rfl) (jH (zz yl (pv 5) (zz ZX (zW (za (zM (za zD (za (zh zu (pv 3) (zK D_law_take hr rfl (za (pv 0) (za (zo zB rfl B.len qO (za (pv 3) zb)) zb))) (fun _ _=>rfl)) (za (zh zu (pv 4) (zK D_law_take hr rfl (za (pv 0) (za (zo zB rfl B.len qO (za (pv 4) zb)) zb))) (fun _ _=>rfl)) zb)))) zb)) zc))))) zC)
  (zd (zU (PW.pt (kZ (zl jo (pv 2) zN (zj _)) (kc (zl (qT hr.units) (pv 4) (zW zb) (zj _))))) (zg (qL (kq PySem.F.plainAttrs_list PySem.F.slot_list_append PySem.F.type_list_append qj (pv 5) (za (zM (za zD (za (zh zu (pv 4) (zK D_law_take hr rfl (za (pv 0) (za (zo zB rfl B.len qO (za (pv 4) zb)) zb))) (fun _ _=>rfl)) zb))) zb)))) zC)
  (zg (zG (X4 (zl (qT hr.units) (pv 5) (zW zb) (zj _)) (zh zu (pv 5) (zK D_law_take hr rfl (za (pv 0) (za (zo zB rfl B.len qO (za (pv 5) zb)) zb))) (fun _ _=>rfl)) zN)))))))))),?_⟩
 refine ex2 (by walk_at "sim") ?_
 rintro xs M Q ⟨b,row,hd,N,rfl,hb,hN,hl,q⟩
 rw [show qz ["_law_box_here","_law_row","_law_hand","_law_there","_law_free","_law_some","_law_one","_law_k"] [.ref b,.d (.lst (row.map oD)),.d (oD hd)]=[some (.ref b),some (.d (.lst (row.map oD))),some (.d (oD hd)),none,none,none,none,none] from rfl]
 have sb:=SB.refl hb
 refine zm fun r1 hr1=>?_
 walk_at "ra"
 refine ⟨by omega,by omega,?_⟩
 rw [Int.toNat_natCast]
 have pn:∀ l:List Nat,pur (niA l)=some (l.map fun k:Nat=>Dat.int k):=fun l=>by
  unfold niA;rw [show (fun k:Nat=>AV.d (.int k))=AV.d ∘ fun k:Nat=>Dat.int k from rfl,<- List.map_map];exact zF _
 refine wq (p:=fun c=>c.isSome) (R:=fun o=>[some (.ref b),some (.d (.lst (row.map oD))),some (.d (oD hd)),none,none,none,none,o]) hl (fun o k Q hk q=>?_) (fun _ _=>rfl) (fun _=>rfl) fun o=>⟨_,pn _,?_⟩
 ·refine ⟨_,rfl,_,rfl,_,_,_,rfl,rfl,we hk,rfl,_,rfl,?_⟩
  cases h:row.getD k none <;> rw [h] at q <;> exact q
 subst hr1
 refine zm fun r1 hr1=>?_
 walk_at "ra"
 refine ⟨by omega,by omega,?_⟩
 rw [Int.toNat_natCast]
 refine wq (p:=fun c=>c.isNone) (R:=fun o=>[some (.ref b),some (.d (.lst (row.map oD))),some (.d (oD hd)),some (.d (.lst ((xB (fun c=>c.isSome) row).map fun k:Nat=>Dat.int k))),none,none,none,o]) hl (fun o k Q hk q=>?_) (fun _ _=>rfl) (fun _=>rfl) fun o=>⟨_,pn _,?_⟩
 ·refine ⟨_,rfl,_,rfl,_,_,_,rfl,rfl,we hk,rfl,_,rfl,?_⟩
  cases h:row.getD k none <;> rw [h] at q <;> exact q
 have hth:∀ k ∈ xB (fun c=>c.isSome) row,∃ x,row[k]?=some (some x):=fun k hk=>by
  obtain ⟨c,h1,h2⟩:=QW hk
  cases c with
  | none=>cases h2
  | some x=>exact ⟨x,h1⟩
 have hfr:∀ k ∈ xB (fun c=>c.isNone) row,row[k]?=some none:=fun k hk=>by
  obtain ⟨c,h1,h2⟩:=QW hk
  cases c with
  | none=>exact h1
  | some x=>cases h2
 have ndt:=Am (fun c=>c.isSome) row
 have lth:(xB (fun c=>c.isSome) row).length<=1000:=Nat.le_trans (List.length_filter_le _ _) (by rw [List.length_range];exact hl)
 have lfr:(xB (fun c=>c.isNone) row).length<=1000:=Nat.le_trans (List.length_filter_le _ _) (by rw [List.length_range];exact hl)
 generalize xB (fun c=>c.isSome) row=th at *
 generalize xB (fun c=>c.isNone) row=fr at *
 subst hr1
 refine zm fun r1 hr1=>?_
 walk_at "ra"
 intro p hp _
 obtain ⟨p0,pb⟩:=sb.new hp
 have I0:DIn M (mup M p (.lst [])) b p row hd N 0 []:=⟨sb.put p0 pb _,p0,pb,ze,Nat.le_refl 0,by simp⟩
 generalize mup M p (.lst [])=M1 at *
 have mth:(th.map fun k:Nat=>Dat.int k).map AV.d=niA th:=by rw [List.map_map];rfl
 have mfr:(fr.map fun k:Nat=>Dat.int k).map AV.d=niA fr:=by rw [List.map_map];rfl
 subst hr1
 refine zm fun r1 hr1=>?_
 have go1:∀ ds u6 M',DIn M M' b p row hd N 1 ds->r1 M { nx:=fun x M'=>rtA M Q (.d .non) M',rt:=rtA M Q } [some (.ref b),some (.d (.lst (row.map oD))),some (.d (oD hd)),some (.d (.lst (th.map fun k:Nat=>Dat.int k))),some (.d (.lst (fr.map fun k:Nat=>Dat.int k))),some (.ref p),u6,none] M':=fun ds u6 M' I=>by
  subst hr1
  refine zm fun r1 hr1=>?_
  have go2:∀ ds M',DIn M M' b p row hd N 2 ds->r1 M { nx:=fun x M'=>rtA M Q (.d .non) M',rt:=rtA M Q } [some (.ref b),some (.d (.lst (row.map oD))),some (.d (oD hd)),some (.d (.lst (th.map fun k:Nat=>Dat.int k))),some (.d (.lst (fr.map fun k:Nat=>Dat.int k))),some (.ref p),u6,none] M':=fun ds M' I=>by
   subst hr1
   refine zm fun r1 hr1=>?_
   have go3:∀ p ds M',DIn M M' b p row hd N 3 ds->r1 M { nx:=fun x M'=>rtA M Q (.d .non) M',rt:=rtA M Q } [some (.ref b),some (.d (.lst (row.map oD))),some (.d (oD hd)),some (.d (.lst (th.map fun k:Nat=>Dat.int k))),some (.d (.lst (fr.map fun k:Nat=>Dat.int k))),some (.ref p),u6,none] M':=fun p ds M' I=>by
    subst hr1
    refine zm fun r1 hr1=>?_
    have go4:∀ ds M',DIn M M' b p row hd N 4 ds->r1 M { nx:=fun x M'=>rtA M Q (.d .non) M',rt:=rtA M Q } [some (.ref b),some (.d (.lst (row.map oD))),some (.d (oD hd)),some (.d (.lst (th.map fun k:Nat=>Dat.int k))),some (.d (.lst (fr.map fun k:Nat=>Dat.int k))),some (.ref p),u6,none] M':=fun ds M' I=>by
     subst hr1
     have hda:jM (.ref p) M'=some (.lst (ds.map dD)):=by unfold jM;dsimp only;rw [I.at_];dsimp only;rw [zF];rfl
     have hdd:dp (.lst (ds.map dD))<=40:=by
      rw [dp]
      have:=jF (l:=ds.map dD) (n:=1) fun x hx=>by obtain ⟨d,_,rfl⟩:=List.mem_map.mp hx;cases d <;> simp [dD,dp,dps]
      omega
     cases ds with
     | nil=>exact D4 (zT (tNe rfl hda hdd) rfl) ((I.sb.mono (show _<=N+10 by omega)).rt fun M'' s=>(q M'' s).1)
     | cons d0 ds0=>
      refine DW (zT (tNe rfl hda hdd) rfl) ?_
      have hsq:∀ {M2},M2 p=M' p->zQ (.ref p) M2=some (((d0 :: ds0).map dD).map .d):=fun h=>by unfold zQ;dsimp only;rw [h,I.at_]
      have hl8:=I.len
      refine ⟨_,rfl,_,rfl,_,rfl,_,_,rfl,hsq rfl,b,_,_,rfl,I.sb.bx,by omega,by rw [List.length_map,List.length_map,List.length_cons];omega,by rw [List.length_map,List.length_map];omega,fun r M2 s2 r0 r1=>?_⟩
      rw [List.length_map,List.length_map] at r1
      have hr:r.toNat<(d0 :: ds0).length:=by omega
      have hm:=List.getElem_mem hr
      obtain ⟨t,ht⟩:=I.ok _ hm
      refine ⟨_,_,.d (dD ((d0 :: ds0)[r.toNat])),hsq (s2.at I.pb),rfl,?_,((I.sb.go s2).mono (show _<=N+10 by omega)).rt fun M'' s=>(q M'' s).2 _ t ht⟩
      unfold atI
      rw [qS r0 (by rw [List.length_map,List.length_map];exact r1)]
      show (((d0 :: ds0).map dD).map AV.d)[r.toNat]?=_
      rw [List.getElem?_map,List.getElem?_map,List.getElem?_eq_getElem hr];rfl
    cases hd with
    | none=>exact qv (ZL (zT (tNN rfl) rfl)) (go4 ds M' (I.mono (by omega) (by omega)))
    | some x=>
     by_cases hf:fr=[]
     ·exact qv (xk (zT (tNN rfl) rfl) (zT (tNe rfl rfl (kN _)) (by rw [hf];rfl))) (go4 ds M' (I.mono (by omega) (by omega)))
     refine wu (xk (zT (tNN rfl) rfl) (zT (tNe rfl rfl (kN _)) (yg hf))) ?_
     have:=I.len
     refine ⟨_,rfl,⟨_,QN I.at_⟩,Qz rfl rfl I.sb.bx (by omega) lfr hf fun k hk M2 s2=>⟨by show 2<=_;omega,_,rfl,_,_,_,rfl,rfl,(I.go s2).at_,by rw [List.length_map,List.length_map];omega,go4 _ _ ((I.go s2).add (d:=.lay k) (DoE.lay (hfr k hk)) (by omega))⟩⟩
   by_cases ht:th=[]
   ·exact qv (ZL (zT (tNe rfl rfl (kN _)) (by rw [ht];rfl))) (go3 p ds M' (I.mono (by omega) (by omega)))
   by_cases hf:fr=[]
   ·exact qv (xk (zT (tNe rfl rfl (kN _)) (yg ht)) (zT (tNe rfl rfl (kN _)) (by rw [hf];rfl))) (go3 p ds M' (I.mono (by omega) (by omega)))
   refine wu (xk (zT (tNe rfl rfl (kN _)) (yg ht)) (zT (tNe rfl rfl (kN _)) (yg hf))) ?_
   have:=I.len
   refine ⟨_,rfl,Qz rfl rfl I.sb.bx (by omega) lth ht fun k hk M2 s2=>Qz rfl rfl (I.go s2).sb.bx (by omega) lfr hf fun g hg M3 s3=>?_⟩
   obtain ⟨x,hx⟩:=hth k hk
   have I3:=(I.go s2).go s3
   refine ⟨by show 3<=_;omega,_,rfl,by show 1<=_;omega,_,rfl,_,_,rfl,rfl,by decide,by decide,by show 1 * 2<=_;omega,_,rfl,_,_,QN I3.at_,rfl,by rw [List.length_map,List.length_map];show _+2<=_;omega,fun p' hp0 hp'=>?_⟩
   obtain ⟨q0,qb⟩:=I3.sb.new hp'
   refine go3 p' (ds ++ [.move k g,.move k g]) _ ⟨(I3.sb.put q0 qb _).mono (by omega),q0,qb,?_,by rw [List.length_append];show _+2<=_;omega,fun e he=>?_⟩
   ·rw [List.map_append,List.map_append];exact ze
   ·rcases List.mem_append.mp he with he | he
    ·exact I.ok e he
    ·obtain rfl | rfl:e=.move k g \/ e=.move k g:=by simpa using he
     all_goals exact ⟨_,DoE.move hx (hfr g hg)⟩
  cases hd with
  | some x=>exact qv (ZL (zT (tIN rfl) rfl)) (go2 ds M' (I.mono (by omega) (by omega)))
  | none=>
   by_cases ht:th=[]
   ·exact qv (xk (zT (tIN rfl) rfl) (zT (tNe rfl rfl (kN _)) (by rw [ht];rfl))) (go2 ds M' (I.mono (by omega) (by omega)))
   refine wu (xk (zT (tIN rfl) rfl) (zT (tNe rfl rfl (kN _)) (yg ht))) ?_
   have:=I.len
   refine ⟨_,rfl,⟨_,QN I.at_⟩,Qz rfl rfl I.sb.bx (by omega) lth ht fun k hk M2 s2=>⟨by show 2<=_;omega,_,rfl,_,_,_,rfl,rfl,(I.go s2).at_,by rw [List.length_map,List.length_map];omega,?_⟩⟩
   obtain ⟨x,hx⟩:=hth k hk
   exact go2 _ _ ((I.go s2).add (d:=.take k) (DoE.take hx) (by omega))
 refine Vk fun r2 hr2=>?_
 walk_at "ra"
 by_cases c:1<(th.length:Int)
 case neg=>rw [if_neg c];exact go1 [] none M1 (I0.mono (by omega) (by omega))
 rw [if_pos c]
 subst hr2
 walk_at "ra"
 refine ⟨b,_,_,rfl,I0.sb.bx,by omega,by omega,by omega,fun one M2 s2 o0 o1=>?_⟩
 have I1:=I0.go s2
 obtain ⟨k1,m1,e1,a1⟩:=KY o0 o1
 refine ⟨⟨_,QN I1.at_⟩,_,rfl,_,by rw [mth];exact a1,_,rfl,b,_,_,rfl,I1.sb.bx,by omega,by omega,by omega,fun oth M3 s3 t0 t1=>?_⟩
 have I2:=I1.go s3
 obtain ⟨j,k2,hj,e2,a2⟩:=Kl o0 o1 t0 t1
 obtain ⟨x1,hx1⟩:=hth k1 m1
 obtain ⟨x2,hx2⟩:=hth k2 (List.mem_of_getElem? e2)
 refine ⟨_,rfl,_,by rw [mth];exact a2,by omega,_,rfl,_,I2.at_,by show 0<_;omega,?_⟩
 refine go1 _ _ _ (I2.add (d:=.swap k1 k2) (DoE.swap (fun z=>hj ?_) hx1 hx2) (by omega))
 subst z
 exact (List.getElem?_inj (List.getElem?_eq_some_iff.mp e2).1 ndt).mp (e2.trans e1.symm)
noncomputable def deD:De->Dat
 | .swap a b=>.tup [.str (Str.ofString "swap"),.int (a:Int),.int (b:Int)]
 | .take p=>.tup [.str (Str.ofString "take"),.int (p:Int)]
 | .move p g=>.tup [.str (Str.ofString "move"),.int (p:Int),.int (g:Int)]
 | .lay g=>.tup [.str (Str.ofString "lay"),.int (g:Int)]
noncomputable def swK (a b:Nat):List Int:=if (a:Int)<=b then [(a:Int),b] else [(b:Int),a]
noncomputable def xb:De->De->Bool
 | .swap a b,.swap c d=>decide (swK a b=swK c d)
 | x,y=>eqD (deD x) (deD y.back)
noncomputable def zX (l:List De)(d:De):List De:=match l.getLast? with
 | some e=>if xb d e=true then l.dropLast else l ++ [d]
 | none=>l ++ [d]
noncomputable def tid (ds:List De):List De:=ds.foldl zX []
theorem DoE.det {d:De}{s t u:ES}(h:DoE d s t)(h':DoE d s u):t=u:=by
 cases h with
 | swap ne h1 h2=>
  cases h' with
  | swap ne' k1 k2=>rw [h1] at k1;rw [h2] at k2;cases k1;cases k2;rfl
 | take h1=>cases h' with | take k1=>rw [h1] at k1;cases k1;rfl
 | move h1 h2=>cases h' with | move k1 k2=>rw [h1] at k1;cases k1;rfl
 | lay h1=>cases h' with | lay k1=>rfl
theorem DoE.flip {a b:Nat}{s t:ES}(h:DoE (.swap a b) s t):DoE (.swap b a) s t:=by
 cases h with
 | @swap _ _ row hh x y ne h1 h2=>
  rw [show ((row.set a (some y)).set b (some x),hh)=(((row.set b (some x)).set a (some y)),hh) by rw [List.set_comm _ _ ne]]
  exact DoE.swap (fun z=>ne z.symm) h2 h1
theorem Z7 {a b:List De}{s u:ES}(h:qC (a ++ b) s u):∃ t,qC a s t/\qC b t u:=by
 induction a generalizing s with
 | nil=>exact ⟨s,.nil,h⟩
 | cons d a ih=>
  cases h with
  | cons h1 h2=>obtain ⟨t,k1,k2⟩:=ih h2;exact ⟨t,.cons h1 k1,k2⟩
noncomputable def De.nf:De->De
 | .swap a b=>.swap (min a b) (max a b)
 | d=>d
theorem QV (d:De):d.back.nf=d.nf.back:=by cases d <;> rfl
theorem qG {x y:De}(h:eqD (deD x) (deD y)=true):x=y:=by
 cases x <;> cases y <;> simp only [deD,eqD,jz,Bool.and_true,Bool.and_false,Bool.and_eq_true,beq_iff_eq,Bool.false_eq_true] at h <;> first | (obtain ⟨_,h1,h2⟩:=h;congr 1 <;> omega) | (obtain ⟨_,h1⟩:=h;congr 1;omega) | exact absurd h.1 (by decide +kernel)
theorem jm (x:De):eqD (deD x) (deD x)=true:=by cases x <;> simp [deD,eqD,jz]
theorem kP (x y:De):xb x y=true ↔ x.nf=y.nf.back:=by
 cases x with
 | swap a b=>
  cases y with
  | swap c d=>
   show decide (swK a b=swK c d)=true ↔ De.swap _ _=De.swap _ _
   rw [decide_eq_true_eq,De.swap.injEq]
   unfold swK
   split <;> split <;> simp only [List.cons.injEq,and_true] <;> omega
  | _=>exact ⟨fun h=>absurd (qG h) (fun z=>nomatch z),fun h=>nomatch h⟩
 | take p=>
  cases y with
  | lay g=>exact ⟨fun h=>qG h,fun h=>by have h:De.take p=(De.lay g).back:=h;show eqD (deD (.take p)) (deD (De.lay g).back)=true;rw [h];exact jm _⟩
  | _=>exact ⟨fun h=>absurd (qG h) (fun z=>nomatch z),fun h=>nomatch h⟩
 | lay p=>
  cases y with
  | take g=>exact ⟨fun h=>qG h,fun h=>by have h:De.lay p=(De.take g).back:=h;show eqD (deD (.lay p)) (deD (De.take g).back)=true;rw [h];exact jm _⟩
  | _=>exact ⟨fun h=>absurd (qG h) (fun z=>nomatch z),fun h=>nomatch h⟩
 | move p q=>
  cases y with
  | move g k=>exact ⟨fun h=>qG h,fun h=>by have h:De.move p q=(De.move g k).back:=h;show eqD (deD (.move p q)) (deD (De.move g k).back)=true;rw [h];exact jm _⟩
  | _=>exact ⟨fun h=>absurd (qG h) (fun z=>nomatch z),fun h=>nomatch h⟩
theorem DoE.nf {d e:De}(h:d.nf=e.nf){s t:ES}(k:DoE d s t):DoE e s t:=by
 cases d with
 | swap a b=>
  cases e with
  | swap c g=>
   have h:De.swap (min a b) (max a b)=De.swap (min c g) (max c g):=h
   rw [De.swap.injEq] at h
   obtain ⟨h1,h2⟩:=h
   by_cases z:a=c
   ·have:b=g:=by omega
    subst z this;exact k
   ·have e1:a=g:=by omega
    have e2:b=c:=by omega
    subst e1 e2;exact k.flip
  | _=>cases h
 | take p=>cases e <;> first | (cases h;exact k) | cases h
 | lay p=>cases e <;> first | (cases h;exact k) | cases h
 | move p q=>cases e <;> first | (cases h;exact k) | cases h
theorem Jc {l:List De}{d:De}{s u t:ES}(h:qC l s u)(k:DoE d u t):qC (zX l d) s t:=by
 unfold zX
 cases e:l.getLast? with
 | none=>exact h.append (.one k)
 | some x=>
  dsimp only
  by_cases c:xb d x=true
  ·rw [if_pos c]
   have hl:l=l.dropLast ++ [x]:=by
    have hne:l ≠ []:=fun z=>by rw [z] at e;cases e
    have:=List.dropLast_concat_getLast hne
    rw [List.getLast?_eq_some_getLast hne] at e
    cases e
    exact this.symm
   rw [hl] at h
   obtain ⟨v,h1,h2⟩:=Z7 h
   cases h2 with
   | cons h3 h4=>
    cases h4
    have:=(kP d x).mp c
    have k2:DoE x.back u t:=DoE.nf (by rw [QV];exact this) k
    rw [k2.det h3.back]
    exact h1
  ·rw [if_neg c]
   exact h.append (.one k)
theorem Y4 {ds:List De}{s t:ES}(h:qC ds s t):qC (tid ds) s t:=by
 have go:∀ (ds l:List De) (s u t:ES),qC l s u->qC ds u t->qC (ds.foldl zX l) s t:=by
  intro ds
  induction ds with
  | nil=>intro l s u t h1 h2;cases h2;exact h1
  | cons d r ih=>
   intro l s u t h1 h2
   cases h2 with
   | cons k1 k2=>exact ih _ _ _ _ (Jc h1 k1) k2
 exact go ds [] s s t .nil h
theorem Jn (l:List De)(d:De):(zX l d).length<=l.length+1:=by
 unfold zX
 split
 ·split
  ·rw [List.length_dropLast];omega
  ·rw [List.length_append];exact Nat.le_refl _
 ·rw [List.length_append];exact Nat.le_refl _
theorem xN (ds:List De):(tid ds).length<=ds.length:=by
 have go:∀ (ds l:List De),(ds.foldl zX l).length<=l.length+ds.length:=by
  intro ds
  induction ds with
  | nil=>intro l;exact Nat.le_refl _
  | cons d r ih=>intro l;have:=ih (zX l d);have:=Jn l d;rw [List.foldl_cons,List.length_cons];omega
 have:=go ds []
 unfold tid
 rw [List.length_nil] at this
 omega
open Classical in
noncomputable def qf (l:List De)(d:De):List De:=match l.getLast? with
 | some e=>if d=e.back then l.dropLast else l ++ [d]
 | none=>l ++ [d]
theorem X5 (l:List De)(d:De):(zX l d).map De.nf=qf (l.map De.nf) d.nf:=by
 unfold zX qf
 rw [List.getLast?_map]
 cases e:l.getLast? with
 | none=>rw [List.map_append];rfl
 | some x=>
  dsimp only [Option.map]
  by_cases c:xb d x=true
  ·rw [if_pos c,if_pos ((kP d x).mp c),List.map_dropLast]
  ·rw [if_neg c,if_neg (fun z=>c ((kP d x).mpr z)),List.map_append];rfl
theorem vI:∀ (ds l:List De),(ds.foldl zX l).map De.nf=(ds.map De.nf).foldl qf (l.map De.nf)
 | [],_=>rfl
 | d :: r,l=>by rw [List.foldl_cons,vI r,X5];rfl
noncomputable def Red (l:List De):Prop:=∀ (i:Nat) e d,l[i]?=some e->l[i+1]?=some d->d ≠ e.back
theorem Red.drop {l:List De}(h:Red l):Red l.dropLast:=fun i e d h1 h2=>by
 rw [List.getElem?_dropLast] at h1 h2
 split at h1
 ·split at h2
  ·exact h i e d h1 h2
  ·cases h2
 ·cases h1
theorem kB {l:List De}{x:De}(e:l.getLast?=some x):l=l.dropLast ++ [x]:=by
 have hne:l ≠ []:=fun z=>by rw [z] at e;cases e
 have:=List.dropLast_concat_getLast hne
 rw [List.getLast?_eq_some_getLast hne] at e
 cases e
 exact this.symm
theorem Red.step {l:List De}(h:Red l)(d:De):Red (qf l d):=by
  unfold qf
  have app:(∀ x,l.getLast?=some x->d ≠ x.back)->Red (l ++ [d]):=fun hx i e g h1 h2=>by
    by_cases c:i+1<l.length
    · rw [List.getElem?_append_left (by omega)] at h1
      rw [List.getElem?_append_left c] at h2
      exact h i e g h1 h2
    · have hi : i + 1 = l.length := by
        have:=(List.getElem?_eq_some_iff.mp h2).1
        rw [List.length_append] at this
        have this:i+1<l.length+1:=this
        omega
      rw [List.getElem?_append_left (by omega)] at h1
      rw [List.getElem?_append_right (by omega),show i+1 - l.length=0 by omega] at h2
      cases h2
      refine hx e ?_
      rw [List.getLast?_eq_getElem?,show l.length - 1=i by omega]
      exact h1
  cases e:l.getLast? with
  | none=>exact app fun x hx=>by rw [e] at hx;cases hx
  | some x=>
    dsimp only
    by_cases c:d=x.back
    · rw [if_pos c];exact h.drop
    · rw [if_neg c];exact app fun y hy=>by rw [e] at hy;cases hy;exact c
theorem Jp {l:List De}(h:Red l)(d:De):qf (qf l d) d.back=l:=by
 have app:qf (l ++ [d]) d.back=l:=by
  unfold qf
  rw [List.getLast?_concat]
  dsimp only
  rw [if_pos rfl,List.dropLast_concat]
 cases e:l.getLast? with
 | none=>rw [show qf l d=l ++ [d] by unfold qf;rw [e]];exact app
 | some x=>
  by_cases c:d=x.back
  ·rw [show qf l d=l.dropLast by unfold qf;rw [e];exact if_pos c]
   have hl:=kB e
   have hx:d.back=x:=by rw [c,De.back_back]
   rw [hx]
   have hne:∀ y,l.dropLast.getLast?=some y->x ≠ y.back:=fun y hy=>by
    rw [List.getLast?_eq_getElem?] at hy
    have hp:=(List.getElem?_eq_some_iff.mp hy).1
    have e2:l[l.dropLast.length - 1]?=some y:=by
     rw [List.getElem?_dropLast] at hy
     split at hy
     ·exact hy
     ·cases hy
    refine h (l.dropLast.length - 1) y x e2 ?_
    rw [show l.dropLast.length - 1+1=l.length - 1 by rw [List.length_dropLast] at *;omega,<- List.getLast?_eq_getElem?]
    exact e
   have:qf l.dropLast x=l.dropLast ++ [x]:=by
    unfold qf
    cases e3:l.dropLast.getLast? with
    | none=>rfl
    | some y=>dsimp only;exact if_neg (hne y e3)
   rw [this]
   exact hl.symm
  ·rw [show qf l d=l ++ [d] by unfold qf;rw [e];exact if_neg c];exact app
theorem v6:∀ (ds l:List De),Red l->Red (ds.foldl qf l)
 | [],_,h=>h
 | d :: r,l,h=>v6 r _ (h.step d)
theorem yH:∀ (ds l:List De),Red l->(ds.reverse.map De.back).foldl qf (ds.foldl qf l)=l
 | [],_,_=>rfl
 | d :: r,l,h=>by
  rw [List.reverse_cons,List.map_append,List.foldl_append,List.foldl_cons,yH r _ (h.step d)]
  exact Jp h d
theorem XZ (ds:List De):tid (ds ++ ds.reverse.map De.back)=[]:=by
 have e:(tid (ds ++ ds.reverse.map De.back)).map De.nf=[]:=by
  unfold tid
  rw [vI,List.map_append,List.foldl_append,List.map_map,show (De.nf ∘ De.back)=(De.back ∘ De.nf) from funext QV,<- List.map_map,List.map_reverse]
  exact yH (ds.map De.nf) [] fun i e d h=>by cases h
 exact List.map_eq_nil_iff.mp e
noncomputable def xR:ASp:=fun xs M Q=>∃ d:De,xs=[.d (deD d)]/\Q (.d (deD d.back)) M
noncomputable abbrev vK:Stmt:=top 1
theorem vZ:zO ["deed","word"] ["deed"] (zn vK):=⟨rfl,rfl,rfl,by decide +kernel,rfl,by decide +kernel,by decide +kernel⟩
theorem KS (a:At K mg "back_deed" vK)(B:Blt mg):Df P w K mg base "back_deed" ["deed"] 1 (cSp xR):=by
 refine dfA (k:=0) a vZ (fun _ _ _ _ _ _=>Pn1_ fun _=>rfl) (fun xs M Q h=>?_) (fun f cdv A outer s H E hr=>?_)
 ·obtain ⟨_,rfl,_⟩:=h;rfl
 have sc:=vZ
 have hsl:=hsl
 refine ⟨_,(zd (zS (i:=1) sc.nd rfl (by first | exact Or.inl rfl | exact Or.inr rfl) (zh zu (pv 0) zc (fun _ _=>rfl)))
  (zd (zU (zl (zV hr.units) (pv 1) zD (zj _)) (zg (zG (zM (za zD (za (zh zu (pv 0) zc (fun _ _=>rfl)) zb))))) zC)
  (zd (zU (zl (zV hr.units) (pv 1) zD (zj _)) (zg (zG (zM (za zD (za (zh zu (pv 0) zc (fun _ _=>rfl)) zb))))) zC)
  (zd (zU (zl (zV hr.units) (pv 1) zD (zj _)) (zg (zG (zM (za zD (za (zh zu (pv 0) zc (fun _ _=>rfl)) (za (zh zu (pv 0) zc (fun _ _=>rfl)) zb)))))) zC)
  (zg (zG (pv 0))))))),?_⟩
 refine ex2 (by walk_at "sim") ?_
 rintro xs M Q ⟨d,rfl,q⟩
 rw [show qz ["deed","word"] [.d (deD d)]=[some (.d (deD d)),none] from rfl]
 cases d with
 | swap a b=>
  unfold deD
  walk_at "ra"
  refine ⟨_,rfl,_,rfl,by rw [zy];omega,?_⟩
  rw [if_neg (by decide +kernel)]
  refine ⟨_,rfl,by rw [zy];omega,?_⟩
  rw [if_neg (by decide +kernel)]
  refine ⟨_,rfl,by rw [zy];omega,?_⟩
  rw [if_neg (by decide +kernel)]
  exact ⟨_,_,yI Fr.refl _,q⟩
 | take p=>
  unfold deD
  walk_at "ra"
  refine ⟨_,rfl,_,rfl,by rw [zy];omega,?_⟩
  rw [if_pos (by decide +kernel)]
  exact ⟨_,rfl,by omega,_,rfl,_,_,yI Fr.refl _,q⟩
 | move p g=>
  unfold deD
  walk_at "ra"
  refine ⟨_,rfl,_,rfl,by rw [zy];omega,?_⟩
  rw [if_neg (by decide +kernel)]
  refine ⟨_,rfl,by rw [zy];omega,?_⟩
  rw [if_neg (by decide +kernel)]
  refine ⟨_,rfl,by rw [zy];omega,?_⟩
  rw [if_pos (by decide +kernel)]
  exact ⟨_,rfl,_,rfl,by omega,_,rfl,_,_,yI Fr.refl _,q⟩
 | lay g=>
  unfold deD
  walk_at "ra"
  refine ⟨_,rfl,_,rfl,by rw [zy];omega,?_⟩
  rw [if_neg (by decide +kernel)]
  refine ⟨_,rfl,by rw [zy];omega,?_⟩
  rw [if_pos (by decide +kernel)]
  exact ⟨_,rfl,by omega,_,rfl,_,_,yI Fr.refl _,q⟩
noncomputable def Q9:ASp:=fun xs M Q=>∃ (x:AV) (ds:List De),xs=[x]/\zQ x M=some ((ds.map deD).map .d)/\ds.length<=10000/\Q (.d (.lst ((ds.reverse.map De.back).map deD))) M
noncomputable abbrev yo:Stmt:=top 2
theorem vh:zO ["plan","deed"] ["plan"] (zn yo):=⟨rfl,rfl,rfl,by decide +kernel,rfl,by decide +kernel,by decide +kernel⟩
theorem JX (a:At K mg "undone" yo)(B:Blt mg)(D_back_deed:Df P w K mg base "back_deed" ["deed"] 1 (cSp xR)):Df P w K mg base "undone" ["plan"] 2 (cSp Q9):=by
  refine dfA (k:=1) a vh (fun _ _ _ _ _ _=>Pn1_ fun _=>rfl) (fun xs M Q h=>?_) (fun f cdv A outer s H E hr=>?_)
  · obtain ⟨_,_,rfl,_⟩:=h;rfl
  have sc:=vh
  have hsl:=hsl
  refine ⟨_,(zg (zG (Q8 (ts:=[1]) rfl rfl (yd (xm (pv 0) (qd (yN kY zc)))) (fun _ _ _ _=>(zA (i:=1) sc.nd rfl (by first | exact Or.inl rfl | exact Or.inr rfl))) (fun _ _ _ _=>Q7) (fun _ _ _ _=>(zK D_back_deed hr rfl (za (pv 1) zb)))))),?_⟩
  refine ex2 (by walk_at "sim") ?_
  rintro xs M Q ⟨x,ds,rfl,hx,hl,q⟩
  rw [show qz ["plan","deed"] [x]=[some x,none] from rfl]
  walk_at "ra"
  have key:wk (jb 1) yf (ku (y8 xR (zR (zE 1) jq))) (fun M'=>True) (fun acc x M'=>∃ ds,pur acc=some ds/\rtA M Q (AV.d (Dat.lst ds)) M') (List.map AV.d (ds.map deD).reverse) [] [some x,none] M:=by
    rw [<- List.map_reverse,List.map_map]
    refine Vy (fun o=>[some x,o]) _ (fun d=>.d (deD d.back)) ds.reverse ⟨_,rfl⟩ trivial (by rw [List.length_reverse];omega) (fun o d Q hd q=>?_) fun o=>?_
    · show jb 1 (AV.d (deD d)) _ _ _
      walk_at "ra"
      exact ⟨d,rfl,q _⟩
    · rw [X2 (fun d:De=>deD d.back)]
      refine ⟨_,rfl,xw Fr.refl ?_⟩
      rw [List.map_map] at q
      exact q
  rcases qX hx with h | ⟨l,rfl,h⟩
  · exact .inl ⟨_,h,_,zF _,key⟩
  · have e : l = ds.map deD := by
      have:=congrArg pur h
      rw [zF,zF] at this
      exact (Option.some.inj this).symm
    exact .inr ⟨_,rfl,by rw [e] at key ⊢;exact key⟩
noncomputable def QP:ASp:=fun xs M Q=>∃ (x y:De),xs=[.d (deD x),.d (deD y)]/\Q (.d (.bl (xb x y))) M
theorem Qx {x y z:Dat}:¬(HT.sIx [x,y,z].length 0 (some 1)=0/\HT.sIx [x,y,z].length [x,y,z].length none=[x,y,z].length):=by
 show ¬(HT.sIx 3 0 (some 1)=0/\HT.sIx 3 3 none=3)
 decide
theorem WP {a b:Nat}{ns:List Int}(p:ns.Perm [(a:Int),(b:Int)])(h:ns.Pairwise (·<=·)):ns=swK a b:=by
 have l:=p.length_eq
 match ns,l with
 | [x,y],_=>
  have h1:x<=y:=by simpa using h
  unfold swK
  have hx:x=(a:Int) \/ x=(b:Int):=by
   have:x ∈ [(a:Int),(b:Int)]:=p.subset (by simp)
   simpa using this
  have key:(x=(a:Int)/\y=(b:Int)) \/ (x=(b:Int)/\y=(a:Int)):=by
   rcases hx with rfl | rfl
   ·exact .inl ⟨rfl,by have:=List.Perm.cons_inv p;simpa using this⟩
   ·exact .inr ⟨rfl,by have:=List.Perm.cons_inv (p.trans (List.Perm.swap _ _ _));simpa using this⟩
  split <;> simp only [List.cons.injEq,and_true] <;> omega
noncomputable abbrev ym:Stmt:=top 3
theorem yJ:zO ["deed","last"] ["deed","last"] (zn ym):=⟨rfl,rfl,rfl,by decide +kernel,rfl,by decide +kernel,by decide +kernel⟩
theorem JN (a:At K mg "undoes" ym)(B:Blt mg)(D_back_deed:Df P w K mg base "back_deed" ["deed"] 1 (cSp xR)):Df P w K mg base "undoes" ["deed","last"] 2 (cSp QP):=by
 refine dfA (k:=1) a yJ (fun _ _ _ _ _ _=>Pn2_ fun _ _=>rfl) (fun xs M Q h=>?_) (fun f cdv A outer s H E hr=>?_)
 ·obtain ⟨_,_,rfl,_⟩:=h;rfl
 have sc:=yJ
 have hsl:=hsl
 refine ⟨_,(zd (zU (PW.pt (kZ (zl (zV hr.units) (zh zu (pv 0) zc (fun _ _=>rfl)) zD (zj _)) (kc (zl (zV hr.units) (zh zu (pv 1) zc (fun _ _=>rfl)) zD (zj _))))) (zg (zG (qi (zV hr.units) (zo kJ rfl B.sorted yF (za (qg jp (pv 0) (qd zc) qt) zb)) (zo kJ rfl B.sorted yF (za (qg jp (pv 1) (qd zc) qt) zb)) (zj _)))) zC)
  (zg (zG (qi (zV hr.units) (pv 0) (zK D_back_deed hr rfl (za (pv 1) zb)) (zj _))))),?_⟩
 refine ex2 (by walk_at "sim") ?_
 rintro xs M Q ⟨x,y,rfl,q⟩
 rw [show qz ["deed","last"] [.d (deD x),.d (deD y)]=[some (.d (deD x)),some (.d (deD y))] from rfl]
 walk_at "ra"
 have dd:∀ d:De,dp (deD d)<=40:=fun d=>by cases d <;> simp [deD,dp,dps]
 have nb:∀ (h:xb x y=eqD (deD x) (deD y.back)),xR [AV.d (deD y)] M fun y M2=>∃ x_2,jM y M2=some x_2/\dp (deD x)<=40/\dp x_2<=40/\rtA M Q (AV.d (Dat.bl (eqD (deD x) x_2))) M2:=fun h=>
  ⟨y,rfl,_,rfl,dd x,dd _,xw Fr.refl (by rw [<- h];exact q)⟩
 cases x with
 | swap a b=>
  refine ⟨_,rfl,_,rfl,_,rfl,by rw [zy];omega,?_⟩
  rw [if_pos (by decide +kernel)]
  cases y with
  | swap c d=>
   refine ⟨_,rfl,_,rfl,_,rfl,by rw [zy];omega,?_⟩
   rw [if_pos (by decide +kernel)]
   refine ⟨_,rfl,Qx,[(a:Int),(b:Int)],rfl,Nat.lt_of_lt_of_le (by decide:2<3) (by decide),fun n1 p1 s1=>⟨_,rfl,Qx,[(c:Int),(d:Int)],rfl,Nat.lt_of_lt_of_le (by decide:2<3) (by decide),fun n2 p2 s2=>?_⟩⟩
   rw [WP p1 s1,WP p2 s2]
   refine ⟨Nat.le_trans (QT _) (by decide),Nat.le_trans (QT _) (by decide),xw Fr.refl ?_⟩
   rw [XS]
   exact q
  | take p=>exact ⟨_,rfl,_,rfl,_,rfl,by rw [zy];omega,by rw [if_neg (by decide +kernel)];exact nb rfl⟩
  | move p g=>exact ⟨_,rfl,_,rfl,_,rfl,by rw [zy];omega,by rw [if_neg (by decide +kernel)];exact nb rfl⟩
  | lay g=>exact ⟨_,rfl,_,rfl,_,rfl,by rw [zy];omega,by rw [if_neg (by decide +kernel)];exact nb rfl⟩
 | take p=>exact ⟨_,rfl,_,rfl,_,rfl,by rw [zy];omega,by rw [if_neg (by decide +kernel)];exact nb (by cases y <;> rfl)⟩
 | move p g=>exact ⟨_,rfl,_,rfl,_,rfl,by rw [zy];omega,by rw [if_neg (by decide +kernel)];exact nb (by cases y <;> rfl)⟩
 | lay g=>exact ⟨_,rfl,_,rfl,_,rfl,by rw [zy];omega,by rw [if_neg (by decide +kernel)];exact nb (by cases y <;> rfl)⟩
theorem yx {α:Type}{l:List α}(h:0<l.length):atI l (-1)=l.getLast?:=by
 unfold atI ixN
 rw [if_neg (by decide),if_pos (by omega),List.getLast?_eq_getElem?]
 show l[(-1+(l.length:Int)).toNat]?=_
 congr 1;omega
theorem yu {p:Addr}{M:MH}{l:List AV}(h:zQ (.ref p) M=some l):qe (.ref p) M=some l:=(qX h).elim id fun ⟨_,z,_⟩=>nomatch z
noncomputable def vV:ASp:=fun xs M Q=>∃ (x:AV) (ds:List De),xs=[x]/\zQ x M=some ((ds.map deD).map .d)/\ds.length<=10000/\∀ p,M p=none->Q (.ref p) (mup M p (.lst (((tid ds).map deD).map .d)))
noncomputable abbrev yc:Stmt:=top 4
theorem yY:zO ["plan","left","deed"] ["plan"] (zn yc):=⟨rfl,rfl,rfl,by decide +kernel,rfl,by decide +kernel,by decide +kernel⟩
theorem JB (a:At K mg "tidied" yc)(B:Blt mg)(D_undoes:Df P w K mg base "undoes" ["deed","last"] 2 (cSp QP)):Df P w K mg base "tidied" ["plan"] 3 (cSp vV):=by
 refine dfA (k:=2) a yY (fun _ _ _ _ _ _=>Pn1_ fun _=>rfl) (fun xs M Q h=>?_) (fun f cdv A outer s H E hr=>?_)
 ·obtain ⟨_,_,rfl,_⟩:=h;rfl
 have sc:=yY
 have hsl:=hsl
 refine ⟨_,(zd (zS (i:=1) sc.nd rfl (by first | exact Or.inl rfl | exact Or.inr rfl) (jH (zW zb)))
  (zd (jv PassesOwn.never rfl (yd (pv 0)) (zA (i:=2) sc.nd rfl (by first | exact Or.inl rfl | exact Or.inr rfl)) (zg (zU (PW.pt (kZ (zl X3 (zo zB rfl B.len qO (za (pv 1) zb)) zc (zj _)) (kc (kF (zK D_undoes hr rfl (za (pv 2) (za (zh zu (pv 1) (yN kY zc) (fun _ _=>rfl)) zb))) (fun _=>rfl))))) (zg (qL (Yz PySem.F.plainAttrs_list PySem.F.slot_list_pop PySem.F.type_list_pop KH (pv 1)))) (zg (qL (kq PySem.F.plainAttrs_list PySem.F.slot_list_append PySem.F.type_list_append qj (pv 1) (za (pv 2) zb)))))))
  (zg (zG (pv 1))))),?_⟩
 refine ex2 (by walk_at "sim") ?_
 rintro xs M Q ⟨x,ds,rfl,hx,hl,q⟩
 rw [show qz ["plan","left","deed"] [x]=[some x,none,none] from rfl]
 walk_at "ra"
 intro p hp _
 have lenT:∀ i,(tid (ds.take i)).length<=i:=fun i=>Nat.le_trans (xN _) (by rw [List.length_take];omega)
 refine ⟨_,yw hx hp _,⟨fun i ρ M'=>(∃ u,ρ=[some x,some (.ref p),u])/\i<=ds.length/\M'=mup M p (.lst (((tid (ds.take i)).map deD).map .d)),⟨⟨_,rfl⟩,Nat.zero_le _,rfl⟩,?_,?_⟩⟩
 ·rintro i y ρ M' hy ⟨⟨u,rfl⟩,hi,rfl⟩
  rw [List.getElem?_map,List.getElem?_map] at hy
  cases e:ds[i]? with
  | none=>rw [e] at hy;cases hy
  | some d=>
   rw [e] at hy
   cases hy
   have hil:=(List.getElem?_eq_some_iff.mp e).1
   have tk:tid (ds.take (i+1))=zX (tid (ds.take i)) d:=by
    rw [List.take_add_one,e];unfold tid;rw [List.foldl_append];rfl
   have lt:=lenT i
   refine ⟨yw hx hp _,?_⟩
   have hs:zQ (.ref p) (mup M p (.lst (((tid (ds.take i)).map deD).map .d)))=some (((tid (ds.take i)).map deD).map .d):=qc ze
   walk_at "ra"
   refine ⟨_,hs,?_⟩
   generalize htt:tid (ds.take i)=t at *
   cases e2:t.getLast? with
   | none=>
    have t0:t=[]:=List.getLast?_eq_none_iff.mp e2
    have ts:zX t d=t ++ [d]:=by unfold zX;rw [e2]
    rw [tk,ts]
    subst t0
    rw [if_neg (by simp)]
    exact ⟨⟨_,yu hs⟩,_,ze,by simp only [List.map_nil,List.length_nil];omega,⟨_,rfl⟩,by omega,rfl⟩
   | some z=>
    have hl:=kB e2
    have tp:0<t.length:=by rw [hl,List.length_append];exact Nat.succ_pos _
    rw [if_pos (by rw [List.length_map,List.length_map];omega)]
    refine ⟨_,hs,.d (deD z),?_,d,z,rfl,_,rfl,?_⟩
    ·rw [yx (by rw [List.length_map,List.length_map];exact tp),List.getLast?_map,List.getLast?_map,e2];rfl
    ·by_cases c:xb d z=true
     ·rw [if_pos c]
      have ts:zX t d=t.dropLast:=by unfold zX;rw [e2];exact if_pos c
      refine ⟨⟨_,yu hs⟩,_,ze,?_,⟨_,rfl⟩,by omega,by rw [xL,tk,ts,List.map_dropLast,List.map_dropLast]⟩
      rw [<- List.getLast?_eq_getElem?,List.getLast?_map,List.getLast?_map,e2]
      exact ⟨_,rfl⟩
     ·rw [if_neg c]
      have ts:zX t d=t ++ [d]:=by unfold zX;rw [e2];exact if_neg c
      exact ⟨⟨_,yu hs⟩,_,ze,by rw [List.length_map,List.length_map];omega,⟨_,rfl⟩,by omega,by rw [xL,tk,ts,List.map_append,List.map_append];rfl⟩
 ·rintro ρ M' ⟨⟨u,rfl⟩,_,rfl⟩
  rw [List.length_map,List.length_map,List.take_length]
  refine ⟨yw hx hp _,?_⟩
  walk_at "ra"
  exact ⟨_,_,Vw (Fr.refl.mup hp _) hp ze (zF _),q p hp⟩
noncomputable def wV:ASp:=fun xs M Q=>∃ (x:AV) (ds:List De),xs=[x]/\zQ x M=some ((ds.map deD).map .d)/\ds.length<=10000/\Q (.d (.lst ((tid ds).map deD))) M
theorem Y1 (vs:List V)(H:Hp)(Q:VK)(E:XK):cSp wV vs H Q E->cSp vV vs H Q E:=Vg (fun xs M Q ⟨y,ks,e,h1,h2,q⟩=>⟨y,ks,e,h1,h2,fun p hp=>⟨_,_,Wi (Fr.refl.mup hp _) hp ze (zF _),q⟩⟩) vs H Q E
noncomputable def cD:Option Int->Dat
 | none=>.non
 | some x=>.int x
noncomputable abbrev Km (n:Nat):ES:=((qA 0 1 n).map some,none)
theorem Ve {M:MH}{p:Addr}{o:MO}(h:M p=some o):mup M p o=M:=by
 funext q
 unfold mup
 split
 ·rename_i z;rw [z,h]
 ·rfl
theorem ifT {c:AT}{t e:AS}{B:MH}{D:qB}{ρ:ASt}{M:MH}(h:Tst c ρ M true)(k:t B D ρ M):jX c t e B D ρ M:=h _ (by rw [if_pos rfl];exact k)
theorem ifF {c:AT}{t e:AS}{B:MH}{D:qB}{ρ:ASt}{M:MH}(h:Tst c ρ M false)(k:e B D ρ M):jX c t e B D ρ M:=h _ (by rw [if_neg (fun z=>nomatch z)];exact k)
theorem kQ {R:List (Option Int)}{p:Nat}{c:Option Int}(h:R[p]?=some c):ixN ((R.map cD).map AV.d).length (p:Int)=some p/\atI ((R.map cD).map AV.d) (p:Int)=some (.d (cD c)):=by
 have hp:=(List.getElem?_eq_some_iff.mp h).1
 have e:ixN ((R.map cD).map AV.d).length (p:Int)=some p:=by rw [qS (by omega) (by rw [List.length_map,List.length_map];omega),Int.toNat_natCast]
 refine ⟨e,?_⟩
 unfold atI
 rw [e]
 show ((R.map cD).map AV.d)[p]?=_
 rw [List.getElem?_map,List.getElem?_map,h];rfl
theorem ya {w:Str}{p:Int}{l:List Dat}:atI (((Dat.str w :: .int p :: l)).map AV.d) 1=some (.d (.int p)):=by
 unfold atI
 rw [qS (by omega) (by simp only [List.length_map,List.length_cons];omega)]
 rfl
theorem WI {w:Str}{p g:Int}{l:List Dat}:atI (((Dat.str w :: .int p :: .int g :: l)).map AV.d) 2=some (.d (.int g)):=by
 unfold atI
 rw [qS (by omega) (by simp only [List.length_map,List.length_cons];omega)]
 rfl
theorem vt (R:List (Option Int))(p:Nat)(c:Option Int):((R.map cD).map AV.d).set p (.d (cD c))=((R.set p c).map cD).map AV.d:=by rw [List.map_set,List.map_set]
theorem YO (c:Option Int):jD (.d (cD c))=c.isNone:=by cases c <;> rfl
theorem yj {B M':MH}{D:qB}{pm:Addr}{mv:List Int}{x0:Int}{i:Nat}{ρ:ASt}(h2:M' pm=some (.lst (mv.map fun i=>.d (.int i))))(h5:ρ[5]?=some (some (.ref pm)))(hi:ρ[i]?=some (some (.d (.int x0))))(b0:0<=x0)(b1:x0<mv.length)
  (k:∀ mv':List Int,mv'.length=mv.length->D.nx ρ (mup M' pm (.lst (mv'.map fun i=>.d (.int i))))) :
  J0 (aOp (aI0 fun i j=>Dat.int (i+j)) (aOp (aIx zQ) (zE 5) (zE i)) (aC (Dat.int 1))) (ko (zE 5) (zE i) asL) B D ρ M':=by
 have e1:=Kq (ns:=mv) (i:=x0) b0 (by omega)
 walk_at "ra"
 refine ⟨_,h5,_,hi,_,qc h2,x0,rfl,_,e1,_,rfl,_,h5,_,hi,?_⟩
 refine ⟨pm,rfl,_,x0,rfl,h2,x0.toNat,by rw [List.length_map,qS b0 (by omega)],?_⟩
 have:=k (mv.set x0.toNat (mv.getD x0.toNat 0+1)) (by rw [List.length_set])
 rw [List.map_set] at this
 exact this
theorem JR {B M':MH}{D:qB}{pr pm:Addr}{R:List (Option Int)}{mv:List Int}{x0:Int}{p:Nat}{a0 a1 v w x:Option AV}(ne:pm ≠ pr)(h1:M' pr=some (.lst ((R.map cD).map .d)))(h2:M' pm=some (.lst (mv.map fun i=>.d (.int i))))(g1:R[p]?=some (some x0))(b0:0<=x0)(b1:x0<mv.length)
  (k:∀ mv':List Int,mv'.length=mv.length->D.nx [a0,a1,some (.d (deD (.take p))),some (.ref pr),some (.d (cD (some x0))),some (.ref pm),v,w,x] (mup (mup M' pr (.lst (((R.set p none).map cD).map .d))) pm (.lst (mv'.map fun i=>.d (.int i))))) :
  (ja
   (jX
    (aOr (aB (aOp (xt not) (zE 4) (aC Dat.non)))
     (aB (aOp (xt id) (aOp (aIx zQ) (zE 3) (aOp (aIx zQ) (zE 2) (aC (Dat.int 1)))) (aC Dat.non))))
    (Zn (aC Dat.non)) jh)
   (ja
    (kj (zR (aC Dat.non) (zR (aOp (aIx zQ) (zE 3) (aOp (aIx zQ) (zE 2) (aC (Dat.int 1)))) jq)) 2
     (qZ (ko (zE 3) (aOp (aIx zQ) (zE 2) (aC (Dat.int 1))) asL) (qZ (jb 4) yz)))
    (J0 (aOp (aI0 fun i j=>Dat.int (i+j)) (aOp (aIx zQ) (zE 5) (zE 4)) (aC (Dat.int 1)))
     (ko (zE 5) (zE 4) asL)))) B D [a0,a1,some (.d (deD (.take p))),some (.ref pr),some (.d (cD none)),some (.ref pm),v,w,x] M':=by
 have hsl:=hsl
 refine qv (jU (zT (tNN rfl) rfl) fun Q q=>?_) ?_
 ·unfold deD
  walk_at "ra"
  exact ⟨_,ya (l:=[]),_,qc h1,_,rfl,_,(kQ g1).2,q⟩
 ·refine zm fun r hr0=>?_
  show kj _ _ _ _ _ _ _
  unfold kj deD
  walk_at "ra"
  refine ⟨_,ya (l:=[]),_,qc h1,_,rfl,_,(kQ g1).2,by omega,_,ya (l:=[]),_,_,rfl,h1,_,(kQ g1).1,?_⟩
  rw [show AV.d .non=AV.d (cD none) from rfl,vt]
  subst hr0
  exact yj (i:=4) ((zq ne).trans h2) rfl rfl b0 b1 k
theorem Xp {B M':MH}{D:qB}{pr pm:Addr}{R:List (Option Int)}{mv:List Int}{x0:Int}{p:Nat}{a0 a1 v w x:Option AV}(ne:pm ≠ pr)(h1:M' pr=some (.lst ((R.map cD).map .d)))(h2:M' pm=some (.lst (mv.map fun i=>.d (.int i))))(g1:R[p]?=some none)(b0:0<=x0)(b1:x0<mv.length)
  (k:∀ mv':List Int,mv'.length=mv.length->D.nx [a0,a1,some (.d (deD (.lay p))),some (.ref pr),some (.d (cD none)),some (.ref pm),v,w,x] (mup (mup M' pm (.lst (mv'.map fun i=>.d (.int i)))) pr (.lst (((R.set p (some x0)).map cD).map .d)))) :
  (ja
    (jX
     (aOr (aB (aOp (xt id) (zE 4) (aC Dat.non)))
      (aB (aOp (xt not) (aOp (aIx zQ) (zE 3) (aOp (aIx zQ) (zE 2) (aC (Dat.int 1)))) (aC Dat.non))))
     (Zn (aC Dat.non)) jh)
    (ja
     (J0 (aOp (aI0 fun i j=>Dat.int (i+j)) (aOp (aIx zQ) (zE 5) (zE 4)) (aC (Dat.int 1)))
      (ko (zE 5) (zE 4) asL))
     (kj (zR (zE 4) (zR (aC Dat.non) jq)) 2
      (qZ (ko (zE 3) (aOp (aIx zQ) (zE 2) (aC (Dat.int 1))) asL) (qZ (jb 4) yz))))) B D [a0,a1,some (.d (deD (.lay p))),some (.ref pr),some (.d (cD (some x0))),some (.ref pm),v,w,x] M':=by
 have hsl:=hsl
 refine qv (jU (zT (tIN rfl) rfl) fun Q q=>?_) ?_
 ·unfold deD
  walk_at "ra"
  exact ⟨_,ya (l:=[]),_,qc h1,_,rfl,_,(kQ g1).2,q⟩
 ·show ja _ _ _ _ _ _
  refine yj (i:=4) h2 rfl rfl b0 b1 fun mv' hm=>?_
  have h3:mup M' pm (.lst (mv'.map fun i=>.d (.int i))) pr=some (.lst ((R.map cD).map .d)):=(zq (Ne.symm ne)).trans h1
  dsimp only
  unfold kj deD
  walk_at "ra"
  refine ⟨by omega,_,ya (l:=[]),_,_,rfl,h3,_,(kQ g1).1,?_⟩
  rw [vt]
  exact k mv' hm
theorem yV {B M':MH}{D:qB}{pr pm:Addr}{R:List (Option Int)}{mv:List Int}{x0:Int}{c:Option Int}{p g:Nat}{wd:Str}{b:Bool}{a0 a1 a4 v w x:Option AV}(ne:pm ≠ pr)(h1:M' pr=some (.lst ((R.map cD).map .d)))(h2:M' pm=some (.lst (mv.map fun i=>.d (.int i))))(g1:R[p]?=some (some x0))(g2:R[g]?=some c)(npg:p ≠ g)(b0:0<=x0)(b1:x0<mv.length)(bc:∀ z,c=some z->0<=z/\z<mv.length)(hb:decide (wd=Str.ofString "move")=b)(hc:c.isNone=b)
  (k:∀ (mv':List Int) (u:Dat),mv'.length=mv.length->D.nx [a0,a1,some (.d (.tup [.str wd,.int p,.int g])),some (.ref pr),a4,some (.ref pm),some (.d u),some (.d (.int x0)),some (.d (cD c))] (mup (mup M' pr (.lst ((((R.set p c).set g (some x0)).map cD).map .d))) pm (.lst (mv'.map fun i=>.d (.int i))))) :
  (ja
    (AY 7 8
     (zR (aOp (aIx zQ) (zE 3) (aOp (aIx zQ) (zE 2) (aC (Dat.int 1))))
      (zR (aOp (aIx zQ) (zE 3) (aOp (aIx zQ) (zE 2) (aC (Dat.int 2)))) jq)))
    (ja
     (jX
      (aOr (aB (aOp (xt id) (zE 7) (aC Dat.non)))
       (aB
        (aOp (xP not) (aOp (xt id) (zE 8) (aC Dat.non))
         (aOp (xP id) (aOp (aIx zQ) (zE 2) (aC (Dat.int 0))) (aC (Dat.str (Str.ofString "move")))))))
      (Zn (aC Dat.non)) jh)
     (ja
      (kj (zR (zE 8) (zR (zE 7) jq)) 2
       (qZ (ko (zE 3) (aOp (aIx zQ) (zE 2) (aC (Dat.int 1))) asL)
        (qZ (ko (zE 3) (aOp (aIx zQ) (zE 2) (aC (Dat.int 2))) asL) yz)))
      (A9 (aiS (Xu (zR (zE 7) (zR (zE 8) jq)))) (jb 6)
       (jX (aB (aOp (xt not) (zE 6) (aC Dat.non)))
        (J0 (aOp (aI0 fun i j=>Dat.int (i+j)) (aOp (aIx zQ) (zE 5) (zE 6)) (aC (Dat.int 1)))
         (ko (zE 5) (zE 6) asL))
        jh))))) B D [a0,a1,some (.d (.tup [.str wd,.int p,.int g])),some (.ref pr),a4,some (.ref pm),v,w,x] M':=by
 have hsl:=hsl
 refine zm fun r hr0=>?_
 walk_at "ra"
 refine ⟨_,ya (l:=[.int g]),_,qc h1,_,rfl,_,(kQ g1).2,_,WI (l:=[]),_,qc h1,_,rfl,_,(kQ g2).2,?_⟩
 subst hr0
 refine qv (jU (zT (tIN rfl) rfl) fun Q q=>?_) ?_
 ·walk_at "ra"
  refine ⟨_,rfl,_,rfl,by rw [zy];omega,?_⟩
  rw [YO,kH,hc,hb,decide_eq_true rfl]
  exact q
 refine zm fun r hr0=>?_
 show kj _ _ _ _ _ _ _
 unfold kj
 walk_at "ra"
 have g3:(R.set p c)[g]?=some c:=by rw [List.getElem?_set,if_neg npg];exact g2
 refine ⟨by omega,_,ya (l:=[.int g]),_,_,rfl,h1,_,(kQ g1).1,_,WI (l:=[]),?_⟩
 rw [vt]
 refine ⟨_,_,rfl,ze,_,(kQ g3).1,?_⟩
 rw [vt]
 have h3:mup M' pr (.lst ((((R.set p c).set g (some x0)).map cD).map .d)) pm=some (.lst (mv.map fun i=>.d (.int i))):=(zq ne).trans h2
 generalize hM:mup M' pr (.lst ((((R.set p c).set g (some x0)).map cD).map .d))=M2 at *
 subst hr0
 walk_at "ra"
 refine ⟨by omega,fun i ρ M'=>∃ (mv':List Int) (o:Option AV),mv'.length=mv.length/\ρ=[a0,a1,some (.d (.tup [.str wd,.int p,.int g])),some (.ref pr),a4,some (.ref pm),o,some (.d (cD (some x0))),some (.d (cD c))]/\M'=mup M2 pm (.lst (mv'.map fun i=>.d (.int i)))/\(1<=i->∃ u,o=some (.d u)),⟨mv,_,rfl,rfl,(Ve h3).symm,fun z=>by omega⟩,?_,?_⟩
 ·rintro i y ρ M3 hy ⟨mv',o,lm,rfl,rfl,-⟩
  have hy:∃ e:Option Int,y=.d (cD e)/\∀ z,e=some z->0<=z/\z<mv.length:=by
   match i,hy with
   | 0,hy=>cases hy;exact ⟨some x0,rfl,fun z hz=>by cases hz;exact ⟨b0,b1⟩⟩
   | 1,hy=>cases hy;exact ⟨c,rfl,bc⟩
   | i+2,hy=>exact absurd hy (by simp)
  obtain ⟨e,rfl,be⟩:=hy
  refine ⟨trivial,?_⟩
  show jX _ _ _ _ _ _ _
  cases e with
  | none=>exact ifF (zT (tNN (i:=6) rfl) rfl) ⟨mv',_,lm,rfl,rfl,fun _=>⟨_,rfl⟩⟩
  | some z=>
   obtain ⟨z0,z1⟩:=be z rfl
   refine ifT (zT (tNN (i:=6) rfl) rfl) (yj (i:=6) (x0:=z) ze rfl rfl z0 (by omega) fun mv2 l2=>?_)
   rw [xL]
   exact ⟨mv2,_,by omega,rfl,rfl,fun _=>⟨_,rfl⟩⟩
 ·rintro ρ M3 ⟨mv',o,lm,rfl,rfl,ho⟩
  obtain ⟨u,rfl⟩:=ho (by simp)
  refine ⟨trivial,?_⟩
  exact k mv' u lm
noncomputable def OkE (n:Nat)(s:ES):Prop:=s.1.length=n/\∀ x:Int,(some x ∈ s.1 \/ s.2=some x)->0<=x/\x<(n:Int)
theorem OkE.do {n:Nat}{d:De}{s t:ES}(h:OkE n s)(e:DoE d s t):OkE n t:=by
 obtain ⟨h1,h3⟩:=h
 cases e with
 | swap ne hp hg=>
  refine ⟨by simpa using h1,fun x hx=>?_⟩
  rcases hx with z | z
  ·rcases List.mem_or_eq_of_mem_set z with z | z
   ·rcases List.mem_or_eq_of_mem_set z with z | z
    ·exact h3 x (.inl z)
    ·injection z with z
     subst z
     exact h3 _ (.inl (List.mem_of_getElem? hg))
   ·injection z with z
    subst z
    exact h3 _ (.inl (List.mem_of_getElem? hp))
  ·exact h3 x (.inr z)
 | take hp=>
  refine ⟨by simpa using h1,fun x hx=>?_⟩
  rcases hx with z | z
  ·rcases List.mem_or_eq_of_mem_set z with z | z
   ·exact h3 x (.inl z)
   ·cases z
  ·have z:some _=some x:=z
   injection z with z
   subst z
   exact h3 _ (.inl (List.mem_of_getElem? hp))
 | move hp hg=>
  refine ⟨by simpa using h1,fun x hx=>?_⟩
  rcases hx with z | z
  ·rcases List.mem_or_eq_of_mem_set z with z | z
   ·rcases List.mem_or_eq_of_mem_set z with z | z
    ·exact h3 x (.inl z)
    ·cases z
   ·injection z with z
    subst z
    exact h3 _ (.inl (List.mem_of_getElem? hp))
  ·exact h3 x (.inr z)
 | lay hg=>
  refine ⟨by simpa using h1,fun x hx=>?_⟩
  rcases hx with z | z
  ·rcases List.mem_or_eq_of_mem_set z with z | z
   ·exact h3 x (.inl z)
   ·injection z with z
    subst z
    exact h3 _ (.inr rfl)
  ·cases z
noncomputable def Pu (M0 M:MH):Prop:=∀ q o,M q=some o->M0 q=some o \/ ∀ r,¬ yk r o
theorem Pu.refl {M:MH}:Pu M M:=fun _ _ h=>.inl h
theorem Pu.mup {M0 M:MH}(h:Pu M0 M)(p:Addr)(l:List Dat):Pu M0 (mup M p (.lst (l.map .d))):=fun q o e=>by
 by_cases c:q=p
 ·rw [c,ze] at e
  cases e
  exact .inr fun r hr=>xD (zF l) r hr
 ·rw [zq c] at e;exact h q o e
theorem Pu.mdel {M0 M:MH}(h:Pu M0 M)(p:Addr):Pu M0 (mdel M p):=fun q o e=>by
 by_cases c:q=p
 ·rw [c,xh] at e;cases e
 ·rw [qE c] at e;exact h q o e
noncomputable def WL:ASp:=fun xs M Q=>∃ (n:Nat) (y:AV) (ds:List De) (T:List (Option Int)) (h:Option Int),xs=[.d (.int n),y]/\zQ y M=some ((ds.map deD).map .d)/\qC ds (Km n) (T,h)/\n<=1000/\∀ mv:List Int,Q (.d (.tup [.lst (T.map cD),cD h,.lst (mv.map .int)])) M
noncomputable abbrev Qa:Stmt:=top 14
theorem Q5:zO ["_law_n","_law_plan_here","_law_deed_here","_law_row","_law_hand","_law_moved","_law_thing","_law_one","_law_other"] ["_law_n","_law_plan_here"] (zn Qa):=⟨rfl,rfl,rfl,by decide +kernel,rfl,by decide +kernel,by decide +kernel⟩
theorem VD (a:At K mg "_law_gone" Qa)(B:Blt mg):Df P w K mg base "_law_gone" ["_law_n","_law_plan_here"] 1 (cSp WL):=by
 refine dfA (k:=0) a Q5 (fun _ _ _ _ _ _=>Pn2_ fun _ _=>rfl) (fun xs M Q h=>?_) (fun f cdv A outer s H E hr=>?_)
 ·obtain ⟨_,_,_,_,_,rfl,_⟩:=h;rfl
 have sc:=Q5
 have hsl:=hsl
 refine ⟨_,(zd (QY (i:=3) (j:=4) (k:=5) rfl sc.nd rfl rfl rfl (by decide) (by decide) (by decide) rfl rfl rfl (za (jH (zP (jt rfl) rfl B.list qV (za (zP jW rfl B.range yn (za (pv 0) zb)) zb))) (za zN (za (jH (zz ZX (zW (za zc zb)) (pv 0))) zb))) rfl)
  (zd (jv PassesOwn.never rfl (yd (pv 1)) (zA (i:=2) sc.nd rfl (by first | exact Or.inl rfl | exact Or.inr rfl)) (zg (zU (zl (zV hr.units) (zh zu (pv 2) zc (fun _ _=>rfl)) zD (zj _)) (zd (zU (PW.pt (xo (zl jo (pv 4) zN (zj _)) (kD (zl kG (zh zu (pv 3) (zh zu (pv 2) zc (fun _ _=>rfl)) (fun _ _=>rfl)) zN (zj _))))) (zg (zG zN)) zC)
  (zd (qm (zM (za zN (za (zh zu (pv 3) (zh zu (pv 2) zc (fun _ _=>rfl)) (fun _ _=>rfl)) zb))) (qp (K:=K) 2 rfl rfl (zv (qw (pv 3) (zh zu (pv 2) zc (fun _ _=>rfl)) zJ) (zv (zA (i:=4) sc.nd rfl (by first | exact Or.inl rfl | exact Or.inr rfl)) qu))))
  (zg (qm (zz qI (zh zu (pv 5) (pv 4) (fun _ _=>rfl)) zc) (qw (pv 5) (pv 4) zJ))))) (zg (zU (zl (zV hr.units) (zh zu (pv 2) zc (fun _ _=>rfl)) zD (zj _)) (zd (zU (PW.pt (xo (zl kG (pv 4) zN (zj _)) (kD (zl jo (zh zu (pv 3) (zh zu (pv 2) zc (fun _ _=>rfl)) (fun _ _=>rfl)) zN (zj _))))) (zg (zG zN)) zC)
  (zd (qm (zz qI (zh zu (pv 5) (pv 4) (fun _ _=>rfl)) zc) (qw (pv 5) (pv 4) zJ))
  (zg (qm (zM (za (pv 4) (za zN zb))) (qp (K:=K) 2 rfl rfl (zv (qw (pv 3) (zh zu (pv 2) zc (fun _ _=>rfl)) zJ) (zv (zA (i:=4) sc.nd rfl (by first | exact Or.inl rfl | exact Or.inr rfl)) qu))))))) (zd (ZK (i:=7) (j:=8) rfl sc.nd rfl rfl (by decide) rfl rfl (za (zh zu (pv 3) (zh zu (pv 2) zc (fun _ _=>rfl)) (fun _ _=>rfl)) (za (zh zu (pv 3) (zh zu (pv 2) zc (fun _ _=>rfl)) (fun _ _=>rfl)) zb)) rfl)
  (zd (zU (PW.pt (xo (zl kG (pv 7) zN (zj _)) (kD (zl (qT hr.units) (qi kG (pv 8) zN (zj _)) (qi (zV hr.units) (zh zu (pv 2) zc (fun _ _=>rfl)) zD (zj _)) (zj _))))) (zg (zG zN)) zC)
  (zd (qm (zM (za (pv 8) (za (pv 7) zb))) (qp (K:=K) 2 rfl rfl (zv (qw (pv 3) (zh zu (pv 2) zc (fun _ _=>rfl)) zJ) (zv (qw (pv 3) (zh zu (pv 2) zc (fun _ _=>rfl)) zJ) qu))))
  (zg (jv PassesOwn.never rfl (yd (zM (za (pv 7) (za (pv 8) zb)))) (zA (i:=6) sc.nd rfl (by first | exact Or.inl rfl | exact Or.inr rfl)) (zg (zU (zl jo (pv 6) zN (zj _)) (zg (qm (zz qI (zh zu (pv 5) (pv 6) (fun _ _=>rfl)) zc) (qw (pv 5) (pv 6) zJ))) zC))))))))))))
  (xG 3 (xG 5 (zg (zG (zM (za (pv 3) (za (pv 4) (za (pv 5) zb)))))))))),?_⟩
 refine ex2 (by walk_at "sim") ?_
 rintro xs M Q ⟨n,y,ds,T,h,rfl,hy,hd,hn,q⟩
 rw [show qz ["_law_n","_law_plan_here","_law_deed_here","_law_row","_law_hand","_law_moved","_law_thing","_law_one","_law_other"] [.d (.int n),y]=[some (.d (.int n)),some y,none,none,none,none,none,none,none] from rfl]
 refine zm fun r hr0=>?_
 walk_at "ra"
 refine ⟨_,_,_,rfl,small_one (by omega) (by omega) (by omega) (by omega),n,by rw [rangeSize_one];split <;> omega,by omega,fun pr hpr _=>?_⟩
 refine ⟨by omega,by omega,by omega,by rw [Int.toNat_natCast];omega,fun pm hpm _=>?_⟩
 have nmr:pm ≠ pr:=fun z=>by rw [z,ze] at hpm;cases hpm
 rw [zq nmr] at hpm
 rw [Int.toNat_natCast,A5]
 have f0:Fr M (mup (mup M pr (.lst ((qA 0 1 n).map fun i=>AV.d (.int i)))) pm (.lst (List.replicate n (AV.d (.int 0))))):=(Fr.refl.mup hpr _).mup hpm _
 have g1:mup (mup M pr (.lst ((qA 0 1 n).map fun i=>AV.d (.int i)))) pm (.lst (List.replicate n (AV.d (.int 0)))) pr=some (.lst ((((qA 0 1 n).map some).map cD).map AV.d)):=by rw [zq (Ne.symm nmr),ze,List.map_map,List.map_map];rfl
 have g2:mup (mup M pr (.lst ((qA 0 1 n).map fun i=>AV.d (.int i)))) pm (.lst (List.replicate n (AV.d (.int 0)))) pm=some (.lst ((List.replicate n (0:Int)).map fun i=>AV.d (.int i))):=by rw [ze,List.map_replicate]
 have pu0:Pu M (mup (mup M pr (.lst ((qA 0 1 n).map fun i=>AV.d (.int i)))) pm (.lst (List.replicate n (AV.d (.int 0))))):=by
  have:=((Pu.refl (M:=M)).mup pr ((qA 0 1 n).map .int)).mup pm (List.replicate n (.int 0))
  rw [wF,List.map_replicate] at this
  exact this
 generalize mup (mup M pr (.lst ((qA 0 1 n).map fun i=>AV.d (.int i)))) pm (.lst (List.replicate n (AV.d (.int 0))))=M0 at *
 have ok0:OkE n (Km n):=by
  refine ⟨by rw [List.length_map,qJ],fun x hx=>?_⟩
  rcases hx with z | z
  ·obtain ⟨k,hk,e⟩:=List.mem_map.mp z
   cases e
   obtain ⟨j,_,rfl⟩:=List.mem_map.mp (by unfold qA at hk;exact hk)
   have:=List.mem_range.mp ‹_›
   constructor <;> omega
  ·cases z
 subst hr0
 refine zm fun r hr0=>?_
 walk_at "ra"
 refine ⟨_,vG hy f0,?_⟩
 refine ⟨fun i ρ M'=>∃ (R:List (Option Int)) (h':Option Int) (mv:List Int) (u v w x:Option Dat),qC (ds.drop i) (R,h') (T,h)/\OkE n (R,h')/\mv.length=n/\ρ=[some (.d (.int n)),some y,u.map .d,some (.ref pr),some (.d (cD h')),some (.ref pm),v.map .d,w.map .d,x.map .d]/\Fr M M'/\Pu M M'/\M' pr=some (.lst ((R.map cD).map .d))/\M' pm=some (.lst (mv.map fun i=>.d (.int i))),⟨_,_,_,none,none,none,none,hd,ok0,by rw [List.length_replicate],rfl,f0,pu0,g1,g2⟩,?_,?_⟩
 ·rintro i x ρ M' hx ⟨R,h',mv,u,v,w,x',hD,ok,lm,rfl,f1,u1,h1,h2⟩
  rw [List.getElem?_map,List.getElem?_map] at hx
  obtain ⟨dd,hdd,rfl⟩:=Option.map_eq_some_iff.mp hx
  obtain ⟨d,hdi,rfl⟩:=Option.map_eq_some_iff.mp hdd
  have hil:=(List.getElem?_eq_some_iff.mp hdi).1
  have hdr:ds.drop i=d :: ds.drop (i+1):=by rw [List.drop_eq_getElem_cons hil,(List.getElem?_eq_some_iff.mp hdi).2]
  rw [hdr] at hD
  refine ⟨by first | exact vG hy f1 | trivial,?_⟩
  cases hD with
  | @cons _ _ _ t _ h3 h4=>
  have ok2:=ok.do h3
  show jX _ _ _ _ _ _ _
  have puI:∀ {M2:MH} (l:List Int) (p:Addr),Pu M M2->Pu M (mup M2 p (.lst (l.map fun i=>AV.d (.int i)))):=fun l p h=>by have:=h.mup p (l.map .int);rw [wF] at this;exact this
  cases h3 with
  | @take p row x0 k1=>
   have bx:=ok.2 x0 (.inl (List.mem_of_getElem? k1))
   refine ifT (zT (tW (i:=2) rfl) (by decide)) (JR nmr h1 h2 k1 bx.1 (by omega) fun mv' lm'=>?_)
   exact ⟨_,some x0,mv',some (deD (.take p)),v,w,x',h4,ok2,by omega,rfl,(f1.mup hpr _).mup hpm _,puI _ _ (u1.mup _ _),by rw [zq (Ne.symm nmr),ze],ze⟩
  | @lay g row x0 k1=>
   have bx:=ok.2 x0 (.inr rfl)
   refine ifF (zT (tW (i:=2) rfl) (by decide)) (ifT (zT (tW (i:=2) rfl) (by decide)) (Xp nmr h1 h2 k1 bx.1 (by omega) fun mv' lm'=>?_))
   exact ⟨_,none,mv',some (deD (.lay g)),v,w,x',h4,ok2,by omega,rfl,(f1.mup hpm _).mup hpr _,(puI _ _ u1).mup _ _,ze,by rw [zq nmr,ze]⟩
  | @swap p g row h0 x0 y0 ne k1 k2=>
   have bx:=ok.2 x0 (.inl (List.mem_of_getElem? k1))
   have b2:=ok.2 y0 (.inl (List.mem_of_getElem? k2))
   refine ifF (zT (tW (i:=2) rfl) (by decide)) (ifF (zT (tW (i:=2) rfl) (by decide)) (yV (wd:=Str.ofString "swap") (b:=false) nmr h1 h2 k1 k2 ne bx.1 (by omega) (fun z hz=>by cases hz;omega) (by decide) rfl fun mv' u' lm'=>?_))
   exact ⟨_,_,mv',some _,some u',some _,some _,h4,ok2,by omega,rfl,(f1.mup hpr _).mup hpm _,puI _ _ (u1.mup _ _),by rw [zq (Ne.symm nmr),ze],ze⟩
  | @move p g row h0 x0 k1 k2=>
   have bx:=ok.2 x0 (.inl (List.mem_of_getElem? k1))
   have ne:p ≠ g:=fun z=>by rw [z,k2] at k1;cases k1
   refine ifF (zT (tW (i:=2) rfl) (by decide)) (ifF (zT (tW (i:=2) rfl) (by decide)) (yV (wd:=Str.ofString "move") (b:=true) nmr h1 h2 k1 k2 ne bx.1 (by omega) (fun z hz=>nomatch hz) (by decide) rfl fun mv' u' lm'=>?_))
   exact ⟨_,_,mv',some _,some u',some _,some _,h4,ok2,by omega,rfl,(f1.mup hpr _).mup hpm _,puI _ _ (u1.mup _ _),by rw [zq (Ne.symm nmr),ze],ze⟩
 ·rintro ρ M' ⟨R,h',mv,u,v,w,x',hD,ok,lm,rfl,f1,u1,h1,h2⟩
  rw [List.length_map,List.length_map,List.drop_length] at hD
  cases hD
  refine ⟨by first | exact vG hy f1 | trivial,?_⟩
  subst hr0
  walk_at "ra"
  have nd:∀ {o:Option Dat} {p:Addr},o.map AV.d ≠ some (.ref p):=fun {o p} h=>by cases o <;> cases h
  have ny:∀ {p:Addr},M p=none->y ≠ .ref p:=fun {p} h z=>by rw [z] at hy;unfold zQ at hy;dsimp only at hy;rw [h] at hy;cases hy
  refine ⟨_,h1,_,zF _,hpr,fun j hj z=>?_,fun q' o hq e=>(u1 q' o e).imp id fun z=>z pr,_,by rw [qE nmr];exact h2,_,wQ _,hpm,fun j hj z=>?_,fun q' o hq e=>((u1.mdel pr) q' o e).imp id fun z=>z pm,by omega,?_⟩
  ·match j with
   | 0=>cases z
   | 1=>exact ny hpr (Option.some.inj (Option.some.inj z))
   | 2=>exact nd (Option.some.inj z)
   | 3=>exact hj rfl
   | 4=>cases z
   | 5=>cases z;exact nmr rfl
   | 6=>exact nd (Option.some.inj z)
   | 7=>exact nd (Option.some.inj z)
   | 8=>exact nd (Option.some.inj z)
   | j+9=>cases z
  ·match j with
   | 0=>cases z
   | 1=>exact ny hpm (Option.some.inj (Option.some.inj z))
   | 2=>exact nd (Option.some.inj z)
   | 3=>cases z
   | 4=>cases z
   | 5=>exact hj rfl
   | 6=>exact nd (Option.some.inj z)
   | 7=>exact nd (Option.some.inj z)
   | 8=>exact nd (Option.some.inj z)
   | j+9=>cases z
  ·refine xw (fun q' hq'=>?_) (q mv)
   have n1:q' ≠ pr:=fun z=>hq' (by rw [z];exact hpr)
   have n2:q' ≠ pm:=fun z=>hq' (by rw [z];exact hpm)
   rw [qE n2,qE n1];exact f1 q' hq'
noncomputable abbrev xZ:Stmt:=top 13
theorem vT:zO ["_law_found","_law_due_here","_law_one","_law_other"] ["_law_found","_law_due_here"] (zn xZ):=⟨rfl,rfl,rfl,by decide +kernel,rfl,by decide +kernel,by decide +kernel⟩
noncomputable def xQ (n:Nat):ASp:=fun xs M Q=>∃ (x y:AV) (d:Dat),xs=[x,y]/\jM x M=some d/\jM y M=some d/\ki n d/\n<=30/\Q (.d (.bl true)) M
noncomputable def aNo:ASp:=fun _ _ _=>False
theorem K3 {x y:AV}{M:MH}{l:List Dat}{n:Nat}{sp:ASp}(hsp:∀ xs M Q,xQ n xs M Q->sp xs M Q){N:List AV->ASt->MH->Prop}(hl:l.length<=100000)(hd:∀ d ∈ l,ki n d)(hn:n<=30){u v:Option AV}(hN:N (l.map fun _=>AV.d (.bl true)) [] M)(hN':∀ acc ρ ρ' M,N acc ρ M->N acc ρ' M) :
  wk (Qj 2 (qZ (jb 2) (qZ (jb 3) yz))) yf (ku (y8 sp (zR (zE 2) (zR (zE 3) jq)))) (fun M'=>qe x M'=qe x M/\qe y M'=qe y M) N (vR l l) [] [some x,some y,u,v] M:=by
 have e:(vR l l).map (fun _=>AV.d (.bl true))=l.map fun _=>AV.d (.bl true):=by
  rw [List.map_const',List.map_const',jS,Nat.min_self]
 refine Bg (fun (o:Option AV × Option AV)=>[some x,some y,o.1,o.2]) (fun _=>.d (.bl true)) ⟨(u,v),rfl⟩ ⟨rfl,rfl⟩ (by rw [jS,Nat.min_self];exact hl) (fun o z Q hz q=>?_) fun o=>by rw [e];exact hN' _ _ _ _ hN
 obtain ⟨i,hi⟩:=List.getElem?_of_mem hz
 obtain ⟨d,d',h1,h2,rfl⟩:=xV hi
 rw [h1] at h2;cases h2
 walk_at "ra"
 exact hsp _ _ _ ⟨_,_,d,rfl,rfl,rfl,hd d (List.mem_of_getElem? h1),hn,q (some (.d d),some (.d d))⟩
theorem YL {l:List Dat}:∃ bs:List Bool,(l.map fun _=>Dat.bl true)=bs.map Dat.bl/\(l.map fun _=>AV.d (Dat.bl true))=bs.map (fun b=>AV.d (.bl b))/\bs.all id=true:=⟨l.map fun _=>true,by rw [List.map_map];rfl,by rw [List.map_map];rfl,by simp⟩
theorem Q1 {x y:AV}{M:MH}{l:List Dat}{n:Nat}{sp:ASp}{Q:AK}(hxy:(qe x M=some (l.map AV.d)/\qe y M=some (l.map AV.d)) \/ (x=.d (.tup l)/\y=.d (.tup l)/\l.length<=l.length))(hsp:∀ xs M Q,xQ n xs M Q->sp xs M Q)(hl:l.length<=100000)(hd:∀ d ∈ l,ki n d)(hn:n<=30)(q:Q (.d (.bl true)) M) :
  aCB (BJ fun bs=>bs.all id) (zR (aFz (Qh [2,3] (AH (zR (zE 0) (zR (zE 1) jq))) (Qj 2 (qZ (jb 2) (qZ (jb 3) yz))) yf (ku (y8 sp (zR (zE 2) (zR (zE 3) jq)))))) jq) [some x,some y,none,none] M Q:=by
 walk_at "ra"
 refine ⟨l,l,hxy,K3 (n:=n) (sp:=sp) hsp hl hd hn ?_ (fun _ _ _ _ z=>z)⟩
 obtain ⟨bs,b1,b2,b3⟩:=YL (l:=l)
 refine ⟨l.map fun _=>.bl true,?_,bs,by rw [List.map_map];exact b2,?_⟩
 ·rw [<- zF (l.map fun _=>Dat.bl true),List.map_map];rfl
 ·rw [b3];exact q
theorem Dm (a:At K mg "_law_same" xZ):Df P w K mg base "_law_same" ["_law_found","_law_due_here"] 1 (cSp aNo):=
 va (k:=0) a vT (fun _ _ _ _ _ _=>Pn2_ fun _ _=>rfl) (fun vs H Q E h=>by obtain ⟨_,_,_,_,_,_,h,_⟩:=h;exact h.elim) (fun f cdv A outer s H vs Q E hr h=>by obtain ⟨_,_,_,_,_,_,h,_⟩:=h;exact h.elim)
theorem QE (a:At K mg "_law_same" xZ)(B:Blt mg)(Ball:mg "all"=none){kk:Nat}(n:Nat){sp:ASp}(hsp:∀ xs M Q,1<=n->xQ (n - 1) xs M Q->sp xs M Q)(D_law_same:Df P w K mg base "_law_same" ["_law_found","_law_due_here"] kk (cSp sp)):Df P w K mg base "_law_same" ["_law_found","_law_due_here"] (kk+1) (cSp (xQ n)):=by
 refine dfA (k:=kk) a vT (fun _ _ _ _ _ _=>Pn2_ fun _ _=>rfl) (fun xs M Q h=>?_) (fun f cdv A outer s H E hr=>?_)
 ·obtain ⟨_,_,_,rfl,_⟩:=h;rfl
 have sc:=vT
 have hsl:=hsl
 have hs2:2<=sizeLine:=by omega
 refine ⟨_,(zd (zU (kF (zo Jb rfl B.isinstance zH (za (pv 1) (za (zM (za (qH (v:=.ty "list") rfl B.list qV rfl) (za (qH (v:=.ty "tuple") rfl B.tuple kL rfl) zb))) zb))) (fun _=>rfl)) (zd (zU (PW.pt (xo (zl (qT hr.units) (zo qD rfl B.isinstance zH (za (pv 0) (za (qH (v:=.ty "list") rfl B.list qV rfl) zb))) (zo qD rfl B.isinstance zH (za (pv 1) (za (qH (v:=.ty "list") rfl B.list qV rfl) zb))) (zj _)) (kD (zl (qT hr.units) (zo qD rfl B.isinstance zH (za (pv 0) (za (qH (v:=.ty "tuple") rfl B.tuple kL rfl) zb))) (zo qD rfl B.isinstance zH (za (pv 1) (za (qH (v:=.ty "tuple") rfl B.tuple kL rfl) zb))) (zj _))))) (zg (zG v7)) zC)
  (zg (zG (xX (qi (zV hr.units) (zo zB rfl B.len qO (za (pv 0) zb)) (zo zB rfl B.len qO (za (pv 1) zb)) (zj _)) (vN (zo (Jm rfl) rfl Ball WY (za (Q8 (ts:=[2,3]) rfl rfl (Kr rfl B.zip (za (pv 0) (za (pv 1) zb))) (fun _ _ _ _=>(qp (K:=K) 2 rfl rfl (zv (zA (i:=2) sc.nd rfl (by first | exact Or.inl rfl | exact Or.inr rfl)) (zv (zA (i:=3) sc.nd rfl (by first | exact Or.inl rfl | exact Or.inr rfl)) qu)))) (fun _ _ _ _=>Q7) (fun _ _ _ _=>(zK D_law_same hr rfl (za (pv 2) (za (pv 3) zb))))) zb))))))) zC)
  (zd (zU (PW.pt (xo (zl kG (pv 1) zN (zj _)) (kD (kF (zo qD rfl B.isinstance zH (za (pv 1) (za (qH (v:=.ty "str") rfl B.str ZV rfl) zb))) (fun _=>rfl))))) (zg (zG (xX (qi (zV hr.units) (pv 0) (pv 1) (zj _)) (vN (qi (zV hr.units) (zo qD rfl B.isinstance zH (za (pv 0) (za (qH (v:=.ty "str") rfl B.str ZV rfl) zb))) (zo qD rfl B.isinstance zH (za (pv 1) (za (qH (v:=.ty "str") rfl B.str ZV rfl) zb))) (zj _)))))) zC)
  (zg (zG (xX (zo qD rfl B.isinstance zH (za (pv 0) (za (qH (v:=.ty "int") rfl B.int ZP rfl) zb))) (xX (qi (zV hr.units) (zo qD rfl B.isinstance zH (za (pv 0) (za (qH (v:=.ty "bool") rfl B.bool Q0 rfl) zb))) (zo qD rfl B.isinstance zH (za (pv 1) (za (qH (v:=.ty "bool") rfl B.bool Q0 rfl) zb))) (zj _)) (vN (qi (zV hr.units) (pv 0) (pv 1) (zj _))))))))),?_⟩
 refine ex2 (by walk_at "sim") ?_
 rintro xs M Q ⟨x,y,d,rfl,hx,hy,hd,hn,q⟩
 rw [show qz ["_law_found","_law_due_here","_law_one","_law_other"] [x,y]=[some x,some y,none,none] from rfl]
 have fin:=yI (M0:=M) Fr.refl (.bl true)
 cases d with
 | non=>
  obtain rfl:=qk hx (fun _ z=>nomatch z);obtain rfl:=qk hy (fun _ z=>nomatch z)
  exact qv (Je rfl rfl Ky hs2) (Ya (Bq (zT (tIN rfl) rfl)) (j5 (VN rfl rfl rfl rfl (by rw [Z6];omega) (by rw [Z6];omega) Yh) (wo (jP rfl rfl Z5) (jP rfl rfl Z5) _ ⟨_,_,fin,q⟩)))
 | bl b=>
  obtain rfl:=qk hx (fun _ z=>nomatch z);obtain rfl:=qk hy (fun _ z=>nomatch z)
  exact qv (Je rfl rfl Ks hs2) (qv (jU (zT (tIN rfl) rfl) (BH rfl rfl Xa)) (j5 (jP rfl rfl Yo) (j5 (xq (wo (jP rfl rfl Zo) (jP rfl rfl Zo)) rfl) (VN rfl rfl rfl rfl (by rw [wz];omega) (by rw [wz];omega) (by rw [Zy];exact decide_eq_true rfl) _ ⟨_,_,fin,q⟩))))
 | int i=>
  obtain rfl:=qk hx (fun _ z=>nomatch z);obtain rfl:=qk hy (fun _ z=>nomatch z)
  exact qv (Je rfl rfl YM hs2) (qv (jU (zT (tIN rfl) rfl) (BH rfl rfl XC)) (j5 (jP rfl rfl Yn) (j5 (xq (wo (jP rfl rfl Zr) (jP rfl rfl Zr)) rfl) (VN rfl rfl rfl rfl (by rw [kE];omega) (by rw [kE];omega) (by rw [ZQ];exact decide_eq_true rfl) _ ⟨_,_,fin,q⟩))))
 | str i=>
  obtain rfl:=qk hx (fun _ z=>nomatch z);obtain rfl:=qk hy (fun _ z=>nomatch z)
  exact qv (Je rfl rfl Xg hs2) (Ya (jU (zT (tIN rfl) rfl) (BH rfl rfl vA)) (j5 (VN rfl rfl rfl rfl (by rw [zy];omega) (by rw [zy];omega) (by rw [kH];exact decide_eq_true rfl)) (wo (jP rfl rfl vA) (jP rfl rfl vA) _ ⟨_,_,fin,q⟩)))
 | tup l=>
  obtain rfl:=qk hx (fun _ z=>nomatch z)
  obtain rfl:=qk hy (fun _ z=>nomatch z)
  cases n with
  | zero=>exact hd.no_t.elim
  | succ n=>
   obtain ⟨hl,hd'⟩:=hd.tup
   refine wu (Je rfl rfl Yw hs2) (qv (jU (vB (xq (wo (jP rfl rfl ZA) (jP rfl rfl ZA)) rfl)) (vB (xq (wo (jP rfl rfl Qb) (jP rfl rfl Qb)) rfl))) (j5 (xq (Dc (Vi rfl rfl) (Vi rfl rfl)) (decide_eq_true rfl)) ?_))
   exact Q1 (x:=.d (.tup l)) (y:=.d (.tup l)) (.inr ⟨rfl,rfl,Nat.le_refl _⟩) (fun xs M Q h=>hsp xs M Q (by omega) h) hl hd' (by omega) ⟨_,_,fin,q⟩
 | lst l=>
  obtain ⟨x1,x2,x3,x4⟩:=wY hx
  obtain ⟨y1,y2,y3,y4⟩:=wY hy
  cases n with
  | zero=>exact hd.no_l.elim
  | succ n=>
   obtain ⟨hl,hd'⟩:=hd.lst
   refine wu (Je rfl y3 XX hs2) (qv (jU (vB (xq (wo (jP rfl x3 ZO) (jP rfl y3 ZO)) rfl)) (vB (xq (wo (jP rfl x3 Zt) (jP rfl y3 Zt)) rfl))) (j5 (xq (Dc (Vi rfl x2) (Vi rfl y2)) (decide_eq_true rfl)) ?_))
   exact Q1 (.inl ⟨x1,y1⟩) (fun xs M Q h=>hsp xs M Q (by omega) h) hl hd' (by omega) ⟨_,_,fin,q⟩
 | ty t=>have:=hd.1;rw [dp] at this;omega
 | rng _ _ _=>have:=hd.1;rw [dp] at this;omega
 | scr _ _=>have:=hd.1;rw [dp] at this;omega
theorem wc (a:At K mg "_law_same" xZ)(B:Blt mg)(Ball:mg "all"=none):∀ n,Df P w K mg base "_law_same" ["_law_found","_law_due_here"] (n+2) (cSp (xQ n))
 | 0=>QE a B Ball 0 (sp:=aNo) (fun _ _ _ h=>absurd h (by omega)) (Dm a)
 | n+1=>QE a B Ball (n+1) (sp:=xQ n) (fun _ _ _ _ h=>h) (wc a B Ball n)
noncomputable def Sw2 (d:De):Prop:=∀ a b,d=.swap a b->a ≠ b
noncomputable def WJ:ASp:=fun xs M Q=>∃ x y:De,xs=[.d (deD x),.d (deD y)]/\Sw2 x/\Sw2 y/\Q (.d (.bl (xb x y))) M
theorem BV {a b:Int}(h:a ≠ b):(unl [a,b]).length=2:=JM (by simp [h])
theorem DN {a b c d:Nat}(h1:a ≠ b)(h2:c ≠ d):decide ((unl [(a:Int),(b:Int)]).length=(unl [(c:Int),(d:Int)]).length/\∀ k ∈ [(a:Int),(b:Int)],k ∈ [(c:Int),(d:Int)])=xb (.swap a b) (.swap c d):=by
  rw [BV (by omega),BV (by omega)]
  show decide _=decide _
  refine decide_eq_decide.mpr ⟨fun ⟨_,z⟩=>?_,fun z=>⟨rfl,fun k hk=>?_⟩⟩
  · have z1:=z a (by simp)
    have z2:=z b (by simp)
    simp only [List.mem_cons,List.not_mem_nil,or_false] at z1 z2
    unfold swK
    split <;> split <;> simp only [List.cons.injEq,and_true] <;> omega
  · have p1 : k ∈ swK a b := by
      unfold swK
      simp only [List.mem_cons,List.not_mem_nil,or_false] at hk
      split <;> simp <;> omega
    rw [z] at p1
    unfold swK at p1
    split at p1 <;> simp at p1 ⊢ <;> omega
theorem VU (x y:De)(h:∀ a b,x ≠ .swap a b):eqD (deD y) (deD x.back)=xb x y:=by
 rw [Bool.eq_iff_iff]
 have e1:eqD (deD y) (deD x.back)=true ↔ y=x.back:=⟨qG,fun z=>by rw [z];exact jm _⟩
 have e2:xb x y=true ↔ x=y.back:=by
  cases x with
  | swap a b=>exact absurd rfl (h a b)
  | take p=>exact ⟨fun z=>qG z,fun z=>(show eqD (deD (De.take p)) (deD y.back)=true by rw [<- z];exact jm _)⟩
  | move p g=>exact ⟨fun z=>qG z,fun z=>(show eqD (deD (De.move p g)) (deD y.back)=true by rw [<- z];exact jm _)⟩
  | lay g=>exact ⟨fun z=>qG z,fun z=>(show eqD (deD (De.lay g)) (deD y.back)=true by rw [<- z];exact jm _)⟩
 rw [e1,e2]
 exact ⟨fun z=>by rw [z,De.back_back],fun z=>by rw [z,De.back_back]⟩
theorem jy {k:Key}{v:AV}{r:List (Key × AV)}:jx ((k,v) :: r) k=some v:=by unfold jx;rw [List.find?_cons,decide_eq_true rfl];rfl
theorem ji {k k':Key}{v:AV}{r:List (Key × AV)}(h:k' ≠ k):jx ((k',v) :: r) k=jx r k:=by unfold jx;rw [List.find?_cons,decide_eq_false h]
noncomputable abbrev Qe:Stmt:=top 15
theorem QK:zO ["_law_deed_here","_law_other"] ["_law_deed_here","_law_other"] (zn Qe):=⟨rfl,rfl,rfl,by decide +kernel,rfl,by decide +kernel,by decide +kernel⟩
theorem VH (a:At K mg "_law_undoes" Qe)(B:Blt mg)(Bset:mg "set"=none):Df P w K mg base "_law_undoes" ["_law_deed_here","_law_other"] 1 (cSp WJ):=by
 refine dfA (k:=0) a QK (fun _ _ _ _ _ _=>Pn2_ fun _ _=>rfl) (fun xs M Q h=>?_) (fun f cdv A outer s H E hr=>?_)
 ·obtain ⟨_,_,rfl,_⟩:=h;rfl
 have sc:=QK
 have hsl:=hsl
 refine' ⟨_,?q0,?qr⟩
 (case q0=>
  refine' zd ?q1 ?q2
  (case q1=>exact (zU (zl (zV hr.units) (zh zu (pv 0) zc (fun _ _=>rfl)) zD (zj _)) (zg (zG (xX (qi (zV hr.units) (zh zu (pv 1) zc (fun _ _=>rfl)) zD (zj _)) (vN (qi (Yi (Nat.lt_of_succ_lt (Qw hr))) (zP (xW rfl) rfl Bset Xy (za (qg jp (pv 0) (qd zc) qt) zb)) (zP (xW rfl) rfl Bset Xy (za (qg jp (pv 1) (qd zc) qt) zb)) (zj _)))))) zC))
  (case q2=>
   refine' zd ?q3 ?q4
   (case q3=>exact (zU (zl (zV hr.units) (zh zu (pv 0) zc (fun _ _=>rfl)) zD (zj _)) (zg (zG (qi (zV hr.units) (pv 1) (zM (za zD (za (zh zu (pv 0) zc (fun _ _=>rfl)) (za (zh zu (pv 0) zc (fun _ _=>rfl)) zb)))) (zj _)))) zC))
   (case q4=>
    refine' zg ?q5
    (case q5=>
     refine' zG ?q6
     (case q6=>
      refine' qi ?q7 ?q8 ?q9 ?q10
      (case q7=>exact (zV hr.units))
      (case q8=>exact (pv 1))
      (case q9=>
       refine' zM ?q11
       (case q11=>
        refine' za ?q12 ?q13
        (case q12=>
         refine' QX ?q14 ?q15 ?q16 ?q17
         (case q14=>exact (Qw hr))
         (case q15=>
          refine' Qo ?q18 ?q19 ?q20 ?q21 ?q22
          (case q18=>
           refine' j6 ?q23 ?q24 ?q25
           (case q23=>exact zD)
           (case q24=>exact zD)
           (case q25=>
            refine' j6 ?q26 ?q27 ?q28
            (case q26=>exact zD)
            (case q27=>exact zD)
            (case q28=>exact Ja)))
          (case q19=>exact rfl)
          (case q20=>exact rfl)
          (case q21=>exact (fun z=>nomatch z))
          (case q22=>exact (by decide)))
         (case q16=>exact (zh zu (pv 0) zc (fun _ _=>rfl)))
         (case q17=>exact (fun _ _=>rfl)))
        (case q13=>exact (za (zh zu (pv 0) zc (fun _ _=>rfl)) zb))))
      (case q10=>exact (zj _)))))))
 refine ex2 (by walk_at "sim") ?_
 rintro xs M Q ⟨x,y,rfl,hx,hy,q⟩
 rw [show qz ["_law_deed_here","_law_other"] [.d (deD x),.d (deD y)]=[some (.d (deD x)),some (.d (deD y))] from rfl]
 walk_at "ra"
 have dd:∀ d:De,dp (deD d)<=40:=fun d=>by cases d <;> simp [deD,dp,dps]
 have z1:0+1+1<=sizeLine:=by rw [sizeLine_eq];decide
 have z2:0+1+1+1<=sizeLine:=by rw [sizeLine_eq];decide
 have fin:∀ {u:De} {M':MH},(∀ a b,x ≠ .swap a b)->u=x.back->Fr M M'->rtA M Q (.d (.bl (eqD (deD y) (deD u)))) M':=fun h e f=>xw f (by rw [e,VU x y h];exact q)
 cases x with
 | swap a b=>
  refine ⟨_,rfl,_,rfl,_,rfl,by rw [zy];omega,?_⟩
  rw [if_pos (by decide +kernel)]
  cases y with
  | swap c d=>
   refine ⟨_,rfl,_,rfl,_,rfl,by rw [zy];omega,?_⟩
   rw [if_pos (by decide +kernel)]
   refine ⟨_,rfl,Qx,[(a:Int),(b:Int)],rfl,Nat.le_of_ble_eq_true rfl,_,rfl,Qx,[(c:Int),(d:Int)],rfl,Nat.le_of_ble_eq_true rfl,xw Fr.refl ?_⟩
   rw [DN (hx a b rfl) (hy c d rfl)]
   exact q
  | take p=>exact ⟨_,rfl,_,rfl,_,rfl,by rw [zy];omega,by rw [if_neg (by decide +kernel)];exact xw Fr.refl q⟩
  | move p g=>exact ⟨_,rfl,_,rfl,_,rfl,by rw [zy];omega,by rw [if_neg (by decide +kernel)];exact xw Fr.refl (by rw [show xb (.swap a b) (.move p g)=false from Bool.eq_false_iff.mpr fun h=>nomatch (qG h:De.swap a b=De.move g p)] at q;exact q)⟩
  | lay g=>exact ⟨_,rfl,_,rfl,_,rfl,by rw [zy];omega,by rw [if_neg (by decide +kernel)];exact xw Fr.refl q⟩
 | move p g=>
  refine ⟨_,rfl,_,rfl,_,rfl,by rw [zy];omega,?_⟩
  rw [if_neg (by decide +kernel)]
  refine ⟨_,rfl,_,rfl,_,rfl,by rw [zy];omega,?_⟩
  rw [if_pos (by decide +kernel)]
  exact ⟨_,rfl,_,rfl,_,rfl,_,rfl,z2,_,rfl,dd _,dd (.move g p),fin (u:=.move g p) (fun _ _ z=>nomatch z) rfl Fr.refl⟩
 | take p=>
  refine ⟨_,rfl,_,rfl,_,rfl,by rw [zy];omega,?_⟩
  rw [if_neg (by decide +kernel)]
  refine ⟨_,rfl,_,rfl,_,rfl,by rw [zy];omega,?_⟩
  rw [if_neg (by decide +kernel)]
  intro D hD
  refine ⟨[(Str.ofString "take",.d (.str (Str.ofString "lay"))),(Str.ofString "lay",.d (.str (Str.ofString "take")))],rfl,Nat.le_of_ble_eq_true rfl,by decide +kernel,ze,?_⟩
  exact ⟨_,rfl,_,rfl,_,ze,_,rfl,_,jy,_,rfl,_,rfl,z1,_,rfl,dd _,dd (.lay p),fin (u:=.lay p) (fun _ _ z=>nomatch z) rfl (Fr.refl.mup hD _)⟩
 | lay g=>
  refine ⟨_,rfl,_,rfl,_,rfl,by rw [zy];omega,?_⟩
  rw [if_neg (by decide +kernel)]
  refine ⟨_,rfl,_,rfl,_,rfl,by rw [zy];omega,?_⟩
  rw [if_neg (by decide +kernel)]
  intro D hD
  refine ⟨[(Str.ofString "take",.d (.str (Str.ofString "lay"))),(Str.ofString "lay",.d (.str (Str.ofString "take")))],rfl,Nat.le_of_ble_eq_true rfl,by decide +kernel,ze,?_⟩
  exact ⟨_,rfl,_,rfl,_,ze,_,rfl,_,(ji (by decide +kernel)).trans jy,_,rfl,_,rfl,z1,_,rfl,dd _,dd (.take g),fin (u:=.take g) (fun _ _ z=>nomatch z) rfl (Fr.refl.mup hD _)⟩
theorem Kc {l:List De}{d e:De}(h:e ∈ zX l d):e ∈ l \/ e=d:=by
 unfold zX at h
 split at h
 ·split at h
  ·exact .inl (List.dropLast_subset _ h)
  ·simpa using h
 ·simpa using h
theorem Y2 {ds:List De}{e:De}(h:e ∈ tid ds):e ∈ ds:=by
 have go:∀ (ds l:List De),e ∈ ds.foldl zX l->e ∈ l \/ e ∈ ds:=by
  intro ds
  induction ds with
  | nil=>intro l h;exact .inl h
  | cons d r ih=>
   intro l h
   rcases ih _ h with z | z
   ·rcases Kc z with z | z
    ·exact .inl z
    ·exact .inr (by rw [z];exact List.mem_cons_self)
   ·exact .inr (List.mem_cons_of_mem _ z)
 exact (go ds [] h).elim (fun z=>nomatch z) id
noncomputable def WC:ASp:=fun xs M Q=>∃ (x:AV) (ds:List De),xs=[x]/\zQ x M=some ((ds.map deD).map .d)/\ds.length<=10000/\(∀ d ∈ ds,Sw2 d)/\Q (.d (.lst ((tid ds).map deD))) M
theorem wv (l:List De):dp (.lst (l.map deD))<=40:=by
 have d1:∀ d:De,dp (deD d)<=1:=fun d=>by cases d <;> simp [deD,dp,dps]
 have h:∀ l:List De,dps (l.map deD)<=1:=fun l=>by
  induction l with
  | nil=>simp [dps]
  | cons a r ih=>rw [List.map_cons];simp only [dps];have:=d1 a;omega
 have:=h l
 simp only [dp];omega
theorem B5 (l:List Dat):eqD (.lst l) (.lst [])=l.isEmpty:=by cases l <;> simp [eqD,jz]
theorem KI {α:Type}(l:List α):kh l none (some (-1))=l.dropLast:=by
 rw [List.dropLast_eq_take]
 show (l.drop 0).take ((-1+(l.length:Int)).toNat - 0)=_
 rw [List.drop_zero]
 congr 1;omega
noncomputable abbrev ZD:Stmt:=top 16
theorem Qf:zO ["_law_plan_here","_law_left","_law_deed_here"] ["_law_plan_here"] (zn ZD):=⟨rfl,rfl,rfl,by decide +kernel,rfl,by decide +kernel,by decide +kernel⟩
theorem Wj (a:At K mg "_law_due" ZD)(B:Blt mg)(D_law_undoes:Df P w K mg base "_law_undoes" ["_law_deed_here","_law_other"] 1 (cSp WJ)):Df P w K mg base "_law_due" ["_law_plan_here"] 2 (cSp WC):=by
 refine dfA (k:=1) a Qf (fun _ _ _ _ _ _=>Pn1_ fun _=>rfl) (fun xs M Q h=>?_) (fun f cdv A outer s H E hr=>?_)
 ·obtain ⟨_,_,rfl,_⟩:=h;rfl
 have sc:=Qf
 have hsl:=hsl
 refine ⟨_,(zd (zS (i:=1) sc.nd rfl (by first | exact Or.inl rfl | exact Or.inr rfl) (zW zb))
  (zd (jv PassesOwn.never rfl (yd (pv 0)) (zA (i:=2) sc.nd rfl (by first | exact Or.inl rfl | exact Or.inr rfl)) (zg (zU (PW.pt (kZ (zl (qT hr.units) (pv 1) (zW zb) (zj _)) (kc (kF (zK D_law_undoes hr rfl (za (pv 2) (za (zh zu (pv 1) (yN kY zc) (fun _ _=>rfl)) zb))) (fun _=>rfl))))) (zg (zS (i:=1) sc.nd rfl (by first | exact Or.inl rfl | exact Or.inr rfl) (qg vJ (pv 1) qt (qd (yN kY zc))))) (zg (zS (i:=1) sc.nd rfl (by first | exact Or.inl rfl | exact Or.inr rfl) (zz yl (pv 1) (zW (za (pv 2) zb))))))))
  (zg (zG (pv 1))))),?_⟩
 refine ex2 (by walk_at "sim") ?_
 rintro xs M Q ⟨x,ds,rfl,hx,hl,hs,q⟩
 rw [show qz ["_law_plan_here","_law_left","_law_deed_here"] [x]=[some x,none,none] from rfl]
 refine zm fun r hr0=>?_
 walk_at "ra"
 subst hr0
 refine zm fun r hr0=>?_
 walk_at "ra"
 have lenT:∀ i,(tid (ds.take i)).length<=i:=fun i=>Nat.le_trans (xN _) (by rw [List.length_take];omega)
 refine ⟨_,hx,⟨fun i ρ M'=>(∃ u,ρ=[some x,some (.d (.lst ((tid (ds.take i)).map deD))),u])/\i<=ds.length/\M=M',⟨⟨_,rfl⟩,Nat.zero_le _,rfl⟩,?_,?_⟩⟩
 ·rintro i y ρ M' hy ⟨⟨u,rfl⟩,hi,rfl⟩
  rw [List.getElem?_map,List.getElem?_map] at hy
  cases e:ds[i]? with
  | none=>rw [e] at hy;cases hy
  | some d=>
   rw [e] at hy
   cases hy
   have hil:=(List.getElem?_eq_some_iff.mp e).1
   have tk:tid (ds.take (i+1))=zX (tid (ds.take i)) d:=by
    rw [List.take_add_one,e];unfold tid;rw [List.foldl_append];rfl
   have lt:=lenT i
   have sw:∀ z ∈ tid (ds.take i),Sw2 z:=fun z hz=>hs z (List.mem_of_mem_take (Y2 hz))
   refine ⟨hx,?_⟩
   walk_at "ra"
   rw [tk]
   generalize tid (ds.take i)=t at *
   have dpt:dp (.lst (t.map deD))<=40:=wv t
   refine ⟨dpt,by rw [dp];exact Nat.le_of_ble_eq_true rfl,?_⟩
   have pa:List.map AV.d (t.map deD) ++ [AV.d (deD d)]=((t ++ [d]).map deD).map .d:=by rw [List.map_append,List.map_append];rfl
   have tl:t.length+1<=sizeLine:=by rw [sizeLine_eq];omega
   cases e2:t.getLast? with
   | none=>
    have t0:t=[]:=List.getLast?_eq_none_iff.mp e2
    have ts:zX t d=t ++ [d]:=by unfold zX;rw [e2]
    rw [if_neg (by rw [B5,t0];decide),ts]
    exact ⟨by rw [sizeLine_eq];decide,tl,_,by rw [pa];exact zF _,rfl,⟨_,rfl⟩,by omega⟩
   | some z=>
    have hl:=kB e2
    have tp:0<t.length:=by rw [hl,List.length_append];exact Nat.succ_pos _
    have zt:z ∈ t:=by rw [hl];exact List.mem_append_right _ List.mem_cons_self
    rw [if_pos (by rw [B5];cases t with
     | nil=>cases tp
     | cons _ _=>rfl)]
    refine ⟨.d (deD z),by rw [yx (by rw [List.length_map,List.length_map];exact tp),List.getLast?_map,List.getLast?_map,e2];rfl,d,z,rfl,hs d (List.mem_of_getElem? e),sw z zt,_,rfl,?_⟩
    by_cases c:xb d z=true
    ·rw [if_pos c]
     have ts:zX t d=t.dropLast:=by unfold zX;rw [e2];exact if_pos c
     rw [ts]
     refine ⟨(t.dropLast).map deD,?_,rfl,⟨_,rfl⟩,by omega,rfl⟩
     rw [KI,<- List.map_dropLast,<- List.map_dropLast]
     exact zF _
    ·rw [if_neg c]
     have ts:zX t d=t ++ [d]:=by unfold zX;rw [e2];exact if_neg c
     rw [ts]
     exact ⟨by rw [sizeLine_eq];decide,tl,_,by rw [pa];exact zF _,rfl,⟨_,rfl⟩,by omega,rfl⟩
 ·rintro ρ M' ⟨⟨u,rfl⟩,_,rfl⟩
  rw [List.length_map,List.length_map,List.take_length]
  refine ⟨hx,?_⟩
  subst hr0
  walk_at "ra"
  exact xw Fr.refl q
noncomputable def wD:De->Str
 | .swap _ _=>Str.ofString "swap"
 | .take _=>Str.ofString "take"
 | .move _ _=>Str.ofString "move"
 | .lay _=>Str.ofString "lay"
noncomputable def pD:De->List Dat
 | .swap a b=>[.int (a:Int),.int (b:Int)]
 | .take p=>[.int (p:Int)]
 | .move p g=>[.int (p:Int),.int (g:Int)]
 | .lay g=>[.int (g:Int)]
theorem BW (d:De):dD d=.tup (.str (wD d) :: pD d):=by cases d <;> rfl
noncomputable def De.bk:De->De
 | .swap a b=>.swap b a
 | .take p=>.lay p
 | .move p g=>.move g p
 | .lay g=>.take g
theorem DoE.bk {d:De}{s t:ES}(h:DoE d s t):DoE d.bk t s:=by
 cases d with
 | swap a b=>exact h.back.flip
 | take p=>exact h.back
 | move p g=>exact h.back
 | lay g=>exact h.back
inductive yE (base:ES):List (De × ES)->ES->Prop
 | nil:yE base [] base
 | snoc {l:List (De × ES)} {d:De} {s t:ES}:yE base l s->DoE d s t->yE base (l ++ [(d,s)]) t
theorem yE.nil_inv {base:ES}{l:List (De × ES)}{t:ES}(h:yE base l t)(e:l=[]):t=base:=by
 cases h with
 | nil=>rfl
 | snoc _ _=>simp at e
theorem yE.snoc_inv {base:ES}{l:List (De × ES)}{t:ES}(h:yE base l t)(e:l ≠ []):∃ l' d s,l=l' ++ [(d,s)]/\yE base l' s/\DoE d s t:=by
 cases h with
 | nil=>exact absurd rfl e
 | snoc h1 h2=>exact ⟨_,_,_,rfl,h1,h2⟩
theorem DC {α:Type}(x:α)(l:List α):kh (x :: l) (some 1) none=l:=by
 unfold kh
 show ((x :: l).drop (min 1 (l.length+1))).take (l.length+1 - min 1 (l.length+1))=l
 rw [Nat.min_eq_left (by omega)]
 show l.take (l.length+1 - 1)=l
 exact List.take_length
theorem Wd {α:Type}(x:α)(l:List α):¬(HT.sIx (x :: l).length 0 (some 1)=0/\HT.sIx (x :: l).length (x :: l).length none=(x :: l).length):=by
 rintro ⟨h,_⟩
 have:min 1 (l.length+1)=0:=h
 omega
theorem nd3:([Str.ofString "swap",Str.ofString "take",Str.ofString "lay"]:List Str).Nodup:=by decide +kernel
noncomputable abbrev kS (s:String):Key:=Sum.inr (Str.ofString s)
theorem wst:kS "swap" ≠ kS "take":=by decide +kernel
theorem wsl:kS "swap" ≠ kS "lay":=by decide +kernel
theorem wtl:kS "take" ≠ kS "lay":=by decide +kernel
theorem wsm:kS "swap" ≠ kS "move":=by decide +kernel
theorem wtm:kS "take" ≠ kS "move":=by decide +kernel
theorem wlm:kS "lay" ≠ kS "move":=by decide +kernel
theorem Jy (d:De):jx (Yp (List.map (fun kv:Str × AV=>((Sum.inr kv.fst:Key),kv.snd)) [(Str.ofString "swap",AV.d (.tup (.str (Str.ofString "swap") :: (pD d).reverse))),(Str.ofString "take",.d (.tup (.str (Str.ofString "lay") :: pD d))),(Str.ofString "lay",.d (.tup (.str (Str.ofString "take") :: pD d)))]) (Sum.inr (Str.ofString "move")) (.d (.tup (.str (Str.ofString "move") :: (pD d).reverse)))) (Sum.inr (wD d))=some (.d (dD d.bk)):=by
 unfold Yp
 rw [if_neg]
 ·rw [List.map_cons,List.map_cons,List.map_cons,List.map_nil,List.cons_append,List.cons_append,List.cons_append,List.nil_append]
  cases d with
  | swap a b=>exact jy
  | take g=>exact (ji wst).trans jy
  | lay g=>exact (ji wsl).trans ((ji wtl).trans jy)
  | move a b=>exact (ji wsm).trans ((ji wtm).trans ((ji wlm).trans jy))
 ·intro z
  obtain ⟨kv,h1,h2⟩:=List.any_eq_true.mp z
  simp only [List.map_cons,List.map_nil,List.mem_cons,List.not_mem_nil,or_false] at h1
  rcases h1 with rfl | rfl | rfl
  ·exact wsm (of_decide_eq_true h2)
  ·exact wtm (of_decide_eq_true h2)
  ·exact wlm (of_decide_eq_true h2)
theorem at0 (x:AV)(l:List AV):atI (x :: l) 0=some x:=by unfold atI;rw [qS (Int.le_refl 0) (by rw [List.length_cons];omega)];rfl
noncomputable abbrev enD (z:De × ES):Dat:=.tup [dD z.1,.lst (z.2.1.map oD),oD z.2.2]
noncomputable def XB:ASp:=fun xs M Q=>∃ (b:Addr) (n N:Nat) (ds:List De) (st:ES),xs=[.ref b,.d (.int n),.d (.lst (ds.map dD))]/\BxM M b N/\N<1000000/\n<=1000/\ds.length<=40/\qC ds ((qA 0 1 n).map some,none) st/\∀ M' es st',BxS M M' b (N+5000)->es.length<=1000->qC es ((qA 0 1 n).map some,none) st'->Q (.d (.lst (es.map dD))) M'
noncomputable abbrev ESr (b:Addr)(n:Nat)(ds:List De)(p:Addr)(u4:Option AV)(cur:ES)(u7 u8 u9 u10:Option AV):ASt:=[some (.ref b),some (.d (.int n)),some (.d (.lst (ds.map dD))),some (.ref p),u4,some (.d (.lst (cur.1.map oD))),some (.d (oD cur.2)),u7,u8,u9,u10]
noncomputable def LO (M:MH)(b:Addr)(n N:Nat)(p:Addr)(ds:List De)(st:ES):Nat->ASt->MH->Prop:=fun i ρ M'=>∃ u4 cur es u7 u8 u9 u10,ρ=ESr b n ds p u4 cur u7 u8 u9 u10/\SB M M' b (N+100 * i)/\M' p=some (.lst ((es.map dD).map .d))/\es.length<=10 * i/\cur.1.length=n/\qC es ((qA 0 1 n).map some,none) cur/\qC (ds.drop i) cur st
noncomputable def LI (M:MH)(b:Addr)(n K:Nat)(p q:Addr)(ds:List De)(it:Dat)(base:ES)(es:List De):Nat->ASt->MH->Prop:=fun j ρ M'=>∃ cur e2 l u8 u9 u10,ρ=ESr b n ds p (some (.d it)) cur (some (.ref q)) u8 u9 u10/\SB M M' b (K+10 * j)/\M' p=some (.lst (((es ++ e2).map dD).map .d))/\M' q=some (.lst ((l.map enD).map .d))/\e2.length<=j/\l.length<=j/\qC (es ++ e2) ((qA 0 1 n).map some,none) cur/\yE base l cur
noncomputable def LW (M:MH)(b:Addr)(n K:Nat)(p q:Addr)(ds:List De)(it:Dat)(base:ES)(B:Nat):Nat->ASt->MH->Prop:=fun m ρ M'=>∃ cur es l u8 u9 u10,ρ=ESr b n ds p (some (.d it)) cur (some (.ref q)) u8 u9 u10/\SB M M' b K/\M' p=some (.lst ((es.map dD).map .d))/\M' q=some (.lst ((l.map enD).map .d))/\l.length=m/\es.length+m<=B/\qC es ((qA 0 1 n).map some,none) cur/\yE base l cur
theorem Dl (l:List (De × ES)):dp (.lst (l.map enD))<=40:=by
 rw [dp]
 refine Nat.le_trans (Nat.succ_le_succ (jF (n:=5) fun d hd=>?_)) (by decide)
 obtain ⟨z,_,rfl⟩:=List.mem_map.mp hd
 rw [dp]
 refine Nat.succ_le_succ (jF (n:=4) fun d hd=>?_)
 simp only [List.mem_cons,List.not_mem_nil,or_false] at hd
 rcases hd with rfl | rfl | rfl
 ·cases z.1 <;> simp [dD,dp,dps]
 ·rw [dp]
  refine Nat.succ_le_succ (jF (n:=3) fun d hd=>?_)
  obtain ⟨c,_,rfl⟩:=List.mem_map.mp hd
  cases c <;> simp [oD,dp]
 ·cases z.2.2 <;> simp [oD,dp]
theorem x9 {t:AS}{ag:AG}{x:AV}{B:MH}{D:qB}{ρ:ASt}{M:MH}(h:∀ D',D'=D->ag x ρ M fun ρ' M'=>t B D' ρ' M'):ag x ρ M fun ρ' M'=>t B D ρ' M':=h D rfl
noncomputable abbrev Z0:Stmt:=top 17
theorem Q2:zO ["_law_box_here","_law_n","_law_plan_here","_law_found","_law_deed_here","_law_row","_law_hand","_law_some","_law_turn","_law_more","_law_back"] ["_law_box_here","_law_n","_law_plan_here"] (zn Z0):=⟨rfl,rfl,rfl,by decide +kernel,rfl,by decide +kernel,by decide +kernel⟩
theorem Wo (a:At K mg "_law_loosened" Z0)(B:Blt mg)(D_law_take:Df P w K mg base "_law_take" ["_law_box_here","_law_many"] 2 (cSp wI))(D_law_deed:Df P w K mg base "_law_deed" ["_law_box_here","_law_row","_law_hand"] 2 (cSp YB))(D_law_done:Df P w K mg base "_law_done" ["_law_row","_law_hand","_law_deed_here"] 2 (cSp Xw)):Df P w K mg base "_law_loosened" ["_law_box_here","_law_n","_law_plan_here"] 3 (cSp XB):=by
  refine dfA (k:=2) a Q2 (fun _ _ _ _ _ _=>Pn3_ fun _ _ _=>rfl) (fun xs M Q h=>?_) (fun f cdv A outer s H E hr=>?_)
  · obtain ⟨_,_,_,_,_,rfl,_⟩:=h;rfl
  have sc:=Q2
  have hsl:=hsl
  refine' ⟨_,?q0,?qr⟩
  (case q0=>
    refine' zd ?q1 ?q2
    (case q1=>exact (ZK (i:=5) (j:=6) rfl sc.nd rfl rfl (by decide) rfl rfl (za (zP (jt rfl) rfl B.list qV (za (zP jW rfl B.range yn (za (pv 1) zb)) zb)) (za zN zb)) rfl))
    (case q2=>
      refine' zd ?q3 ?q4
      (case q3=>exact (zS (i:=3) sc.nd rfl (by first | exact Or.inl rfl | exact Or.inr rfl) (jH (zW zb))))
      (case q4=>
        refine' zd ?q5 ?q6
        (case q5=>
          refine' jv ?q7 ?q8 ?q9 ?q10 ?q11
          (case q7=>exact PassesOwn.never)
          (case q8=>exact rfl)
          (case q9=>exact (yd (zz yl (pv 2) (zW (za zN zb)))))
          (case q10=>exact (zA (i:=4) sc.nd rfl (by first | exact Or.inl rfl | exact Or.inr rfl)))
          (case q11=>
            refine' zd ?q12 ?q13
            (case q12=>exact (zS (i:=7) sc.nd rfl (by first | exact Or.inl rfl | exact Or.inr rfl) (jH (zW zb))))
            (case q13=>
              refine' zd ?q14 ?q15
              (case q14=>exact (jv PassesOwn.never rfl (jC rfl B.range (za (zh zu (zW (za zc (za zc (za zc (za zc zb))))) (zK D_law_take hr rfl (za (pv 0) (za zc zb))) (fun _ _=>rfl)) zb)) (zA (i:=8) sc.nd rfl (by first | exact Or.inl rfl | exact Or.inr rfl)) (zd (zS (i:=9) sc.nd rfl (by first | exact Or.inl rfl | exact Or.inr rfl) (zK D_law_deed hr rfl (za (pv 0) (za (pv 5) (za (pv 6) zb))))) (zg (zU (zl jo (pv 9) zN (zj _)) (zd (qL (kq PySem.F.plainAttrs_list PySem.F.slot_list_append PySem.F.type_list_append qj (pv 7) (za (zM (za (pv 9) (za (pv 5) (za (pv 6) zb)))) zb))) (zd (qL (kq PySem.F.plainAttrs_list PySem.F.slot_list_append PySem.F.type_list_append qj (pv 3) (za (pv 9) zb))) (zg (qm (zK D_law_done hr rfl (za (pv 5) (za (pv 6) (za (pv 9) zb)))) (qp (K:=K) 2 rfl rfl (zv (zA (i:=5) sc.nd rfl (by first | exact Or.inl rfl | exact Or.inr rfl)) (zv (zA (i:=6) sc.nd rfl (by first | exact Or.inl rfl | exact Or.inr rfl)) qu))))))) zC)))))
              (case q15=>
                refine' zd ?q16 ?q17
                (case q16=>
                  refine' Ki ?q18 ?q19 ?q20
                  (case q18=>exact PassesOwn.never)
                  (case q19=>exact (zl (qT hr.units) (pv 7) (zW zb) (zj _)))
                  (case q20=>
                    refine' zd ?q21 ?q22
                    (case q21=>exact (qm (Yz PySem.F.plainAttrs_list PySem.F.slot_list_pop PySem.F.type_list_pop KH (pv 7)) (qp (K:=K) 3 rfl rfl (zv (zA (i:=9) sc.nd rfl (by first | exact Or.inl rfl | exact Or.inr rfl)) (zv (zA (i:=5) sc.nd rfl (by first | exact Or.inl rfl | exact Or.inr rfl)) (zv (zA (i:=6) sc.nd rfl (by first | exact Or.inl rfl | exact Or.inr rfl)) qu))))))
                    (case q22=>
                      refine' zd ?q23 ?q24
                      (case q23=>
                        refine' zS (i:=10) ?q25 ?q26 ?q27 ?q28
                        (case q25=>exact sc.nd)
                        (case q26=>exact rfl)
                        (case q27=>exact (by first | exact Or.inl rfl | exact Or.inr rfl))
                        (case q28=>
                          refine' Qo ?q29 ?q30 ?q31 ?q32 ?q33
                          (case q29=>
                            refine' j6 ?q34 ?q35 ?q36
                            (case q34=>exact zD)
                            (case q35=>exact (zz xI (zM (za zD zb)) (xm (qg jp (pv 9) (qd zc) qt) (qd (yN kY zc)))))
                            (case q36=>
                              refine' j6 ?q37 ?q38 ?q39
                              (case q37=>exact zD)
                              (case q38=>exact (zz xI (zM (za zD zb)) (qg jp (pv 9) (qd zc) qt)))
                              (case q39=>
                                refine' j6 ?q40 ?q41 ?q42
                                (case q40=>exact zD)
                                (case q41=>exact (zz xI (zM (za zD zb)) (qg jp (pv 9) (qd zc) qt)))
                                (case q42=>exact Ja))))
                          (case q30=>exact rfl)
                          (case q31=>exact rfl)
                          (case q32=>exact (fun z=>nomatch z))
                          (case q33=>exact (by decide))))
                      (case q24=>exact (zd (Wk (Qw hr) (pv 10) zD (zz xI (zM (za zD zb)) (xm (qg jp (pv 9) (qd zc) qt) (qd (yN kY zc)))) rfl) (zg (qL (kq PySem.F.plainAttrs_list PySem.F.slot_list_append PySem.F.type_list_append qj (pv 3) (za (QX (Qw hr) (pv 10) (zh zu (pv 9) zc (fun _ _=>rfl)) (fun _ _=>rfl)) zb)))))))))
                (case q17=>exact (zg (zU (zl jo (pv 4) zN (zj _)) (zd (qL (kq PySem.F.plainAttrs_list PySem.F.slot_list_append PySem.F.type_list_append qj (pv 3) (za (pv 4) zb))) (zg (qm (zK D_law_done hr rfl (za (pv 5) (za (pv 6) (za (pv 4) zb)))) (qp (K:=K) 2 rfl rfl (zv (zA (i:=5) sc.nd rfl (by first | exact Or.inl rfl | exact Or.inr rfl)) (zv (zA (i:=6) sc.nd rfl (by first | exact Or.inl rfl | exact Or.inr rfl)) qu)))))) zC)))))))
        (case q6=>exact (zg (zG (pv 3)))))))
  refine ex2 (by walk_at "sim") ?_
  rintro xs M Q ⟨b,n,N,ds,st,rfl,hb,hN,hn,hl,hd,q⟩
  rw [show qz ["_law_box_here","_law_n","_law_plan_here","_law_found","_law_deed_here","_law_row","_law_hand","_law_some","_law_turn","_law_more","_law_back"] [.ref b,.d (.int n),.d (.lst (ds.map dD))]=[some (.ref b),some (.d (.int n)),some (.d (.lst (ds.map dD))),none,none,none,none,none,none,none,none] from rfl]
  refine zm fun r1 hr1=>?_
  walk_at "ra"
  refine ⟨0,n,1,rfl,small_one (by omega) (by omega) (by omega) (by omega),n,by rw [rangeSize_one];split <;> omega,by omega,?_⟩
  subst hr1
  refine zm fun r1 hr1=>?_
  walk_at "ra"
  intro p hp _
  have pb:p ≠ b:=fun z=>hb.ne (z ▸ hp)
  subst hr1
  refine zm fun r1 hr1=>?_
  walk_at "ra"
  have er:(.lst (List.map Dat.int (qA 0 1 n)):Dat)=.lst (((qA 0 1 n).map some).map oD):=by rw [List.map_map];rfl
  rw [er]
  have pa:List.map AV.d (List.map dD ds) ++ [AV.d Dat.non]=(ds.map dD ++ [Dat.non]).map AV.d:=by rw [List.map_append];rfl
  refine ⟨by rw [sizeLine_eq];decide,by rw [sizeLine_eq];omega,_,by rw [pa];exact zF _,?_⟩
  refine ⟨LO M b n N p ds st,⟨none,((qA 0 1 n).map some,none),[],none,none,none,none,rfl,(SB.refl hb).put hp pb _,ze,Nat.zero_le _,by rw [List.length_map,qJ],.nil,hd⟩,?_,?_⟩
  · rintro i x ρ M1 hx ⟨u4,⟨row,hd0⟩,es,u7,u8,u9,u10,rfl,sb,hpl,le,lr,d1,d2⟩
    have lr:row.length=n:=lr
    rw [List.getElem?_map] at hx
    obtain ⟨it,hit,rfl⟩:=Option.map_eq_some_iff.mp hx
    have hil:i<ds.length+1:=by
      have:=(List.getElem?_eq_some_iff.mp hit).1
      rw [List.length_append,List.length_map] at this
      exact this
    refine ⟨trivial,?_⟩
    refine x9 fun D1 hD1=>?_
    show ja _ _ _ _ _ _
    refine zm fun r2 hr2=>?_
    walk_at "ra"
    intro qq hq _
    obtain ⟨q0,qb⟩:=sb.new hq
    have pq:p ≠ qq:=fun z=>by rw [z,hq] at hpl;cases hpl
    subst hr2
    refine zm fun r2 hr2=>?_
    walk_at "ra"
    have sbq:=sb.put q0 qb (.lst [])
    have hpq:mup M1 qq (.lst []) p=some (.lst ((es.map dD).map .d)):=(zq pq).trans hpl
    generalize hM2:mup M1 qq (.lst [])=M2 at *
    have hqq:M2 qq=some (.lst []):=by rw [<- hM2];exact ze
    refine ⟨by rw [sizeLine_eq];decide,b,4,_,rfl,sbq.bx,by omega,by omega,by omega,fun u M3 s3 u0 u1=>?_⟩
    have sb3:=sbq.go s3
    have p3:=(s3.at pb).trans hpq
    have q3:=(s3.at qb).trans hqq
    have hj:∃ jj:Nat,jj<=3/\atI [AV.d (Dat.int 0),AV.d (Dat.int 0),AV.d (Dat.int 1),AV.d (Dat.int 3)] u=some (.d (.int jj)):=by
      have:u=0 \/ u=1 \/ u=2 \/ u=3:=by omega
      rcases this with rfl | rfl | rfl | rfl
      · exact ⟨0,by omega,rfl⟩
      · exact ⟨0,by omega,rfl⟩
      · exact ⟨1,by omega,rfl⟩
      · exact ⟨3,by omega,rfl⟩
    obtain ⟨jj,jl,hat⟩:=hj
    refine ⟨_,rfl,_,hat,_,rfl,by omega,by omega,?_⟩
    rw [Int.toNat_natCast]
    refine ⟨LI M b n (N+100 * i+1) p qq ds it (row,hd0) es,⟨(row,hd0),[],[],u8,u9,u10,rfl,sb3,by rw [List.append_nil];exact p3,q3,Nat.le_refl _,Nat.le_refl _,by rw [List.append_nil];exact d1,.nil⟩,?_,?_⟩
    · rintro j x ρ M4 hx ⟨⟨row1,hd1⟩,e2,l2,v8,v9,v10,rfl,sb4,p4,q4,le2,ll2,d3,pe⟩
      obtain ⟨hjj,rfl⟩:=jY hx
      have lr1:row1.length=n:=by rw [d3.len];show ((qA 0 1 n).map some).length=n;rw [List.length_map,qJ]
      refine ⟨trivial,?_⟩
      refine x9 fun D2 hD2=>?_
      show ja _ _ _ _ _ _
      refine zm fun r3 hr3=>?_
      walk_at "ra"
      refine ⟨b,row1,hd1,_,rfl,sb4.bx,by omega,by omega,fun M5 s5=>?_⟩
      have sb5:=(sb4.go s5).mono (show _<=N+100 * i+1+10 * (j+1) by omega)
      have p5:=(s5.at pb).trans p4
      have q5:=(s5.at qb).trans q4
      refine ⟨?_,fun d t hdt=>?_⟩
      · subst hr3
        walk_at "ra"
        subst hD2
        exact ⟨(row1,hd1),e2,l2,_,_,_,rfl,sb5,p5,q5,by omega,by omega,d3,pe⟩
      · subst hr3
        walk_at "ra"
        rw [if_pos (by cases d <;> rfl)]
        have s1:((l2.map enD).map AV.d).length<sizeLine:=by simp only [List.length_map];rw [sizeLine_eq];omega
        have s2:(((es ++ e2).map dD).map AV.d).length<sizeLine:=by simp only [List.length_map,List.length_append];rw [sizeLine_eq];omega
        have pq5:=fun o=>(zq (M:=M5) (o:=o) pq).trans p5
        refine ⟨⟨_,qM q5⟩,by rw [sizeLine_eq];decide,_,q5,s1,⟨_,qM (pq5 _)⟩,_,pq5 _,s2,d,(row1,hd1),t,rfl,hdt,by show row1.length<=1000;omega,_,rfl,rfl,_,_,rfl,_,_,rfl,rfl,?_⟩
        subst hD2
        refine ⟨t,e2 ++ [d],l2 ++ [(d,(row1,hd1))],_,_,_,rfl,(sb5.put q0 qb _).put hp pb _,?_,?_,by rw [List.length_append];exact Nat.succ_le_succ le2,by rw [List.length_append];exact Nat.succ_le_succ ll2,by rw [<- List.append_assoc];exact d3.append (.one hdt),.snoc pe hdt⟩
        · rw [ze];simp only [List.map_append,List.append_assoc,List.map_cons,List.map_nil]
        · rw [zq (Ne.symm pq),ze];simp only [List.map_append,List.map_cons,List.map_nil]
    · rintro ρ M4 ⟨⟨row1,hd1⟩,e2,l2,v8,v9,v10,rfl,sb4,p4,q4,le2,ll2,d3,pe⟩
      refine ⟨trivial,?_⟩
      rw [jV] at sb4 le2 ll2
      subst hr2
      show ja (Xt _ _) _ _ _ _ _
      refine zm fun r3 hr3=>?_
      unfold ja
      refine ⟨fun m ρ M'=>LW M b n (N+100 * i+1+10 * jj) p qq ds it (row,hd0) (es.length+6) m ρ M',⟨l2.length,(row1,hd1),es ++ e2,l2,v8,v9,v10,rfl,sb4,p4,q4,rfl,by rw [List.length_append];omega,d3,pe⟩,?_⟩
      rintro m ρ M5 ⟨⟨row2,hd2⟩,e5,l5,w8,w9,w10,rfl,sb5,p5,q5,hm,le5,d5,pe5⟩
      walk_at "ra"
      refine ⟨_,wR q5 (zF _),Dl _,by rw [dp];exact Nat.le_of_ble_eq_true rfl,?_⟩
      by_cases hl5:l5=[]
      · subst hl5
        rw [if_neg (by rw [AC];decide)]
        have hb0:=pe5.nil_inv rfl
        cases hb0
        subst hr3
        walk_at "ra"
        have le6:es.length<=10 * i:=le
        by_cases ci:i<ds.length
        · have hit' : it = dD ds[i] := by
            rw [List.getElem?_append_left (by rw [List.length_map];exact ci),List.getElem?_map,List.getElem?_eq_getElem ci] at hit
            exact (Option.some.inj hit).symm
          subst hit'
          have hdr:ds.drop i=ds[i] :: ds.drop (i+1):=List.drop_eq_getElem_cons ci
          rw [hdr] at d2
          cases d2 with
          | @cons _ _ _ t _ h1 h2=>
            rw [if_pos (by cases ds[i] <;> rfl)]
            refine ⟨⟨_,qM p5⟩,_,p5,by simp only [List.length_map];rw [sizeLine_eq];omega,ds[i],(row,hd0),t,rfl,h1,by show row.length<=1000;omega,_,rfl,rfl,_,_,rfl,_,_,rfl,rfl,?_⟩
            subst hD1
            refine ⟨_,t,e5 ++ [ds[i]],_,_,_,_,rfl,(sb5.mono (by omega)).put hp pb _,?_,by rw [List.length_append,List.length_singleton];omega,h1.len.trans lr,d5.append (.one h1),h2⟩
            rw [ze];simp only [List.map_append,List.map_cons,List.map_nil]
        · have hit' : it = .non := by
            have hi:i=ds.length:=by omega
            subst hi
            rw [List.getElem?_append_right (by rw [List.length_map];exact Nat.le_refl _),List.length_map,Nat.sub_self] at hit
            exact (Option.some.inj hit).symm
          subst hit'
          rw [if_neg (by decide)]
          subst hD1
          refine ⟨_,(row,hd0),e5,_,_,_,_,rfl,sb5.mono (by omega),p5,by omega,lr,d5,?_⟩
          rw [List.drop_eq_nil_of_le (by omega)] at d2 ⊢
          exact d2
      · obtain ⟨l',d,s,rfl,pe',hdt⟩:=pe5.snoc_inv hl5
        rw [if_pos (by rw [AC];cases l' <;> rfl)]
        have q5':M5 qq=some (.lst ((l'.map enD).map .d ++ [AV.d (enD (d,s))])):=by rw [q5];simp only [List.map_append,List.map_cons,List.map_nil]
        refine ⟨⟨_,qM q5'⟩,_,q5',AV.d (enD (d,s)),by rw [List.length_append,List.length_singleton,Nat.add_sub_cancel,List.getElem?_append_right (Nat.le_refl _),Nat.sub_self];rfl,_,rfl,rfl,_,_,rfl,_,_,rfl,_,_,rfl,rfl,?_⟩
        rw [List.dropLast_concat]
        have q6:mup M5 qq (.lst ((l'.map enD).map .d)) qq=_:=ze
        have p6:=(zq (M:=M5) (o:=.lst ((l'.map enD).map .d)) pq).trans p5
        have sb6:=sb5.put q0 qb (.lst ((l'.map enD).map .d))
        generalize mup M5 qq (.lst ((l'.map enD).map .d))=M6 at *
        intro D hD
        obtain ⟨D0,Db⟩:=sb6.new hD
        have sz:∀ k:Nat,k<=10->k<=sizeLine:=fun k h=>by rw [sizeLine_eq];omega
        rw [BW d]
        have lp:(pD d).length<=2:=by cases d <;> exact Nat.le_of_ble_eq_true rfl
        have b1:0+1+(kh (Dat.str (wD d) :: pD d) (some 1) none).length<=sizeLine:=by rw [DC];exact sz _ (by omega)
        have b2:0+1+(kh (Dat.str (wD d) :: pD d) (some 1) none).reverse.length<=sizeLine:=by rw [List.length_reverse];exact b1
        have s1:=sz 1 (by omega)
        have nn:∀ x:Dat,[x] ≠ []:=fun x=>List.cons_ne_nil _ _
        refine ⟨s1,_,rfl,Wd _ _,.inr ⟨nn _,b2,s1,_,rfl,Wd _ _,nn _,b1,s1,_,rfl,Wd _ _,nn _,b1,[(Str.ofString "swap",.d (.tup (.str (Str.ofString "swap") :: (kh (Dat.str (wD d) :: pD d) (some 1) none).reverse))),(Str.ofString "take",.d (.tup (.str (Str.ofString "lay") :: kh (Dat.str (wD d) :: pD d) (some 1) none))),(Str.ofString "lay",.d (.tup (.str (Str.ofString "take") :: kh (Dat.str (wD d) :: pD d) (some 1) none)))],rfl,Nat.le_of_ble_eq_true rfl,nd3,ze,s1,_,rfl,Wd _ _,.inr ⟨nn _,b2,_,ze,Nat.lt_of_lt_of_le (by decide:3<4) (by decide),?_⟩⟩⟩
        rw [DC]
        have nDp:p ≠ D:=fun z=>by rw [z,hD] at p6;cases p6
        have nDq:qq ≠ D:=fun z=>by rw [z,hD] at q6;cases q6
        have p7:=fun o=>(zq (M:=M6) (o:=o) nDp).trans p6
        rw [List.length_append,List.length_singleton] at hm
        refine ⟨⟨_,qM (p7 _)⟩,_,rfl,_,at0 _ _,_,ze,_,rfl,_,Jy d,_,p7 _,by simp only [List.length_map];rw [sizeLine_eq];omega,l'.length,by omega,s,e5 ++ [d.bk],l',_,_,_,rfl,(sb6.put D0 Db _).put hp pb _,?_,?_,rfl,by rw [List.length_append,List.length_singleton];omega,d5.append (.one hdt.bk),pe'⟩
        · rw [ze];simp only [List.map_append,List.map_cons,List.map_nil]
        · rw [zq (Ne.symm pq),zq nDq];exact q6
  · rintro ρ M1 ⟨u4,⟨row,hd0⟩,es,u7,u8,u9,u10,rfl,sb,hpl,le,lr,d1,d2⟩
    refine ⟨trivial,?_⟩
    subst hr1
    walk_at "ra"
    rw [List.length_map,List.length_append,List.length_map] at sb le
    have sb:=sb.mono (show _<=N+5000 by simp;omega)
    exact sb.frz hp pb hpl (zF _) fun M' s=>q M' es _ s (by simp at le;omega) d1
theorem SB.mdel {M0 M:MH}{b p:Addr}{N:Nat}(s:SB M0 M b N)(h0:M0 p=none)(hb:p ≠ b):SB M0 (mdel M p) b N:=by
 refine ⟨?_,fun q hq hqb=>?_,s.b0⟩
 ·obtain ⟨x,y,z,h1,h2⟩:=s.bx
  exact ⟨x,y,z,by rw [qE (Ne.symm hb)];exact h1,h2⟩
 ·rw [qE (fun z=>hq (by rw [z];exact h0))];exact s.fr q hq hqb
noncomputable def Kw:ASp:=fun xs M Q=>∃ (b:Addr) (n N:Nat) (m:Int),xs=[.ref b,.d (.int n),.d (.int m)]/\n<=1000/\0<=m/\m<=100/\BxM M b N/\N<1000000 /\
 ∀ M' (ds:List De) (st:ES),BxS M M' b (N+10 * m.toNat)->ds.length<=m.toNat->qC ds ((qA 0 1 n).map some,none) st->Q (.d (.tup [.lst (ds.map dD),.lst (st.1.map oD),oD st.2])) M'
noncomputable def PL (M:MH)(b:Addr)(n N:Nat)(m:Int)(p:Addr):Nat->ASt->MH->Prop:=fun i ρ M'=>∃ (u3 u7:Option Dat) (st:ES) (ds:List De),ρ=[some (.ref b),some (.d (.int n)),some (.d (.int m)),u3.map .d,some (.d (.lst (st.1.map oD))),some (.d (oD st.2)),some (.ref p),u7.map .d]/\SB M M' b (N+10 * i)/\M' p=some (.lst ((ds.map dD).map .d))/\(∀ q,q ≠ b->q ≠ p->M' q=M q)/\ds.length<=i/\st.1.length=n/\qC ds ((qA 0 1 n).map some,none) st
noncomputable abbrev Z2:Stmt:=top 12
theorem QI:zO ["_law_box_here","_law_n","_law_many","_law_turn","_law_row","_law_hand","_law_plan_here","_law_deed_here"] ["_law_box_here","_law_n","_law_many"] (zn Z2):=⟨rfl,rfl,rfl,by decide +kernel,rfl,by decide +kernel,by decide +kernel⟩
theorem V5 (a:At K mg "_law_plan" Z2)(B:Blt mg)(D_law_deed:Df P w K mg base "_law_deed" ["_law_box_here","_law_row","_law_hand"] 2 (cSp YB))(D_law_done:Df P w K mg base "_law_done" ["_law_row","_law_hand","_law_deed_here"] 2 (cSp Xw)):Df P w K mg base "_law_plan" ["_law_box_here","_law_n","_law_many"] 3 (cSp Kw):=by
 refine dfA (k:=2) a QI (fun _ _ _ _ _ _=>Pn3_ fun _ _ _=>rfl) (fun xs M Q h=>?_) (fun f cdv A outer s H E hr=>?_)
 ·obtain ⟨_,_,_,_,rfl,_⟩:=h;rfl
 have sc:=QI
 have hsl:=hsl
 refine' ⟨_,?q0,?qr⟩
 (case q0=>
  refine' zd ?q1 ?q2
  (case q1=>exact (QY (i:=4) (j:=5) (k:=6) rfl sc.nd rfl rfl rfl (by decide) (by decide) (by decide) rfl rfl rfl (za (zP (jt rfl) rfl B.list qV (za (zP jW rfl B.range yn (za (pv 1) zb)) zb)) (za zN (za (jH (zW zb)) zb))) rfl))
  (case q2=>
   refine' zd ?q3 ?q4
   (case q3=>
    refine' jv ?q5 ?q6 ?q7 ?q8 ?q9
    (case q5=>exact PassesOwn.never)
    (case q6=>exact rfl)
    (case q7=>exact (jC rfl B.range (za (pv 2) zb)))
    (case q8=>exact (zA (i:=3) sc.nd rfl (by first | exact Or.inl rfl | exact Or.inr rfl)))
    (case q9=>
     refine' zd ?q10 ?q11
     (case q10=>
      refine' zS (i:=7) ?q12 ?q13 ?q14 ?q15
      (case q12=>exact sc.nd)
      (case q13=>exact rfl)
      (case q14=>exact (by first | exact Or.inl rfl | exact Or.inr rfl))
      (case q15=>
       refine' zK ?q16 ?q17 ?q18 ?q19
       (case q16=>exact D_law_deed)
       (case q17=>exact hr)
       (case q18=>exact rfl)
       (case q19=>
        refine' za ?q20 ?q21
        (case q20=>exact (pv 0))
        (case q21=>
         refine' za ?q22 ?q23
         (case q22=>exact (pv 4))
         (case q23=>
          refine' za ?q24 ?q25
          (case q24=>exact (pv 5))
          (case q25=>exact zb))))))
     (case q11=>
      refine' zg ?q26
      (case q26=>
       refine' zU ?q27 ?q28 ?q29
       (case q27=>exact (zl jo (pv 7) zN (zj _)))
       (case q28=>
        refine' zd ?q30 ?q31
        (case q30=>exact (qL (kq PySem.F.plainAttrs_list PySem.F.slot_list_append PySem.F.type_list_append qj (pv 6) (za (pv 7) zb))))
        (case q31=>
         refine' zg ?q32
         (case q32=>
          refine' qm ?q33 ?q34
          (case q33=>
           refine' zK ?q35 ?q36 ?q37 ?q38
           (case q35=>exact D_law_done)
           (case q36=>exact hr)
           (case q37=>exact rfl)
           (case q38=>
            refine' za ?q39 ?q40
            (case q39=>exact (pv 4))
            (case q40=>
             refine' za ?q41 ?q42
             (case q41=>exact (pv 5))
             (case q42=>
              refine' za ?q43 ?q44
              (case q43=>exact (pv 7))
              (case q44=>exact zb)))))
          (case q34=>exact (qp (K:=K) 2 rfl rfl (zv (zA (i:=4) sc.nd rfl (by first | exact Or.inl rfl | exact Or.inr rfl)) (zv (zA (i:=5) sc.nd rfl (by first | exact Or.inl rfl | exact Or.inr rfl)) qu)))))))
       (case q29=>exact zC)))))
   (case q4=>
    refine' xG ?q45 ?q46
    (case q45=>exact 6)
    (case q46=>
     refine' zg ?q47
     (case q47=>
      refine' zG ?q48
      (case q48=>
       refine' zM ?q49
       (case q49=>
        refine' za ?q50 ?q51
        (case q50=>exact (pv 6))
        (case q51=>
         refine' za ?q52 ?q53
         (case q52=>exact (pv 4))
         (case q53=>
          refine' za ?q54 ?q55
          (case q54=>exact (pv 5))
          (case q55=>exact zb))))))))))
 refine ex2 (by walk_at "sim") ?_
 rintro xs M Q ⟨b,n,N,m,rfl,hn,hm0,hm1,hb,hN,q⟩
 rw [show qz ["_law_box_here","_law_n","_law_many","_law_turn","_law_row","_law_hand","_law_plan_here","_law_deed_here"] [.ref b,.d (.int n),.d (.int m)]=[some (.ref b),some (.d (.int n)),some (.d (.int m)),none,none,none,none,none] from rfl]
 refine zm fun r1 hr1=>?_
 walk_at "ra"
 refine ⟨0,n,1,rfl,small_one (by omega) (by omega) (by omega) (by omega),n,by rw [rangeSize_one];split <;> omega,by omega,fun p hp _=>?_⟩
 have pb:p ≠ b:=fun z=>hb.ne (z ▸ hp)
 subst hr1
 refine zm fun r1 hr1=>?_
 walk_at "ra"
 refine ⟨by omega,by omega,?_⟩
 refine ⟨PL M b n N m p,⟨none,none,((qA 0 1 n).map some,none),[],by rw [List.map_map];rfl,(SB.refl hb).put hp pb _,ze,fun q h1 h2=>zq h2,Nat.le_refl 0,by rw [List.length_map,qJ],.nil⟩,?_,?_⟩
 ·rintro i x ρ M1 hx ⟨u3,u7,⟨row,hd⟩,ds,rfl,sb,hpl,fr,ld,lr,hdo⟩
  have lr:row.length=n:=lr
  obtain ⟨hi,rfl⟩:=jY hx
  refine ⟨trivial,?_⟩
  refine x9 fun D1 hD1=>?_
  walk_at "ra"
  refine ⟨b,row,hd,_,rfl,sb.bx,by omega,by omega,fun M2 s2=>?_⟩
  have sb2:=(sb.go s2).mono (show _<=N+10 * (i+1) by omega)
  have p2:=(s2.at pb).trans hpl
  have fr2:∀ q,q ≠ b->q ≠ p->M2 q=M q:=fun q h1 h2=>(s2.at h1).trans (fr q h1 h2)
  refine ⟨?_,fun d t hdt=>?_⟩
  ·dsimp only
   rw [if_neg (by decide)]
   subst hD1
   exact ⟨some _,some _,(row,hd),ds,rfl,sb2,p2,fr2,by omega,lr,hdo⟩
  ·dsimp only
   rw [if_pos (by cases d <;> rfl)]
   refine ⟨⟨_,qM p2⟩,_,p2,by simp only [List.length_map];rw [sizeLine_eq];omega,d,(row,hd),t,rfl,hdt,by show row.length<=1000;omega,_,rfl,rfl,_,_,rfl,_,_,rfl,rfl,?_⟩
   subst hD1
   refine ⟨some _,some _,t,ds ++ [d],rfl,sb2.put hp pb _,?_,fun q h1 h2=>(zq h2).trans (fr2 q h1 h2),by rw [List.length_append];exact Nat.succ_le_succ ld,hdt.len.trans lr,hdo.append (.one hdt)⟩
   rw [ze];simp only [List.map_append,List.map_cons,List.map_nil]
 ·rintro ρ M1 ⟨u3,u7,st,ds,rfl,sb,hpl,fr,ld,lr,hdo⟩
  refine ⟨trivial,?_⟩
  rw [jV] at sb ld
  subst hr1
  walk_at "ra"
  refine ⟨_,hpl,_,zF _,hp,fun j hj z=>?_,fun q' o hq e=>?_,by rw [sizeLine_eq];decide,(SB.mdel sb hp pb).rt fun M' s=>q M' ds st s (by omega) hdo⟩
  ·match j with
   | 0=>exact pb (AV.ref.inj (Option.some.inj (Option.some.inj z))).symm
   | 1=>cases z
   | 2=>cases z
   | 3=>cases u3 <;> cases z
   | 4=>cases z
   | 5=>cases z
   | 6=>exact hj rfl
   | 7=>cases u7 <;> cases z
   | k+8=>cases z
  ·by_cases c:q'=b
   ·obtain ⟨x,y,z,h1,_⟩:=sb.bx
    rw [c,h1] at e
    cases e
    exact .inr fun r=>xD (l:=[AV.d (.int x),AV.d (.int y),AV.d (.int z)]) (ds:=[.int x,.int y,.int z]) rfl _ r
   ·exact .inl (by rw [<- fr q' c hq];exact e)
noncomputable abbrev Ys:Stmt:=top 18
theorem XI:zO ["_law_script","_law_k","_law_box_here","_law_n","_law_plan_here","_law_loose","_law_due_here","_law_handed","_law_found"] ["_law_script"] (zn Ys):=⟨rfl,rfl,rfl,by decide +kernel,rfl,by decide +kernel,by decide +kernel⟩
noncomputable def Qm (K:PySem.W.Frag):Sp:=fun vs H Q _=>∃ (a:Addr) (ns:List Int),vs=[.ref a]/\SqL K H a (ns.map V.int)/\ns.length<=63/\∀ H',Q (.bl true) H'
noncomputable def DG (K:PySem.W.Frag):ASp:=fun xs M Q=>∃ ns:List Int,xs=[.d (.scr K ns)]/\ns.length<=63/\Q (.d (.bl true)) M
theorem sp_law (vs:List V)(H:Hp)(Q:VK)(E:XK)(h:Qm K vs H Q E):cSp (DG K) vs H Q E:=by
 obtain ⟨a,ns,rfl,ha,hn,q⟩:=h
 refine ⟨[.d (.scr K ns)],fun _=>none,fun _=>False,fun x _=>x=.d (.bl true),⟨(fun a o e=>nomatch e),(fun a h=>h rfl),fun a h=>h.elim⟩,.cons (Y8 (fun _ z=>z) ha) .nil,⟨ns,rfl,hn,rfl⟩,fun x M' v H' O' hx _ _ r=>?_⟩
 subst hx
 rw [yv r]
 exact q H'
theorem WT:dD=deD:=funext fun d=>by cases d <;> rfl
theorem WV {d:De}{s t:ES}(h:DoE d s t):Sw2 d:=fun a b e=>by subst e;cases h with | swap ne _ _=>exact ne
theorem Xq {l:List De}{s t:ES}(h:qC l s t):∀ d ∈ l,Sw2 d:=by
 induction h with
 | nil=>intro d hd;cases hd
 | cons h1 _ ih=>
  intro d hd
  rcases List.mem_cons.mp hd with rfl | hd
  ·exact WV h1
  ·exact ih d hd
theorem K6 (ds:List De):tid (tid ds)=tid ds:=by
 have red:Red ((tid ds).map De.nf):=by
  unfold tid;rw [vI];exact v6 _ _ (fun i e d h=>by simp at h)
 have pre:∀ (a b:List De) i e,a[i]?=some e->(a ++ b)[i]?=some e:=fun a b i e h=>by rw [List.getElem?_append_left (List.getElem?_eq_some_iff.mp h).1];exact h
 have st:∀ (l:List De) d,Red ((l ++ [d]).map De.nf)->zX l d=l ++ [d]:=fun l d h=>by
  unfold zX
  cases e:l.getLast? with
  | none=>rfl
  | some x=>
   refine if_neg fun c=>?_
   obtain ⟨l',rfl⟩:=List.getLast?_eq_some_iff.mp e
   exact h l'.length x.nf d.nf (by simp) (by simp) ((kP d x).mp c)
 have go:∀ (r l:List De),Red ((l ++ r).map De.nf)->r.foldl zX l=l ++ r:=fun r=>by
  induction r with
  | nil=>intro l _;simp
  | cons d r ih=>
   intro l h
   have h':Red ((l ++ [d]).map De.nf):=fun i e g h1 h2=>by
    rw [List.getElem?_map] at h1 h2
    obtain ⟨e',k1,rfl⟩:=Option.map_eq_some_iff.mp h1
    obtain ⟨g',k2,rfl⟩:=Option.map_eq_some_iff.mp h2
    refine h i e'.nf g'.nf ?_ ?_ <;> rw [List.getElem?_map,show l ++ d :: r=(l ++ [d]) ++ r by simp]
    ·rw [pre _ _ _ _ k1];rfl
    ·rw [pre _ _ _ _ k2];rfl
   rw [List.foldl_cons,st l d h',ih (l ++ [d]) (by rw [show (l ++ [d]) ++ r=l ++ d :: r by simp];exact h)]
   simp
 have:=go (tid ds) [] (by rw [List.nil_append];exact red)
 rw [List.nil_append] at this
 exact this
theorem Dy {α:Type}(x y z:α):kh [x,y,z] none (some 2)=[x,y]:=rfl
theorem Dt {α:Type}(x y z:α):¬(HT.sIx [x,y,z].length 0 none=0/\HT.sIx [x,y,z].length [x,y,z].length (some 2)=[x,y,z].length):=fun h=>absurd h.2 (by show ¬(min 2 3=3);decide)
theorem BO (T:List (Option Int))(h:Option Int):dp (.tup [.lst (T.map cD),cD h])<=40:=by
 rw [dp]
 refine Nat.le_trans (Nat.succ_le_succ (jF (n:=3) fun d hd=>?_)) (by decide)
 simp only [List.mem_cons,List.not_mem_nil,or_false] at hd
 rcases hd with rfl | rfl
 ·rw [dp]
  refine Nat.succ_le_succ (jF (n:=2) fun d hd=>?_)
  obtain ⟨c,_,rfl⟩:=List.mem_map.mp hd
  cases c <;> simp [cD,dp]
 ·cases h <;> simp [cD,dp]
theorem wX {l:List De}(h:l.length<=100000):ki 3 (.lst (l.map deD)):=Yl (n:=2) (by rw [List.length_map];exact h) fun d hd=>by
 obtain ⟨c,_,rfl⟩:=List.mem_map.mp hd
 exact ⟨by cases c <;> simp [deD,dp,dps],by cases c <;> simp [deD,wdt,wA]⟩
theorem Ae (a:At K mg "law" Ys)(B:Blt mg)(D_law_box:Df P w K mg base "_law_box" ["_law_script","_law_k"] 19 (cSp Dv))(D_law_take:Df P w K mg base "_law_take" ["_law_box_here","_law_many"] 19 (cSp wI))(D_law_folded:Df P w K mg base "_law_folded" ["_law_script","_law_many"] 19 (cSp (Qg K)))(D_law_length:Df P w K mg base "_law_length" ["_law_box_here","_law_most"] 19 (cSp QG))
  (D_law_plan:Df P w K mg base "_law_plan" ["_law_box_here","_law_n","_law_many"] 19 (cSp Kw)) (D_law_loosened:Df P w K mg base "_law_loosened" ["_law_box_here","_law_n","_law_plan_here"] 19 (cSp XB)) (D_law_due:Df P w K mg base "_law_due" ["_law_plan_here"] 19 (cSp WC)) (D_law_gone:Df P w K mg base "_law_gone" ["_law_n","_law_plan_here"] 19 (cSp WL)) (D_law_same:Df P w K mg base "_law_same" ["_law_found","_law_due_here"] 19 (cSp (xQ 3)))
  (D_tidied_o:Df P w K mg base "tidied" ["plan"] 19 (cSp vV)) (D_tidied:Df P w K mg base "tidied" ["plan"] 19 (cSp wV)) (D_undone:Df P w K mg base "undone" ["plan"] 19 (cSp Q9)) :
  Df P w K mg base "law" ["_law_script"] 20 (cSp (DG K)):=by
 refine dfA (k:=19) a XI (fun _ _ _ _ _ _=>Pn1_ fun _=>rfl) (fun xs M Q h=>?_) (fun f cdv A outer s H E hr=>?_)
 ·obtain ⟨_,rfl,_⟩:=h;rfl
 have sc:=XI
 have hsl:=hsl
 refine ⟨_,(zd (zS (i:=0) sc.nd rfl (by first | exact Or.inl rfl | exact Or.inr rfl) (zK D_law_folded hr rfl (za (pv 0) (za zc zb))))
  (zd (jv PassesOwn.never rfl (jC rfl B.range (za (zo (yW rfl) rfl B.max X0 (za zc (za (zo zB rfl B.len qO (za (pv 0) zb)) zb))) zb)) (zA (i:=1) sc.nd rfl (by first | exact Or.inl rfl | exact Or.inr rfl)) (zd (zS (i:=2) sc.nd rfl (by first | exact Or.inl rfl | exact Or.inr rfl) (zK D_law_box hr rfl (za (pv 0) (za (pv 1) zb))))
  (zd (zS (i:=3) sc.nd rfl (by first | exact Or.inl rfl | exact Or.inr rfl) (zK D_law_length hr rfl (za (pv 2) (za zc zb))))
  (zd (zS (i:=4) sc.nd rfl (by first | exact Or.inl rfl | exact Or.inr rfl) (zh zu (zK D_law_plan hr rfl (za (pv 2) (za (pv 3) (za (zK D_law_take hr rfl (za (pv 2) (za zc zb))) zb)))) zc (fun _ _=>rfl)))
  (zd (zS (i:=5) sc.nd rfl (by first | exact Or.inl rfl | exact Or.inr rfl) (zK D_law_loosened hr rfl (za (pv 2) (za (pv 3) (za (pv 4) zb)))))
  (zd (zS (i:=6) sc.nd rfl (by first | exact Or.inl rfl | exact Or.inr rfl) (zK D_law_due hr rfl (za (pv 5) zb)))
  (zd (zU (zl (qT hr.units) (qg jp (zK D_law_gone hr rfl (za (pv 3) (za (pv 6) zb))) qt (qd zc)) (qg jp (zK D_law_gone hr rfl (za (pv 3) (za (pv 5) zb))) qt (qd zc)) (zj _)) (zg (zG v7)) zC)
  (zd (jv PassesOwn.never rfl (yd (zM (za (zP jd rfl B.list qV (za (pv 5) zb)) (za (zP yA rfl B.tuple kL (za (pv 5) zb)) zb)))) (zA (i:=7) sc.nd rfl (by first | exact Or.inl rfl | exact Or.inr rfl)) (zd (zS (i:=8) sc.nd rfl (by first | exact Or.inl rfl | exact Or.inr rfl) (zK D_tidied_o hr rfl (za (pv 7) zb)))
  (zd (zU (PW.pt (xo (ZW (kF (zK D_law_same hr rfl (za (pv 8) (za (pv 6) zb))) (fun _=>rfl))) (xo (ZW (kF (zK D_law_same hr rfl (za (zK D_tidied hr rfl (za (pv 8) zb)) (za (pv 6) zb))) (fun _=>rfl))) (kD (zl (qT hr.units) (zP jd rfl B.list qV (za (pv 7) zb)) (pv 5) (zj _)))))) (zg (zG v7)) zC)
  (zg (qL (kq PySem.F.plainAttrs_list PySem.F.slot_list_append PySem.F.type_list_append qj (pv 8) (za (zM (za zD (za zc zb))) zb)))))))
  (zg (zU (PW.pt (xo (ZW (kF (zK D_law_same hr rfl (za (zK D_tidied hr rfl (za (pv 4) zb)) (za (zK D_law_due hr rfl (za (pv 4) zb)) zb))) (fun _=>rfl))) (kD (zl (qT hr.units) (zK D_tidied hr rfl (za (zz yl (pv 4) (zK D_undone hr rfl (za (pv 4) zb))) zb)) (zW zb) (zj _))))) (zg (zG v7)) zC))))))))))
  (zg (zG v7)))),?_⟩
 refine ex2 (by walk_at "sim") ?_
 rintro xs M Q ⟨ns,rfl,hn,q⟩
 rw [show qz ["_law_script","_law_k","_law_box_here","_law_n","_law_plan_here","_law_loose","_law_due_here","_law_handed","_law_found"] [.d (.scr K ns)]=[some (.d (.scr K ns)),none,none,none,none,none,none,none,none] from rfl]
 refine zm fun r hr0=>?_
 walk_at "ra"
 refine ⟨6,ns,rfl,by omega,by omega,hn,fun cs lc=>?_⟩
 subst hr0
 refine zm fun r hr0=>?_
 walk_at "ra"
 have e2:(if (cs.length:Int) > 2 then (cs.length:Int) else 2)=((max 2 cs.length:Nat):Int):=by split <;> omega
 rw [e2,Int.toNat_natCast]
 refine ⟨by omega,by omega,?_⟩
 refine ⟨fun i ρ M'=>(∃ x1 x2 x3 x4 x5 x6 x7 x8,ρ=[some (.d (ilD cs)),x1,x2,x3,x4,x5,x6,x7,x8])/\Fr M M',⟨⟨_,_,_,_,_,_,_,_,rfl⟩,Fr.refl⟩,?_,?_⟩
 ·rintro i y ρ M1 hy ⟨⟨x1,x2,x3,x4,x5,x6,x7,x8,rfl⟩,f1⟩
  obtain ⟨hi,rfl⟩:=jY hy
  refine ⟨trivial,?_⟩
  rw [Int.zero_add,Int.mul_one]
  show ja _ _ _ _ _ _
  refine zm fun r2 hr2=>?_
  walk_at "ra"
  refine ⟨_,i,cs,rfl,Y0 _ _,by omega,by omega,by omega,fun b o hb bx=>?_⟩
  have b0:=f1.non hb
  have f2:=f1.mup b0 o
  have sb:=SB.refl bx
  generalize mup M1 b o=M2 at *
  subst hr2
  refine zm fun r2 hr2=>?_
  walk_at "ra"
  refine ⟨b,40,0,rfl,sb.bx,by omega,by omega,by omega,fun n M3 s3 n0 n1=>?_⟩
  have sb:=sb.go s3
  obtain ⟨n,rfl⟩:∃ k:Nat,n=k:=⟨n.toNat,by omega⟩
  subst hr2
  refine zm fun r2 hr2=>?_
  walk_at "ra"
  refine ⟨b,31,_,rfl,sb.bx,by omega,by omega,by omega,fun m M4 s4 m0 m1=>?_⟩
  have sb:=sb.go s4
  refine ⟨b,n,_,m,rfl,by omega,m0,by omega,sb.bx,by omega,fun M5 ds st s5 ld hd=>?_⟩
  have sb:=sb.go s5
  refine ⟨_,ZY _ _,.d (.lst (ds.map dD)),by simp only [List.map_cons];exact at0 _ _,?_⟩
  subst hr2
  refine zm fun r2 hr2=>?_
  walk_at "ra"
  refine ⟨b,n,_,ds,st,rfl,sb.bx,by omega,by omega,by omega,hd,fun M6 es st' s6 le hes=>?_⟩
  have sb:=sb.go s6
  have fm:=SB.frm f2 b0 sb
  clear sb s6 s5 s4 s3 bx f2
  rw [WT]
  subst hr2
  refine zm fun r2 hr2=>?_
  walk_at "ra"
  refine ⟨_,es,rfl,jL _ _,by omega,Xq hes,?_⟩
  subst hr2
  refine zm fun r2 hr2=>?_
  walk_at "ra"
  refine ⟨n,_,tid es,_,_,rfl,jL _ _,Y4 hes,by omega,fun mv=>?_⟩
  refine ⟨_,rfl,Dt _ _ _,n,_,es,_,_,rfl,jL _ _,hes,by omega,fun mv2=>?_⟩
  have dS:=BO st'.1 st'.2
  refine ⟨_,rfl,Dt _ _ _,dS,dS,?_⟩
  rw [Dy,Dy,if_neg (by rw [yq (Nat.lt_of_le_of_lt dS (by decide))];decide)]
  subst hr2
  refine zm fun r2 hr2=>?_
  walk_at "ra"
  have lt:(tid es).length<=10000:=Nat.le_trans (xN _) (by omega)
  have fT:=wX (l:=tid es) (by omega)
  have dE:=wv es
  refine ⟨by decide,fun j ρ M'=>(∃ u7 u8,ρ=[some (.d (ilD cs)),some (.d (.int i)),some (.ref b),some (.d (.int n)),some (.d (.lst (ds.map deD))),some (.d (.lst (es.map deD))),some (.d (.lst ((tid es).map deD))),u7,u8])/\Fr M M',⟨⟨_,_,rfl⟩,fm⟩,?_,?_⟩
  ·rintro j y ρ M7 hy ⟨⟨u7,u8,rfl⟩,f7⟩
   have sy:(∀ M':MH,zQ y M'=some ((es.map deD).map .d)):=fun M'=>by
    match j,hy with
    | 0,hy=>cases hy;exact jL _ _
    | 1,hy=>cases hy;exact ZY _ _
   clear hy
   refine ⟨trivial,?_⟩
   subst hr2
   show ja _ _ _ _ _ _
   refine zm fun r2 hr2=>?_
   walk_at "ra"
   refine ⟨_,es,rfl,sy _,by omega,fun p hp=>?_⟩
   have p0:=f7.non hp
   have f8:=f7.mup p0 (.lst (((tid es).map deD).map .d))
   have m8:mup M7 p (.lst (((tid es).map deD).map .d)) p=some (.lst (((tid es).map deD).map .d)):=ze
   generalize mup M7 p (.lst (((tid es).map deD).map .d))=M8 at *
   subst hr2
   refine zm fun r2 hr2=>?_
   walk_at "ra"
   refine ⟨_,_,_,rfl,wR m8 (zF _),kA _ _,fT,by omega,true,rfl,?_⟩
   rw [if_neg (by decide)]
   refine ⟨_,tid es,rfl,qc m8,lt,?_⟩
   rw [K6]
   refine ⟨_,_,_,rfl,kA _ _,kA _ _,fT,by omega,true,rfl,?_⟩
   rw [if_neg (by decide)]
   refine ⟨_,sy _,_,zF _,dE,dE,?_⟩
   rw [if_neg (by rw [yq (Nat.lt_of_le_of_lt dE (by decide))];decide)]
   subst hr2
   walk_at "ra"
   refine ⟨⟨_,qM m8⟩,by omega,_,m8,by simp only [List.length_map];omega,?_⟩
   exact ⟨⟨_,rfl⟩,f8.mup p0 _⟩
  ·rintro ρ M7 ⟨⟨u7,u8,rfl⟩,f7⟩
   refine ⟨trivial,?_⟩
   subst hr2
   walk_at "ra"
   refine ⟨_,ds,rfl,jL _ _,by omega,?_⟩
   refine ⟨_,ds,rfl,jL _ _,by omega,Xq hd,?_⟩
   refine ⟨_,_,_,rfl,kA _ _,kA _ _,wX (Nat.le_trans (xN _) (by omega)),by omega,true,rfl,?_⟩
   rw [if_neg (by decide)]
   refine ⟨_,ds,rfl,jL _ _,by omega,?_⟩
   refine ⟨_,Zk _ _,by simp only [List.length_map,List.length_reverse,sizeLine];omega,(ds ++ ds.reverse.map De.back).map deD,by rw [<- List.map_append,<- List.map_append];exact zF _,?_⟩
   refine ⟨_,_,rfl,jL _ _,by simp only [List.length_append,List.length_map,List.length_reverse];omega,?_⟩
   rw [XZ]
   refine ⟨_,kA _ _,by decide,by decide,?_⟩
   rw [if_neg (by decide)]
   exact ⟨⟨_,rfl⟩,f7⟩
 ·rintro ρ M1 ⟨⟨x1,x2,x3,x4,x5,x6,x7,x8,rfl⟩,f1⟩
  refine ⟨trivial,?_⟩
  subst hr0
  walk_at "ra"
  exact xw f1 q
end
theorem all_mk {l:PySem.W.OpenLaw}{w:World}{K:PySem.W.Frag}{h:Heap}{mg:Str->Option Value}{fa:Addr}(X:K.In h)(G:h.Ns mainGlobals mg)(hfa:mg "law"=some (.ref fa))(a:At K mg "law" Ys)(B:Blt mg)(Ball:mg "all"=none)(Bset:mg "set"=none)
  (a__law_take:At K mg "_law_take" Zs) (a__law_box:At K mg "_law_box" YS) (a__law_folded:At K mg "_law_folded" yi) (a__law_length:At K mg "_law_length" xO) (a__law_deed:At K mg "_law_deed" Zj) (a__law_done:At K mg "_law_done" Zi) (a__law_plan:At K mg "_law_plan" Z2) (a__law_same:At K mg "_law_same" xZ) (a__law_gone:At K mg "_law_gone" Qa) (a__law_undoes:At K mg "_law_undoes" Qe) (a__law_due:At K mg "_law_due" ZD) (a__law_loosened:At K mg "_law_loosened" Z0) (a_back_deed:At K mg "back_deed" vK) (a_undone:At K mg "undone" yo) (a_undoes:At K mg "undoes" ym) (a_tidied:At K mg "tidied" yc)
 :∃ fd:FuncData,(∀ (s:Shared) (v:Value),BindsTo s fd ⟨[v],[]⟩ [("_law_script",v)])/\∀ base:Heap,K.In base->base.Ns mainGlobals mg->kf l.prog w K mg base CX0 20 fa fd ["_law_script"] (Qm K):=by
 obtain ⟨f,fd,F,m⟩:=id a
 obtain rfl:fa=f:=by rw [hfa] at m;cases m;rfl
 obtain ⟨oc,od,kV,doc,pm,an,cdv,ct,osl,e,lk,hcd⟩:=F.ex
 refine ⟨fd,fun s v=>?_,fun base _ _=>?_⟩
 ·subst e;exact .of_eq rfl
 ·have T:=V3 (P:=l.prog) (w:=w) (base:=base) a__law_take B
  have tk:=T.imp' Vv
  have bd:=KS (P:=l.prog) (w:=w) (base:=base) a_back_deed B
  have dn:=VC (P:=l.prog) (w:=w) (base:=base) a__law_done B
  have de:=YZ (P:=l.prog) (w:=w) (base:=base) a__law_deed B tk
  have ti:=JB (P:=l.prog) (w:=w) (base:=base) a_tidied B (JN a_undoes B bd)
  have L:=Ae (P:=l.prog) (w:=w) (base:=base) a B (((AZ a__law_box B).imp' Az).mono (by decide)) (tk.mono (by decide)) (((JF a__law_folded B).imp' Ju).mono (by decide)) (((JQ a__law_length B T).imp' Jh).mono (by decide)) ((V5 a__law_plan B de (dn.mono (by decide))).mono (by decide)) ((Wo a__law_loosened B (tk.mono (by decide)) de (dn.mono (by decide))).mono (by decide)) ((Wj a__law_due B (VH a__law_undoes B Bset)).mono (by decide)) ((VD a__law_gone B).mono (by decide)) ((wc a__law_same B Ball 3).mono (by decide)) (ti.mono (by decide)) ((ti.imp' Y1).mono (by decide)) ((JX a_undone B bd).mono (by decide))
  exact (L.imp' (sp_law (K:=K))).fn m lk
theorem walk {l:PySem.W.OpenLaw}{q:Program}{loose:List Str}{XP:(Str->Option Value)->Heap->Prop}{YP:World->Heap->Prop}{d:DefRec}{K:Params->PySem.W.Frag}(hn:l.most=some 63)(hdf:d.params.defaults=[])
  (hY:∀ (w:World) (h:Heap),YP w h->(K w.params).In h)
  (F:∀ (w:World) (mg:Str->Option Value) (fa:Addr) (h:Heap),(K w.params).In h->h.Ns mainGlobals mg->mg d.name=some (.ref fa) ->
   ∃ fd:FuncData,(∀ (s:Shared) (u:Value),BindsTo s fd ⟨[u],[]⟩ [("_law_script",u)])/\∀ base:Heap,(K w.params).In base->base.Ns mainGlobals mg->kf l.prog w (K w.params) mg base CX0 20 fa fd ["_law_script"] (Qm (K w.params))) :
  PySem.W.WalkO q loose XP YP l.row.toRowW d [] (fun f vs=>PySem.call f vs):=
 L2.walk_of (n:=63) (k:=20) (x:="_law_script") (CX:=fun _=>CX0) (sp:=fun w=>Qm (K w.params)) hn (by decide) hdf ⟨rfl,rfl,by decide,by decide⟩ hY F (fun _ _ a ns hl _ hS=>⟨a,ns,rfl,hS,hl,fun _=>rfl⟩) fun _ _ _ _ _ z=>z
end Ot
theorem PySem.W.Fast.te12184358046021781140:True:=trivial
theorem PySem.W.Fast.te10726552822910296135:True:=trivial
theorem PySem.W.Fast.te8438591316457026749:True:=trivial
namespace PySem.W.Fast
def tw1108704024892340833:=()
def tw2013883577663282483:=()
def tw1819074285851695058:=()
def tw11353046475957081247:=()
def tw14151029229030474758:=()
def tw12709398980981040432:=()
def tw1079372398024703305:=()
def tw15063198659307511962:=()
def tw7845509444981950480:=()
def tw9394597937367774745:=()
def tw13367813483387271580:=()
def tw553078870158365627:=()
def tw17537226767864931354:=()
def tw17778116410784670778:=()
def tw6768340709281652789:=()
def tw15609157318100121464:=()
def tw1507215274726647376:=()
def tw16537392949610261609:=()
def tw10126178685473269551:=()
def tw7112113701992237775:=()
def tw18080084618803755692:=()
def tw18408122599718076368:=()
def tw15394264869041421444:=()
def tw13329140004389295565:=()
def tw2578379674196444589:=()
def tw14877354585624486360:=()
def tw6064554048452083306:=()
def tw17343943086536148334:=()
def tw14164685196660719067:=()
def tw12529326025859716471:=()
def tw16119062948001220501:=()
def tw17320811693383842155:=()
def tw16589913549273143431:=()
def tw7576911254201306955:=()
def tw18001830192966898092:=()
def tw16757344352969358316:=()
def tw15933720858081108594:=()
def tw12150889670286769691:=()
def tw153792834643144586:=()
def tw3591506236089483231:=()
def tw12995690724485929642:=()
def tw8198532924831025475:=()
def tw7363514794821029491:=()
def tw7610519042585727066:=()
def tw11093218355462403017:=()
def tw10555510122123856345:=()
def tw4029094357571670599:=()
def tw15710061821374768691:=()
def tw4244499538308674726:=()
def tw2546306445169818454:=()
def tw7960444172818223201:=()
def tw15666610256289553134:=()
def tw12865410082316752169:=()
def tw3631950950710116092:=()
def tw8864480608408201118:=()
def tw5628101299900328927:=()
def tw13752942642704213345:=()
def tw13180073155334119775:=()
def tw12385313052559682420:=()
def tw16631806027532163137:=()
def tw3152382042215340487:=()
def tw6546920105857457786:=()
def tw1850679554538308624:=()
def tw11788906296267880658:=()
def tw17079978402161939591:=()
def tw15821513147092486636:=()
def tw14314275094440755441:=()
def tw18340185115906674979:=()
def tw10471113762771605659:=()
def tw10203643884398225603:=()
def tw1765823540050403329:=()
def tw3130666685763330050:=()
def tw3084315555949383857:=()
def tw5634782397584933821:=()
def tw7110904174069829218:=()
def tw18352384369360094975:=()
def tw16224695300114125884:=()
def tw8949744160071224885:=()
def tw18241263002457561274:=()
def tw10505191249296249651:=()
def tw12942277138556838391:=()
def tw13338465753542695442:=()
def tw10197815556419281792:=()
def tw8342447929514298021:=()
def tw16857188502128671781:=()
def tw15204214930855729583:=()
def tw979987941383645065:=()
def tw15881557420408921034:=()
def tw5921571544243391724:=()
def tw2310629708868313139:=()
def tw7921468463587809280:=()
def tw14205657762505700190:=()
def tw11913810518335278383:=()
def tw7687282316442764663:=()
def tw17731765276963631164:=()
def tw10089599166384810133:=()
def tw18211783613390633521:=()
def tw16375295187773297723:=()
def tw8106599941071917666:=()
def tw10304436747210065997:=()
def tw15198367161575296250:=()
def tw14099561208316239212:=()
def tw6811915904413527227:=()
def tw2170901858580419027:=()
def tw3589425914317042435:=()
def tw17201261071912384222:=()
def tw11469450257751956225:=()
def tw10986526664320004908:=()
def tw2831784156752874746:=()
def tw17891709825932166290:=()
def tw15885717818749914852:=()
def tw2263895522445171594:=()
end PySem.W.Fast
open PySem PySem.W PyProof.Rows
set_option maxRecDepth 100000 in
set_option maxHeartbeats 0 in
theorem PySem.Challenge.cw_ownturn_k54_plans_tidied_holds : PySem.Challenge.rw_ownturn_k54_plans_tidied.Holds := by
 w_on; o_law; k_head; (case hw => w_witness2)
 k_fill
 refine Ot.walk (l := PySem.Challenge.rw_ownturn_k54_plans_tidied) rfl rfl (fun w h Y => PySem.W.kIn_of Y) ?F
 case F =>
  intro w mg fa h KX G hmg
  refine' Ot.all_mk KX G hmg (L2.at_mk KX G ?a0 ?l0 ?c0 ?k0) (L2.blt_mk KX G ?z1 ?z2 ?z3 ?z4 ?z5 ?z6 ?z7 ?z8 ?z9 ?z10 ?z11 ?z12 ?z13 ?z14 ?z15 ?z16) (PySem.W.mg_none_of KX G ?zall) (PySem.W.mg_none_of KX G ?zset) (L2.at_mk KX G ?a1 ?l1 ?c1 ?k1) (L2.at_mk KX G ?a2 ?l2 ?c2 ?k2) (L2.at_mk KX G ?a3 ?l3 ?c3 ?k3) (L2.at_mk KX G ?a4 ?l4 ?c4 ?k4) (L2.at_mk KX G ?a5 ?l5 ?c5 ?k5) (L2.at_mk KX G ?a6 ?l6 ?c6 ?k6) (L2.at_mk KX G ?a7 ?l7 ?c7 ?k7) (L2.at_mk KX G ?a8 ?l8 ?c8 ?k8) (L2.at_mk KX G ?a9 ?l9 ?c9 ?k9) (L2.at_mk KX G ?a10 ?l10 ?c10 ?k10) (L2.at_mk KX G ?a11 ?l11 ?c11 ?k11) (L2.at_mk KX G ?a12 ?l12 ?c12 ?k12) (L2.at_mk KX G ?a13 ?l13 ?c13 ?k13) (L2.at_mk KX G ?a14 ?l14 ?c14 ?k14) (L2.at_mk KX G ?a15 ?l15 ?c15 ?k15) (L2.at_mk KX G ?a16 ?l16 ?c16 ?k16)
  (case a0 | l0 | c0 | k0 | a1 | l1 | c1 | k1 | a2 | l2 | c2 | k2 | a3 | l3 | c3 | k3 | a4 | l4 | c4 | k4 | a5 | l5 | c5 | k5 | a6 | l6 | c6 | k6 | a7 | l7 | c7 | k7 | a8 | l8 | c8 | k8 | a9 | l9 | c9 | k9 | a10 | l10 | c10 | k10 | a11 | l11 | c11 | k11 | a12 | l12 | c12 | k12 | a13 | l13 | c13 | k13 | a14 | l14 | c14 | k14 | a15 | l15 | c15 | k15 | a16 | l16 | c16 | k16 | zall | zset | z1 | z2 | z3 | z4 | z5 | z6 | z7 | z8 | z9 | z10 | z11 | z12 | z13 | z14 | z15 | z16 => k_is)
