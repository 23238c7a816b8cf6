import PyProof.Rows.All
import Wide.All
import OpenK.AllK
import Wide.FinOn
import Lean
import PyProof.EqAt
import PyProof.EqKinds
import PyProof.TupleCall
import Lean
import PyProof.ExcInit
import PyProof.ExcClass3
import PyProof.InstStoreFacts
import KE.KIsAll
import KE.KTryMore
import PyProof.ExcBaseAll.ValueError
import PyProof.ExcArgsOwn
import KE.RegKIsAll
import KE.RegKTryMore
import PyProof.RulesAs
import PySem.Challenge.RW_ownturn_k48_fewest_exchanges
set_option compiler.extract_closed false
set_option Elab.async false
set_option linter.all false
set_option maxRecDepth 100000
namespace L2
open PySem PySem.Spec PyProof.Rows
noncomputable abbrev Key:=Sum Int Str
noncomputable def xM:Key->Value->Bool
 | .inl k,v=>Value.isInt k v
 | .inr x,v=>Value.isStrOf x v
noncomputable def BW (w:World):Key->Int
 | .inl k=>hashInt k
 | .inr x=>hashStr w x
theorem zF:∀ {k:Key} {v:Value},xM k v=true->(∃ i t,k=Sum.inl i/\v=Value.int i t) \/ (∃ x t,k=Sum.inr x/\v=Value.str x t)
 | .inl i,v,h=>by
  obtain ⟨t,e⟩:=Value.isInt_shape (k:=i) (v:=v) h
  exact .inl ⟨i,t,rfl,e⟩
 | .inr x,v,h=>by
  obtain ⟨t,e⟩:=Value.isStrOf_shape (x:=x) (v:=v) h
  exact .inr ⟨x,t,rfl,e⟩
theorem Ql (i:Int)(t:Tok):xM (.inl i) (.int i t)=true:=by simp [xM,Value.isInt]
theorem Qk (x:Str)(t:Tok):xM (.inr x) (.str x t)=true:=by simp [xM,Value.isStrOf]
theorem V4 (a b:Int):decide ((Sum.inl a:Key)=Sum.inl b)=(a == b):=by
 by_cases e:a=b
 ·subst e;simp
 ·have h:¬ (Sum.inl a:Key)=Sum.inl b:=fun q=>e (Sum.inl.inj q)
  rw [decide_eq_false h]
  exact (beq_eq_false_iff_ne.mpr e).symm
theorem W1 (a b:Str):decide ((Sum.inr a:Key)=Sum.inr b)=decide (a=b):=by
 by_cases e:a=b
 ·subst e;simp
 ·have h:¬ (Sum.inr a:Key)=Sum.inr b:=fun q=>e (Sum.inr.inj q)
  rw [decide_eq_false h,decide_eq_false e]
theorem VI (a:Int)(b:Str):decide ((Sum.inl a:Key)=Sum.inr b)=false:=decide_eq_false (fun q=>nomatch q)
theorem WH (a:Str)(b:Int):decide ((Sum.inr a:Key)=Sum.inl b)=false:=decide_eq_false (fun q=>nomatch q)
noncomputable def zG (prog:Program)(w:World):PySem.KeyKind prog w Key where
 is:=xM
 hash:=BW w
 inj:=fun v a b ha hb=>by
  rcases zF ha with ⟨i,t,rfl,rfl⟩ | ⟨x,t,rfl,rfl⟩
  ·rcases zF hb with ⟨j,u,rfl,e⟩ | ⟨y,u,rfl,e⟩
   ·injection e with e1 _;rw [e1]
   ·exact nomatch e
  ·rcases zF hb with ⟨j,u,rfl,e⟩ | ⟨y,u,rfl,e⟩
   ·exact nomatch e
   ·injection e with e1 _;rw [e1]
 byValue:=fun k v h=>by
  rcases zF h with ⟨i,t,rfl,rfl⟩ | ⟨x,t,rfl,rfl⟩ <;> rfl
 pyHash:=fun hv h=>by
  rcases zF hv with ⟨i,t,rfl,rfl⟩ | ⟨x,t,rfl,rfl⟩
  ·exact wpAny_pyHash_int h
  ·exact wpAny_pyHash_str h
 eqBool:=fun hu hv h=>by
  rcases zF hu with ⟨i,t,rfl,rfl⟩ | ⟨x,t,rfl,rfl⟩
  ·rcases zF hv with ⟨j,u,rfl,rfl⟩ | ⟨y,u,rfl,rfl⟩
   ·rw [V4] at h;exact wpAny_eqBool_int h
   ·rw [VI] at h;exact SeqAt.EqAt.int_str i t y u _ _ _ _ h
  ·rcases zF hv with ⟨j,u,rfl,rfl⟩ | ⟨y,u,rfl,rfl⟩
   ·rw [WH] at h;exact SeqAt.EqAt.str_int x t j u _ _ _ _ h
   ·rw [W1] at h;exact wpAny_eqBool_str h
 «strs»:=fun k x t v h=>by
  rcases zF h with ⟨i,u,rfl,e⟩ | ⟨y,u,rfl,e⟩
  ·exact nomatch e
  ·injection e with e1 _
   subst e1
   cases v <;> rfl
theorem yX (prog:Program)(w:World)(i:Int)(t:Tok):(zG prog w).is (.inl i) (.int i t)=true:=Ql i t
theorem vT (prog:Program)(w:World)(x:Str)(t:Tok):(zG prog w).is (.inr x) (.str x t)=true:=Qk x t
inductive V where
 | non | bl (b:Bool) | int (i:Int) | str (x:Str) | byt (b:Array UInt8) | flt (b:UInt64) | ref (a:Addr) | ty (n:String)
 deriving DecidableEq
noncomputable def zp:V->Value->Prop
 | .non,u=>u=Value.none
 | .bl b,u=>u=Value.bool b
 | .int i,u=>∃ t,u=Value.int i t
 | .str x,u=>∃ t,u=Value.str x t
 | .byt b,u=>∃ t,u=Value.bytes b t
 | .flt b,u=>∃ t,u=Value.float b t
 | .ref a,u=>u=Value.ref a
 | .ty n,u=>u=Value.type n
noncomputable abbrev zq:List V->List Value->Prop:=Paired zp
theorem zq.length {xs:List V}{us:List Value}(r:zq xs us):xs.length=us.length:=Paired.length r
theorem zq.get:∀ {xs:List V} {us:List Value} {i:Nat} {x:V},zq xs us->xs[i]?=some x->∃ u,us[i]?=some u/\zp x u
 | _,_,_,_,.nil,e=>by simp at e
 | _,_,0,_,.cons r _,e=>by simp at e;subst e;exact ⟨_,rfl,r⟩
 | _,_,i+1,x,.cons _ t,e=>by
  obtain ⟨u,h1,h2⟩:=zq.get (i:=i) (x:=x) t (by simpa using e)
  exact ⟨u,by simpa using h1,h2⟩
theorem zq.set {x:V}{u:Value}(r:zp x u):∀ {xs:List V} {us:List Value} (i:Nat),zq xs us->zq (xs.set i x) (us.set i u)
 | _,_,_,.nil=>.nil
 | _,_,0,.cons _ t=>.cons r t
 | _,_,i+1,.cons q t=>.cons q (zq.set r i t)
theorem zq.append:∀ {xs ys:List V} {us ws:List Value},zq xs us->zq ys ws->zq (xs ++ ys) (us ++ ws)
 | _,_,_,_,.nil,s=>s
 | _,_,_,_,.cons r t,s=>.cons r (zq.append t s)
theorem zq.take:∀ {xs:List V} {us:List Value} (n:Nat),zq xs us->zq (xs.take n) (us.take n)
 | _,_,0,_=>.nil
 | _,_,_+1,.nil=>.nil
 | _,_,n+1,.cons r t=>.cons r (zq.take n t)
theorem zq.drop:∀ {xs:List V} {us:List Value} (n:Nat),zq xs us->zq (xs.drop n) (us.drop n)
 | _,_,0,r=>r
 | _,_,_+1,.nil=>.nil
 | _,_,n+1,.cons _ t=>zq.drop n t
noncomputable def xt:Option V->Option Value->Prop
 | some v,some u=>zp v u
 | none,none=>True
 | _,_=>False
noncomputable def KV {κ:Type}:List (κ × V)->List (κ × Value)->Prop:=Paired fun (p:κ × V) (q:κ × Value)=>p.1=q.1/\zp p.2 q.2
noncomputable def kV:Key->V
 | .inl i=>.int i
 | .inr x=>.str x
inductive HO where
  | lst (xs:List V)
  | tup (xs:List V)
  | dK (kvs:List (Key × V)) | dT (kvs:List (List Key × V))
  | set (S:Int->Bool) (n:Nat)
  | ins (C dx:Addr) (fs:List (Str × V))
  | own (x:Addr)
  | xd (fs:List (Str × V))
  | met (f x:Addr)
  | rng (lo hi:Int)
  | frz (o:Obj) (u:HO)
  | tbl (ps:Array Value)
  | ext (φ:Heap->Prop)
noncomputable abbrev Hp:=Addr->Option HO
noncomputable def upd (H:Hp)(a:Addr)(o:HO):Hp:=fun b=>if b=a then some o else H b
theorem zk {H:Hp}{a:Addr}{o:HO}:upd H a o a=some o:=by unfold upd;rw [if_pos rfl]
theorem zg {H:Hp}{a b:Addr}{o:HO}(h:b ≠ a):upd H a o b=H b:=by unfold upd;rw [if_neg h]
theorem xC {H:Hp}{a b:Addr}{o u:HO}(h:H a=some o)(h':H b=some u)(d:o ≠ u):a ≠ b:=by
 intro e;subst e;rw [h] at h';exact d (Option.some.inj h')
theorem zi {H:Hp}{a b:Addr}{o:HO}(h:H a=some o)(h':H b=none):a ≠ b:=by
 intro e;subst e;rw [h] at h';cases h'
noncomputable def yE (h:Heap)(a:Addr)(items:Array Value):Prop:=∃ o,h.get? a=some o/\o.cls=.type "tuple"/\(∃ n,o.data=.seq items n)/\o.dict=none
theorem yE.is {h:Heap}{a:Addr}{items:Array Value}(x:yE h a items):IsTup h a items:=let ⟨o,e,c,n,_⟩:=x;⟨o,e,c,n⟩
theorem yE.lt {h:Heap}{a:Addr}{items:Array Value}(x:yE h a items):a<h.objs.size:=x.is.lt
theorem yE.new (h:Heap)(items:Array Value):yE (h.push { cls:=.type "tuple",data:=.seq items }) h.objs.size items:=⟨_,Heap.get?_push_size _ rfl,rfl,⟨_,rfl⟩,rfl⟩
section
variable (P:Program)(w:World)
noncomputable def zE (H:Hp)(h:Heap)(a:Addr):HO->Prop
  | .lst xs=>xs.length<=sizeLine/\∃ (its:List Value) (n:Nat),zq xs its/\h.get? a=some { cls:=.type "list",data:=.seq its.toArray n }
  | .tup xs=>xs.length<=sizeLine/\∃ its:List Value,zq xs its/\yE h a its.toArray
  | .dK kvs=>kvs.length<=sizeLine/\(a == sysModules)=false/\∃ vs,KV kvs vs/\h.DictOf (zG P w) a vs
  | .dT kvs => kvs.length <= sizeLine /\ (a == sysModules) = false /\ ∃ xs : List (List Key × Addr × Value),
      Paired (fun (p:List Key × V) (q:List Key × Addr × Value)=>p.1=q.1/\H q.2.1=some (.tup (p.1.map kV))/\zp p.2 q.2.2) kvs xs /\
      ∃ o es ep,h.get? a=some o/\o.ExactDict/\o.data=.dict es ep/\es.toList=xs.map (entryOfKey (tupleKind (zG P w)))/\(xs.map (·.1)).Nodup
  | .set S n=>h.SetOf (intKind P w) a S n
  | .ins C dx fs => H dx = some (.own a) /\ fs.length <= 1000 /\ dx ≠ a /\ h.get? a = some (PySem.W.instObj C dx) /\
      ∃ mA,h.Ns1 dx mA/\(∀ f,xt (fs.lookup f) (mA f))/\PySem.Within mA (fs.map (·.1))
  | .own _=>∃ o,h.get? a=some o
  | .xd fs=>∃ mA,h.Ns1 a mA/\∀ f,xt (fs.lookup f) (mA f)
  | .rng lo hi=>∃ t u v,h.get? a=some { cls:=.type "range",data:=.fields #[.int lo t,.int hi u,.int 1 v] }
  | .frz o u=>h.get? a=some o/\zE H h a u
  | .tbl ps=>h.get? a=some { cls:=.none,data:=.fields ps }
  | .met f x=>h.get? a=some (PySem.W.methodObj (.ref f) (.ref x))
  | .ext φ=>φ h/\(∃ o,h.get? a=some o)/\∀ h1 h2:Heap,φ h1->(∀ o,h1.get? a=some o->h2.get? a=some o)->φ h2
noncomputable def HOk (H:Hp)(h:Heap):Prop:=∀ a o,H a=some o->zE P w H h a o
end
section
variable {P:Program}{w:World}{H H':Hp}{h h':Heap}{a:Addr}{o:HO}
theorem zE.lt (x:zE P w H h a o):a<h.objs.size:=by
 cases o with
 | lst xs=>obtain ⟨_,_,_,_,e⟩:=x;exact Heap.lt_size e
 | tup xs=>obtain ⟨_,_,_,p⟩:=x;exact p.lt
 | dK kvs=>obtain ⟨_,_,_,_,o,_,_,e,_⟩:=x;exact Heap.lt_size e
 | dT kvs=>obtain ⟨_,_,_,_,o,_,_,e,_⟩:=x;exact Heap.lt_size e
 | set S n=>obtain ⟨o,_,_,_,e,_⟩:=x;exact Heap.lt_size e
 | ins C dx fs=>obtain ⟨_,_,_,e,_⟩:=x;exact Heap.lt_size e
 | own y=>obtain ⟨_,e⟩:=x;exact Heap.lt_size e
 | xd fs=>obtain ⟨_,⟨_,_,_,e,_⟩,_⟩:=x;exact Heap.lt_size e
 | rng lo hi=>obtain ⟨_,_,_,e⟩:=x;exact Heap.lt_size e
 | frz ob u=>obtain ⟨e,_⟩:=x;exact Heap.lt_size e
 | tbl ps=>exact Heap.lt_size (show h.get? a=some _ from x)
 | met f y=>exact Heap.lt_size (show h.get? a=some _ from x)
 | ext φ=>obtain ⟨_,⟨_,e⟩,_⟩:=x;exact Heap.lt_size e
theorem Paired.mapP {α β:Type}{F G:α->β->Prop}:∀ {l₁:List α} {l₂:List β},Paired F l₁ l₂->(∀ a b,F a b->G a b)->Paired G l₁ l₂
 | _,_,.nil,_=>.nil
 | _,_,.cons r t,f=>.cons (f _ _ r) (Paired.mapP t f)
theorem zE.stay (x:zE P w H h a o)(k:∀ b u,(b=a \/ H b=some (.own a))->h.get? b=some u->h'.get? b=some u)
  (ho:∀ b,H b=some (.own a)->H' b=some (.own a)) (ht:∀ b xs,H b=some (.tup xs)->H' b=some (.tup xs)):zE P w H' h' a o:=by
 induction o with
 | lst xs=>obtain ⟨z,its,n,r,e⟩:=x;exact ⟨z,its,n,r,k _ _ (.inl rfl) e⟩
 | tup xs=>obtain ⟨z,its,r,ob,e,c⟩:=x;exact ⟨z,its,r,ob,k _ _ (.inl rfl) e,c⟩
 | dK kvs=>obtain ⟨z,y,vs,r,ob,es,ep,e,c⟩:=x;exact ⟨z,y,vs,r,ob,es,ep,k _ _ (.inl rfl) e,c⟩
 | dT kvs=>
  obtain ⟨z,y,xs,r,ob,es,ep,e,c⟩:=x
  exact ⟨z,y,xs,Paired.mapP r fun p q z=>⟨z.1,ht _ _ z.2.1,z.2.2⟩,ob,es,ep,k _ _ (.inl rfl) e,c⟩
 | set S n=>obtain ⟨ob,es,ep,t,e,c⟩:=x;exact ⟨ob,es,ep,t,k _ _ (.inl rfl) e,c⟩
 | ins C dx fs=>
  obtain ⟨d,z,ne,e,mA,⟨od,es,ep,e2,c⟩,r⟩:=x
  exact ⟨ho _ d,z,ne,k _ _ (.inl rfl) e,mA,⟨od,es,ep,k _ _ (.inr d) e2,c⟩,r⟩
 | own y=>obtain ⟨ob,e⟩:=x;exact ⟨ob,k _ _ (.inl rfl) e⟩
 | xd fs=>obtain ⟨mA,⟨od,es,ep,e,c⟩,r⟩:=x;exact ⟨mA,⟨od,es,ep,k _ _ (.inl rfl) e,c⟩,r⟩
 | rng lo hi=>obtain ⟨t,u,v,e⟩:=x;exact ⟨t,u,v,k _ _ (.inl rfl) e⟩
 | frz ob u ih=>obtain ⟨e,q⟩:=x;exact ⟨k _ _ (.inl rfl) e,ih q⟩
 | tbl ps=>
  have e:h.get? a=some { cls:=.none,data:=.fields ps }:=x
  show h'.get? a=some { cls:=.none,data:=.fields ps }
  exact k a _ (.inl rfl) e
 | met f y=>
  have e:h.get? a=some (PySem.W.methodObj (.ref f) (.ref y)):=x
  show h'.get? a=some (PySem.W.methodObj (.ref f) (.ref y))
  exact k a _ (.inl rfl) e
 | ext φ=>obtain ⟨p,⟨o,e⟩,st⟩:=x;exact ⟨st _ _ p fun o q=>k _ _ (.inl rfl) q,⟨o,k _ _ (.inl rfl) e⟩,st⟩
theorem HOk.lt (x:HOk P w H h)(e:H a=some o):a<h.objs.size:=(x a o e).lt
theorem HOk.fresh (x:HOk P w H h)(e:h.objs.size<=a):H a=none:=by
 cases q:H a with
 | none=>rfl
 | some u=>exact absurd (Nat.lt_of_lt_of_le (x.lt q) e) (Nat.lt_irrefl _)
theorem HOk.kept (x:HOk P w H h)(k:∀ b u,h.get? b=some u->h'.get? b=some u):HOk P w H h':=fun a o e=>
 (x a o e).stay (fun b u _ q=>k b u q) (fun _ q=>q) fun _ _ q=>q
theorem HOk.laid (x:HOk P w H h)(k:∀ b u,h.get? b=some u->h'.get? b=some u)(hp:h.objs.size<=a)(new:zE P w (upd H a o) h' a o):HOk P w (upd H a o) h':=fun b u e=>by
 have hn:=x.fresh hp
 by_cases hb:b=a
 ·subst hb;rw [zk] at e;cases e;exact new
 ·rw [zg hb] at e
  exact (x b u e).stay (fun c v _ q=>k c v q) (fun c q=>by rw [zg (zi q hn)];exact q) fun c xs q=>by rw [zg (zi q hn)];exact q
end
noncomputable def Rd (H:Hp)(a:Addr)(u:HO):Prop:=H a=some u \/ ∃ o,H a=some (.frz o u)
theorem Rd.ok {P:Program}{w:World}{H:Hp}{h:Heap}{a:Addr}{u:HO}(r:Rd H a u)(x:HOk P w H h):zE P w H h a u:=by
 rcases r with r | ⟨o,r⟩
 ·exact x a u r
 ·obtain ⟨_,q⟩:=x a _ r
  exact q
noncomputable def Mut:Option HO->Prop
 | some (.lst _)=>True
 | some (.dK _)=>True
 | some (.dT _)=>True
 | some (.set _ _)=>True
 | some (.ins _ _ _)=>True
 | some (.ext _)=>True
 | _=>False
section
variable {P:Program}{w:World}{H:Hp}{h h':Heap}{x e:Addr}{o':HO}
theorem HOk.write (ok : HOk P w H h)(mu : Mut (H x))(he : e = x \/ H e = some (.own x))(k : ∀ b u, b ≠ e -> h.get? b = some u -> h'.get? b = some u)(heo : ∃ u, h'.get? e = some u)
    (new:zE P w (upd H x o') h' x o'):HOk P w (upd H x o') h':=fun b u q=>by
  have nown:∀ c y,H c=some (.own y)->c ≠ x:=fun c y r z=>by subst z;rw [r] at mu;exact mu
  have ntup:∀ c xs,H c=some (.tup xs)->c ≠ x:=fun c xs r z=>by subst z;rw [r] at mu;exact mu
  by_cases hb:b=x
  · subst hb;rw [zk] at q;cases q;exact new
  · rw [zg hb] at q
    by_cases hbe:b=e
    · have q' : H b = some (.own x) := by
        rcases he with z | z
        · exact absurd (hbe.trans z) hb
        · rw [hbe];exact z
      rw [q] at q';cases q'
      obtain ⟨v,hv⟩:=heo
      exact ⟨v,by rw [hbe];exact hv⟩
    · refine (ok b u q).stay (fun c v hc r=>k c v ?_ r) (fun c r=>by rw [zg (nown c b r)];exact r) fun c xs r=>by rw [zg (ntup c xs r)];exact r
      rcases hc with rfl | hc
      · exact hbe
      · rintro rfl
        rcases he with z | z
        · exact nown c b hc z
        · rw [hc] at z;cases z;exact hb rfl
end
structure Un (fs ex:List Addr)(H H':Hp)(h h':Heap):Prop where
 keep:∀ b o,h.get? b=some o->H b=none->b ∉ fs->b ∉ ex->h'.get? b=some o
 slot:∀ b o,h.get? b=some o->H b=none->b ∈ fs->b ∉ ex->∃ sl,h'.get? b=some { o with slots:=sl }
 free:∀ b o,h.get? b=some o->H b=none->b ∉ ex->H' b=none
 there:∀ b o,h.get? b=some o->b ∉ ex->∃ o',h'.get? b=some o'
 tups:∀ b xs,H b=some (.tup xs)->H' b=some (.tup xs)
 frzs:∀ b o u,H b=some (.frz o u)->H' b=some (.frz o u)
 tbls:∀ b ps,H b=some (.tbl ps)->∃ more,H' b=some (.tbl (ps ++ more))
section
variable {fs fs' ex ex':List Addr}{H H1 H2:Hp}{h h1 h2 h':Heap}{a x e:Addr}{o:HO}
theorem Un.any (u:Un fs ex H H1 h h1){b:Addr}{ob:Obj}(q:h.get? b=some ob)(n:H b=none)(hx:b ∉ ex):∃ sl,h1.get? b=some { ob with slots:=sl }:=by
 by_cases hb:b ∈ fs
 ·exact u.slot b ob q n hb hx
 ·exact ⟨ob.slots,u.keep b ob q n hb hx⟩
theorem Un.kept (k:∀ b u,h.get? b=some u->h'.get? b=some u):Un fs ex H H h h':=
 ⟨fun b ob q _ _ _=>k b ob q,fun b ob q _ _ _=>⟨ob.slots,k b ob q⟩,fun _ _ _ n _=>n,fun b ob q _=>⟨ob,k b ob q⟩,fun _ _ q=>q,fun _ _ _ q=>q,fun _ ps q=>⟨#[],by rw [q];simp⟩⟩
theorem Un.refl:Un fs ex H H h h:=Un.kept fun _ _ q=>q
theorem Un.laid (k:∀ b u,h.get? b=some u->h'.get? b=some u)(hp:h.objs.size<=a)(hn:H a=none):Un fs ex H (upd H a o) h h' where
 keep:=fun b u q _ _ _=>k b u q
 slot:=fun b u q _ _ _=>⟨u.slots,k b u q⟩
 free:=fun b u q n _=>by rw [zg (Nat.ne_of_lt (Nat.lt_of_lt_of_le (Heap.lt_size q) hp))];exact n
 there:=fun b u q _=>⟨u,k b u q⟩
 tups:=fun b xs q=>by rw [zg (zi q hn)];exact q
 frzs:=fun b u xs q=>by rw [zg (zi q hn)];exact q
 tbls:=fun b ps q=>⟨#[],by rw [zg (zi q hn),q];simp⟩
theorem Un.write (mu:Mut (H x))(he:e=x \/ H e=some (.own x))(k:∀ b u,b ≠ e->h.get? b=some u->h'.get? b=some u)(heo:∃ u,h'.get? e=some u):Un fs ex H (upd H x o) h h':=by
 have hx:∀ b,H b=none->b ≠ x:=fun b n z=>by subst z;rw [n] at mu;exact mu
 have hb:∀ b,H b=none->b ≠ e:=fun b n z=>by
  subst z
  rcases he with r | r
  ·exact hx b n r
  ·rw [n] at r;cases r
 have hm:∀ b u,H b=some u->¬ Mut (some u)->b ≠ x:=fun b u q nm z=>by subst z;rw [q] at mu;exact nm mu
 refine ⟨fun b u q n _ _=>k b u (hb b n) q,fun b u q n _ _=>⟨u.slots,k b u (hb b n) q⟩,fun b u q n _=>by rw [zg (hx b n)];exact n,fun b u q _=>?_,
  fun b xs q=>by rw [zg (hm b _ q fun z=>z)];exact q,fun b u xs q=>by rw [zg (hm b _ q fun z=>z)];exact q,fun b ps q=>⟨#[],by rw [zg (hm b _ q fun z=>z),q];simp⟩⟩
 by_cases hbe:b=e
 ·subst hbe;exact heo
 ·exact ⟨u,k b u hbe q⟩
end
noncomputable def trk (h:Heap)(H:Hp):List Addr:=(List.range h.objs.size).filter fun a=>(H a).isSome
noncomputable def yo (h:Heap)(H:Hp):Heap:=PySem.W.hideAll h (trk h H)
theorem Qg (h:Heap)(H:Hp):(yo h H).objs.size=h.objs.size:=PySem.W.hideAll_size _ _
theorem Xo {h:Heap}{H:Hp}{b:Addr}{o:Obj}(e:h.get? b=some o)(n:H b=none):(yo h H).get? b=some o:=
 PySem.W.hideAll_get _ e fun hm=>by
  have q:(H b).isSome=true:=(List.mem_filter.mp hm).2
  rw [n] at q;simp at q
theorem XN {h:Heap}{H:Hp}{b:Addr}{o:Obj}(e:(yo h H).get? b=some o):h.get? b=some o/\H b=none:=by
 have e':h.get? b=some o:=PySem.W.of_hideAll (trk h H) e
 refine ⟨e',?_⟩
 cases q:H b with
 | none=>rfl
 | some x=>
  have hm:b ∈ trk h H:=List.mem_filter.mpr ⟨List.mem_range.mpr (Heap.lt_size e'),by simp [q]⟩
  have z:(yo h H).get? b=none:=PySem.W.hideAll_none (trk h H) hm
  rw [z] at e;cases e
noncomputable def XF (g h:Heap)(L:Addr):List (Addr × Obj):=(List.range h.objs.size).filterMap fun a=>if a=L \/ (g.get? a).isSome=true then none else (h.get? a).map fun o=>(a,o)
noncomputable def zl (g h:Heap)(L d:Addr):List (Addr × Obj):=(XF g h L).filter fun p=>decide (p.1 ≠ d)
structure Mod (K:PySem.W.Frag)(mg:Str->Option Value)(base:Heap):Prop where
 kin:K.In base
 glob:base.Ns mainGlobals mg
 blt:∃ mb,base.Ns builtinsNs mb/\∀ x:Str,x ≠ "__name__"->mb x=bootBuiltins x
 nolimit:base.NoLimit
structure Cx where
 prog:Program
 w:World
 K:PySem.W.Frag
 mg:Str->Option Value
 base:Heap
 A:Around
 N:List Str
 s₀:Shared
 H₀:Hp
 env:Env
 outer:List Env
 stack:List Env
 ex:List Addr
 fn:Str->Bool
 calm:Bool
 pn:List (Addr × Obj)
 xe:Value->Shared->Prop
noncomputable def frs (l:List Env):List Addr:=l.filterMap (·.frame)
noncomputable abbrev Cx.fs (X:Cx):List Addr:=frs X.outer
noncomputable def Vis (sc:Scope)(x:Str):Prop:=sc.names.lookup x=some .local \/ sc.names.lookup x=some .cell \/ sc.names.lookup x=some .free
noncomputable def Loc (sc:Scope)(x:Str):Prop:=sc.names.lookup x=some .local \/ sc.names.lookup x=some .cell
noncomputable def B2 (env:Env)(h:Heap)(m:Str->Option Value)(x:Str)(u:Value):Prop:=
 (env.kindOf x=some .local/\m x=some u) \/ ((env.kindOf x=some .cell \/ env.kindOf x=some .free)/\∃ c,env.cells.lookup x=some c/\h.IsCell c (some u))
structure Cx.Ok (X:Cx):Prop where
 mod:Mod X.K X.mg X.base
 kind:X.env.scope.kind=.function
 glob:X.env.globals=mainGlobals
 blt:X.env.builtins=builtinsNs
 above:X.s₀.heap.objs.size<=X.env.locals
 inj:∀ x y c,X.env.cells.lookup x=some c->X.env.cells.lookup y=some c->x=y
 has:∀ x,(X.env.kindOf x=some .cell \/ X.env.kindOf x=some .free)->∃ c,X.env.cells.lookup x=some c
 cab:∀ x c,X.fn x=true->X.env.cells.lookup x=some c->X.s₀.heap.objs.size<=c
 hd:X.calm=true->X.A.handled=none
 frames:X.A.frames=some X.stack
 stk:X.stack=X.outer \/ (X.stack=X.env :: X.outer/\X.env.frame=some X.env.locals)
 exf:∀ b ∈ X.ex,b ≠ X.env.locals/\∀ x c,X.env.cells.lookup x=some c->c ≠ b
 bs:∀ b o,X.base.get? b=some o->X.s₀.heap.get? b=some o/\X.H₀ b=none
 bsz:X.base.objs.size<=X.s₀.heap.objs.size
 noex:∀ b o,X.base.get? b=some o->b ∉ X.ex
 exfs:∀ b ∈ X.ex,b ∉ X.fs
 funs:X.s₀.heap.FunFrames X.base X.outer
 frf:∀ b ∈ X.fs,X.H₀ b=none
structure Inv (X:Cx)(pins:List (Addr × Obj))(σ:List (Option V))(H:Hp)(s:Shared):Prop where
 ok:X.Ok
 os:s.os=X.s₀.os
 bare:AllBare s.gens
 base:Un X.fs X.ex X.H₀ H X.s₀.heap s.heap
 loc:∃ m,s.heap.Ns X.env.locals m/\∀ (i:Nat) (x:Str) (v:V),X.N[i]?=some x->σ[i]?=some (some v)->Vis X.env.scope x->∃ u,zp v u/\B2 X.env s.heap m x u
 cell:∀ x c,X.env.cells.lookup x=some c->∃ v,s.heap.IsCell c v
 free:H X.env.locals=none
 freeC:∀ x c,X.env.cells.lookup x=some c->H c=none
 pin:∀ p ∈ X.pn ++ pins,s.heap.get? p.1=some p.2/\H p.1=none/\p.1 ≠ X.env.locals/\p.1 ∉ X.fs/\∀ v,p.2.data ≠ .cell v
 hok:HOk X.prog X.w H s.heap
 len:σ.length=X.N.length
section
variable {X:Cx}{pins:List (Addr × Obj)}{σ:List (Option V)}{H H':Hp}{s:Shared}{h':Heap}
theorem Cx.Ok.nofr (ok:X.Ok){b:Addr}{o:Obj}(e:X.base.get? b=some o):b ∉ X.fs:=fun hb=>by
 have:=(ok.funs.mem hb).1
 rw [e] at this;cases this
theorem Inv.bs (I:Inv X pins σ H s):∀ b o,X.base.get? b=some o->s.heap.get? b=some o/\H b=none:=fun b o e=>
 ⟨I.base.keep b o (I.ok.bs b o e).1 (I.ok.bs b o e).2 (I.ok.nofr e) (I.ok.noex b o e),I.base.free b o (I.ok.bs b o e).1 (I.ok.bs b o e).2 (I.ok.noex b o e)⟩
theorem Inv.bk (I:Inv X pins σ H s):∀ b o,X.base.get? b=some o->s.heap.get? b=some o:=fun b o e=>(I.bs b o e).1
theorem Inv.mod (I:Inv X pins σ H s):Mod X.K X.mg X.base:=I.ok.mod
theorem Inv.kIn (I:Inv X pins σ H s):X.K.In s.heap:=I.ok.mod.kin.keeps I.bk
theorem Inv.lt (I:Inv X pins σ H s):X.env.locals<s.heap.objs.size:=let ⟨_,hn,_⟩:=I.loc;hn.lt
theorem Inv.sz (I:Inv X pins σ H s):X.s₀.heap.objs.size<=s.heap.objs.size:=Nat.le_trans I.ok.above (Nat.le_of_lt I.lt)
theorem Inv.nofs (I:Inv X pins σ H s){a:Addr}(h:s.heap.objs.size<=a):a ∉ X.fs:=fun hb=>by
 obtain ⟨_,o,ho,_⟩:=I.ok.funs.mem hb
 exact absurd (Nat.lt_of_lt_of_le (Heap.lt_size ho) (Nat.le_trans I.sz h)) (Nat.lt_irrefl _)
theorem Inv.cne (I:Inv X pins σ H s):∀ x c,X.env.cells.lookup x=some c->c ≠ X.env.locals:=fun x c e z=>by
 obtain ⟨v,o,ho,hd⟩:=I.cell x c e
 obtain ⟨m,⟨o',es,ep,ho',hd',_⟩,_⟩:=I.loc
 rw [z,ho'] at ho;cases ho;rw [hd'] at hd;cases hd
theorem Inv.funs (I:Inv X pins σ H s):s.heap.FunFrames X.base X.outer:=by
 have all:∀ (l:List Env),(∀ b ∈ frs l,b ∈ X.fs)->X.s₀.heap.FunFrames X.base l->s.heap.FunFrames X.base l:=by
  intro l
  induction l with
  | nil=>intro _ _;trivial
  | cons env r ih=>
   intro hs hl
   obtain ⟨hk,⟨L,o,hf,hn,ho,hd⟩,hr⟩:=hl
   have hL:L ∈ X.fs:=hs L (by unfold frs;rw [List.filterMap_cons,hf];exact List.mem_cons_self)
   obtain ⟨sl,e⟩:=I.base.slot L o ho (I.ok.frf L hL) hL fun z=>I.ok.exfs L z hL
   exact ⟨hk,⟨L,_,hf,hn,e,hd⟩,ih (fun b hb=>hs b (by unfold frs;rw [List.filterMap_cons,hf];exact List.mem_cons_of_mem _ hb)) hr⟩
 exact all X.outer (fun _ hb=>hb) I.ok.funs
theorem Inv.stack (I:Inv X pins σ H s):s.heap.FunFrames X.base X.stack:=by
 rcases I.ok.stk with e | ⟨e,hf⟩
 ·rw [e];exact I.funs
 ·rw [e]
  obtain ⟨m,hn,_⟩:=I.loc
  refine .cons (by rw [I.ok.kind];decide) hf hn ?_ I.funs
  exact Heap.get?_none_of_le (Nat.le_trans I.ok.bsz I.ok.above)
theorem Inv.stkSub (I:Inv X pins σ H s):∀ b ∈ frs X.stack,b ∈ X.env.locals :: X.fs:=fun b hb=>by
 rcases I.ok.stk with e | ⟨e,hf⟩
 ·rw [e] at hb;exact List.mem_cons_of_mem _ hb
 ·rw [e] at hb
  unfold frs at hb
  rw [List.filterMap_cons,hf] at hb
  exact hb
theorem Inv.stkFree (I:Inv X pins σ H s):∀ b ∈ frs X.stack,H b=none:=fun b hb=>by
 rcases List.mem_cons.mp (I.stkSub b hb) with e | hb
 ·rw [e];exact I.free
 ·obtain ⟨_,o,ho,_⟩:=I.ok.funs.mem hb
  exact I.base.free b o ho (I.ok.frf b hb) fun z=>I.ok.exfs b z hb
theorem Inv.step {g':Array GenState}{t':Nat}{d':Drawn}{ch:List Addr}(I:Inv X pins σ H s)
  (hch:∀ b ∈ ch,(b ∈ X.ex \/ X.s₀.heap.objs.size<=b)/\b ≠ X.env.locals/\(∀ x c,X.env.cells.lookup x=some c->c ≠ b)/\∀ p ∈ X.pn ++ pins,p.1 ≠ b)
  (keep:∀ b o,b ≠ X.env.locals->b ∉ X.fs->b ∉ ch->s.heap.get? b=some o->H b=none->h'.get? b=some o)
  (slot:∀ b o,b ≠ X.env.locals->b ∈ X.fs->b ∉ ch->s.heap.get? b=some o->H b=none->∃ sl,h'.get? b=some { o with slots:=sl }) (free:∀ b o,b ∉ ch->s.heap.get? b=some o->H b=none->H' b=none)
  (there:∀ b o,b ∉ ch->s.heap.get? b=some o->∃ o',h'.get? b=some o')
  (tups:∀ b xs,H b=some (.tup xs)->H' b=some (.tup xs)) (frzs:∀ b o u,H b=some (.frz o u)->H' b=some (.frz o u)) (tbls:∀ b ps,H b=some (.tbl ps)->∃ more,H' b=some (.tbl (ps ++ more)))
  (ns:∀ m,s.heap.Ns X.env.locals m->h'.Ns X.env.locals m) (hok:HOk X.prog X.w H' h') (hg:AllBare g') :
  Inv X pins σ H' { s with heap:=h',gens:=g',drawn:=d',toks:=t' }:=by
 have neL:∀ b o,X.s₀.heap.get? b=some o->b ≠ X.env.locals:=fun b o e=>Nat.ne_of_lt (Nat.lt_of_lt_of_le (Heap.lt_size e) I.ok.above)
 have neC:∀ b o,X.s₀.heap.get? b=some o->b ∉ X.ex->b ∉ ch:=fun b o e hx hb=>by
  rcases (hch b hb).1 with z | z
  ·exact hx z
  ·exact absurd (Nat.lt_of_lt_of_le (Heap.lt_size e) z) (Nat.lt_irrefl _)
 have cellK:∀ x c,X.env.cells.lookup x=some c->∀ v,s.heap.IsCell c v->h'.IsCell c v:=fun x c e v ⟨o,ho,hd⟩=>by
  have nch:c ∉ ch:=fun z=>(hch c z).2.2.1 x c e rfl
  by_cases hc:c ∈ X.fs
  ·obtain ⟨sl,q⟩:=slot c o (I.cne x c e) hc nch ho (I.freeC x c e)
   exact ⟨_,q,hd⟩
  ·exact ⟨o,keep c o (I.cne x c e) hc nch ho (I.freeC x c e),hd⟩
 refine ⟨I.ok,I.os,hg,⟨fun b o e n hb hx=>?_,fun b o e n hb hx=>?_,fun b o e n hx=>?_,fun b o e hx=>?_,fun b xs e=>tups b xs (I.base.tups b xs e),fun b o xs e=>frzs b o xs (I.base.frzs b o xs e),fun b ps e=>?_⟩,?_,fun x c e=>?_,?_,fun x c e=>?_,fun p hp=>?_,hok,I.len⟩
 ·exact keep b o (neL b o e) hb (neC b o e hx) (I.base.keep b o e n hb hx) (I.base.free b o e n hx)
 ·obtain ⟨sl,e1⟩:=I.base.slot b o e n hb hx
  obtain ⟨sl',e2⟩:=slot b _ (neL b o e) hb (neC b o e hx) e1 (I.base.free b o e n hx)
  exact ⟨sl',e2⟩
 ·obtain ⟨o',e1⟩:=I.base.there b o e hx
  exact free b o' (neC b o e hx) e1 (I.base.free b o e n hx)
 ·obtain ⟨o',e1⟩:=I.base.there b o e hx
  exact there b o' (neC b o e hx) e1
 ·obtain ⟨m1,e1⟩:=I.base.tbls b ps e
  obtain ⟨m2,e2⟩:=tbls b _ e1
  exact ⟨m1 ++ m2,by rw [e2,Array.append_assoc]⟩
 ·obtain ⟨m,hn,hl⟩:=I.loc
  refine ⟨m,ns m hn,fun i x v e1 e2 e3=>?_⟩
  obtain ⟨u,r,l⟩:=hl i x v e1 e2 e3
  refine ⟨u,r,?_⟩
  rcases l with l | ⟨k,c,e,z⟩
  ·exact .inl l
  ·exact .inr ⟨k,c,e,cellK x c e _ z⟩
 ·obtain ⟨v,z⟩:=I.cell x c e
  exact ⟨v,cellK x c e v z⟩
 ·obtain ⟨m,⟨o,_,_,ho,_⟩,_⟩:=I.loc
  exact free _ o (fun z=>(hch _ z).2.1 rfl) ho I.free
 ·obtain ⟨v,o,ho,hd⟩:=I.cell x c e
  exact free c o (fun z=>(hch c z).2.2.1 x c e rfl) ho (I.freeC x c e)
 ·obtain ⟨e,n,ne,nf,d⟩:=I.pin p hp
  have nch:p.1 ∉ ch:=fun z=>(hch p.1 z).2.2.2 p hp rfl
  exact ⟨keep p.1 p.2 ne nf nch e n,free p.1 p.2 nch e n,ne,nf,d⟩
theorem Inv.un {t':Nat}(I:Inv X pins σ H s)(u:Un X.fs [] H H' s.heap h')(hok:HOk X.prog X.w H' h'):Inv X pins σ H' { s with heap:=h',toks:=t' }:=by
 obtain ⟨m,⟨o,es,ep,ho,r⟩,_⟩:=id I.loc
 obtain ⟨sl,hL⟩:=u.any ho I.free (by simp)
 exact I.step (g':=s.gens) (d':=s.drawn) (ch:=[]) (fun _ z=>nomatch z) (fun b o _ hb _ e n=>u.keep b o e n hb (by simp)) (fun b o _ hb _ e n=>u.slot b o e n hb (by simp)) (fun b o _ e n=>u.free b o e n (by simp)) (fun b o _ e=>u.there b o e (by simp)) u.tups u.frzs u.tbls (fun m' hm=>by
  obtain ⟨o',es',ep',ho',r'⟩:=hm
  rw [ho] at ho';cases ho'
  exact ⟨_,es',ep',hL,r'⟩) hok I.bare
theorem Inv.call {g':Array GenState}{t':Nat}{d':Drawn}{ch:List Addr}(I:Inv X pins σ H s)(u:Un (frs X.stack) ch H H' s.heap h')(hok:HOk X.prog X.w H' h')(hg:AllBare g')
  (hch:∀ b ∈ ch,(b ∈ X.ex \/ X.s₀.heap.objs.size<=b)/\b ≠ X.env.locals/\(∀ x c,X.env.cells.lookup x=some c->c ≠ b)/\∀ p ∈ X.pn ++ pins,p.1 ≠ b) :
  Inv X pins σ H' { s with heap:=h',gens:=g',drawn:=d',toks:=t' }:=by
 obtain ⟨m,⟨o,es,ep,ho,r⟩,_⟩:=id I.loc
 obtain ⟨sl,hL⟩:=u.any ho I.free fun z=>(hch _ z).2.1 rfl
 exact I.step (ch:=ch) hch (fun b o hL hb hc e n=>u.keep b o e n (fun z=>(List.mem_cons.mp (I.stkSub b z)).elim hL hb) hc) (fun b o _ _ hc e n=>u.any e n hc) (fun b o hc e n=>u.free b o e n hc) (fun b o hc e=>u.there b o e hc) u.tups u.frzs u.tbls (fun m' hm=>by
  obtain ⟨o',es',ep',ho',r'⟩:=hm
  rw [ho] at ho';cases ho'
  exact ⟨_,es',ep',hL,r'⟩) hok hg
theorem Inv.turned {t':Nat}{it:Addr}(I:Inv X pins σ H s)(k:∀ b o,b ≠ it->s.heap.get? b=some o->h'.get? b=some o)(hn:H it=none)(hL:it ≠ X.env.locals)
  (h1:it ∈ X.ex \/ X.s₀.heap.objs.size<=it) (h2:∀ x c,X.env.cells.lookup x=some c->c ≠ it) (h3:∀ p ∈ X.pn ++ pins,p.1 ≠ it):Inv X pins σ H { s with heap:=h',toks:=t' }:=by
 have nit:∀ b u,H b=some u->b ≠ it:=fun b u e z=>by rw [z,hn] at e;cases e
 refine I.step (g':=s.gens) (d':=s.drawn) (ch:=[it]) (fun b hb=>?_) (fun b o _ _ hc e _=>k b o (fun z=>hc (by simp [z])) e) (fun b o _ _ hc e _=>⟨o.slots,k b o (fun z=>hc (by simp [z])) e⟩) (fun _ _ _ _ n=>n)
  (fun b o hc e=>⟨o,k b o (fun z=>hc (by simp [z])) e⟩) (fun _ _ e=>e) (fun _ _ _ e=>e) (fun b ps e=>⟨#[],by rw [e];simp⟩) (fun m hm=>?_) (fun b u e=>?_) I.bare
 ·have e:b=it:=by simpa using hb
  subst e
  exact ⟨h1,hL,h2,h3⟩
 ·obtain ⟨o,es,ep,ho,r⟩:=hm
  exact ⟨o,es,ep,k _ o (Ne.symm hL) ho,r⟩
 ·refine (I.hok b u e).stay (fun c v hc q=>k c v ?_ q) (fun _ q=>q) fun _ _ q=>q
  rcases hc with z | z
  ·rw [z];exact nit b u e
  ·exact nit c _ z
theorem Inv.tok (I:Inv X pins σ H s)(t:Nat):Inv X pins σ H { s with toks:=t }:=I.un (h':=s.heap) (t':=t) Un.refl I.hok
theorem Inv.kept {t':Nat}(I:Inv X pins σ H s)(k:∀ b u,s.heap.get? b=some u->h'.get? b=some u):Inv X pins σ H { s with heap:=h',toks:=t' }:=I.un (Un.kept k) (I.hok.kept k)
theorem Inv.laid {a:Addr}{o:HO}{t':Nat}(I:Inv X pins σ H s)(k:∀ b u,s.heap.get? b=some u->h'.get? b=some u)(hp:s.heap.objs.size<=a)(new:zE X.prog X.w (upd H a o) h' a o) :
  Inv X pins σ (upd H a o) { s with heap:=h',toks:=t' }:=I.un (Un.laid k hp (I.hok.fresh hp)) (I.hok.laid k hp new)
theorem Inv.write {x e:Addr}{o:HO}{t':Nat}(I:Inv X pins σ H s)(mu:Mut (H x))(he:e=x \/ H e=some (.own x))(k:∀ b u,b ≠ e->s.heap.get? b=some u->h'.get? b=some u)(heo:∃ u,h'.get? e=some u)
  (new:zE X.prog X.w (upd H x o) h' x o):Inv X pins σ (upd H x o) { s with heap:=h',toks:=t' }:=I.un (Un.write mu he k heo) (I.hok.write mu he k heo new)
theorem Inv.pins_of {pins':List (Addr × Obj)}(I:Inv X pins σ H s)(h:∀ p ∈ pins',s.heap.get? p.1=some p.2/\H p.1=none/\p.1 ≠ X.env.locals/\p.1 ∉ X.fs/\∀ v,p.2.data ≠ .cell v):Inv X pins' σ H s:=
 ⟨I.ok,I.os,I.bare,I.base,I.loc,I.cell,I.free,I.freeC,fun p hp=>(List.mem_append.mp hp).elim (fun z=>I.pin p (List.mem_append_left _ z)) (h p),I.hok,I.len⟩
theorem vJ {N:List Str}(hN:N.Nodup){i j:Nat}{x:Str}(a:N[i]?=some x)(b:N[j]?=some x):i=j:=by
 obtain ⟨h1,e1⟩:=List.getElem?_eq_some_iff.mp a
 obtain ⟨h2,e2⟩:=List.getElem?_eq_some_iff.mp b
 exact (List.getElem_inj hN).mp (e1.trans e2.symm)
theorem ky {M : Model}{A : Around}{E : Value -> Shared -> Prop}{i : Nat}{x : Str}{v : V}{u : Value}{Q : Unit -> Shared -> Prop}(I : Inv X pins σ H s)(hN : X.N.Nodup)(hi : X.N[i]? = some x)(hx : Loc X.env.scope x)(r : zp v u)
    (h:∀ s',Inv X pins (σ.set i (some v)) H s'->(∃ a,Heap.SameBut a s.heap s'.heap/\(a=X.env.locals \/ X.env.cells.lookup x=some a))->Q () s') (hf:X.fn x=true \/ X.env.scope.names.lookup x=some .local:=by first | exact .inl rfl | exact .inr rfl | assumption):wpAny M A (storeName X.env x u) Q E s:=by
  obtain ⟨m,hn,hl⟩:=id I.loc
  have hcls:(X.env.scope.kind == .class || (X.env.scope.kind == .module && X.env.locals != X.env.globals))=false:=by rw [I.ok.kind];rfl
  have hiσ:i<σ.length:=by rw [I.len];exact (List.getElem?_eq_some_iff.mp hi).1
  have cne:=I.cne
  have tracked:∀ {a:Addr} {h':Heap},(∃ o,s.heap.get? a=some o/\H a=none)->Heap.SameBut a s.heap h'->HOk X.prog X.w H h':=fun {a h'} ha hs b ob e=>by
    obtain ⟨_,_,hfree⟩:=ha
    refine (I.hok b ob e).stay (fun c w' hc q=>(hs.2 c ?_).trans q) (fun _ q=>q) fun _ _ q=>q
    rintro rfl
    rcases hc with rfl | hc
    · rw [hfree] at e;cases e
    · rw [hfree] at hc;cases hc
  rcases hx with hk | hk
  · refine wpAny_storeName_local hk hn (fun h' hn' hs=>?_) hcls
    obtain ⟨oL,_,_,hoL,_⟩:=id hn
    refine h _ ⟨I.ok,I.os,I.bare,⟨fun b o e n hb hx=>?_,fun b o e n hb hx=>?_,I.base.free,fun b o e hx=>?_,I.base.tups,I.base.frzs,I.base.tbls⟩,⟨_,hn',fun j y v' e1 e2 e3=>?_⟩,fun y c e=>?_,I.free,I.freeC,fun p hp=>?_,tracked ⟨oL,hoL,I.free⟩ hs,by simpa using I.len⟩ ⟨_,hs,.inl rfl⟩
    · exact (hs.2 b (Nat.ne_of_lt (Nat.lt_of_lt_of_le (Heap.lt_size e) I.ok.above))).trans (I.base.keep b o e n hb hx)
    · obtain ⟨sl,e1⟩:=I.base.slot b o e n hb hx
      exact ⟨sl,(hs.2 b (Nat.ne_of_lt (Nat.lt_of_lt_of_le (Heap.lt_size e) I.ok.above))).trans e1⟩
    · obtain ⟨o',e1⟩:=I.base.there b o e hx
      exact ⟨o',(hs.2 b (Nat.ne_of_lt (Nat.lt_of_lt_of_le (Heap.lt_size e) I.ok.above))).trans e1⟩
    · by_cases hj:j=i
      · subst hj
        rw [hi] at e1;cases e1
        rw [List.getElem?_set_self hiσ] at e2
        cases e2
        exact ⟨u,r,.inl ⟨hk,by simp⟩⟩
      · rw [List.getElem?_set_ne (Ne.symm hj)] at e2
        obtain ⟨u',r',q⟩:=hl j y v' e1 e2 e3
        refine ⟨u',r',?_⟩
        rcases q with ⟨k,e⟩ | ⟨k,c,e,z⟩
        · refine .inl ⟨k,?_⟩
          have:y ≠ x:=fun e=>hj (vJ hN e1 (e ▸ hi))
          simp [this,e]
        · exact .inr ⟨k,c,e,z.sameBut hs (cne y c e)⟩
    · obtain ⟨w',z⟩:=I.cell y c e
      exact ⟨w',z.sameBut hs (cne y c e)⟩
    · obtain ⟨e,n,ne,nf,d⟩:=I.pin p hp
      exact ⟨(hs.2 p.1 ne).trans e,n,ne,nf,d⟩
  · have hfn : X.fn x = true := by
      rcases hf with z | z
      · exact z
      · rw [z] at hk;cases hk
    obtain ⟨c,hc⟩:=I.ok.has x (.inl hk)
    obtain ⟨w',z⟩:=I.cell x c hc
    refine wpAny_storeName_cell I.ok.kind hk hc z (fun h' hc' hs=>?_)
    obtain ⟨oc,hoc,hocd⟩:=id z
    refine h { s with heap:=h' } ⟨I.ok,I.os,I.bare,⟨fun b o e n hb hx=>?_,fun b o e n hb hx=>?_,I.base.free,fun b o e hx=>?_,I.base.tups,I.base.frzs,I.base.tbls⟩,⟨m,hn.sameBut hs (Ne.symm (cne x c hc)),fun j y v' e1 e2 e3=>?_⟩,fun y c' e=>?_,I.free,I.freeC,fun p hp=>?_,tracked ⟨oc,hoc,I.freeC x c hc⟩ hs,by simpa using I.len⟩ ⟨c,hs,.inr hc⟩
    · exact (hs.2 b (Nat.ne_of_lt (Nat.lt_of_lt_of_le (Heap.lt_size e) (I.ok.cab x c hfn hc)))).trans (I.base.keep b o e n hb hx)
    · obtain ⟨sl,e1⟩:=I.base.slot b o e n hb hx
      exact ⟨sl,(hs.2 b (Nat.ne_of_lt (Nat.lt_of_lt_of_le (Heap.lt_size e) (I.ok.cab x c hfn hc)))).trans e1⟩
    · obtain ⟨o',e1⟩:=I.base.there b o e hx
      exact ⟨o',(hs.2 b (Nat.ne_of_lt (Nat.lt_of_lt_of_le (Heap.lt_size e) (I.ok.cab x c hfn hc)))).trans e1⟩
    · by_cases hj:j=i
      · subst hj
        rw [hi] at e1;cases e1
        rw [List.getElem?_set_self hiσ] at e2
        cases e2
        exact ⟨u,r,.inr ⟨.inl hk,c,hc,hc'⟩⟩
      · rw [List.getElem?_set_ne (Ne.symm hj)] at e2
        obtain ⟨u',r',q⟩:=hl j y v' e1 e2 e3
        refine ⟨u',r',?_⟩
        rcases q with q | ⟨k,c',e,z'⟩
        · exact .inl q
        · refine .inr ⟨k,c',e,z'.sameBut hs ?_⟩
          rintro rfl
          exact hj (vJ hN e1 (I.ok.inj _ _ _ e hc ▸ hi))
    · by_cases hcc:c'=c
      · subst hcc;exact ⟨_,hc'⟩
      · obtain ⟨w2,z2⟩:=I.cell y c' e
        exact ⟨w2,z2.sameBut hs hcc⟩
    · obtain ⟨e,n,ne,nf,d⟩:=I.pin p hp
      refine ⟨(hs.2 p.1 ?_).trans e,n,ne,nf,d⟩
      intro q
      rw [q,hoc] at e
      have q':oc=p.2:=Option.some.inj e
      exact d w' (by rw [<- q'];exact hocd)
theorem vv {M:Model}{A:Around}{E:Value->Shared->Prop}{i:Nat}{x:Str}{v:V}{u:Value}{Q:Unit->Shared->Prop}(I:Inv X pins σ H s)(hN:X.N.Nodup)(hi:X.N[i]?=some x)(hx:Loc X.env.scope x)(r:zp v u)
  (h:∀ s',Inv X pins (σ.set i (some v)) H s'->Q () s') (hf:X.fn x=true \/ X.env.scope.names.lookup x=some .local:=by first | exact .inl rfl | exact .inr rfl | assumption):wpAny M A (storeName X.env x u) Q E s:=
 ky I hN hi hx r (fun s' I' _=>h s' I') hf
theorem Inv.call' {s':Shared}{ch:List Addr}(I:Inv X pins σ H s)(ho:s'.os=s.os)(u:Un (frs X.stack) ch H H' s.heap s'.heap)(hok:HOk X.prog X.w H' s'.heap)(hg:AllBare s'.gens)
  (hch:∀ b ∈ ch,(b ∈ X.ex \/ X.s₀.heap.objs.size<=b)/\b ≠ X.env.locals/\(∀ x c,X.env.cells.lookup x=some c->c ≠ b)/\∀ p ∈ X.pn ++ pins,p.1 ≠ b):Inv X pins σ H' s':=by
 obtain ⟨h',g',d',t',o'⟩:=s'
 have e:o'=s.os:=ho
 subst e
 exact I.call (g':=g') (t':=t') (d':=d') u hok hg hch
end
noncomputable abbrev XK:=Value->Option Addr->Hp->Prop
noncomputable abbrev St:=List (Option V)
noncomputable abbrev VK:=V->Hp->Prop
noncomputable abbrev TE:=St->Hp->VK->Prop
noncomputable abbrev TT:=St->Hp->(Bool->Hp->Prop)->Prop
noncomputable abbrev TA:=St->Hp->(List V->Hp->Prop)->Prop
structure jR where
 nx:St->Hp->Prop
 rt:VK
 bk:St->Hp->Prop:=fun _ _=>False
 ct:St->Hp->Prop:=fun _ _=>False
noncomputable abbrev TS:=jR->St->Hp->Prop
noncomputable def EP (X:Cx)(pins:List (Addr × Obj))(σ:St)(Q:VK)(u:Value)(s':Shared):Prop:=∃ v H',Inv X pins σ H' s'/\zp v u/\Q v H'
noncomputable def TP (X:Cx)(pins:List (Addr × Obj))(σ:St)(Q:Bool->Hp->Prop)(b:Bool)(s':Shared):Prop:=∃ H',Inv X pins σ H' s'/\Q b H'
noncomputable def AP (X:Cx)(pins:List (Addr × Obj))(σ:St)(Q:List V->Hp->Prop)(us:List Value)(s':Shared):Prop:=∃ vs H',Inv X pins σ H' s'/\zq vs us/\Q vs H'
noncomputable def SP (X:Cx)(pins:List (Addr × Obj))(D:jR)(f:Flow)(s':Shared):Prop:=
 match f with
 | .next=>∃ σ' H',Inv X pins σ' H' s'/\D.nx σ' H'
 | .brk=>∃ σ' H',Inv X pins σ' H' s'/\D.bk σ' H'
 | .cont=>∃ σ' H',Inv X pins σ' H' s'/\D.ct σ' H'
 | .ret u=>∃ v σ' H',Inv X pins σ' H' s'/\zp v u/\D.rt v H'
noncomputable def PE (X:Cx)(e:Expr)(t:TE):Prop:=
 ∀ (pins:List (Addr × Obj)) (s:Shared) (σ:St) (H:Hp) (Q:VK),Inv X pins σ H s->t σ H Q->wpAny (model X.prog X.w) X.A (eval e X.env) (EP X pins σ Q) X.xe s
noncomputable def PT (X:Cx)(e:Expr)(t:TT):Prop:=
 ∀ (pins:List (Addr × Obj)) (s:Shared) (σ:St) (H:Hp) (Q:Bool->Hp->Prop),Inv X pins σ H s->t σ H Q->wpAny (model X.prog X.w) X.A (isTrue e X.env (eval e X.env)) (TP X pins σ Q) X.xe s
noncomputable def PW (X:Cx)(e:Expr)(t:TT):Prop:=
 ∀ (whole:Sem Value) (pins:List (Addr × Obj)) (s:Shared) (σ:St) (H:Hp) (Q:Bool->Hp->Prop),Inv X pins σ H s->t σ H Q->wpAny (model X.prog X.w) X.A (isTrue e X.env whole) (TP X pins σ Q) X.xe s
theorem PW.pt {X:Cx}{e:Expr}{t:TT}(h:PW X e t):PT X e t:=h _
noncomputable def PA (X:Cx)(es:List Expr)(t:TA):Prop:=
 ∀ (pos:Pos) (pins:List (Addr × Obj)) (s:Shared) (σ:St) (H:Hp) (Q:List V->Hp->Prop),Inv X pins σ H s->t σ H Q->wpAny (model X.prog X.w) X.A (spliced (backTo pos (starEach es X.env))) (AP X pins σ Q) X.xe s
noncomputable def PS (X:Cx)(st:Stmt)(t:TS):Prop:=
 ∀ (pins:List (Addr × Obj)) (s:Shared) (σ:St) (H:Hp) (D:jR),Inv X pins σ H s->t D σ H->wpAny (model X.prog X.w) X.A (exec st X.env) (SP X pins D) X.xe s
noncomputable def PSs (X:Cx)(st:List Stmt)(t:TS):Prop:=
 ∀ (pins:List (Addr × Obj)) (s:Shared) (σ:St) (H:Hp) (D:jR),Inv X pins σ H s->t D σ H->wpAny (model X.prog X.w) X.A (execs st X.env) (SP X pins D) X.xe s
theorem thn {α:Type}{t:Sem α}{Q Q':α->Shared->Prop}{M:Model}{A:Around}{E:Value->Shared->Prop}{s:Shared}(h:wpAny M A t Q E s)(hQ:∀ a s,Q a s->Q' a s):wpAny M A t Q' E s:=wpAny_mono h hQ fun _ _ x=>x
section
variable {X:Cx}
theorem bin {a b:Expr}{ta tb:TE}(ha:PE X a ta)(hb:PE X b tb){pins:List (Addr × Obj)}{s:Shared}{σ:St}{H:Hp}{R:V->V->Hp->Prop}(I:Inv X pins σ H s)(h:ta σ H fun x H1=>tb σ H1 fun y H2=>R x y H2)
  {α:Type} {Q:α->Shared->Prop} {f:Value->Value->Sem α}
  (hf:∀ v u s2 x y H2,Inv X pins σ H2 s2->zp x v->zp y u->R x y H2->wpAny (model X.prog X.w) X.A (f v u) Q X.xe s2) :
  wpAny (model X.prog X.w) X.A (eval a X.env) (fun v s₁=>wpAny (model X.prog X.w) X.A (eval b X.env) (fun u s₂=>wpAny (model X.prog X.w) X.A (f v u) Q X.xe s₂) X.xe s₁) X.xe s:=by
 refine thn (ha pins s σ H _ I h) fun v s1 ⟨x,H1,I1,r1,q1⟩=>?_
 refine thn (hb pins s1 σ H1 _ I1 q1) fun u s2 ⟨y,H2,I2,r2,q2⟩=>?_
 exact hf v u s2 x y H2 I2 r1 r2 q2
noncomputable def Yc (i:Nat):TE:=fun σ H Q=>∃ v,σ[i]?=some (some v)/\Q v H
noncomputable def tC (v:V):TE:=fun _ H Q=>Q v H
theorem VA {i:Nat}{x:Str}{pos:Pos}(hN:X.N[i]?=some x)(hv:Vis X.env.scope x)(hd:(x == ("__debug__":Str))=false:=by decide)(hcd:(x == ("__classdict__":Str))=false:=by decide):PE X (.Name x pos) (Yc i):=by
 intro pins s σ H Q I h
 obtain ⟨v,e,h⟩:=h
 obtain ⟨m,hn,hl⟩:=I.loc
 obtain ⟨u,r,l⟩:=hl i x v hN e hv
 have fin:EP X pins σ Q u s:=⟨v,H,I,r,h⟩
 rcases l with ⟨hk,hm⟩ | ⟨hk,c,hc,hcell⟩
 ·exact wpAny_Name (wpAny_loadName_local I.ok.kind hk hn hm fin) hd
 ·rcases hk with hk | hk
  ·exact wpAny_Name (wpAny_loadName_cell I.ok.kind hk hc hcell fin) hd
  ·exact wpAny_Name (wpAny_loadName_free I.ok.kind hk hc hcell fin hcd) hd
theorem zc {i j pos}:PE X (.Constant (.int i) j pos) (tC (.int i)):=fun _ _ _ H _ I h=>wpAny_Constant_int ⟨.int i,H,I.tok _,⟨_,rfl⟩,h⟩
theorem yZ {b j pos}:PE X (.Constant (.bool b) j pos) (tC (.bl b)):=fun _ _ _ H _ I h=>Constant_bool ⟨.bl b,H,I,rfl,h⟩
noncomputable def Gl (X:Cx)(x:Str):Prop:=X.env.kindOf x=some .globalImplicit
theorem ZE {E:Value->Shared->Prop}{pins:List (Addr × Obj)}{s:Shared}{σ:St}{H:Hp}{x:Str}{u:Value}{pos:Pos}{Q:Value->Shared->Prop}(I:Inv X pins σ H s)(hg:Gl X x)(hm:X.mg x=some u)(h:Q u s)
  (hd:(x == ("__debug__":Str))=false:=by decide):wpAny (model X.prog X.w) X.A (eval (.Name x pos) X.env) Q E s:=
 Calls.Name_function_global I.ok.kind hg (Calls.loadGlobal_global (by rw [I.ok.glob];exact I.mod.glob.keeps I.bk) hm h) hd
theorem jx {E:Value->Shared->Prop}{pins:List (Addr × Obj)}{s:Shared}{σ:St}{H:Hp}{x:Str}{u:Value}{pos:Pos}{Q:Value->Shared->Prop}(I:Inv X pins σ H s)(hg:Gl X x)(hm:X.mg x=none)(hv:bootBuiltins x=some u)(h:Q u s)
  (hn:x ≠ "__name__":=by decide) (hd:(x == ("__debug__":Str))=false:=by decide):wpAny (model X.prog X.w) X.A (eval (.Name x pos) X.env) Q E s:=by
 obtain ⟨mb,h1,h2⟩:=I.mod.blt
 exact Calls.Name_function_global I.ok.kind hg (Calls.loadGlobal_builtin (by rw [I.ok.glob];exact I.mod.glob.keeps I.bk) hm (by rw [I.ok.blt];exact h1.keeps I.bk) ((h2 x hn).trans hv) h) hd
theorem Y2 {x:Str}{v:V}{u:Value}{pos:Pos}(hg:Gl X x)(hm:X.mg x=some u)(r:zp v u)(hd:(x == ("__debug__":Str))=false:=by decide):PE X (.Name x pos) (tC v):=
 fun _ _ _ H _ I h=>ZE I hg hm ⟨v,H,I,r,h⟩ hd
theorem ZF {x:Str}{v:V}{u:Value}{pos:Pos}(hg:Gl X x)(hm:X.mg x=none)(hv:bootBuiltins x=some u)(r:zp v u)(hn:x ≠ "__name__":=by decide)(hd:(x == ("__debug__":Str))=false:=by decide):PE X (.Name x pos) (tC v):=
 fun _ _ _ H _ I h=>jx I hg hm hv ⟨v,H,I,r,h⟩ hn hd
variable {a b:Expr}{ta tb:TE}{pos:Pos}
noncomputable def PC (X:Cx)(op:CmpOp)(a b:Expr)(t:TE):Prop:=
 ∀ (pins:List (Addr × Obj)) (s:Shared) (σ:St) (H:Hp) (Q:VK),Inv X pins σ H s->t σ H Q ->
  wpAny (model X.prog X.w) X.A (eval a X.env) (fun v s₁=>wpAny (model X.prog X.w) X.A (eval b X.env) (fun u s₂=>wpAny (model X.prog X.w) X.A (compareOp op v u) (EP X pins σ Q) X.xe s₂) X.xe s₁) X.xe s
theorem JM (b:Expr){op:CmpOp}(h:op ≠ .In)(h2:op ≠ .NotIn):behindInMarks op b=false:=by
 have e1:(op == CmpOp.In)=false:=by cases op <;> first | rfl | exact absurd rfl h
 have e2:(op == CmpOp.NotIn)=false:=by cases op <;> first | rfl | exact absurd rfl h2
 cases b <;> simp [behindInMarks,e1,e2]
noncomputable def tB (t:TE):TT:=fun σ H Q=>t σ H fun x H1=>∃ c,x=.bl c/\Q c H1
theorem Q8 {op:CmpOp}{t:TE}(h:PC X op a b t)(h1:behindInMarks op b=false:=by first | exact JM _ (by decide) (by decide) | rfl):PT X (.Compare a [op] [b] pos) (tB t):=by
 intro pins s σ H Q I hw
 refine wpAny_isTrue_Compare1 (thn (h pins s σ H _ I hw) fun v s1 h1=>thn h1 fun u s2 h2=>thn h2 fun c s3 ⟨x,H1,I1,r1,q1⟩=>?_) h1
 obtain ⟨d,rfl,q⟩:=q1
 cases r1
 exact wpAny_truthy_bool ⟨H1,I1,q⟩
theorem KQ {e:Expr}{t:TE}(h:PE X e t)(he:∀ whole,isTrue e X.env whole=(do let v <- whole;standAt e.pos;holding [v] (truthy v)):=by intro _;rfl):PT X e (tB t):=by
 intro pins s σ H Q I hw
 refine isTrue_plain (thn (h pins s σ H _ I hw) fun v s1 ⟨x,H1,I1,r1,q1⟩=>?_) (he _)
 obtain ⟨d,rfl,q⟩:=q1
 cases r1
 exact wpAny_truthy_bool ⟨H1,I1,q⟩
variable {tA tB':TT}{zl:List Expr}
noncomputable def tOr (t u:TT):TT:=fun σ H Q=>t σ H fun c H1=>if c=true then Q true H1 else u σ H1 Q
noncomputable def Al (t:TT):TT:=fun σ H Q=>t σ H fun c H1=>Q (!c) H1
theorem WY (ha:PT X a tA):PW X (.BoolOp .Or [a] pos) tA:=by
 intro wh pins s σ H Q I h
 refine isTrue_or (thn (ha pins s σ H Q I h) fun c s1 e=>?_)
 cases c with
 | false=>exact isTrue_or_nil e
 | true=>exact e
theorem JE (ha:PT X a tA)(hb:PW X (.BoolOp .Or (b :: zl) pos) tB'):PW X (.BoolOp .Or (a :: b :: zl) pos) (tOr tA tB'):=by
 intro wh pins s σ H Q I h
 refine isTrue_or (thn (ha pins s σ H _ I h) fun c s1 ⟨H1,I1,q1⟩=>?_)
 cases c with
 | true=>exact ⟨H1,I1,q1⟩
 | false=>exact hb wh pins s1 σ H1 Q I1 q1
theorem Ws (ha:PT X a tA):PT X (.UnaryOp .Not a pos) (Al tA):=by
 intro pins s σ H Q I h
 exact isTrue_not (ha pins s σ H (fun c H1=>Q (!c) H1) I h)
end
noncomputable def SqL (K:PySem.W.Frag)(H:Hp)(a:Addr)(xs:List V):Prop:=
 Rd H a (.lst xs) \/
  ∃ (o:Obj) (its:Array Value) (n:Nat),K.lookup a=some o/\o.cls=.type "list"/\o.dict=none/\o.data=.seq its n/\its.size<=sizeLine/\zq xs its.toList
noncomputable def SqT (K:PySem.W.Frag)(H:Hp)(a:Addr)(xs:List V):Prop:=
 Rd H a (.tup xs) \/
  ∃ (o:Obj) (its:Array Value) (n:Nat),K.lookup a=some o/\o.cls=.type "tuple"/\o.data=.seq its n/\its.size<=sizeLine/\zq xs its.toList
noncomputable def BU:Value->Option V
 | .none=>some .non
 | .bool b=>some (.bl b)
 | .int i _=>some (.int i)
 | .str x _=>some (.str x)
 | .bytes b _=>some (.byt b)
 | .float b _=>some (.flt b)
 | .ref a=>some (.ref a)
 | .type n=>some (.ty n)
 | _=>none
theorem zp.abs {x:V}{u:Value}(r:zp x u):BU u=some x:=by
 cases x with
 | non=>cases r;rfl
 | bl _=>cases r;rfl
 | int _=>obtain ⟨t,rfl⟩:=r;rfl
 | str _=>obtain ⟨t,rfl⟩:=r;rfl
 | byt _=>obtain ⟨t,rfl⟩:=r;rfl
 | flt _=>obtain ⟨t,rfl⟩:=r;rfl
 | ref _=>cases r;rfl
 | ty _=>cases r;rfl
theorem zp.inj {x y:V}{u:Value}(r:zp x u)(q:zp y u):x=y:=Option.some.inj (r.abs.symm.trans q.abs)
theorem zq.inj:∀ {xs ys:List V} {us:List Value},zq xs us->zq ys us->xs=ys
 | _,_,_,.nil,.nil=>rfl
 | _,_,_,.cons r t,.cons r' t'=>by rw [r.inj r',zq.inj t t']
section
variable {X:Cx}{pins:List (Addr × Obj)}{σ:St}{H:Hp}{s:Shared}{a:Addr}{xs ys:List V}
theorem SqL.of {K:PySem.W.Frag}(h:H a=some (.lst xs)):SqL K H a xs:=.inl (.inl h)
theorem SqT.of {K:PySem.W.Frag}(h:H a=some (.tup xs)):SqT K H a xs:=.inl (.inl h)
theorem Inv.list (I:Inv X pins σ H s)(h:SqL X.K H a xs):∃ its:List Value,zq xs its/\PlainL s.heap a its.toArray/\xs.length<=sizeLine:=by
 rcases h with h | ⟨o,its,n,hk,hc,hd,hs,hz,r⟩
 ·obtain ⟨z,its,n,r,e⟩:=h.ok I.hok
  exact ⟨its,r,⟨_,n,e,rfl,rfl,rfl⟩,z⟩
 ·refine ⟨its.toList,r,⟨o,n,I.kIn a o hk,hc,hd,by simpa using hs⟩,?_⟩
  have e:=r.length
  simp only [Array.length_toList] at e
  omega
theorem Inv.tuple (I:Inv X pins σ H s)(h:SqT X.K H a xs):∃ its:List Value,zq xs its/\IsTup s.heap a its.toArray/\xs.length<=sizeLine:=by
 rcases h with h | ⟨o,its,n,hk,hc,hs,hz,r⟩
 ·obtain ⟨z,its,r,p⟩:=h.ok I.hok
  exact ⟨its,r,p.is,z⟩
 ·refine ⟨its.toList,r,⟨o,I.kIn a o hk,hc,n,by simpa using hs⟩,?_⟩
  have e:=r.length
  simp only [Array.length_toList] at e
  omega
theorem Inv.list_inj (I:Inv X pins σ H s)(h:SqL X.K H a xs)(h':SqL X.K H a ys):xs=ys:=by
 obtain ⟨its,r,⟨o,n,e,_,_,d⟩,_⟩:=I.list h
 obtain ⟨its',r',⟨o',n',e',_,_,d'⟩,_⟩:=I.list h'
 rw [e] at e';cases e'
 rw [d] at d'
 injection d' with d1 _
 have:its=its':=by simpa using congrArg Array.toList d1
 subst this
 exact r.inj r'
theorem Inv.tuple_inj (I:Inv X pins σ H s)(h:SqT X.K H a xs)(h':SqT X.K H a ys):xs=ys:=by
 obtain ⟨its,r,⟨o,e,_,n,d⟩,_⟩:=I.tuple h
 obtain ⟨its',r',⟨o',e',_,n',d'⟩,_⟩:=I.tuple h'
 rw [e] at e';cases e'
 rw [d] at d'
 injection d' with d1 _
 have:its=its':=by simpa using congrArg Array.toList d1
 subst this
 exact r.inj r'
end
noncomputable abbrev Cx.wish (X:Cx)(E:Value->Shared->Prop):Cx:={ X with xe:=E }
noncomputable abbrev Cx.nox (X:Cx):Cx:=X.wish fun _ _=>False
theorem Cx.Ok.wish {X:Cx}(ok:X.Ok)(E:Value->Shared->Prop):(X.wish E).Ok:=
 ⟨ok.mod,ok.kind,ok.glob,ok.blt,ok.above,ok.inj,ok.has,ok.cab,ok.hd,ok.frames,ok.stk,ok.exf,ok.bs,ok.bsz,ok.noex,ok.exfs,ok.funs,ok.frf⟩
theorem Cx.Ok.unwish {X:Cx}{E:Value->Shared->Prop}(ok:(X.wish E).Ok):X.Ok:=
 ⟨ok.mod,ok.kind,ok.glob,ok.blt,ok.above,ok.inj,ok.has,ok.cab,ok.hd,ok.frames,ok.stk,ok.exf,ok.bs,ok.bsz,ok.noex,ok.exfs,ok.funs,ok.frf⟩
section
variable {X:Cx}{pins:List (Addr × Obj)}{σ:St}{H:Hp}{s:Shared}{E:Value->Shared->Prop}
theorem Inv.wish (I:Inv X pins σ H s)(E:Value->Shared->Prop):Inv (X.wish E) pins σ H s:=⟨I.ok.wish E,I.os,I.bare,I.base,I.loc,I.cell,I.free,I.freeC,I.pin,I.hok,I.len⟩
theorem Inv.unwish (I:Inv (X.wish E) pins σ H s):Inv X pins σ H s:=⟨I.ok.unwish,I.os,I.bare,I.base,I.loc,I.cell,I.free,I.freeC,I.pin,I.hok,I.len⟩
theorem SP.unwish {D:jR}{f:Flow}{s':Shared}(h:SP (X.wish E) pins D f s'):SP X pins D f s':=by
 cases f with
 | next=>obtain ⟨σ',H',I,q⟩:=h;exact ⟨σ',H',I.unwish,q⟩
 | brk=>obtain ⟨σ',H',I,q⟩:=h;exact ⟨σ',H',I.unwish,q⟩
 | cont=>obtain ⟨σ',H',I,q⟩:=h;exact ⟨σ',H',I.unwish,q⟩
 | ret u=>obtain ⟨v,σ',H',I,r,q⟩:=h;exact ⟨v,σ',H',I.unwish,r,q⟩
theorem PSs.nox {st:List Stmt}{t:TS}(h:PSs X.nox st t):PSs X st t:=fun pins s σ H D I hw=>
 wpAny_mono (h pins s σ H D (I.wish _) hw) (fun _ _ q=>q.unwish) fun _ _ z=>False.elim z
end
section
variable {X:Cx}{st:Stmt}{zl:List Stmt}{t u:TS}{e:Expr}{te:TE}{pos:Pos}
noncomputable def JP:TS:=fun D σ H=>D.nx σ H
noncomputable def W4 (t u:TS):TS:=fun D σ H=>t { D with nx:=u D } σ H
theorem qx:PSs X [] JP:=fun _ _ σ H _ I h=>wpAny_execs_nil ⟨σ,H,I,h⟩
theorem ze (h1:PS X st t)(h2:PSs X zl u):PSs X (st :: zl) (W4 t u):=by
 intro pins s σ H D I h
 refine wpAny_execs_cons (thn (h1 pins s σ H { D with nx:=u D } I h) fun f s1 q=>?_)
 cases f with
 | next=>
  obtain ⟨σ',H',I',q⟩:=q
  exact h2 pins s1 σ' H' D I' q
 | ret v=>exact q
 | brk=>exact q
 | cont=>exact q
theorem zt (h1:PS X st t):PSs X [st] t:=by
 intro pins s σ H D I h
 refine wpAny_execs_cons (thn (h1 pins s σ H D I h) fun f s1 q=>?_)
 cases f with
 | next=>exact wpAny_execs_nil q
 | ret v=>exact q
 | brk=>exact q
 | cont=>exact q
theorem Inv.quiet {pins:List (Addr × Obj)}{σ:St}{H:Hp}{s:Shared}(I:Inv X pins σ H s):interactive X.env=false:=by simp [interactive,I.ok.kind]
noncomputable def JC (te:TE):TS:=fun D σ H=>te σ H fun _ H1=>D.nx σ H1
theorem Zr (he:PE X e te)(hs:swapsWith e none pos.line X.env=pure false:=by rfl):PS X (.Expr e pos) (JC te):=by
 intro pins s σ H D I h
 exact wpAny_Expr_any (thn (he pins s σ H _ I h) fun v s1 ⟨x,H1,I1,r1,q1⟩=>⟨σ,H1,I1,q1⟩) I.quiet hs
noncomputable def W0 (te:TE):TS:=fun D σ H=>te σ H D.rt
theorem qa (he:PE X e te):PS X (.Return (some e) pos) (W0 te):=by
 intro pins s σ H D I h
 exact wpAny_Return_some (thn (he pins s σ H _ I h) fun v s1 ⟨x,H1,I1,r1,q1⟩=>⟨x,σ,H1,I1,r1,q1⟩)
noncomputable def WO (c:TT)(t u:TS):TS:=fun D σ H=>c σ H fun b H1=>if b=true then t D σ H1 else u D σ H1
theorem j5 {c:Expr}{a b:List Stmt}{tc:TT}(hc:PT X c tc)(ha:PSs X a t)(hb:PSs X b u):PS X (.If c a b pos) (WO tc t u):=by
 intro pins s σ H D I h
 refine wpAny_If (thn (hc pins s σ H _ I h) fun d s1 ⟨H1,I1,q1⟩=>?_)
 cases d with
 | true=>exact ha pins s1 σ H1 D I1 q1
 | false=>exact hb pins s1 σ H1 D I1 q1
end
noncomputable abbrev TG:=V->St->Hp->(St->Hp->Prop)->Prop
noncomputable abbrev TGs:=List V->St->Hp->(St->Hp->Prop)->Prop
noncomputable def PG (X:Cx)(target:Expr)(t:TG):Prop:=
 ∀ (pins:List (Addr × Obj)) (s:Shared) (σ:St) (H:Hp) (v:V) (u:Value) (Q:St->Hp->Prop),Inv X pins σ H s->zp v u->t v σ H Q ->
  wpAny (model X.prog X.w) X.A (assign target X.env u) (fun _ s'=>∃ σ' H',Inv X pins σ' H' s'/\Q σ' H') X.xe s
noncomputable def PGs (X:Cx)(ts:List Expr)(t:TGs):Prop:=
 ∀ (pins:List (Addr × Obj)) (s:Shared) (σ:St) (H:Hp) (vs:List V) (us:List Value) (Q:St->Hp->Prop),Inv X pins σ H s->zq vs us->t vs σ H Q ->
  wpAny (model X.prog X.w) X.A (assignInOrder ((assignEach ts X.env).map (·.2)) us) (fun _ s'=>∃ σ' H',Inv X pins σ' H' s'/\Q σ' H') X.xe s
noncomputable abbrev Jq:=V->V->V->Hp->(Hp->Prop)->Prop
noncomputable def WE (X:Cx)(t:Jq):Prop:=
 ∀ (pins:List (Addr × Obj)) (s:Shared) (σ:St) (H:Hp) (o i v:V) (ov iv u:Value) (Q:Hp->Prop),Inv X pins σ H s->zp o ov->zp i iv->zp v u->t o i v H Q ->
  wpAny (model X.prog X.w) X.A (setItem ov iv u) (fun _ s'=>∃ H',Inv X pins σ H' s'/\Q H') X.xe s
noncomputable abbrev TIp:=V->V->Hp->VK->Prop
section
variable {X:Cx}{pos:Pos}
noncomputable def xi (i:Nat):TG:=fun v σ H Q=>Q (σ.set i (some v)) H
theorem zv {i:Nat}{x:Str}(hN:X.N.Nodup)(hi:X.N[i]?=some x)(hx:Loc X.env.scope x)(hf:X.fn x=true \/ X.env.scope.names.lookup x=some .local:=by first | exact .inl rfl | exact .inr rfl | assumption):PG X (.Name x pos) (xi i):=by
 intro pins s σ H v u Q I r h
 exact wpAny_assign_Name (vv I hN hi hx r (fun s' I'=>⟨_,H,I',h⟩) hf)
noncomputable def YO:TGs:=fun vs σ H Q=>vs=[]/\Q σ H
noncomputable def Z4 (t:TG)(u:TGs):TGs:=fun vs σ H Q=>∃ v r,vs=v :: r/\t v σ H fun σ' H'=>u r σ' H' Q
theorem qF:PGs X [] YO:=by
 intro pins s σ H vs us Q I r h
 obtain ⟨e,h⟩:=h
 subst e
 cases r
 exact assignInOrder_nil ⟨σ,H,I,h⟩
theorem zB {e:Expr}{es:List Expr}{t:TG}{u:TGs}(h1:PG X e t)(h2:PGs X es u)
  (hs:(assignEach (e :: es) X.env).map (·.2)=assign e X.env :: (assignEach es X.env).map (·.2):=by rfl):PGs X (e :: es) (Z4 t u):=by
 intro pins s σ H vs us Q I r h
 obtain ⟨v,vr,e1,h⟩:=h
 subst e1
 cases r with
 | cons r rr=>
  rw [hs]
  refine assignInOrder_cons (thn (h1 pins s σ H _ _ _ I r h) fun _ s1 ⟨σ1,H1,I1,q1⟩=>?_)
  exact h2 pins s1 σ1 H1 _ _ Q I1 rr q1
noncomputable def ww (K:PySem.W.Frag)(n:Nat)(t:TGs):TG:=fun v σ H Q=>∃ a xs,v=.ref a/\SqT K H a xs/\xs.length=n/\t xs σ H Q
theorem Aq {es:List Expr}{k:Nat}{t:TGs}{n:Nat}(hc:X.calm=true)(h:PGs X es t)
  (hn:(assignEach es X.env).length=n:=by rfl) (hst:(assignEach es X.env).findIdx? (·.1)=none:=by rfl):PG X (.Tuple es k pos) (ww X.K n t):=by
 intro pins s σ H v u Q I r hw
 obtain ⟨a,xs,e1,hq,hl,hw⟩:=hw
 subst e1
 cases r
 obtain ⟨its,rv,ht,hz⟩:=I.tuple hq
 refine assign_Tuple_tuple (I.ok.hd hc) ht (by simp [hn,<- hl,rv.length]) hst fun h' hx=>?_
 have I1:Inv X pins σ H { s with heap:=h' }:=I.kept (t':=s.toks) fun b o e=>hx b o (Nat.ne_of_lt (Heap.lt_size e)) e
 exact h pins _ σ H xs _ Q I1 (by simpa using rv) hw
noncomputable def Ab (to ti:TE)(t:Jq):TG:=fun v σ H Q=>to σ H fun o H1=>ti σ H1 fun i H2=>t o i v H2 fun H3=>Q σ H3
theorem jS {o i:Expr}{to ti:TE}{t:Jq}(ho:PE X o to)(hi:PE X i ti)(hs:WE X t)
  (ha:∀ v,assign (.Subscript o i pos) X.env v=(do
   let ov <- holding [v] (eval o X.env)
   let iv <- holding [v,ov] (eval i X.env)
   standAt pos
   holding [v,ov,iv] (setItem ov iv v)
   release [v,ov,iv] []):=by intro _;rfl):PG X (.Subscript o i pos) (Ab to ti t):=by
 intro pins s σ H v u Q I r h
 rw [ha]
 refine wpAny_bind (wpAny_holding (thn (ho pins s σ H _ I h) fun ov s1 ⟨x,H1,I1,r1,q1⟩=>?_))
 refine wpAny_bind (wpAny_holding (thn (hi pins s1 σ H1 _ I1 q1) fun iv s2 ⟨y,H2,I2,r2,q2⟩=>?_))
 refine wpAny_bind (wpAny_standAt (wpAny_bind (wpAny_holding (thn (hs pins s2 σ H2 x y v ov iv u _ I2 r1 r2 r q2) fun _ s3 ⟨H3,I3,q3⟩=>?_))))
 exact wpAny_release ⟨σ,H3,I3,q3⟩
noncomputable def Ze (te:TE)(g:TG):TS:=fun D σ H=>te σ H fun x H1=>g x σ H1 D.nx
theorem kg {tg e:Expr}{te:TE}{g:TG}(he:PE X e te)(hg:PG X tg g)(hs:swapsWithSole [tg] e pos.line X.env=pure false:=by rfl)(hw:swappedStores [tg] e X.env=pure none:=by rfl)
  (h1:(assignEach [tg] X.env).map (·.2)=[assign tg X.env]:=by rfl):PS X (.Assign [tg] e pos) (Ze te g):=by
 intro pins s σ H D I h
 refine wpAny_Assign_stores (thn (he pins s σ H _ I h) fun v s1 ⟨x,H1,I1,r1,q1⟩=>?_) hs hw
 rw [h1]
 exact thn (hg pins s1 σ H1 x v _ I1 r1 q1) fun _ s2 q=>q
theorem zu {i:Nat}{x:Str}{e:Expr}{te:TE}{pos':Pos}(hN:X.N.Nodup)(hi:X.N[i]?=some x)(hx:Loc X.env.scope x)(he:PE X e te)(hs:swapsWith e (some (.Name x pos')) pos.line X.env=pure false:=by rfl)(hf:X.fn x=true \/ X.env.scope.names.lookup x=some .local:=by first | exact .inl rfl | exact .inr rfl | assumption) :
  PS X (.Assign [.Name x pos'] e pos) (Ze te (xi i)):=by
 intro pins s σ H D I h
 refine wpAny_Assign_Name (thn (he pins s σ H _ I h) fun v s1 ⟨y,H1,I1,r1,q1⟩=>?_) hs
 exact vv I1 hN hi hx r1 (fun s2 I2=>⟨_,H1,I2,q1⟩) hf
end
section
variable {X:Cx}{pos:Pos}
noncomputable def KL (c:TT)(tb:TS):TS:=fun D σ H=>∃ W:Nat->St->Hp->Prop,(∃ m,W m σ H)/\∀ m σ H,W m σ H ->
 c σ H fun b H1=>if b=true then ∃ N:St->Hp->Prop,(∀ σ' H',N σ' H'->∃ m',m'<m/\W m' σ' H')/\tb { D with nx:=N,ct:=N,bk:=D.nx } σ H1 else D.nx σ H1
theorem Jw {c:Expr}{body:List Stmt}{tc:TT}{tb:TS}(hp:PassesOwn (model X.prog X.w) X.A X.env X.xe)(hc:PT X c tc)(hb:PSs X body tb):PS X (.While c body [] pos) (KL tc tb):=by
 intro pins s σ H D I h
 obtain ⟨W,⟨m0,w0⟩,turn⟩:=h
 refine wpAny_While (codeAny_whileLoop (fun n s'=>∃ σ' H',Inv X pins σ' H' s'/\W n σ' H') ?_ m0 ⟨σ,H,I,w0⟩)
 rintro n s1 ⟨σ1,H1,I1,w1⟩
 refine wpAny_passesOwn hp (thn (hc pins s1 σ1 H1 _ I1 (turn n σ1 H1 w1)) fun b s2 ⟨H2,I2,q2⟩=>?_)
 cases b with
 | true=>
  obtain ⟨N,hN,q2⟩:=q2
  rw [if_pos rfl]
  refine wpAny_passesOwn hp (thn (hb pins s2 σ1 H2 _ I2 q2) fun f s3 q3=>?_)
  cases f with
  | next=>
   obtain ⟨σ3,H3,I3,n3⟩:=q3
   obtain ⟨m',hm,w3⟩:=hN σ3 H3 n3
   exact ⟨m',hm,σ3,H3,I3,w3⟩
  | cont=>
   obtain ⟨σ3,H3,I3,n3⟩:=q3
   obtain ⟨m',hm,w3⟩:=hN σ3 H3 n3
   exact ⟨m',hm,σ3,H3,I3,w3⟩
  | brk=>exact q3
  | ret v=>exact q3
 | false=>
  rw [if_neg Bool.false_ne_true]
  exact wpAny_execs_nil ⟨σ1,H2,I2,q2⟩
end
structure It where
 go:Nat->Hp->Prop
 yld:Nat->Hp->V->Hp->Prop
 stop:Nat->Hp->Prop
noncomputable def jK (X:Cx)(pins:List (Addr × Obj))(H:Hp)(b:Addr):Prop:=
 H b=none/\b ≠ X.env.locals/\b ∉ X.fs/\(b ∈ X.ex \/ X.s₀.heap.objs.size<=b)/\(∀ x c,X.env.cells.lookup x=some c->c ≠ b)/\∀ p ∈ X.pn ++ pins,p.1 ≠ b
theorem Inv.fpOk {X:Cx}{pins:List (Addr × Obj)}{σ:St}{H H':Hp}{s:Shared}{b:Addr}(I:Inv X pins σ H s)(hb:s.heap.objs.size<=b)(hn:H' b=none):jK X pins H' b:=by
 refine ⟨hn,Nat.ne_of_gt (Nat.lt_of_lt_of_le I.lt hb),I.nofs hb,.inr (Nat.le_trans I.sz hb),fun x c e z=>?_,fun p hp z=>?_⟩
 ·obtain ⟨v,q⟩:=I.cell x c e
  exact absurd (Nat.lt_of_lt_of_le q.lt (by rw [z];exact hb)) (Nat.lt_irrefl _)
 ·exact absurd (Nat.lt_of_lt_of_le (Heap.lt_size (I.pin p hp).1) (by rw [z];exact hb)) (Nat.lt_irrefl _)
structure yh (P:Program)(w:World)(K:PySem.W.Frag)(tg:Expr)(J:It)(fp:List Addr)(it:Addr)(tn:Nat->Heap->Prop):Prop where
 mem:it ∈ fp
 obj:∀ i h,tn i h->∀ b ∈ fp,∃ o,h.get? b=some o/\∀ v,o.data ≠ .cell v
 keep:∀ i h h',tn i h->(∀ b ∈ fp,∀ o,h.get? b=some o->h'.get? b=some o)->tn i h'
 item:∀ (X:Cx),X.prog=P->X.w=w->X.K=K->X.calm=true->∀ (i:Nat) (pins:List (Addr × Obj)) (s:Shared) (σ:St) (H:Hp) (E:Value->Shared->Prop),Inv X pins σ H s->(∀ b ∈ fp,jK X pins H b)->tn i s.heap->J.go i H ->
  wpAny (model P w) X.A (pyNext (.ref it)) (fun r s1=>∃ u,r=some u /\
   wpAny (model P w) X.A (letOwnedTupleGo tg (.ref it) u) (fun _ s2=>∃ x H',Inv X pins σ H' s2/\zp x u/\J.yld i H x H'/\tn (i+1) s2.heap/\∀ b ∈ fp,H' b=none) E s1) E s
 done:∀ (X:Cx),X.prog=P->X.w=w->X.K=K->X.calm=true->∀ (i:Nat) (pins:List (Addr × Obj)) (s:Shared) (σ:St) (H:Hp) (E:Value->Shared->Prop),Inv X pins σ H s->(∀ b ∈ fp,jK X pins H b)->tn i s.heap->J.stop i H ->
  wpAny (model P w) X.A (pyNext (.ref it)) (fun r s1=>r=none/\Inv X pins σ H s1) E s
 self:∀ (A:Around) (i:Nat) (s:Shared) (Q:Value->Shared->Prop) (E:Value->Shared->Prop),tn i s.heap->Q (.ref it) s->wpAny (model P w) A (pyIter (.ref it)) Q E s
noncomputable abbrev TI:=St->Hp->(It->Hp->Prop)->Prop
noncomputable def PIE (X:Cx)(pins:List (Addr × Obj))(σ:St)(tg:Expr)(R:It->Hp->Prop)(itv:Value)(s2:Shared):Prop:=
 ∃ (it:Addr) (fp:List Addr) (tn:Nat->Heap->Prop) (J:It) (H':Hp),itv=.ref it/\Inv X pins σ H' s2/\yh X.prog X.w X.K tg J fp it tn/\tn 0 s2.heap/\(∀ b ∈ fp,jK X pins H' b)/\R J H'
noncomputable def PI (X:Cx)(tg iter:Expr)(wi:TI):Prop:=
 ∀ (pins:List (Addr × Obj)) (s:Shared) (σ:St) (H:Hp) (R:It->Hp->Prop),Inv X pins σ H s->wi σ H R ->
  wpAny (model X.prog X.w) X.A (eval iter X.env) (fun v s1=>wpAny (model X.prog X.w) X.A (pyIter v) (PIE X pins σ tg R) X.xe s1) X.xe s
theorem Ks {M : Model}{A : Around}{E : Value -> Shared -> Prop}{s : Shared}{tg : Expr}{it : Addr}{u : Value}{o : Obj}{n : String}{vs : Array Value}{Q : Unit -> Shared -> Prop}(ho : s.heap.get? it = some o)(hc : o.cls = .type n)(hd : o.data = .fields vs)
    (hn:["enumerate","zip","dict_itemiterator","dict_reverseitemiterator","odict_iterator","itertools.zip_longest","itertools.pairwise"].contains n=false) (hQ:Q () s):wpAny M A (letOwnedTupleGo tg (.ref it) u) Q E s:=by
  unfold letOwnedTupleGo
  cases tg <;> first
    | exact wpAny_pure hQ
    | (cases u <;> first
        | exact wpAny_pure hQ
        | (refine wpAny_bind (wpAny_load ho ?_)
           rw [hc,hd]
           show wpAny M A (if (["enumerate","zip","dict_itemiterator","dict_reverseitemiterator","odict_iterator","itertools.zip_longest","itertools.pairwise"].contains n && vs[0]? == some (rawInt _))=true then _ else _) Q E s
           rw [if_neg (by intro h;rw [hn,Bool.false_and] at h;cases h)]
           exact wpAny_pure hQ))
noncomputable def Itl (K:PySem.W.Frag)(a:Addr):It:=
 ⟨fun i H=>∃ xs x,SqL K H a xs/\xs[i]?=some x,fun i H x H'=>H'=H/\∀ xs,SqL K H a xs->xs[i]?=some x,fun i H=>∃ xs,SqL K H a xs/\xs.length<=i⟩
noncomputable def Itt (K:PySem.W.Frag)(a:Addr):It:=
 ⟨fun i H=>∃ xs x,SqT K H a xs/\xs[i]?=some x,fun i H x H'=>H'=H/\∀ xs,SqT K H a xs->xs[i]?=some x,fun i H=>∃ xs,SqT K H a xs/\xs.length<=i⟩
noncomputable def Itr (lo:Int)(n:Nat):It:=⟨fun i _=>i<n,fun i H x H'=>H'=H/\x=.int (lo+i),fun i _=>n<=i⟩
theorem QE {P:Program}{w:World}{K:PySem.W.Frag}{tg:Expr}(a it:Addr):yh P w K tg (Itl K a) [it] it (fun i h=>h.IsListIter it a i) where
 mem:=by simp
 obj:=fun i h st b hb=>by
  have e:b=it:=by simpa using hb
  subst e
  obtain ⟨o,e,c,d⟩:=st
  exact ⟨o,e,fun v z=>by rw [d] at z;cases z⟩
 keep:=fun i h h' st k=>st.at fun o e=>k it (by simp) o e
 item:=by
  intro X hP hw hK hc i pins s σ H E I hf st hg
  subst hP hw hK
  obtain ⟨xs,x,hq,hx⟩:=hg
  obtain ⟨its,rv,p,hz⟩:=I.list hq
  obtain ⟨u,hu,ru⟩:=rv.get hx
  obtain ⟨f0,f1,f2,f3,f4,f5⟩:=hf it (by simp)
  refine wpAny_pyNext_list_item st p.isList (x:=u) (by simpa using hu) fun h' st' sb=>?_
  have I1:Inv X pins σ H { s with heap:=h' }:=I.turned (t':=s.toks) (fun b o hb e=>(sb.2 b hb).trans e) f0 f1 f3 f4 f5
  obtain ⟨o,e,c,d⟩:=id st'
  exact ⟨u,rfl,Ks (s:={ s with heap:=h' }) e c d (by decide) ⟨x,H,I1,ru,⟨rfl,fun ys hy=>by rw [I.list_inj hy hq];exact hx⟩,st',fun b hb=>(hf b hb).1⟩⟩
 done:=by
  intro X hP hw hK hc i pins s σ H E I hf st hg
  subst hP hw hK
  obtain ⟨xs,hq,hx⟩:=hg
  obtain ⟨its,rv,p,hz⟩:=I.list hq
  obtain ⟨f0,f1,f2,f3,f4,f5⟩:=hf it (by simp)
  have hl:=rv.length
  exact wpAny_pyNext_list_end (I.ok.hd hc) st p.isList (by simp;omega) fun h' eb=>⟨rfl,I.turned (t':=s.toks) (fun b o hb e=>eb b o hb e) f0 f1 f3 f4 f5⟩
 self:=fun _ _ _ _ _ st h=>wpAny_pyIter_listiter st h
theorem xp {P:Program}{w:World}{K:PySem.W.Frag}{tg:Expr}(a it:Addr):yh P w K tg (Itt K a) [it] it (fun i h=>h.IsTupleIter it a i) where
 mem:=by simp
 obj:=fun i h st b hb=>by
  have e:b=it:=by simpa using hb
  subst e
  obtain ⟨o,e,c,d⟩:=st
  exact ⟨o,e,fun v z=>by rw [d] at z;cases z⟩
 keep:=fun i h h' st k=>st.at fun o e=>k it (by simp) o e
 item:=by
  intro X hP hw hK hc i pins s σ H E I hf st hg
  subst hP hw hK
  obtain ⟨xs,x,hq,hx⟩:=hg
  obtain ⟨its,rv,p,hz⟩:=I.tuple hq
  obtain ⟨u,hu,ru⟩:=rv.get hx
  obtain ⟨f0,f1,f2,f3,f4,f5⟩:=hf it (by simp)
  refine wpAny_pyNext_tuple_item st (show s.heap.IsTuple a its.toArray from p) (x:=u) (by simpa using hu) fun h' st' sb=>?_
  have I1:Inv X pins σ H { s with heap:=h' }:=I.turned (t':=s.toks) (fun b o hb e=>(sb.2 b hb).trans e) f0 f1 f3 f4 f5
  obtain ⟨o,e,c,d⟩:=id st'
  exact ⟨u,rfl,Ks (s:={ s with heap:=h' }) e c d (by decide) ⟨x,H,I1,ru,⟨rfl,fun ys hy=>by rw [I.tuple_inj hy hq];exact hx⟩,st',fun b hb=>(hf b hb).1⟩⟩
 done:=by
  intro X hP hw hK hc i pins s σ H E I hf st hg
  subst hP hw hK
  obtain ⟨xs,hq,hx⟩:=hg
  obtain ⟨its,rv,p,hz⟩:=I.tuple hq
  obtain ⟨f0,f1,f2,f3,f4,f5⟩:=hf it (by simp)
  have hl:=rv.length
  exact wpAny_pyNext_tuple_end (I.ok.hd hc) st (show s.heap.IsTuple a its.toArray from p) (by simp;omega) fun h' eb=>⟨rfl,I.turned (t':=s.toks) (fun b o hb e=>eb b o hb e) f0 f1 f3 f4 f5⟩
 self:=fun _ _ _ _ _ st h=>wpAny_pyIter_tupleiter st h
theorem wm {P:Program}{w:World}{K:PySem.W.Frag}{tg:Expr}(it:Addr)(lo:Int)(n:Nat):yh P w K tg (Itr lo n) [it] it (fun i h=>IsRangeIter h it (lo+(i:Nat) * 1) ((n:Int) - (i:Nat)) 1) where
 mem:=by simp
 obj:=fun i h st b hb=>by
  have e:b=it:=by simpa using hb
  subst e
  exact ⟨_,st,fun v z=>by
   have z':Data.fields _=Data.cell v:=z
   cases z'⟩
 keep:=fun i h h' st k=>k it (by simp) _ st
 item:=by
  intro X hP hw hK hc i pins s σ H E I hf st hg
  subst hP hw hK
  obtain ⟨f0,f1,f2,f3,f4,f5⟩:=hf it (by simp)
  have W:=Walks.range (prog:=X.prog) (w:=X.w) (I.ok.hd hc) it lo 1 n
  refine W.item i s _ _ hg st fun v h' tk hv st' kk=>?_
  obtain ⟨t,rfl⟩:=hv
  have I1:Inv X pins σ H { s with heap:=h',toks:=tk }:=I.turned (fun b o hb e=>kk b o (by simpa using hb) e) f0 f1 f3 f4 f5
  refine ⟨_,rfl,Ks (s:={ s with heap:=h',toks:=tk }) (n:="range_iterator") st' rfl rfl (by decide) ⟨.int (lo+i),H,I1,⟨t,?_⟩,⟨rfl,rfl⟩,st',fun b hb=>(hf b hb).1⟩⟩
  rw [Int.mul_one]
 done:=by
  intro X hP hw hK hc i pins s σ H E I hf st hg
  subst hP hw hK
  obtain ⟨f0,f1,f2,f3,f4,f5⟩:=hf it (by simp)
  exact wpAny_pyNext_range_end (I.ok.hd hc) st (by have:n<=i:=hg;omega) fun h' eb=>⟨rfl,I.turned (t':=s.toks) (fun b o hb e=>eb b o hb e) f0 f1 f3 f4 f5⟩
 self:=fun _ _ _ _ _ st h=>wpAny_pyIter_rangeiter st h
section
variable {X:Cx}{tg:Expr}
noncomputable def AN (K:PySem.W.Frag)(tl:TE):TI:=fun σ H R=>tl σ H fun x H1=>∃ a,x=.ref a/\(∃ xs,SqT K H1 a xs)/\R (Itt K a) H1
theorem Wl {l:Expr}{tl:TE}(hl:PE X l tl):PI X tg l (AN X.K tl):=by
 intro pins s σ H R I h
 refine thn (hl pins s σ H _ I h) fun v s1 ⟨x,H1,I1,r1,q1⟩=>?_
 obtain ⟨a,e,⟨xs,hq⟩,q⟩:=q1
 subst e
 cases r1
 obtain ⟨its,rv,p,hz⟩:=I1.tuple hq
 refine wpAny_pyIter_tuple (show s1.heap.IsTuple a its.toArray from p) ?_
 refine ⟨s1.heap.objs.size,[s1.heap.objs.size],_,_,H1,rfl,I1.kept (t':=s1.toks) fun b o e=>Heap.get?_push_of_some _ e,xp a _,⟨_,Heap.get?_push_size _ rfl,rfl,rfl⟩,fun b hb=>?_,q⟩
 have e:b=s1.heap.objs.size:=by simpa using hb
 subst e
 exact I1.fpOk (Nat.le_refl _) (I1.hok.fresh (Nat.le_refl _))
theorem vn {pins:List (Addr × Obj)}{σ:St}{H:Hp}{s:Shared}{R:It->Hp->Prop}{E:Value->Shared->Prop}{lo hi:Int}{t u v:Tok}{tk:Nat}(I:Inv X pins σ H s)(h1:-(2 ^ 62)<=lo)(h2:lo<2 ^ 62)(h3:-(2 ^ 62)<=hi)(h4:hi<2 ^ 62)
  (q:R (Itr lo (hi - lo).toNat) H):wpAny (model X.prog X.w) X.A (pyIter (.ref s.heap.objs.size)) (PIE X pins σ tg R) E { s with heap:=s.heap.push { cls:=.type "range",data:=.fields #[.int lo t,.int hi u,.int 1 v] },toks:=tk }:=by
 refine wpAny_pyIter_range (IsRange.new ..) (small_one h1 h2 h3 h4) ?_
 have I1:Inv X pins σ H { s with heap:=s.heap.push { cls:=.type "range",data:=.fields #[.int lo t,.int hi u,.int 1 v] },toks:=tk }:=I.kept fun b o e=>Heap.get?_push_of_some _ e
 refine ⟨(s.heap.push { cls:=.type "range",data:=.fields #[.int lo t,.int hi u,.int 1 v] }).objs.size,[(s.heap.push { cls:=.type "range",data:=.fields #[.int lo t,.int hi u,.int 1 v] }).objs.size],_,_,H,rfl,
  I1.kept (t':=tk) fun b o e=>Heap.get?_push_of_some _ e,wm _ lo (hi - lo).toNat,?_,fun b hb=>?_,q⟩
 ·have e1:lo+((0:Nat):Int) * 1=lo:=by simp
  have e2:(((hi - lo).toNat:Nat):Int) - ((0:Nat):Int)=Builtin.Range.rangeSize lo hi 1:=by rw [rangeSize_one];split <;> omega
  show IsRangeIter _ _ (lo+((0:Nat):Int) * 1) ((((hi - lo).toNat:Nat):Int) - ((0:Nat):Int)) 1
  rw [e1,e2]
  exact Heap.get?_push_size _ rfl
 ·have e:b=(s.heap.push { cls:=.type "range",data:=.fields #[.int lo t,.int hi u,.int 1 v] }).objs.size:=by simpa using hb
  subst e
  exact I1.fpOk (Nat.le_refl _) (I1.hok.fresh (Nat.le_refl _))
noncomputable def K1 (ta:TA):TI:=fun σ H R=>ta σ H fun vs H1=>∃ j:Int,vs=[.int j]/\-(2 ^ 62)<=j/\j<2 ^ 62/\R (Itr 0 j.toNat) H1
noncomputable def Xv (ta:TA):TI:=fun σ H R=>ta σ H fun vs H1=>∃ i j:Int,vs=[.int i,.int j]/\(-(2 ^ 62)<=i/\i<2 ^ 62/\-(2 ^ 62)<=j/\j<2 ^ 62)/\R (Itr i (j - i).toNat) H1
theorem zP {a:Expr}{ta:TA}{p pos:Pos}(hg:Gl X "range")(hm:X.mg "range"=none)(ha:PA X [a] ta)(hs:starEach [a] X.env=[(false,eval a X.env)]:=by rfl):PI X tg (.Call (.Name "range" p) [a] [] pos) (K1 ta):=by
 intro pins s σ H R I h
 refine Call_ (jx I hg hm boot_range (PyProof.Rows.callWith_type1 (thn (ha pos pins s σ H _ I h) fun us s1 ⟨vs,H1,I1,r1,q1⟩=>?_) hs rfl))
 obtain ⟨j,e,q1,q2,q⟩:=q1
 subst e
 cases r1 with
 | cons r rr=>
  cases rr
  obtain ⟨t,rfl⟩:=r
  exact call_range_1 (vn I1 (by omega) (by omega) q1 q2 (by simpa using q))
theorem QV {a b:Expr}{ta:TA}{p pos:Pos}(hg:Gl X "range")(hm:X.mg "range"=none)(ha:PA X [a,b] ta)(hs:starEach [a,b] X.env=[(false,eval a X.env),(false,eval b X.env)]:=by rfl)(hs2:starEach [b] X.env=[(false,eval b X.env)]:=by rfl) :
  PI X tg (.Call (.Name "range" p) [a,b] [] pos) (Xv ta):=by
 intro pins s σ H R I h
 refine Call_ (jx I hg hm boot_range (PyProof.Rows.callWith_type1 (thn (ha pos pins s σ H _ I h) fun us s1 ⟨vs,H1,I1,r1,q1⟩=>?_) (by rw [hs,hs2]) (by rw [hs2];rfl)))
 obtain ⟨i,j,e,⟨q1,q2,q3,q4⟩,q⟩:=q1
 subst e
 cases r1 with
 | cons r rr=>
  cases rr with
  | cons r' rr=>
   cases rr
   obtain ⟨t,rfl⟩:=r
   obtain ⟨t',rfl⟩:=r'
   exact call_range_2 (vn I1 q1 q2 q3 q4 q)
noncomputable def Aj (wi:TI)(g:TG)(tb:TS):TS:=fun D σ H=>wi σ H fun J H1=>∃ W:Nat->Nat->St->Hp->Prop,(∃ m,W 0 m σ H1)/\∀ i m σ H,W i m σ H ->
 (J.stop i H/\D.nx σ H) \/ (J.go i H/\∃ N:St->Hp->Prop,(∀ σ' H',N σ' H'->∃ m',m'<m/\W (i+1) m' σ' H')/\∀ x H',J.yld i H x H'->g x σ H' fun σ2 H2=>tb { D with nx:=N,ct:=N,bk:=D.nx } σ2 H2)
noncomputable def kf (fp:List Addr)(h:Heap):List (Addr × Obj):=fp.filterMap fun b=>(h.get? b).map fun o=>(b,o)
theorem qg {fp:List Addr}{h:Heap}{b:Addr}{o:Obj}(hb:b ∈ fp)(e:h.get? b=some o):(b,o) ∈ kf fp h:=List.mem_filterMap.mpr ⟨b,hb,by rw [e];rfl⟩
theorem Q5 {fp:List Addr}{h:Heap}{p:Addr × Obj}(hp:p ∈ kf fp h):p.1 ∈ fp/\h.get? p.1=some p.2:=by
 obtain ⟨b,hb,e⟩:=List.mem_filterMap.mp hp
 cases q:h.get? b with
 | none=>rw [q] at e;cases e
 | some o=>
  rw [q] at e
  have e':(b,o)=p:=Option.some.inj e
  subst e'
  exact ⟨hb,q⟩
theorem Inv.pinned {pins:List (Addr × Obj)}{σ:St}{H:Hp}{s:Shared}{fp:List Addr}(I:Inv X pins σ H s)(hf:∀ b ∈ fp,jK X pins H b)(ho:∀ b ∈ fp,∃ o,s.heap.get? b=some o/\∀ v,o.data ≠ .cell v):Inv X (pins ++ kf fp s.heap) σ H s:=
 I.pins_of fun p hp=>(List.mem_append.mp hp).elim (fun z=>I.pin p (List.mem_append_right _ z)) fun z=>by
  obtain ⟨hb,e⟩:=Q5 z
  obtain ⟨f0,f1,f2,_⟩:=hf p.1 hb
  obtain ⟨o,e',d⟩:=ho p.1 hb
  rw [e] at e';cases e'
  exact ⟨e,f0,f1,f2,d⟩
theorem Inv.unpinned {pins pl:List (Addr × Obj)}{σ:St}{H:Hp}{s:Shared}(I:Inv X (pins ++ pl) σ H s):Inv X pins σ H s:=I.pins_of fun p hp=>I.pin p (List.mem_append_right _ (List.mem_append_left _ hp))
theorem qT {iter:Expr}{body:List Stmt}{wi:TI}{g:TG}{tb:TS}{pos:Pos}(hp:PassesOwn (model X.prog X.w) X.A X.env X.xe)(hc:X.calm=true)(hi:PI X tg iter wi)(hg:PG X tg g)(hb:PSs X body tb)
  (hs:∀ x,foldedSetIterable iter X.env x=pure x:=by intro _;rfl):PS X (.For tg iter body [] pos) (Aj wi g tb):=by
 intro pins s σ H D I h
 refine wpAny_For (thn (hi pins s σ H _ I h) fun v s1 h1=>thn h1 fun itv s2 h2=>?_) hs
 obtain ⟨it,fp,tn,J,H2,e,I2,T,st2,f2,W,⟨m0,w0⟩,turn⟩:=h2
 subst e
 have stat:∀ {H':Hp},(∀ b ∈ fp,H' b=none)->∀ b ∈ fp,jK X pins H' b:=fun hn b hb=>⟨hn b hb,(f2 b hb).2⟩
 refine codeAny_forLoop_any (fun n s'=>∃ i σ' H',Inv X pins σ' H' s'/\tn i s'.heap/\(∀ b ∈ fp,H' b=none)/\W i n σ' H') ?_ m0 ⟨0,σ,H2,I2,st2,fun b hb=>(f2 b hb).1,w0⟩
 rintro n s3 ⟨i,σ3,H3,I3,st3,fr3,w3⟩
 rcases turn i n σ3 H3 w3 with ⟨stop,qn⟩ | ⟨go,N,hN,step⟩
 ·refine wpAny_passesOwn hp (thn (T.done X rfl rfl rfl hc i pins s3 σ3 H3 X.xe I3 (stat fr3) st3 stop) fun r s4 ⟨hr,I4⟩=>?_)
  subst hr
  exact wpAny_execs_nil ⟨σ3,H3,I4,qn⟩
 ·refine wpAny_passesOwn hp (thn (T.item X rfl rfl rfl hc i pins s3 σ3 H3 X.xe I3 (stat fr3) st3 go) fun r s4 ⟨u,hr,h4⟩=>?_)
  subst hr
  refine wpAny_passesOwn hp (thn h4 fun _ s5 ⟨x,H5,I5,r5,y5,st5,fr5⟩=>?_)
  have I5':=I5.pinned (stat fr5) (T.obj _ _ st5)
  refine wpAny_passesOwn hp (thn (hg _ s5 σ3 H5 x u _ I5' r5 (step x H5 y5)) fun _ s6 ⟨σ6,H6,I6,q6⟩=>?_)
  refine wpAny_passesOwn hp (thn (hb _ s6 σ6 H6 _ I6 q6) fun f s7 q7=>?_)
  have again:∀ {σ7:St} {H7:Hp},Inv X (pins ++ kf fp s5.heap) σ7 H7 s7->N σ7 H7->∃ m,m<n/\∃ i σ' H',Inv X pins σ' H' s7/\tn i s7.heap/\(∀ b ∈ fp,H' b=none)/\W i m σ' H':=fun {σ7 H7} I7 n7=>by
   obtain ⟨m',hm,w7⟩:=hN σ7 H7 n7
   refine ⟨m',hm,i+1,σ7,H7,I7.unpinned,T.keep _ _ _ st5 fun b hb o e=>(I7.pin (b,o) (List.mem_append_right _ (List.mem_append_right _ (qg hb e)))).1,fun b hb=>?_,w7⟩
   obtain ⟨o,e,d⟩:=T.obj _ _ st5 b hb
   exact (I7.pin (b,o) (List.mem_append_right _ (List.mem_append_right _ (qg hb e)))).2.1
  cases f with
  | next=>obtain ⟨σ7,H7,I7,n7⟩:=q7;exact again I7 n7
  | cont=>obtain ⟨σ7,H7,I7,n7⟩:=q7;exact again I7 n7
  | brk=>obtain ⟨σ7,H7,I7,q7⟩:=q7;exact ⟨σ7,H7,I7.unpinned,q7⟩
  | ret v=>obtain ⟨x7,σ7,H7,I7,r7,q7⟩:=q7;exact ⟨x7,σ7,H7,I7.unpinned,r7,q7⟩
end
theorem AM {K:PySem.W.Frag}{a:Addr}{xs:List V}{g:TG}{tb:TS}{D:jR}{σ:St}{H:Hp}(Pv:Nat->St->Hp->Prop)(h0:Pv 0 σ H)(hl:∀ i σ H,i<=xs.length->Pv i σ H->SqL K H a xs)
  (hs:∀ i x σ H,xs[i]?=some x->Pv i σ H->g x σ H fun σ2 H2=>tb { D with nx:=Pv (i+1),ct:=Pv (i+1),bk:=D.nx } σ2 H2) (hd:∀ σ H,Pv xs.length σ H->D.nx σ H) :
  ∃ W:Nat->Nat->St->Hp->Prop,(∃ m,W 0 m σ H)/\∀ i m σ H,W i m σ H ->
   ((Itl K a).stop i H/\D.nx σ H) \/ ((Itl K a).go i H/\∃ N:St->Hp->Prop,(∀ σ' H',N σ' H'->∃ m',m'<m/\W (i+1) m' σ' H')/\∀ x H',(Itl K a).yld i H x H'->g x σ H' fun σ2 H2=>tb { D with nx:=N,ct:=N,bk:=D.nx } σ2 H2):=by
 refine ⟨fun i m σ H=>m=xs.length - i/\i<=xs.length/\Pv i σ H,⟨xs.length,by simp,Nat.zero_le _,h0⟩,?_⟩
 rintro i m σ H ⟨rfl,hi,p⟩
 have q:=hl i σ H hi p
 by_cases hlt:i<xs.length
 ·refine .inr ⟨⟨xs,xs[i],q,by simp [hlt]⟩,Pv (i+1),fun σ' H' p'=>⟨xs.length - (i+1),by omega,rfl,hlt,p'⟩,fun x H' y=>?_⟩
  obtain ⟨e,y⟩:=y
  subst e
  exact hs i x σ _ (y xs q) p
 ·have e:i=xs.length:=by omega
  subst e
  exact .inl ⟨⟨xs,q,Nat.le_refl _⟩,hd σ H p⟩
theorem Ys {K:PySem.W.Frag}{a:Addr}{xs:List V}{g:TG}{tb:TS}{D:jR}{σ:St}{H:Hp}(Pv:Nat->St->Hp->Prop)(h0:Pv 0 σ H)(hl:∀ i σ H,i<=xs.length->Pv i σ H->SqT K H a xs)
  (hs:∀ i x σ H,xs[i]?=some x->Pv i σ H->g x σ H fun σ2 H2=>tb { D with nx:=Pv (i+1),ct:=Pv (i+1),bk:=D.nx } σ2 H2) (hd:∀ σ H,Pv xs.length σ H->D.nx σ H) :
  ∃ W:Nat->Nat->St->Hp->Prop,(∃ m,W 0 m σ H)/\∀ i m σ H,W i m σ H ->
   ((Itt K a).stop i H/\D.nx σ H) \/ ((Itt K a).go i H/\∃ N:St->Hp->Prop,(∀ σ' H',N σ' H'->∃ m',m'<m/\W (i+1) m' σ' H')/\∀ x H',(Itt K a).yld i H x H'->g x σ H' fun σ2 H2=>tb { D with nx:=N,ct:=N,bk:=D.nx } σ2 H2):=by
 refine ⟨fun i m σ H=>m=xs.length - i/\i<=xs.length/\Pv i σ H,⟨xs.length,by simp,Nat.zero_le _,h0⟩,?_⟩
 rintro i m σ H ⟨rfl,hi,p⟩
 have q:=hl i σ H hi p
 by_cases hlt:i<xs.length
 ·refine .inr ⟨⟨xs,xs[i],q,by simp [hlt]⟩,Pv (i+1),fun σ' H' p'=>⟨xs.length - (i+1),by omega,rfl,hlt,p'⟩,fun x H' y=>?_⟩
  obtain ⟨e,y⟩:=y
  subst e
  exact hs i x σ _ (y xs q) p
 ·have e:i=xs.length:=by omega
  subst e
  exact .inl ⟨⟨xs,q,Nat.le_refl _⟩,hd σ H p⟩
noncomputable abbrev R2:=V->V->Hp->VK->Prop
noncomputable def OpR (X:Cx)(f:Value->Value->Sem Value)(r:R2):Prop:=
 ∀ (pins:List (Addr × Obj)) (s:Shared) (σ:St) (H:Hp) (x y:V) (v u:Value) (Q:VK),Inv X pins σ H s->zp x v->zp y u->r x y H Q ->
  wpAny (model X.prog X.w) X.A (f v u) (EP X pins σ Q) X.xe s
noncomputable def UnR (X:Cx)(f:Value->Sem Value)(r:V->Hp->VK->Prop):Prop:=
 ∀ (pins:List (Addr × Obj)) (s:Shared) (σ:St) (H:Hp) (x:V) (v:Value) (Q:VK),Inv X pins σ H s->zp x v->r x H Q ->
  wpAny (model X.prog X.w) X.A (f v) (EP X pins σ Q) X.xe s
noncomputable def qq (X:Cx)(f:Value)(r:List V->Hp->VK->Prop):Prop:=
 ∀ (pins:List (Addr × Obj)) (s:Shared) (σ:St) (H:Hp) (xs:List V) (us:List Value) (Q:VK),Inv X pins σ H s->zq xs us->r xs H Q ->
  wpAny (model X.prog X.w) X.A (call f us) (EP X pins σ Q) X.xe s
noncomputable def tOp (r:R2)(ta tb:TE):TE:=fun σ H Q=>ta σ H fun x H1=>tb σ H1 fun y H2=>r x y H2 Q
noncomputable def tUn (r:V->Hp->VK->Prop)(ta:TE):TE:=fun σ H Q=>ta σ H fun x H1=>r x H1 Q
noncomputable def rI (C:Int->Int->Prop)(g:Int->Int->V):R2:=fun x y H Q=>∃ i j,x=.int i/\y=.int j/\C i j/\Q (g i j) H
noncomputable def rI0 (g:Int->Int->V):R2:=fun x y H Q=>∃ i j,x=.int i/\y=.int j/\Q (g i j) H
noncomputable def rU (g:Int->V):V->Hp->VK->Prop:=fun x H Q=>∃ i,x=.int i/\Q (g i) H
section
variable {X:Cx}{a b c:Expr}{ta tb tc:TE}{pos:Pos}
theorem VT (ha:PE X a ta)(hb:PE X b tb){pins:List (Addr × Obj)}{s:Shared}{σ:St}{H:Hp}{R:V->V->Hp->Prop}(I:Inv X pins σ H s)
  (h:ta σ H fun x H1=>tb σ H1 fun y H2=>R x y H2) {Q:Value->Shared->Prop} {f:Value->Value->Sem Value}
  (hf:∀ v u s2 x y H2,Inv X pins σ H2 s2->zp x v->zp y u->R x y H2->wpAny (model X.prog X.w) X.A (f v u) Q X.xe s2) :
  wpAny (model X.prog X.w) X.A (eval a X.env) (fun v s₁=>wpAny (model X.prog X.w) X.A (eval b X.env) (fun u s₂=>wpAny (model X.prog X.w) X.A (f v u) Q X.xe s₂) X.xe s₁) X.xe s:=by
 refine thn (ha pins s σ H _ I h) fun v s1 ⟨x,H1,I1,r1,q1⟩=>?_
 refine thn (hb pins s1 σ H1 _ I1 q1) fun u s2 ⟨y,H2,I2,r2,q2⟩=>?_
 exact hf v u s2 x y H2 I2 r1 r2 q2
theorem zo {op:Operator}{r:R2}(ho:OpR X (binaryOp op) r)(ha:PE X a ta)(hb:PE X b tb):PE X (.BinOp a op b pos) (tOp r ta tb):=by
 intro pins s σ H Q I h
 exact wpAny_BinOp (VT ha hb I h fun v u s2 x y H2 I2 rx ry q=>ho pins s2 σ H2 x y v u Q I2 rx ry q)
theorem A8 {op:UnaryOp}{r:V->Hp->VK->Prop}(ho:UnR X (unaryOp op) r)(ha:PE X a ta):PE X (.UnaryOp op a pos) (tUn r ta):=by
 intro pins s σ H Q I h
 exact UnaryOp_ (thn (ha pins s σ H _ I h) fun v s1 ⟨x,H1,I1,r1,q1⟩=>ho pins s1 σ H1 x v Q I1 r1 q1)
theorem opI {f:Value->Value->Sem Value}{C:Int->Int->Prop}{g:Int->Int->Int}
  (rule:∀ (i j:Int) (t u:Tok) (s:Shared) (Q:Value->Shared->Prop) (E:Value->Shared->Prop),C i j->Q (.int (g i j) s.toks) { s with toks:=s.toks+1 }->wpAny (model X.prog X.w) X.A (f (.int i t) (.int j u)) Q E s) :
  OpR X f (rI C fun i j=>.int (g i j)):=by
 intro pins s σ H x y v u Q I rx ry h
 obtain ⟨i,j,rfl,rfl,hc,q⟩:=h
 obtain ⟨t,rfl⟩:=rx
 obtain ⟨t',rfl⟩:=ry
 exact rule i j t t' s _ _ hc ⟨.int (g i j),H,I.tok _,⟨_,rfl⟩,q⟩
theorem Bi {f:Value->Value->Sem Value}{g:Int->Int->Int}
  (rule:∀ (i j:Int) (t u:Tok) (s:Shared) (Q:Value->Shared->Prop) (E:Value->Shared->Prop),Q (.int (g i j) s.toks) { s with toks:=s.toks+1 }->wpAny (model X.prog X.w) X.A (f (.int i t) (.int j u)) Q E s) :
  OpR X f (rI0 fun i j=>.int (g i j)):=by
 intro pins s σ H x y v u Q I rx ry h
 obtain ⟨i,j,rfl,rfl,q⟩:=h
 obtain ⟨t,rfl⟩:=rx
 obtain ⟨t',rfl⟩:=ry
 exact rule i j t t' s _ _ ⟨.int (g i j),H,I.tok _,⟨_,rfl⟩,q⟩
theorem Bf {f:Value->Value->Sem Value}{g:Int->Int->Bool}
  (rule:∀ (i j:Int) (t u:Tok) (s:Shared) (Q:Value->Shared->Prop) (E:Value->Shared->Prop),Q (.bool (g i j)) s->wpAny (model X.prog X.w) X.A (f (.int i t) (.int j u)) Q E s) :
  OpR X f (rI0 fun i j=>.bl (g i j)):=by
 intro pins s σ H x y v u Q I rx ry h
 obtain ⟨i,j,rfl,rfl,q⟩:=h
 obtain ⟨t,rfl⟩:=rx
 obtain ⟨t',rfl⟩:=ry
 exact rule i j t t' s _ _ ⟨.bl (g i j),H,I,rfl,q⟩
noncomputable def Af (i j:Int):Prop:=0<j/\j<1073741824
noncomputable def BQ (i j:Int):Prop:=0<=j/\j<=1000000/\i.natAbs<2 ^ 64
noncomputable def Kj (i j:Int):Prop:=(-(2 ^ 64)<i/\i<2 ^ 64) \/ (-(2 ^ 64)<j/\j<2 ^ 64)
theorem Kj.ok {i j:Int}(h:Kj i j):IntMulOk i j:=by
 rcases h with ⟨h1,h2⟩ | ⟨h1,h2⟩
 ·exact .of_left (intBits_le_64 h1 h2)
 ·exact .of_right (intBits_le_64 h1 h2)
theorem zI:OpR X (binaryOp .Add) (rI0 fun i j=>.int (i+j)):=Bi fun _ _ _ _ _ _ _ q=>add_int q
theorem yu:OpR X (binaryOp .Sub) (rI0 fun i j=>.int (i - j)):=Bi fun _ _ _ _ _ _ _ q=>sub_int q
theorem qt:OpR X (binaryOp .Mult) (rI Kj fun i j=>.int (i * j)):=opI fun _ _ _ _ _ _ _ hc q=>mul_int q hc.ok
theorem yM:OpR X (binaryOp .FloorDiv) (rI Af fun i j=>.int (i / j)):=opI fun i j _ _ _ _ _ hc q=>by
 have h1:(0:Int)<j:=hc.1
 have h2:j<1073741824:=hc.2
 exact floordiv_int (by omega) (by rw [Int.fdiv_eq_ediv_of_nonneg i (by omega)];exact q) (.inl (PyProof.noPylong_small (by omega)))
theorem qz:OpR X (binaryOp .Mod) (rI (fun _ j=>0<j) fun i j=>.int (i % j)):=opI fun i j _ _ _ _ _ hc q=>by
 have h1:(0:Int)<j:=hc
 exact mod_int' (by omega) (by rw [Int.fmod_eq_emod_of_nonneg i (by omega)];exact q)
theorem WS:OpR X (binaryOp .Pow) (rI BQ fun i j=>.int (i ^ j.toNat)):=opI fun _ _ _ _ _ _ _ hc q=>pow_int_small hc.1 hc.2.1 hc.2.2 q
theorem unI {f:Value->Sem Value}{g:Int->Int}
  (rule:∀ (i:Int) (t:Tok) (s:Shared) (Q:Value->Shared->Prop) (E:Value->Shared->Prop),Q (.int (g i) s.toks) { s with toks:=s.toks+1 }->wpAny (model X.prog X.w) X.A (f (.int i t)) Q E s) :
  UnR X f (rU fun i=>.int (g i)):=by
 intro pins s σ H x v Q I rx h
 obtain ⟨i,rfl,q⟩:=h
 obtain ⟨t,rfl⟩:=rx
 exact rule i t s _ _ ⟨.int (g i),H,I.tok _,⟨_,rfl⟩,q⟩
theorem Vx:UnR X (unaryOp .USub) (rU fun i=>.int (-i)):=unI fun _ _ _ _ _ q=>neg_int q
end
noncomputable def BP:V->V->Bool
 | .non,.non=>true | .non,.int _=>true | .int _,.non=>true | .non,.bl _=>true | .bl _,.non=>true | .non,.str _=>true | .str _,.non=>true
 | .int _,.int _=>true | .bl _,.bl _=>true | .str _,.str _=>true | .byt _,.byt _=>true
 | .int _,.str _=>true | .str _,.int _=>true | .bl _,.str _=>true | .str _,.bl _=>true
 | _,_=>false
noncomputable def rEq:R2:=fun x y H Q=>BP x y=true/\Q (.bl (decide (x=y))) H
theorem Yz {i j:Int}:decide (V.int i=V.int j)=(i == j):=by
 rw [Bool.eq_iff_iff]
 simp
theorem VE {i j:Bool}:decide (V.bl i=V.bl j)=(i == j):=by
 rw [Bool.eq_iff_iff]
 simp
theorem X7 {i j:Str}:decide (V.str i=V.str j)=(i == j):=by
 rw [Bool.eq_iff_iff]
 simp
theorem YB {i j:Array UInt8}:decide (V.byt i=V.byt j)=(i.toList == j.toList):=by
 rw [Bool.eq_iff_iff]
 cases i
 cases j
 simp
section
variable {X:Cx}{a b c:Expr}{ta tb tc:TE}{pos:Pos}
theorem z0 {pins:List (Addr × Obj)}{σ:St}{H:Hp}{s:Shared}{Q:VK}{k k':Bool}(I:Inv X pins σ H s)(q:Q (.bl k) H)(e:k=k'):EP X pins σ Q (.bool k') s:=by
 subst e
 exact ⟨.bl k,H,I,rfl,q⟩
theorem Vn:OpR X (compareOp .Eq) rEq:=by
 intro pins s σ H x y v u Q I rx ry h
 obtain ⟨hs,q⟩:=h
 cases x with
 | non=>
  cases rx
  cases y with
  | non=>cases ry;exact PySem.EqNone.eq_none_none (z0 I q (by simp))
  | bl j=>cases ry;exact PySem.EqNone.eq_none_bool (z0 I q (by simp))
  | int j=>obtain ⟨t',rfl⟩:=ry;exact PySem.EqNone.eq_none_int (z0 I q (by simp))
  | str j=>obtain ⟨t',rfl⟩:=ry;exact PySem.EqNone.eq_none_str (z0 I q (by simp))
  | _=>exact absurd (show false=true from hs) Bool.false_ne_true
 | bl i=>
  cases rx
  cases y with
  | non=>cases ry;exact PySem.EqNone.eq_bool_none (z0 I q (by simp))
  | bl j=>cases ry;exact eq_bool (z0 I q VE)
  | str j=>obtain ⟨t',rfl⟩:=ry;exact PySem.EqMixed.eq_bool_str (z0 I q (by simp))
  | _=>exact absurd (show false=true from hs) Bool.false_ne_true
 | int i=>
  obtain ⟨t,rfl⟩:=rx
  cases y with
  | non=>cases ry;exact PySem.EqNone.eq_int_none (z0 I q (by simp))
  | int j=>obtain ⟨t',rfl⟩:=ry;exact eq_int (z0 I q Yz)
  | str j=>obtain ⟨t',rfl⟩:=ry;exact PySem.EqMixed.eq_int_str (z0 I q (by simp))
  | _=>exact absurd (show false=true from hs) Bool.false_ne_true
 | str i=>
  obtain ⟨t,rfl⟩:=rx
  cases y with
  | non=>cases ry;exact PySem.EqNone.eq_str_none (z0 I q (by simp))
  | bl j=>cases ry;exact PySem.EqMixed.eq_str_bool (z0 I q (by simp))
  | int j=>obtain ⟨t',rfl⟩:=ry;exact PySem.EqMixed.eq_str_int (z0 I q (by simp))
  | str j=>obtain ⟨t',rfl⟩:=ry;exact eq_str (z0 I q X7)
  | _=>exact absurd (show false=true from hs) Bool.false_ne_true
 | byt i=>
  obtain ⟨t,rfl⟩:=rx
  cases y with
  | byt j=>obtain ⟨t',rfl⟩:=ry;exact PySem.W.eq_bytes (z0 I q YB)
  | _=>exact absurd (show false=true from hs) Bool.false_ne_true
 | _=>cases y <;> exact absurd (show false=true from hs) Bool.false_ne_true
theorem A6:OpR X (compareOp .Gt) (rI0 fun i j=>.bl (decide (j<i))):=Bf fun _ _ _ _ _ _ _ q=>gt_int q
theorem BC:OpR X (compareOp .GtE) (rI0 fun i j=>.bl (decide (j<=i))):=Bf fun _ _ _ _ _ _ _ q=>ge_int q
theorem zX (b:Expr){op:CmpOp}(h:op ≠ .In:=by decide)(h2:op ≠ .NotIn:=by decide):behindInMarks op b=false:=by
 have e1:(op == CmpOp.In)=false:=by cases op <;> first | rfl | exact absurd rfl h
 have e2:(op == CmpOp.NotIn)=false:=by cases op <;> first | rfl | exact absurd rfl h2
 cases b <;> simp [behindInMarks,e1,e2]
theorem jE {op:CmpOp}{r:R2}(ho:OpR X (compareOp op) r)(ha:PE X a ta)(hb:PE X b tb)(hm:behindInMarks op b=false):PE X (.Compare a [op] [b] pos) (tOp r ta tb):=by
 intro pins s σ H Q I h
 exact wpAny_Compare1 (VT ha hb I h fun v u s2 x y H2 I2 rx ry q=>ho pins s2 σ H2 x y v u Q I2 rx ry q) hm
noncomputable def Q7 (t:TE):TT:=fun σ H Q=>t σ H fun x H'=>∃ k,x=.bl k/\Q k H'
theorem qw {op:CmpOp}{r:R2}(ho:OpR X (compareOp op) r)(ha:PE X a ta)(hb:PE X b tb)(hm:behindInMarks op b=false):PT X (.Compare a [op] [b] pos) (Q7 (tOp r ta tb)):=by
 intro pins s σ H Q I h
 refine wpAny_isTrue_Compare1 (thn (ha pins s σ H _ I h) fun v s1 ⟨x,H1,I1,r1,q1⟩=>thn (hb pins s1 σ H1 _ I1 q1) fun u s2 ⟨y,H2,I2,r2,q2⟩=>
  thn (ho pins s2 σ H2 x y v u _ I2 r1 r2 q2) fun c s3 ⟨z,H3,I3,r3,k,e,q3⟩=>?_) hm
 subst e
 cases r3
 exact wpAny_truthy_bool ⟨H3,I3,q3⟩
theorem yL:(sizeLine:Nat)<2 ^ 63:=by rw [sizeLine_eq];decide
theorem ji {x:V}{us:List Value}(r:zq [x] us):∃ u,us=[u]/\zp x u:=by
 cases r with
 | cons r1 r2=>cases r2;exact ⟨_,rfl,r1⟩
theorem yW {x y:V}{us:List Value}(r:zq [x,y] us):∃ u w',us=[u,w']/\zp x u/\zp y w':=by
 cases r with
 | cons r1 r2=>
  cases r2 with
  | cons r3 r4=>cases r4;exact ⟨_,_,rfl,r1,r3⟩
theorem kS:qq X (.builtin "abs") (fun xs H Q=>∃ i,xs=[.int i]/\Q (.int (if i<0 then -i else i)) H):=by
 intro pins s σ H xs us Q I r h
 obtain ⟨i,rfl,q⟩:=h
 obtain ⟨u,rfl,t,rfl⟩:=ji r
 exact call_abs_int fun u tk=>⟨.int (if i<0 then -i else i),H,I.tok _,⟨_,rfl⟩,q⟩
theorem xZ (hc:X.calm=true):qq X (.builtin "max") (fun xs H Q=>∃ i j,xs=[.int i,.int j]/\Q (.int (if j > i then j else i)) H):=by
 intro pins s σ H xs us Q I r h
 obtain ⟨i,j,rfl,q⟩:=h
 obtain ⟨u,w',rfl,⟨t,rfl⟩,⟨t',rfl⟩⟩:=yW r
 refine max_two_ints (I.ok.hd hc) fun h' tk k=>⟨_,H,I.kept k,?_,q⟩
 by_cases hj:j > i
 ·rw [if_pos hj,if_pos hj];exact ⟨_,rfl⟩
 ·rw [if_neg hj,if_neg hj];exact ⟨_,rfl⟩
theorem xQ (hc:X.calm=true):qq X (.builtin "min") (fun xs H Q=>∃ i j,xs=[.int i,.int j]/\Q (.int (if j<i then j else i)) H):=by
 intro pins s σ H xs us Q I r h
 obtain ⟨i,j,rfl,q⟩:=h
 obtain ⟨u,w',rfl,⟨t,rfl⟩,⟨t',rfl⟩⟩:=yW r
 refine min_two_ints (I.ok.hd hc) fun h' tk k=>⟨_,H,I.kept k,?_,q⟩
 by_cases hj:j<i
 ·rw [if_pos hj,if_pos hj];exact ⟨_,rfl⟩
 ·rw [if_neg hj,if_neg hj];exact ⟨_,rfl⟩
theorem Qf:qq X (.type "int") (fun xs H Q=>(∃ i,xs=[.int i]/\Q (.int i) H) \/ ∃ k,xs=[.bl k]/\Q (.int (if k then 1 else 0)) H):=by
 intro pins s σ H xs us Q I r h
 rcases h with ⟨i,rfl,q⟩ | ⟨k,rfl,q⟩
 ·obtain ⟨u,rfl,t,rfl⟩:=ji r
  exact call_int_int ⟨.int i,H,I,⟨_,rfl⟩,q⟩
 ·obtain ⟨u,rfl,r1⟩:=ji r
  cases r1
  exact call_int_bool ⟨.int (if k then 1 else 0),H,I.tok _,⟨_,rfl⟩,q⟩
theorem vF:qq X (.builtin "divmod") (fun xs H Q=>∃ i j,xs=[.int i,.int j]/\Af i j/\∀ p,H p=none->Q (.ref p) (upd H p (.tup [.int (i / j),.int (i % j)]))):=by
 intro pins s σ H xs us Q I r h
 obtain ⟨i,j,rfl,⟨h1,h2⟩,q⟩:=h
 obtain ⟨u,w',rfl,⟨t,rfl⟩,⟨t',rfl⟩⟩:=yW r
 refine divmod_int (by omega) ?_ (.inl (PyProof.noPylong_small (by omega)))
 rw [Int.fdiv_eq_ediv_of_nonneg i (by omega),Int.fmod_eq_emod_of_nonneg i (by omega)]
 have hn:H s.heap.objs.size=none:=I.hok.fresh (Nat.le_refl _)
 refine ⟨.ref s.heap.objs.size,_,?_,rfl,q _ hn⟩
 refine I.laid (fun b o e=>Heap.get?_push_of_some _ e) (Nat.le_refl _) ⟨by simp only [List.length_cons,List.length_nil];rw [sizeLine_eq];decide,[.int (i / j) s.toks,.int (i % j) (s.toks+1)],.cons ⟨_,rfl⟩ (.cons ⟨_,rfl⟩ .nil),?_⟩
 exact ⟨_,Heap.get?_push_size s.heap rfl,rfl,⟨0,rfl⟩,rfl⟩
end
structure K0 (h:Heap)(x dx C:Addr)(mA:Str->Option Value):Prop where
 obj:h.get? x=some (PySem.W.instObj C dx)
 ns:h.Ns1 dx mA
 ne:dx ≠ x
theorem QY {h:Heap}{dx:Addr}{mA:Str->Option Value}(n:h.Ns1 dx mA):∃ od,h.get? dx=some od/\∀ name,PySem.W.lookIn name od=some (mA name):=by
 obtain ⟨o,es,ep,ho,hd,hk,_,hm⟩:=n
 refine ⟨o,ho,fun name=>?_⟩
 have e:=hm name
 unfold nsFind findBy at e
 rw [<- Array.find?_toList] at e
 unfold PySem.W.lookIn
 rw [hd]
 dsimp only
 split
 ·rename_i y q
  rw [q] at e
  exact congrArg some e
 ·rename_i q
  rw [q] at e
  have a:es.toList.any (·.refKey)=false:=by
   rw [List.any_eq_false]
   intro y hy
   obtain ⟨z,t,hkey⟩:=hk y (Array.mem_toList_iff.mp hy)
   simp [DictEntry.refKey,hkey]
  have a':¬ es.toList.any (·.refKey)=true:=by rw [a];exact Bool.false_ne_true
  rw [if_neg a']
  exact congrArg some e
theorem K0.look {h:Heap}{x dx C:Addr}{mA:Str->Option Value}(I:K0 h x dx C mA):∃ od,PySem.W.InstAt h x (PySem.W.instObj C dx) C (some od)/\∀ name,PySem.W.lookIn name od=some (mA name):=
 let ⟨od,ho,hl⟩:=QY I.ns
 ⟨od,⟨I.obj,rfl,rfl,ho⟩,hl⟩
section
variable {prog:Program}{w:World}{A:Around}{E:Value->Shared->Prop}{s:Shared}{K:PySem.W.Frag}{x dx C f:Addr}{mA:Str->Option Value}{name:Str}{v:Value}
theorem Z3 {ns:List Str}{Q:Unit->Shared->Prop}(X:K.In s.heap)(I:K0 s.heap x dx C mA)
  (hs:PySem.W.findIn K (.ref C) "__setattr__"=some (some (.builtin "object.__setattr__"))) (hp:PySem.W.plainOver K C=true) (ht:PySem.W.takerIn K C name=some none) (hh:PySem.W.hasDictIn K C=true)
  (hw:PySem.Within mA ns) (hsz:ns.length<=sizeLine)
  (h:∀ h',K0 h' x dx C (fun y=>if y=name then some v else mA y)->Heap.SameBut dx s.heap h'->Q () { s with heap:=h',toks:=s.toks+2 }) :
  wpAny (model prog w) A (setAttr (.ref x) name v) Q E s:=by
 obtain ⟨od,J,hl⟩:=I.look
 refine PySem.W.set_plain X J hs (PySem.W.osa_open (s:={ s with toks:=s.toks+1 }) (r:=none) X J hp ht fun b=>?_)
 obtain ⟨cd,hc,hd'⟩:=PySem.W.any_some hh
 have hx:s.heap.get? x=some ⟨.ref C,some dx,.plain,#[]⟩:=I.obj
 refine wpAny_bind (wpAny_pure (wpAny_bind (wpAny_bind (wpAny_loadPart hx (wpAny_bind (PySem.W.Looks.here (s:={ s with toks:=s.toks+1 }) (PySem.W.looks_clsIn X hc) ?_))))))
 rw [hd']
 refine wpAny_pure (a:=some dx) (wpAny_bind (wpAny_pure (wpAny_bind ?_)))
 refine wpAny_nsSet1 (s:={ s with toks:=s.toks+1 }) I.ns fun h' hn2 hs2=>?_
 obtain ⟨oD,esD,epD,hoD,hdD,hcD⟩:=hn2.count (PySem.Within.cons name v hw)
 refine wpAny_bind (wpAny_lookBehind hoD (by rw [hdD];exact pastItsLine_dict (Nat.le_trans hcD (by rw [List.length_cons];omega))) ?_)
 exact wpAny_pure (h _ ⟨(hs2.2 _ (Ne.symm I.ne)).trans I.obj,hn2,I.ne⟩ hs2)
end
theorem xt.some_of {v:V}{o:Option Value}(r:xt (some v) o):∃ u,o=some u/\zp v u:=by
 cases o with
 | none=>exact (show False from r).elim
 | some u=>exact ⟨u,rfl,r⟩
section
variable {P:Program}{w:World}{H H':Hp}{h h':Heap}{a C dx:Addr}{fs fs':List (Str × V)}
theorem Yw (hok:HOk P w H h)(e:H a=some (.ins C dx fs)):∃ mA,K0 h a dx C mA/\(∀ f,xt (fs.lookup f) (mA f))/\PySem.Within mA (fs.map (·.1))/\fs.length<=1000/\H dx=some (.own a):=by
 obtain ⟨d,z,ne,ob,mA,n,r,q⟩:=(show zE P w H h a (.ins C dx fs) from hok a _ e)
 exact ⟨mA,⟨ob,n,ne⟩,r,q,z,d⟩
end
structure Cls (K:PySem.W.Frag)(C:Addr):Prop where
 pg:PySem.W.plainGet K C Str.empty=true
 hd:PySem.W.hasDictIn K C=true
 po:PySem.W.plainOver K C=true
 sa:PySem.W.findIn K (.ref C) "__setattr__"=some (some (.builtin "object.__setattr__"))
theorem Cls.get {K:PySem.W.Frag}{C:Addr}(c:Cls K C)(f:Str):PySem.W.plainGet K C f=true:=c.pg
structure Con (K:PySem.W.Frag)(C:Addr)(f:Str)(v:V)(u:Value):Prop where
 at_:PySem.W.findIn K (.ref C) f=some (some u)
 rel:zp v u
 get:PySem.W.specialIn K u "__get__"=some none
 cp:PySem.W.copiedNames.contains f=false
structure B0 (K:PySem.W.Frag)(C:Addr)(m:Str)(f:Addr):Prop where
 at_:PySem.W.findIn K (.ref C) m=some (some (.ref f))
 fn:PySem.W.isFn K (.ref f)=true
 kp:PySem.W.keepIn K (.ref f)=true
section
variable {X:Cx}{pins:List (Addr × Obj)}{σ:St}{H:Hp}{s:Shared}{a C dx:Addr}{fs:List (Str × V)}{f:Str}{v:V}{A:Around}{E:Value->Shared->Prop}
end
section
variable {X:Cx}{o e value:Expr}{f:Str}{pos pos' tpos:Pos}{ta tv:TE}
end
section
variable {X:Cx}{pins:List (Addr × Obj)}{σ:St}{H:Hp}{s:Shared}{A:Around}{E:Value->Shared->Prop}{Q:Value->Shared->Prop}{c:Value}{b:Bool}
inductive jV (K:PySem.W.Frag) (H:Hp):V->Value->Prop where
  | non:jV K H .non (.type "NoneType")
  | bl (x:Bool):jV K H (.bl x) (.type "bool")
  | int (i:Int):jV K H (.int i) (.type "int")
  | str (x:Str):jV K H (.str x) (.type "str")
  | flt (x:UInt64):jV K H (.flt x) (.type "float")
  | lst {a:Addr} {xs:List V} (e:H a=some (.lst xs)):jV K H (.ref a) (.type "list")
  | frz {a:Addr} {o:Obj} {xs:List V} (e:H a=some (.frz o (.lst xs))):jV K H (.ref a) (.type "list")
  | tup {a:Addr} {xs:List V} (e:H a=some (.tup xs)):jV K H (.ref a) (.type "tuple")
  | dK {a:Addr} {kvs:List (Key × V)} (e:H a=some (.dK kvs)):jV K H (.ref a) (.type "dict")
  | dT {a:Addr} {kvs:List (List Key × V)} (e:H a=some (.dT kvs)):jV K H (.ref a) (.type "dict")
  | ins {a C dx : Addr} {fs : List (Str × V)} (e : H a = some (.ins C dx fs)) (cl : Cls K C) (ha : PySem.W.findIn K (.ref C) "__class__" = some (some (.builtin "object.__class__")))
      (hn:PySem.W.specialIn K (.builtin "object.__class__") "__get__"=some (some (.builtin "getset_descriptor.__get__"))) (htk:PySem.W.takesIn K (.builtin "object.__class__")=some true)
      (hm:PySem.W.mroIn K C (.type "object")=some true):jV K H (.ref a) (.ref C)
theorem QN {x:V}{u t:Value}(I:Inv X pins σ H s)(rx:zp x u)(ty:jV X.K H x t)(e:PySem.W.kitOne X.K t c=some b)(h:∀ tk,Q (.bool b) { s with toks:=tk }) :
  wpAny (model X.prog X.w) A (call (.builtin "isinstance") [u,c]) Q E s:=by
 cases ty with
 | non=>cases (show u=Value.none from rx);exact PySem.W.kia_one PySem.W.kitx_none I.kIn True.intro e (fun z=>nomatch z) h
 | bl y=>cases (show u=Value.bool y from rx);exact PySem.W.kia_one PySem.W.kitx_bool I.kIn True.intro e (fun z=>nomatch z) h
 | int i=>obtain ⟨t,q⟩:=(show ∃ t,u=Value.int i t from rx);cases q;exact PySem.W.kia_one PySem.W.kitx_int I.kIn True.intro e (fun z=>nomatch z) h
 | str y=>obtain ⟨t,q⟩:=(show ∃ t,u=Value.str y t from rx);cases q;exact PySem.W.kia_one PySem.W.kitx_str I.kIn True.intro e (fun z=>nomatch z) h
 | flt y=>obtain ⟨t,q⟩:=(show ∃ t,u=Value.float y t from rx);cases q;exact PySem.W.kia_one PySem.W.kitx_float I.kIn True.intro e (fun z=>nomatch z) h
 | @lst a xs ea=>
  cases (show u=Value.ref a from rx)
  obtain ⟨_,_,n,_,h1⟩:=(show zE X.prog X.w H s.heap a (.lst xs) from I.hok a _ ea)
  exact PySem.W.kia_one PySem.W.kitx_list I.kIn ⟨_,h1,rfl⟩ e (fun z=>nomatch z) h
 | @frz a ob xs ea=>
  cases (show u=Value.ref a from rx)
  obtain ⟨_,_,_,n,_,h1⟩:=(show zE X.prog X.w H s.heap a (.frz ob (.lst xs)) from I.hok a _ ea)
  exact PySem.W.kia_one PySem.W.kitx_list I.kIn ⟨_,h1,rfl⟩ e (fun z=>nomatch z) h
 | @tup a xs ea=>
  cases (show u=Value.ref a from rx)
  obtain ⟨_,_,_,p⟩:=(show zE X.prog X.w H s.heap a (.tup xs) from I.hok a _ ea)
  obtain ⟨o,h1,h2,_⟩:=p
  exact PySem.W.kia_one PySem.W.kitx_tuple I.kIn ⟨o,h1,h2⟩ e (fun z=>nomatch z) h
 | @dK a kvs ea=>
  cases (show u=Value.ref a from rx)
  obtain ⟨_,_,vs,_,p⟩:=(show zE X.prog X.w H s.heap a (.dK kvs) from I.hok a _ ea)
  obtain ⟨o,es,ep,h1,h2,_⟩:=p
  exact PySem.W.kia_one PySem.W.kitx_dict I.kIn ⟨o,h1,h2.1⟩ e (fun z=>nomatch z) h
 | @dT a kvs ea=>
  cases (show u=Value.ref a from rx)
  obtain ⟨_,_,xs,_,o,es,ep,h1,h2,_⟩:=(show zE X.prog X.w H s.heap a (.dT kvs) from I.hok a _ ea)
  exact PySem.W.kia_one PySem.W.kitx_dict I.kIn ⟨o,h1,h2.1⟩ e (fun z=>nomatch z) h
 | @ins a C dx fs ea cl ha hn htk hm=>
  cases (show u=Value.ref a from rx)
  obtain ⟨mA,O,_⟩:=Yw I.hok ea
  obtain ⟨od,J,_⟩:=O.look
  exact PySem.W.kia_one (PySem.W.kitx_own (cl.get _) cl.hd ha hn htk hm) I.kIn J e (fun z=>nomatch z) h
end
structure qI (k:Nat)(A:Around):Prop where
 hd:A.handled=none
 gd:A.guards=some []
 dp:A.depth+3 * k+5<recursionLimit
 un:A.units+16 * k+200<cLine
theorem qI.mono {j k:Nat}{A:Around}(r:qI k A)(h:j<=k):qI j A:=⟨r.hd,r.gd,by have:=r.dp;omega,by have:=r.un;omega⟩
theorem qI.deeper {k:Nat}{A:Around}(r:qI (k+1) A)(env:Env):qI k (A.deeper env):=
 ⟨r.hd,r.gd,by have:=r.dp;show A.depth+1+3 * k+5<_;omega,by have:=r.un;show A.units+3+16 * k+200<_;omega⟩
theorem qI.depth {k:Nat}{A:Around}(r:qI k A):A.depth<recursionLimit:=by have:=r.dp;omega
theorem qI.units {k:Nat}{A:Around}(r:qI k A):A.units+64<cLine:=by have:=r.un;omega
noncomputable def Ah:TA:=fun _ H Q=>Q [] H
noncomputable def Jl (ta:TE)(tr:TA):TA:=fun σ H Q=>ta σ H fun x H1=>tr σ H1 fun xs H2=>Q (x :: xs) H2
section
variable {X:Cx}{e:Expr}{es:List Expr}{te:TE}{t:TA}{pos:Pos}
theorem zb:PA X [] Ah:=fun _ _ _ _ H Q I h=>Calls.spliced_nil ⟨[],H,I,.nil,h⟩
theorem za (ha:PE X e te)(hr:PA X es t)(hs:starEach (e :: es) X.env=(false,eval e X.env) :: starEach es X.env:=by rfl):PA X (e :: es) (Jl te t):=by
 intro pos pins s σ H Q I h
 rw [hs]
 show wpAny _ _ (spliced ((false,eval e X.env) :: backTo pos (starEach es X.env))) _ _ s
 refine Calls.spliced_cons (thn (ha pins s σ H _ I h) fun u s1 ⟨x,H1,I1,r1,q1⟩=>?_)
 exact thn (hr pos pins s1 σ H1 _ I1 q1) fun us s2 ⟨xs,H2,I2,r2,q2⟩=>⟨x :: xs,H2,I2,.cons r1 r2,q2⟩
noncomputable def X0 (t:TA):TE:=fun σ H Q=>t σ H fun xs H1=>xs.length<=sizeLine/\∀ p,H1 p=none->Q (.ref p) (upd H1 p (.tup xs))
noncomputable def Ac (t:TA):TE:=fun σ H Q=>t σ H fun xs H1=>xs.length<=sizeLine/\∀ p,H1 p=none->Q (.ref p) (upd H1 p (.lst xs))
theorem zY {x1}(h:PA X es t):PE X (.Tuple es x1 pos) (X0 t):=by
 intro pins s σ H Q I hq
 refine wpAny_Tuple_spliced (thn (h pos pins s σ H _ I hq) fun us s1 ⟨xs,H1,I1,r,z,q⟩=>⟨by rw [<- r.length];exact z,?_⟩)
 have hf:H1 s1.heap.objs.size=none:=I1.hok.fresh (Nat.le_refl _)
 refine ⟨.ref s1.heap.objs.size,upd H1 s1.heap.objs.size (.tup xs),I1.laid (t':=s1.toks) (fun b u e=>Heap.get?_push_of_some _ e) (Nat.le_refl _) ?_,rfl,q _ hf⟩
 exact ⟨z,us,r,⟨_,Heap.get?_push_size _ rfl,rfl,⟨_,rfl⟩,rfl⟩⟩
theorem qi (h:PA X es t):PE X (.List es pos) (Ac t):=by
 intro pins s σ H Q I hq
 refine wpAny_List_spliced (thn (h pos pins s σ H _ I hq) fun us s1 ⟨xs,H1,I1,r,z,q⟩=>⟨by rw [<- r.length];exact z,?_⟩)
 have hf:H1 s1.heap.objs.size=none:=I1.hok.fresh (Nat.le_refl _)
 refine ⟨.ref s1.heap.objs.size,upd H1 s1.heap.objs.size (.lst xs),I1.laid (t':=s1.toks) (fun b u e=>Heap.get?_push_of_some _ e) (Nat.le_refl _) ?_,rfl,q _ hf⟩
 exact ⟨z,us,0,r,Heap.get?_push_size _ rfl⟩
end
noncomputable abbrev Sp:=List V->Hp->VK->XK->Prop
noncomputable abbrev CXT:=List Env->Hp->Shared->XK->Value->Shared->Prop
structure Yt (P:Program)(w:World)(K:PySem.W.Frag)(mg:Str->Option Value)(base:Heap)(A:Around)(outer:List Env)(s:Shared)(H:Hp):Prop where
 frames:A.frames=some outer
 mod:Mod K mg base
 bs:∀ b o,base.get? b=some o->s.heap.get? b=some o/\H b=none
 bsz:base.objs.size<=s.heap.objs.size
 funs:s.heap.FunFrames base outer
 frf:∀ b ∈ frs outer,H b=none
 hok:HOk P w H s.heap
 bare:AllBare s.gens
noncomputable def CE (outer:List Env)(P:Program)(w:World)(H:Hp)(s:Shared)(Q:VK)(u:Value)(s':Shared):Prop:=
 ∃ v H',s'.os=s.os/\AllBare s'.gens/\Un (frs outer) [] H H' s.heap s'.heap/\HOk P w H' s'.heap/\zp v u/\Q v H'
noncomputable def CR (CX:CXT)(outer:List Env)(P:Program)(w:World)(H:Hp)(s:Shared)(Q:VK)(E:XK)(r:Result)(s':Shared):Prop:=
 match r with
 | .ok (.ret u)=>CE outer P w H s Q u s'
 | .ok _=>False
 | .error e=>CX outer H s E e s'
structure jJ (P:Program)(w:World)(K:PySem.W.Frag)(mg:Str->Option Value)(base:Heap)(CX:CXT)(k:Nat)(f:Addr)(fd:FuncData)(ps:List Str)(sp:Sp):Prop where
 len:∀ vs H Q E,sp vs H Q E->vs.length=ps.length
 run:∀ (A:Around) (outer:List Env) (s:Shared) (H:Hp) (args:Args) (us:List Value) (vs:List V) (Q:VK) (E:XK),qI k A->Yt P w K mg base A outer s H->BindsTo s fd args (ps.zip us)->zq vs us->sp vs H Q E ->
  codeAny (model P w) A (.call (.ref f) args) (CR CX outer P w H s Q E) s
theorem jJ.mono {P:Program}{w:World}{K:PySem.W.Frag}{mg:Str->Option Value}{base:Heap}{CX:CXT}{j k:Nat}{f:Addr}{fd:FuncData}{ps:List Str}{sp:Sp}(F:jJ P w K mg base CX j f fd ps sp)(h:j<=k) :
  jJ P w K mg base CX k f fd ps sp:=⟨F.len,fun A outer s H args us vs Q E hr=>F.run A outer s H args us vs Q E (hr.mono h)⟩
theorem jJ.imp {P:Program}{w:World}{K:PySem.W.Frag}{mg:Str->Option Value}{base:Heap}{CX:CXT}{k:Nat}{f:Addr}{fd:FuncData}{ps:List Str}{sp sp':Sp}(F:jJ P w K mg base CX k f fd ps sp)
  (h:∀ vs H Q E,sp' vs H Q E->sp vs H Q E):jJ P w K mg base CX k f fd ps sp':=
 ⟨fun vs H Q E q=>F.len vs H Q E (h _ _ _ _ q),fun A outer s H args us vs Q E hr he hb hv hs=>F.run A outer s H args us vs Q E hr he hb hv (h _ _ _ _ hs)⟩
section
variable {X:Cx}{pins:List (Addr × Obj)}{σ:St}{H:Hp}{s s':Shared}
theorem Inv.env0 (I:Inv X pins σ H s):Yt X.prog X.w X.K X.mg X.base X.A X.stack s H:=
 ⟨I.ok.frames,I.ok.mod,I.bs,Nat.le_trans I.ok.bsz I.sz,I.stack,I.stkFree,I.hok,I.bare⟩
theorem Inv.after {Q:VK}{u:Value}(I:Inv X pins σ H s)(h:CE X.stack X.prog X.w H s Q u s'):EP X pins σ Q u s':=by
 obtain ⟨v,H',os,bare,un,hok,r,q⟩:=h
 obtain ⟨hh,g,d,t,os'⟩:=s'
 obtain rfl:os'=s.os:=os
 exact ⟨v,H',I.call (h':=hh) (g':=g) (d':=d) (t':=t) (ch:=[]) un hok bare (fun b z=>absurd z (by simp)),r,q⟩
end
noncomputable def ZV (sp:Sp)(dvs:List V)(E:XK)(t:TA):TE:=fun σ H Q=>t σ H fun vs H1=>sp (vs ++ dvs) H1 Q E
noncomputable def xB (K:PySem.W.Frag)(fd:FuncData)(ps:List Str)(ds:List Value):Prop:=
 ∀ (s:Shared) (us:List Value),K.In s.heap->(us ++ ds).length=ps.length->BindsTo s fd ⟨us,[]⟩ (ps.zip (us ++ ds))
theorem xB.all {K:PySem.W.Frag}{fd:FuncData}{ps:List Str}(h:∀ us:List Value,us.length=ps.length->bindArgs fd ⟨us,[]⟩=pure (ps.zip us)):xB K fd ps []:=fun s us _ hl=>by
 rw [List.append_nil] at hl ⊢
 exact .of_eq (h us hl)
noncomputable def wU (CX:CXT)(X:Cx)(E:XK):Prop:=∀ (pins:List (Addr × Obj)) (σ:St) (H:Hp) (s:Shared) (e:Value) (s':Shared),Inv X pins σ H s->CX X.stack H s E e s'->X.xe e s'
section
variable {X:Cx}{CX:CXT}{k:Nat}{f C:Addr}{fd:FuncData}{ps:List Str}{sp:Sp}{dvs:List V}{ds:List Value}{E:XK}{x m:Str}{p pos apos:Pos}{e o:Expr}{es:List Expr}{ta:TE}{t:TA}
theorem Wx {pins:List (Addr × Obj)}{σ:St}{H:Hp}{s:Shared}{Q:VK}{us:List Value}{vs:List V}(F:jJ X.prog X.w X.K X.mg X.base CX k f fd ps sp)(hr:qI k X.A)(hb:xB X.K fd ps ds)(hd:zq dvs ds)(hx:wU CX X E)
  (I:Inv X pins σ H s) (r:zq vs us) (h:sp (vs ++ dvs) H Q E):wpAny (model X.prog X.w) X.A (call (.ref f) us) (EP X pins σ Q) X.xe s:=by
 have r2:zq (vs ++ dvs) (us ++ ds):=r.append hd
 have hl:(us ++ ds).length=ps.length:=by rw [<- r2.length];exact F.len _ _ _ _ h
 refine wpAny_call (codeAny_mono (F.run X.A X.stack s H ⟨us,[]⟩ (us ++ ds) (vs ++ dvs) Q E hr I.env0 (hb s us I.kIn hl) r2 h) fun r s' hq=>?_)
 cases r with
 | error e=>exact hx pins σ H s e s' I hq
 | ok fl=>
  cases fl with
  | ret u=>exact I.after hq
  | next=>exact False.elim hq
  | brk=>exact False.elim hq
  | cont=>exact False.elim hq
theorem Yf (F:jJ X.prog X.w X.K X.mg X.base CX k f fd ps sp)(hr:qI k X.A)(hg:Gl X x)(hm:X.mg x=some (.ref f))(hk:PySem.W.keepIn X.K (.ref f)=true)(hb:xB X.K fd ps ds)(hd:zq dvs ds)(hx:wU CX X E)
  (ha:PA X (e :: es) t) (hdb:(x == ("__debug__":Str))=false:=by decide) (he:starEach (e :: es) X.env=(false,eval e X.env) :: starEach es X.env:=by rfl) (hpl:(backTo pos (starEach es X.env)).any (·.1)=false:=by rfl) :
  PE X (.Call (.Name x p) (e :: es) [] pos) (ZV sp dvs E t):=by
 intro pins s σ H Q I h
 refine wpAny_Call_Name_kw (ZE I hg hm ?_ hdb)
 refine PySem.W.callWith_K (h₀:=X.base) I.ok.mod.kin hk (thn (ha pos pins s σ H _ I h) fun us s1 ⟨vs,H1,I1,r,q⟩=>⟨I1.kIn,?_⟩) he hpl
 exact Wx F hr hb hd hx I1 r q
structure Mk (K:PySem.W.Frag)(C f:Addr):Prop where
 makes:PySem.W.makesIn K C=true
 init:PySem.W.findIn K (.ref C) "__init__"=some (some (.ref f))
 fn:PySem.W.isFn K (.ref f)=true
 kp:PySem.W.keepIn K (.ref C)=true
end
section
variable {X:Cx}{CX:CXT}{k:Nat}{f C:Addr}{fd:FuncData}{ps ks:List Str}{sp:Sp}{E:XK}{x m:Str}{p pos apos kpos:Pos}{e o:Expr}{es:List Expr}{kws:List Keyword}{te ta:TE}{t tk:TA}{nm:Option Str}
structure BS (K:PySem.W.Frag)(fd:FuncData)(ps ks:List Str)(g:List Value->List Value->List Value)(gV:List V->List V->List V):Prop where
 to:∀ (s:Shared) (us ws:List Value),K.In s.heap->(g us ws).length=ps.length->BindsTo s fd ⟨us,ks.zip ws⟩ (ps.zip (g us ws))
 rel:∀ {vs:List V} {us:List Value} {zs:List V} {ws:List Value},zq vs us->zq zs ws->zq (gV vs zs) (g us ws)
variable {g:List Value->List Value->List Value}{gV:List V->List V->List V}
end
structure zJ (N P:List Str)(sc:Scope):Prop where
 kind:sc.kind=.function
 co:sc.isCoroutine=false
 gen:sc.isGenerator=false
 nd:N.Nodup
 pre:N.take P.length=P
 par:∀ x ∈ P,sc.names.lookup x=some .local \/ sc.names.lookup x=some .cell
 nofree:∀ y ∈ sc.names,y.2 ≠ .free
theorem xH {kindOf:Str->Option NameKind}{x:Str}:∀ {binds:List (Str × Value)} {m:Str->Option Value},(∀ v,(x,v) ∉ binds)->bindL kindOf binds m x=m x
 | [],_,_=>rfl
 | (n,v) :: r,m,h=>by
  unfold bindL
  rw [xH fun w hw=>h w (List.mem_cons_of_mem _ hw)]
  split
  ·have:x ≠ n:=by rintro rfl;exact h v List.mem_cons_self
   simp [this]
  ·rfl
theorem xD {kindOf:Str->Option NameKind}{x:Str}:∀ {binds:List (Str × Value)} {m:Str->Option Value},(∀ v,(x,v) ∉ binds)->bindC kindOf binds m x=m x
 | [],_,_=>rfl
 | (n,v) :: r,m,h=>by
  unfold bindC
  rw [xD fun w hw=>h w (List.mem_cons_of_mem _ hw)]
  split
  ·rfl
  ·have:x ≠ n:=by rintro rfl;exact h v List.mem_cons_self
   simp [this]
theorem xL {kindOf:Str->Option NameKind}{x:Str}{v:Value}:∀ {P:List Str} {vs:List Value} {i:Nat} {m:Str->Option Value},P.Nodup->P[i]?=some x->vs[i]?=some v->kindOf x=some .local ->
  bindL kindOf (P.zip vs) m x=some v
 | [],_,_,_,_,h,_,_=>by simp at h
 | _ :: _,[],_,_,_,_,h,_=>by simp at h
 | p :: P,w :: vs,0,m,nd,h1,h2,hk=>by
  simp at h1 h2;subst h1;subst h2
  show bindL kindOf ((p,w) :: P.zip vs) m p=_
  unfold bindL
  rw [xH fun v hv=>(List.nodup_cons.mp nd).1 (List.of_mem_zip hv).1,if_pos hk]
  simp
 | p :: P,w :: vs,i+1,m,nd,h1,h2,hk=>by
  show bindL kindOf ((p,w) :: P.zip vs) m x=_
  unfold bindL
  exact xL (i:=i) (List.nodup_cons.mp nd).2 (by simpa using h1) (by simpa using h2) hk
theorem xN {kindOf:Str->Option NameKind}{x:Str}{v:Value}:∀ {P:List Str} {vs:List Value} {i:Nat} {m:Str->Option Value},P.Nodup->P[i]?=some x->vs[i]?=some v->kindOf x ≠ some .local ->
  bindC kindOf (P.zip vs) m x=some v
 | [],_,_,_,_,h,_,_=>by simp at h
 | _ :: _,[],_,_,_,_,h,_=>by simp at h
 | p :: P,w :: vs,0,m,nd,h1,h2,hk=>by
  simp at h1 h2;subst h1;subst h2
  show bindC kindOf ((p,w) :: P.zip vs) m p=_
  unfold bindC
  rw [xD fun v hv=>(List.nodup_cons.mp nd).1 (List.of_mem_zip hv).1,if_neg hk]
  simp
 | p :: P,w :: vs,i+1,m,nd,h1,h2,hk=>by
  show bindC kindOf ((p,w) :: P.zip vs) m x=_
  unfold bindC
  exact xN (i:=i) (List.nodup_cons.mp nd).2 (by simpa using h1) (by simpa using h2) hk
noncomputable def start (N:List Str)(vs:List V):St:=vs.map some ++ List.replicate (N.length - vs.length) none
noncomputable def yJ (CX:CXT)(P:Program)(w:World)(K:PySem.W.Frag)(mg:Str->Option Value)(base:Heap)(N:List Str)(qual:Str)(scope:Scope)(f:Addr)(cd:Value)(A:Around)(outer:List Env)(s:Shared)(H:Hp)(E:XK):Cx where
 prog:=P
 w:=w
 K:=K
 mg:=mg
 base:=base
 A:=A.deeper (envOfC qual scope s.heap.objs.size f cd)
 N:=N
 s₀:=s
 H₀:=H
 env:=envOfC qual scope s.heap.objs.size f cd
 outer:=outer
 stack:=envOfC qual scope s.heap.objs.size f cd :: outer
 ex:=[]
 calm:=true
 fn:=fun _=>true
 pn:=[]
 xe:=fun e s'=>wpAny (model P w) (A.deeper (envOfC qual scope s.heap.objs.size f cd)) (leaving (envOfC qual scope s.heap.objs.size f cd) e) (fun _ s''=>CX outer H s E e s'') (fun e' s''=>CX outer H s E e' s'') s'
theorem vW {sc:Scope}{n:Nat}{x:Str}(h:sc.names.lookup x=some .cell):∃ c,(cellsFrom n sc.names []).lookup x=some c:=by
 have q:=PySem.W.cellsFrom_some sc.names n [] (.inl h)
 exact Option.isSome_iff_exists.mp q
theorem Q1 {CX : CXT}{P : Program}{w : World}{K : PySem.W.Frag}{mg : Str -> Option Value}{base : Heap}{N ps : List Str}{qual : Str}{scope : Scope}{f : Addr}{cd : Value}{A : Around}{outer : List Env}{s s1 : Shared}{H : Hp}{E : XK}{us : List Value}{vs : List V}
    (S:zJ N ps scope) (hd:A.handled=none) (e0:Yt P w K mg base A outer s H) (hl:vs.length=ps.length) (r:zq vs us)
    (x:InCallC s s.heap.objs.size (bindL (envOfC qual scope s.heap.objs.size f cd).kindOf (ps.zip us) fun _=>none) (cellsFrom (s.heap.objs.size+1) scope.names []) (bindC (envOfC qual scope s.heap.objs.size f cd).kindOf (ps.zip us) fun _=>none) s1) :
    Inv (yJ CX P w K mg base N qual scope f cd A outer s H E) [] (start N vs) H s1:=by
  have hpl:ps.length<=N.length:=by have:=congrArg List.length S.pre;rw [List.length_take] at this;omega
  obtain ⟨h1,tk,rfl,hk⟩:=x.done
  have noA:∀ b:Addr,b ∉ (yJ CX P w K mg base N qual scope f cd A outer s H E).ex:=fun b z=>absurd (show b ∈ ([]:List Addr) from z) (by simp)
  refine ⟨⟨e0.mod,S.kind,rfl,rfl,Nat.le_refl _,fun y z c h1 h2=>?_,fun y hy=>?_,fun y c _ h=>?_,fun _=>hd,Around.frames_deeper e0.frames,.inr ⟨rfl,rfl⟩,fun b z=>absurd z (noA b),e0.bs,e0.bsz,fun b _ _=>noA b,fun b z=>absurd z (noA b),e0.funs,e0.frf⟩,
    rfl,e0.bare,Un.kept hk,⟨_,x.toInCall.ns,fun i y v h1 h2 h3=>?_⟩,fun y c h=>⟨_,x.cell y c h⟩,e0.hok.fresh (Nat.le_refl _),fun y c h=>?_,fun p hp=>absurd (show p ∈ ([]:List (Addr × Obj)) from hp) (by simp),e0.hok.kept hk,?_⟩
  · exact name_of_addr x.apart (PySem.mem_of_lookup h1) (PySem.mem_of_lookup h2)
  · have hy:scope.names.lookup y=some .cell \/ scope.names.lookup y=some .free:=hy
    rcases hy with hy | hy
    · exact vW hy
    · exact absurd rfl (S.nofree _ (PySem.mem_of_lookup hy))
  · exact Nat.le_of_lt (x.above y c (PySem.mem_of_lookup h))
  · have hi : i < vs.length := by
      unfold start at h2
      by_cases hi:i<vs.length
      · exact hi
      · rw [List.getElem?_append_right (by simpa using hi)] at h2
        rw [List.getElem?_replicate] at h2
        split at h2 <;> cases h2
    have ha:vs[i]?=some v:=by
      unfold start at h2
      rw [List.getElem?_append_left (by simpa using hi),List.getElem?_map] at h2
      cases e:vs[i]? with
      | none=>rw [e] at h2;cases h2
      | some a=>rw [e] at h2;cases h2;rfl
    obtain ⟨u,hu,rv⟩:=r.get ha
    have hp:ps[i]?=some y:=by
      rw [<- S.pre,List.getElem?_take_of_lt (by omega)];exact h1
    have ndP:ps.Nodup:=by rw [<- S.pre];exact S.nd.sublist (List.take_sublist _ _)
    refine ⟨u,rv,?_⟩
    rcases S.par y (List.mem_of_getElem? hp) with k | k
    · exact .inl ⟨k,xL ndP hp hu k⟩
    · obtain ⟨c,e⟩:=vW (n:=s.heap.objs.size+1) k
      refine .inr ⟨.inl k,c,e,?_⟩
      have q:=x.cell y c e
      rw [xN ndP hp hu (by show scope.names.lookup y ≠ _;rw [k];decide)] at q
      exact q
  · exact e0.hok.fresh (Nat.le_of_lt (x.above y c (PySem.mem_of_lookup h)))
  · unfold start
    show _=N.length
    rw [List.length_append,List.length_map,List.length_replicate]
    omega
theorem AX {CX:CXT}{P:Program}{w:World}{K:PySem.W.Frag}{mg:Str->Option Value}{base:Heap}{k:Nat}{f:Addr}{name qual:Str}{params:Arguments}{body:List Stmt}{scope:Scope}{dV kV doc pm cdv ct oc:Value}{an od:Option Addr}
  {osl:Array (Option Value)} {N ps:List Str} {sp:Sp} (lk:K.lookup f=some ⟨oc,od,.func (PySem.W.fnOf name qual params body scope dV kV doc pm an cdv ct),osl⟩) (hcd:PySem.W.codeIn K cdv qual=true) (S:zJ N ps scope)
  (len:∀ vs H Q E,sp vs H Q E->vs.length=ps.length)
  (hbody:∀ (A:Around) (outer:List Env) (s:Shared) (H:Hp) (vs:List V) (Q:VK) (E:XK),qI k (A.deeper (envOfC qual scope s.heap.objs.size f cdv))->sp vs H Q E ->
   ∃ t,PSs (yJ CX P w K mg base N qual scope f cdv A outer s H E) body t/\t { nx:=fun _ H'=>Q .non H',rt:=Q } (start N vs) H) :
  jJ P w K mg base CX (k+1) f (PySem.W.fnOf name qual params body scope dV kV doc pm an cdv ct) ps sp:=by
 refine ⟨len,fun A outer s H args us vs Q E hr e0 hb r hsp=>?_⟩
 have hl:=len _ _ _ _ hsp
 have KX:K.In s.heap:=e0.mod.kin.keeps fun b o e=>(e0.bs b o e).1
 have lim:s.heap.NoLimit:=e0.mod.nolimit.keeps fun b o e=>(e0.bs b o e).1
 have hkind:∀ y ∈ ps.zip us,scope.names.lookup y.1=some .local \/ (scope.names.lookup y.1=some .cell/\((cellsFrom (s.heap.objs.size+1) scope.names []).lookup y.1).isSome=true):=fun ⟨n,v⟩ hy=>by
  rcases S.par n (List.of_mem_zip hy).1 with q | q
  ·exact .inl q
  ·exact .inr ⟨q,PySem.W.cellsFrom_some _ _ _ (.inl q)⟩
 refine codeAny_call_function hr.depth (KX _ _ lk) rfl S.co S.gen rfl (PySem.W.codeRec_of KX hcd) (hb _ _ _ _ ?_)
 refine wpAny_newFunctionEnv_cells S.kind hkind fun env he s1 x=>?_
 subst he
 refine ⟨lim.keeps x.toInCall.keep,codeAny_func ?_⟩
 obtain ⟨t,ht,hq⟩:=hbody A outer s H vs Q E (hr.deeper _) hsp
 have I:Inv (yJ CX P w K mg base N qual scope f cdv A outer s H E) [] (start N vs) H s1:=Q1 S hr.hd e0 hl r x
 refine wpAny_mono (ht [] s1 (start N vs) H _ I hq) (fun fl s' hs=>?_) fun e s' hs=>hs
 have fin:∀ {σ':St} {H':Hp} {v:V} {u:Value},Inv (yJ CX P w K mg base N qual scope f cdv A outer s H E) [] σ' H' s'->zp v u->Q v H'->CE outer P w H s Q u s':=
  fun {σ' H' v u} J rv q=>⟨v,H',J.os,J.bare,J.base,J.hok,rv,q⟩
 cases fl with
 | ret u=>
  obtain ⟨v,σ',H',J,rv,q⟩:=hs
  exact fin J rv q
 | next=>
  obtain ⟨σ',H',J,q⟩:=hs
  exact fin (v:=V.non) (u:=Value.none) J rfl q
 | brk=>
  obtain ⟨_,_,_,q⟩:=hs
  exact False.elim q
 | cont=>
  obtain ⟨_,_,_,q⟩:=hs
  exact False.elim q
section
variable {X:Cx}{x:Str}{p pos:Pos}{e:Expr}{es:List Expr}{t:TA}{id T:String}{r:List V->Hp->VK->Prop}
noncomputable def tCB (r:List V->Hp->VK->Prop)(t:TA):TE:=fun σ H Q=>t σ H fun vs H1=>r vs H1 Q
theorem zr (hc:qq X (.builtin id) r)(hg:Gl X x)(hm:X.mg x=none)(hv:bootBuiltins x=some (.builtin id))(ha:PA X (e :: es) t)(hn:x ≠ "__name__":=by decide)(hdb:(x == ("__debug__":Str))=false:=by decide)
  (he:starEach (e :: es) X.env=(false,eval e X.env) :: starEach es X.env:=by rfl) (hpl:(backTo pos (starEach es X.env)).any (·.1)=false:=by rfl):PE X (.Call (.Name x p) (e :: es) [] pos) (tCB r t):=by
 intro pins s σ H Q I h
 refine wpAny_Call_Name_kw (jx I hg hm hv ?_ hn hdb)
 exact PyProof.Rows.callWith_builtin1 (thn (ha pos pins s σ H _ I h) fun us s1 ⟨vs,H1,I1,r1,q1⟩=>hc pins s1 σ H1 vs us Q I1 r1 q1) he hpl
theorem zz (hc:qq X (.type T) r)(hg:Gl X x)(hm:X.mg x=none)(hv:bootBuiltins x=some (.type T))(ha:PA X (e :: es) t)(hn:x ≠ "__name__":=by decide)(hdb:(x == ("__debug__":Str))=false:=by decide)
  (he:starEach (e :: es) X.env=(false,eval e X.env) :: starEach es X.env:=by rfl) (hpl:(backTo pos (starEach es X.env)).any (·.1)=false:=by rfl):PE X (.Call (.Name x p) (e :: es) [] pos) (tCB r t):=by
 intro pins s σ H Q I h
 refine wpAny_Call_Name_kw (jx I hg hm hv ?_ hn hdb)
 exact PyProof.Rows.callWith_type1 (thn (ha pos pins s σ H _ I h) fun us s1 ⟨vs,H1,I1,r1,q1⟩=>hc pins s1 σ H1 vs us Q I1 r1 q1) he hpl
end
end L2
namespace HT
open PySem PyProof.Rows
section
open PySem.SeqAt
open PySem.AutoSeq1 (wpAny_loadPart')
open PySem.MeetsSeq PySem.MeetsSeq2 PySem.MeetsSeq3
end
section
variable {prog:Program}{w:World}{A:Around}{E:Value->Shared->Prop}{s:Shared}
noncomputable def sIx (n d:Nat):Option Int->Nat
 | none=>d
 | some v=>if v<0 then (v+(n:Int)).toNat else min v.toNat n
theorem sIx_none (n d:Nat):sIx n d none=d:=rfl
theorem sIx_nat (n d k:Nat):sIx n d (some (k:Int))=min k n:=by
 show (if (k:Int)<0 then ((k:Int)+(n:Int)).toNat else min (k:Int).toNat n)=min k n
 rw [if_neg (by omega),Int.toNat_natCast]
theorem slicePart_ {v:Value}{o:Option Int}{Q:Option Int->Shared->Prop}(p:IsPart v o)(h:Q o s):wpAny (model prog w) A (Builtin.Slice.slicePartIndex v) Q E s:=by
 cases p with
 | none=>exact slicePart_none h
 | int i t=>exact slicePart_int h
end
end HT
namespace L2
open PySem PySem.Spec PyProof.Rows
noncomputable abbrev TO:=St->Hp->(Option Int->Hp->Prop)->Prop
noncomputable def PO (X:Cx)(e:Option Expr)(t:TO):Prop:=
 ∀ (pins:List (Addr × Obj)) (s:Shared) (σ:St) (H:Hp) (Q:Option Int->Hp->Prop),Inv X pins σ H s->t σ H Q ->
  wpAny (model X.prog X.w) X.A (evalPart e X.env) (fun u s'=>∃ o H',Inv X pins σ H' s'/\IsPart u o/\Q o H') X.xe s
noncomputable def ZZ:TO:=fun _ H Q=>Q none H
noncomputable def Ke (t:TE):TO:=fun σ H Q=>t σ H fun x H1=>∃ i,x=.int i/\Q (some i) H1
theorem xq {ns:List Int}:∀ {us:List Value},zq (ns.map V.int) us->IntsAre us ns:=by
 induction ns with
 | nil=>intro us r;rw [List.map_nil] at r;cases r;exact .nil
 | cons n ns ih=>
  intro us r
  rw [List.map_cons] at r
  cases r with
  | cons r1 r2=>
   obtain ⟨t,e⟩:=r1
   subst e
   exact .cons n t (ih r2)
section
variable {X:Cx}{e:Expr}{te:TE}{lo hi:Option Expr}{tl th:TO}{pos p2:Pos}
theorem yz:PO X none ZZ:=by
 intro pins s σ H Q I h
 rw [evalPart_none]
 exact wpAny_pure ⟨none,H,I,.none,h⟩
theorem kL (h:PE X e te):PO X (some e) (Ke te):=by
 intro pins s σ H Q I hw
 rw [evalPart_some]
 refine thn (h pins s σ H _ I hw) fun u s1 ⟨x,H1,I1,r1,q1⟩=>?_
 obtain ⟨i,rfl,q⟩:=q1
 obtain ⟨t,rfl⟩:=r1
 exact ⟨some i,H1,I1,.int i t,q⟩
noncomputable def SlR (X:Cx)(r:V->Option Int->Option Int->Hp->VK->Prop):Prop:=
 ∀ (pins:List (Addr × Obj)) (s:Shared) (σ:St) (H:Hp) (x:V) (v vl vu:Value) (lo hi:Option Int) (sl:Addr) (Q:VK),Inv X pins σ H s->zp x v->s.heap.IsSliceOf sl vl vu .none->IsPart vl lo->IsPart vu hi->r x lo hi H Q ->
  ∃ T id,typeLookup (.type T) "__getitem__"=pure (some (.builtin id))/\s.TypeIs v T/\wpAny (model X.prog X.w) X.A (getItem v (.ref sl)) (EP X pins σ Q) X.xe s
noncomputable def tSl (r:V->Option Int->Option Int->Hp->VK->Prop)(te:TE)(tl th:TO):TE:=fun σ H Q=>te σ H fun x H1=>tl σ H1 fun l H2=>th σ H2 fun u H3=>r x l u H3 Q
theorem y4 {r:V->Option Int->Option Int->Hp->VK->Prop}(hr:SlR X r)(he:PE X e te)(hl:PO X lo tl)(hu:PO X hi th):PE X (.Subscript e (.Slice lo hi none p2) pos) (tSl r te tl th):=by
 intro pins s σ H Q I h
 refine Subscript_ (thn (he pins s σ H _ I h) fun v s1 ⟨x,H1,I1,r1,q1⟩=>?_)
 refine wpAny_Slice (thn (hl pins s1 σ H1 _ I1 q1) fun vl s2 ⟨l,H2,I2,pl,q2⟩=>thn (hu pins s2 σ H2 _ I2 q2) fun vu s3 ⟨u,H3,I3,pu,q3⟩=>?_)
 rw [evalPart_none]
 refine wpAny_pure ?_
 have I4:Inv X pins σ H3 { s3 with heap:=s3.heap.push { cls:=.type "slice",data:=.fields #[vl,vu,.none] } }:=I3.kept (t':=s3.toks) fun b ob q=>Heap.get?_push_of_some _ q
 obtain ⟨T,id,hT,ht,hg⟩:=hr pins { s3 with heap:=s3.heap.push { cls:=.type "slice",data:=.fields #[vl,vu,.none] } } σ H3 x v vl vu l u s3.heap.objs.size Q I4 r1 (Heap.IsSliceOf.new ..) pl pu q3
 show wpAny (model X.prog X.w) X.A (subscriptTail e (.Slice lo hi none p2) v (.ref s3.heap.objs.size)) (EP X pins σ Q) X.xe { s3 with heap:=s3.heap.push { cls:=.type "slice",data:=.fields #[vl,vu,.none] } }
 exact tail_any (ops:=[.ref s3.heap.objs.size,v]) ht hT hg (by with_unfolding_all rfl)
noncomputable def Qr (xs:List V)(lo hi:Option Int):List V:=(xs.drop (HT.sIx xs.length 0 lo)).take (HT.sIx xs.length xs.length hi - HT.sIx xs.length 0 lo)
theorem y9 (xs:List V)(lo hi:Option Int):(Qr xs lo hi).length<=xs.length:=by
 unfold Qr
 rw [List.length_take,List.length_drop]
 omega
end
noncomputable def ixN (n:Nat)(i:Int):Option Nat:=if 0<=i then (if i<n then some i.toNat else none) else if -(n:Int)<=i then some (i+n).toNat else none
noncomputable def atI {α:Type}(xs:List α)(i:Int):Option α:=(ixN xs.length i).bind fun j=>xs[j]?
theorem ZP {n:Nat}{i:Int}{j:Nat}(h:ixN n i=some j):seqIndex? i n=some j/\j<n/\-(n:Int)<=i/\i<n:=by
 unfold ixN at h
 by_cases h0:0<=i
 ·rw [if_pos h0] at h
  by_cases h1:i<n
  ·rw [if_pos h1] at h
   have e:i.toNat=j:=Option.some.inj h
   exact ⟨by rw [seqIndex_of h0 h1,e],by omega,by omega,h1⟩
  ·rw [if_neg h1] at h;cases h
 ·rw [if_neg h0] at h
  by_cases h1:-(n:Int)<=i
  ·rw [if_pos h1] at h
   have e:(i+n).toNat=j:=Option.some.inj h
   exact ⟨by rw [seqIndex_neg (by omega) h1,e],by omega,h1,by omega⟩
  ·rw [if_neg h1] at h;cases h
theorem ZM {α:Type}{xs:List α}{i:Int}{v:α}(h:atI xs i=some v):∃ j,seqIndex? i xs.length=some j/\xs[j]?=some v/\j<xs.length/\-(xs.length:Int)<=i/\i<xs.length:=by
 unfold atI at h
 cases e:ixN xs.length i with
 | none=>rw [e] at h;cases h
 | some j=>
  rw [e] at h
  obtain ⟨h1,h2,h3,h4⟩:=ZP e
  exact ⟨j,h1,h,h2,h3,h4⟩
theorem YG {α:Type}{xs:List α}{j:Nat}{v:α}(h:xs[j]?=some v):atI xs (j:Int)=some v:=by
 have hj:j<xs.length:=(List.getElem?_eq_some_iff.mp h).1
 have e:ixN xs.length (j:Int)=some j:=by
  unfold ixN
  rw [if_pos (by omega),if_pos (by omega)];simp
 unfold atI;rw [e];exact h
noncomputable def YV (b:Expr):Prop:=∀ o i,subscripted b false o i=operate [o,i] (getItem o i)
noncomputable def IxR (X:Cx)(r:R2):Prop:=
 ∀ (value slice:Expr) (pins:List (Addr × Obj)) (s:Shared) (σ:St) (H:Hp) (x y:V) (v u:Value) (Q:VK),Inv X pins σ H s->zp x v->zp y u->r x y H Q ->
  subscripted slice false v u=operate [v,u] (getItem v u)->wpAny (model X.prog X.w) X.A (subscriptTail value slice v u) (EP X pins σ Q) X.xe s
noncomputable def MtR (X:Cx)(id:String)(r:V->List V->Hp->VK->Prop):Prop:=
 ∀ (pins:List (Addr × Obj)) (s:Shared) (σ:St) (H:Hp) (x:V) (xs:List V) (v:Value) (us:List Value) (Q:VK),Inv X pins σ H s->zp x v->zq xs us->r x xs H Q ->
  wpAny (model X.prog X.w) X.A (call (.builtin id) (v :: us)) (EP X pins σ Q) X.xe s
section
variable {X:Cx}{a b:Expr}{ta tb:TE}{pos:Pos}
theorem zC {r:R2}(hr:IxR X r)(ha:PE X a ta)(hb:PE X b tb)(hs:YV b):PE X (.Subscript a b pos) (tOp r ta tb):=by
 intro pins s σ H Q I h
 exact Subscript_ (VT ha hb I h fun v u s2 x y H2 I2 rx ry q=>hr a b pins s2 σ H2 x y v u Q I2 rx ry q (hs _ _))
noncomputable def Ay (K:PySem.W.Frag):R2:=fun x y H Q=>∃ p xs i v,x=.ref p/\y=.int i/\SqL K H p xs/\atI xs i=some v/\Q v H
noncomputable def A3 (K:PySem.W.Frag):R2:=fun x y H Q=>∃ p xs i v,x=.ref p/\y=.int i/\SqT K H p xs/\atI xs i=some v/\Q v H
theorem zN:IxR X (Ay X.K):=by
  intro value slice pins s σ H x y v u Q I rx ry h hs
  obtain ⟨p,xs,i,z,rfl,rfl,hq,he,q⟩:=h
  cases rx
  obtain ⟨t,rfl⟩:=ry
  obtain ⟨its,r,pl,hz⟩:=I.list hq
  obtain ⟨j,h1,h2,h3,h4,h5⟩:=ZM he
  obtain ⟨w,ew,rw'⟩:=r.get h2
  have hl:=r.length
  have hn:=yL
  have fin:EP X pins σ Q w s:=⟨z,H,I,rw',q⟩
  by_cases h0:0<=i
  · have hj : i.toNat = j := by
      rw [seqIndex_of h0 h5] at h1
      exact Option.some.inj h1
    exact item_listR pl.isList h0 (by omega) (by rw [hj];simpa using ew) fin hs
  · have hj : (i + (its.toArray.size : Int)).toNat = j := by
      rw [seqIndex_neg (by omega) h4] at h1
      rw [List.size_toArray,<- hl]
      exact Option.some.inj h1
    exact subscriptTail_builtinR (x:=w) pl.isList.typeIs slot_list_getitem.lookup
      (wpAny_getItem_list_neg (Q:=fun r s'=>r=w/\EP X pins σ Q r s') pl.isList (by omega) (by rw [List.size_toArray] <;> omega) (by omega) (by rw [hj];simpa using ew) ⟨rfl,fin⟩) hs
theorem WP:IxR X (A3 X.K):=by
 intro value slice pins s σ H x y v u Q I rx ry h hs
 obtain ⟨p,xs,i,z,rfl,rfl,hq,he,q⟩:=h
 cases rx
 obtain ⟨t,rfl⟩:=ry
 obtain ⟨its,r,pl,hz⟩:=I.tuple hq
 obtain ⟨j,h1,h2,h3,h4,h5⟩:=ZM he
 obtain ⟨w,ew,rw'⟩:=r.get h2
 have hl:=r.length
 have hn:=yL
 have fin:EP X pins σ Q w s:=⟨z,H,I,rw',q⟩
 exact subscriptTail_builtinR (x:=w) pl.typeIs slot_tuple_getitem.lookup
  (getItem_tuple (j:=j) (Q:=fun r s'=>r=w/\EP X pins σ Q r s') pl (by omega) (by omega) (by rw [List.size_toArray,<- hl];exact h1) (by simpa using ew) ⟨rfl,fin⟩) hs
theorem wR (its:List Value)(n j:Nat)(u:Value):Obj.mapSeq (·.setIfInBounds j u) { cls:=.type "list",data:=.seq its.toArray n }={ cls:=.type "list",data:=.seq (its.set j u).toArray n }:=by
 simp [Obj.mapSeq]
theorem Inv.lst {pins:List (Addr × Obj)}{σ:St}{H:Hp}{s:Shared}{p:Addr}{xs:List V}(I:Inv X pins σ H s)(h:H p=some (.lst xs)) :
  ∃ (its:List Value) (n:Nat),zq xs its/\s.heap.get? p=some { cls:=.type "list",data:=.seq its.toArray n }/\xs.length<=sizeLine:=by
 obtain ⟨z,its,n,r,e⟩:=I.hok p _ h
 exact ⟨its,n,r,e,z⟩
theorem Inv.lstUpd {pins:List (Addr × Obj)}{σ:St}{H:Hp}{s:Shared}{p:Addr}{xs ys:List V}{its its':List Value}{n n':Nat}{f:Obj->Obj}(I:Inv X pins σ H s)(h:H p=some (.lst xs))
  (ho:s.heap.get? p=some { cls:=.type "list",data:=.seq its.toArray n }) (hf:f { cls:=.type "list",data:=.seq its.toArray n }={ cls:=.type "list",data:=.seq its'.toArray n' }) (r:zq ys its') (hz:ys.length<=sizeLine) (t:Nat) :
  Inv X pins σ (upd H p (.lst ys)) { s with heap:=s.heap.update p f,toks:=t }:=by
 have e:(s.heap.update p f).get? p=some { cls:=.type "list",data:=.seq its'.toArray n' }:=by
  rw [Heap.get?_update_self f ho (by rw [hf] <;> rfl),hf]
 refine I.write (x:=p) (e:=p) (by rw [h];trivial) (.inl rfl) (fun b u hb q=>(Heap.get?_update_other _ _ (Ne.symm hb)).trans q) ⟨_,e⟩ ?_
 exact ⟨hz,its',n',r,e⟩
noncomputable def Vd:V->V->V->Hp->(Hp->Prop)->Prop:=fun o i v H Q=>∃ p xs k j,o=.ref p/\i=.int k/\H p=some (.lst xs)/\ixN xs.length k=some j/\Q (upd H p (.lst (xs.set j v)))
theorem K8:WE X Vd:=by
  intro pins s σ H o i v ov iv u Q I ro ri rv h
  obtain ⟨p,xs,k,j,rfl,rfl,hp,hj,q⟩:=h
  cases ro
  obtain ⟨t,rfl⟩:=ri
  obtain ⟨its,n,r,ho,hz⟩:=I.lst hp
  obtain ⟨h1,h2,h3,h4⟩:=ZP hj
  have hl:=r.length
  have hn:=yL
  have I':Inv X pins σ (upd H p (.lst (xs.set j v))) { s with heap:=s.heap.update p (Obj.mapSeq (·.setIfInBounds j u)) }:=
    I.lstUpd hp ho (wR its n j u) (r.set rv j) (by rw [List.length_set];exact hz) s.toks
  by_cases h0:0<=k
  · have hk : k.toNat = j := by
      rw [seqIndex_of h0 h4] at h1
      exact Option.some.inj h1
    exact PySem.W.ki_setAt ho h0 (by omega) (by rw [List.size_toArray,<- hl];exact h4) (by rw [hk];exact ⟨_,I',q⟩)
  · have hk : (k + (its.toArray.size : Int)).toNat = j := by
      rw [seqIndex_neg (by omega) h3] at h1
      rw [List.size_toArray,<- hl]
      exact Option.some.inj h1
    exact PySem.W.ki_setBack ho (by omega) (by rw [List.size_toArray,<- hl];exact h3) (by omega) (by rw [hk];exact ⟨_,I',q⟩)
theorem yt (lo hi:Option Int)(n:Nat):(sliceBounds lo hi none n).1=((HT.sIx n 0 lo:Nat):Int)/\(sliceBounds lo hi none n).2.1=((HT.sIx n n hi:Nat):Int)/\(sliceBounds lo hi none n).2.2=1:=by
 refine ⟨?_,?_,rfl⟩
 ·cases lo with
  | none=>simp [sliceBounds,HT.sIx]
  | some i=>
   simp only [sliceBounds,HT.sIx,Option.getD_none,show (1:Int) > 0 by decide,if_true]
   by_cases h:i<0
   ·simp only [h,if_true] <;> omega
   ·simp only [h,if_false] <;> omega
 ·cases hi with
  | none=>simp [sliceBounds,HT.sIx]
  | some i=>
   simp only [sliceBounds,HT.sIx,Option.getD_none,show (1:Int) > 0 by decide,if_true]
   by_cases h:i<0
   ·simp only [h,if_true] <;> omega
   ·simp only [h,if_false] <;> omega
theorem xv (its:List Value)(lo hi:Option Int):slicePick its.toArray lo hi none=((its.drop (HT.sIx its.length 0 lo)).take (HT.sIx its.length its.length hi - HT.sIx its.length 0 lo)).toArray:=by
 obtain ⟨h1,h2,h3⟩:=yt lo hi its.toArray.size
 unfold slicePick
 rw [h1,h2,h3]
 simp only [sliceRange_one,pick_run,List.size_toArray] <;> rfl
noncomputable def Bj (K:PySem.W.Frag):V->Option Int->Option Int->Hp->VK->Prop:=fun x lo hi H Q=>∃ a xs,x=.ref a/\SqL K H a xs/\∀ p,H p=none->Q (.ref p) (upd H p (.lst (Qr xs lo hi)))
theorem ZL:SlR X (Bj X.K):=by
 intro pins s σ H x v vl vu lo hi sl Q I rx hs pl pu h
 obtain ⟨a,xs,rfl,hx,q⟩:=h
 cases rx
 obtain ⟨its,r,ht,hz⟩:=I.list hx
 have hlen:=r.length
 refine ⟨"list",_,slot_list_getitem.lookup,ht.isList.typeIs,?_⟩
 refine wpAny_getItem_list_slice ht.isList hs pl pu .none (by simp) ?_ (by rw [List.size_toArray] <;> omega)
 rw [xv,<- hlen]
 refine ⟨.ref s.heap.objs.size,_,I.laid (t':=s.toks) (o:=.lst (Qr xs lo hi)) (fun b ob q=>Heap.get?_push_of_some _ q) (Nat.le_refl _) ?_,rfl,q _ (I.hok.fresh (Nat.le_refl _))⟩
 exact ⟨Nat.le_trans (y9 xs lo hi) hz,_,0,(r.drop (HT.sIx xs.length 0 lo)).take (HT.sIx xs.length xs.length hi - HT.sIx xs.length 0 lo),Heap.get?_push_size _ rfl⟩
theorem zR:qq X (.builtin "len") (fun xs H Q=>∃ p ys,xs=[.ref p]/\(SqL X.K H p ys \/ SqT X.K H p ys)/\Q (.int ys.length) H):=by
 intro pins s σ H xs us Q I r h
 obtain ⟨p,ys,rfl,hq,q⟩:=h
 obtain ⟨u,rfl,rx⟩:=ji r
 cases rx
 have hn:=yL
 rcases hq with hq | hq
 ·obtain ⟨its,r',pl,hz⟩:=I.list hq
  have hlen:=r'.length
  exact Calls.call_len_list pl.isList (by simp only [List.size_toArray] <;> omega) ⟨.int ys.length,H,I.tok _,⟨s.toks+1,by rw [List.size_toArray,hlen]⟩,q⟩
 ·obtain ⟨its,r',pl,hz⟩:=I.tuple hq
  have hlen:=r'.length
  exact len_tuple pl (by simp only [List.size_toArray] <;> omega) ⟨.int ys.length,H,I.tok _,⟨s.toks+1,by rw [List.size_toArray,hlen]⟩,q⟩
theorem qQ:qq X (.type "list") (fun xs H Q=>∃ p ys,xs=[.ref p]/\(SqL X.K H p ys \/ SqT X.K H p ys)/\∀ l,H l=none->Q (.ref l) (upd H l (.lst ys))):=by
 intro pins s σ H xs us Q I r h
 obtain ⟨p,ys,rfl,hq,q⟩:=h
 obtain ⟨u,rfl,rx⟩:=ji r
 cases rx
 have fin:∀ (its:List Value),zq ys its->ys.length<=sizeLine->∀ (h':Heap) (c':Nat),(∀ b o',s.heap.get? b=some o'->h'.get? b=some o') ->
   h'.get? s.heap.objs.size=some { cls:=.type "list",dict:=none,data:=.seq its.toArray c',slots:=#[] }->EP X pins σ Q (.ref s.heap.objs.size) { s with heap:=h' }:=fun its r' hz h' c' kp e=>
  ⟨.ref s.heap.objs.size,_,I.laid (t':=s.toks) kp (Nat.le_refl _) (show zE X.prog X.w _ h' _ (.lst ys) from ⟨hz,its,c',r',e⟩),rfl,q _ (I.hok.fresh (Nat.le_refl _))⟩
 rcases hq with hq | hq
 ·obtain ⟨its,r',pl,hz⟩:=I.list hq
  have hlen:=r'.length
  obtain ⟨o,ho,hc,n,hd⟩:=pl.isList
  exact call_list_seq p (.inl rfl) ho hc hd (fun h' c' kp e=>fin its r' hz h' c' kp e) (by simp only [List.size_toArray] <;> omega)
 ·obtain ⟨its,r',pl,hz⟩:=I.tuple hq
  have hlen:=r'.length
  obtain ⟨o,ho,hc,n,hd⟩:=pl
  exact call_list_seq p (.inr rfl) ho hc hd (fun h' c' kp e=>fin its r' hz h' c' kp e) (by simp only [List.size_toArray] <;> omega)
theorem zV:qq X (.type "tuple") (fun xs H Q=>∃ p ys,xs=[.ref p]/\((SqL X.K H p ys/\∀ l,H l=none->Q (.ref l) (upd H l (.tup ys))) \/ (SqT X.K H p ys/\Q (.ref p) H))):=by
 intro pins s σ H xs us Q I r h
 obtain ⟨p,ys,rfl,h⟩:=h
 obtain ⟨u,rfl,rx⟩:=ji r
 cases rx
 rcases h with ⟨hq,q⟩ | ⟨hq,q⟩
 ·obtain ⟨its,r',pl,hz⟩:=I.list hq
  have hlen:=r'.length
  refine call_tuple_list pl.isList (fun h' kp=>?_) (by simp only [List.size_toArray] <;> omega)
  have I1:Inv X pins σ H { s with heap:=h' }:=I.kept (t':=s.toks) kp
  have I2:Inv X pins σ (upd H h'.objs.size (.tup ys)) { s with heap:=h'.push { cls:=.type "tuple",data:=.seq its.toArray } }:=
   I1.laid (t':=s.toks) (fun b o e=>Heap.get?_push_of_some _ e) (Nat.le_refl _) (show zE X.prog X.w _ _ _ (.tup ys) from ⟨hz,its,r',yE.new _ _⟩)
  exact ⟨.ref h'.objs.size,_,I2,rfl,q _ (I1.hok.fresh (Nat.le_refl _))⟩
 ·obtain ⟨its,r',pl,hz⟩:=I.tuple hq
  exact call_tuple_same pl ⟨.ref p,H,I,rfl,q⟩
noncomputable def tyV (K:PySem.W.Frag)(T:String)(x:V)(H:Hp):Prop:=match x with
  | .str _=>T="str"
  | .int _=>T="int"
  | .ref p => (T = "list" /\ ∃ xs, SqL K H p xs) \/ (T = "tuple" /\ ((∃ xs, Rd H p (.tup xs)) \/ ∃ o, K.lookup p = some o /\ o.cls = .type "tuple" /\ o.dict = none)) \/
      (T="dict"/\((∃ kvs,H p=some (.dK kvs)) \/ ∃ kvs,H p=some (.dT kvs))) \/ (T="set"/\∃ S n,H p=some (.set S n))
  | _=>False
theorem V3 {pins : List (Addr × Obj)}{σ : St}{H : Hp}{s : Shared}{T : String}{x : V}{v : Value}(I : Inv X pins σ H s)(r : zp x v)(ty : tyV X.K T x H) :
    s.TypeIs v T/\∀ a,v=.ref a->∃ ob,s.heap.get? a=some ob/\ob.dict=none:=by
  cases x with
  | str z=>
    obtain ⟨t,rfl⟩:=r
    cases (show T="str" from ty)
    exact ⟨typeIs_str s z t,fun _ e=>nomatch e⟩
  | int i=>
    obtain ⟨t,rfl⟩:=r
    cases (show T="int" from ty)
    exact ⟨typeIs_int s i t,fun _ e=>nomatch e⟩
  | ref p=>
    cases r
    rcases ty with ⟨rfl,xs,hq⟩ | ⟨rfl,⟨xs,hx⟩ | ⟨o,hk,hc,hd⟩⟩ | ⟨rfl,hk⟩ | ⟨rfl,S,n,hk⟩
    · obtain ⟨its,_,pl,_⟩:=I.list hq
      refine ⟨pl.isList.typeIs,fun a e=>?_⟩
      cases e
      obtain ⟨o,n,e,c,hd,_⟩:=pl
      exact ⟨o,e,hd⟩
    · obtain ⟨_,its,_,o,e,c,_,hd⟩:=hx.ok I.hok
      refine ⟨⟨o,e,c⟩,fun a e2=>?_⟩
      cases e2
      exact ⟨o,e,hd⟩
    · refine ⟨⟨o,I.kIn p o hk,hc⟩,fun a e=>?_⟩
      cases e
      exact ⟨o,I.kIn _ o hk,hd⟩
    · have z : ∃ o, s.heap.get? p = some o /\ o.ExactDict := by
        rcases hk with ⟨kvs,hk⟩ | ⟨kvs,hk⟩
        · obtain ⟨_,_,_,_,o,_,_,e,ex,_⟩:=I.hok p _ hk
          exact ⟨o,e,ex⟩
        · obtain ⟨_,_,_,_,o,_,_,e,ex,_⟩:=I.hok p _ hk
          exact ⟨o,e,ex⟩
      obtain ⟨o,e,ex⟩:=z
      refine ⟨⟨o,e,ex.1⟩,fun a e2=>?_⟩
      cases e2
      exact ⟨o,e,ex.2.1⟩
    · obtain ⟨o,_,_,_,e,ex,_⟩:=I.hok p _ hk
      refine ⟨⟨o,e,ex.1⟩,fun a e2=>?_⟩
      cases e2
      exact ⟨o,e,ex.2.1⟩
  | _=>exact False.elim ty
noncomputable def tBM (K:PySem.W.Frag)(T:String)(r:V->List V->Hp->VK->Prop)(to:TE)(t:TA):TE:=fun σ H Q=>to σ H fun x H1=>tyV K T x H1/\t σ H1 fun xs H2=>r x xs H2 Q
variable {o e:Expr}{es:List Expr}{to:TE}{t:TA}{name:Str}{apos cpos:Pos}{T id:String}{r:V->List V->Hp->VK->Prop}
theorem Vr (pa:PlainAttrs T)(slot:Slot T name id)(hty:typeOf (.builtin id)=pure (.type "method_descriptor"))(hm:MtR X id r)(ho:PE X o to)(ha:PA X (e :: es) t)
  (hbase:attributeBase o name X.env (eval o X.env)=eval o X.env:=by rfl)
  (hfew:((backTo cpos (starEach (e :: es) X.env)).all (fun x=>!x.1) && (backToKw cpos (keywordEach [] X.env)).all (fun x=>x.1.isSome)
   && decide ((e :: es).length+([]:List Keyword).length+(if ([]:List Keyword).isEmpty then 0 else 1)<30))=true:=by rfl)
  (hline:(apos.endLine == cpos.line)=true:=by rfl) (hs:starEach (e :: es) X.env=(false,eval e X.env) :: starEach es X.env:=by rfl) (hplain:(backTo cpos (starEach es X.env)).any (·.1)=false:=by rfl) :
  PE X (.Call (.Attribute o name apos) (e :: es) [] cpos) (tBM X.K T r to t):=by
 intro pins s σ H Q I h
 refine wpAny_Call_method_late hbase hfew hline rfl (thn (ho pins s σ H _ I h) fun v s1 ⟨x,H1,I1,r1,ty,q1⟩=>?_)
 obtain ⟨h1,h2⟩:=V3 I1 r1 ty
 refine ⟨T,id,pa,slot,hty,h1,h2,?_⟩
 have hA:=ha cpos pins s1 σ H1 _ I1 q1
 rw [hs] at hA ⊢
 refine Calls.callWith_builtin (by show (false || (backTo cpos (starEach es X.env)).any (·.1))=false;rw [hplain] <;> rfl) (Calls.evalArgs_plain ?_)
 exact thn hA fun us s2 ⟨vs,H2,I2,r2,q2⟩=>hm pins s2 σ H2 x vs v us Q I2 r1 r2 q2
/- xs.append(e),list.index on a module's tuple .. are MtR facts of 06m -/
end
noncomputable def MtM (X:Cx)(id:String)(r:V->List V->Hp->VK->Prop):Prop:=
 ∀ (pins:List (Addr × Obj)) (s:Shared) (σ:St) (H:Hp) (x:V) (xs:List V) (v:Value) (us:List Value) (Q:VK),Inv X pins σ H s->zp x v->zq xs us->r x xs H Q ->
  wpAny (model X.prog X.w) X.A (call (.builtin id) (v :: us)) (EP X pins σ Q) X.xe s
theorem zq.one:∀ {x:V} {us:List Value},zq [x] us->∃ u,us=[u]/\zp x u
 | _,_,.cons r .nil=>⟨_,rfl,r⟩
theorem zq.dropLast {xs:List V}{us:List Value}(h:zq xs us):zq xs.dropLast us.dropLast:=by
 induction h with
 | nil=>exact .nil
 | cons r t ih=>
  cases t with
  | nil=>exact .nil
  | cons q t'=>exact .cons r ih
theorem zq.rep {xs:List V}{us:List Value}(h:zq xs us):∀ k:Nat,zq (List.replicate k xs).flatten (List.replicate k us).flatten
 | 0=>.nil
 | k+1=>by
  rw [List.replicate_succ,List.replicate_succ,List.flatten_cons,List.flatten_cons]
  exact zq.append h (zq.rep h k)
theorem xR (its:List Value):∀ (k:Nat) (acc:List Value),
  List.foldl (fun x1 x2=>x1 ++ x2) acc.toArray (List.replicate k its.toArray)=(acc ++ (List.replicate k its).flatten).toArray
 | 0,acc=>by simp
 | k+1,acc=>by
  have e:acc.toArray ++ its.toArray=(acc ++ its).toArray:=by simp
  have e2:(acc ++ its) ++ (List.replicate k its).flatten=acc ++ (List.replicate (k+1) its).flatten:=by
   rw [List.replicate_succ,List.flatten_cons,List.append_assoc]
  rw [<- e2,<- xR its k (acc ++ its),<- e,List.replicate_succ,List.foldl_cons]
section
variable {X:Cx}{pins:List (Addr × Obj)}{σ:St}{H:Hp}{s:Shared}{l b:Addr}{xs ys zs:List V}
theorem Inv.lset {its its':List Value}{n:Nat}{f:Array Value->Array Value}{t':Nat}(I:Inv X pins σ H s)(hH:H l=some (.lst xs))
  (e:s.heap.get? l=some { cls:=.type "list",data:=.seq its.toArray n }) (hf:f its.toArray=its'.toArray) (hv:zq ys its') (hz:ys.length<=sizeLine) :
  Inv X pins σ (upd H l (.lst ys)) { s with heap:=s.heap.update l (Obj.mapSeq f),toks:=t' }:=by
 have q:=PySem.IsL.update e f
 rw [hf] at q
 refine I.write (x:=l) (e:=l) (by rw [hH];exact trivial) (.inl rfl) (fun b' u hb hu=>(Heap.get?_update_other s.heap (Obj.mapSeq f) (Ne.symm hb)).trans hu) ⟨_,q⟩ ?_
 exact ⟨hz,its',_,hv,q⟩
theorem Inv.lnew {its:List Value}{t':Nat}(I:Inv X pins σ H s)(hv:zq ys its)(hz:ys.length<=sizeLine) :
  Inv X pins σ (upd H s.heap.objs.size (.lst ys)) { s with heap:=s.heap.push { cls:=.type "list",data:=.seq its.toArray },toks:=t' }:=
 I.laid (fun _ _ q=>Heap.get?_push_of_some _ q) (Nat.le_refl _) ⟨hz,its,0,hv,Heap.get?_push_size _ rfl⟩
theorem Inv.fresh (I:Inv X pins σ H s):H s.heap.objs.size=none:=I.hok.fresh (Nat.le_refl _)
theorem Inv.lstM (I:Inv X pins σ H s)(hH:H l=some (.lst xs)):xs.length<=sizeLine/\∃ (its:List Value) (n:Nat),zq xs its/\xs.length=its.length/\s.heap.get? l=some { cls:=.type "list",data:=.seq its.toArray n }:=by
 obtain ⟨z,its,n,r,e⟩:=I.hok l _ hH
 exact ⟨z,its,n,r,r.length,e⟩
theorem vj {n:Nat}(h:n<=sizeLine):Builtin.List.listTooLong n=false:=by
 unfold Builtin.List.listTooLong
 exact decide_eq_false (by omega)
end
section
variable {X:Cx}
noncomputable def kM:V->List V->Hp->VK->Prop:=fun x vs H Q=>∃ l xs y,x=.ref l/\vs=[y]/\H l=some (.lst xs)/\xs.length<sizeLine/\Q .non (upd H l (.lst (xs ++ [y])))
theorem xF:MtM X "list.append" kM:=by
 intro pins s σ H x vs v us Q I rx rv h
 obtain ⟨l,xs,y,rfl,rfl,hH,hz,q⟩:=h
 cases rx
 obtain ⟨u,rfl,ru⟩:=rv.one
 obtain ⟨z,its,n,r,hl,e⟩:=I.lstM hH
 refine call_meets F.slot_list_append ⟨_,e,rfl⟩ F.entry_list_append (F.args_list_append_2 _ _) (PySem.list_append l its.toArray n u (by rw [List.size_toArray];omega)) ⟨e,?_⟩
 refine ⟨.non,_,I.lset (its':=its ++ [u]) hH e (by simp) (r.append (.cons ru .nil)) ?_,rfl,q⟩
 rw [List.length_append,List.length_singleton]
 omega
noncomputable def Zo:V->List V->Hp->VK->Prop:=fun x vs H Q=>∃ l b xs zs,x=.ref l/\vs=[.ref b]/\H l=some (.lst xs)/\H b=some (.lst zs)/\xs.length+zs.length<=sizeLine/\Q .non (upd H l (.lst (xs ++ zs)))
theorem Ax:MtM X "list.extend" Zo:=by
 intro pins s σ H x vs v us Q I rx rv h
 obtain ⟨l,b,xs,zs,rfl,rfl,hH,hB,hz,q⟩:=h
 cases rx
 obtain ⟨u,rfl,ru⟩:=rv.one
 cases ru
 obtain ⟨z,its,n,r,hl,e⟩:=I.lstM hH
 obtain ⟨z2,its2,n2,r2,hl2,e2⟩:=I.lstM hB
 have hsz:its.toArray.size+its2.toArray.size<=sizeLine:=by rw [List.size_toArray,List.size_toArray];omega
 have hlong:¬ (!its.toArray.isEmpty && Builtin.List.listTooLong (its.toArray.size+its2.toArray.size))=true:=by
  rw [vj hsz,Bool.and_false]
  exact Bool.false_ne_true
 refine call_meets F.slot_list_extend ⟨_,e,rfl⟩ F.entry_list_extend (F.args_list_extend_2 _ _)
  (AutoSeq1.list_extend_list_list_0 l its.toArray n b its2.toArray n2 hlong (by rw [List.size_toArray];omega) (by omega)) ⟨e,e2,?_⟩
 refine ⟨.non,_,I.lset (its':=its ++ its2) hH e (by simp) (r.append r2) ?_,rfl,q⟩
 rw [List.length_append]
 omega
noncomputable def BH:R2:=fun x y H Q=>∃ l b xs zs,x=.ref l/\y=.ref b/\H l=some (.lst xs)/\H b=some (.lst zs)/\xs.length+zs.length<=sizeLine/\∀ p,H p=none->Q (.ref p) (upd H p (.lst (xs ++ zs)))
theorem VH:OpR X (binaryOp .Add) BH:=by
 intro pins s σ H x y v u Q I rx ry h
 obtain ⟨l,b,xs,zs,rfl,rfl,hH,hB,hz,q⟩:=h
 cases rx
 cases ry
 obtain ⟨z,its,n,r,hl,e⟩:=I.lstM hH
 obtain ⟨z2,its2,n2,r2,hl2,e2⟩:=I.lstM hB
 refine PySem.P.add_list e e2 ?_ (by rw [List.size_toArray,List.size_toArray];omega)
 have ea:its.toArray ++ its2.toArray=(its ++ its2).toArray:=by simp
 rw [ea]
 exact ⟨.ref _,_,I.lnew (t':=s.toks) (r.append r2) (by rw [List.length_append];omega),rfl,q _ I.fresh⟩
noncomputable def AW:R2:=fun x y H Q=>∃ l k xs,x=.ref l/\y=.int k/\H l=some (.lst xs)/\-(2 ^ 63)<=k/\k<2 ^ 63/\xs.length * k.toNat<=sizeLine /\
 ∀ p,H p=none->Q (.ref p) (upd H p (.lst (List.replicate k.toNat xs).flatten))
theorem Yi {α:Type}(xs:List α)(k:Nat):(List.replicate k xs).flatten.length=k * xs.length:=by
 induction k with
 | zero=>simp
 | succ k ih=>rw [List.replicate_succ,List.flatten_cons,List.length_append,ih,Nat.succ_mul,Nat.add_comm]
theorem VR:OpR X (binaryOp .Mult) AW:=by
 intro pins s σ H x y v u Q I rx ry h
 obtain ⟨l,k,xs,rfl,rfl,hH,h1,h2,hz,q⟩:=h
 cases rx
 obtain ⟨t,rfl⟩:=ry
 obtain ⟨z,its,n,r,hl,e⟩:=I.lstM hH
 have hlen:its.toArray.size * k.toNat<=sizeLine:=by rw [List.size_toArray,<- hl];exact hz
 have hcap:¬ its.toArray.size * k.toNat > (2 ^ 63 - 1) / 8:=by
  have:(sizeLine:Nat)<=(2 ^ 63 - 1) / 8:=by decide
  omega
 have hfit:¬ (!Builtin.List.listFitsIndex k)=true:=by
  rw [fitsIndex_both h1 h2]
  exact Bool.false_ne_true
 have hlong:¬ Builtin.List.listTooLong (its.toArray.size * k.toNat)=true:=by
  rw [vj hlen]
  exact Bool.false_ne_true
 have hnew:List.foldl (fun x1 x2=>x1 ++ x2) #[] (List.replicate (if its.toArray.isEmpty=true then 0 else k.toNat) its.toArray)=(List.replicate k.toNat its).flatten.toArray:=by
  have f0:∀ m:Nat,List.foldl (fun x1 x2=>x1 ++ x2) #[] (List.replicate m its.toArray)=(List.replicate m its).flatten.toArray:=fun m=>by
   have:=xR its m []
   rw [List.nil_append] at this
   exact this
  rw [f0]
  cases its with
  | nil=>simp
  | cons a r'=>rw [if_neg (by simp)]
 refine wpAny_binaryOp_repeat_ref (T:="list") (U:="int") (by decide) ⟨_,e,rfl⟩ (fun s'=>typeIs_int s' k t) noFill_list_mul F.fills_int_mul F.slot_int_rmul repeat_list F.slot_int_index.lookup
  (call_meets F.slot_int_rmul (typeIs_int s k t) F.entry_int_rmul (F.args_int_rmul_2 _ _) (int___rmul___int_list k t l its.toArray n)
   ⟨e,rfl,⟨_,e,rfl⟩,call_meets F.slot_list_mul ⟨_,e,rfl⟩ F.entry_list_mul (F.args_list_mul_2 _ _) (AutoListH.list___mul___list_int_3 l its.toArray n k t hfit hcap hlong) ⟨e,?_⟩⟩)
 rw [hnew]
 exact ⟨.ref _,_,I.lnew (t':=s.toks) (r.rep k.toNat) (by rw [Yi,Nat.mul_comm];exact hz),rfl,q _ I.fresh⟩
end
section
variable {prog:Program}{w:World}{A:Around}{E:Value->Shared->Prop}{s:Shared}
end
section
variable {X:Cx}
end
end L2
namespace Att
open PySem PySem.W PySem.Calls PyProof.Rows
theorem kH {P:Params}{h:Heap}:∀ (ns:List Int) (vs:List Value),WellAll P h vs (ns.map WData.int)->IntsAre vs ns:=by
 intro ns
 induction ns with
 | nil=>
  intro vs w
  rw [List.map_nil] at w
  cases w
  exact .nil
 | cons n ns ih=>
  intro vs w
  rw [List.map_cons] at w
  cases w with
  | cons a b=>
   cases a
   exact .cons _ _ (ih _ b)
theorem QO {l:OpenLaw}{n:Nat}(hn:l.most=some n){P:Params}{h:Heap}{args:List WData}{vals:List Value}
  (hpre:l.row.toRowW.claim.pre args=true) (hwl:WellAll P h vals args) :
  ∃ a vs ns,vals=[Value.ref a]/\args=[WData.list (ns.map WData.int)]/\h.get? a=some { cls:=.type "list",data:=.seq vs.toArray }/\IntsAre vs ns/\ns.length<=n:=by
 have hsh:WShape.hasAll [] args [.list .int]=true:=(pre_splitW hpre).1
 have hc:l.pre.holds [] { args:=args }=true:=(pre_splitW hpre).2
 obtain ⟨d,r,rfl,h1,h2⟩:=hasAllW_cons hsh
 obtain rfl:=hasAllW_nil h2
 obtain ⟨xs,rfl,h3⟩:=hasW_list h1
 obtain ⟨ns,rfl⟩:=items_int h3
 have hlen:ns.length<=n:=by
  unfold OpenLaw.pre at hc
  have h4:(WTm.not (.lt (.lit (.int (n:Int))) (.len (.arg 0)))).holds [] { args:=[.list (ns.map .int)] }=true:=by
   have h4:=(holds_andW hc).1
   rw [hn] at h4
   exact h4
  have h5:=condW_of h4 (w_not (w_lt w_lit (w_len_list (w_arg rfl))))
  rw [List.length_map] at h5
  refine Nat.le_of_not_lt fun q=>?_
  have q':(n:Int)<((ns.length:Nat):Int):=by omega
  first
   | (rw [decide_eq_true q'] at h5;exact absurd h5 (by decide))
   | (simp at h5;omega)
 cases hwl with
 | cons w1 w2=>
  cases w2
  cases w1 with
  | list ho hall=>exact ⟨_,_,ns,rfl,rfl,ho,kH ns _ hall,hlen⟩
theorem Qj (l:OpenLaw)(args:List WData):l.row.toRowW.claim.post args (.bool true) args=true:=
 postW_of (r:=l.row.toRowW) (X:=(true == true))
  (show WShape.has [] (.bool true) .bool=true by first | rfl | decide | simp [WShape.has,WShape.arms,WShape.armsAll])
  (show (WTm.eq .res (.lit (.bool true))).value [] { args:=args,res:=some (.bool true),after:=args }=some (.bool (true == true)) from w_eq_bool (w_res rfl) w_lit) rfl
theorem attach_call {l:OpenLaw}{n:Nat}{q:Program}{loose:List Str}{XP:(Str->Option Value)->Heap->Prop}{YP:World->Heap->Prop}{d:DefRec}
  (hn:l.most=some n) (hdf:d.params.defaults=[])
  (call:∀ (w:World) (s₀ s₁:Shared) (mg mb:Str->Option Value) (fa:Addr) (o:Obj) (pm cd doc:Value) (a:Addr) (vs:List Value) (ns:List Int),
   Ground q loose [] XP w s₀ mg mb s₁.heap->YP w s₁.heap ->
   s₁.heap.get? fa=some o->o.data=.func (docDef d.name d.params d.body d.scope pm cd doc)->s₁.heap.CodeRec cd d.name->mg d.name=some (.ref fa) ->
   s₁.heap.get? a=some { cls:=.type "list",data:=.seq vs.toArray }->IntsAre vs ns->ns.length<=n->s₁.gens=#[] ->
   codeAny (model l.prog w) callerA (.call (.ref fa) ⟨[.ref a],[]⟩) (fun r s'=>r=.ok (.ret (.bool true))/\OldK s₁.heap s'.heap/\s'.os=s₁.os/\AllBare s'.gens) s₁) :
  WalkO q loose XP YP l.row.toRowW d [] (fun f vs=>PySem.call f vs):=by
 intro w s₀ s₁ mg mb G Y fa o pm cd doc dV kV ho hd hcd hD hmg hg args vals as hpre hlay hrd hwl hlo
 obtain rfl:dV=.none:=Dflts.none hD hdf
 obtain rfl:kV=.none:=Dflts.noKw hD
 obtain ⟨a,vs,ns,rfl,rfl,hobj,hints,hlen⟩:=QO hn hpre hwl
 refine enter_call (codeAny_mono (call w s₀ s₁ mg mb fa o pm cd doc a vs ns G Y ho (fd_plain hd) hcd hmg hobj hints hlen hg) fun r s' hq=>?_)
 obtain ⟨rfl,h2,h3,h4⟩:=hq
 exact ⟨.inl ⟨.bool true,.bool true,[],rfl,fun _=>rfl,.bool true,Qj l _,fun _=>⟨List.Pairwise.nil,fun _ hm=>(nomatch hm)⟩⟩,h2,h3,h4⟩
section
variable {prog:Program}{w:World}{A:Around}{E:Value->Shared->Prop}{s:Shared}{K:Frag}
noncomputable def BX (h:Heap)(L d:Addr):List (Addr × Obj):=(List.range h.objs.size).filterMap fun a=>if a=L \/ a=d then none else (h.get? a).map fun o=>(a,o)
end
end Att
namespace L2
open PySem PySem.Spec PyProof.Rows
theorem jD:∀ {vs:List Value} {ns:List Int},IntsAre vs ns->zq (ns.map V.int) vs
 | _,_,.nil=>.nil
 | _,_,.cons n t h=>.cons ⟨t,rfl⟩ (jD h)
noncomputable def Wa (H:Hp):Prop:=∀ b,H b=none \/ ∃ o xs,H b=some (.frz o (.lst xs))
theorem Jb {P:Program}{w:World}{K:PySem.W.Frag}{mg mb:Str->Option Value}{CX:CXT}{k:Nat}{fa a:Addr}{fd:FuncData}{x:Str}{sp:Sp}{s₁:Shared}{vs:List Value}{ns:List Int}
  (KX:K.In s₁.heap) (hns:s₁.heap.Ns mainGlobals mg) (hb:s₁.heap.Ns builtinsNs mb) (hbb:∀ x:Str,x ≠ "__name__"->mb x=bootBuiltins x) (hlim:s₁.heap.NoLimit) (hg:s₁.gens=#[])
  (ha:s₁.heap.get? a=some { cls:=.type "list",data:=.seq vs.toArray }) (hi:IntsAre vs ns) (hl:ns.length<=sizeLine) (hr:qI k callerA)
  (F:∀ base:Heap,K.In base->base.Ns mainGlobals mg->jJ P w K mg base CX k fa fd [x] sp) (hbind:∀ (s:Shared) (u:Value),BindsTo s fd ⟨[u],[]⟩ [(x,u)])
  (hsp:∀ H:Hp,Wa H->SqL K H a (ns.map V.int)->sp [.ref a] H (fun v _=>v=.bl true) fun _ _ _=>False)
  (hCX:∀ H e s',CX [] H s₁ (fun _ _ _=>False) e s'->False) :
  codeAny (model P w) callerA (.call (.ref fa) ⟨[.ref a],[]⟩) (fun r s'=>r=.ok (.ret (.bool true))/\OldK s₁.heap s'.heap/\s'.os=s₁.os/\AllBare s'.gens) s₁:=by
 have rv:=jD hi
 have lenV:=hi.length
 have core:∀ H:Hp,Wa H->SqL K H a (ns.map V.int)->HOk P w H s₁.heap->(∀ b,H b ≠ none->b=a)->(H a ≠ none->K.lookup a=none) ->
   codeAny (model P w) callerA (.call (.ref fa) ⟨[.ref a],[]⟩) (fun r s'=>r=.ok (.ret (.bool true))/\OldK s₁.heap s'.heap/\s'.os=s₁.os/\AllBare s'.gens) s₁:=by
  intro H hO hS hok hA hK
  have base_of:∀ {b:Addr} {o:Obj},s₁.heap.get? b=some o->H b=none->(yo s₁.heap H).get? b=some o:=fun e n=>Xo e n
  have noA:∀ {b:Addr} {o:Obj} {es:Array DictEntry} {ep:Nat},s₁.heap.get? b=some o->o.data=.dict es ep->H b=none:=fun {b o es ep} e d=>by
   cases q:H b with
   | none=>rfl
   | some u=>
    have e':b=a:=hA b (by rw [q];simp)
    subst e'
    rw [ha] at e;cases e
    have d':Data.seq vs.toArray _=Data.dict es ep:=d
    cases d'
  have nsK:∀ {b:Addr} {m:Str->Option Value},s₁.heap.Ns b m->(yo s₁.heap H).Ns b m:=fun {b m} ⟨o,es,ep,e,d,r⟩=>⟨o,es,ep,base_of e (noA e d),d,r⟩
  have hKb:K.In (yo s₁.heap H):=fun b o e=>base_of (KX b o e) (by
   cases q:H b with
   | none=>rfl
   | some u=>
    have e':b=a:=hA b (by rw [q];simp)
    subst e'
    rw [hK (by rw [q];simp)] at e;cases e)
  have hM:Mod K mg (yo s₁.heap H):=⟨hKb,nsK hns,⟨mb,nsK hb,hbb⟩,let ⟨mc,h1,h2⟩:=hlim;⟨mc,nsK h1,h2⟩⟩
  have e0:Yt P w K mg (yo s₁.heap H) callerA [] s₁ H:=⟨rfl,hM,fun b o e=>XN e,Nat.le_of_eq (Qg _ _),trivial,fun b hb=>absurd (show b ∈ ([]:List Addr) from hb) (by simp),hok,.of_eq hg⟩
  refine codeAny_mono ((F _ hKb (nsK hns)).run callerA [] s₁ H ⟨[.ref a],[]⟩ [.ref a] [.ref a] _ _ hr e0 (hbind s₁ (.ref a)) (.cons rfl .nil) (hsp H hO hS)) fun r s' h=>?_
  cases r with
  | error e=>exact (hCX H e s' h).elim
  | ok fl=>
   cases fl with
   | next=>exact False.elim h
   | brk=>exact False.elim h
   | cont=>exact False.elim h
   | ret u=>
    obtain ⟨v,H',os,bare,un,hok',r',q⟩:=h
    have q':v=.bl true:=q
    subst q'
    obtain rfl:u=Value.bool true:=r'
    refine ⟨rfl,OldK.of_keep fun b o e=>?_,os,bare⟩
    cases q:H b with
    | none=>exact un.keep b o e q (by intro z;exact absurd (show b ∈ ([]:List Addr) from z) (by simp)) (by simp)
    | some u=>
     rcases hO b with z | ⟨ob,xs,z⟩
     ·rw [q] at z;cases z
     ·have z2:=un.frzs b ob _ z
      obtain ⟨e1,_⟩:=hok b _ z
      obtain ⟨e2,_⟩:=hok' b _ z2
      rw [e] at e1;cases e1
      exact e2
 cases hk:K.lookup a with
 | some o=>
  have e:=KX a o hk
  rw [ha] at e
  cases e
  refine core (fun _=>none) (fun _=>.inl rfl) (.inr ⟨_,vs.toArray,_,hk,rfl,rfl,rfl,by rw [List.size_toArray,lenV];exact hl,by simpa using rv⟩) (fun b u z=>by have z':(none:Option HO)=some u:=z;cases z') (fun b z=>absurd rfl z) fun z=>absurd rfl z
 | none=>
  refine core (fun b=>if b=a then some (.frz { cls:=.type "list",data:=.seq vs.toArray } (.lst (ns.map V.int))) else none) (fun b=>?_) (.inl (.inr ⟨{ cls:=.type "list",data:=.seq vs.toArray },if_pos rfl⟩)) (fun b u z=>?_) (fun b z=>?_) fun _=>hk
  ·by_cases hb:b=a
   ·exact .inr ⟨_,_,if_pos hb⟩
   ·exact .inl (if_neg hb)
  ·by_cases hb:b=a
   ·have z':=(if_pos hb).symm.trans z
    cases z'
    subst hb
    exact ⟨ha,by rw [List.length_map];exact hl,vs,_,rv,ha⟩
   ·have z':=(if_neg hb).symm.trans z
    cases z'
  ·by_cases hb:b=a
   ·exact hb
   ·exact absurd (if_neg hb) z
noncomputable abbrev KOf {K:PySem.W.Frag}{h:Heap}(_:K.In h):PySem.W.Frag:=K
theorem walk_of {l:PySem.W.OpenLaw}{n k:Nat}{q:Program}{loose:List Str}{XP:(Str->Option Value)->Heap->Prop}{YP:World->Heap->Prop}{d:DefRec}{K:Params->PySem.W.Frag}{CX:World->CXT}{sp:World->Sp}{x:Str}
  (hn:l.most=some n) (hn2:n<=sizeLine) (hdf:d.params.defaults=[]) (hr:qI k callerA)
  (hY:∀ (w:World) (h:Heap),YP w h->(K w.params).In h)
  (F:∀ (w:World) (mg:Str->Option Value) (fa:Addr) (h:Heap),(K w.params).In h->h.Ns mainGlobals mg->mg d.name=some (.ref fa) ->
   ∃ fd:FuncData,(∀ (s:Shared) (u:Value),BindsTo s fd ⟨[u],[]⟩ [(x,u)]) /\
    ∀ base:Heap,(K w.params).In base->base.Ns mainGlobals mg->jJ l.prog w (K w.params) mg base (CX w) k fa fd [x] (sp w))
  (hsp:∀ (w:World) (H:Hp) (a:Addr) (ns:List Int),ns.length<=n->Wa H->SqL (K w.params) H a (ns.map V.int)->sp w [.ref a] H (fun v _=>v=.bl true) fun _ _ _=>False)
  (hCX:∀ (w:World) (H:Hp) (s:Shared) (e:Value) (s':Shared),CX w [] H s (fun _ _ _=>False) e s'->False) :
  PySem.W.WalkO q loose XP YP l.row.toRowW d [] (fun f vs=>PySem.call f vs):=by
 refine Att.attach_call hn hdf fun w s₀ s₁ mg mb fa o pm cd doc a vs ns G Y ho hd hcd hmg hobj hints hlen hg=>?_
 have KX:=hY w _ Y
 obtain ⟨fd,hb,hF⟩:=F w mg fa _ KX G.T.g hmg
 exact Jb KX G.T.g G.T.b G.T.builtins G.T.nolimit hg hobj hints (Nat.le_trans hlen hn2) hr hF hb (fun H hO hS=>hsp w H a ns hlen hO hS) fun H e s'=>hCX w H s₁ e s'
end L2
/- THE LAST THEOREM (shape;LID,My.* are yours):
   My.Adr: a structure of the addresses that your layer names (classes,functions);My.Txt K t: a structure (Prop) of the equations over K;
   My.txt_mk:{K} {implicit addresses ..} (e1:nsIn K mainGlobals "law"=some (some (.ref f))) (e2:K.lookup f=some ⟨oc,od,.func (fnOf "law" "law" params body scope dV kV doc pm an cdv ct),sl⟩) (e3:codeIn K cdv "law"=true) ..:∃ t,My.Txt K t
set_option maxRecDepth 100000 in
set_option maxHeartbeats 0 in
theorem PySem.Challenge.cw_LID_holds:PySem.Challenge.rw_LID.Holds:=by
 w_on;o_law;k_head;(case hw=>w_witness2)
 k_fill
 refine L2.walk_of (l:=PySem.Challenge.rw_LID) (n:=63) (k:=40) (x:="script") (CX:=fun w=>..) (sp:=fun _=>My.sp_law) rfl (by decide) rfl ⟨rfl,by decide,by decide⟩ (fun w h Y=>PySem.W.kIn_of Y) ?F ?S ?C
 case F=>
  intro w mg fa h KX G hmg
  have T:∃ t,My.Txt (L2.KOf KX) t:=by
   dsimp only [L2.KOf]                          -- K must stand as «<heap const> w.params» for k_is
   refine' My.txt_mk ?e1 ?e2 ?e3 ..
   (case e1=>PySem.W.k_is)                    -- in the order: a name->its address->its object->its parts
   (case e2=>PySem.W.k_is)
   ..
  obtain ⟨t,T⟩:=T
  have e0:=hmg.symm.trans (PySem.W.mg_of KX G T.law)
  cases e0                                       -- fa is the law's own address
  exact ⟨_,fun s u=>.of_eq rfl,fun base kb nb=>My.law_fn T kb nb⟩     -- if «.of_eq rfl» comes too early: refine' ⟨_,?b,fun base kb nb=>My.law_fn T kb nb⟩;exact fun s u=>.of_eq rfl
 case S=>exact fun w H a ns hl hO hS=>..
 case C=>exact ..
(the tactic k_is has no namespace: write k_is) -/
namespace L2
open PySem PySem.Spec PyProof.Rows
noncomputable def qC (s:Stmt):Arguments:=match s with
 | .FunctionDef _ a _ _ _ _ _ _ _ _=>a
 | _=>{ posonlyargs:=[],args:=[],vararg:=none,kwonlyargs:=[],kw_defaults:=[],kwarg:=none,defaults:=[] }
noncomputable def qd (s:Stmt):List Stmt:=match s with
 | .FunctionDef _ _ b _ _ _ _ _ _ _=>b
 | _=>[]
noncomputable def zn (s:Stmt):Scope:=match s with
 | .FunctionDef _ _ _ _ _ _ sc _ _ _=>sc
 | _=>{ kind:=.function,names:=[],isGenerator:=false,isCoroutine:=false }
noncomputable abbrev CX0:CXT:=fun _ _ _ _ _ _=>False
noncomputable abbrev E0:XK:=fun _ _ _=>False
theorem AZ {X:Cx}:wU CX0 X E0:=fun _ _ _ _ _ _ _ h=>h.elim
structure Fun (K:PySem.W.Frag)(x qual:Str)(st:Stmt)(f:Addr)(fd:FuncData):Prop where
 ex:∃ (oc:Value) (od:Option Addr) (kV doc pm:Value) (an:Option Addr) (cdv ct:Value) (osl:Array (Option Value)),
  fd=PySem.W.fnOf x qual (qC st) (qd st) (zn st) .none kV doc pm an cdv ct/\K.lookup f=some ⟨oc,od,.func fd,osl⟩/\PySem.W.codeIn K cdv qual=true
 kp:PySem.W.keepIn K (.ref f)=true
section
variable {P:Program}{w:World}{K:PySem.W.Frag}{mg:Str->Option Value}{base:Heap}
theorem Fun.ok {x qual:Str}{st:Stmt}{f:Addr}{fd:FuncData}{N ps:List Str}{k:Nat}{sp:Sp}(F:Fun K x qual st f fd)(S:zJ N ps (zn st))(len:∀ vs H Q E,sp vs H Q E->vs.length=ps.length)
  (hbody:∀ (cdv:Value) (A:Around) (outer:List Env) (s:Shared) (H:Hp) (vs:List V) (Q:VK) (E:XK),qI k (A.deeper (envOfC qual (zn st) s.heap.objs.size f cdv))->sp vs H Q E ->
   ∃ t,PSs (yJ CX0 P w K mg base N qual (zn st) f cdv A outer s H E).nox (qd st) t/\t { nx:=fun _ H'=>Q .non H',rt:=Q } (start N vs) H):jJ P w K mg base CX0 (k+1) f fd ps sp:=by
 obtain ⟨oc,od,kV,doc,pm,an,cdv,ct,osl,rfl,lk,hcd⟩:=F.ex
 refine AX lk hcd S len fun A outer s H vs Q E hr hsp=>?_
 obtain ⟨t,h,q⟩:=hbody cdv A outer s H vs Q E hr hsp
 exact ⟨t,h.nox,q⟩
theorem Fun.binds {x qual:Str}{st:Stmt}{f:Addr}{fd:FuncData}{ps:List Str}(F:Fun K x qual st f fd)
  (h:∀ (kV doc pm:Value) (an:Option Addr) (cdv ct:Value) (us:List Value),us.length=ps.length->bindArgs (PySem.W.fnOf x qual (qC st) (qd st) (zn st) .none kV doc pm an cdv ct) ⟨us,[]⟩=pure (ps.zip us)):xB K fd ps []:=by
 obtain ⟨oc,od,kV,doc,pm,an,cdv,ct,osl,rfl,lk,hcd⟩:=F.ex
 exact .all (h kV doc pm an cdv ct)
theorem JY {x qual:Str}{st:Stmt}{f:Addr}{oc:Value}{od an:Option Addr}{osl:Array (Option Value)}{kV doc pm cdv ct:Value}(l:K.lookup f=some ⟨oc,od,.func (PySem.W.fnOf x qual (qC st) (qd st) (zn st) .none kV doc pm an cdv ct),osl⟩)
  (c:PySem.W.codeIn K cdv qual=true) (k:PySem.W.keepIn K (.ref f)=true):Fun K x qual st f (PySem.W.fnOf x qual (qC st) (qd st) (zn st) .none kV doc pm an cdv ct):=⟨⟨oc,od,kV,doc,pm,an,cdv,ct,osl,rfl,l,c⟩,k⟩
end
theorem jP {A:Around}{k:Nat}(hr:qI k A):A.units+1<cLine:=Nat.lt_of_le_of_lt (Nat.add_le_add_left (by decide:1<=64) _) hr.units
section
variable {X:Cx}
theorem pv (i:Nat){x:Str}{pos:Pos}(hN:X.N[i]?=some x:=by rfl)(hv:Vis X.env.scope x:=by first | exact Or.inl rfl | exact Or.inr (Or.inl rfl) | exact Or.inr (Or.inr rfl))(hd:(x == ("__debug__":Str))=false:=by decide)
  (hcd:(x == ("__classdict__":Str))=false:=by decide):PE X (.Name x pos) (Yc i):=VA hN hv hd hcd
end
theorem Bp {c A B:Prop}[Decidable c](h1:c->A)(h2:¬ c->B):if c then A else B:=by
 by_cases h:c
 ·rw [if_pos h]
  exact h1 h
 ·rw [if_neg h]
  exact h2 h
section
variable {κ:Type}[DecidableEq κ]
noncomputable def jU (kvs:List (κ × V))(k:κ):Option V:=(kvs.find? fun kv=>decide (kv.1=k)).map (·.2)
noncomputable def jq (kvs:List (κ × V))(k:κ)(v:V):List (κ × V):=
 if (kvs.any fun kv=>decide (kv.1=k))=true then kvs.map (fun kv=>if kv.1=k then (kv.1,v) else kv) else kvs ++ [(k,v)]
theorem ke {p:κ × V}{r:List (κ × V)}{k:κ}(e:p.1=k):jU (p :: r) k=some p.2:=by simp [jU,List.find?_cons,e]
theorem ka {p:κ × V}{r:List (κ × V)}{k:κ}(e:¬ p.1=k):jU (p :: r) k=jU r k:=by simp [jU,List.find?_cons,e]
theorem va (k:κ):∀ kvs:List (κ × V),(kvs.any fun kv=>decide (kv.1=k))=(jU kvs k).isSome
 | []=>rfl
 | p :: r=>by
  rw [List.any_cons]
  by_cases e:p.1=k
  ·simp only [ke e,decide_eq_true e,Bool.true_or,Option.isSome_some]
  ·rw [ka e,decide_eq_false e,Bool.false_or];exact va k r
theorem jj (kvs:List (κ × V))(k:κ)(v:V):(jq kvs k v).length<=kvs.length+1:=by
 unfold jq
 split
 ·rw [List.length_map];omega
 ·rw [List.length_append,List.length_cons,List.length_nil];omega
theorem xt.isSome_eq {o:Option V}{u:Option Value}(r:xt o u):o.isSome=u.isSome:=by
 cases o with
 | none=>cases u with
  | none=>rfl
  | some _=>exact (show False from r).elim
 | some _=>cases u with
  | none=>exact (show False from r).elim
  | some _=>rfl
theorem KV.val {kvs:List (κ × V)}{vs:List (κ × Value)}(r:KV kvs vs)(k:κ):xt (jU kvs k) (valueAt vs k):=by
 unfold KV at r
 induction r with
 | nil=>exact True.intro
 | @cons p q ps qs h t ih=>
  obtain ⟨h1,h2⟩:=h
  by_cases e:p.1=k
  ·have e':q.1=k:=h1.symm.trans e
   have b:valueAt (q :: qs) k=some q.2:=by simp [valueAt,List.find?_cons,e']
   rw [ke e,b];exact h2
  ·have e':¬ q.1=k:=fun z=>e (h1.trans z)
   have b:valueAt (q :: qs) k=valueAt qs k:=by simp [valueAt,List.find?_cons,e']
   rw [ka e,b];exact ih
theorem KV.any {kvs:List (κ × V)}{vs:List (κ × Value)}(r:KV kvs vs)(k:κ):(kvs.any fun kv=>decide (kv.1=k))=vs.any fun kv=>decide (kv.1=k):=by
 unfold KV at r
 induction r with
 | nil=>rfl
 | cons h t ih=>rw [List.any_cons,List.any_cons,ih,h.1]
theorem KV.repl {kvs:List (κ × V)}{vs:List (κ × Value)}(r:KV kvs vs)(k:κ){y:V}{u:Value}(ry:zp y u) :
  KV (kvs.map fun kv=>if kv.1=k then (kv.1,y) else kv) (vs.map fun kv=>if kv.1=k then (kv.1,u) else kv):=by
 unfold KV at r ⊢
 induction r with
 | nil=>exact .nil
 | @cons p q ps qs h t ih=>
  rw [List.map_cons,List.map_cons]
  refine .cons ?_ ih
  obtain ⟨h1,h2⟩:=h
  by_cases e:p.1=k
  ·rw [if_pos e,if_pos (h1.symm.trans e)];exact ⟨h1,ry⟩
  ·rw [if_neg e,if_neg (fun z=>e (h1.trans z))];exact ⟨h1,h2⟩
theorem KV.put {kvs:List (κ × V)}{vs:List (κ × Value)}(r:KV kvs vs)(k:κ){y:V}{u:Value}(ry:zp y u):KV (jq kvs k y) (stored vs k u):=by
 unfold jq stored
 rw [r.any k]
 by_cases e:(vs.any fun kv=>decide (kv.1=k))=true
 ·rw [if_pos e,if_pos e];exact r.repl k ry
 ·rw [if_neg e,if_neg e];exact Paired.snoc r ⟨rfl,ry⟩
theorem KV.length {kvs:List (κ × V)}{vs:List (κ × Value)}(r:KV kvs vs):kvs.length=vs.length:=Paired.length r
end
theorem Zv {P:Program}{w:World}{k:Key}{u:Value}(r:zp (kV k) u):(zG P w).is k u=true:=by
 cases k with
 | inl i=>obtain ⟨t,e⟩:=(show ∃ t,u=Value.int i t from r);subst e;exact yX P w i t
 | inr x=>obtain ⟨t,e⟩:=(show ∃ t,u=Value.str x t from r);subst e;exact vT P w x t
theorem xy {P:Program}{w:World}:∀ {ks:List Key} {us:List Value},zq (ks.map kV) us->ItemsAre (zG P w) ks us
 | [],_,r=>by rw [List.map_nil] at r;cases r;exact .nil
 | k :: ks,_,r=>by
  rw [List.map_cons] at r
  cases r with
  | cons h t=>exact .cons (Zv h) (xy t)
noncomputable abbrev KT (H:Hp):List (List Key × V)->List (List Key × Addr × Value)->Prop:=Paired fun p q=>p.1=q.1/\H q.2.1=some (.tup (p.1.map kV))/\zp p.2 q.2.2
theorem KT.val {H:Hp}{kvs:List (List Key × V)}{xs:List (List Key × Addr × Value)}(r:KT H kvs xs)(k:List Key):xt (jU kvs k) ((atKey xs k).map (·.2)):=by
 induction r with
 | nil=>exact True.intro
 | @cons p q ps qs h t ih=>
  obtain ⟨h1,_,h2⟩:=h
  by_cases e:p.1=k
  ·have e':q.1=k:=h1.symm.trans e
   have b:atKey (q :: qs) k=some q.2:=by simp [atKey,List.find?_cons,e']
   rw [ke e,b];exact h2
  ·have e':¬ q.1=k:=fun z=>e (h1.trans z)
   have b:atKey (q :: qs) k=atKey qs k:=by simp [atKey,List.find?_cons,e']
   rw [ka e,b];exact ih
theorem KT.repl {H:Hp}{kvs:List (List Key × V)}{xs:List (List Key × Addr × Value)}(r:KT H kvs xs)(k:List Key){y:V}{u:Value}(ry:zp y u) :
  KT H (kvs.map fun kv=>if kv.1=k then (kv.1,y) else kv) (xs.map (putAt k u)):=by
 induction r with
 | nil=>exact .nil
 | @cons p q ps qs h t ih=>
  rw [List.map_cons,List.map_cons]
  refine .cons ?_ ih
  obtain ⟨h1,h2,h3⟩:=h
  unfold putAt
  by_cases e:p.1=k
  ·rw [if_pos e,if_pos (h1.symm.trans e)];exact ⟨h1,h2,ry⟩
  ·rw [if_neg e,if_neg (fun z=>e (h1.trans z))];exact ⟨h1,h2,h3⟩
theorem KT.put {H:Hp}{kvs:List (List Key × V)}{xs:List (List Key × Addr × Value)}(r:KT H kvs xs)(k:List Key){b:Addr}{y:V}{u:Value}(hb:H b=some (.tup (k.map kV)))(ry:zp y u) :
  KT H (jq kvs k y) (storedH xs k b u):=by
 have e:(kvs.any fun kv=>decide (kv.1=k))=(atKey xs k).isSome:=by
  rw [va,(r.val k).isSome_eq,Option.isSome_map]
 unfold jq storedH
 rw [e]
 by_cases q:(atKey xs k).isSome=true
 ·rw [if_pos q,if_pos q];exact r.repl k ry
 ·rw [if_neg q,if_neg q];exact Paired.snoc r ⟨rfl,hb,ry⟩
theorem KT.keeps {H H':Hp}{kvs:List (List Key × V)}{xs:List (List Key × Addr × Value)}(r:KT H kvs xs)(ht:∀ b ys,H b=some (.tup ys)->H' b=some (.tup ys)):KT H' kvs xs:=
 Paired.mapP r fun _ _ z=>⟨z.1,ht _ _ z.2.1,z.2.2⟩
section
variable {P:Program}{w:World}{H:Hp}{h:Heap}{a:Addr}
theorem Vt {u:HO}(ok:HOk P w H h)(e:Rd H a u):zE P w H h a u:=e.ok ok
theorem Z2 {kvs:List (Key × V)}(ok:HOk P w H h)(e:Rd H a (.dK kvs)):kvs.length<=sizeLine/\(a == sysModules)=false/\∃ vs,KV kvs vs/\h.DictOf (zG P w) a vs:=
 show zE P w H h a (.dK kvs) from Vt ok e
theorem BF {kvs:List (Key × V)}(ok:HOk P w H h)(e:H a=some (.dK kvs)):kvs.length<=sizeLine/\(a == sysModules)=false/\∃ vs,KV kvs vs/\h.DictOf (zG P w) a vs:=Z2 ok (.inl e)
theorem kX {ks:List Key}(ok:HOk P w H h)(e:H a=some (.tup (ks.map kV))):(tupleKind (zG P w)).is h ks a:=by
 obtain ⟨_,its,r,o,h1,h2,⟨n,h3⟩,_⟩:=(show zE P w H h a (.tup (ks.map kV)) from ok a _ e)
 exact ⟨o,its.toArray,n,h1,h2,h3,by simpa using xy r⟩
theorem ZO {kvs:List (List Key × V)}(ok:HOk P w H h)(e:Rd H a (.dT kvs)):kvs.length<=sizeLine/\(a == sysModules)=false /\
  ∃ xs,KT H kvs xs/\h.DictOfH (tupleKind (zG P w)) a xs:=by
 obtain ⟨z,y,xs,r,o,es,ep,h1,h2,h3,h4,h5⟩:=(show zE P w H h a (.dT kvs) from Vt ok e)
 refine ⟨z,y,xs,r,o,es,ep,h1,h2,h3,h4,fun x hx=>?_,h5⟩
 have all:∀ {l:List (List Key × V)} {m:List (List Key × Addr × Value)},KT H l m->∀ x ∈ m,(tupleKind (zG P w)).is h x.1 x.2.1:=by
  intro l m q
  induction q with
  | nil=>intro x hx;exact nomatch hx
  | @cons p q ps qs hq t ih=>
   intro x hx
   rcases List.mem_cons.mp hx with e | hx
   ·subst e
    exact kX ok (by rw [<- hq.1];exact hq.2.1)
   ·exact ih x hx
 exact all r x hx
theorem Y7 {kvs:List (List Key × V)}(ok:HOk P w H h)(e:H a=some (.dT kvs)):kvs.length<=sizeLine/\(a == sysModules)=false /\
  ∃ xs,KT H kvs xs/\h.DictOfH (tupleKind (zG P w)) a xs:=ZO ok (.inl e)
end
noncomputable def xx (H:Hp)(a:Addr)(y:V)(r:Option V):Prop:=
 (∃ kvs k,Rd H a (.dK kvs)/\y=kV k/\r=jU kvs k) \/ ∃ kvs k b,Rd H a (.dT kvs)/\y=.ref b/\H b=some (.tup (k.map kV))/\r=jU kvs k
noncomputable def Xe (H:Hp)(a:Addr)(y v:V)(H':Hp):Prop:=
 (∃ kvs k,H a=some (.dK kvs)/\y=kV k/\kvs.length<sizeLine/\H'=upd H a (.dK (jq kvs k v))) \/
 ∃ kvs k b,H a=some (.dT kvs)/\y=.ref b/\H b=some (.tup (k.map kV))/\kvs.length<sizeLine/\H'=upd H a (.dT (jq kvs k v))
theorem xx.t {H:Hp}{a b:Addr}{kvs:List (List Key × V)}{k:List Key}(e:H a=some (.dT kvs))(eb:H b=some (.tup (k.map kV))):xx H a (.ref b) (jU kvs k):=.inr ⟨kvs,k,b,.inl e,rfl,eb,rfl⟩
theorem Xe.t {H:Hp}{a b:Addr}{kvs:List (List Key × V)}{k:List Key}{v:V}(e:H a=some (.dT kvs))(eb:H b=some (.tup (k.map kV)))(hl:kvs.length<sizeLine) :
  Xe H a (.ref b) v (upd H a (.dT (jq kvs k v))):=.inr ⟨kvs,k,b,e,rfl,eb,hl,rfl⟩
section
variable {X:Cx}{pins:List (Addr × Obj)}{σ:St}{H:Hp}{s:Shared}{a:Addr}{y v:V}{u r:Value}{o:Option V}{A:Around}{E:Value->Shared->Prop}
theorem Inv.big (I:Inv X pins σ H s):sysModules<s.heap.objs.size:=by
 have h:mainGlobals<s.heap.objs.size:=(I.mod.glob.keeps I.bk).lt
 exact Nat.lt_trans (by decide) h
theorem Qi {Q:Value->Shared->Prop}(hu:A.units+1<cLine)(I:Inv X pins σ H s)(g:xx H a y (some v))(ry:zp y u)(h:∀ w' s',Inv X pins σ H s'->zp v w'->Q w' s') :
  wpAny (model X.prog X.w) A (getItem (.ref a) u) Q E s:=by
 rcases g with ⟨kvs,k,e,ey,l⟩ | ⟨kvs,k,b,e,ey,eb,l⟩
 ·subst ey
  obtain ⟨z,hd,vs,rel,dd⟩:=Z2 I.hok e
  obtain ⟨w',hw,rw'⟩:=xt.some_of (v:=v) (o:=valueAt vs k) (by rw [l];exact rel.val k)
  exact wpAny_getItem_of (Zv ry) dd.mapOf hw (h w' _ (I.tok _) rw')
 ·subst ey
  cases (show u=Value.ref b from ry)
  obtain ⟨z,hd,xs,rel,dd⟩:=ZO I.hok e
  obtain ⟨w',hw,rw'⟩:=xt.some_of (v:=v) (o:=(atKey xs k).map (·.2)) (by rw [l];exact rel.val k)
  obtain ⟨p,hp,hp2⟩:=Option.map_eq_some_iff.mp hw
  refine wpAny_getItem_heap (tupleKind_room_in1 hu) (kX I.hok eb) dd hp ?_
  rw [hp2]
  exact h w' _ (I.tok _) rw'
theorem XQ {Q:Value->Shared->Prop}(hu:A.units+1<cLine)(I:Inv X pins σ H s)(g:xx H a y o)(ry:zp y u)(h:∀ s',Inv X pins σ H s'->Q (.bool (!o.isSome)) s') :
  wpAny (model X.prog X.w) A (compareOp .NotIn u (.ref a)) Q E s:=by
 rcases g with ⟨kvs,k,e,ey,l⟩ | ⟨kvs,k,b,e,ey,eb,l⟩
 ·subst ey
  obtain ⟨z,hd,vs,rel,dd⟩:=Z2 I.hok e
  refine wpAny_notIn_of (Zv ry) hd dd.mapOf ?_
  rw [<- (rel.val k).isSome_eq,<- l]
  exact h _ (I.tok _)
 ·subst ey
  cases (show u=Value.ref b from ry)
  obtain ⟨z,hd,xs,rel,dd⟩:=ZO I.hok e
  refine wpAny_notIn_heap (tupleKind_room_in1 hu) (kX I.hok eb) hd dd ?_
  have q:=(rel.val k).isSome_eq
  rw [Option.isSome_map] at q
  rw [<- q,<- l]
  exact h _ (I.tok _)
theorem yr {h':Heap}{t':Nat}{ob:HO}(I:Inv X pins σ H s)(mu:Mut (H a))(hs:Heap.SameBut a s.heap h')(he:∃ q,h'.get? a=some q)(new:zE X.prog X.w (upd H a ob) h' a ob) :
  Inv X pins σ (upd H a ob) { s with heap:=h',toks:=t' }:=
 I.write (x:=a) (e:=a) mu (.inl rfl) (fun b q hb z=>(hs.2 b hb).trans z) he new
theorem WC {P:Program}{w:World}{H':Hp}{h':Heap}{kvs:List (Key × V)}{vs:List (Key × Value)}(z:kvs.length<=sizeLine)(hd:(a == sysModules)=false)(rel:KV kvs vs)(dd:h'.DictOf (zG P w) a vs) :
  zE P w H' h' a (.dK kvs):=⟨z,hd,vs,rel,dd⟩
theorem Qd {H':Hp}{Q:Unit->Shared->Prop}(hu:A.units+1<cLine)(I:Inv X pins σ H s)(g:Xe H a y v H')(ry:zp y u)(rv:zp v r)(h:∀ s',Inv X pins σ H' s'->Q () s') :
  wpAny (model X.prog X.w) A (setItem (.ref a) u r) Q E s:=by
 rcases g with ⟨kvs,k,e,ey,l,eH⟩ | ⟨kvs,k,b,e,ey,eb,l,eH⟩
 ·subst ey eH
  obtain ⟨z,hd,vs,rel,dd⟩:=BF I.hok e
  have hz:vs.length<=sizeLine:=by rw [<- rel.length];exact z
  have hl:(jq kvs k v).length<=sizeLine:=by have:=jj kvs k v;omega
  refine wpAny_setItem_pairs (hsz:=hz) (Zv ry) dd fun h' dd' hs=>h _ ?_
  have he:∃ q,h'.get? a=some q:=let ⟨q,_,_,hq,_⟩:=dd';⟨q,hq⟩
  exact yr I (by rw [e];exact True.intro) hs he (WC hl hd (rel.put k rv) dd')
 ·subst ey eH
  cases (show u=Value.ref b from ry)
  obtain ⟨z,hd,xs,rel,dd⟩:=Y7 I.hok e
  have hz:xs.length<=sizeLine:=by rw [<- Paired.length rel];exact z
  have hl:(jq kvs k v).length<=sizeLine:=by have:=jj kvs k v;omega
  refine wpAny_setItem_heap (hsz:=hz) (tupleKind_room_in1 hu) (kX I.hok eb) dd fun h' dd' hs=>h _ ?_
  obtain ⟨q,es,ep,hq,h2,h3,h4,_,h5⟩:=dd'
  refine yr I (by rw [e];exact True.intro) hs ⟨q,hq⟩ ⟨hl,hd,_,(rel.put k eb rv).keeps fun c ys ec=>?_,q,es,ep,hq,h2,h3,h4,h5⟩
  rw [zg (xC ec e (fun z=>nomatch z))]
  exact ec
end
section
variable {X:Cx}{pins:List (Addr × Obj)}{σ:St}{H:Hp}{s:Shared}{a:Addr}{kvs:List (Key × V)}{k:Key}{u:Value}{A:Around}{E:Value->Shared->Prop}
end
noncomputable def Bw (i:Expr):Prop:=∀ ov iv,subscripted i false ov iv=operate [ov,iv] (getItem ov iv)
theorem XA {prog:Program}{w:World}{A:Around}{E:Value->Shared->Prop}{s:Shared}{env:Env}{value slice:Expr}{pos:Pos}{T id:String}{Q:Value->Shared->Prop}
  (hl:typeLookup (.type T) "__getitem__"=pure (some (.builtin id))) (hs:Bw slice)
  (h:wpAny (model prog w) A (eval value env) (fun o s₁=>wpAny (model prog w) A (eval slice env) (fun i s₂=>s₂.TypeIs o T/\wpAny (model prog w) A (getItem o i) Q E s₂) E s₁) E s) :
  wpAny (model prog w) A (eval (.Subscript value slice pos) env) Q E s:=by
 refine Subscript_ (wpAny_mono h (fun o s₁ h₁=>wpAny_mono h₁ (fun i s₂ h₂=>?_) fun _ _ x=>x) fun _ _ x=>x)
 obtain ⟨hT,h₂⟩:=h₂
 unfold subscriptTail
 refine wpAny_bind ?_
 rw [getitemInPython_of_ne hT.not_modules]
 refine wpAny_bind (wpAny_specialOf hT hl ?_)
 have fin:wpAny (model prog w) A (subscripted slice false o i) (fun r s₃=>wpAny (model prog w) A (letTemporaryGo value o r >>= fun _=>pure r) Q E s₃) E s₂:=by
  rw [hs o i]
  exact wpAny_operating (wpAny_mono h₂ (fun r s₃ h₃=>wpAny_bind (wpAny_letTemporaryGo (wpAny_pure h₃))) fun _ _ x=>x)
 first
  | exact wpAny_pure (wpAny_bind fin)
  | exact wpAny_bind (wpAny_pure (wpAny_bind fin))
  | exact wpAny_bind fin
theorem v5 {X:Cx}{pins:List (Addr × Obj)}{σ:St}{H:Hp}{s:Shared}{a:Addr}{y:V}{o:Option V}(I:Inv X pins σ H s)(g:xx H a y o):s.TypeIs (.ref a) "dict":=by
 rcases g with ⟨kvs,k,e,_,_⟩ | ⟨kvs,k,b,e,_,_,_⟩
 ·obtain ⟨_,_,vs,_,dd⟩:=Z2 I.hok e
  exact dd.typeIs
 ·obtain ⟨_,_,xs,_,dd⟩:=ZO I.hok e
  exact dd.typeIs
noncomputable def KW (td ty:TE):TE:=fun σ H Q=>td σ H fun x H1=>ty σ H1 fun y H2=>∃ a v,x=.ref a/\xx H2 a y (some v)/\Q v H2
noncomputable def ya (ty td:TE):TE:=fun σ H Q=>ty σ H fun y H1=>td σ H1 fun x H2=>∃ a o,x=.ref a/\xx H2 a y o/\Q (.bl (!o.isSome)) H2
noncomputable def Jc (td ty tv:TE):TS:=fun D σ H=>tv σ H fun v H1=>td σ H1 fun x H2=>ty σ H2 fun y H3=>∃ a H4,x=.ref a/\Xe H3 a y v H4/\D.nx σ H4
section
variable {X:Cx}{o i e value:Expr}{pos pos' tpos:Pos}{td ty tv:TE}
theorem j8 (hu:X.A.units+1<cLine)(ho:PE X o td)(hi:PE X i ty)(hs:Bw i):PE X (.Subscript o i pos) (KW td ty):=by
 intro pins s σ H Q I h
 refine XA PySem.F.slot_dict_getitem.lookup hs (thn (ho pins s σ H _ I h) fun u s1 ⟨x,H1,I1,rx,q1⟩=>thn (hi pins s1 σ H1 _ I1 q1) fun iv s2 ⟨y,H2,I2,ry,a,v,ex,g,q2⟩=>?_)
 subst ex
 obtain rfl:u=Value.ref a:=rx
 exact ⟨v5 I2 g,Qi hu I2 g ry fun w' s3 I3 rw'=>⟨v,H2,I3,rw',q2⟩⟩
theorem xT (hu:X.A.units+1<cLine)(hi:PE X i ty)(ho:PE X o td):PC X .NotIn i o (ya ty td):=by
 intro pins s σ H Q I h
 refine thn (hi pins s σ H _ I h) fun iv s1 ⟨y,H1,I1,ry,q1⟩=>thn (ho pins s1 σ H1 _ I1 q1) fun u s2 ⟨x,H2,I2,rx,a,ov,ex,g,q2⟩=>?_
 subst ex
 obtain rfl:u=Value.ref a:=rx
 exact XQ hu I2 g ry fun s3 I3=>⟨.bl (!ov.isSome),H2,I3,rfl,q2⟩
theorem XB (hu:X.A.units+1<cLine)(ho:PE X o td)(hi:PE X i ty)(hv:PE X value tv)(hs:swapsWith value (some (.Subscript o i pos')) pos.line X.env=pure false) :
  PS X (.Assign [.Subscript o i pos'] value pos) (Jc td ty tv):=by
 intro pins s σ H D I h
 refine wpAny_Assign_Subscript (thn (hv pins s σ H _ I h) fun r s1 ⟨v,H1,I1,rv,q1⟩=>thn (ho pins s1 σ H1 _ I1 q1) fun u s2 ⟨x,H2,I2,rx,q2⟩=>thn (hi pins s2 σ H2 _ I2 q2) fun iv s3 ⟨y,H3,I3,ry,a,H4,ex,g,q3⟩=>?_) hs
 subst ex
 obtain rfl:u=Value.ref a:=rx
 exact Qd hu I3 g ry rv fun s4 I4=>⟨σ,H4,I4,q3⟩
end
theorem vC {P:Program}{w:World}{H:Hp}(h:Heap)(hb:sysModules<h.objs.size):zE P w H (h.push { cls:=.type "dict",data:=.dict #[] }) h.objs.size (.dT []):=
 ⟨Nat.zero_le _,beq_eq_false_iff_ne.mpr (Ne.symm (Nat.ne_of_lt hb)),[],.nil,_,#[],0,Heap.get?_push_size _ rfl,⟨rfl,rfl,rfl⟩,rfl,rfl,List.nodup_nil⟩
section
variable {X:Cx}{pos:Pos}
end
noncomputable def yf:List (TE × TE)->St->Hp->(List (V × V)->Hp->Prop)->Prop
 | [],_,H,Q=>Q [] H
 | (tk,tv) :: r,σ,H,Q=>tk σ H fun x H1=>tv σ H1 fun y H2=>yf r σ H2 fun ps H3=>Q ((x,y) :: ps) H3
noncomputable abbrev VV:List (V × V)->List (Value × Value)->Prop:=Paired fun p q=>zp p.1 q.1/\zp p.2 q.2
noncomputable def PPs (X:Cx)(pos:Pos)(keys:List (Option Expr))(values:List Expr)(trs:List (TE × TE)):Prop:=
 ∀ (pins:List (Addr × Obj)) (s:Shared) (σ:St) (H:Hp) (Q:List (V × V)->Hp->Prop),Inv X pins σ H s->yf trs σ H Q ->
  wpAny (model X.prog X.w) X.A (evalPairs (pairTrees keys values X.env pos)) (fun vs s'=>∃ ps H',Inv X pins σ H' s'/\VV ps vs/\Q ps H') X.xe s
theorem YT {X:Cx}{pos:Pos}:PPs X pos [] [] []:=fun pins s σ H Q I h=>pairTrees_nil_walk ⟨[],H,I,.nil,h⟩
theorem J3 {X:Cx}{pos:Pos}{k v:Expr}{ks:List (Option Expr)}{vs:List Expr}{tk tv:TE}{trs:List (TE × TE)}(hk:PE X k tk)(hv:PE X v tv)(hr:PPs X pos ks vs trs) :
  PPs X pos (some k :: ks) (v :: vs) ((tk,tv) :: trs):=fun pins s σ H Q I h=>
 pairTrees_cons_walk (thn (hk pins s σ H _ I h) fun u s1 ⟨x,H1,I1,rx,q1⟩=>thn (hv pins s1 σ H1 _ I1 q1) fun w2 s2 ⟨y,H2,I2,ry,q2⟩=>
  thn (hr pins s2 σ H2 _ I2 q2) fun ws s3 ⟨ps,H3,I3,rel,q3⟩=>⟨(x,y) :: ps,H3,I3,.cons ⟨rx,ry⟩ rel,q3⟩)
structure M1 (X:Cx)(o:Expr)(m:Str)(apos:Pos)(e:Expr)(cpos:Pos):Prop where
 base:attributeBase o m X.env (eval o X.env)=eval o X.env
 few:((backTo cpos (starEach [e] X.env)).all (fun x=>!x.1) && (backToKw cpos (keywordEach [] X.env)).all (fun x=>x.1.isSome)
  && decide (([e]:List Expr).length+([]:List Keyword).length+(if ([]:List Keyword).isEmpty then 0 else 1)<30))=true
 line:(apos.endLine == cpos.line)=true
 trees:backTo cpos (starEach [e] X.env)=[(false,eval e X.env)]
structure M2 (X:Cx)(o:Expr)(m:Str)(apos:Pos)(e f:Expr)(cpos:Pos):Prop where
 base:attributeBase o m X.env (eval o X.env)=eval o X.env
 few:((backTo cpos (starEach [e,f] X.env)).all (fun x=>!x.1) && (backToKw cpos (keywordEach [] X.env)).all (fun x=>x.1.isSome)
  && decide (([e,f]:List Expr).length+([]:List Keyword).length+(if ([]:List Keyword).isEmpty then 0 else 1)<30))=true
 line:(apos.endLine == cpos.line)=true
 trees:backTo cpos (starEach [e,f] X.env)=[(false,eval e X.env),(false,eval f X.env)]
section
variable {X:Cx}{pins:List (Addr × Obj)}{σ:St}{H:Hp}{s:Shared}{a:Addr}{y d:V}{u r:Value}{o:Option V}{A:Around}{E:Value->Shared->Prop}
end
section
variable {X:Cx}{o e f:Expr}{apos cpos:Pos}{td ty tx:TE}
end
section
variable {X:Cx}{pins:List (Addr × Obj)}{σ:St}{H:Hp}{s:Shared}{a:Addr}{kvs:List (Key × V)}{A:Around}{E:Value->Shared->Prop}
end
section
variable {X:Cx}{pins:List (Addr × Obj)}{σ:St}{H:Hp}{s:Shared}{a:Addr}{y:V}{u:Value}{A:Around}{E:Value->Shared->Prop}
end
section
variable {κ:Type}[DecidableEq κ]
end
end L2
set_option Elab.async false
set_option linter.all false
set_option maxRecDepth 100000
set_option maxHeartbeats 4000000
namespace L2
open PySem PySem.Spec PyProof.Rows
noncomputable def vK (N:List Str)(ts:List Nat)(sc:Scope)(kind:Str->Option NameKind):Bool:=
 sc.kind == .function && sc.names.all (fun y=>y.2 != .cell && (y.2 != .local || sc.names.lookup y.1 == some .local) && (y.2 != .free || kind y.1 == some .cell || kind y.1 == some .free)) &&
  N.zipIdx.all (fun p=>sc.names.lookup p.1 != some .local || ts.contains p.2)
noncomputable def qe (cells:List (Str × Addr)):List (Str × NameKind)->List (Str × Addr)->List (Str × Addr)
 | [],acc=>acc
 | (n,k) :: r,acc=>qe cells r (if k=.free then (n,(cells.lookup n).getD 0) :: acc else acc)
theorem yd {env:Env}:∀ (names:List (Str × NameKind)) (acc:List (Str × Addr)),(∀ y ∈ names,y.2=.free->∃ c,env.cells.lookup y.1=some c) ->
  (forIn names acc fun (x:Str × NameKind) (cs:List (Str × Addr))=>(match x with | (name,kind)=>if (kind == NameKind.free)=true then (do let c <- cellOf env name;pure (ForInStep.yield ((name,c) :: cs))) else pure (ForInStep.yield cs):Sem (ForInStep (List (Str × Addr)))))=pure (qe env.cells names acc)
 | [],acc,_=>rfl
 | (n,k) :: r,acc,h=>by
  rw [List.forIn_cons]
  by_cases hk:k=.free
  ·subst hk
   obtain ⟨c,hc⟩:=h (n,.free) List.mem_cons_self rfl
   have e1:cellOf env n=pure c:=by unfold cellOf;rw [hc]
   simp only [beq_self_eq_true,if_true,e1,pure_bind]
   rw [yd r _ fun y hy=>h y (List.mem_cons_of_mem _ hy)]
   show _=pure (qe env.cells r (if NameKind.free=.free then _ else _))
   rw [if_pos rfl,hc];rfl
  ·have hb:(k == NameKind.free)=false:=by simpa using hk
   simp only [hb,Bool.false_eq_true,if_false,pure_bind]
   rw [yd r _ fun y hy=>h y (List.mem_cons_of_mem _ hy)]
   show _=pure (qe env.cells r (if k=.free then _ else _))
   rw [if_neg hk]
theorem kD {cells : List (Str × Addr)} : ∀ (names : List (Str × NameKind)) (acc : List (Str × Addr)), (∀ y ∈ names, y.2 = .free -> ∃ c, cells.lookup y.1 = some c) -> (∀ x c, acc.lookup x = some c -> cells.lookup x = some c) ->
    (∀ x c,(qe cells names acc).lookup x=some c->cells.lookup x=some c)/\(∀ x c,acc.lookup x=some c->∃ c',(qe cells names acc).lookup x=some c')/\∀ y ∈ names,y.2=.free->∃ c,(qe cells names acc).lookup y.1=some c
  | [],acc,_,h2=>⟨h2,fun x c e=>⟨c,e⟩,fun y hy=>nomatch hy⟩
  | (n,k) :: r,acc,h1,h2=>by
    by_cases hk:k=.free
    · subst hk
      obtain ⟨c,hc⟩:=h1 (n,.free) List.mem_cons_self rfl
      have hc:cells.lookup n=some c:=hc
      have e:qe cells ((n,.free) :: r) acc=qe cells r ((n,c) :: acc):=by
        show qe cells r (if NameKind.free=.free then _ else _)=_
        rw [if_pos rfl,hc];rfl
      rw [e]
      obtain ⟨q1,q2,q3⟩:=kD (cells:=cells) r ((n,c) :: acc) (fun y hy=>h1 y (List.mem_cons_of_mem _ hy)) (fun x c' e'=>by
        rw [List.lookup_cons] at e'
        cases hx:x == n with
        | true => rw [hx] at e'; have : x = n := by simpa using hx
                  subst this;cases e';exact hc
        | false=>rw [hx] at e';exact h2 x c' e')
      refine ⟨q1,fun x c' e'=>?_,fun y hy hf=>?_⟩
      · cases hx:x == n with
        | true=>exact q2 x c (by rw [List.lookup_cons,hx])
        | false=>exact q2 x c' (by rw [List.lookup_cons,hx];exact e')
      · rcases List.mem_cons.mp hy with rfl | hy
        · exact q2 n c (by rw [List.lookup_cons,beq_self_eq_true])
        · exact q3 y hy hf
    · have e : qe cells ((n, k) :: r) acc = qe cells r acc := by
        show qe cells r (if k=.free then _ else _)=_
        rw [if_neg hk]
      rw [e]
      obtain ⟨q1,q2,q3⟩:=kD (cells:=cells) r acc (fun y hy=>h1 y (List.mem_cons_of_mem _ hy)) h2
      refine ⟨q1,q2,fun y hy hf=>?_⟩
      rcases List.mem_cons.mp hy with rfl | hy
      · exact absurd hf hk
      · exact q3 y hy hf
theorem kZ {scope:Scope}{env:Env}(h:∀ y ∈ scope.names,y.2=.free->∃ c,env.cells.lookup y.1=some c) :
  ∃ cl,closureFor scope env=pure cl/\(∀ x c,cl.lookup x=some c->env.cells.lookup x=some c)/\∀ y ∈ scope.names,y.2=.free->∃ c,cl.lookup y.1=some c:=by
 obtain ⟨q1,_,q3⟩:=kD (cells:=env.cells) scope.names [] h (fun x c e=>nomatch e)
 refine ⟨qe env.cells scope.names [],?_,q1,q3⟩
 unfold closureFor
 have:=yd (env:=env) scope.names [] h
 first
  | exact this
  | (simp only [bind_pure];exact this)
  | (refine Eq.trans ?_ this;simp)
theorem kc {env:Env}:∀ {names:List (Str × NameKind)} {x:Str},(names.map fun (n,k)=>if (k == NameKind.free && env.scope.kind == .function && env.kindOf n == some .cell) then (n,NameKind.cell) else (n,k)).lookup x =
  (names.lookup x).map fun k=>if (k == NameKind.free && env.scope.kind == .function && env.kindOf x == some .cell) then NameKind.cell else k
 | [],_=>rfl
 | (n,k) :: r,x=>by
  have ih:=@kc env r x
  rw [List.map_cons]
  cases hx:x == n with
  | true=>
   have e:x=n:=by simpa using hx
   subst e
   rw [List.lookup_cons (as:=r),beq_self_eq_true]
   show List.lookup x ((if (k == NameKind.free && env.scope.kind == .function && env.kindOf x == some .cell)=true then (x,NameKind.cell) else (x,k)) :: _)=some _
   by_cases hc:(k == NameKind.free && env.scope.kind == .function && env.kindOf x == some .cell)=true
   ·rw [if_pos hc,List.lookup_cons,beq_self_eq_true];dsimp only;rw [if_pos hc]
   ·rw [if_neg hc,List.lookup_cons,beq_self_eq_true];dsimp only;rw [if_neg hc]
  | false=>
   rw [List.lookup_cons (as:=r),hx]
   show List.lookup x ((if (k == NameKind.free && env.scope.kind == .function && env.kindOf n == some .cell)=true then (n,NameKind.cell) else (n,k)) :: _)=_
   by_cases hc:(k == NameKind.free && env.scope.kind == .function && env.kindOf n == some .cell)=true
   ·rw [if_pos hc,List.lookup_cons,hx];exact ih
   ·rw [if_neg hc,List.lookup_cons,hx];exact ih
noncomputable abbrev cxC (X:Cx)(scope:Scope)(cl:List (Str × Addr))(s:Shared)(H:Hp)(fp:List Addr):Cx:=
 { X with s₀:=s,H₀:=H,env:=compEnvC scope cl s.heap.objs.size X.env,outer:=X.stack,ex:=fp,fn:=fun _=>false,pn:=[],xe:=fun _ _=>False }
noncomputable def clr:List Nat->St->St
 | [],σ=>σ
 | j :: r,σ=>clr r (σ.set j none)
theorem Zu:∀ (ts:List Nat) (σ:St),(clr ts σ).length=σ.length
 | [],_=>rfl
 | j :: r,σ=>by show (clr r (σ.set j none)).length=_;rw [Zu r];simp
theorem vo:∀ (ts:List Nat) (σ:St) (i:Nat) (v:V),(clr ts σ)[i]?=some (some v)->i ∉ ts/\σ[i]?=some (some v)
 | [],_,_,_,h=>⟨by simp,h⟩
 | j :: r,σ,i,v,h=>by
  obtain ⟨h1,h2⟩:=vo r (σ.set j none) i v h
  by_cases e:j=i
  ·subst e
   rw [List.getElem?_set] at h2
   simp at h2
  ·rw [List.getElem?_set_ne e] at h2
   exact ⟨by simp [h1,Ne.symm e],h2⟩
structure ScF (X:Cx)(ts:List Nat)(scope:Scope):Prop where
 kind:scope.kind=.function
 cell:∀ y ∈ scope.names,y.2 ≠ .cell
 loc:∀ y ∈ scope.names,y.2=.local->scope.names.lookup y.1=some .local
 free:∀ y ∈ scope.names,y.2=.free->X.env.kindOf y.1=some .cell \/ X.env.kindOf y.1=some .free
 ts:∀ (i:Nat) x,X.N[i]?=some x->scope.names.lookup x=some .local->i ∈ ts
theorem JU {X:Cx}{ts:List Nat}{scope:Scope}(h:vK X.N ts scope X.env.kindOf=true):ScF X ts scope:=by
  unfold vK at h
  simp only [Bool.and_eq_true,List.all_eq_true,bne_iff_ne,ne_eq,Bool.or_eq_true,beq_iff_eq] at h
  obtain ⟨⟨h1,h2⟩,h3⟩:=h
  refine ⟨h1,fun y hy=>(h2 y hy).1.1,fun y hy e=>?_,fun y hy e=>?_,fun i x e1 e2=>?_⟩
  · rcases (h2 y hy).1.2 with z | z
    · exact absurd e z
    · exact z
  · rcases (h2 y hy).2 with (z | z) | z
    · exact absurd e z
    · exact .inl z
    · exact .inr z
  · have hm : (x, i) ∈ X.N.zipIdx := by
      rw [List.mem_zipIdx_iff_getElem?];exact e1
    rcases h3 _ hm with z | z
    · exact absurd e2 z
    · simpa using z
section
variable {X:Cx}{ts:List Nat}{scope:Scope}{pins:List (Addr × Obj)}{σ:St}{H:Hp}{s:Shared}{fp:List Addr}
theorem xc (I:Inv X pins σ H s)(S:ScF X ts scope)(hf:∀ b ∈ fp,jK X pins H b)(hfl:∀ b ∈ fp,b<s.heap.objs.size){cl:List (Str × Addr)}(c1:∀ x c,cl.lookup x=some c->X.env.cells.lookup x=some c)
  (c2:∀ y ∈ scope.names,y.2=.free->∃ c,cl.lookup y.1=some c) {h1:Heap} {t1:Nat} (hns:h1.Ns s.heap.objs.size (fun x=>([]:List (Str × Value)).reverse.lookup x))
  (hk:∀ b o,s.heap.get? b=some o->h1.get? b=some o):Inv (cxC X scope cl s H fp) [] (clr ts σ) H { s with heap:=h1,toks:=t1 }:=by
 have hlk:∀ x,(relabel scope X.env).names.lookup x=(scope.names.lookup x).map fun k=>if (k == NameKind.free && X.env.scope.kind == .function && X.env.kindOf x == some .cell) then NameKind.cell else k:=fun x=>kc
 have cfree:∀ x,((relabel scope X.env).names.lookup x=some .cell \/ (relabel scope X.env).names.lookup x=some .free)->(x,NameKind.free) ∈ scope.names:=fun x hx=>by
  rw [hlk] at hx
  cases e:scope.names.lookup x with
  | none=>rw [e] at hx;rcases hx with hx | hx <;> cases hx
  | some k=>
   have hm:=mem_of_lookup_some e
   cases k with
   | free=>exact hm
   | cell=>exact absurd rfl (S.cell _ hm)
   | «local»=>rw [e] at hx;rcases hx with hx | hx <;> cases hx
   | globalExplicit=>rw [e] at hx;rcases hx with hx | hx <;> cases hx
   | globalImplicit=>rw [e] at hx;rcases hx with hx | hx <;> cases hx
 have ccell:∀ x c,cl.lookup x=some c->∃ v,s.heap.IsCell c v:=fun x c e=>I.cell x c (c1 x c e)
 have fpne:∀ b ∈ fp,b ∉ frs X.stack:=fun b hb z=>by
  obtain ⟨_,f1,f2,_⟩:=hf b hb
  rcases List.mem_cons.mp (I.stkSub b z) with e | e
  ·exact f1 e
  ·exact f2 e
 refine ⟨⟨I.ok.mod,S.kind,I.ok.glob,I.ok.blt,Nat.le_refl _,fun x y c e1 e2=>I.ok.inj x y c (c1 x c e1) (c1 y c e2),fun x hx=>c2 (x,.free) (cfree x hx) rfl,(fun x c hx=>nomatch hx),I.ok.hd,I.ok.frames,.inl rfl,fun b hb=>⟨Nat.ne_of_lt (hfl b hb),fun x c e=>(hf b hb).2.2.2.2.1 x c (c1 x c e)⟩,
  I.bs,Nat.le_trans I.ok.bsz I.sz,fun b o e hb=>?_,fpne,I.stack,I.stkFree⟩,rfl,I.bare,Un.kept hk,⟨_,hns,fun i x v e1 e2 e3=>?_⟩,fun x c e=>?_,I.hok.fresh (Nat.le_refl _),fun x c e=>I.freeC x c (c1 x c e),fun p hp=>absurd hp (by simp),I.hok.kept hk,by rw [Zu];exact I.len⟩
 ·rcases (hf b hb).2.2.2.1 with z | z
  ·exact I.ok.noex b o e z
  ·exact absurd (Nat.lt_of_lt_of_le (Heap.lt_size e) (Nat.le_trans I.ok.bsz z)) (Nat.lt_irrefl _)
 ·obtain ⟨nt,e2⟩:=vo ts σ i v e2
  have e3':(relabel scope X.env).names.lookup x=some .local \/ (relabel scope X.env).names.lookup x=some .cell \/ (relabel scope X.env).names.lookup x=some .free:=e3
  rcases e3' with z | z
  ·rw [hlk] at z
   cases e:scope.names.lookup x with
   | none=>rw [e] at z;cases z
   | some k=>
    rw [e] at z
    have z':(if (k == NameKind.free && X.env.scope.kind == .function && X.env.kindOf x == some .cell)=true then NameKind.cell else k)=.local:=Option.some.inj z
    split at z'
    ·cases z'
    ·subst z'
     exact absurd (S.ts i x e1 e) nt
  ·have hm:=cfree x z
   obtain ⟨c,hc⟩:=c2 _ hm rfl
   obtain ⟨m,hn,hl⟩:=I.loc
   have vis:Vis X.env.scope x:=by
    rcases S.free _ hm rfl with q | q
    ·exact .inr (.inl q)
    ·exact .inr (.inr q)
   obtain ⟨u,r,l⟩:=hl i x v e1 e2 vis
   refine ⟨u,r,.inr ⟨z,c,hc,?_⟩⟩
   rcases l with ⟨q,_⟩ | ⟨_,c',hc',hcell⟩
   ·rcases S.free _ hm rfl with q' | q'
    ·rw [q'] at q;cases q
    ·rw [q'] at q;cases q
   ·rw [c1 x c hc] at hc'
    cases hc'
    obtain ⟨o,ho,hd⟩:=hcell
    exact ⟨o,hk _ _ ho,hd⟩
 ·obtain ⟨v,o,ho,hd⟩:=ccell x c e
  exact ⟨v,o,hk _ _ ho,hd⟩
end
section
variable {prog:Program}{w:World}{A:Around}{R:Result->Shared->Prop}{s:Shared}
theorem jH {elt target iter : Expr}{ifs : List Expr}{scope : Scope}{pos : Pos}{it acc : Value}{env : Env}(I : Nat -> Shared -> Prop)
    (turn:∀ n s,I n s->wpAny (model prog w) A (pyNext it) (fun r s₁=>match r with
      | none=>R (.ok .next) s₁
      | some v => wpAny (model prog w) A (letOwnedTupleGo target it v) (fun _ s₀ => wpAny (model prog w) A (assign target env v) (fun _ s₂ =>
          wpAny (model prog w) A (forIn ifs true fun c r=>if r=true then do let ok <- isTrue c env (eval c env);pure (ForInStep.yield ok) else pure (ForInStep.yield r)) (fun ok s₃=>
            if ok=true then wpAny (model prog w) A (eval elt env) (fun x s₄=>
              wpAny (model prog w) A (call (.builtin "list.append") [acc,x]) (fun _ s₅=>∃ m,m<n/\I m s₅) (fun _ _=>False) s₄) (fun _ _=>False) s₃
            else ∃ m,m<n/\I m s₃) (fun _ _=>False) s₂) (fun _ _=>False) s₀) (fun _ _=>False) s₁) (fun _ _=>False) s)
    (n:Nat) (h:I n s) :
    codeAny (model prog w) A (.compLoop (.ListComp elt [⟨target,iter,ifs,0⟩] scope pos) 0 it acc env) R s:=by
  refine codeAny_loop rfl I (fun n s hI=>?_) n h
  show wpAny _ A ((compTurn (.ListComp elt [⟨target,iter,ifs,0⟩] scope pos) 0 it acc env).onRaise (fun x=>do noteFrame x env;theTreesLotGoes x)) _ _ s
  refine wpAny_noted ?_
  rw [compTurn_list]
  refine wpAny_bind (wpAny_standAt (wpAny_bind (wpAny_mono (turn n s hI) (fun r s₁ h₁=>?_) fun _ _ h'=>h'.elim)))
  cases r with
  | none=>exact wpAny_pure h₁
  | some v=>
    refine wpAny_bind (wpAny_mono h₁ (fun _ s₀ h₀=>?_) fun _ _ h'=>h'.elim)
    refine wpAny_bind (wpAny_mono h₀ (fun _ s₂ h₂=>wpAny_bind (wpAny_mono h₂ (fun ok s₃ h₃=>?_) fun _ _ h'=>h'.elim)) fun _ _ h'=>h'.elim)
    cases ok with
    | false=>exact wpAny_pure ⟨rfl,h₃⟩
    | true=>
      exact wpAny_bind (wpAny_bind (wpAny_mono h₃ (fun x s₄ h₄=>wpAny_bind (wpAny_mono h₄ (fun _ s₅ h₅=>wpAny_pure (wpAny_pure ⟨rfl,h₅⟩)) fun _ _ h'=>h'.elim)) fun _ _ h'=>h'.elim))
end
noncomputable def Zy:TT:=fun _ H Q=>Q true H
noncomputable def PIf (X:Cx)(ifs:List Expr)(t:TT):Prop:=
 ∀ (pins:List (Addr × Obj)) (s:Shared) (σ:St) (H:Hp) (Q:Bool->Hp->Prop),Inv X pins σ H s->t σ H Q ->
  wpAny (model X.prog X.w) X.A (forIn ifs true fun c r=>if r=true then do let ok <- isTrue c X.env (eval c X.env);pure (ForInStep.yield ok) else pure (ForInStep.yield r)) (TP X pins σ Q) X.xe s
theorem qD {X:Cx}:PIf X [] Zy:=fun _ _ _ H _ I h=>wpAny_tests_nil ⟨H,I,h⟩
noncomputable def vc (ts:List Nat)(wi:TI)(g:TG)(tt:TT)(te:TE):TE:=fun σ H Q=>wi σ H fun J H1=>∀ D,H1 D=none->∃ W:Nat->Nat->St->Hp->Prop,(∃ m,W 0 m (clr ts σ) (upd H1 D (.lst [])))/\∀ i m τ H2,W i m τ H2 ->
 (J.stop i H2/\Q (.ref D) H2) \/ (J.go i H2/\∃ N:St->Hp->Prop,(∀ τ' H',N τ' H'->∃ m',m'<m/\W (i+1) m' τ' H')/\∀ x H',J.yld i H2 x H'->g x τ H' fun τ2 H3=>tt τ2 H3 fun b H4=>
  if b=true then te τ2 H4 fun v H5=>∃ ys,H5 D=some (.lst ys)/\ys.length<sizeLine/\N τ2 (upd H5 D (.lst (ys ++ [v]))) else N τ2 H4)
section
variable {X:Cx}{ts:List Nat}{scope:Scope}{tg iter elt:Expr}{ifs:List Expr}{wi:TI}{g:TG}{tt:TT}{te:TE}{pos:Pos}
theorem vN (hc:X.calm=true)(hsc:vK X.N ts scope X.env.kindOf=true)(hi:PI X tg iter wi)(hg:∀ cl s H fp,PG (cxC X scope cl s H fp) tg g)(ht:∀ cl s H fp,PIf (cxC X scope cl s H fp) ifs tt)(he:∀ cl s H fp,PE (cxC X scope cl s H fp) elt te)
  {pins:List (Addr × Obj)} {s:Shared} {σ:St} {H:Hp} {Q:VK} (I:Inv X pins σ H s) (h:vc ts wi g tt te σ H Q) {use:Option (Value->Sem Unit)} {Q':Value->Shared->Prop}
  (fin:∀ (D C:Addr) (H':Hp) (s':Shared),Inv X pins σ H' s'->(∃ m,s'.heap.Ns C m)->H' C=none->C ≠ X.env.locals->(∀ x c,X.env.cells.lookup x=some c->c ≠ C)->X.s₀.heap.objs.size<=C->(∀ p ∈ X.pn ++ pins,p.1 ≠ C)->C ∉ X.fs->Q (.ref D) H' ->
   compPost (model X.prog X.w) X.A X.xe use Q' (.ref D) C (.ok .next) s')
  (hs:∀ x,foldedSetIterable iter X.env x=pure x) :
  wpAny (model X.prog X.w) X.A (comprehension (.ListComp elt [⟨tg,iter,ifs,0⟩] scope pos) scope X.env (firstIterPos [⟨tg,iter,ifs,0⟩] pos) (newList []) false (eval iter X.env) use) Q' X.xe s:=by
 have S:=JU hsc
 obtain ⟨cl,hcl,c1,c2⟩:=kZ (scope:=scope) (env:=X.env) fun y hy e=>I.ok.has y.1 (S.free y hy e)
 refine wpAny_comprehension_free (use:=use) rfl hs hcl S.kind S.loc ?_
 refine wpAny_mono (hi pins s σ H _ I h) (fun v s1 h1=>wpAny_mono h1 (fun itv s2 h2=>?_) fun _ _ e=>e) fun _ _ e=>e
 obtain ⟨it,fp,tn,J,H2,e,I2,T,st2,f2,q2⟩:=h2
 subst e
 have hD:H2 s2.heap.objs.size=none:=I2.hok.fresh (Nat.le_refl _)
 obtain ⟨W,⟨m0,w0⟩,turn⟩:=q2 _ hD
 refine wpAny_newObj_type (wpAny_newFunctionEnv S.cell (by intro y hy;simp at hy) (fun h₁ hns₁ hsb₁=>?_) S.kind)
 dsimp only at hns₁ hsb₁ ⊢
 generalize hh3:s2.heap.push { cls:=.type "list",dict:=none,data:=.seq ([]:List Value).toArray }=g3 at hns₁ hsb₁ ⊢
 have I3:Inv X pins σ (upd H2 s2.heap.objs.size (.lst [])) { s2 with heap:=g3 }:=by
  rw [<- hh3]
  exact I2.laid (t':=s2.toks) (fun b u e=>Heap.get?_push_of_some _ e) (Nat.le_refl _) ⟨Nat.zero_le _,[],_,.nil,Heap.get?_push_size _ rfl⟩
 have st3:tn 0 g3:=T.keep _ _ _ st2 fun b _ o e=>by rw [<- hh3];exact Heap.get?_push_of_some _ e
 have lt2:∀ b ∈ fp,b<s2.heap.objs.size:=fun b hb=>by obtain ⟨o,e,_⟩:=T.obj _ _ st2 b hb;exact Heap.lt_size e
 have hsz3:g3.objs.size=s2.heap.objs.size+1:=by rw [<- hh3,Heap.size_push]
 have f3:∀ b ∈ fp,jK X pins (upd H2 s2.heap.objs.size (.lst [])) b:=fun b hb=>⟨by rw [zg (Nat.ne_of_lt (lt2 b hb))];exact (f2 b hb).1,(f2 b hb).2⟩
 have lt3:∀ b ∈ fp,b<g3.objs.size:=fun b hb=>by rw [hsz3];exact Nat.lt_succ_of_lt (lt2 b hb)
 have old:∀ b o,g3.get? b=some o->h₁.get? b=some o:=fun b o e=>hsb₁.extBut b o (Nat.ne_of_lt (Heap.lt_size e)) (Heap.get?_push_of_some _ e)
 have hns:h₁.Ns g3.objs.size (fun x=>([]:List (Str × Value)).reverse.lookup x):=hns₁
 have I4:∀ t,Inv (cxC X scope cl { s2 with heap:=g3 } (upd H2 s2.heap.objs.size (.lst [])) fp) [] (clr ts σ) (upd H2 s2.heap.objs.size (.lst [])) { s2 with heap:=h₁,toks:=t }:=fun t=>xc I3 S f3 lt3 c1 c2 hns old
 have fpne:∀ b ∈ fp,b ∉ frs X.stack:=fun b hb z=>by
  obtain ⟨_,f1,f2,_⟩:=f3 b hb
  rcases List.mem_cons.mp (I3.stkSub b z) with e | e
  ·exact f1 e
  ·exact f2 e
 have stat:∀ {H':Hp},(∀ b ∈ fp,H' b=none)->∀ b ∈ fp,jK (cxC X scope cl { s2 with heap:=g3 } (upd H2 s2.heap.objs.size (.lst [])) fp) [] H' b:=fun hn b hb=>
  ⟨hn b hb,Nat.ne_of_lt (lt3 b hb),fpne b hb,.inl hb,fun x c e=>(f2 b hb).2.2.2.2.1 x c (c1 x c e),fun p hp=>absurd hp (by simp)⟩
 have loop:∀ t,codeAny (model X.prog X.w) X.A (.compLoop (.ListComp elt [⟨tg,iter,ifs,0⟩] scope pos) 0 (.ref it) (.ref s2.heap.objs.size) (compEnvC scope cl g3.objs.size X.env))
   (compPost (model X.prog X.w) X.A X.xe use Q' (.ref s2.heap.objs.size) g3.objs.size) { s2 with heap:=h₁,toks:=t }:=by
  intro t
  refine jH (fun n s'=>∃ i τ H',Inv (cxC X scope cl { s2 with heap:=g3 } (upd H2 s2.heap.objs.size (.lst [])) fp) [] τ H' s'/\tn i s'.heap/\(∀ b ∈ fp,H' b=none)/\W i n τ H') ?_ m0
   ⟨0,clr ts σ,_,I4 t,T.keep _ _ _ st3 fun b _ o e=>old b o e,fun b hb=>(f3 b hb).1,w0⟩
  rintro n s5 ⟨i,τ,H5,I5,st5,fr5,w5⟩
  rcases turn i n τ H5 w5 with ⟨stop,qn⟩ | ⟨go,N,hN,step⟩
  ·refine thn (T.done (cxC X scope cl { s2 with heap:=g3 } (upd H2 s2.heap.objs.size (.lst [])) fp) rfl rfl rfl hc i [] s5 τ H5 _ I5 (stat fr5) st5 stop) fun r s6 ⟨hr,I6⟩=>?_
   subst hr
   have base:Un (frs X.stack) fp (upd H2 s2.heap.objs.size (.lst [])) H5 g3 s6.heap:=I6.base
   have J6:Inv X pins σ H5 s6:=I3.call' (ch:=fp) I6.os base I6.hok I6.bare fun b hb=>⟨(f3 b hb).2.2.2.1,(f3 b hb).2.1,(f3 b hb).2.2.2.2.1,(f3 b hb).2.2.2.2.2⟩
   obtain ⟨m6,n6,_⟩:=I6.loc
   have hC:g3.get? g3.objs.size=none:=Heap.get?_none_of_le (Nat.le_refl _)
   refine fin _ g3.objs.size H5 s6 J6 ⟨m6,n6⟩ I6.free (Nat.ne_of_gt I3.lt) (fun x c e z=>?_) I3.sz (fun p hp z=>?_) (I3.nofs (Nat.le_refl _)) qn
   ·obtain ⟨v,q⟩:=I3.cell x c e
    exact absurd q.lt (by rw [z];exact Nat.lt_irrefl _)
   ·exact absurd (Heap.lt_size (I3.pin p hp).1) (by rw [z];exact Nat.lt_irrefl _)
  ·refine thn (T.item (cxC X scope cl { s2 with heap:=g3 } (upd H2 s2.heap.objs.size (.lst [])) fp) rfl rfl rfl hc i [] s5 τ H5 _ I5 (stat fr5) st5 go) fun r s6 ⟨u,hr,h6⟩=>?_
   subst hr
   refine thn h6 fun _ s7 ⟨x,H7,I7,r7,y7,st7,fr7⟩=>?_
   have I7':=I7.pinned (stat fr7) (T.obj _ _ st7)
   refine thn (hg cl { s2 with heap:=g3 } _ fp _ s7 τ H7 x u _ I7' r7 (step x H7 y7)) fun _ s8 ⟨τ8,H8,I8,q8⟩=>?_
   refine thn (ht cl { s2 with heap:=g3 } _ fp _ s8 τ8 H8 _ I8 q8) fun b s9 ⟨H9,I9,q9⟩=>?_
   have again:∀ {τ9:St} {H9:Hp} {s9:Shared},Inv (cxC X scope cl { s2 with heap:=g3 } (upd H2 s2.heap.objs.size (.lst [])) fp) ([] ++ kf fp s7.heap) τ9 H9 s9->N τ9 H9 ->
     ∃ m,m<n/\∃ i τ H',Inv (cxC X scope cl { s2 with heap:=g3 } (upd H2 s2.heap.objs.size (.lst [])) fp) [] τ H' s9/\tn i s9.heap/\(∀ b ∈ fp,H' b=none)/\W i m τ H':=fun {τ9 H9 s9} I9 n9=>by
    obtain ⟨m',hm,w9⟩:=hN _ _ n9
    refine ⟨m',hm,i+1,τ9,H9,I9.unpinned,T.keep _ _ _ st7 fun b hb o e=>(I9.pin (b,o) (List.mem_append_right _ (List.mem_append_right _ (qg hb e)))).1,fun b hb=>?_,w9⟩
    obtain ⟨o,e,d⟩:=T.obj _ _ st7 b hb
    exact (I9.pin (b,o) (List.mem_append_right _ (List.mem_append_right _ (qg hb e)))).2.1
   cases b with
   | false=>
    rw [if_neg Bool.false_ne_true] at q9 ⊢
    exact again I9 q9
   | true=>
    rw [if_pos rfl] at q9 ⊢
    refine thn (he cl { s2 with heap:=g3 } _ fp _ s9 τ8 H9 _ I9 q9) fun y s10 ⟨v,H10,I10,r10,ys,hys,hlen,n10⟩=>?_
    exact thn (xF (X:=cxC X scope cl { s2 with heap:=g3 } (upd H2 s2.heap.objs.size (.lst [])) fp) _ s10 τ8 H10 (.ref s2.heap.objs.size) [v] (.ref s2.heap.objs.size) [y] (fun _ H11=>N τ8 H11) I10 rfl (.cons r10 .nil) ⟨_,ys,v,rfl,rfl,hys,hlen,n10⟩) fun _ s11 ⟨_,H11,I11,_,n11⟩=>again I11 n11
 have LW:=loop (s2.toks+([]:List (Str × Value)).length)
 exact codeAny_compStart_list LW (T.self _ 0 _ _ _ (T.keep _ _ _ st3 fun b _ o e=>old b o e) LW)
end
section
variable {X:Cx}{ts:List Nat}{scope:Scope}{tg iter elt:Expr}{ifs:List Expr}{wi:TI}{g:TG}{tt:TT}{te:TE}{pos:Pos}
theorem ye (hc:X.calm=true)(hsc:vK X.N ts scope X.env.kindOf=true)(hi:PI X tg iter wi)(hg:∀ cl s H fp,PG (cxC X scope cl s H fp) tg g)(ht:∀ cl s H fp,PIf (cxC X scope cl s H fp) ifs tt)(he:∀ cl s H fp,PE (cxC X scope cl s H fp) elt te)
  (hs:∀ x,foldedSetIterable iter X.env x=pure x:=by intro _;rfl):PE X (.ListComp elt [⟨tg,iter,ifs,0⟩] scope pos) (vc ts wi g tt te):=by
 intro pins s σ H Q I h
 rw [eval_ListComp]
 refine vN hc hsc hi hg ht he I h (use:=none) (fun D C H' s' I' ⟨m,hn⟩ hC hL hce hsz hp hfs q=>⟨m,hn,fun h' hs'=>?_⟩) hs
 exact ⟨.ref D,H',I'.turned (t':=s'.toks) (it:=C) (fun b o hb e=>(hs'.2 b hb).trans e) hC hL (.inr hsz) hce hp,rfl,q⟩
theorem yO {j:Nat}{y:Str}{py spos:Pos}(hc:X.calm=true)(hN:X.N.Nodup)(hj:X.N[j]?=some y)(hy:Loc X.env.scope y)(hsc:vK X.N ts scope X.env.kindOf=true)(hi:PI X tg iter wi)(hg:∀ cl s H fp,PG (cxC X scope cl s H fp) tg g)(ht:∀ cl s H fp,PIf (cxC X scope cl s H fp) ifs tt)(he:∀ cl s H fp,PE (cxC X scope cl s H fp) elt te)
  (hsw:swapsWith (.ListComp elt [⟨tg,iter,ifs,0⟩] scope pos) (some (.Name y py)) spos.line X.env=pure true:=by rfl)
  (hs:∀ x,foldedSetIterable iter X.env x=pure x:=by intro _;rfl) (hf:X.fn y=true \/ X.env.scope.names.lookup y=some .local:=by first | exact .inl rfl | exact .inr rfl | assumption) :
  PS X (.Assign [.Name y py] (.ListComp elt [⟨tg,iter,ifs,0⟩] scope pos) spos) (Ze (vc ts wi g tt te) (xi j)):=by
 intro pins s σ H D I h
 rw [exec_Assign_Name_used _ _ _ _ hsw]
 refine wpAny_bind (wpAny_standAt (wpAny_bind ?_))
 show wpAny _ _ (do let _ <- comprehension (.ListComp elt [⟨tg,iter,ifs,0⟩] scope pos) scope X.env _ (newList []) false (eval iter X.env) (some (assign (.Name y py) X.env))) _ _ s
 refine wpAny_bind (wpAny_mono (vN hc hsc hi hg ht he I h (use:=some (assign (.Name y py) X.env)) (Q':=fun _ s'=>SP X pins D .next s') (fun D' C H' s' I' ⟨m,hn⟩ hC hL hce hsz hp hfs q=>?_) hs) (fun _ s' hq=>wpAny_pure (wpAny_pure hq)) fun _ _ e=>e)
 show wpAny _ _ (assign (.Name y py) X.env (.ref D')) _ _ _
 refine wpAny_assign_Name (ky (v:=.ref D') I' hN hj hy rfl (fun s2 I2 ⟨a,hsb,ha⟩=>?_) hf)
 have hCa:C ≠ a:=by
  rcases ha with rfl | ha
  ·exact hL
  ·exact Ne.symm (hce y a ha)
 refine ⟨m,hn.sameBut hsb hCa,fun h' hs'=>?_⟩
 exact ⟨_,H',I2.turned (t':=s2.toks) (it:=C) (fun b o hb e=>(hs'.2 b hb).trans e) hC hL (.inr hsz) hce hp,q⟩
end
noncomputable def Ite (K:PySem.W.Frag)(a:Addr):It:=
 ⟨fun i H=>∃ xs x,SqL K H a xs/\xs[i]?=some x,fun i H y H'=>∃ p x,H p=none/\y=.ref p/\(∀ xs,SqL K H a xs->xs[i]?=some x)/\H'=upd H p (.tup [.int i,x]),fun i H=>∃ xs,SqL K H a xs/\xs.length<=i⟩
theorem xY {P:Program}{w:World}{K:PySem.W.Frag}{es:List Expr}{kt:Nat}{tp:Pos}(a e it:Addr)(hei:e ≠ it):yh P w K (.Tuple es kt tp) (Ite K a) [e,it] e (fun i h=>(∃ old,IsEnum h e it (i:Nat) old)/\h.IsListIter it a i) where
 mem:=by simp
 obj:=fun i h st b hb=>by
  obtain ⟨⟨old,he⟩,⟨o,e1,c,d⟩⟩:=st
  rcases List.mem_cons.mp hb with rfl | hb
  ·exact ⟨_,he,fun v z=>by have z':Data.fields _=Data.cell v:=z;cases z'⟩
  ·have e2:b=it:=by simpa using hb
   subst e2
   exact ⟨o,e1,fun v z=>by rw [d] at z;cases z⟩
 keep:=fun i h h' st k=>by
  obtain ⟨⟨old,he⟩,st⟩:=st
  exact ⟨⟨old,k e (by simp) _ he⟩,st.at fun o e=>k it (by simp) o e⟩
 item:=by
  intro X hP hw hK hc i pins s σ H E I hf st hg
  subst hP hw hK
  obtain ⟨⟨old,he⟩,st⟩:=st
  obtain ⟨xs,x,hq,hx⟩:=hg
  obtain ⟨its,rv,p,hz⟩:=I.list hq
  obtain ⟨u,hu,ru⟩:=rv.get hx
  have fe:=hf e (by simp)
  have fi:=hf it (by simp)
  refine wpAny_pyNext_enum_item he st p.isList (x:=u) (by simpa using hu) hei fun h1 heo hit1 ht1 hz1 hk1=>?_
  refine ⟨.ref s.heap.objs.size,rfl,wpAny_letOwnedTupleGo_enum heo fun h2 he2 hs2=>?_⟩
  replace hs2:Heap.SameBut e h1 h2:=hs2
  have elt:e<s.heap.objs.size:=Heap.lt_size he
  have hfr:H s.heap.objs.size=none:=I.hok.fresh (Nat.le_refl _)
  have ht2:h2.get? s.heap.objs.size=some { cls:=.type "tuple",data:=.seq #[.int i s.toks,u] }:=(hs2.2 _ (Nat.ne_of_gt elt)).trans ht1
  have kk:∀ b o,b ∉ [e,it]->s.heap.get? b=some o->h2.get? b=some o:=fun b o hc q=>by
   have n1:b ≠ e:=fun z=>hc (by simp [z])
   have n2:b ≠ it:=fun z=>hc (by simp [z])
   exact (hs2.2 b n1).trans (hk1 b o n1 n2 q)
  have nb:∀ c v,H c=some v->c ∉ [e,it]:=fun c v z hm=>by
   rcases List.mem_cons.mp hm with z' | z'
   ·rw [z',fe.1] at z;cases z
   ·have e2:c=it:=by simpa using z'
    rw [e2,fi.1] at z;cases z
  have I2:Inv X pins σ (upd H s.heap.objs.size (.tup [.int i,x])) { s with heap:=h2,toks:=s.toks+1 }:=by
   refine I.step (g':=s.gens) (d':=s.drawn) (ch:=[e,it]) (fun b hb=>?_) (fun b o _ _ hc q _=>kk b o hc q) (fun b o _ _ hc q _=>⟨o.slots,kk b o hc q⟩) (fun b o _ q n=>by rw [zg (Nat.ne_of_lt (Heap.lt_size q))];exact n) (fun b o hc q=>⟨o,kk b o hc q⟩)
    (fun b xs q=>by rw [zg (zi q hfr)];exact q) (fun b o u q=>by rw [zg (zi q hfr)];exact q) (fun b ps q=>⟨#[],by rw [zg (zi q hfr),q];simp⟩) (fun m hm=>?_) (fun b v q=>?_) I.bare
   ·rcases List.mem_cons.mp hb with z | hb
    ·rw [z];exact ⟨fe.2.2.2.1,fe.2.1,fe.2.2.2.2.1,fe.2.2.2.2.2⟩
    ·have e2:b=it:=by simpa using hb
     rw [e2];exact ⟨fi.2.2.2.1,fi.2.1,fi.2.2.2.2.1,fi.2.2.2.2.2⟩
   ·obtain ⟨o,es,ep,ho,r⟩:=hm
    exact ⟨o,es,ep,kk _ o (by simp [Ne.symm fe.2.1,Ne.symm fi.2.1]) ho,r⟩
   ·by_cases hb:b=s.heap.objs.size
    ·subst hb
     rw [zk] at q
     cases q
     exact ⟨by show 2<=sizeLine;decide,[.int i s.toks,u],.cons ⟨_,rfl⟩ (.cons ru .nil),_,ht2,rfl,⟨_,rfl⟩,rfl⟩
    ·rw [zg hb] at q
     refine (I.hok b v q).stay (fun c o hc q'=>kk c o ?_ q') (fun c z=>by rw [zg (zi z hfr)];exact z) fun c xs z=>by rw [zg (zi z hfr)];exact z
     rcases hc with z | z
     ·rw [z];exact nb b v q
     ·exact nb c _ z
  refine ⟨.ref s.heap.objs.size,_,I2,rfl,⟨s.heap.objs.size,x,hfr,rfl,fun ys hy=>by rw [I.list_inj hy hq];exact hx,rfl⟩,⟨⟨_,by simpa using he2⟩,hit1.extBut hs2.extBut (Ne.symm hei)⟩,fun b hb=>?_⟩
  have hlt:b<s.heap.objs.size:=by
   rcases List.mem_cons.mp hb with rfl | hb
   ·exact elt
   ·have e2:b=it:=by simpa using hb
    subst e2
    obtain ⟨o,e1,_⟩:=st
    exact Heap.lt_size e1
  rw [zg (Nat.ne_of_lt hlt)]
  exact (hf b hb).1
 done:=by
  intro X hP hw hK hc i pins s σ H E I hf st hg
  subst hP hw hK
  obtain ⟨⟨old,he⟩,st⟩:=st
  obtain ⟨xs,hq,hx⟩:=hg
  obtain ⟨its,rv,p,hz⟩:=I.list hq
  obtain ⟨f0,f1,f2,f3,f4,f5⟩:=hf it (by simp)
  have hl:=rv.length
  exact wpAny_pyNext_enum_end (I.ok.hd hc) he st p.isList (by simp;omega) fun h' eb=>⟨rfl,I.turned (t':=s.toks) (fun b o hb e=>eb b o hb e) f0 f1 f3 f4 f5⟩
 self:=fun _ _ _ _ _ st h=>by
  obtain ⟨⟨old,he⟩,_⟩:=st
  exact wpAny_pyIter_enum he h
section
variable {X:Cx}{pins:List (Addr × Obj)}{σ:St}{H:Hp}{s:Shared}
theorem Inv.yieldTup {ch:List Addr}{h2:Heap}{tk:Nat}{T:Addr}{xs:List V}{us:List Value}(I:Inv X pins σ H s)(hf:∀ b ∈ ch,jK X pins H b)(kk:∀ b o,b ∉ ch->s.heap.get? b=some o->h2.get? b=some o)(hT:s.heap.objs.size<=T)
  (ht2:h2.get? T=some { cls:=.type "tuple",data:=.seq us.toArray }) (rv:zq xs us) (hz:xs.length<=sizeLine):Inv X pins σ (upd H T (.tup xs)) { s with heap:=h2,toks:=tk }:=by
 have hfr:H T=none:=I.hok.fresh hT
 have nb:∀ c v,H c=some v->c ∉ ch:=fun c v z hm=>by rw [(hf c hm).1] at z;cases z
 refine I.step (g':=s.gens) (d':=s.drawn) (ch:=ch) (fun b hb=>⟨(hf b hb).2.2.2.1,(hf b hb).2.1,(hf b hb).2.2.2.2.1,(hf b hb).2.2.2.2.2⟩) (fun b o _ _ hc q _=>kk b o hc q) (fun b o _ _ hc q _=>⟨o.slots,kk b o hc q⟩)
  (fun b o _ q n=>by rw [zg (Nat.ne_of_lt (Nat.lt_of_lt_of_le (Heap.lt_size q) hT))];exact n) (fun b o hc q=>⟨o,kk b o hc q⟩)
  (fun b xs q=>by rw [zg (zi q hfr)];exact q) (fun b o u q=>by rw [zg (zi q hfr)];exact q) (fun b ps q=>⟨#[],by rw [zg (zi q hfr),q];simp⟩) (fun m hm=>?_) (fun b v q=>?_) I.bare
 ·obtain ⟨o,es,ep,ho,r⟩:=hm
  exact ⟨o,es,ep,kk _ o (fun z=>(hf _ z).2.1 rfl) ho,r⟩
 ·by_cases hb:b=T
  ·subst hb
   rw [zk] at q
   cases q
   exact ⟨hz,us,rv,_,ht2,rfl,⟨_,rfl⟩,rfl⟩
  ·rw [zg hb] at q
   refine (I.hok b v q).stay (fun c o hc q'=>kk c o ?_ q') (fun c z=>by rw [zg (zi z hfr)];exact z) fun c xs z=>by rw [zg (zi z hfr)];exact z
   rcases hc with z | z
   ·rw [z];exact nb b v q
   ·exact nb c _ z
theorem Inv.turnedL {ch:List Addr}{h2:Heap}{tk:Nat}(I:Inv X pins σ H s)(hf:∀ b ∈ ch,jK X pins H b)(kk:∀ b o,b ∉ ch->s.heap.get? b=some o->h2.get? b=some o):Inv X pins σ H { s with heap:=h2,toks:=tk }:=by
 have nb:∀ c v,H c=some v->c ∉ ch:=fun c v z hm=>by rw [(hf c hm).1] at z;cases z
 refine I.step (g':=s.gens) (d':=s.drawn) (ch:=ch) (fun b hb=>⟨(hf b hb).2.2.2.1,(hf b hb).2.1,(hf b hb).2.2.2.2.1,(hf b hb).2.2.2.2.2⟩) (fun b o _ _ hc q _=>kk b o hc q) (fun b o _ _ hc q _=>⟨o.slots,kk b o hc q⟩)
  (fun b o _ q n=>n) (fun b o hc q=>⟨o,kk b o hc q⟩) (fun b xs q=>q) (fun b o u q=>q) (fun b ps q=>⟨#[],by rw [q];simp⟩) (fun m hm=>?_) (fun b v q=>?_) I.bare
 ·obtain ⟨o,es,ep,ho,r⟩:=hm
  exact ⟨o,es,ep,kk _ o (fun z=>(hf _ z).2.1 rfl) ho,r⟩
 ·refine (I.hok b v q).stay (fun c o hc q'=>kk c o ?_ q') (fun c z=>z) fun c xs z=>z
  rcases hc with z | z
  ·rw [z];exact nb b v q
  ·exact nb c _ z
end
noncomputable def Itz (K:PySem.W.Frag)(a b:Addr):It:=
 ⟨fun i H=>∃ xs ys x y,SqL K H a xs/\SqL K H b ys/\xs[i]?=some x/\ys[i]?=some y,fun i H z H'=>∃ p x y,H p=none/\z=.ref p/\(∀ xs,SqL K H a xs->xs[i]?=some x)/\(∀ ys,SqL K H b ys->ys[i]?=some y)/\H'=upd H p (.tup [x,y]),
  fun i H=>∃ xs ys,SqL K H a xs/\SqL K H b ys/\(xs.length<=i \/ ys.length<=i)⟩
theorem Xn {P:Program}{w:World}{K:PySem.W.Frag}{es:List Expr}{kt:Nat}{tp:Pos}(l1 l2 z TI TO i1 i2:Addr)(D:ZipApart z TI TO i1 i2 l1 l2) :
  yh P w K (.Tuple es kt tp) (Itz K l1 l2) [z,TI,TO,i1,i2] z (fun i h=>IsZip h z TI TO .none/\IsPair h TI (.ref i1) (.ref i2)/\(∃ a b,IsPair h TO a b)/\h.IsListIter i1 l1 i/\h.IsListIter i2 l2 i) where
 mem:=by simp
 obj:=fun i h st b hb=>by
  obtain ⟨hz,hTI,⟨a,c,hTO⟩,⟨o1,e1,c1,d1⟩,⟨o2,e2,c2,d2⟩⟩:=st
  simp only [List.mem_cons,List.not_mem_nil,or_false] at hb
  rcases hb with rfl | rfl | rfl | rfl | rfl
  ·exact ⟨_,hz,fun v q=>by have q':Data.fields _=Data.cell v:=q;cases q'⟩
  ·exact ⟨_,hTI,fun v q=>by have q':Data.seq _ _=Data.cell v:=q;cases q'⟩
  ·exact ⟨_,hTO,fun v q=>by have q':Data.seq _ _=Data.cell v:=q;cases q'⟩
  ·exact ⟨o1,e1,fun v q=>by rw [d1] at q;cases q⟩
  ·exact ⟨o2,e2,fun v q=>by rw [d2] at q;cases q⟩
 keep:=fun i h h' st k=>by
  obtain ⟨hz,hTI,⟨a,c,hTO⟩,h1,h2⟩:=st
  exact ⟨k _ (by simp) _ hz,k _ (by simp) _ hTI,⟨a,c,k _ (by simp) _ hTO⟩,h1.at fun o e=>k _ (by simp) o e,h2.at fun o e=>k _ (by simp) o e⟩
 item:=by
  intro X hP hw hK hc i pins s σ H E I hf st hg
  subst hP hw hK
  obtain ⟨hz,hTI,⟨a,c,hTO⟩,h1,h2⟩:=st
  obtain ⟨xs,ys,x,y,hq1,hq2,hx,hy⟩:=hg
  obtain ⟨its1,rv1,p1,hz1⟩:=I.list hq1
  obtain ⟨its2,rv2,p2,hz2⟩:=I.list hq2
  obtain ⟨u,hu,ru⟩:=rv1.get hx
  obtain ⟨v,hv,rvv⟩:=rv2.get hy
  refine wpAny_pyNext_zip_item D hz hTI hTO h1 h2 p1.isList p2.isList (x:=u) (y:=v) (by simpa using hu) (by simpa using hv) fun g1 b1 b2 b3 b4 b5 b6 hk=>?_
  refine ⟨.ref s.heap.objs.size,rfl,wpAny_letOwnedTupleGo_zip b1 fun g2 hz2' hs2=>?_⟩
  replace hs2:Heap.SameBut z g1 g2:=hs2
  have zlt:z<s.heap.objs.size:=Heap.lt_size hz
  have I2:Inv X pins σ (upd H s.heap.objs.size (.tup [x,y])) { s with heap:=g2,toks:=s.toks }:=by
   refine I.yieldTup (us:=[u,v]) hf (fun b o hb e=>?_) (Nat.le_refl _) ((hs2.2 _ (Nat.ne_of_gt zlt)).trans b5) (.cons ru (.cons rvv .nil)) (by show 2<=sizeLine;decide)
   simp only [List.mem_cons,List.not_mem_nil,or_false,not_or] at hb
   exact (hs2.2 b hb.1).trans (hk b o hb.1 hb.2.2.1 hb.2.2.2.1 hb.2.2.2.2 e)
  refine ⟨.ref s.heap.objs.size,_,I2,rfl,⟨s.heap.objs.size,x,y,I.hok.fresh (Nat.le_refl _),rfl,fun xs' h'=>by rw [I.list_inj h' hq1];exact hx,fun ys' h'=>by rw [I.list_inj h' hq2];exact hy,rfl⟩,
   ⟨hz2',(hs2.2 _ D.TIz).trans (hk _ _ D.TIz D.TITO D.TIi1 D.TIi2 hTI),⟨_,_,(hs2.2 _ D.TOz).trans b2⟩,b3.extBut hs2.extBut D.i1z,b4.extBut hs2.extBut D.i2z⟩,fun b hb=>?_⟩
  have hlt:b<s.heap.objs.size:=by
   simp only [List.mem_cons,List.not_mem_nil,or_false] at hb
   rcases hb with rfl | rfl | rfl | rfl | rfl
   ·exact zlt
   ·exact Heap.lt_size hTI
   ·exact Heap.lt_size hTO
   ·obtain ⟨o,e,_⟩:=h1;exact Heap.lt_size e
   ·obtain ⟨o,e,_⟩:=h2;exact Heap.lt_size e
  rw [zg (Nat.ne_of_lt hlt)]
  exact (hf b hb).1
 done:=by
  intro X hP hw hK hc i pins s σ H E I hf st hg
  subst hP hw hK
  obtain ⟨hz,hTI,⟨a,c,hTO⟩,h1,h2⟩:=st
  obtain ⟨xs,ys,hq1,hq2,hend⟩:=hg
  obtain ⟨its1,rv1,p1,hz1⟩:=I.list hq1
  obtain ⟨its2,rv2,p2,hz2⟩:=I.list hq2
  have l1:=rv1.length
  have l2:=rv2.length
  refine wpAny_pyNext_zip_end (I.ok.hd hc) D hz hTI hTO h1 h2 p1.isList p2.isList (by simp;omega) fun h' hk=>⟨rfl,I.turnedL (tk:=s.toks) hf fun b o hb e=>?_⟩
  simp only [List.mem_cons,List.not_mem_nil,or_false,not_or] at hb
  exact hk b o hb.1 hb.2.2.1 hb.2.2.2.1 hb.2.2.2.2 e
 self:=fun _ _ _ _ _ st h=>wpAny_pyIter_zip st.1 h
theorem xj:bootBuiltins "enumerate"=some (.type "enumerate"):=by decide +kernel
theorem QB:bootBuiltins "zip"=some (.type "zip"):=by decide +kernel
section
variable {X:Cx}{es:List Expr}{kt:Nat}{tp:Pos}
noncomputable def Vj (K:PySem.W.Frag)(ta:TA):TI:=fun σ H R=>ta σ H fun vs H1=>∃ a,vs=[.ref a]/\(∃ xs,SqL K H1 a xs)/\R (Ite K a) H1
theorem Ya {e:Expr}{ta:TA}{p pos:Pos}(hg:Gl X "enumerate")(hm:X.mg "enumerate"=none)(ha:PA X [e] ta)(hs:starEach [e] X.env=[(false,eval e X.env)]:=by rfl) :
  PI X (.Tuple es kt tp) (.Call (.Name "enumerate" p) [e] [] pos) (Vj X.K ta):=by
 intro pins s σ H R I h
 refine Call_ (jx I hg hm (xj) (PyProof.Rows.callWith_type1 (thn (ha pos pins s σ H _ I h) fun us s1 ⟨vs,H1,I1,r1,q1⟩=>?_) hs rfl))
 obtain ⟨a,e,⟨xs,hq⟩,q⟩:=q1
 subst e
 obtain ⟨u,rfl,ru⟩:=ji r1
 cases ru
 obtain ⟨its,rv,pl,hz⟩:=I1.list hq
 refine call_enumerate_list pl.isList fun h' he hit hsz hk=>wpAny_pyIter_enum he ?_
 have I2:Inv X pins σ H1 { s1 with heap:=h' }:=I1.kept (t':=s1.toks) hk
 refine ⟨s1.heap.objs.size+1,[s1.heap.objs.size+1,s1.heap.objs.size],_,_,H1,rfl,I2,xY a _ _ (Nat.succ_ne_self _),⟨⟨_,he⟩,hit⟩,fun b hb=>?_,q⟩
 have hb':s1.heap.objs.size<=b:=by
  simp only [List.mem_cons,List.not_mem_nil,or_false] at hb
  rcases hb with rfl | rfl
  ·exact Nat.le_succ _
  ·exact Nat.le_refl _
 exact I1.fpOk hb' (I1.hok.fresh hb')
end
theorem K2 {K:PySem.W.Frag}{a:Addr}{xs:List V}{g:TG}{tb:TS}{D:jR}{σ:St}{H:Hp}(Pv:Nat->St->Hp->Prop)(h0:Pv 0 σ H)(hl:∀ i σ H,i<=xs.length->Pv i σ H->SqL K H a xs)
  (hs:∀ i x p σ H,xs[i]?=some x->H p=none->Pv i σ H->g (.ref p) σ (upd H p (.tup [.int i,x])) fun σ2 H2=>tb { D with nx:=Pv (i+1),ct:=Pv (i+1),bk:=D.nx } σ2 H2) (hd:∀ σ H,Pv xs.length σ H->D.nx σ H) :
  ∃ W:Nat->Nat->St->Hp->Prop,(∃ m,W 0 m σ H)/\∀ i m σ H,W i m σ H ->
   ((Ite K a).stop i H/\D.nx σ H) \/ ((Ite K a).go i H/\∃ N:St->Hp->Prop,(∀ σ' H',N σ' H'->∃ m',m'<m/\W (i+1) m' σ' H')/\∀ x H',(Ite K a).yld i H x H'->g x σ H' fun σ2 H2=>tb { D with nx:=N,ct:=N,bk:=D.nx } σ2 H2):=by
 refine ⟨fun i m σ H=>m=xs.length - i/\i<=xs.length/\Pv i σ H,⟨xs.length,by simp,Nat.zero_le _,h0⟩,?_⟩
 rintro i m σ H ⟨rfl,hi,p⟩
 have q:=hl i σ H hi p
 by_cases hlt:i<xs.length
 ·refine .inr ⟨⟨xs,xs[i],q,by simp [hlt]⟩,Pv (i+1),fun σ' H' p'=>⟨xs.length - (i+1),by omega,rfl,hlt,p'⟩,fun x H' y=>?_⟩
  obtain ⟨pp,x',hp,rfl,y,rfl⟩:=y
  exact hs i x' pp σ _ (y xs q) hp p
 ·have e:i=xs.length:=by omega
  subst e
  exact .inl ⟨⟨xs,q,Nat.le_refl _⟩,hd σ H p⟩
noncomputable def BZ (p:Addr)(a b c:Int):HO:=.ext fun h=>∃ t u v,h.get? p=some { cls:=.type "range",data:=.fields #[.int a t,.int b u,.int c v] }
noncomputable def Bh (a c:Int)(n:Nat):List Int:=(List.range n).map fun (i:Nat)=>a+(i:Int) * c
theorem vG (a c:Int)(n:Nat):(Bh a c n).length=n:=by simp [Bh]
section
variable {X:Cx}
end
section
variable {X:Cx}
noncomputable def isT (t c:String):Option Bool:=if (Value.type t == Value.type c)=true then some true else if PySem.W.kitMeta c=true then (fastBuiltinMro t).map (·.contains (Value.type c)) else none
theorem X2 (K:PySem.W.Frag)(t c:String):PySem.W.kitOne K (.type t) (.type c)=isT t c:=rfl
noncomputable def wB (t:String):List String->Option Bool
 | []=>some false
 | c :: r=>match isT t c with
  | some true=>some true
  | some false=>wB t r
  | none=>none
theorem yV:qq X (.builtin "isinstance") (fun xs H Q=>∃ x t c b,xs=[x,.ty c]/\jV X.K H x (.type t)/\isT t c=some b/\Q (.bl b) H):=by
 intro pins s σ H xs us Q I r h
 obtain ⟨x,t,c,b,rfl,ty,e,q⟩:=h
 obtain ⟨u,v,rfl,ru,rv⟩:=yW r
 cases rv
 exact QN I ru ty (by rw [X2];exact e) fun tk=>⟨.bl b,H,I.tok _,rfl,q⟩
end
noncomputable def At (K:PySem.W.Frag)(mg:Str->Option Value)(x:Str)(st:Stmt):Prop:=∃ f fd,Fun K x x st f fd/\mg x=some (.ref f)
noncomputable def Df (P:Program)(w:World)(K:PySem.W.Frag)(mg:Str->Option Value)(base:Heap)(x:Str)(ps:List Str)(k:Nat)(sp:Sp):Prop:=
 ∃ f fd,jJ P w K mg base CX0 k f fd ps sp/\xB K fd ps []/\PySem.W.keepIn K (.ref f)=true/\mg x=some (.ref f)/\∃ oc od osl,K.lookup f=some ⟨oc,od,.func fd,osl⟩
theorem Df.mono {P:Program}{w:World}{K:PySem.W.Frag}{mg:Str->Option Value}{base:Heap}{x:Str}{ps:List Str}{j k:Nat}{sp:Sp}(D:Df P w K mg base x ps j sp)(h:j<=k):Df P w K mg base x ps k sp:=
 let ⟨f,fd,F,r⟩:=D
 ⟨f,fd,F.mono h,r⟩
section
variable {X:Cx}{k:Nat}{x:Str}{ps:List Str}{sp:Sp}{p pos:Pos}{e:Expr}{es:List Expr}{t:TA}
theorem zO (D:Df X.prog X.w X.K X.mg X.base x ps k sp)(hr:qI k X.A)(hg:Gl X x)(ha:PA X (e :: es) t)(hdb:(x == ("__debug__":Str))=false:=by decide)
  (he:starEach (e :: es) X.env=(false,eval e X.env) :: starEach es X.env:=by rfl) (hpl:(backTo pos (starEach es X.env)).any (·.1)=false:=by rfl):PE X (.Call (.Name x p) (e :: es) [] pos) (ZV sp [] E0 t):=by
 obtain ⟨f,fd,F,b,kp,m,_⟩:=D
 exact Yf F hr hg m kp b .nil AZ ha hdb he hpl
end
theorem vP {P:Program}{w:World}{K:PySem.W.Frag}{mg:Str->Option Value}{base:Heap}{x:Str}{st:Stmt}{N ps:List Str}{k:Nat}{sp:Sp}(a:At K mg x st)(S:zJ N ps (zn st))
  (hb:∀ (kV doc pm:Value) (an:Option Addr) (cdv ct:Value) (us:List Value),us.length=ps.length->bindArgs (PySem.W.fnOf x x (qC st) (qd st) (zn st) .none kV doc pm an cdv ct) ⟨us,[]⟩=pure (ps.zip us))
  (len:∀ vs H Q E,sp vs H Q E->vs.length=ps.length)
  (hbody:∀ (f:Addr) (cdv:Value) (A:Around) (outer:List Env) (s:Shared) (H:Hp) (vs:List V) (Q:VK) (E:XK),qI k (A.deeper (envOfC x (zn st) s.heap.objs.size f cdv))->sp vs H Q E ->
   ∃ t,PSs (yJ CX0 P w K mg base N x (zn st) f cdv A outer s H E).nox (qd st) t/\t { nx:=fun _ H'=>Q .non H',rt:=Q } (start N vs) H):Df P w K mg base x ps (k+1) sp:=by
 obtain ⟨f,fd,F,m⟩:=a
 obtain ⟨oc,od,kV,doc,pm,an,cdv,ct,osl,_,lk,_⟩:=id F.ex
 exact ⟨f,fd,F.ok S len fun cdv A outer s H vs Q E=>hbody f cdv A outer s H vs Q E,F.binds hb,F.kp,m,oc,od,osl,lk⟩
theorem at_mk {K:PySem.W.Frag}{mg:Str->Option Value}{h:Heap}{x:Str}{st:Stmt}{f:Addr}{oc:Value}{od an:Option Addr}{osl:Array (Option Value)}{kV doc pm cdv ct:Value}(X:K.In h)(G:h.Ns mainGlobals mg)(a:PySem.W.nsIn K mainGlobals x=some (some (.ref f)))
  (l:K.lookup f=some ⟨oc,od,.func (PySem.W.fnOf x x (qC st) (qd st) (zn st) .none kV doc pm an cdv ct),osl⟩) (c:PySem.W.codeIn K cdv x=true) (k:PySem.W.keepIn K (.ref f)=true):At K mg x st:=⟨f,_,JY l c k,PySem.W.mg_of X G a⟩
theorem Df.fn {P:Program}{w:World}{K:PySem.W.Frag}{mg:Str->Option Value}{base:Heap}{x:Str}{ps:List Str}{k:Nat}{sp:Sp}{f:Addr}{fd:FuncData}{oc:Value}{od:Option Addr}{osl:Array (Option Value)}(D:Df P w K mg base x ps k sp)(m:mg x=some (.ref f))(l:K.lookup f=some ⟨oc,od,.func fd,osl⟩):jJ P w K mg base CX0 k f fd ps sp:=by
 obtain ⟨f',fd',F,_,_,m',oc',od',osl',l'⟩:=D
 rw [m] at m'
 cases m'
 rw [l] at l'
 cases l'
 exact F
structure Blt (mg:Str->Option Value):Prop where
 len:mg "len"=none
 range:mg "range"=none
 list:mg "list"=none
 tuple:mg "tuple"=none
 int:mg "int"=none
 bool:mg "bool"=none
 str:mg "str"=none
 abs:mg "abs"=none
 divmod:mg "divmod"=none
 enumerate:mg "enumerate"=none
 zip:mg "zip"=none
 sorted:mg "sorted"=none
 max:mg "max"=none
 min:mg "min"=none
 isinstance:mg "isinstance"=none
 all:mg "all"=none
theorem blt_mk {K:PySem.W.Frag}{mg:Str->Option Value}{h:Heap}(X:K.In h)(G:h.Ns mainGlobals mg)(z1:PySem.W.nsIn K mainGlobals "len"=some none)(z2:PySem.W.nsIn K mainGlobals "range"=some none)(z3:PySem.W.nsIn K mainGlobals "list"=some none)(z4:PySem.W.nsIn K mainGlobals "tuple"=some none)(z5:PySem.W.nsIn K mainGlobals "int"=some none)(z6:PySem.W.nsIn K mainGlobals "bool"=some none)(z7:PySem.W.nsIn K mainGlobals "str"=some none)(z8:PySem.W.nsIn K mainGlobals "abs"=some none)
  (z9:PySem.W.nsIn K mainGlobals "divmod"=some none) (z10:PySem.W.nsIn K mainGlobals "enumerate"=some none) (z11:PySem.W.nsIn K mainGlobals "zip"=some none) (z12:PySem.W.nsIn K mainGlobals "sorted"=some none) (z13:PySem.W.nsIn K mainGlobals "max"=some none) (z14:PySem.W.nsIn K mainGlobals "min"=some none) (z15:PySem.W.nsIn K mainGlobals "isinstance"=some none) (z16:PySem.W.nsIn K mainGlobals "all"=some none):Blt mg:=
 ⟨PySem.W.mg_none_of X G z1,PySem.W.mg_none_of X G z2,PySem.W.mg_none_of X G z3,PySem.W.mg_none_of X G z4,PySem.W.mg_none_of X G z5,PySem.W.mg_none_of X G z6,PySem.W.mg_none_of X G z7,PySem.W.mg_none_of X G z8,PySem.W.mg_none_of X G z9,PySem.W.mg_none_of X G z10,PySem.W.mg_none_of X G z11,PySem.W.mg_none_of X G z12,PySem.W.mg_none_of X G z13,PySem.W.mg_none_of X G z14,PySem.W.mg_none_of X G z15,PySem.W.mg_none_of X G z16⟩
theorem jM:bootBuiltins "isinstance"=some (.builtin "isinstance"):=by decide +kernel
theorem qJ:bootBuiltins "sorted"=some (.builtin "sorted"):=by decide +kernel
theorem wk:bootBuiltins "abs"=some (.builtin "abs"):=by decide +kernel
theorem QP:bootBuiltins "divmod"=some (.builtin "divmod"):=by decide +kernel
theorem Xm:bootBuiltins "max"=some (.builtin "max"):=by decide +kernel
theorem JZ:bootBuiltins "min"=some (.builtin "min"):=by decide +kernel
theorem jX:bootBuiltins "len"=some (.builtin "len"):=by decide +kernel
theorem yl:bootBuiltins "list"=some (.type "list"):=by decide +kernel
theorem jt:bootBuiltins "tuple"=some (.type "tuple"):=by decide +kernel
theorem jQ:bootBuiltins "int"=some (.type "int"):=by decide +kernel
theorem Y4:bootBuiltins "bool"=some (.type "bool"):=by decide +kernel
noncomputable def Kp (bs:List Addr)(H H':Hp):Prop:=∀ c o,c ∉ bs->H c=some o->H' c=some o
theorem Kp.refl {bs:List Addr}{H:Hp}:Kp bs H H:=fun _ _ _ h=>h
theorem Kp.trans {bs:List Addr}{H H1 H2:Hp}(a:Kp bs H H1)(b:Kp bs H1 H2):Kp bs H H2:=fun c o n h=>b c o n (a c o n h)
theorem Kp.new {bs:List Addr}{H:Hp}{p:Addr}(o:HO)(h:H p=none):Kp bs H (upd H p o):=fun c u _ q=>by rw [zg (zi q h)];exact q
theorem Kp.set {bs:List Addr}{H:Hp}{p:Addr}(o:HO)(h:p ∈ bs):Kp bs H (upd H p o):=fun c u n q=>by have hne:c ≠ p:=(fun e=>n (by rw [e];exact h));rw [zg hne];exact q
theorem Kp.free {H H':Hp}(e:Kp [] H H'){l:Addr}(h:H' l=Option.none):H l=Option.none:=by
 cases q:H l with
 | none=>rfl
 | some o=>rw [e l o (by simp) q] at h;cases h
noncomputable def Bx (H:Hp)(b:Addr)(N:Nat):Prop:=∃ x y z:Int,H b=some (.lst [.int x,.int y,.int z])/\0<=x/\0<=y/\y<2147483648/\0<=z/\z<=N
noncomputable abbrev il (ns:List Int):HO:=.lst (ns.map V.int)
theorem cxK {CX:CXT}{P:Program}{w:World}{K:PySem.W.Frag}{mg:Str->Option Value}{base:Heap}{N:List Str}{qual:Str}{scope:Scope}{f:Addr}{cd:Value}{A:Around}{outer:List Env}{s:Shared}{H:Hp}{E:XK} :
  (yJ CX P w K mg base N qual scope f cd A outer s H E).K=K:=rfl
noncomputable def Bk (J:It)(g:TG)(tb:TS)(D:jR)(σ:St)(H:Hp):Prop:=∃ W:Nat->Nat->St->Hp->Prop,(∃ m,W 0 m σ H)/\∀ i m σ H,W i m σ H ->
 (J.stop i H/\D.nx σ H) \/ (J.go i H/\∃ N:St->Hp->Prop,(∀ σ' H',N σ' H'->∃ m',m'<m/\W (i+1) m' σ' H')/\∀ x H',J.yld i H x H'->g x σ H' fun σ2 H2=>tb { D with nx:=N,ct:=N,bk:=D.nx } σ2 H2)
theorem ZU {wi:TI}{g:TG}{tb:TS}{D:jR}{σ:St}{H:Hp}:Aj wi g tb D σ H=wi σ H (fun J H1=>Bk J g tb D σ H1):=rfl
noncomputable def AB (J:It)(g:TG)(tt:TT)(te:TE)(D:Addr)(Q:VK)(τ:St)(H:Hp):Prop:=∃ W:Nat->Nat->St->Hp->Prop,(∃ m,W 0 m τ H)/\∀ i m τ H2,W i m τ H2 ->
 (J.stop i H2/\Q (.ref D) H2) \/ (J.go i H2/\∃ N:St->Hp->Prop,(∀ τ' H',N τ' H'->∃ m',m'<m/\W (i+1) m' τ' H')/\∀ x H',J.yld i H2 x H'->g x τ H' fun τ2 H3=>tt τ2 H3 fun b H4=>
  if b=true then te τ2 H4 fun v H5=>∃ ys,H5 D=some (.lst ys)/\ys.length<sizeLine/\N τ2 (upd H5 D (.lst (ys ++ [v]))) else N τ2 H4)
theorem K6 {ts:List Nat}{wi:TI}{g:TG}{tt:TT}{te:TE}{σ:St}{H:Hp}{Q:VK} :
  vc ts wi g tt te σ H Q=wi σ H (fun J H1=>∀ D,H1 D=none->AB J g tt te D Q (clr ts σ) (upd H1 D (.lst []))):=rfl
theorem Yv {K:PySem.W.Frag}{a:Addr}{xs:List V}{g:TG}{tb:TS}{D:jR}{σ:St}{H:Hp}(Pv:Nat->St->Hp->Prop)(h0:Pv 0 σ H)(hl:∀ i σ H,i<=xs.length->Pv i σ H->SqL K H a xs)
  (hs:∀ i x p σ H,xs[i]?=some x->H p=none->Pv i σ H->g (.ref p) σ (upd H p (.tup [.int i,x])) fun σ2 H2=>tb { D with nx:=Pv (i+1),ct:=Pv (i+1),bk:=D.nx } σ2 H2) (hd:∀ σ H,Pv xs.length σ H->D.nx σ H):Bk (Ite K a) g tb D σ H:=K2 Pv h0 hl hs hd
theorem Pn1_ {α:Type}{p:List α->Prop}(f:∀ a,p [a]):∀ us:List α,us.length=1->p us
 | [_],_=>f _
theorem Pn2_ {α:Type}{p:List α->Prop}(f:∀ a b,p [a,b]):∀ us:List α,us.length=2->p us
 | [_,_],_=>f _ _
theorem Pn3_ {α:Type}{p:List α->Prop}(f:∀ a b c,p [a,b,c]):∀ us:List α,us.length=3->p us
 | [_,_,_],_=>f _ _ _
theorem Pn4_ {α:Type}{p:List α->Prop}(f:∀ a b c d,p [a,b,c,d]):∀ us:List α,us.length=4->p us
 | [_,_,_,_],_=>f _ _ _ _
noncomputable def Jj_:Expr->Option Int
 | .Constant (.int i) _ _=>some i
 | _=>none
noncomputable def wO:List Expr->Option (List Int)
 | []=>some []
 | e :: r=>match Jj_ e with
  | some i=>(wO r).map (i :: ·)
  | none=>none
noncomputable def Vc (is:List Int):TA:=fun _ H Q=>Q (is.map V.int) H
theorem ZA {X:Cx}:∀ {es:List Expr} {is:List Int},wO es=some is->PA X es (Vc is)
 | [],is,h=>by
  cases (show some []=some is from h)
  exact zb
 | e :: r,is,h=>by
  unfold wO at h
  split at h
  ·rename_i i hi
   obtain ⟨js,e',rfl⟩:=Option.map_eq_some_iff.mp h
   unfold Jj_ at hi
   split at hi
   ·cases hi;exact za (te:=tC (.int i)) zc (ZA e')
   ·cases hi
  ·cases h
theorem qy {X:Cx}:qq X (.type "int") (fun xs H Q=>∃ k,xs=[.bl k]/\Q (.int (if k then 1 else 0)) H):=by
 intro pins s σ H xs us Q I r h
 exact Qf pins s σ H xs us Q I r (.inr h)
theorem Bx.mono {H:Hp}{b:Addr}{N M:Nat}(h:Bx H b N)(le:N<=M):Bx H b M:=let ⟨x,y,z,h1,h2,h3,h4,h5,h6⟩:=h;⟨x,y,z,h1,h2,h3,h4,h5,by omega⟩
theorem Bx.new {H:Hp}{b p:Addr}{N:Nat}{o:HO}(h:Bx H b N)(hp:H p=none):Bx (upd H p o) b N:=let ⟨x,y,z,h1,r⟩:=h;⟨x,y,z,(zg (zi h1 hp)).trans h1,r⟩
theorem Zp {ns:List Int}{i:Nat}(h:i<ns.length):ns.getD i 0=ns[i]:=by rw [List.getD_eq_getElem?_getD,List.getElem?_eq_getElem h];rfl
noncomputable def wN:V->V->V->Hp->(Hp->Prop)->Prop:=fun o i v H Q=>∃ k,i=.int k/\∃ p,o=.ref p/\∃ xs,H p=some (.lst xs)/\∃ j,ixN xs.length k=some j/\Q (upd H p (.lst (xs.set j v)))
section
variable {X:Cx}
theorem xO:MtR X "list.append" kM:=xF
theorem qB {es:List Expr}{k:Nat}{t:TGs}{pos:Pos}{K:PySem.W.Frag}(n:Nat)(h:X.K=K)(hc:X.calm=true)(hs:PGs X es t)(hn:(assignEach es X.env).length=n:=by rfl)(hst:(assignEach es X.env).findIdx? (·.1)=none:=by rfl):PG X (.Tuple es k pos) (ww K n t):=h ▸ Aq hc hs hn hst
theorem qj:WE X wN:=by
 intro pins s σ H o i v ov iv u Q I ro ri rv h
 obtain ⟨k,e1,p,e2,xs,h1,j,h2,q⟩:=h
 exact K8 pins s σ H o i v ov iv u Q I ro ri rv ⟨p,xs,k,j,e2,e1,h1,h2,q⟩
theorem jO {K:PySem.W.Frag}(h:X.K=K):qq X (.builtin "len") (fun xs H Q=>∃ p ys,xs=[.ref p]/\(SqL K H p ys \/ SqT K H p ys)/\Q (.int ys.length) H):=h ▸ zR
end
section
variable {X:Cx}
noncomputable def Zt (K:PySem.W.Frag):R2:=fun x y H Q=>∃ p xs i v,x=.ref p/\y=.int i/\(SqL K H p xs \/ SqT K H p xs)/\atI xs i=some v/\Q v H
theorem je:IxR X (Zt X.K):=by
 intro value slice pins s σ H x y v u Q I rx ry h hs
 obtain ⟨p,xs,i,z,e1,e2,hq | hq,he,q⟩:=h
 ·exact zN value slice pins s σ H x y v u Q I rx ry ⟨p,xs,i,z,e1,e2,hq,he,q⟩ hs
 ·exact WP value slice pins s σ H x y v u Q I rx ry ⟨p,xs,i,z,e1,e2,hq,he,q⟩ hs
theorem jb {K:PySem.W.Frag}(h:X.K=K):IxR X (Zt K):=h ▸ je
end
noncomputable def nxt (os:List Int)(p:Int):Int:=os.getD p.toNat 0
noncomputable def itn (os:List Int):Nat->Int->Int
 | 0,p=>p
 | k+1,p=>nxt os (itn os k p)
section
variable {P:Program}{w:World}{A:Around}{E:Value->Shared->Prop}{s:Shared}{j t:Addr}{i:Nat}{its:Array Value}{Q:Value->Shared->Prop}
theorem qR {x:Value}(hj:s.heap.IsTupleIter j t i)(ht:s.heap.IsTuple t its)(hx:its[i]?=some x)(hQ:∀ h',h'.IsTupleIter j t (i+1)->Heap.SameBut j s.heap h'->Q x { s with heap:=h' }):wpAny (model P w) A (Builtin.SmallTypes.nextOf (.ref j)) Q E s:=by
 obtain ⟨o,ho,hc,hd⟩:=id hj
 obtain ⟨ot,hot,_,nt,hdt⟩:=ht
 unfold Builtin.SmallTypes.nextOf
 refine wpAny_bind (wpAny_callSpecial?_slot (name:=Str.ofString "__next__") hj.typeIs F.slot_tuple_iterator_next (wpAny_call_entry F.slot_tuple_iterator_next hj.typeIs F.entry_tuple_iterator_next ?_ (F.args_tuple_iterator_next_1 _)))
 refine wpAny_bind (m:=field (.ref j) 0) (wpAny_field ho hd (x:=.ref t) rfl ?_);show wpAny _ _ (if (Value.ref t == Value.none)=true then _ else _) _ _ s;rw [if_neg (show ¬ ((Value.ref t == Value.none)=true) from Bool.false_ne_true)]
 refine wpAny_bind (m:=field (.ref j) 1) (wpAny_field ho hd (x:=.int i 0) rfl ?_);refine wpAny_bind (m:=seqItems? (.ref t)) (wpAny_seqItems hot hdt ?_);simp only [Int.toNat_natCast,hx]
 refine wpAny_bind (wpAny_setField ho hd (by simp) (wpAny_pure ⟨x,rfl,wpAny_pure (hQ _ ⟨_,Heap.get?_update_self _ ho (Obj.isFreed_of_fields (Obj.data_mapFields hd _)),(Obj.cls_mapFields ..).trans hc,by rw [Obj.data_mapFields hd];simp [rawInt]⟩ (Heap.SameBut.update ..))⟩))
theorem jf (hh:A.handled=none)(hj:s.heap.IsTupleIter j t i)(ht:s.heap.IsTuple t its)(hx:its[i]?=none)(hE:∀ h' e,Heap.ExtBut j s.heap h'->(∃ o,h'.get? e=some o/\o.cls=.type "StopIteration")->E (.ref e) { s with heap:=h' }):wpAny (model P w) A (Builtin.SmallTypes.nextOf (.ref j)) Q E s:=by
 obtain ⟨o,ho,hc,hd⟩:=id hj
 obtain ⟨ot,hot,_,nt,hdt⟩:=ht
 unfold Builtin.SmallTypes.nextOf
 refine wpAny_bind (wpAny_callSpecial?_slot (name:=Str.ofString "__next__") hj.typeIs F.slot_tuple_iterator_next (wpAny_call_entry F.slot_tuple_iterator_next hj.typeIs F.entry_tuple_iterator_next ?_ (F.args_tuple_iterator_next_1 _)))
 refine wpAny_bind (m:=field (.ref j) 0) (wpAny_field ho hd (x:=.ref t) rfl ?_);show wpAny _ _ (if (Value.ref t == Value.none)=true then _ else _) _ _ s;rw [if_neg (show ¬ ((Value.ref t == Value.none)=true) from Bool.false_ne_true)]
 refine wpAny_bind (m:=field (.ref j) 1) (wpAny_field ho hd (x:=.int i 0) rfl ?_);refine wpAny_bind (m:=seqItems? (.ref t)) (wpAny_seqItems hot hdt ?_);simp only [Int.toNat_natCast,hx]
 refine wpAny_bind (wpAny_rule (wpAny_bind (wpAny_setField ho hd (by simp) ?_)));refine wpAny_bind (m:=newExc (.type "StopIteration") []) ?_;simp only [newExc,newTuple];refine wpAny_bind (wpAny_newObj_type ?_ (by size_fits));refine wpAny_bind (m:=firstArgMember _ _) (wpAny_of_eq (a:=Value.none) (by first | rfl | (simp only [firstArgMember];rfl)) ?_);refine wpAny_newObj_type ?_ (by size_fits);simp only [raiseNew];refine wpAny_bind (wpAny_handled ?_)
 (first | rw [show A.in1.handled=none from hh] | rw [hh]);refine wpAny_bind (wpAny_pure (wpAny_throw ?_));exact hE _ _ (((Heap.SameBut.update ..).extBut.push _).push _) ⟨_,Heap.get?_push_size _ rfl,rfl⟩
end
theorem Qt {P:Program}{w:World}{A:Around}(hh:A.handled=none)(j t:Addr)(hne:t ≠ j)(its:Array Value) :
  Draws P w A j [j,t] its.size (fun i v=>its[i]?=some v) (fun i h=>h.IsTupleIter j t i/\h.IsTuple t its) where
 live:=fun _ _ st=>let ⟨o,ho,_⟩:=st.1;⟨o,ho⟩
 frame:=fun _ _ _ st hk=>⟨st.1.at fun o e=>hk j (by simp) o e,let ⟨o,ho,r⟩:=st.2;⟨o,hk t (by simp) o ho,r⟩⟩
 item:=fun i s Q E hi st hQ=>by
  refine qR st.1 st.2 (x:=its[i]) (by simp [hi]) fun h' hit' hs'=>?_
  exact hQ _ h' s.toks (by simp [hi]) ⟨hit',let ⟨o,ho,r⟩:=st.2;⟨o,(hs'.2 t hne).trans ho,r⟩⟩ hs'
 done:=fun s Q E st hE=>jf hh st.1 st.2 (by simp) hE
open AutoSeq1 (wpAny_loadPart') in
theorem Qv (l:Addr)(its:Array Value)(n:Nat)(dct:Option Addr)(sl:Array (Option Value)) :
  Meets (Builtin.«enumerate.__new__» ⟨[.type "enumerate",.ref l],[]⟩) (fun _ R s=>s.heap.get? l=some { cls:=.type "tuple",dict:=dct,data:=.seq its n,slots:=sl }/\R (.ok (.ret (.ref (s.heap.push { cls:=.type "tuple_iterator",data:=.fields #[.ref l,.int 0 0] }).objs.size))) { s with heap:=(s.heap.push { cls:=.type "tuple_iterator",data:=.fields #[.ref l,.int 0 0] }).push { cls:=.type "enumerate",data:=.fields #[.none,.bool false,.ref s.heap.objs.size,rawInt 0,.none,.none] } }):=
 .of_wp fun prog w A R s h=>by
  obtain ⟨hp,g,d,tk,os⟩:=s
  obtain ⟨hl,h⟩:=h
  have hsub:=sub_enumerate
  have hT:Heap.IsTuple (Shared.heap ⟨hp,g,d,tk,os⟩) l its:=⟨_,hl,rfl,n,rfl⟩
  wp_walk using wpAny_loadPart' hl
  refine wpAny_stack_any fun st=>wpAny_pure ?_
  split
  ·rename_i c _ _ _ _ _
   cases (c == Value.type "enumerate")
   ·wp_walk using wpAny_loadPart' hl,wpAny_pyIter_tuple hT;exact ⟨_,rfl,h⟩
   ·wp_walk using wpAny_loadPart' hl,wpAny_pyIter_tuple hT;exact ⟨_,rfl,h⟩
  ·wp_walk using wpAny_loadPart' hl,wpAny_pyIter_tuple hT;exact ⟨_,rfl,h⟩
theorem wg {P:Program}{w:World}{A:Around}{E:Value->Shared->Prop}{s:Shared}{l:Addr}{its:Array Value}{Q:Value->Shared->Prop}(hT:s.heap.IsTuple l its)
  (h:∀ h',IsEnum h' (s.heap.objs.size+1) s.heap.objs.size 0 .none->h'.IsTupleIter s.heap.objs.size l 0->(∀ b o,s.heap.get? b=some o->h'.get? b=some o)->Q (.ref (s.heap.objs.size+1)) { s with heap:=h' }) :
  wpAny (model P w) A (call (.type "enumerate") [.ref l]) Q E s:=by
 obtain ⟨⟨c,dct,dt,sl⟩,hl,hc,n,hd⟩:=hT
 replace hc:c=.type "tuple":=hc
 replace hd:dt=.seq its n:=hd
 subst hc hd
 refine callType_new F.called_enumerate (by decide) (F.typeCall_enumerate_1 _) (F.newCall_enumerate_1 _) (fun obj=>F.args_object_init_2 obj _) F.entry_enumerate_new (Qv l its n dct sl) ⟨hl,?_⟩
 have hz:(s.heap.push { cls:=.type "tuple_iterator",data:=.fields #[.ref l,.int 0 0] }).objs.size=s.heap.objs.size+1:=Heap.size_push ..
 show _/\_
 rw [hz]
 have he:IsEnum ((s.heap.push { cls:=.type "tuple_iterator",data:=.fields #[.ref l,.int 0 0] }).push { cls:=.type "enumerate",data:=.fields #[.none,.bool false,.ref s.heap.objs.size,rawInt 0,.none,.none] }) (s.heap.objs.size+1) s.heap.objs.size 0 .none:=by
  have hg:=Heap.get?_push_size (s.heap.push { cls:=.type "tuple_iterator",data:=.fields #[.ref l,.int 0 0] }) (o:={ cls:=.type "enumerate",data:=.fields #[.none,.bool false,.ref s.heap.objs.size,rawInt 0,.none,.none] }) rfl
  rw [hz] at hg;exact hg
 exact ⟨⟨_,he,rfl⟩,h _ he ⟨_,Heap.get?_push_of_some _ (Heap.get?_push_size _ rfl),rfl,rfl⟩ fun b o x=>Heap.get?_push_of_some _ (Heap.get?_push_of_some _ x)⟩
theorem Qh {P:Program}{w:World}{A:Around}{E:Value->Shared->Prop}{s:Shared}{e j t:Addr}{i:Nat}{its:Array Value}{old:Value}{Q:Option Value->Shared->Prop}(hh:A.handled=none)
  (he:IsEnum s.heap e j i old) (hj:s.heap.IsTupleIter j t i) (ht:s.heap.IsTuple t its) (hx:its[i]?=none) (hQ:∀ h',Heap.ExtBut j s.heap h'->Q none { s with heap:=h' }):wpAny (model P w) A (pyNext (.ref e)) Q E s:=by
 have hT:s.TypeIs (.ref e) "enumerate":=⟨_,he,rfl⟩
 unfold pyNext
 refine wpAny_bind (wpAny_attempt (wpAny_callSpecial?_slot (name:=Str.ofString "__next__") hT F.slot_enumerate_next (wpAny_call_entry F.slot_enumerate_next hT F.entry_enumerate_next ?_ (F.args_enumerate_next_1 _))))
 refine wpAny_bind (m:=field (.ref e) 2) (wpAny_field he rfl (x:=.ref j) rfl ?_);refine wpAny_bind (jf hh hj ht hx fun h' x he' hx'=>?_)
 obtain ⟨o,ho,hc⟩:=hx'
 refine wpAny_bind (wpAny_isInstance (T:="StopIteration") (b:=true) ⟨o,ho,hc⟩ isSubtype_stop ?_);exact wpAny_pure (hQ _ he')
noncomputable def VS (K:PySem.W.Frag)(a:Addr):It:=
 ⟨fun i H=>∃ xs x,SqT K H a xs/\xs[i]?=some x,fun i H y H'=>∃ p x,H p=none/\y=.ref p/\(∀ xs,SqT K H a xs->xs[i]?=some x)/\H'=upd H p (.tup [.int i,x]),fun i H=>∃ xs,SqT K H a xs/\xs.length<=i⟩
theorem wC {P:Program}{w:World}{K:PySem.W.Frag}{es:List Expr}{kt:Nat}{tp:Pos}(a e it:Addr)(hei:e ≠ it)(hea:e ≠ a)(hai:a ≠ it):yh P w K (.Tuple es kt tp) (VS K a) [e,it] e (fun i h=>(∃ old,IsEnum h e it (i:Nat) old)/\h.IsTupleIter it a i) where
 mem:=by simp
 obj:=fun i h st b hb=>by
  obtain ⟨⟨old,he⟩,⟨o,e1,c,d⟩⟩:=st
  rcases List.mem_cons.mp hb with rfl | hb
  ·exact ⟨_,he,fun v z=>by have z':Data.fields _=Data.cell v:=z;cases z'⟩
  ·have e2:b=it:=by simpa using hb
   subst e2
   exact ⟨o,e1,fun v z=>by rw [d] at z;cases z⟩
 keep:=fun i h h' st k=>by
  obtain ⟨⟨old,he⟩,st⟩:=st
  exact ⟨⟨old,k e (by simp) _ he⟩,st.at fun o e=>k it (by simp) o e⟩
 item:=by
  intro X hP hw hK hc i pins s σ H E I hf st hg
  subst hP hw hK
  obtain ⟨⟨old,he⟩,st⟩:=st
  obtain ⟨xs,x,hq,hx⟩:=hg
  obtain ⟨its,rv,p,hz⟩:=I.tuple hq
  obtain ⟨u,hu,ru⟩:=rv.get hx
  have hlt:i<its.toArray.size:=by
   have:=(List.getElem?_eq_some_iff.mp hu).1
   simpa using this
  refine wpAny_pyNext_enum_itemD (Qt (A:=X.A.in1) (I.ok.hd hc) it a hai its.toArray) he ⟨st,p⟩ hlt hei (by simp [hei,hea]) fun x' h1 tk hP heo hit1 ht1 hz1 hk1=>?_
  have hxu:x'=u:=by
   have h1':its[i]?=some x':=by simpa using hP
   rw [hu] at h1';cases h1';rfl
  subst hxu
  refine ⟨.ref s.heap.objs.size,rfl,wpAny_letOwnedTupleGo_enum heo fun h2 he2 hs2=>?_⟩
  replace hs2:Heap.SameBut e h1 h2:=hs2
  have elt:e<s.heap.objs.size:=Heap.lt_size he
  have ht2:=(hs2.2 _ (Nat.ne_of_gt elt)).trans ht1
  have I2:Inv X pins σ (upd H s.heap.objs.size (.tup [.int i,x])) { s with heap:=h2,toks:=tk+1 }:=by
   refine I.yieldTup (us:=[.int i tk,x']) hf (fun b o hb q=>?_) (Nat.le_refl _) ht2 (.cons ⟨_,rfl⟩ (.cons ru .nil)) (by show 2<=sizeLine;decide)
   have n1:b ≠ e:=fun z=>hb (by simp [z])
   have n2:b ≠ it:=fun z=>hb (by simp [z])
   exact (hs2.2 b n1).trans (hk1 b o n1 n2 q)
  refine ⟨.ref s.heap.objs.size,_,I2,rfl,⟨s.heap.objs.size,x,I.hok.fresh (Nat.le_refl _),rfl,fun ys hy=>by rw [I.tuple_inj hy hq];exact hx,rfl⟩,⟨⟨_,by simpa using he2⟩,hit1.1.extBut hs2.extBut (Ne.symm hei)⟩,fun b hb=>?_⟩
  have hlt:b<s.heap.objs.size:=by
   rcases List.mem_cons.mp hb with rfl | hb
   ·exact elt
   ·have e2:b=it:=by simpa using hb
    subst e2
    obtain ⟨o,e1,_⟩:=st
    exact Heap.lt_size e1
  rw [zg (Nat.ne_of_lt hlt)]
  exact (hf b hb).1
 done:=by
  intro X hP hw hK hc i pins s σ H E I hf st hg
  subst hP hw hK
  obtain ⟨⟨old,he⟩,st⟩:=st
  obtain ⟨xs,hq,hx⟩:=hg
  obtain ⟨its,rv,p,hz⟩:=I.tuple hq
  obtain ⟨f0,f1,f2,f3,f4,f5⟩:=hf it (by simp)
  have hl:=rv.length
  exact Qh (I.ok.hd hc) he st p (by simp;omega) fun h' eb=>⟨rfl,I.turned (t':=s.toks) (fun b o hb e=>eb b o hb e) f0 f1 f3 f4 f5⟩
 self:=fun _ _ _ _ _ st h=>by
  obtain ⟨⟨old,he⟩,_⟩:=st
  exact wpAny_pyIter_enum he h
section
variable {X:Cx}{es:List Expr}{kt:Nat}{tp:Pos}
noncomputable def yk (K:PySem.W.Frag)(ta:TA):TI:=fun σ H R=>ta σ H fun vs H1=>∃ a,vs=[.ref a]/\(((∃ xs,SqL K H1 a xs)/\R (Ite K a) H1) \/ ((∃ xs,SqT K H1 a xs)/\R (VS K a) H1))
theorem Qq {e:Expr}{ta:TA}{p pos:Pos}(hg:Gl X "enumerate")(hm:X.mg "enumerate"=none)(ha:PA X [e] ta)(hs:starEach [e] X.env=[(false,eval e X.env)]:=by rfl) :
  PI X (.Tuple es kt tp) (.Call (.Name "enumerate" p) [e] [] pos) (yk X.K ta):=by
 intro pins s σ H R I h
 refine Call_ (jx I hg hm (xj) (PyProof.Rows.callWith_type1 (thn (ha pos pins s σ H _ I h) fun us s1 ⟨vs,H1,I1,r1,q1⟩=>?_) hs rfl))
 obtain ⟨a,e,q⟩:=q1
 subst e
 obtain ⟨u,rfl,ru⟩:=ji r1
 cases ru
 have hb':∀ b ∈ [s1.heap.objs.size+1,s1.heap.objs.size],s1.heap.objs.size<=b:=by
  intro b hb
  simp only [List.mem_cons,List.not_mem_nil,or_false] at hb
  omega
 rcases q with ⟨⟨xs,hq⟩,q⟩ | ⟨⟨xs,hq⟩,q⟩
 ·obtain ⟨its,rv,pl,hz⟩:=I1.list hq
  refine call_enumerate_list pl.isList fun h' he hit hsz hk=>wpAny_pyIter_enum he ?_
  have I2:Inv X pins σ H1 { s1 with heap:=h' }:=I1.kept (t':=s1.toks) hk
  exact ⟨s1.heap.objs.size+1,[s1.heap.objs.size+1,s1.heap.objs.size],_,_,H1,rfl,I2,xY a _ _ (Nat.succ_ne_self _),⟨⟨_,he⟩,hit⟩,fun b hb=>I1.fpOk (hb' b hb) (I1.hok.fresh (hb' b hb)),q⟩
 ·obtain ⟨its,rv,pl,hz⟩:=I1.tuple hq
  have alt:a<s1.heap.objs.size:=by obtain ⟨o,e,_⟩:=pl;exact Heap.lt_size e
  refine wg pl fun h' he hit hk=>wpAny_pyIter_enum he ?_
  have I2:Inv X pins σ H1 { s1 with heap:=h' }:=I1.kept (t':=s1.toks) hk
  exact ⟨s1.heap.objs.size+1,[s1.heap.objs.size+1,s1.heap.objs.size],_,_,H1,rfl,I2,wC a (s1.heap.objs.size+1) s1.heap.objs.size (Nat.succ_ne_self _) (Nat.ne_of_gt (Nat.lt_succ_of_lt alt)) (Nat.ne_of_lt alt),⟨⟨_,he⟩,hit⟩,fun b hb=>I1.fpOk (hb' b hb) (I1.hok.fresh (hb' b hb)),q⟩
end
noncomputable def Rch (os:List Int)(q x:Int):Prop:=∃ k,itn os k q=x
noncomputable def iLT (K:PySem.W.Frag)(tl:TE):TI:=fun σ H R=>tl σ H fun x H1=>∃ a,x=.ref a/\(((∃ xs,SqL K H1 a xs)/\R (Itl K a) H1) \/ ((∃ xs,SqT K H1 a xs)/\R (Itt K a) H1))
theorem JN {X:Cx}{tg:Expr}{l:Expr}{tl:TE}(hl:PE X l tl):PI X tg l (iLT X.K tl):=by
 intro pins s σ H R I h
 refine thn (hl pins s σ H _ I h) fun v s1 ⟨x,H1,I1,r1,q1⟩=>?_
 obtain ⟨a,e,q⟩:=q1
 subst e
 cases r1
 have fo:∀ b ∈ [s1.heap.objs.size],jK X pins H1 b:=fun b hb=>by
  have e:b=s1.heap.objs.size:=by simpa using hb
  subst e
  exact I1.fpOk (Nat.le_refl _) (I1.hok.fresh (Nat.le_refl _))
 rcases q with ⟨⟨xs,hq⟩,q⟩ | ⟨⟨xs,hq⟩,q⟩
 ·obtain ⟨its,rv,p,hz⟩:=I1.list hq
  refine wpAny_pyIter_list p.isList ?_
  exact ⟨s1.heap.objs.size,[s1.heap.objs.size],_,_,H1,rfl,I1.kept (t':=s1.toks) fun b o e=>Heap.get?_push_of_some _ e,QE a _,⟨_,Heap.get?_push_size _ rfl,rfl,rfl⟩,fo,q⟩
 ·obtain ⟨its,rv,p,hz⟩:=I1.tuple hq
  refine wpAny_pyIter_tuple (show s1.heap.IsTuple a its.toArray from p) ?_
  exact ⟨s1.heap.objs.size,[s1.heap.objs.size],_,_,H1,rfl,I1.kept (t':=s1.toks) fun b o e=>Heap.get?_push_of_some _ e,xp a _,⟨_,Heap.get?_push_size _ rfl,rfl,rfl⟩,fo,q⟩
section
variable {X:Cx}
theorem wF:bootBuiltins "sum"=some (.builtin "sum"):=by decide +kernel
theorem xf:∀ {ns:List Int} {us:List Value},zq (ns.map V.int) us->∃ ps:List (Int × Tok),us=ps.map (fun p=>Value.int p.1 p.2)/\ps.map (·.1)=ns
 | [],_,h=>by cases h;exact ⟨[],rfl,rfl⟩
 | n :: ns,_,h=>by
  cases h with
  | cons r rs=>
   obtain ⟨ps,e1,e2⟩:=xf rs
   obtain ⟨t,rfl⟩:=r
   exact ⟨(n,t) :: ps,by rw [e1];rfl,by rw [<- e2];rfl⟩
theorem Kk {ps:List (Int × Tok)}{i:Nat}(h:i<ps.length):numAt ps.toArray i=(ps.map (·.1)).getD i 0:=by
 unfold numAt
 rw [List.getD_eq_getElem?_getD,List.getElem?_map,List.getElem?_toArray]
theorem yq {ps:List (Int × Tok)}:∀ k,k<=ps.length->preSum (numAt ps.toArray) k=((ps.map (·.1)).take k).sum
 | 0,_=>rfl
 | k+1,h=>by
  show preSum (numAt ps.toArray) k+numAt ps.toArray k=_
  rw [yq k (by omega),Kk (by omega)]
  have hk:k<(ps.map (·.1)).length:=by rw [List.length_map];omega
  rw [Zp hk,<- List.take_append_getElem hk,List.sum_append]
  simp
theorem K9:∀ {ns:List Int},(∀ x ∈ ns,0<=x/\x<=(1000000:Int))->0<=ns.sum/\ns.sum<=1000000 * (ns.length:Int)
 | [],_=>by simp
 | n :: ns,h=>by
  have h1:=h n (by simp)
  have h2:=K9 (ns:=ns) fun x hx=>h x (by simp [hx])
  rw [List.sum_cons,List.length_cons]
  omega
theorem kC (hc:X.calm=true):qq X (.builtin "sum") (fun xs H Q=>∃ p ns,xs=[.ref p]/\SqL X.K H p (List.map V.int ns)/\(∀ x ∈ ns,0<=x/\x<=(1000000:Int))/\ns.length<=100000/\Q (.int ns.sum) H):=by
  intro pins s σ H xs us Q I r h
  obtain ⟨p,ns,rfl,hq,hb,hl,q⟩:=h
  obtain ⟨u,rfl,rx⟩:=ji r
  cases rx
  obtain ⟨its,rv,pl,hz⟩:=I.list hq
  obtain ⟨ps,rfl,rfl⟩:=xf rv
  rw [List.length_map] at hl
  have hL:s.heap.IsList p (intItems ps.toArray):=by
    have:=pl.isList
    unfold intItems
    simpa using this
  refine sum_intList (I.ok.hd hc) hL (fun j hj=>?_) fun h' tk t' hk=>?_
  · have hj':j<ps.length:=by simpa using hj
    rw [Kk hj',yq (j+1) (by omega)]
    have hjm:j<(ps.map (·.1)).length:=by rw [List.length_map];exact hj'
    have b1:=hb ((ps.map (·.1)).getD j 0) (by rw [Zp hjm];exact List.getElem_mem hjm)
    have b2:=K9 (ns:=(ps.map (·.1)).take (j+1)) fun x hx=>hb x (List.mem_of_mem_take hx)
    rw [List.length_take,List.length_map] at b2
    constructor
    · constructor <;> omega
    · constructor <;> omega
  · have es : preSum (numAt ps.toArray) ps.toArray.size = (ps.map (·.1)).sum := by
      rw [List.size_toArray,yq _ (Nat.le_refl _),List.take_of_length_le (by rw [List.length_map];exact Nat.le_refl _)]
    rw [es]
    exact ⟨.int (ps.map (·.1)).sum,H,I.turnedL (ch:=[]) (tk:=tk) (fun b hb=>nomatch hb) (fun b o _ eb=>hk b o eb),⟨t',rfl⟩,q⟩
end
section
variable {X:Cx}
end
section
variable {prog:Program}{w:World}{A:Around}{R:Result->Shared->Prop}{s:Shared}
end
noncomputable def CL (J:It)(g:TG)(tt:TT)(tr:St->Hp->(St->Hp->Prop)->Prop)(N:St->Hp->Prop)(σ:St)(H:Hp):Prop:=∃ W:Nat->Nat->St->Hp->Prop,(∃ m,W 0 m σ H)/\∀ i m τ H2,W i m τ H2 ->
 (J.stop i H2/\N τ H2) \/ (J.go i H2/\∃ N1:St->Hp->Prop,(∀ τ' H',N1 τ' H'->∃ m',m'<m/\W (i+1) m' τ' H')/\∀ x H',J.yld i H2 x H'->g x τ H' fun τ2 H3=>tt τ2 H3 fun b H4=>
  if b=true then tr τ2 H4 N1 else N1 τ2 H4)
noncomputable abbrev TR:=St->Hp->(St->Hp->Prop)->Prop
noncomputable def Zb (te:TE)(D:Addr):TR:=fun σ H N=>te σ H fun v H5=>∃ ys,H5 D=some (.lst ys)/\ys.length<sizeLine/\N σ (upd H5 D (.lst (ys ++ [v])))
noncomputable def Wh (wi:TI)(g:TG)(tt:TT)(tr:Addr->TR)(D:Addr):TR:=fun σ H N=>wi σ H fun J H1=>CL J g tt (tr D) N σ H1
section
variable {C:Cx}{elt tg iter:Expr}{ifs:List Expr}{gens:List Comprehension}{scope:Scope}{pos:Pos}{d:Nat}{D:Addr}{g:TG}{tt:TT}{te:TE}{tr:TR}
end
noncomputable def KC (ts:List Nat)(wi:TI)(g:TG)(tt:TT)(tr:Addr->TR):TE:=fun σ H Q=>wi σ H fun J H1=>∀ D,H1 D=none->CL J g tt (tr D) (fun _ H2=>Q (.ref D) H2) (clr ts σ) (upd H1 D (.lst []))
section
variable {X:Cx}{ts:List Nat}{scope:Scope}{tg iter elt:Expr}{ifs:List Expr}{zl:List Comprehension}{wi:TI}{g:TG}{tt:TT}{tr:Addr->TR}{pos:Pos}
end
theorem Qy {ts:List Nat}{wi:TI}{g:TG}{tt:TT}{tr:Addr->TR}{σ:St}{H:Hp}{Q:VK} :
  KC ts wi g tt tr σ H Q=wi σ H (fun J H1=>∀ D,H1 D=none->CL J g tt (tr D) (fun _ H2=>Q (.ref D) H2) (clr ts σ) (upd H1 D (.lst []))):=rfl
theorem QJ {wi:TI}{g:TG}{tt:TT}{tr:Addr->TR}{D:Addr}{σ:St}{H:Hp}{N:St->Hp->Prop}:Wh wi g tt tr D σ H N=wi σ H (fun J H1=>CL J g tt (tr D) N σ H1):=rfl
theorem Qw {te:TE}{D:Addr}{σ:St}{H:Hp}{N:St->Hp->Prop}:Zb te D σ H N=te σ H (fun v H5=>∃ ys,H5 D=some (.lst ys)/\ys.length<sizeLine/\N σ (upd H5 D (.lst (ys ++ [v])))):=rfl
section
variable {P:Program}{w:World}{A:Around}{E:Value->Shared->Prop}{it l:Addr}{items:Array Value}
end
section
variable {X:Cx}{pos:Pos}
end
noncomputable def rep (o:Nat)(G:List Int):List Int:=(List.range (o * G.length)).map fun (i:Nat)=>((i / G.length * G.length:Nat):Int)+G.getD (i % G.length) 0
section
variable {P:Program}{w:World}{A:Around}{E:Value->Shared->Prop}{s:Shared}{z TI TO i1 i2 l1 l2:Addr}{k:Nat}{xs ys:Array Value}{x y a b:Value}{Q:Option Value->Shared->Prop}
theorem Q6 (D:ZipApart z TI TO i1 i2 l1 l2)(hz:IsZip s.heap z TI TO .none)(hTI:IsPair s.heap TI (.ref i1) (.ref i2))(hTO:IsPair s.heap TO a b)(h1:s.heap.IsTupleIter i1 l1 k)(h2:s.heap.IsTupleIter i2 l2 k)(p1:s.heap.IsTuple l1 xs)(p2:s.heap.IsTuple l2 ys)(hx:xs[k]?=some x)(hy:ys[k]?=some y)
  (hQ:∀ h',IsZip h' z TI TO (rawInt s.heap.objs.size)->IsPair h' TO x y->h'.IsTupleIter i1 l1 (k+1)->h'.IsTupleIter i2 l2 (k+1)->IsPair h' s.heap.objs.size x y->h'.objs.size=s.heap.objs.size+1->(∀ c o,c ≠ z->c ≠ TO->c ≠ i1->c ≠ i2->s.heap.get? c=some o->h'.get? c=some o)->Q (some (.ref s.heap.objs.size)) { s with heap:=h' }) :
  wpAny (model P w) A (pyNext (.ref z)) Q E s:=by
 have hT:s.TypeIs (.ref z) "zip":=⟨_,hz,rfl⟩
 unfold pyNext
 refine wpAny_bind (wpAny_attempt (wpAny_callSpecial?_slot (name:=Str.ofString "__next__") hT F.slot_zip_next (wpAny_call_entry F.slot_zip_next hT F.entry_zip_next ?_ (F.args_zip_next_1 _))))
 refine wpAny_bind (m:=field (.ref z) 2) (wpAny_field hz rfl (x:=.bool false) rfl ?_)
 refine wpAny_bind (m:=field (.ref z) 3) (wpAny_field hz rfl (x:=.ref TI) rfl ?_)
 refine wpAny_bind (m:=seqItems? (.ref TI)) (wpAny_seqItems hTI rfl ?_)
 refine wpAny_bind (m:=Builtin.SmallTypes.ownedTupleIsFree (.ref z)) ?_
 unfold Builtin.SmallTypes.ownedTupleIsFree
 refine wpAny_bind (wpAny_field hz rfl (x:=.none) rfl (wpAny_pure ?_))
 refine wpAny_bind (m:=rule "zip.__next__.owned-tuple-again") (wpAny_rule ?_)
 refine wpAny_bind (m:=field (.ref z) 4) (wpAny_field hz rfl (x:=.ref TO) rfl ?_)
 refine wpAny_bind (m:=setField (.ref z) 0 .ellipsis) (wpAny_setField hz rfl (by simp) ?_)
 have sb1:=Heap.SameBut.update s.heap z (Obj.mapFields fun x_1=>x_1.setIfInBounds 0 Value.ellipsis)
 have g1:(s.heap.update z (Obj.mapFields fun x_1=>x_1.setIfInBounds 0 Value.ellipsis)).get? z=some { cls:=Value.type "zip",data:=Data.fields #[.ellipsis,Value.bool false,Value.bool false,Value.ref TI,Value.ref TO] }:=Heap.get?_update_self _ hz (Obj.isFreed_of_fields (Obj.data_mapFields rfl _))
 generalize s.heap.update z (Obj.mapFields fun x_1=>x_1.setIfInBounds 0 Value.ellipsis)=h1' at *
 refine wpAny_bind ?_
 rw [show (#[Value.ref i1,Value.ref i2].toList.zipIdx:List (Value × Nat))=[(.ref i1,0),(.ref i2,1)] from rfl,List.forIn_cons]
 dsimp only
 have it1:h1'.IsTupleIter i1 l1 k:=by obtain ⟨o,ho,r⟩:=h1;exact ⟨o,(sb1.2 i1 D.i1z).trans ho,r⟩
 have tp1:h1'.IsTuple l1 xs:=by obtain ⟨o,ho,r⟩:=p1;exact ⟨o,(sb1.2 l1 D.l1z).trans ho,r⟩
 refine wpAny_bind (wpAny_bind (wpAny_onRaise ?_))
 show wpAny _ _ (Builtin.SmallTypes.nextOf (.ref i1) >>= fun v=>pure (some v)) _ _ _
 refine wpAny_bind (qR it1 tp1 hx fun h2' it2 sb2=>wpAny_pure ?_)
 dsimp only
 have gTO2:IsPair h2' TO a b:=((sb2.2 TO D.TOi1).trans (sb1.2 TO D.TOz)).trans hTO
 refine wpAny_bind (wpAny_seqItems gTO2 rfl ?_)
 dsimp only
 refine wpAny_bind (wpAny_updateSeq_pair gTO2 fun h3' g3 sb3=>?_)
 refine wpAny_bind (wpAny_letGo (wpAny_pure ?_))
 dsimp only
 have g3':IsPair h3' TO x b:=g3
 have it3:h3'.IsTupleIter i2 l2 k:=by obtain ⟨o,ho,r⟩:=h2;exact ⟨o,(((sb3.2 i2 (Ne.symm D.TOi2)).trans (sb2.2 i2 (Ne.symm D.i12))).trans (sb1.2 i2 D.i2z)).trans ho,r⟩
 have tp3:h3'.IsTuple l2 ys:=by obtain ⟨o,ho,r⟩:=p2;exact ⟨o,(((sb3.2 l2 D.l2TO).trans (sb2.2 l2 D.l2i1)).trans (sb1.2 l2 D.l2z)).trans ho,r⟩
 rw [List.forIn_cons]
 refine wpAny_bind (wpAny_bind (wpAny_onRaise ?_))
 show wpAny _ _ (Builtin.SmallTypes.nextOf (.ref i2) >>= fun v=>pure (some v)) _ _ _
 refine wpAny_bind (qR it3 tp3 hy fun h4' it4 sb4=>wpAny_pure ?_)
 dsimp only
 have gTO4:IsPair h4' TO x b:=(sb4.2 TO D.TOi2).trans g3'
 refine wpAny_bind (wpAny_seqItems gTO4 rfl ?_)
 dsimp only
 refine wpAny_bind (wpAny_updateSeq_pair gTO4 fun h5' g5 sb5=>?_)
 refine wpAny_bind (wpAny_letGo (wpAny_pure ?_))
 dsimp only
 have g5':IsPair h5' TO x y:=g5
 rw [List.forIn_nil]
 refine wpAny_pure ?_
 dsimp only
 refine wpAny_bind (wpAny_seqItems g5' rfl ?_)
 dsimp only
 have sz5:h5'.objs.size=s.heap.objs.size:=((((sb5.1).trans sb4.1).trans sb3.1).trans sb2.1).trans sb1.1
 refine wpAny_bind (wpAny_newTuple ?_ (by show 2<=sizeLine;decide))
 have gz5:h5'.get? z=some { cls:=Value.type "zip",data:=Data.fields #[.ellipsis,Value.bool false,Value.bool false,Value.ref TI,Value.ref TO] }:=((((sb5.2 z (Ne.symm D.TOz)).trans (sb4.2 z (Ne.symm D.i2z))).trans (sb3.2 z (Ne.symm D.TOz))).trans (sb2.2 z (Ne.symm D.i1z))).trans g1
 have zlt:z<h5'.objs.size:=Heap.lt_size gz5
 have g6:(h5'.push { cls:=Value.type "tuple",data:=Data.seq #[x,y] }).get? z=_:=Heap.get?_push_of_some _ gz5
 have n6:(h5'.push { cls:=Value.type "tuple",data:=Data.seq #[x,y] }).get? h5'.objs.size=some { cls:=Value.type "tuple",data:=Data.seq #[x,y] }:=Heap.get?_push_size _ rfl
 have ex6:∀ c o,h5'.get? c=some o->(h5'.push { cls:=Value.type "tuple",data:=Data.seq #[x,y] }).get? c=some o:=fun c o e=>Heap.get?_push_of_some _ e
 have sz6:(h5'.push { cls:=Value.type "tuple",data:=Data.seq #[x,y] }).objs.size=h5'.objs.size+1:=Heap.size_push ..
 show wpAny _ _ (Builtin.SmallTypes.ownedTupleHandOut (.ref z) (.ref h5'.objs.size) >>= _) _ _ { s with heap:=h5'.push { cls:=Value.type "tuple",data:=Data.seq #[x,y] } }
 generalize h5'.push { cls:=Value.type "tuple",data:=Data.seq #[x,y] }=h6' at *
 unfold Builtin.SmallTypes.ownedTupleHandOut
 refine wpAny_bind (wpAny_bind (wpAny_setField g6 rfl (by simp) (wpAny_setField (Heap.get?_update_self _ g6 (Obj.isFreed_of_fields (Obj.data_mapFields rfl _))) rfl (by simp) ?_)))
 have sb7:=Heap.SameBut.update h6' z (Obj.mapFields fun x_1=>x_1.setIfInBounds 0 (rawInt h5'.objs.size))
 have g7:(h6'.update z (Obj.mapFields fun x_1=>x_1.setIfInBounds 0 (rawInt h5'.objs.size))).get? z=some { cls:=Value.type "zip",data:=Data.fields #[rawInt h5'.objs.size,Value.bool false,Value.bool false,Value.ref TI,Value.ref TO] }:=Heap.get?_update_self _ g6 (Obj.isFreed_of_fields (Obj.data_mapFields rfl _))
 dsimp only
 generalize h6'.update z (Obj.mapFields fun x_1=>x_1.setIfInBounds 0 (rawInt h5'.objs.size))=h7' at *
 have sb8:=Heap.SameBut.update h7' z (Obj.mapFields fun x_1=>x_1.setIfInBounds 1 (Value.bool false))
 have g8:(h7'.update z (Obj.mapFields fun x_1=>x_1.setIfInBounds 1 (Value.bool false))).get? z=some { cls:=Value.type "zip",data:=Data.fields #[rawInt h5'.objs.size,Value.bool false,Value.bool false,Value.ref TI,Value.ref TO] }:=Heap.get?_update_self _ g7 (Obj.isFreed_of_fields (Obj.data_mapFields rfl _))
 generalize h7'.update z (Obj.mapFields fun x_1=>x_1.setIfInBounds 1 (Value.bool false))=h8' at *
 have far:∀ c o,c ≠ z->h6'.get? c=some o->h8'.get? c=some o:=fun c o hc e=>((sb8.2 c hc).trans (sb7.2 c hc)).trans e
 refine wpAny_pure ⟨_,rfl,wpAny_pure ?_⟩
 rw [sz5] at g8 n6 sz6 zlt ⊢
 refine hQ h8' g8 (far _ _ D.TOz (ex6 _ _ g5')) ?_ ?_ (far _ _ (Nat.ne_of_gt zlt) n6) (by rw [sb8.1,sb7.1,sz6]) fun c o c1 c2 c3 c4 e=>?_
 ·obtain ⟨o,ho,r⟩:=it2
  exact ⟨o,far _ _ D.i1z (ex6 _ _ (((sb5.2 i1 (Ne.symm D.TOi1)).trans (sb4.2 i1 D.i12)).trans ((sb3.2 i1 (Ne.symm D.TOi1)).trans ho))),r⟩
 ·obtain ⟨o,ho,r⟩:=it4
  exact ⟨o,far _ _ D.i2z (ex6 _ _ ((sb5.2 i2 (Ne.symm D.TOi2)).trans ho)),r⟩
 ·exact far _ _ c1 (ex6 _ _ ((sb5.2 c c2).trans ((sb4.2 c c4).trans ((sb3.2 c c2).trans ((sb2.2 c c3).trans ((sb1.2 c c1).trans e))))))
theorem K3 (hh:A.handled=none)(D:ZipApart z TI TO i1 i2 l1 l2)(hz:IsZip s.heap z TI TO .none)(hTI:IsPair s.heap TI (.ref i1) (.ref i2))(h1:s.heap.IsTupleIter i1 l1 k)(p1:s.heap.IsTuple l1 xs)(hx:xs[k]?=none)
  (hQ:∀ h',(∀ c o,c ≠ z->c ≠ TO->c ≠ i1->c ≠ i2->s.heap.get? c=some o->h'.get? c=some o)->Q none { s with heap:=h' }):wpAny (model P w) A (pyNext (.ref z)) Q E s:=by
 have hT:s.TypeIs (.ref z) "zip":=⟨_,hz,rfl⟩
 unfold pyNext
 refine wpAny_bind (wpAny_attempt (wpAny_callSpecial?_slot (name:=Str.ofString "__next__") hT F.slot_zip_next (wpAny_call_entry F.slot_zip_next hT F.entry_zip_next ?_ (F.args_zip_next_1 _))))
 refine wpAny_bind (m:=field (.ref z) 2) (wpAny_field hz rfl (x:=.bool false) rfl ?_)
 refine wpAny_bind (m:=field (.ref z) 3) (wpAny_field hz rfl (x:=.ref TI) rfl ?_)
 refine wpAny_bind (m:=seqItems? (.ref TI)) (wpAny_seqItems hTI rfl ?_)
 refine wpAny_bind (m:=Builtin.SmallTypes.ownedTupleIsFree (.ref z)) ?_
 unfold Builtin.SmallTypes.ownedTupleIsFree
 refine wpAny_bind (wpAny_field hz rfl (x:=.none) rfl (wpAny_pure ?_))
 refine wpAny_bind (m:=rule "zip.__next__.owned-tuple-again") (wpAny_rule ?_)
 refine wpAny_bind (m:=field (.ref z) 4) (wpAny_field hz rfl (x:=.ref TO) rfl ?_)
 refine wpAny_bind (m:=setField (.ref z) 0 .ellipsis) (wpAny_setField hz rfl (by simp) ?_)
 have sb1:=Heap.SameBut.update s.heap z (Obj.mapFields fun x_1=>x_1.setIfInBounds 0 Value.ellipsis)
 have g1:(s.heap.update z (Obj.mapFields fun x_1=>x_1.setIfInBounds 0 Value.ellipsis)).get? z=some { cls:=Value.type "zip",data:=Data.fields #[.ellipsis,Value.bool false,Value.bool false,Value.ref TI,Value.ref TO] }:=Heap.get?_update_self _ hz (Obj.isFreed_of_fields (Obj.data_mapFields rfl _))
 generalize s.heap.update z (Obj.mapFields fun x_1=>x_1.setIfInBounds 0 Value.ellipsis)=h1' at *
 refine wpAny_bind ?_
 rw [show (#[Value.ref i1,Value.ref i2].toList.zipIdx:List (Value × Nat))=[(.ref i1,0),(.ref i2,1)] from rfl,List.forIn_cons]
 dsimp only
 have it1:h1'.IsTupleIter i1 l1 k:=by obtain ⟨o,ho,r⟩:=h1;exact ⟨o,(sb1.2 i1 D.i1z).trans ho,r⟩
 have tp1:h1'.IsTuple l1 xs:=by obtain ⟨o,ho,r⟩:=p1;exact ⟨o,(sb1.2 l1 D.l1z).trans ho,r⟩
 refine wpAny_bind (wpAny_bind (wpAny_onRaise ?_))
 show wpAny _ _ (Builtin.SmallTypes.nextOf (.ref i1) >>= fun v=>pure (some v)) _ _ _
 refine wpAny_bind (jf (by first | exact hh | (show A.in1.handled=none;exact hh)) it1 tp1 hx fun h2' e ex2 ⟨oe,hoe,hce⟩=>?_)
 have gz2:h2'.get? z=some { cls:=Value.type "zip",data:=Data.fields #[.ellipsis,Value.bool false,Value.bool false,Value.ref TI,Value.ref TO] }:=ex2 z _ (Ne.symm D.i1z) g1
 have hez:e ≠ z:=by
  intro h
  subst h
  have hoe':h2'.get? e=some oe:=hoe
  rw [gz2] at hoe'
  cases hoe'
  exact absurd (show Value.type "zip"=Value.type "StopIteration" from hce) (by decide)
 refine wpAny_setField gz2 rfl (by simp) ?_
 have sb3:=Heap.SameBut.update h2' z (Obj.mapFields fun x_1=>x_1.setIfInBounds 0 Value.none)
 dsimp only
 generalize h2'.update z (Obj.mapFields fun x_1=>x_1.setIfInBounds 0 Value.none)=h3' at *
 refine wpAny_bind (wpAny_isInstance (T:="StopIteration") (b:=true) ⟨oe,(sb3.2 e hez).trans hoe,hce⟩ isSubtype_stop ?_)
 refine wpAny_pure (hQ h3' fun c o c1 c2 c3 c4 ec=>?_)
 exact (sb3.2 c c1).trans (ex2 c o c3 ((sb1.2 c c1).trans ec))
end
open AutoSeq1 (wpAny_loadPart') in
theorem J7 (l1 l2:Addr)(xs ys:Array Value)(n1 n2:Nat)(d1 d2:Option Addr)(s1 s2:Array (Option Value)) :
  Meets (Builtin.«zip.__new__» ⟨[.type "zip",.ref l1,.ref l2],[]⟩) (fun _ R s=>s.heap.get? l1=some { cls:=.type "tuple",dict:=d1,data:=.seq xs n1,slots:=s1 }/\s.heap.get? l2=some { cls:=.type "tuple",dict:=d2,data:=.seq ys n2,slots:=s2 } /\
   ∀ g1 g2 g3 g4 g5,g1=s.heap.push { cls:=.type "tuple_iterator",data:=.fields #[.ref l1,.int 0 0] }->g2=g1.push { cls:=.type "tuple_iterator",data:=.fields #[.ref l2,.int 0 0] }->g3=g2.push { cls:=.type "tuple",data:=.seq #[.ref s.heap.objs.size,.ref g1.objs.size] }->g4=g3.push { cls:=.type "tuple",data:=.seq #[.none,.none] }->g5=g4.push { cls:=.type "zip",data:=.fields #[.none,.bool false,.bool false,.ref g2.objs.size,.ref g3.objs.size] }->R (.ok (.ret (.ref g4.objs.size))) { s with heap:=g5 }):=
 .of_wp fun prog w A R s h=>by
  obtain ⟨hp,g,d,tk,os⟩:=s
  obtain ⟨hl1,hl2,h⟩:=h
  have hT1:Heap.IsTuple (Shared.heap ⟨hp,g,d,tk,os⟩) l1 xs:=⟨_,hl1,rfl,n1,rfl⟩
  have hT2:Heap.IsTuple (hp.push { cls:=.type "tuple_iterator",data:=.fields #[.ref l1,.int 0 0] }) l2 ys:=⟨_,Heap.get?_push_of_some _ hl2,rfl,n2,rfl⟩
  have hsub:isSubtype (Value.type "zip") (Value.type "zip")=pure true:=by first | exact sub_zip | rfl
  wp_walk using wpAny_loadPart' hl1,wpAny_pyIter_tuple hT1,wpAny_pyIter_tuple hT2
  exact ⟨_,rfl,h _ _ _ _ _ rfl rfl rfl rfl rfl⟩
theorem QX {P:Program}{w:World}{A:Around}{E:Value->Shared->Prop}{s:Shared}{l1 l2:Addr}{xs ys:Array Value}{Q:Value->Shared->Prop}(hT1:s.heap.IsTuple l1 xs)(hT2:s.heap.IsTuple l2 ys)
  (h:∀ h',IsZip h' (s.heap.objs.size+4) (s.heap.objs.size+2) (s.heap.objs.size+3) .none->IsPair h' (s.heap.objs.size+2) (.ref s.heap.objs.size) (.ref (s.heap.objs.size+1))->IsPair h' (s.heap.objs.size+3) .none .none->h'.IsTupleIter s.heap.objs.size l1 0->h'.IsTupleIter (s.heap.objs.size+1) l2 0->(∀ b o,s.heap.get? b=some o->h'.get? b=some o)->Q (.ref (s.heap.objs.size+4)) { s with heap:=h' }) :
  wpAny (model P w) A (call (.type "zip") [.ref l1,.ref l2]) Q E s:=by
 obtain ⟨⟨c1,d1,dt1,sl1⟩,hl1,hc1,n1,hd1⟩:=hT1
 replace hc1:c1=.type "tuple":=hc1
 replace hd1:dt1=.seq xs n1:=hd1
 subst hc1 hd1
 obtain ⟨⟨c2,d2,dt2,sl2⟩,hl2,hc2,n2,hd2⟩:=hT2
 replace hc2:c2=.type "tuple":=hc2
 replace hd2:dt2=.seq ys n2:=hd2
 subst hc2 hd2
 refine callType_new F.called_zip (by decide) (F.typeCall_zip_2 _ _) (F.newCall_zip_2 _ _) (fun obj=>F.args_object_init_3 obj _ _) F.entry_zip_new (J7 l1 l2 xs ys n1 n2 d1 d2 sl1 sl2) ⟨hl1,hl2,?_⟩
 intro g1 g2 g3 g4 g5 e1 e2 e3 e4 e5
 have z1:g1.objs.size=s.heap.objs.size+1:=by rw [e1,Heap.size_push]
 have z2:g2.objs.size=s.heap.objs.size+2:=by rw [e2,Heap.size_push,z1]
 have z3:g3.objs.size=s.heap.objs.size+3:=by rw [e3,Heap.size_push,z2]
 have z4:g4.objs.size=s.heap.objs.size+4:=by rw [e4,Heap.size_push,z3]
 have k1:∀ b o,s.heap.get? b=some o->g1.get? b=some o:=fun b o x=>by rw [e1];exact Heap.get?_push_of_some _ x
 have k2:∀ b o,g1.get? b=some o->g2.get? b=some o:=fun b o x=>by rw [e2];exact Heap.get?_push_of_some _ x
 have k3:∀ b o,g2.get? b=some o->g3.get? b=some o:=fun b o x=>by rw [e3];exact Heap.get?_push_of_some _ x
 have k4:∀ b o,g3.get? b=some o->g4.get? b=some o:=fun b o x=>by rw [e4];exact Heap.get?_push_of_some _ x
 have k5:∀ b o,g4.get? b=some o->g5.get? b=some o:=fun b o x=>by rw [e5];exact Heap.get?_push_of_some _ x
 have p1:g1.get? s.heap.objs.size=some { cls:=.type "tuple_iterator",data:=.fields #[.ref l1,.int 0 0] }:=by rw [e1];exact Heap.get?_push_size _ rfl
 have p2:g2.get? (s.heap.objs.size+1)=some { cls:=.type "tuple_iterator",data:=.fields #[.ref l2,.int 0 0] }:=by
  have:=Heap.get?_push_size g1 (o:={ cls:=.type "tuple_iterator",data:=.fields #[.ref l2,.int 0 0] }) rfl
  rw [z1] at this;rw [e2];exact this
 have p3:g3.get? (s.heap.objs.size+2)=some { cls:=.type "tuple",data:=.seq #[.ref s.heap.objs.size,.ref (s.heap.objs.size+1)] }:=by
  have:=Heap.get?_push_size g2 (o:={ cls:=.type "tuple",data:=.seq #[.ref s.heap.objs.size,.ref g1.objs.size] }) rfl
  rw [z2] at this;rw [e3,this,z1]
 have p4:g4.get? (s.heap.objs.size+3)=some { cls:=.type "tuple",data:=.seq #[.none,.none] }:=by
  have:=Heap.get?_push_size g3 (o:={ cls:=.type "tuple",data:=.seq #[.none,.none] }) rfl
  rw [z3] at this;rw [e4,this]
 have p5:g5.get? (s.heap.objs.size+4)=some { cls:=.type "zip",data:=.fields #[.none,.bool false,.bool false,.ref (s.heap.objs.size+2),.ref (s.heap.objs.size+3)] }:=by
  have:=Heap.get?_push_size g4 (o:={ cls:=.type "zip",data:=.fields #[.none,.bool false,.bool false,.ref g2.objs.size,.ref g3.objs.size] }) rfl
  rw [z4] at this;rw [e5,this,z2,z3]
 show _/\_
 rw [z4]
 exact ⟨⟨_,p5,rfl⟩,h _ p5 (k5 _ _ (k4 _ _ p3)) (k5 _ _ p4) ⟨_,k5 _ _ (k4 _ _ (k3 _ _ (k2 _ _ p1))),rfl,rfl⟩ ⟨_,k5 _ _ (k4 _ _ (k3 _ _ p2)),rfl,rfl⟩ fun b o x=>k5 _ _ (k4 _ _ (k3 _ _ (k2 _ _ (k1 _ _ x))))⟩
noncomputable def Wj (K:PySem.W.Frag)(a b:Addr):It:=
 ⟨fun i H=>∃ xs ys x y,SqT K H a xs/\SqT K H b ys/\xs[i]?=some x/\ys[i]?=some y,fun i H z H'=>∃ p x y,H p=none/\z=.ref p/\(∀ xs,SqT K H a xs->xs[i]?=some x)/\(∀ ys,SqT K H b ys->ys[i]?=some y)/\H'=upd H p (.tup [x,y]),
  fun i H=>∃ xs,SqT K H a xs/\xs.length<=i⟩
theorem QC {P:Program}{w:World}{K:PySem.W.Frag}{es:List Expr}{kt:Nat}{tp:Pos}(l1 l2 z TI TO i1 i2:Addr)(D:ZipApart z TI TO i1 i2 l1 l2) :
  yh P w K (.Tuple es kt tp) (Wj K l1 l2) [z,TI,TO,i1,i2] z (fun i h=>IsZip h z TI TO .none/\IsPair h TI (.ref i1) (.ref i2)/\(∃ a b,IsPair h TO a b)/\h.IsTupleIter i1 l1 i/\h.IsTupleIter i2 l2 i) where
 mem:=by simp
 obj:=fun i h st b hb=>by
  obtain ⟨hz,hTI,⟨a,c,hTO⟩,⟨o1,e1,c1,d1⟩,⟨o2,e2,c2,d2⟩⟩:=st
  simp only [List.mem_cons,List.not_mem_nil,or_false] at hb
  rcases hb with rfl | rfl | rfl | rfl | rfl
  ·exact ⟨_,hz,fun v q=>by have q':Data.fields _=Data.cell v:=q;cases q'⟩
  ·exact ⟨_,hTI,fun v q=>by have q':Data.seq _ _=Data.cell v:=q;cases q'⟩
  ·exact ⟨_,hTO,fun v q=>by have q':Data.seq _ _=Data.cell v:=q;cases q'⟩
  ·exact ⟨o1,e1,fun v q=>by rw [d1] at q;cases q⟩
  ·exact ⟨o2,e2,fun v q=>by rw [d2] at q;cases q⟩
 keep:=fun i h h' st k=>by
  obtain ⟨hz,hTI,⟨a,c,hTO⟩,h1,h2⟩:=st
  exact ⟨k _ (by simp) _ hz,k _ (by simp) _ hTI,⟨a,c,k _ (by simp) _ hTO⟩,h1.at fun o e=>k _ (by simp) o e,h2.at fun o e=>k _ (by simp) o e⟩
 item:=by
  intro X hP hw hK hc i pins s σ H E I hf st hg
  subst hP hw hK
  obtain ⟨hz,hTI,⟨a,c,hTO⟩,h1,h2⟩:=st
  obtain ⟨xs,ys,x,y,hq1,hq2,hx,hy⟩:=hg
  obtain ⟨its1,rv1,p1,hz1⟩:=I.tuple hq1
  obtain ⟨its2,rv2,p2,hz2⟩:=I.tuple hq2
  obtain ⟨u,hu,ru⟩:=rv1.get hx
  obtain ⟨v,hv,rvv⟩:=rv2.get hy
  refine Q6 D hz hTI hTO h1 h2 p1 p2 (x:=u) (y:=v) (by simpa using hu) (by simpa using hv) fun g1 b1 b2 b3 b4 b5 b6 hk=>?_
  refine ⟨.ref s.heap.objs.size,rfl,wpAny_letOwnedTupleGo_zip b1 fun g2 hz2' hs2=>?_⟩
  replace hs2:Heap.SameBut z g1 g2:=hs2
  have zlt:z<s.heap.objs.size:=Heap.lt_size hz
  have I2:Inv X pins σ (upd H s.heap.objs.size (.tup [x,y])) { s with heap:=g2,toks:=s.toks }:=by
   refine I.yieldTup (us:=[u,v]) hf (fun b o hb e=>?_) (Nat.le_refl _) ((hs2.2 _ (Nat.ne_of_gt zlt)).trans b5) (.cons ru (.cons rvv .nil)) (by show 2<=sizeLine;decide)
   simp only [List.mem_cons,List.not_mem_nil,or_false,not_or] at hb
   exact (hs2.2 b hb.1).trans (hk b o hb.1 hb.2.2.1 hb.2.2.2.1 hb.2.2.2.2 e)
  refine ⟨.ref s.heap.objs.size,_,I2,rfl,⟨s.heap.objs.size,x,y,I.hok.fresh (Nat.le_refl _),rfl,fun xs' h'=>by rw [I.tuple_inj h' hq1];exact hx,fun ys' h'=>by rw [I.tuple_inj h' hq2];exact hy,rfl⟩,
   ⟨hz2',(hs2.2 _ D.TIz).trans (hk _ _ D.TIz D.TITO D.TIi1 D.TIi2 hTI),⟨_,_,(hs2.2 _ D.TOz).trans b2⟩,b3.extBut hs2.extBut D.i1z,b4.extBut hs2.extBut D.i2z⟩,fun b hb=>?_⟩
  have hlt:b<s.heap.objs.size:=by
   simp only [List.mem_cons,List.not_mem_nil,or_false] at hb
   rcases hb with rfl | rfl | rfl | rfl | rfl
   ·exact zlt
   ·exact Heap.lt_size hTI
   ·exact Heap.lt_size hTO
   ·obtain ⟨o,e,_⟩:=h1;exact Heap.lt_size e
   ·obtain ⟨o,e,_⟩:=h2;exact Heap.lt_size e
  rw [zg (Nat.ne_of_lt hlt)]
  exact (hf b hb).1
 done:=by
  intro X hP hw hK hc i pins s σ H E I hf st hg
  subst hP hw hK
  obtain ⟨hz,hTI,⟨a,c,hTO⟩,h1,h2⟩:=st
  obtain ⟨xs,hq1,hend⟩:=hg
  obtain ⟨its1,rv1,p1,hz1⟩:=I.tuple hq1
  have l1:=rv1.length
  refine K3 (I.ok.hd hc) D hz hTI h1 p1 (by simp;omega) fun h' hk=>⟨rfl,I.turnedL (tk:=s.toks) hf fun b o hb e=>?_⟩
  simp only [List.mem_cons,List.not_mem_nil,or_false,not_or] at hb
  exact hk b o hb.1 hb.2.2.1 hb.2.2.2.1 hb.2.2.2.2 e
 self:=fun _ _ _ _ _ st h=>wpAny_pyIter_zip st.1 h
section
variable {X:Cx}{es:List Expr}{kt:Nat}{tp:Pos}
noncomputable def wW (K:PySem.W.Frag)(ta:TA):TI:=fun σ H R=>ta σ H fun vs H1=>∃ a b,vs=[.ref a,.ref b]/\(((∃ xs,SqL K H1 a xs)/\(∃ ys,SqL K H1 b ys)/\R (Itz K a b) H1) \/ ((∃ xs,SqT K H1 a xs)/\(∃ ys,SqT K H1 b ys)/\R (Wj K a b) H1))
theorem Ky {e1 e2:Expr}{ta:TA}{p pos:Pos}(hg:Gl X "zip")(hm:X.mg "zip"=none)(ha:PA X [e1,e2] ta)(hs:starEach [e1,e2] X.env=[(false,eval e1 X.env),(false,eval e2 X.env)]:=by rfl)(hs2:starEach [e2] X.env=[(false,eval e2 X.env)]:=by rfl) :
  PI X (.Tuple es kt tp) (.Call (.Name "zip" p) [e1,e2] [] pos) (wW X.K ta):=by
 intro pins s σ H R I h
 refine Call_ (jx I hg hm QB (PyProof.Rows.callWith_type1 (thn (ha pos pins s σ H _ I h) fun us s1 ⟨vs,H1,I1,r1,q1⟩=>?_) (by rw [hs,hs2]) (by rw [hs2];rfl)))
 obtain ⟨a,b,e,q1⟩:=q1
 subst e
 obtain ⟨u,v,rfl,ru,rv⟩:=yW r1
 cases ru
 cases rv
 rcases q1 with ⟨⟨xs,hq1⟩,⟨ys,hq2⟩,q⟩ | ⟨⟨xs,hq1⟩,⟨ys,hq2⟩,q⟩
 ·obtain ⟨its1,rv1,p1,hz1⟩:=I1.list hq1
  obtain ⟨its2,rv2,p2,hz2⟩:=I1.list hq2
  have la:a<s1.heap.objs.size:=by obtain ⟨o,e,_⟩:=p1.isList;exact Heap.lt_size e
  have lb:b<s1.heap.objs.size:=by obtain ⟨o,e,_⟩:=p2.isList;exact Heap.lt_size e
  refine call_zip_2 p1.isList p2.isList fun h' b1 b2 b3 b4 b5 hsz hk=>wpAny_pyIter_zip b1 ?_
  have I2:Inv X pins σ H1 { s1 with heap:=h' }:=I1.kept (t':=s1.toks) hk
  refine ⟨s1.heap.objs.size+4,[s1.heap.objs.size+4,s1.heap.objs.size+2,s1.heap.objs.size+3,s1.heap.objs.size,s1.heap.objs.size+1],_,_,H1,rfl,I2,Xn a b _ _ _ _ _ (zipApart_new la lb),⟨b1,b2,⟨_,_,b3⟩,b4,b5⟩,fun c hb=>?_,q⟩
  have hb':s1.heap.objs.size<=c:=by
   simp only [List.mem_cons,List.not_mem_nil,or_false] at hb
   rcases hb with rfl | rfl | rfl | rfl | rfl <;> first | exact Nat.le_refl _ | exact Nat.le_add_right _ _
  exact I1.fpOk hb' (I1.hok.fresh hb')
 ·obtain ⟨its1,rv1,p1,hz1⟩:=I1.tuple hq1
  obtain ⟨its2,rv2,p2,hz2⟩:=I1.tuple hq2
  have la:a<s1.heap.objs.size:=by obtain ⟨o,e,_⟩:=p1;exact Heap.lt_size e
  have lb:b<s1.heap.objs.size:=by obtain ⟨o,e,_⟩:=p2;exact Heap.lt_size e
  refine QX p1 p2 fun h' b1 b2 b3 b4 b5 hk=>wpAny_pyIter_zip b1 ?_
  have I2:Inv X pins σ H1 { s1 with heap:=h' }:=I1.kept (t':=s1.toks) hk
  refine ⟨s1.heap.objs.size+4,[s1.heap.objs.size+4,s1.heap.objs.size+2,s1.heap.objs.size+3,s1.heap.objs.size,s1.heap.objs.size+1],_,_,H1,rfl,I2,QC a b _ _ _ _ _ (zipApart_new la lb),⟨b1,b2,⟨_,_,b3⟩,b4,b5⟩,fun c hb=>?_,q⟩
  have hb':s1.heap.objs.size<=c:=by
   simp only [List.mem_cons,List.not_mem_nil,or_false] at hb
   rcases hb with rfl | rfl | rfl | rfl | rfl <;> first | exact Nat.le_refl _ | exact Nat.le_add_right _ _
  exact I1.fpOk hb' (I1.hok.fresh hb')
end
noncomputable def slV (xs:List V)(lo hi st:Option Int):List V:=(sliceRange (sliceBounds lo hi st xs.length).1 (sliceBounds lo hi st xs.length).2.1 (sliceBounds lo hi st xs.length).2.2).filterMap fun k=>xs[k]?
theorem xG {xs:List V}{us:List Value}(r:zq xs us):∀ ks:List Nat,zq (ks.filterMap fun k=>xs[k]?) (ks.filterMap fun k=>us[k]?)
 | []=>.nil
 | k :: ks=>by
  have ih:=xG r ks
  have hl:=r.length
  by_cases h:k<xs.length
  ·have e1:xs[k]?=some xs[k]:=List.getElem?_eq_getElem h
   obtain ⟨u,hu,ru⟩:=r.get e1
   rw [List.filterMap_cons_some e1,List.filterMap_cons_some hu]
   exact .cons ru ih
  ·have e1:xs[k]?=none:=List.getElem?_eq_none (by omega)
   have e2:us[k]?=none:=List.getElem?_eq_none (by omega)
   rw [List.filterMap_cons_none e1,List.filterMap_cons_none e2]
   exact ih
section
variable {X:Cx}{e st:Expr}{te:TE}{lo hi:Option Expr}{tl th ts:TO}{p2 pos:Pos}
end
section
variable {X:Cx}
variable {o e:Expr}{es:List Expr}{to:TE}{t:TA}{name:Str}{apos cpos:Pos}{T id:String}{r:V->List V->Hp->VK->Prop}{K:PySem.W.Frag}
end
section
variable {X:Cx}{tg:Expr}
end
inductive Dd where
 | take (p:Nat) | move (p g:Nat) | lay (g:Nat)
noncomputable abbrev RS:=List (Option Int) × Option Int × List Int
noncomputable def inc (mv:List Int)(x:Int):List Int:=mv.set x.toNat (mv.getD x.toNat 0+1)
inductive Do:Dd->RS->RS->Prop
 | take {p:Nat} {row:List (Option Int)} {mv:List Int} {x:Int}:row[p]?=some (some x)->Do (.take p) (row,none,mv) (row.set p none,some x,inc mv x)
 | move {p g:Nat} {row:List (Option Int)} {h:Option Int} {mv:List Int} {x:Int}:row[p]?=some (some x)->row[g]?=some none->Do (.move p g) (row,h,mv) ((row.set p none).set g (some x),h,inc mv x)
 | lay {g:Nat} {row:List (Option Int)} {mv:List Int} {x:Int}:row[g]?=some none->Do (.lay g) (row,some x,mv) (row.set g (some x),none,inc mv x)
inductive Dos:List Dd->RS->RS->Prop
 | nil {s:RS}:Dos [] s s
 | cons {d:Dd} {l:List Dd} {s t u:RS}:Do d s t->Dos l t u->Dos (d :: l) s u
section
variable {X:Cx}{K:PySem.W.Frag}
end
section
variable {X:Cx}
end
section
variable {X:Cx}
end
theorem kh {prog:Program}{w:World}{A:Around}{E:Value->Shared->Prop}{s:Shared}{sl:Addr}{vl vu vs:Value}{n:Nat}{Q:Int × Int × Nat->Shared->Prop}(hs:s.heap.IsSliceOf sl vl vu vs)(pl:IsPart vl none)(pu:IsPart vu none)(ps:IsPart vs (some (-1)))
  (h:Q ((n:Int) - 1,-1,n) s):wpAny (model prog w) A (Builtin.Slice.sliceApplied (.ref sl) (pure (n:Int))) Q E s:=by
 obtain ⟨os,hos,hcs,hds⟩:=id hs
 unfold Builtin.Slice.sliceApplied Builtin.Slice.sliceFields
 refine wpAny_bind (wpAny_bind (wpAny_field hos hds (x:=vl) rfl (wpAny_bind (wpAny_field hos hds (x:=vu) rfl (wpAny_bind (wpAny_field hos hds (x:=vs) rfl (wpAny_pure ?_)))))))
 refine wpAny_bind (HT.slicePart_ ps ?_)
 show wpAny _ _ (if ((-1:Int) == 0)=true then _ else _) _ _ s
 rw [if_neg (by decide)]
 refine wpAny_bind (HT.slicePart_ pl (wpAny_bind (HT.slicePart_ pu (wpAny_bind (wpAny_pure ?_)))))
 show wpAny _ _ (pure ((n:Int) - 1,(-1:Int),Builtin.Slice.slicePlaces ((n:Int) - 1) (-1) (-1))) _ _ s
 have e:Builtin.Slice.slicePlaces ((n:Int) - 1) (-1) (-1)=n:=by
  unfold Builtin.Slice.slicePlaces
  rw [if_neg (by decide)]
  split
  ·rw [show - -(1:Int)=1 from rfl,Int.ediv_one];omega
  ·omega
 rw [e]
 exact wpAny_pure h
theorem Jz (xs:List Value):((List.range xs.length).filterMap fun (m:Nat)=>xs.toArray[(((xs.length:Int) - 1)+(m:Int) * -1).toNat]?)=xs.reverse:=by
 have go:∀ (ks:List Nat),(∀ k ∈ ks,k<xs.length)->(ks.filterMap fun (m:Nat)=>xs.toArray[(((xs.length:Int) - 1)+(m:Int) * -1).toNat]?)=ks.map fun k=>xs.reverse.getD k .none:=by
  intro ks
  induction ks with
  | nil=>intro _;rfl
  | cons k ks ih=>
   intro hk
   have h0:=hk k (by simp)
   have e1:(((xs.length:Int) - 1)+(k:Int) * -1).toNat=xs.length - 1 - k:=by omega
   have e2:xs.toArray[(((xs.length:Int) - 1)+(k:Int) * -1).toNat]?=some (xs.reverse.getD k .none):=by
    rw [e1,List.getElem?_toArray,List.getD_eq_getElem?_getD,List.getElem?_reverse h0,List.getElem?_eq_getElem (by omega)];rfl
   rw [List.filterMap_cons_some (f:=fun (m:Nat)=>xs.toArray[(((xs.length:Int) - 1)+(m:Int) * -1).toNat]?) e2,ih fun j hj=>hk j (by simp [hj])];rfl
 rw [go _ fun k hk=>by simpa using hk]
 refine List.ext_getElem? fun i=>?_
 rw [List.getElem?_map]
 by_cases h:i<xs.length
 ·rw [List.getElem?_range h,List.getElem?_eq_getElem (by rw [List.length_reverse];exact h)]
  show some (xs.reverse.getD i .none)=_
  rw [List.getD_eq_getElem?_getD,List.getElem?_eq_getElem (by rw [List.length_reverse];exact h)];rfl
 ·rw [List.getElem?_eq_none (by rw [List.length_range];omega),List.getElem?_eq_none (by rw [List.length_reverse];omega)];rfl
theorem j6 {prog:Program}{w:World}{A:Around}{E:Value->Shared->Prop}{s:Shared}{t sl:Addr}{xs:List Value}{vl vu vs:Value}{Q:Value->Shared->Prop}(ht:IsTup s.heap t xs.toArray)(hs:s.heap.IsSliceOf sl vl vu vs)(pl:IsPart vl none)(pu:IsPart vu none)(ps:IsPart vs (some (-1)))
  (h:Q (.ref s.heap.objs.size) { s with heap:=s.heap.push { cls:=.type "tuple",data:=.seq xs.reverse.toArray } })
  (hsz:xs.length<=sizeLine):wpAny (model prog w) A (getItem (.ref t) (.ref sl)) Q E s:=by
 have htake:sizeOk (.seq xs.reverse.toArray):=by
  show xs.reverse.toArray.size<=sizeLine
  rw [List.size_toArray,List.length_reverse];exact hsz
 obtain ⟨os,hos,hcs,hds⟩:=id hs
 have hTs:s.TypeIs (.ref sl) "slice":=⟨os,hos,hcs⟩
 unfold getItem
 try with_reducible refine wpAny_holding ?_
 first | refine wpAny_bind (wpAny_pure ?_) | skip
 refine wpAny_bind (wpAny_sequenceKey ht.typeIs (by decide) ?_)
 refine wpAny_bind (wpAny_callSpecial?_slot (name:=Str.ofString "__getitem__") ht.typeIs PyProof.Rows.slot_tuple_getitem
  (wpAny_call_entry PyProof.Rows.slot_tuple_getitem ht.typeIs PyProof.Rows.entry_tuple_getitem ?_ (PyProof.Rows.args_tuple_getitem _ _)))
 show wpAny _ _ (Builtin.Tuple.tupleItemsOf (.ref t) >>= _) _ _ s
 refine wpAny_bind (tupleItemsOf_ ht ?_)
 refine wpAny_bind (wpAny_typeOf hTs ?_)
 rw [if_pos (by decide)]
 refine wpAny_bind (kh hs pl pu ps ?_)
 have hno:¬ ((((xs.toArray.size:Int) - 1) == 0 && (-1:Int) == 1 && xs.toArray.size == xs.toArray.size)=true):=by
  intro q
  rw [Bool.and_eq_true,Bool.and_eq_true] at q
  exact absurd q.1.2 (by decide)
 show wpAny _ _ (if (((xs.toArray.size:Int) - 1) == 0 && (-1:Int) == 1 && xs.toArray.size == xs.toArray.size)=true then _ else _) _ _ s
 have ep:=Jz xs
 rw [if_neg hno]
 rw [List.size_toArray]
 rw [ep]
 first
  | exact wpAny_bind (m:=Builtin.Tuple.tupleExact _) (wpAny_newObj_type (wpAny_pure ⟨_,rfl,wpAny_pure h⟩) htake)
  | exact wpAny_bind (m:=Builtin.Tuple.tupleExact _) (wpAny_newObj_type (wpAny_bind (wpAny_pure (wpAny_pure ⟨_,rfl,wpAny_pure h⟩))) htake)
  | exact wpAny_bind (wpAny_bind (m:=Builtin.Tuple.tupleExact _) (wpAny_newObj_type (wpAny_pure (wpAny_pure ⟨_,rfl,wpAny_pure h⟩)) htake))
  | exact wpAny_bind (wpAny_bind (m:=Builtin.Tuple.tupleExact _) (wpAny_newObj_type (wpAny_pure ⟨_,rfl,wpAny_pure h⟩) htake))
theorem XU (xs:List V):slV xs none none (some (-1))=xs.reverse:=by
 have hb:sliceBounds none none (some (-1)) xs.length=((xs.length:Int) - 1,-1,-1):=rfl
 unfold slV
 rw [hb]
 have key:sliceRange ((xs.length:Int) - 1) (-1) (-1)=(List.range xs.length).map fun k=>xs.length - 1 - k:=by
  unfold sliceRange
  dsimp only
  rw [if_neg (by decide)]
  have hc:((if (xs.length:Int) - 1 > -1 then ((xs.length:Int) - 1 - -1 - -1 - 1) / - -1 else 0).toNat)=xs.length:=by
   split
   ·rw [show - -(1:Int)=1 from rfl,Int.ediv_one];omega
   ·omega
  rw [hc]
  refine List.map_congr_left fun k hk=>?_
  have:k<xs.length:=by simpa using hk
  omega
 show List.filterMap (fun k=>xs[k]?) (sliceRange ((xs.length:Int) - 1) (-1) (-1))=_
 rw [key,List.filterMap_map]
 have go:∀ (ks:List Nat),(∀ k ∈ ks,k<xs.length)->List.filterMap ((fun k=>xs[k]?) ∘ fun k=>xs.length - 1 - k) ks=ks.map fun k=>xs.reverse.getD k .non:=by
  intro ks
  induction ks with
  | nil=>intro _;rfl
  | cons k ks ih=>
   intro hk
   have h0:=hk k (by simp)
   have e2:((fun k=>xs[k]?) ∘ fun k=>xs.length - 1 - k) k=some (xs.reverse.getD k .non):=by
    show xs[xs.length - 1 - k]?=_
    rw [List.getD_eq_getElem?_getD,List.getElem?_reverse h0,List.getElem?_eq_getElem (by omega)];rfl
   rw [List.filterMap_cons_some e2,ih fun j hj=>hk j (by simp [hj])];rfl
 rw [go _ fun k hk=>by simpa using hk]
 refine List.ext_getElem? fun i=>?_
 rw [List.getElem?_map]
 by_cases h:i<xs.length
 ·rw [List.getElem?_range h,List.getElem?_eq_getElem (by rw [List.length_reverse];exact h)]
  show some (xs.reverse.getD i .non)=_
  rw [List.getD_eq_getElem?_getD,List.getElem?_eq_getElem (by rw [List.length_reverse];exact h)];rfl
 ·rw [List.getElem?_eq_none (by rw [List.length_range];omega),List.getElem?_eq_none (by rw [List.length_reverse];omega)];rfl
theorem zq.rev {xs:List V}{us:List Value}(r:zq xs us):zq xs.reverse us.reverse:=by
 induction r with
 | nil=>exact .nil
 | cons h _ ih=>rw [List.reverse_cons,List.reverse_cons];exact ih.append (.cons h .nil)
noncomputable def YI (K:PySem.W.Frag):V->Hp->VK->Prop:=fun x H Q=>∃ a xs,x=.ref a/\((SqL K H a xs/\∀ p,H p=none->Q (.ref p) (upd H p (.lst xs.reverse))) \/ (SqT K H a xs/\∀ p,H p=none->Q (.ref p) (upd H p (.tup xs.reverse))))
noncomputable def Wr (K:PySem.W.Frag)(te:TE)(ts:TO):TE:=fun σ H Q=>te σ H fun x H1=>ts σ H1 fun z H2=>z=some (-1)/\YI K x H2 Q
section
variable {X:Cx}{e st:Expr}{te:TE}{ts:TO}{p2 pos:Pos}
theorem QQ (he:PE X e te)(hst:PO X (some st) ts):PE X (.Subscript e (.Slice none none (some st) p2) pos) (Wr X.K te ts):=by
 intro pins s σ H Q I h
 refine Subscript_ (thn (he pins s σ H _ I h) fun v s1 ⟨x,H1,I1,r1,q1⟩=>?_)
 refine wpAny_Slice (thn (yz pins s1 σ H1 (fun z H2=>z=none/\ts σ H2 fun z H2=>z=some (-1)/\YI X.K x H2 Q) I1 ⟨rfl,q1⟩) fun vl s2 ⟨l,H2,I2,pl,e1,q2⟩=>thn (yz pins s2 σ H2 (fun z H3=>z=none/\ts σ H3 fun z H2=>z=some (-1)/\YI X.K x H2 Q) I2 ⟨rfl,q2⟩) fun vu s3 ⟨u,H3,I3,pu,e2,q3⟩=>thn (hst pins s3 σ H3 _ I3 q3) fun vs s4 ⟨z,H4,I4,pz,e3,q4⟩=>?_)
 subst e1 e2 e3
 have I5:Inv X pins σ H4 { s4 with heap:=s4.heap.push { cls:=.type "slice",data:=.fields #[vl,vu,vs] } }:=I4.kept (t':=s4.toks) fun b ob q=>Heap.get?_push_of_some _ q
 obtain ⟨a,xs,rfl,q⟩:=q4
 cases r1
 rcases q with ⟨hx,q⟩ | ⟨hx,q⟩
 ·obtain ⟨its,r,ht,hz⟩:=I5.list hx
  have hlen:=r.length
  show wpAny (model X.prog X.w) X.A (subscriptTail e (.Slice none none (some st) p2) (.ref a) (.ref s4.heap.objs.size)) (EP X pins σ Q) X.xe { s4 with heap:=s4.heap.push { cls:=.type "slice",data:=.fields #[vl,vu,vs] } }
  refine tail_any (ops:=[.ref a,.ref s4.heap.objs.size]) ht.isList.typeIs slot_list_getitem.lookup ?_ rfl
  refine wpAny_getItem_list_slice ht.isList (Heap.IsSliceOf.new ..) pl pu pz (by decide) ?_ (by rw [List.size_toArray];omega)
  have e1:slicePick its.toArray none none (some (-1))=(List.filterMap (fun x=>its[x]?) (sliceRange (sliceBounds none none (some (-1)) xs.length).1 (sliceBounds none none (some (-1)) xs.length).2.1 (sliceBounds none none (some (-1)) xs.length).2.2)).toArray:=by
   unfold slicePick
   rw [List.size_toArray,<- hlen]
   simp only [List.getElem?_toArray]
  rw [e1]
  have rr:=xG r (sliceRange (sliceBounds none none (some (-1)) xs.length).1 (sliceBounds none none (some (-1)) xs.length).2.1 (sliceBounds none none (some (-1)) xs.length).2.2)
  have er:(List.filterMap (fun k=>xs[k]?) (sliceRange (sliceBounds none none (some (-1)) xs.length).1 (sliceBounds none none (some (-1)) xs.length).2.1 (sliceBounds none none (some (-1)) xs.length).2.2))=xs.reverse:=XU xs
  rw [er] at rr
  refine ⟨.ref _,_,I5.laid (t':=s4.toks) (o:=.lst xs.reverse) (fun b ob q=>Heap.get?_push_of_some _ q) (Nat.le_refl _) ?_,rfl,q _ (I5.hok.fresh (Nat.le_refl _))⟩
  refine ⟨?_,_,0,rr,Heap.get?_push_size _ rfl⟩
  rw [List.length_reverse];exact hz
 ·obtain ⟨its,r,ht,hz⟩:=I5.tuple hx
  show wpAny (model X.prog X.w) X.A (subscriptTail e (.Slice none none (some st) p2) (.ref a) (.ref s4.heap.objs.size)) (EP X pins σ Q) X.xe { s4 with heap:=s4.heap.push { cls:=.type "slice",data:=.fields #[vl,vu,vs] } }
  refine tail_any (ops:=[.ref a,.ref s4.heap.objs.size]) ht.typeIs PyProof.Rows.slot_tuple_getitem.lookup ?_ rfl
  refine j6 ht (Heap.IsSliceOf.new ..) pl pu pz ?_ (by rw [<- r.length];exact hz)
  refine ⟨.ref _,_,I5.laid (t':=s4.toks) (o:=.tup xs.reverse) (fun b ob q=>Heap.get?_push_of_some _ q) (Nat.le_refl _) ?_,rfl,q _ (I5.hok.fresh (Nat.le_refl _))⟩
  exact ⟨by rw [List.length_reverse];exact hz,_,zq.rev r,yE.new _ _⟩
end
section
variable {X:Cx}
end
noncomputable def AtM (K:PySem.W.Frag)(C:Addr)(m qual:Str)(st:Stmt):Prop:=∃ f fd,Fun K m qual st f fd/\B0 K C m f
section
variable {X:Cx}{k:Nat}{C:Addr}{m x:Str}{ps:List Str}{sp:Sp}{p pos apos:Pos}{o e:Expr}{es:List Expr}{t:TA}{to:TE}
end
structure KD (K:PySem.W.Frag)(w:World)(a:Addr)(kvs:List (Key × V)):Prop where
 ex:∃ es ep,K.lookup a=some ⟨.type "dict",none,.dict es ep,#[]⟩/\∀ P:Program,PySem.KeysOf (zG P w) es/\∃ vs,KV kvs vs/\Pairs (zG P w) es.toList vs/\(vs.map (·.1)).Nodup
 ns:(a == sysModules)=false
section
variable {X:Cx}{e:Expr}{ty:TE}{p apos cpos:Pos}{x:Str}{a:Addr}{kvs:List (Key × V)}
end
section
variable {X:Cx}
end
theorem BM {K:PySem.W.Frag}{C f:Addr}{m qual:Str}{st:Stmt}{oc kV dc pm cd ct:Value}{od an:Option Addr}{sl:Array (Option Value)}(a1:PySem.W.findIn K (.ref C) m=some (some (.ref f)))(i1:PySem.W.isFn K (.ref f)=true)
  (l1:K.lookup f=some ⟨oc,od,.func (PySem.W.fnOf m qual (qC st) (qd st) (zn st) .none kV dc pm an cd ct),sl⟩) (c1:PySem.W.codeIn K cd qual=true) (k1:PySem.W.keepIn K (.ref f)=true):AtM K C m qual st:=⟨f,_,JY l1 c1 k1,⟨a1,i1,k1⟩⟩
section
variable {X:Cx}
end
structure ScG (X:Cx)(ts:List Nat)(scope:Scope):Prop where
 kind:scope.kind=.function
 cell:∀ y ∈ scope.names,y.2=.cell->scope.names.lookup y.1=some .cell
 loc:∀ y ∈ scope.names,y.2=.local->scope.names.lookup y.1=some .local
 free:∀ y ∈ scope.names,y.2=.free->X.env.kindOf y.1=some .cell \/ X.env.kindOf y.1=some .free
 ts:∀ (i:Nat) x,X.N[i]?=some x->scope.names.lookup x=some .local \/ scope.names.lookup x=some .cell->i ∈ ts
section
variable {X:Cx}{ts:List Nat}{scope:Scope}{pins:List (Addr × Obj)}{σ:St}{H:Hp}{s:Shared}{fp:List Addr}
end
section
variable {X:Cx}{ts:List Nat}{scope:Scope}{tg iter elt:Expr}{ifs:List Expr}{wi:TI}{g:TG}{tt:TT}{te:TE}{pos:Pos}
end
section
variable {X:Cx}
end
inductive Dat where
 | non | bl (b:Bool) | int (i:Int) | str (x:Str) | ty (n:String) | lst (l:List Dat) | tup (l:List Dat) | rng (lo hi c:Int) | scr (K:PySem.W.Frag) (l:List Int)
inductive AV where
 | d (x:Dat) | ref (a:Addr)
inductive MO where
 | lst (l:List AV) | dK (kvs:List (Key × AV)) | ins (C:Addr) (fs:List (Str × AV)) | exc (C:Addr) (fs:List (Str × V)) | tb (R:Array Value->Addr->Obj->Prop) | dT (kvs:List (List Key × AV))
noncomputable def BL (a C:Addr)(d:Option Addr):HO:=.ext fun h=>∃ o,h.get? a=some o/\o.cls=.ref C/\o.dict=d/\∃ vs,o.data=.fields vs
noncomputable abbrev MH:=Addr->Option MO
noncomputable abbrev ASt:=List (Option AV)
noncomputable def mup (M:MH)(a:Addr)(o:MO):MH:=fun b=>if b=a then some o else M b
theorem zf {M:MH}{a:Addr}{o:MO}:mup M a o a=some o:=if_pos rfl
theorem zh {M:MH}{a b:Addr}{o:MO}(h:b ≠ a):mup M a o b=M b:=if_neg h
theorem Xw {M:MH}{a:Addr}{o u:MO}:mup (mup M a o) a u=mup M a u:=by
 funext b;unfold mup;split <;> rfl
noncomputable abbrev Own:=Addr->Prop
inductive Rep (H:Hp) (O:Own):V->Dat->Prop
 | non:Rep H O .non .non
 | bl {b:Bool}:Rep H O (.bl b) (.bl b)
 | int {i:Int}:Rep H O (.int i) (.int i)
 | str {x:Str}:Rep H O (.str x) (.str x)
 | ty {n:String}:Rep H O (.ty n) (.ty n)
 | lst {a:Addr} {xs:List V} {l:List Dat}:¬ O a->H a=some (.lst xs)->xs.length=l.length->(∀ (i:Nat) x d,xs[i]?=some x->l[i]?=some d->Rep H O x d)->Rep H O (.ref a) (.lst l)
 | tup {a:Addr} {xs:List V} {l:List Dat}:¬ O a->H a=some (.tup xs)->xs.length=l.length->(∀ (i:Nat) x d,xs[i]?=some x->l[i]?=some d->Rep H O x d)->Rep H O (.ref a) (.tup l)
 | rng {a:Addr} {lo hi c:Int}:¬ O a->H a=some (BZ a lo hi c)->Rep H O (.ref a) (.rng lo hi c)
 | scr {a:Addr} {K:PySem.W.Frag} {l:List Int}:¬ O a->Rd H a (.lst (l.map V.int))->Rep H O (.ref a) (.scr K l)
 | scrK {a:Addr} {K:PySem.W.Frag} {l:List Int}:SqL K (fun _=>none) a (l.map V.int)->Rep H O (.ref a) (.scr K l)
noncomputable def QK (H:Hp)(O:Own)(xs:List V)(l:List Dat):Prop:=xs.length=l.length/\∀ (i:Nat) x d,xs[i]?=some x->l[i]?=some d->Rep H O x d
noncomputable def zj (H:Hp)(O:Own)(M:MH)(v:V):AV->Prop
 | .d x=>Rep H O v x
 | .ref a=>v=.ref a/\M a ≠ none
noncomputable def zd (H:Hp)(O:Own)(M:MH)(xs:List V)(l:List AV):Prop:=xs.length=l.length/\∀ (i:Nat) x d,xs[i]?=some x->l[i]?=some d->zj H O M x d
noncomputable def jg {κ:Type}(H:Hp)(O:Own)(M:MH)(xs:List (κ × V))(l:List (κ × AV)):Prop:=xs.map (·.1)=l.map (·.1)/\zd H O M (xs.map (·.2)) (l.map (·.2))
noncomputable def qf (H:Hp)(O:Own)(M:MH)(a:Addr):MO->Prop
 | .lst l=>∃ xs,H a=some (.lst xs)/\zd H O M xs l
 | .dK kvs=>∃ xs,H a=some (.dK xs)/\jg H O M xs kvs
 | .dT kvs=>∃ xs,H a=some (.dT xs)/\jg H O M xs kvs
 | .ins C fs=>∃ dx xs,H a=some (.ins C dx xs)/\jg H O M xs fs/\O dx/\M dx=none/\H dx=some (.own a)
 | .exc C fs=>∃ d,H a=some (BL a C d)/\(d=none/\fs=[] \/ ∃ dx,d=some dx/\H dx=some (.xd fs)/\O dx/\M dx=none)
 | .tb R=>∃ ps,H a=some (.tbl ps)/\(ps=#[] \/ ∃ c oc u,R ps c oc/\¬ O c/\H c=some (.frz oc u))
structure Wf (H:Hp)(O:Own)(M:MH):Prop where
 mo:∀ a o,M a=some o->qf H O M a o
 own:∀ a,M a ≠ none->O a
 al:∀ a,O a->∃ o,H a=some o/\∀ xs,o ≠ .tup xs
theorem Wf.ne {H:Hp}{O:Own}{M:MH}(w:Wf H O M)(a:Addr)(h:O a):H a ≠ none:=by obtain ⟨o,e,_⟩:=w.al a h;rw [e];exact fun z=>nomatch z
structure Ext (H:Hp)(O:Own)(M:MH)(H':Hp)(O':Own)(M':MH):Prop where
 fix:∀ a o,¬ O a->H a=some o->H' a=some o/\¬ O' a
 prv:∀ a,O a->M a=none->H' a=H a/\O' a/\M' a=none
 mst:∀ a,M a ≠ none->M' a ≠ none
theorem Ext.refl {H:Hp}{O:Own}{M:MH}:Ext H O M H O M:=⟨fun _ _ h e=>⟨e,h⟩,fun _ h e=>⟨rfl,h,e⟩,fun _ h=>h⟩
theorem Ext.trans {H H1 H2:Hp}{O O1 O2:Own}{M M1 M2:MH}(a:Ext H O M H1 O1 M1)(b:Ext H1 O1 M1 H2 O2 M2):Ext H O M H2 O2 M2:=
 ⟨fun x o h e=>let ⟨e1,h1⟩:=a.fix x o h e;b.fix x o h1 e1,fun x h e=>by
  obtain ⟨e1,h1,n1⟩:=a.prv x h e
  obtain ⟨e2,h2,n2⟩:=b.prv x h1 n1
  exact ⟨e2.trans e1,h2,n2⟩,fun x h=>b.mst x (a.mst x h)⟩
theorem Rep.imp {H H':Hp}{O O':Own}(k:∀ a o,¬ O a->H a=some o->H' a=some o/\¬ O' a){v:V}{d:Dat}(r:Rep H O v d):Rep H' O' v d:=by
 induction r with
 | non=>exact .non
 | bl=>exact .bl
 | int=>exact .int
 | str=>exact .str
 | ty=>exact .ty
 | lst h e l _ ih=>exact .lst (k _ _ h e).2 (k _ _ h e).1 l ih
 | tup h e l _ ih=>exact .tup (k _ _ h e).2 (k _ _ h e).1 l ih
 | rng h e=>exact .rng (k _ _ h e).2 (k _ _ h e).1
 | scr h e=>
  rcases e with e | ⟨o,e⟩
  ·exact .scr (k _ _ h e).2 (.inl (k _ _ h e).1)
  ·exact .scr (k _ _ h e).2 (.inr ⟨o,(k _ _ h e).1⟩)
 | scrK h=>exact .scrK h
theorem XX {H:Hp}{O:Own}{K:PySem.W.Frag}{v:V}{l:List Int}(r:Rep H O v (.scr K l)):∃ a,v=.ref a/\SqL K H a (l.map V.int):=by
 cases r with
 | @scr a _ _ _ h=>exact ⟨a,rfl,.inl h⟩
 | @scrK a _ _ h=>
  rcases h with (h | ⟨o,h⟩) | h
  ·cases h
  ·cases h
  ·exact ⟨a,rfl,.inr h⟩
theorem Y0 {H:Hp}{O:Own}{K:PySem.W.Frag}{a:Addr}{l:List Int}(ho:∀ a,¬ O a)(h:SqL K H a (l.map V.int)):Rep H O (.ref a) (.scr K l):=by
 rcases h with h | h
 ·exact .scr (ho a) h
 ·exact .scrK (.inr h)
theorem Rep.ext {H H':Hp}{O O':Own}{M M':MH}(k:Ext H O M H' O' M'){v:V}{d:Dat}(r:Rep H O v d):Rep H' O' v d:=r.imp k.fix
theorem zj.ext {H H':Hp}{O O':Own}{M M':MH}(k:Ext H O M H' O' M'){v:V}{x:AV}(r:zj H O M v x):zj H' O' M' v x:=by
 cases x with
 | d x=>exact Rep.ext k r
 | ref a=>exact ⟨r.1,k.mst a r.2⟩
theorem zd.ext {H H':Hp}{O O':Own}{M M':MH}(k:Ext H O M H' O' M'){xs:List V}{l:List AV}(r:zd H O M xs l):zd H' O' M' xs l:=⟨r.1,fun i x d e1 e2=>(r.2 i x d e1 e2).ext k⟩
theorem jg.ext {κ:Type}{H H':Hp}{O O':Own}{M M':MH}(k:Ext H O M H' O' M'){xs:List (κ × V)}{l:List (κ × AV)}(r:jg H O M xs l):jg H' O' M' xs l:=⟨r.1,r.2.ext k⟩
theorem zd.nil {H:Hp}{O:Own}{M:MH}:zd H O M [] []:=⟨rfl,fun i x d e=>by simp at e⟩
theorem zd.cons {H:Hp}{O:Own}{M:MH}{x:V}{d:AV}{xs:List V}{l:List AV}(h:zj H O M x d)(r:zd H O M xs l):zd H O M (x :: xs) (d :: l):=
 ⟨by simp [r.1],fun i y e h1 h2=>by
  cases i with
  | zero=>simp at h1 h2;subst h1 h2;exact h
  | succ i=>simp at h1 h2;exact r.2 i y e h1 h2⟩
theorem zd.head {H:Hp}{O:Own}{M:MH}{x:V}{d:AV}{xs:List V}{l:List AV}(r:zd H O M (x :: xs) (d :: l)):zj H O M x d/\zd H O M xs l:=
 ⟨r.2 0 x d rfl rfl,by have:=r.1;simpa using this,fun i y e h1 h2=>r.2 (i+1) y e (by simpa using h1) (by simpa using h2)⟩
theorem zd.nil_inv {H:Hp}{O:Own}{M:MH}{xs:List V}(r:zd H O M xs []):xs=[]:=List.length_eq_zero_iff.mp r.1
theorem zd.cons_inv {H:Hp}{O:Own}{M:MH}{xs:List V}{d:AV}{l:List AV}(r:zd H O M xs (d :: l)):∃ x r',xs=x :: r'/\zj H O M x d/\zd H O M r' l:=by
 cases xs with
 | nil=>have:=r.1;simp at this
 | cons x r'=>exact ⟨x,r',rfl,r.head⟩
theorem zd.append {H:Hp}{O:Own}{M:MH}{xs ys:List V}{l m:List AV}(a:zd H O M xs l)(b:zd H O M ys m):zd H O M (xs ++ ys) (l ++ m):=
 ⟨by rw [List.length_append,List.length_append,a.1,b.1],fun i x d h1 h2=>by
  by_cases c:i<xs.length
  ·rw [List.getElem?_append_left c] at h1
   rw [List.getElem?_append_left (by rw [<- a.1];exact c)] at h2
   exact a.2 i x d h1 h2
  ·rw [List.getElem?_append_right (by omega)] at h1
   rw [List.getElem?_append_right (by rw [<- a.1];omega),<- a.1] at h2
   exact b.2 _ x d h1 h2⟩
theorem zd.snoc {H:Hp}{O:Own}{M:MH}{xs:List V}{l:List AV}{x:V}{d:AV}(a:zd H O M xs l)(b:zj H O M x d):zd H O M (xs ++ [x]) (l ++ [d]):=a.append (.cons b .nil)
theorem zd.set {H:Hp}{O:Own}{M:MH}{xs:List V}{l:List AV}{x:V}{d:AV}(a:zd H O M xs l)(b:zj H O M x d)(j:Nat):zd H O M (xs.set j x) (l.set j d):=
 ⟨by rw [List.length_set,List.length_set,a.1],fun i y e h1 h2=>by
  rw [List.getElem?_set] at h1 h2
  by_cases c:j=i
  ·rw [if_pos c] at h1 h2
   split at h1
   ·split at h2
    ·cases h1;cases h2;exact b
    ·cases h2
   ·cases h1
  ·rw [if_neg c] at h1 h2
   exact a.2 i y e h1 h2⟩
theorem zd.get {H:Hp}{O:Own}{M:MH}{xs:List V}{l:List AV}(a:zd H O M xs l){i:Nat}{d:AV}(h:l[i]?=some d):∃ x,xs[i]?=some x/\zj H O M x d:=by
 have hi:=(List.getElem?_eq_some_iff.mp h).1
 have hx:i<xs.length:=by rw [a.1];exact hi
 exact ⟨xs[i],by simp [hx],a.2 i _ _ (by simp [hx]) h⟩
theorem QK.av {H:Hp}{O:Own}{M:MH}{xs:List V}{l:List Dat}(r:QK H O xs l):zd H O M xs (l.map .d):=
 ⟨by rw [List.length_map];exact r.1,fun i x d h1 h2=>by
  rw [List.getElem?_map] at h2
  cases e:l[i]? with
  | none=>rw [e] at h2;cases h2
  | some y=>rw [e] at h2;cases h2;exact r.2 i x y h1 e⟩
theorem zd.pure {H:Hp}{O:Own}{M:MH}{xs:List V}{l:List Dat}(r:zd H O M xs (l.map .d)):QK H O xs l:=
 ⟨by have:=r.1;rwa [List.length_map] at this,fun i x d h1 h2=>r.2 i x (.d d) h1 (by rw [List.getElem?_map,h2];rfl)⟩
theorem Wf.fresh {H:Hp}{O:Own}{M:MH}(w:Wf H O M){p:Addr}(h:H p=none):¬ O p/\M p=none:=by
 have:¬ O p:=fun z=>w.ne p z h
 exact ⟨this,by
  cases e:M p with
  | none=>rfl
  | some o=>exact absurd (w.own p (by rw [e];exact fun z=>nomatch z)) this⟩
theorem qf.ext {H H':Hp}{O O':Own}{M M':MH}(k:Ext H O M H' O' M'){a:Addr}{o:MO}(e:H' a=H a)(r:qf H O M a o):qf H' O' M' a o:=by
 cases o with
 | lst l=>obtain ⟨xs,h,r⟩:=r;exact ⟨xs,e.trans h,r.ext k⟩
 | dK l=>obtain ⟨xs,h,r⟩:=r;exact ⟨xs,e.trans h,r.ext k⟩
 | dT l=>obtain ⟨xs,h,r⟩:=r;exact ⟨xs,e.trans h,r.ext k⟩
 | ins C fs=>obtain ⟨dx,xs,h,r,q1,q2,q3⟩:=r;obtain ⟨x1,x2,x3⟩:=k.prv dx q1 q2;exact ⟨dx,xs,e.trans h,r.ext k,x2,x3,x1.trans q3⟩
 | exc C fs=>
  obtain ⟨d,h,r⟩:=r
  refine ⟨d,e.trans h,?_⟩
  rcases r with r | ⟨dx,e1,h1,h2,h3⟩
  ·exact .inl r
  ·obtain ⟨x1,x2,x3⟩:=k.prv dx h2 h3;exact .inr ⟨dx,e1,x1.trans h1,x2,x3⟩
 | tb R=>obtain ⟨ps,h,r⟩:=r;exact ⟨ps,e.trans h,r.imp id fun ⟨c,oc,u,h1,h2,h3⟩=>⟨c,oc,u,h1,(k.fix c _ h2 h3).2,(k.fix c _ h2 h3).1⟩⟩
theorem zW {H:Hp}{O:Own}{M:MH}(w:Wf H O M){p:Addr}(h:H p=none)(o:HO):Ext H O M (upd H p o) O M:=
 ⟨fun a u ha e=>⟨by rw [zg (zi e h)];exact e,ha⟩,fun a ha e=>⟨zg (fun z=>w.ne a ha (by rw [z];exact h)),ha,e⟩,fun _ h=>h⟩
theorem kA {H:Hp}{O:Own}{M:MH}(w:Wf H O M){p:Addr}(h:H p=none)(o:HO):Wf (upd H p o) O M:=
 ⟨fun a mo e=>qf.ext (zW w h o) (zg (fun z=>by rw [z,(w.fresh h).2] at e;cases e)) (w.mo a mo e),w.own,fun a ha=>by
  have:a ≠ p:=fun z=>w.ne a ha (by rw [z];exact h)
  rw [zg this];exact w.al a ha⟩
noncomputable def xo (O:Own)(p:Addr):Own:=fun a=>a=p \/ O a
noncomputable def X9 (O:Own)(p:Addr):Own:=fun a=>a ≠ p/\O a
theorem yI {H:Hp}{O:Own}{M:MH}(w:Wf H O M){p:Addr}(h:H p=none)(o:HO)(mo:MO):Ext H O M (upd H p o) (xo O p) (mup M p mo):=
 ⟨fun a u ha e=>⟨by rw [zg (zi e h)];exact e,fun z=>z.elim (zi e h) ha⟩,fun a ha e=>by
  have hne:a ≠ p:=fun z=>w.ne a ha (by rw [z];exact h)
  exact ⟨zg hne,.inr ha,by rw [zh hne];exact e⟩,fun a ha=>by
  by_cases e:a=p
  ·rw [e,zf];exact fun z=>nomatch z
  ·rw [zh e];exact ha⟩
theorem Xr {H:Hp}{O:Own}{M:MH}(w:Wf H O M){p:Addr}(h:H p=none){o:HO}{mo:MO}(ho:∀ xs,o ≠ .tup xs)(r:qf (upd H p o) (xo O p) (mup M p mo) p mo):Wf (upd H p o) (xo O p) (mup M p mo):=by
 refine ⟨fun a u e=>?_,fun a ha=>?_,fun a ha=>?_⟩
 ·by_cases c:a=p
  ·subst c;rw [zf] at e;cases e;exact r
  ·rw [zh c] at e
   exact qf.ext (yI w h o mo) (zg c) (w.mo a u e)
 ·by_cases c:a=p
  ·exact .inl c
  ·rw [zh c] at ha;exact .inr (w.own a ha)
 ·by_cases c:a=p
  ·rw [c,zk];exact ⟨o,rfl,ho⟩
  ·rw [zg c];exact w.al a (ha.resolve_left c)
theorem qX {H:Hp}{O:Own}{M:MH}(w:Wf H O M){p:Addr}(h:M p ≠ none)(o:HO)(mo:MO):Ext H O M (upd H p o) O (mup M p mo):=
 ⟨fun a u ha e=>⟨by rw [zg (fun z=>ha (by rw [z];exact w.own p h))];exact e,ha⟩,fun a ha e=>by
  have hne:a ≠ p:=fun z=>h (by rw [<- z];exact e)
  exact ⟨zg hne,ha,by rw [zh hne];exact e⟩,fun a ha=>by
  by_cases e:a=p
  ·rw [e,zf];exact fun z=>nomatch z
  ·rw [zh e];exact ha⟩
theorem wX {H:Hp}{O:Own}{M:MH}(w:Wf H O M){p:Addr}(h:M p ≠ none){o:HO}{mo:MO}(ho:∀ xs,o ≠ .tup xs)(r:qf (upd H p o) O (mup M p mo) p mo):Wf (upd H p o) O (mup M p mo):=by
 refine ⟨fun a u e=>?_,fun a ha=>?_,fun a ha=>?_⟩
 ·by_cases c:a=p
  ·subst c;rw [zf] at e;cases e;exact r
  ·rw [zh c] at e
   exact qf.ext (qX w h o mo) (zg c) (w.mo a u e)
 ·by_cases c:a=p
  ·subst c;exact w.own a h
  ·rw [zh c] at ha;exact w.own a ha
 ·by_cases c:a=p
  ·rw [c,zk];exact ⟨o,rfl,ho⟩
  ·rw [zg c];exact w.al a ha
theorem qY {H:Hp}{O:Own}{M:MH}(w:Wf H O M){p:Addr}(h:H p=none)(o:HO):Ext H O M (upd H p o) (xo O p) M:=
 ⟨fun a u ha e=>⟨by rw [zg (zi e h)];exact e,fun z=>z.elim (zi e h) ha⟩,fun a ha e=>by
  have hne:a ≠ p:=fun z=>w.ne a ha (by rw [z];exact h)
  exact ⟨zg hne,.inr ha,e⟩,fun _ h=>h⟩
theorem yS {H:Hp}{O:Own}{M:MH}(w:Wf H O M){p:Addr}(h:H p=none)(o:HO)(ho:∀ xs,o ≠ .tup xs):Wf (upd H p o) (xo O p) M:=
 ⟨fun a mo e=>qf.ext (qY w h o) (zg (fun z=>by rw [z,(w.fresh h).2] at e;cases e)) (w.mo a mo e),fun a ha=>.inr (w.own a ha),fun a ha=>by
  by_cases c:a=p
  ·rw [c,zk];exact ⟨o,rfl,ho⟩
  ·rw [zg c];exact w.al a (ha.resolve_left c)⟩
theorem kK {H:Hp}{O:Own}{p:Addr}(hO:O p)(o:HO):∀ a u,¬ O a->H a=some u->upd H p o a=some u/\¬ O a:=fun a u ha e=>⟨by rw [zg (fun z=>ha (by rw [z];exact hO))];exact e,ha⟩
theorem zj.imp {H H':Hp}{O O':Own}{M M':MH}(k:∀ a o,¬ O a->H a=some o->H' a=some o/\¬ O' a)(hm:∀ a,M a ≠ none->M' a ≠ none){v:V}{x:AV}(r:zj H O M v x):zj H' O' M' v x:=by
 cases x with
 | d x=>exact Rep.imp k r
 | ref a=>exact ⟨r.1,hm a r.2⟩
theorem zd.imp {H H':Hp}{O O':Own}{M M':MH}(k:∀ a o,¬ O a->H a=some o->H' a=some o/\¬ O' a)(hm:∀ a,M a ≠ none->M' a ≠ none){xs:List V}{l:List AV}(r:zd H O M xs l):zd H' O' M' xs l:=⟨r.1,fun i x d e1 e2=>(r.2 i x d e1 e2).imp k hm⟩
theorem qf.imp {H H':Hp}{O O':Own}{M:MH}(k:∀ a o,¬ O a->H a=some o->H' a=some o/\¬ O' a){a:Addr}{o:MO}(e:H' a=H a)(hd:∀ dx x,O dx->M dx=none->H dx=some x->((∃ b,x=.own b) \/ ∃ fs,x=.xd fs)->H' dx=some x/\O' dx)(r:qf H O M a o):qf H' O' M a o:=by
 cases o with
 | lst l=>obtain ⟨xs,h,r⟩:=r;exact ⟨xs,e.trans h,r.imp k fun _ z=>z⟩
 | dK l=>obtain ⟨xs,h,r⟩:=r;exact ⟨xs,e.trans h,r.1,r.2.imp k fun _ z=>z⟩
 | dT l=>obtain ⟨xs,h,r⟩:=r;exact ⟨xs,e.trans h,r.1,r.2.imp k fun _ z=>z⟩
 | ins C fs=>obtain ⟨dx,xs,h,r,q1,q2,q3⟩:=r;exact ⟨dx,xs,e.trans h,⟨r.1,r.2.imp k fun _ z=>z⟩,(hd dx _ q1 q2 q3 (.inl ⟨_,rfl⟩)).2,q2,(hd dx _ q1 q2 q3 (.inl ⟨_,rfl⟩)).1⟩
 | exc C fs=>
  obtain ⟨d,h,r⟩:=r
  refine ⟨d,e.trans h,?_⟩
  rcases r with r | ⟨dx,e1,h1,h2,h3⟩
  ·exact .inl r
  ·obtain ⟨x1,x2⟩:=hd dx _ h2 h3 h1 (.inr ⟨_,rfl⟩);exact .inr ⟨dx,e1,x1,x2,h3⟩
 | tb R=>obtain ⟨ps,h,r⟩:=r;exact ⟨ps,e.trans h,r.imp id fun ⟨c,oc,u,h1,h2,h3⟩=>⟨c,oc,u,h1,(k c _ h2 h3).2,(k c _ h2 h3).1⟩⟩
theorem we {H:Hp}{O:Own}{M:MH}(w:Wf H O M){p:Addr}(hO:O p)(hM:M p=none){xs:List V}(hp:H p=some (.lst xs))(o:HO)(ho:∀ xs,o ≠ .tup xs):Wf (upd H p o) O M:=
 ⟨fun a mo e=>qf.imp (kK hO o) (zg (fun z=>by rw [z,hM] at e;cases e)) (fun dx x h1 _ h3 h4=>⟨by rw [zg (xC h3 hp (by rcases h4 with ⟨_,rfl⟩ | ⟨_,rfl⟩ <;> exact fun z=>nomatch z))];exact h3,h1⟩) (w.mo a mo e),w.own,fun a ha=>by
  by_cases c:a=p
  ·rw [c,zk];exact ⟨o,rfl,ho⟩
  ·rw [zg c];exact w.al a ha⟩
theorem kl {H:Hp}{O:Own}(p:Addr):∀ a u,¬ O a->H a=some u->H a=some u/\¬ X9 O p a:=fun a u ha e=>⟨e,fun z=>ha z.2⟩
theorem Q9 {H:Hp}{O:Own}{M:MH}(w:Wf H O M){p:Addr}(hM:M p=none){xs:List V}(hp:H p=some (.lst xs)):Wf H (X9 O p) M:=
 ⟨fun a mo e=>qf.imp (kl p) rfl (fun dx x h1 _ h3 h4=>⟨h3,⟨xC h3 hp (by rcases h4 with ⟨_,rfl⟩ | ⟨_,rfl⟩ <;> exact fun z=>nomatch z),h1⟩⟩) (w.mo a mo e),fun a ha=>⟨fun z=>ha (by rw [z];exact hM),w.own a ha⟩,fun a ha=>w.al a ha.2⟩
noncomputable abbrev AK:=AV->MH->Prop
noncomputable abbrev AE:=ASt->MH->AK->Prop
noncomputable abbrev AT:=ASt->MH->(Bool->MH->Prop)->Prop
noncomputable abbrev AA:=ASt->MH->(List AV->MH->Prop)->Prop
structure jN where
 nx:ASt->MH->Prop
 rt:AK
 bk:ASt->MH->Prop:=fun _ _=>False
 ct:ASt->MH->Prop:=fun _ _=>False
noncomputable abbrev AS:=MH->jN->ASt->MH->Prop
noncomputable abbrev AG:=AV->ASt->MH->(ASt->MH->Prop)->Prop
noncomputable abbrev AGs:=List AV->ASt->MH->(ASt->MH->Prop)->Prop
noncomputable abbrev AI:=ASt->MH->(List AV->(MH->Prop)->MH->Prop)->Prop
structure Er (H:Hp)(O:Own)(M:MH)(σ:St)(ρ:ASt):Prop where
 len:σ.length=ρ.length
 get:∀ (i:Nat) x,ρ[i]?=some (some x)->∃ v,σ[i]?=some (some v)/\zj H O M v x
theorem Er.ext {H H':Hp}{O O':Own}{M M':MH}{σ:St}{ρ:ASt}(e:Er H O M σ ρ)(k:Ext H O M H' O' M'):Er H' O' M' σ ρ:=⟨e.len,fun i x h=>let ⟨v,h1,h2⟩:=e.get i x h;⟨v,h1,h2.ext k⟩⟩
theorem Er.set {H:Hp}{O:Own}{M:MH}{σ:St}{ρ:ASt}(e:Er H O M σ ρ){v:V}{x:AV}(r:zj H O M v x)(j:Nat):Er H O M (σ.set j (some v)) (ρ.set j (some x)):=
 ⟨by rw [List.length_set,List.length_set,e.len],fun i y h=>by
  rw [List.getElem?_set] at h ⊢
  by_cases c:j=i
  ·rw [if_pos c] at h ⊢
   by_cases c2:j<ρ.length
   ·rw [if_pos c2] at h;rw [if_pos (by rw [e.len];exact c2)];cases h;exact ⟨v,rfl,r⟩
   ·rw [if_neg c2] at h;cases h
  ·rw [if_neg c] at h ⊢;exact e.get i y h⟩
noncomputable def wV:List Nat->ASt->ASt
 | [],σ=>σ
 | j :: r,σ=>wV r (σ.set j none)
theorem Er.clr {H:Hp}{O:Own}{M:MH}:∀ (ts:List Nat) {σ:St} {ρ:ASt},Er H O M σ ρ->Er H O M (clr ts σ) (wV ts ρ)
  | [],_,_,e=>e
  | j :: r, σ, ρ, e => Er.clr r ⟨by rw [List.length_set, List.length_set, e.len], fun i y h => by
      rw [List.getElem?_set] at h ⊢
      by_cases c:j=i
      · rw [if_pos c] at h
        split at h <;> cases h
      · rw [if_neg c] at h ⊢;exact e.get i y h⟩
structure zx (t:TE)(a:AE):Prop where
 go:∀ {σ:St} {H:Hp} {O:Own} {ρ:ASt} {M:MH} {Q:VK} {Q':AK},Wf H O M->Er H O M σ ρ->a ρ M Q'->(∀ x M' v H' O',Q' x M'->Ext H O M H' O' M'->Wf H' O' M'->zj H' O' M' v x->Q v H')->t σ H Q
structure jc (t:TT)(a:AT):Prop where
 go:∀ {σ:St} {H:Hp} {O:Own} {ρ:ASt} {M:MH} {Q:Bool->Hp->Prop} {Q':Bool->MH->Prop},Wf H O M->Er H O M σ ρ->a ρ M Q'->(∀ b M' H' O',Q' b M'->Ext H O M H' O' M'->Wf H' O' M'->Q b H')->t σ H Q
structure jL (t:TA)(a:AA):Prop where
 go:∀ {σ:St} {H:Hp} {O:Own} {ρ:ASt} {M:MH} {Q:List V->Hp->Prop} {Q':List AV->MH->Prop},Wf H O M->Er H O M σ ρ->a ρ M Q'->(∀ x M' v H' O',Q' x M'->Ext H O M H' O' M'->Wf H' O' M'->zd H' O' M' v x->Q v H')->t σ H Q
structure wZ (t:TE)(a:ASt->MH->(List AV->MH->Prop)->Prop):Prop where
 go:∀ {σ:St} {H:Hp} {O:Own} {ρ:ASt} {M:MH} {Q:VK} {Q':List AV->MH->Prop},Wf H O M->Er H O M σ ρ->a ρ M Q' ->
  (∀ l M' p xs H' O',Q' l M'->Ext H O M H' O' M'->Wf H' O' M'->O' p->M' p=none->H p=none->H' p=some (.lst xs)->zd H' O' M' xs l->Q (.ref p) H')->t σ H Q
noncomputable abbrev AR2:=AV->AV->MH->AK->Prop
structure Jt (r:R2)(a:AR2):Prop where
 go:∀ {x y:V} {dx dy:AV} {H:Hp} {O:Own} {M:MH} {Q:VK} {Q':AK},Wf H O M->zj H O M x dx->zj H O M y dy->a dx dy M Q'->(∀ x M' v H' O',Q' x M'->Ext H O M H' O' M'->Wf H' O' M'->zj H' O' M' v x->Q v H')->r x y H Q
structure Bt (r:V->Hp->VK->Prop)(a:AV->MH->AK->Prop):Prop where
 go:∀ {x:V} {dx:AV} {H:Hp} {O:Own} {M:MH} {Q:VK} {Q':AK},Wf H O M->zj H O M x dx->a dx M Q'->(∀ x M' v H' O',Q' x M'->Ext H O M H' O' M'->Wf H' O' M'->zj H' O' M' v x->Q v H')->r x H Q
structure vX (r:List V->Hp->VK->Prop)(a:List AV->MH->AK->Prop):Prop where
 go:∀ {vs:List V} {xs:List AV} {H:Hp} {O:Own} {M:MH} {Q:VK} {Q':AK},Wf H O M->zd H O M vs xs->a xs M Q'->(∀ x M' v H' O',Q' x M'->Ext H O M H' O' M'->Wf H' O' M'->zj H' O' M' v x->Q v H')->r vs H Q
noncomputable def BD (i:Nat):AE:=fun ρ M Q=>∃ x,ρ[i]?=some (some x)/\Q x M
noncomputable def aC (d:Dat):AE:=fun _ M Q=>Q (.d d) M
theorem YK {i:Nat}:zx (Yc i) (BD i):=⟨fun w e ⟨x,h,q⟩ k=>let ⟨v,h1,h2⟩:=e.get i x h;⟨v,h1,k _ _ _ _ _ q .refl w h2⟩⟩
theorem Ad {i:Int}:zx (tC (.int i)) (aC (.int i)):=⟨fun w _ q k=>k _ _ _ _ _ q .refl w .int⟩
theorem VL {i:Bool}:zx (tC (.bl i)) (aC (.bl i)):=⟨fun w _ q k=>k _ _ _ _ _ q .refl w .bl⟩
theorem Wn {i:String}:zx (tC (.ty i)) (aC (.ty i)):=⟨fun w _ q k=>k _ _ _ _ _ q .refl w .ty⟩
noncomputable def aOp (r:AR2)(a b:AE):AE:=fun ρ M Q=>a ρ M fun x M1=>b ρ M1 fun y M2=>r x y M2 Q
theorem V6 {r:R2}{ra:AR2}{t u:TE}{a b:AE}(hr:Jt r ra)(h1:zx t a)(h2:zx u b):zx (tOp r t u) (aOp ra a b):=
 ⟨fun w e q k=>h1.go w e q fun x M1 v H1 O1 q1 k1 w1 r1=>h2.go w1 (e.ext k1) q1 fun y M2 u H2 O2 q2 k2 w2 r2=>hr.go w2 (r1.ext k2) r2 q2 fun z M3 v3 H3 O3 q3 k3 w3 r3=>k z M3 v3 H3 O3 q3 ((k1.trans k2).trans k3) w3 r3⟩
noncomputable def aUn (r:AV->MH->AK->Prop)(a:AE):AE:=fun ρ M Q=>a ρ M fun x M1=>r x M1 Q
theorem V2 {r:V->Hp->VK->Prop}{ra:AV->MH->AK->Prop}{t:TE}{a:AE}(hr:Bt r ra)(h1:zx t a):zx (tUn r t) (aUn ra a):=
 ⟨fun w e q k=>h1.go w e q fun x M1 v H1 O1 q1 k1 w1 r1=>hr.go w1 r1 q1 fun z M3 v3 H3 O3 q3 k3 w3 r3=>k z M3 v3 H3 O3 q3 (k1.trans k3) w3 r3⟩
noncomputable def A7:AA:=fun _ M Q=>Q [] M
noncomputable def Vo (a:AE)(b:AA):AA:=fun ρ M Q=>a ρ M fun x M1=>b ρ M1 fun xs M2=>Q (x :: xs) M2
theorem XC:jL Ah A7:=⟨fun w _ q k=>k _ _ _ _ _ q .refl w .nil⟩
theorem Jj {t:TE}{u:TA}{a:AE}{b:AA}(h1:zx t a)(h2:jL u b):jL (Jl t u) (Vo a b):=
 ⟨fun w e q k=>h1.go w e q fun x M1 v H1 O1 q1 k1 w1 r1=>h2.go w1 (e.ext k1) q1 fun y M2 u H2 O2 q2 k2 w2 r2=>k _ _ _ _ _ q2 (k1.trans k2) w2 (.cons (r1.ext k2) r2)⟩
theorem wb {H:Hp}{O:Own}{M:MH}(is:List Int):zd H O M (is.map V.int) (is.map fun i=>.d (.int i)):=by
 induction is with
 | nil=>exact .nil
 | cons i r ih=>exact .cons .int ih
noncomputable def aCB (r:List AV->MH->AK->Prop)(b:AA):AE:=fun ρ M Q=>b ρ M fun xs M1=>r xs M1 Q
theorem WZ {r:List V->Hp->VK->Prop}{ra:List AV->MH->AK->Prop}{u:TA}{b:AA}(hr:vX r ra)(h2:jL u b):zx (tCB r u) (aCB ra b):=
 ⟨fun w e q k=>h2.go w e q fun x M1 v H1 O1 q1 k1 w1 r1=>hr.go w1 r1 q1 fun z M3 v3 H3 O3 q3 k3 w3 r3=>k z M3 v3 H3 O3 q3 (k1.trans k3) w3 r3⟩
noncomputable abbrev ASp:=List AV->MH->AK->Prop
noncomputable def cSp (a:ASp):Sp:=fun vs H Q _=>∃ xs M O Q',Wf H O M/\zd H O M vs xs/\a xs M Q'/\∀ x M' v H' O',Q' x M'->Ext H O M H' O' M'->Wf H' O' M'->zj H' O' M' v x->Q v H'
noncomputable def Vl (sp:ASp)(b:AA):AE:=fun ρ M Q=>b ρ M fun xs M1=>sp xs M1 Q
theorem KS {sp:ASp}{u:TA}{b:AA}(h:jL u b):zx (ZV (cSp sp) [] E0 u) (Vl sp b):=
 ⟨fun w e q k=>h.go w e q fun x M1 v H1 O1 q1 k1 w1 r1=>⟨x,M1,O1,_,w1,by rw [List.append_nil];exact r1,q1,fun z M3 v3 H3 O3 q3 k3 w3 r3=>k z M3 v3 H3 O3 q3 (k1.trans k3) w3 r3⟩⟩
noncomputable def pur:List AV->Option (List Dat)
 | []=>some []
 | .d x :: r=>match pur r with | some l=>some (x :: l) | none=>none
 | .ref _ :: _=>none
theorem Ye:pur []=some []:=rfl
theorem Xb {x:Dat}{r:List AV}{l:List Dat}(h:pur r=some l):pur (.d x :: r)=some (x :: l):=by unfold pur;rw [h]
theorem ql (l:List Dat):pur (l.map .d)=some l:=by
 induction l with
 | nil=>rfl
 | cons x r ih=>exact Xb ih
theorem qP:∀ {xs:List AV} {l:List Dat},pur xs=some l->xs=l.map .d
 | [],l,h=>by cases h;rfl
 | .d x :: r,l,h=>by
  unfold pur at h
  cases e:pur r with
  | none=>rw [e] at h;cases h
  | some m=>rw [e] at h;cases h;rw [qP e];rfl
 | .ref _ :: _,_,h=>by cases h
theorem Ext.shown {H H':Hp}{O O':Own}{M M':MH}{p:Addr}(w:Wf H O M)(k:Ext H O M H' O' M')(h:H p=none):Ext H O M H' (X9 O' p) M':=
 ⟨fun a o ha e=>⟨(k.fix a o ha e).1,fun z=>(k.fix a o ha e).2 z.2⟩,fun a ha e=>⟨(k.prv a ha e).1,⟨fun z=>w.ne a ha (by rw [z];exact h),(k.prv a ha e).2.1⟩,(k.prv a ha e).2.2⟩,k.mst⟩
theorem Ext.owned {H H':Hp}{O O':Own}{M M':MH}{p:Addr}(w:Wf H O M)(k:Ext H O M H' O' M')(h:H p=none)(mo:MO):Ext H O M H' O' (mup M' p mo):=
 ⟨k.fix,fun a ha e=>⟨(k.prv a ha e).1,(k.prv a ha e).2.1,by rw [zh (fun z=>w.ne a ha (by rw [z];exact h))];exact (k.prv a ha e).2.2⟩,fun a ha=>by
  by_cases e:a=p
  ·rw [e,zf];exact fun z=>nomatch z
  ·rw [zh e];exact k.mst a ha⟩
theorem v4 {H:Hp}{O:Own}{M:MH}{p:Addr}(w:Wf H O M)(hO:O p)(hM:M p=none){xs:List V}{l:List AV}(hp:H p=some (.lst xs))(r:zd H O M xs l):Wf H O (mup M p (.lst l)):=by
 have km:∀ a,M a ≠ none->mup M p (.lst l) a ≠ none:=fun a ha=>by
  by_cases e:a=p
  ·rw [e,zf];exact fun z=>nomatch z
  ·rw [zh e];exact ha
 refine ⟨fun a u e=>?_,fun a ha=>?_,w.al⟩
 ·by_cases c:a=p
  ·subst c;rw [zf] at e;cases e;exact ⟨xs,hp,r.imp (fun _ _ z h=>⟨h,z⟩) km⟩
  ·rw [zh c] at e
   have:=w.mo a u e
   cases u with
   | lst m=>obtain ⟨ys,h1,h2⟩:=this;exact ⟨ys,h1,h2.imp (fun _ _ z h=>⟨h,z⟩) km⟩
   | dK m=>obtain ⟨ys,h1,h2⟩:=this;exact ⟨ys,h1,h2.1,h2.2.imp (fun _ _ z h=>⟨h,z⟩) km⟩
   | dT m=>obtain ⟨ys,h1,h2⟩:=this;exact ⟨ys,h1,h2.1,h2.2.imp (fun _ _ z h=>⟨h,z⟩) km⟩
   | ins C fs=>
    obtain ⟨dx,ys,h1,h2,h3,h4,h5⟩:=this
    exact ⟨dx,ys,h1,⟨h2.1,h2.2.imp (fun _ _ z h=>⟨h,z⟩) km⟩,h3,by rw [zh (xC h5 hp (fun z=>nomatch z))];exact h4,h5⟩
   | exc C fs=>
    obtain ⟨d,h1,h2⟩:=this
    refine ⟨d,h1,?_⟩
    rcases h2 with h2 | ⟨dx,e1,h2,h3,h4⟩
    ·exact .inl h2
    ·exact .inr ⟨dx,e1,h2,h3,by rw [zh (xC h2 hp (fun z=>nomatch z))];exact h4⟩
   | tb R=>exact this
 ·by_cases c:a=p
  ·rw [c];exact hO
  ·rw [zh c] at ha;exact w.own a ha
noncomputable abbrev AF:=ASt->MH->(List AV->MH->Prop)->Prop
noncomputable def aFz (a:AF):AE:=fun ρ M Q=>a ρ M fun l M'=>∃ ds,pur l=some ds/\Q (.d (.lst ds)) M'
noncomputable def aOw (a:AF):AE:=fun ρ M Q=>a ρ M fun l M'=>∀ p,M p=none->M' p=none->Q (.ref p) (mup M' p (.lst l))
noncomputable def A5 (t:TE):TE:=t
theorem jY {X:Cx}{e:Expr}{t:TE}(h:PE X e t):PE X e (A5 t):=h
theorem yi {t:TE}{a:AF}(h:wZ t a):zx t (aFz a):=
 ⟨fun w e q k=>h.go w e q fun l M' p xs H' O' q1 k1 w1 o1 m1 hp hx r1=>by
  obtain ⟨ds,e1,q2⟩:=q1
  rw [qP e1] at r1
  have r2:=r1.pure
  exact k _ _ _ _ _ q2 (k1.shown w hp) (Q9 w1 m1 hx) (Rep.lst (fun z=>z.1 rfl) hx r2.1 fun i x d e1 e2=>(r2.2 i x d e1 e2).imp (kl p))⟩
theorem YQ {t:TE}{a:AF}(h:wZ t a):zx (A5 t) (aOw a):=
 ⟨fun w e q k=>h.go w e q fun l M' p xs H' O' q1 k1 w1 o1 m1 hp hx r1=>k _ _ _ _ _ (q1 p (w.fresh hp).2 m1) (k1.owned w hp _) (v4 w1 o1 m1 hx r1) ⟨rfl,by rw [zf];exact fun z=>nomatch z⟩⟩
noncomputable def Bu (b:AA):AF:=fun ρ M Q=>b ρ M fun xs M1=>xs.length<=sizeLine/\Q xs M1
theorem Kn {u:TA}{b:AA}(h:jL u b):wZ (Ac u) (Bu b):=
 ⟨fun w e q k=>h.go w e q fun x M1 v H1 O1 q1 k1 w1 r1=>⟨by rw [r1.1];exact q1.1,fun p hp=>
  k x M1 p v _ _ q1.2 (k1.trans (qY w1 hp _)) (yS w1 hp _ (fun _ z=>nomatch z)) (.inl rfl) (w1.fresh hp).2 (by
   cases e0:(_:Hp) p with
   | none=>exact e0
   | some o=>
    exfalso
    rename_i H0 O0 _ M0 _ _
    by_cases c:O0 p
    ·by_cases c2:M0 p=none
     ·exact w1.ne p (k1.prv p c c2).2.1 hp
     ·exact w1.ne p (w1.own p (k1.mst p c2)) hp
    ·rw [(k1.fix p o c e0).1] at hp;cases hp) zk (r1.ext (qY w1 hp _))⟩⟩
noncomputable def AU (b:AA):AE:=fun ρ M Q=>b ρ M fun xs M1=>xs.length<=sizeLine/\∃ ds,pur xs=some ds/\Q (.d (.tup ds)) M1
theorem XD {u:TA}{b:AA}(h:jL u b):zx (X0 u) (AU b):=
 ⟨fun w e q k=>h.go w e q fun x M1 v H1 O1 q1 k1 w1 r1=>⟨by rw [r1.1];exact q1.1,fun p hp=>by
  obtain ⟨_,ds,e1,q2⟩:=q1
  rw [qP e1] at r1
  have r2:=r1.pure
  exact k _ _ _ _ _ q2 (k1.trans (zW w1 hp _)) (kA w1 hp _) (Rep.tup (w1.fresh hp).1 zk r2.1 fun i x d e1 e2=>(r2.2 i x d e1 e2).ext (zW w1 hp _))⟩⟩
noncomputable def aB (a:AE):AT:=fun ρ M Q=>a ρ M fun x M1=>∃ b,x=.d (.bl b)/\Q b M1
theorem yn {H:Hp}{O:Own}{v:V}{b:Bool}(r:Rep H O v (.bl b)):v=.bl b:=by cases r;rfl
theorem zA {H:Hp}{O:Own}{v:V}{b:Int}(r:Rep H O v (.int b)):v=.int b:=by cases r;rfl
theorem WR {H:Hp}{O:Own}{v:V}{b:String}(r:Rep H O v (.ty b)):v=.ty b:=by cases r;rfl
theorem A2 {t:TE}{a:AE}(h:zx t a):jc (tB t) (aB a):=⟨fun w e q k=>h.go w e q fun x M1 v H1 O1 ⟨b,e1,q1⟩ k1 w1 r1=>by
 subst e1;exact ⟨b,yn r1,k _ _ _ _ q1 k1 w1⟩⟩
theorem Km {t:TE}{a:AE}(h:zx t a):jc (Q7 t) (aB a):=⟨fun w e q k=>h.go w e q fun x M1 v H1 O1 ⟨b,e1,q1⟩ k1 w1 r1=>by
 subst e1;exact ⟨b,yn r1,k _ _ _ _ q1 k1 w1⟩⟩
noncomputable def vY:AT:=fun _ M Q=>Q true M
theorem Xg:jc Zy vY:=⟨fun w _ q k=>k _ _ _ _ q .refl w⟩
noncomputable def aOr (a b:AT):AT:=fun ρ M Q=>a ρ M fun c M1=>if c=true then Q true M1 else b ρ M1 Q
noncomputable def BB (a:AT):AT:=fun ρ M Q=>a ρ M fun c M1=>Q (!c) M1
theorem Wu {t u:TT}{a b:AT}(h1:jc t a)(h2:jc u b):jc (tOr t u) (aOr a b):=⟨fun w e q k=>h1.go w e q fun c M1 H1 O1 q1 k1 w1=>by
 cases c with
 | false=>exact h2.go w1 (e.ext k1) q1 fun c M2 H2 O2 q2 k2 w2=>k _ _ _ _ q2 (k1.trans k2) w2
 | true=>exact k _ _ _ _ q1 k1 w1⟩
theorem XW {t:TT}{a:AT}(h1:jc t a):jc (Al t) (BB a):=⟨fun w e q k=>h1.go w e q fun c M1 H1 O1 q1 k1 w1=>k _ _ _ _ q1 k1 w1⟩
structure ED (H0:Hp)(O0:Own)(M0:MH)(D:jR)(D':jN):Prop where
 nx:∀ σ H O ρ M,Wf H O M->Er H O M σ ρ->Ext H0 O0 M0 H O M->D'.nx ρ M->D.nx σ H
 rt:∀ v x H O M,Wf H O M->Ext H0 O0 M0 H O M->zj H O M v x->D'.rt x M->D.rt v H
 bk:∀ σ H O ρ M,Wf H O M->Er H O M σ ρ->Ext H0 O0 M0 H O M->D'.bk ρ M->D.bk σ H
 ct:∀ σ H O ρ M,Wf H O M->Er H O M σ ρ->Ext H0 O0 M0 H O M->D'.ct ρ M->D.ct σ H
theorem ED.tr {H0 H1:Hp}{O0 O1:Own}{M0 M1:MH}{D:jR}{D':jN}(E:ED H0 O0 M0 D D')(k:Ext H0 O0 M0 H1 O1 M1):ED H1 O1 M1 D D':=
 ⟨fun σ H O ρ M w e x q=>E.nx σ H O ρ M w e (k.trans x) q,fun v y H O M w x r q=>E.rt v y H O M w (k.trans x) r q,fun σ H O ρ M w e x q=>E.bk σ H O ρ M w e (k.trans x) q,fun σ H O ρ M w e x q=>E.ct σ H O ρ M w e (k.trans x) q⟩
structure qN (t:TS)(a:AS):Prop where
 go:∀ {H0:Hp} {O0:Own} {M0:MH} {D:jR} {D':jN} {σ:St} {H:Hp} {O:Own} {ρ:ASt} {M:MH},Wf H0 O0 M0->Wf H O M->Er H O M σ ρ->Ext H0 O0 M0 H O M->a M0 D' ρ M->ED H0 O0 M0 D D'->t D σ H
noncomputable def KN:AS:=fun _ D ρ M=>D.nx ρ M
theorem Xl:qN JP KN:=⟨fun _ w e x q E=>E.nx _ _ _ _ _ w e x q⟩
noncomputable def Zj (a b:AS):AS:=fun B D ρ M=>a B { D with nx:=b B D } ρ M
theorem YE {t u:TS}{a b:AS}(h1:qN t a)(h2:qN u b):qN (W4 t u) (Zj a b):=
 ⟨fun w0 w e x q E=>h1.go w0 w e x q ⟨fun σ H O ρ M w e x q=>h2.go w0 w e x q E,E.rt,E.bk,E.ct⟩⟩
noncomputable def Vm (a:AE):AS:=fun _ D ρ M=>a ρ M fun _ M1=>D.nx ρ M1
theorem Ji {t:TE}{a:AE}(h:zx t a):qN (JC t) (Vm a):=⟨fun _ w e x q E=>h.go w e q fun y M1 v H1 O1 q1 k1 w1 r1=>E.nx _ _ _ _ _ w1 (e.ext k1) (x.trans k1) q1⟩
noncomputable def A9 (a:AE):AS:=fun _ D ρ M=>a ρ M D.rt
theorem Yg {t:TE}{a:AE}(h:zx t a):qN (W0 t) (A9 a):=⟨fun _ w e x q E=>h.go w e q fun y M1 v H1 O1 q1 k1 w1 r1=>E.rt _ _ _ _ _ w1 (x.trans k1) r1 q1⟩
noncomputable def A0 (c:AT)(a b:AS):AS:=fun B D ρ M=>c ρ M fun k M1=>if k=true then a B D ρ M1 else b B D ρ M1
theorem YU {c:TT}{t u:TS}{ac:AT}{a b:AS}(hc:jc c ac)(h1:qN t a)(h2:qN u b):qN (WO c t u) (A0 ac a b):=
 ⟨fun w0 w e x q E=>hc.go w e q fun k M1 H1 O1 q1 k1 w1=>by
  cases k with
  | true=>exact h1.go w0 w1 (e.ext k1) (x.trans k1) q1 E
  | false=>exact h2.go w0 w1 (e.ext k1) (x.trans k1) q1 E⟩
structure ki (g:TG)(a:AG):Prop where
 go:∀ {v:V} {x:AV} {σ:St} {H:Hp} {O:Own} {ρ:ASt} {M:MH} {Q:St->Hp->Prop} {Q':ASt->MH->Prop},Wf H O M->Er H O M σ ρ->zj H O M v x->a x ρ M Q' ->
  (∀ σ' H' O' ρ' M',Q' ρ' M'->Ext H O M H' O' M'->Wf H' O' M'->Er H' O' M' σ' ρ'->Q σ' H')->g v σ H Q
structure vk (g:TGs)(a:AGs):Prop where
 go:∀ {v:List V} {x:List AV} {σ:St} {H:Hp} {O:Own} {ρ:ASt} {M:MH} {Q:St->Hp->Prop} {Q':ASt->MH->Prop},Wf H O M->Er H O M σ ρ->zd H O M v x->a x ρ M Q' ->
  (∀ σ' H' O' ρ' M',Q' ρ' M'->Ext H O M H' O' M'->Wf H' O' M'->Er H' O' M' σ' ρ'->Q σ' H')->g v σ H Q
noncomputable def yD (i:Nat):AG:=fun x ρ M Q=>Q (ρ.set i (some x)) M
theorem QT {i:Nat}:ki (xi i) (yD i):=⟨fun w e r q k=>k _ _ _ _ _ q .refl w (e.set r i)⟩
noncomputable def Y9:AGs:=fun xs ρ M Q=>xs=[]/\Q ρ M
noncomputable def Jh (a:AG)(b:AGs):AGs:=fun xs ρ M Q=>∃ x r,xs=x :: r/\a x ρ M fun ρ' M'=>b r ρ' M' Q
theorem Jy:vk YO Y9:=⟨fun w e r q k=>by obtain ⟨e1,q⟩:=q;subst e1;exact ⟨r.nil_inv,k _ _ _ _ _ q .refl w e⟩⟩
theorem QA {g:TG}{u:TGs}{a:AG}{b:AGs}(h1:ki g a)(h2:vk u b):vk (Z4 g u) (Jh a b):=⟨fun w e r q k=>by
 obtain ⟨x,r',e1,q⟩:=q;subst e1
 obtain ⟨v,vr,e2,rv,rr⟩:=r.cons_inv
 subst e2
 exact ⟨v,vr,rfl,h1.go w e rv q fun σ' H' O' ρ' M' q1 k1 w1 e1=>h2.go w1 e1 (rr.ext k1) q1 fun σ2 H2 O2 ρ2 M2 q2 k2 w2 e2=>k _ _ _ _ _ q2 (k1.trans k2) w2 e2⟩⟩
noncomputable def Vs (n:Nat)(b:AGs):AG:=fun x ρ M Q=>∃ l,x=.d (.tup l)/\l.length=n/\b (l.map .d) ρ M Q
theorem JD {K:PySem.W.Frag}{n:Nat}{u:TGs}{b:AGs}(h:vk u b):ki (ww K n u) (Vs n b):=⟨fun {v x σ H O ρ M Q Q'} w e r q k=>by
 obtain ⟨l,e1,ln,q⟩:=q;subst e1
 cases (show Rep H O v (.tup l) from r) with
 | @tup a xs _ o1 h1 l1 r1=>exact ⟨a,xs,rfl,SqT.of h1,l1.trans ln,h.go w e (QK.av ⟨l1,r1⟩) q k⟩⟩
noncomputable def zL (x:AV)(M:MH):Option (List AV):=match x with
 | .d (.lst l)=>some (l.map .d)
 | .ref a=>match M a with
  | some (.lst l)=>some l
  | _=>none
 | _=>none
noncomputable def W3 (x:AV):Option (List AV):=match x with
 | .d (.tup l)=>some (l.map .d)
 | _=>none
noncomputable def zQ (x:AV)(M:MH):Option (List AV):=match x with
 | .d (.lst l)=>some (l.map .d)
 | .d (.tup l)=>some (l.map .d)
 | .ref a=>match M a with
  | some (.lst l)=>some l
  | _=>none
 | _=>none
theorem wY (l:List Dat)(M:MH):zL (.d (.lst l)) M=some (l.map .d):=rfl
theorem WF (l:List Dat):W3 (.d (.tup l))=some (l.map .d):=rfl
theorem JF (l:List Dat)(M:MH):zQ (.d (.lst l)) M=some (l.map .d):=rfl
theorem K4 (l:List Dat)(M:MH):zQ (.d (.tup l)) M=some (l.map .d):=rfl
theorem jp {a:Addr}{M:MH}{l:List AV}(h:M a=some (.lst l)):zL (.ref a) M=some l:=by unfold zL;dsimp only;rw [h]
theorem qK {a:Addr}{M:MH}{l:List AV}(h:M a=some (.lst l)):zQ (.ref a) M=some l:=by unfold zQ;dsimp only;rw [h]
theorem jm {x:AV}{M:MH}{l:List AV}(h:zL x M=some l):(∃ m,x=.d (.lst m)/\l=m.map .d) \/ ∃ a,x=.ref a/\M a=some (.lst l):=by
 cases x with
 | d x=>
  cases x with
  | lst m=>cases h;exact .inl ⟨m,rfl,rfl⟩
  | _=>cases h
 | ref a=>
  unfold zL at h
  dsimp only at h
  cases e:M a with
  | none=>rw [e] at h;cases h
  | some o=>
   rw [e] at h
   cases o with
   | lst m=>cases h;exact .inr ⟨a,rfl,e⟩
   | _=>cases h
theorem qm {x:AV}{M:MH}{l:List AV}(h:zQ x M=some l):zL x M=some l \/ ∃ m,x=.d (.tup m)/\l=m.map .d:=by
 cases x with
 | d x=>
  cases x with
  | lst m=>cases h;exact .inl rfl
  | tup m=>cases h;exact .inr ⟨m,rfl,rfl⟩
  | _=>cases h
 | ref a=>exact .inl h
theorem qb {H:Hp}{O:Own}{M:MH}{v:V}{x:AV}{l:List AV}(w:Wf H O M)(r:zj H O M v x)(h:zL x M=some l):∃ a xs,v=.ref a/\H a=some (.lst xs)/\zd H O M xs l:=by
 rcases jm h with ⟨m,rfl,rfl⟩ | ⟨a,rfl,e⟩
 ·cases (show Rep H O v (.lst m) from r) with
  | @lst a xs _ o1 h1 l1 r1=>exact ⟨a,xs,rfl,h1,QK.av ⟨l1,r1⟩⟩
 ·obtain ⟨xs,h1,r1⟩:=w.mo a _ e
  exact ⟨a,xs,r.1,h1,r1⟩
theorem qA {H:Hp}{O:Own}{M:MH}{v:V}{x:AV}{l:List AV}(r:zj H O M v x)(h:W3 x=some l):∃ a xs,v=.ref a/\H a=some (.tup xs)/\zd H O M xs l:=by
 cases x with
 | ref a=>cases h
 | d x=>
  cases x with
  | tup m=>
   cases h
   cases (show Rep H O v (.tup m) from r) with
   | @tup a xs _ o1 h1 l1 r1=>exact ⟨a,xs,rfl,h1,QK.av ⟨l1,r1⟩⟩
  | _=>cases h
theorem yQ {H:Hp}{O:Own}{M:MH}{v:V}{x:AV}{l:List AV}(w:Wf H O M)(r:zj H O M v x)(h:zQ x M=some l):∃ a xs,v=.ref a/\(H a=some (.lst xs) \/ H a=some (.tup xs))/\zd H O M xs l:=by
 rcases qm h with e | ⟨m,rfl,rfl⟩
 ·obtain ⟨a,xs,h1,h2,h3⟩:=qb w r e;exact ⟨a,xs,h1,.inl h2,h3⟩
 ·obtain ⟨a,xs,h1,h2,h3⟩:=qA (l:=m.map .d) r rfl;exact ⟨a,xs,h1,.inr h2,h3⟩
structure JQ (t:Jq)(a:AV->AV->AV->MH->(MH->Prop)->Prop):Prop where
 go:∀ {o i v:V} {ao ai av:AV} {H:Hp} {O:Own} {M:MH} {Q:Hp->Prop} {Q':MH->Prop},Wf H O M->zj H O M o ao->zj H O M i ai->zj H O M v av->a ao ai av M Q'->(∀ M' H' O',Q' M'->Ext H O M H' O' M'->Wf H' O' M'->Q H')->t o i v H Q
noncomputable def Ve (a b:AE)(s:AV->AV->AV->MH->(MH->Prop)->Prop):AG:=fun x ρ M Q=>a ρ M fun o M1=>b ρ M1 fun i M2=>s o i x M2 fun M3=>Q ρ M3
theorem J9 {to ti:TE}{t:Jq}{a b:AE}{s:AV->AV->AV->MH->(MH->Prop)->Prop}(h1:zx to a)(h2:zx ti b)(h3:JQ t s):ki (Ab to ti t) (Ve a b s):=⟨fun w e r q k=>
 h1.go w e q fun x M1 v H1 O1 q1 k1 w1 r1=>h2.go w1 (e.ext k1) q1 fun y M2 u H2 O2 q2 k2 w2 r2=>h3.go w2 (r1.ext k2) r2 (r.ext (k1.trans k2)) q2 fun M3 H3 O3 q3 k3 w3=>k _ _ _ _ _ q3 ((k1.trans k2).trans k3) w3 (e.ext ((k1.trans k2).trans k3))⟩
theorem qk {M:MH}{p:Addr}{o:MO}(h:M p=some o):M p ≠ none:=by rw [h];exact fun z=>nomatch z
noncomputable def asL:AV->AV->AV->MH->(MH->Prop)->Prop:=fun o i v M Q=>∃ p l k j,o=.ref p/\i=.d (.int k)/\M p=some (.lst l)/\ixN l.length k=some j/\Q (mup M p (.lst (l.set j v)))
theorem Jn:JQ wN asL:=⟨fun w ro ri rv q k=>by
 obtain ⟨p,l,n,j,rfl,rfl,hm,hj,q⟩:=q
 obtain ⟨xs,hx,rx⟩:=w.mo p _ hm
 have np:=qk hm
 refine ⟨n,zA ri,p,ro.1,xs,hx,j,by rw [rx.1];exact hj,k _ _ _ q (qX w np _ _) (wX w np (fun _ z=>nomatch z) ⟨_,zk,(rx.set rv j).ext (qX w np _ _)⟩)⟩⟩
noncomputable def AJ (a:AE)(g:AG):AS:=fun _ D ρ M=>a ρ M fun x M1=>g x ρ M1 D.nx
theorem Y1 {t:TE}{g:TG}{a:AE}{ag:AG}(h:zx t a)(hg:ki g ag):qN (Ze t g) (AJ a ag):=⟨fun _ w e x q E=>h.go w e q fun y M1 v H1 O1 q1 k1 w1 r1=>hg.go w1 (e.ext k1) r1 q1 fun σ2 H2 O2 ρ2 M2 q2 k2 w2 e2=>E.nx _ _ _ _ _ w2 e2 ((x.trans k1).trans k2) q2⟩
structure B4 (t:TIp)(a:AR2):Prop where
 go:∀ {x y:V} {dx dy:AV} {H:Hp} {O:Own} {M:MH} {Q:VK} {Q':AK},Wf H O M->zj H O M x dx->zj H O M y dy->a dx dy M Q'->(∀ x M' v H' O',Q' x M'->Ext H O M H' O' M'->Wf H' O' M'->zj H' O' M' v x->Q v H')->t x y H Q
noncomputable def Kh (c:AT)(b:AS):AS:=fun B D ρ M=>∃ W:Nat->ASt->MH->Prop,(∃ m,W m ρ M)/\∀ m ρ M,W m ρ M->c ρ M fun k M1=>if k=true then b B { D with nx:=fun ρ' M'=>∃ m',m'<m/\W m' ρ' M',ct:=fun ρ' M'=>∃ m',m'<m/\W m' ρ' M',bk:=D.nx } ρ M1 else D.nx ρ M1
theorem Qs {c:TT}{t:TS}{ac:AT}{a:AS}(hc:jc c ac)(h:qN t a):qN (KL c t) (Kh ac a):=⟨fun {H0 O0 M0 D D' σ H O ρ M} w0 w e x q E=>by
 obtain ⟨W,⟨m,h0⟩,st⟩:=q
 refine ⟨fun m σ H=>∃ O ρ M,Wf H O M/\Er H O M σ ρ/\Ext H0 O0 M0 H O M/\W m ρ M,⟨m,O,ρ,M,w,e,x,h0⟩,?_⟩
 rintro m σ H ⟨O,ρ,M,w,e,x,hw⟩
 refine hc.go w e (st m ρ M hw) fun k M1 H1 O1 q1 k1 w1=>?_
 cases k with
 | false=>exact E.nx _ _ _ _ _ w1 (e.ext k1) (x.trans k1) q1
 | true=>exact ⟨fun σ' H'=>∃ m',m'<m/\∃ O ρ M,Wf H' O M/\Er H' O M σ' ρ/\Ext H0 O0 M0 H' O M/\W m' ρ M,fun σ' H' z=>z,h.go w0 w1 (e.ext k1) (x.trans k1) q1 ⟨fun σ H O ρ M w e x ⟨m',hm,hw⟩=>⟨m',hm,O,ρ,M,w,e,x,hw⟩,E.rt,E.nx,fun σ H O ρ M w e x ⟨m',hm,hw⟩=>⟨m',hm,O,ρ,M,w,e,x,hw⟩⟩⟩⟩
noncomputable def jn (J:It)(H:Hp)(O:Own)(M:MH)(l:List AV)(G:MH->Prop):Prop:=
 ∀ (H':Hp) (O':Own) (M':MH),(∀ a o,¬ O a->H a=some o->H' a=some o/\¬ O' a)->(∀ a,M a ≠ none->M' a ≠ none)->Wf H' O' M'->G M'->∀ i:Nat,(i=l.length->J.stop i H') /\
  ∀ y,l[i]?=some y->J.go i H'/\∀ x H'',J.yld i H' x H''->Ext H' O' M' H'' O' M'/\Wf H'' O' M'/\zj H'' O' M' x y
structure xg (wi:TI)(ai:AI):Prop where
 go:∀ {σ:St} {H:Hp} {O:Own} {ρ:ASt} {M:MH} {R:It->Hp->Prop} {R':List AV->(MH->Prop)->MH->Prop},Wf H O M->Er H O M σ ρ->ai ρ M R'->(∀ l G M' J H' O',R' l G M'->Ext H O M H' O' M'->Wf H' O' M'->jn J H' O' M' l G->R J H')->wi σ H R
noncomputable def Bb (ag:AG)(ab:AS)(B:MH)(D:jN)(G:MH->Prop)(l:List AV)(ρ:ASt)(M:MH):Prop:=
 ∃ Pv:Nat->ASt->MH->Prop,Pv 0 ρ M/\(∀ i x ρ M,l[i]?=some x->Pv i ρ M->G M/\ag x ρ M fun ρ' M'=>ab B { D with nx:=Pv (i+1),ct:=Pv (i+1),bk:=D.nx } ρ' M')/\∀ ρ M,Pv l.length ρ M->G M/\D.nx ρ M
noncomputable def VY (ai:AI)(ag:AG)(ab:AS):AS:=fun _ D ρ M=>ai ρ M fun l G M1=>Bb ag ab M1 D G l ρ M1
theorem XJ {wi:TI}{g:TG}{t:TS}{ai:AI}{ag:AG}{ab:AS}(hi:xg wi ai)(hg:ki g ag)(hb:qN t ab):qN (Aj wi g t) (VY ai ag ab):=⟨fun {H0 O0 M0 D D' σ H O ρ M} w0 w e x q E=>by
 rw [ZU]
 refine hi.go w e q fun l G M1 J H1 O1 q1 k1 w1 hj=>?_
 have E1:=E.tr (x.trans k1)
 obtain ⟨Pv,p0,ps,pd⟩:=q1
 refine ⟨fun i m σ H=>m=l.length - i/\i<=l.length/\∃ O ρ M,Wf H O M/\Er H O M σ ρ/\Ext H1 O1 M1 H O M/\Pv i ρ M,⟨l.length,by simp,Nat.zero_le _,O1,ρ,M1,w1,e.ext k1,.refl,p0⟩,?_⟩
 rintro i m σ H ⟨rfl,hi,O,ρ,M,w,e,x,hf⟩
 by_cases hil:i<l.length
 ·have hy:l[i]?=some l[i]:=List.getElem?_eq_getElem hil
  obtain ⟨hG,q2⟩:=ps i l[i] ρ M hy hf
  obtain ⟨j1,j2⟩:=(hj H O M x.fix x.mst w hG i).2 l[i] hy
  refine .inr ⟨j1,fun σ' H'=>∃ O ρ M,Wf H' O M/\Er H' O M σ' ρ/\Ext H1 O1 M1 H' O M/\Pv (i+1) ρ M,fun σ' H' z=>⟨l.length - (i+1),by omega,rfl,hil,z⟩,fun v H' hv=>?_⟩
  obtain ⟨k2,w2,r2⟩:=j2 v H' hv
  refine hg.go w2 (e.ext k2) r2 q2 fun σ3 H3 O3 ρ3 M3 q3 k3 w3 e3=>?_
  exact hb.go w1 w3 e3 ((x.trans k2).trans k3) q3 ⟨fun σ H O ρ M w e x q=>⟨O,ρ,M,w,e,x,q⟩,E1.rt,E1.nx,fun σ H O ρ M w e x q=>⟨O,ρ,M,w,e,x,q⟩⟩
 ·have e0:i=l.length:=by omega
  subst e0
  obtain ⟨hG,q2⟩:=pd ρ M hf
  exact .inl ⟨(hj H O M x.fix x.mst w hG l.length).1 rfl,E1.nx _ _ _ _ _ w e x q2⟩⟩
theorem vd {H H1:Hp}{O O1:Own}{M M1:MH}(w1:Wf H1 O1 M1)(k1:Ext H O M H1 O1 M1){p:Addr}(hp:H1 p=none):H p=none:=by
 cases e0:H p with
 | none=>rfl
 | some o=>
  exfalso
  by_cases c:O p
  ·by_cases c2:M p=none
   ·exact w1.ne p (k1.prv p c c2).2.1 hp
   ·exact w1.ne p (w1.own p (k1.mst p c2)) hp
  ·rw [(k1.fix p o c e0).1] at hp;cases hp
theorem Qa {K:PySem.W.Frag}{H:Hp}{O:Own}{M:MH}{a:Addr}{x:AV}{l:List AV}(r:zj H O M (.ref a) x)(h:zL x M=some l):jn (Itl K a) H O M l (fun M'=>zL x M'=some l):=by
 intro H' O' M' fix mst w' hG i
 obtain ⟨a',xs,e,h1,r1⟩:=qb w' (r.imp fix mst) hG
 cases e
 refine ⟨fun e=>⟨xs,SqL.of h1,by rw [r1.1];omega⟩,fun y hy=>?_⟩
 obtain ⟨v,hv,rv⟩:=r1.get hy
 refine ⟨⟨xs,v,SqL.of h1,hv⟩,fun z H'' hz=>?_⟩
 obtain ⟨e1,e2⟩:=hz
 subst e1
 have:=e2 xs (SqL.of h1)
 rw [hv] at this;cases this
 exact ⟨.refl,w',rv⟩
theorem Kf {K:PySem.W.Frag}{H:Hp}{O:Own}{M:MH}{a:Addr}{x:AV}{l:List AV}(r:zj H O M (.ref a) x)(h:W3 x=some l):jn (Itt K a) H O M l (fun _=>True):=by
 intro H' O' M' fix mst w' hG i
 obtain ⟨a',xs,e,h1,r1⟩:=qA (r.imp fix mst) h
 cases e
 refine ⟨fun e=>⟨xs,SqT.of h1,by rw [r1.1];omega⟩,fun y hy=>?_⟩
 obtain ⟨v,hv,rv⟩:=r1.get hy
 refine ⟨⟨xs,v,SqT.of h1,hv⟩,fun z H'' hz=>?_⟩
 obtain ⟨e1,e2⟩:=hz
 subst e1
 have:=e2 xs (SqT.of h1)
 rw [hv] at this;cases this
 exact ⟨.refl,w',rv⟩
noncomputable def aiS (a:AE):AI:=fun ρ M R=>a ρ M fun x M1=>∃ l,zQ x M1=some l/\R l (fun M'=>zQ x M'=some l) M1
theorem jn.mono {J:It}{H:Hp}{O:Own}{M:MH}{l:List AV}{G G':MH->Prop}(h:jn J H O M l G)(k:∀ M,G' M->G M):jn J H O M l G':=fun H' O' M' fix mst w' hG=>h H' O' M' fix mst w' (k _ hG)
theorem Wk {K:PySem.W.Frag}{t:TE}{a:AE}(h:zx t a):xg (iLT K t) (aiS a):=⟨fun w e q k=>h.go w e q fun x M1 v H1 O1 ⟨l,hl,q1⟩ k1 w1 r1=>by
 rcases qm hl with hl' | ⟨m,rfl,rfl⟩
 ·obtain ⟨a,xs,rfl,h1,_⟩:=qb w1 r1 hl'
  refine ⟨a,rfl,.inl ⟨⟨xs,SqL.of h1⟩,k _ _ _ _ _ _ q1 k1 w1 ((Qa r1 hl').mono fun M hM=>?_)⟩⟩
  rcases qm hM with z | ⟨m,rfl,rfl⟩
  ·exact z
  ·cases hl'
 ·obtain ⟨a,xs,rfl,h1,_⟩:=qA (l:=m.map .d) r1 rfl
  exact ⟨a,rfl,.inr ⟨⟨xs,SqT.of h1⟩,k _ _ _ _ _ _ q1 k1 w1 ((Kf r1 rfl).mono fun _ _=>trivial)⟩⟩⟩
noncomputable def vQ (lo c:Int)(n:Nat):List AV:=(List.range n).map fun (k:Nat)=>.d (.int (lo+(k:Int) * c))
theorem qL (lo c:Int)(n:Nat):(vQ lo c n).length=n:=by simp [vQ]
theorem qo {lo c:Int}{n i:Nat}{y:AV}(h:(vQ lo c n)[i]?=some y):i<n/\y=.d (.int (lo+(i:Int) * c)):=by
 have hi:=(List.getElem?_eq_some_iff.mp h).1
 rw [qL] at hi
 unfold vQ at h
 rw [List.getElem?_map,List.getElem?_range hi] at h
 cases h
 exact ⟨hi,rfl⟩
theorem vm {H:Hp}{O:Own}{M:MH}(lo:Int)(n:Nat):jn (Itr lo n) H O M (vQ lo 1 n) (fun _=>True):=by
 intro H' O' M' fix mst w' hG i
 refine ⟨fun e=>by rw [qL] at e;exact Nat.le_of_eq e.symm,fun y hy=>?_⟩
 obtain ⟨hi,rfl⟩:=qo hy
 refine ⟨hi,fun z H'' hz=>?_⟩
 obtain ⟨rfl,rfl⟩:=hz
 rw [Int.mul_one]
 exact ⟨.refl,w',.int⟩
noncomputable def Bd (a:AA):AI:=fun ρ M R=>a ρ M fun xs M1=>∃ j:Int,xs=[.d (.int j)]/\-(2 ^ 62)<=j/\j<2 ^ 62/\R (vQ 0 1 j.toNat) (fun _=>True) M1
theorem XT {t:TA}{a:AA}(h:jL t a):xg (K1 t) (Bd a):=⟨fun w e q k=>h.go w e q fun x M1 v H1 O1 ⟨j,e1,j1,j2,q1⟩ k1 w1 r1=>by
 subst e1
 obtain ⟨v1,r',rfl,a1,r2⟩:=r1.cons_inv
 rw [r2.nil_inv,zA a1]
 exact ⟨j,rfl,j1,j2,k _ _ _ _ _ _ q1 k1 w1 (vm _ _)⟩⟩
noncomputable def Bq (a:AA):AI:=fun ρ M R=>a ρ M fun xs M1=>∃ i j:Int,xs=[.d (.int i),.d (.int j)]/\(-(2 ^ 62)<=i/\i<2 ^ 62/\-(2 ^ 62)<=j/\j<2 ^ 62)/\R (vQ i 1 (j - i).toNat) (fun _=>True) M1
theorem YD {t:TA}{a:AA}(h:jL t a):xg (Xv t) (Bq a):=⟨fun w e q k=>h.go w e q fun x M1 v H1 O1 ⟨i,j,e1,j1,q1⟩ k1 w1 r1=>by
 subst e1
 obtain ⟨v1,r',rfl,a1,r2⟩:=r1.cons_inv
 obtain ⟨v2,r',rfl,a2,r3⟩:=r2.cons_inv
 rw [r3.nil_inv,zA a1,zA a2]
 exact ⟨i,j,rfl,j1,k _ _ _ _ _ _ q1 k1 w1 (vm _ _)⟩⟩
noncomputable def kO (m:List Dat):List AV:=(List.range m.length).map fun (i:Nat)=>.d (.tup [.int (i:Int),m.getD i .non])
theorem jG (m:List Dat):(kO m).length=m.length:=by simp [kO]
theorem kz {m:List Dat}{i:Nat}{y:AV}(h:(kO m)[i]?=some y):∃ d,m[i]?=some d/\y=.d (.tup [.int (i:Int),d]):=by
 have hi:=(List.getElem?_eq_some_iff.mp h).1
 rw [jG] at hi
 unfold kO at h
 rw [List.getElem?_map,List.getElem?_range hi] at h
 cases h
 exact ⟨m[i],List.getElem?_eq_getElem hi,by dsimp only;rw [List.getD_eq_getElem?_getD,List.getElem?_eq_getElem hi];rfl⟩
theorem j4 {H:Hp}{O:Own}{M:MH}(w:Wf H O M){p:Addr}(hp:H p=none){x y:V}{d e:Dat}(r1:Rep H O x d)(r2:Rep H O y e):Ext H O M (upd H p (.tup [x,y])) O M/\Wf (upd H p (.tup [x,y])) O M/\zj (upd H p (.tup [x,y])) O M (.ref p) (.d (.tup [d,e])):=
 ⟨zW w hp _,kA w hp _,Rep.tup (w.fresh hp).1 zk rfl fun i z f h1 h2=>by
  match i,h1,h2 with
  | 0,h1,h2=>cases h1;cases h2;exact r1.ext (zW w hp _)
  | 1,h1,h2=>cases h1;cases h2;exact r2.ext (zW w hp _)
  | (i+2),h1,_=>cases h1⟩
theorem Qm {K:PySem.W.Frag}{H:Hp}{O:Own}{M:MH}{a:Addr}{x:AV}{m:List Dat}(r:zj H O M (.ref a) x)(h:zL x M=some (m.map .d)):jn (Ite K a) H O M (kO m) (fun M'=>zL x M'=some (m.map .d)):=by
 intro H' O' M' fix mst w' hG i
 obtain ⟨a',xs,e,h1,r1⟩:=qb w' (r.imp fix mst) hG
 cases e
 have l1:=r1.1
 rw [List.length_map] at l1
 refine ⟨fun e=>⟨xs,SqL.of h1,by rw [jG] at e;omega⟩,fun y hy=>?_⟩
 obtain ⟨d,hd,rfl⟩:=kz hy
 obtain ⟨v,hv,rv⟩:=r1.get (i:=i) (d:=.d d) (by rw [List.getElem?_map,hd];rfl)
 refine ⟨⟨xs,v,SqL.of h1,hv⟩,fun z H'' hz=>?_⟩
 obtain ⟨p,x',hp,rfl,e2,rfl⟩:=hz
 have:=e2 xs (SqL.of h1)
 rw [hv] at this;cases this
 exact j4 w' hp .int rv
theorem wq {K:PySem.W.Frag}{H:Hp}{O:Own}{M:MH}{a:Addr}{m:List Dat}(r:zj H O M (.ref a) (.d (.tup m))):jn (VS K a) H O M (kO m) (fun _=>True):=by
 intro H' O' M' fix mst w' hG i
 obtain ⟨a',xs,e,h1,r1⟩:=qA (l:=m.map .d) (r.imp fix mst) rfl
 cases e
 have l1:=r1.1
 rw [List.length_map] at l1
 refine ⟨fun e=>⟨xs,SqT.of h1,by rw [jG] at e;omega⟩,fun y hy=>?_⟩
 obtain ⟨d,hd,rfl⟩:=kz hy
 obtain ⟨v,hv,rv⟩:=r1.get (i:=i) (d:=.d d) (by rw [List.getElem?_map,hd];rfl)
 refine ⟨⟨xs,v,SqT.of h1,hv⟩,fun z H'' hz=>?_⟩
 obtain ⟨p,x',hp,rfl,e2,rfl⟩:=hz
 have:=e2 xs (SqT.of h1)
 rw [hv] at this;cases this
 exact j4 w' hp .int rv
noncomputable def aiE (a:AA):AI:=fun ρ M R=>a ρ M fun xs M1=>∃ x l m,xs=[x]/\zQ x M1=some l/\pur l=some m/\R (kO m) (fun M'=>zQ x M'=some l) M1
theorem Za {x:AV}{M M':MH}{l l':List AV}(h:zL x M=some l)(h':zQ x M'=some l'):zL x M'=some l':=by
 rcases qm h' with z | ⟨m,rfl,rfl⟩
 ·exact z
 ·cases h
theorem WV {K:PySem.W.Frag}{t:TA}{a:AA}(h:jL t a):xg (yk K t) (aiE a):=⟨fun w e q k=>h.go w e q fun xs M1 v H1 O1 ⟨x,l,m,e1,hl,hm,q1⟩ k1 w1 r1=>by
 subst e1
 obtain ⟨v1,r',rfl,a1,r2⟩:=r1.cons_inv
 rw [r2.nil_inv]
 rw [qP hm] at hl q1
 rcases qm hl with hl' | ⟨m',rfl,e2⟩
 ·obtain ⟨a,xs,rfl,h1,_⟩:=qb w1 a1 hl'
  exact ⟨a,rfl,.inl ⟨⟨xs,SqL.of h1⟩,k _ _ _ _ _ _ q1 k1 w1 ((Qm a1 hl').mono fun M hM=>Za hl' hM)⟩⟩
 ·obtain rfl:m=m':=by have:=congrArg pur e2;rw [ql,ql] at this;cases this;rfl
  obtain ⟨a,xs,rfl,h1,_⟩:=qA (l:=m.map .d) a1 rfl
  exact ⟨a,rfl,.inr ⟨⟨xs,SqT.of h1⟩,k _ _ _ _ _ _ q1 k1 w1 ((wq a1).mono fun _ _=>trivial)⟩⟩⟩
noncomputable def Zn (m n:List Dat):List AV:=(List.range (min m.length n.length)).map fun (i:Nat)=>.d (.tup [m.getD i .non,n.getD i .non])
theorem j9 (m n:List Dat):(Zn m n).length=min m.length n.length:=by simp [Zn]
theorem xu {m n:List Dat}{i:Nat}{y:AV}(h:(Zn m n)[i]?=some y):∃ d e,m[i]?=some d/\n[i]?=some e/\y=.d (.tup [d,e]):=by
 have hi:=(List.getElem?_eq_some_iff.mp h).1
 rw [j9] at hi
 unfold Zn at h
 rw [List.getElem?_map,List.getElem?_range hi] at h
 cases h
 have h1:i<m.length:=by omega
 have h2:i<n.length:=by omega
 exact ⟨m[i],n[i],List.getElem?_eq_getElem h1,List.getElem?_eq_getElem h2,by dsimp only;rw [List.getD_eq_getElem?_getD,List.getElem?_eq_getElem h1,List.getD_eq_getElem?_getD,List.getElem?_eq_getElem h2];rfl⟩
theorem Ju {K:PySem.W.Frag}{H:Hp}{O:Own}{M:MH}{a b:Addr}{x y:AV}{m n:List Dat}(r:zj H O M (.ref a) x)(h:zL x M=some (m.map .d))(r':zj H O M (.ref b) y)(h':zL y M=some (n.map .d)):jn (Itz K a b) H O M (Zn m n) (fun M'=>zL x M'=some (m.map .d)/\zL y M'=some (n.map .d)):=by
 intro H' O' M' fix mst w' hG i
 obtain ⟨a',xs,e,h1,r1⟩:=qb w' (r.imp fix mst) hG.1
 cases e
 obtain ⟨b',ys,e,h2,r2⟩:=qb w' (r'.imp fix mst) hG.2
 cases e
 have l1:=r1.1
 have l2:=r2.1
 rw [List.length_map] at l1 l2
 refine ⟨fun e=>⟨xs,ys,SqL.of h1,SqL.of h2,by rw [j9] at e;omega⟩,fun z hz=>?_⟩
 obtain ⟨d,f,hd,hf,rfl⟩:=xu hz
 obtain ⟨v,hv,rv⟩:=r1.get (i:=i) (d:=.d d) (by rw [List.getElem?_map,hd];rfl)
 obtain ⟨u,hu,ru⟩:=r2.get (i:=i) (d:=.d f) (by rw [List.getElem?_map,hf];rfl)
 refine ⟨⟨xs,ys,v,u,SqL.of h1,SqL.of h2,hv,hu⟩,fun z H'' hz=>?_⟩
 obtain ⟨p,x',y',hp,rfl,e2,e3,rfl⟩:=hz
 have:=e2 xs (SqL.of h1)
 rw [hv] at this;cases this
 have:=e3 ys (SqL.of h2)
 rw [hu] at this;cases this
 exact j4 w' hp rv ru
theorem Qn {K:PySem.W.Frag}{H:Hp}{O:Own}{M:MH}{a b:Addr}{m n:List Dat}(hmn:m.length<=n.length)(r:zj H O M (.ref a) (.d (.tup m)))(r':zj H O M (.ref b) (.d (.tup n))):jn (Wj K a b) H O M (Zn m n) (fun _=>True):=by
 intro H' O' M' fix mst w' hG i
 obtain ⟨a',xs,e,h1,r1⟩:=qA (l:=m.map .d) (r.imp fix mst) rfl
 cases e
 obtain ⟨b',ys,e,h2,r2⟩:=qA (l:=n.map .d) (r'.imp fix mst) rfl
 cases e
 have l1:=r1.1
 have l2:=r2.1
 rw [List.length_map] at l1 l2
 refine ⟨fun e=>⟨xs,SqT.of h1,by rw [j9] at e;omega⟩,fun z hz=>?_⟩
 obtain ⟨d,f,hd,hf,rfl⟩:=xu hz
 obtain ⟨v,hv,rv⟩:=r1.get (i:=i) (d:=.d d) (by rw [List.getElem?_map,hd];rfl)
 obtain ⟨u,hu,ru⟩:=r2.get (i:=i) (d:=.d f) (by rw [List.getElem?_map,hf];rfl)
 refine ⟨⟨xs,ys,v,u,SqT.of h1,SqT.of h2,hv,hu⟩,fun z H'' hz=>?_⟩
 obtain ⟨p,x',y',hp,rfl,e2,e3,rfl⟩:=hz
 have:=e2 xs (SqT.of h1)
 rw [hv] at this;cases this
 have:=e3 ys (SqT.of h2)
 rw [hu] at this;cases this
 exact j4 w' hp rv ru
noncomputable def AQ (a:AA):AI:=fun ρ M R=>a ρ M fun xs M1=>∃ x y m n,xs=[x,y]/\((zL x M1=some (List.map AV.d m)/\zL y M1=some (List.map AV.d n)) \/ (x=.d (.tup m)/\y=.d (.tup n)/\m.length<=n.length))/\R (Zn m n) (fun M'=>zL x M'=zL x M1/\zL y M'=zL y M1) M1
theorem X5 {K:PySem.W.Frag}{t:TA}{a:AA}(h:jL t a):xg (wW K t) (AQ a):=⟨fun w e q k=>h.go w e q fun xs M1 v H1 O1 ⟨x,y,m,n,e1,hxy,q1⟩ k1 w1 r1=>by
 subst e1
 obtain ⟨v1,r',rfl,a1,r2⟩:=r1.cons_inv
 obtain ⟨v2,r',rfl,a2,r3⟩:=r2.cons_inv
 rw [r3.nil_inv]
 rcases hxy with ⟨hx,hy⟩ | ⟨rfl,rfl,hmn⟩
 ·obtain ⟨a,xs,rfl,h1,_⟩:=qb w1 a1 hx
  obtain ⟨b,ys,rfl,h2,_⟩:=qb w1 a2 hy
  exact ⟨a,b,rfl,.inl ⟨⟨xs,SqL.of h1⟩,⟨ys,SqL.of h2⟩,k _ _ _ _ _ _ q1 k1 w1 ((Ju a1 hx a2 hy).mono fun _ z=>⟨z.1.trans hx,z.2.trans hy⟩)⟩⟩
 ·obtain ⟨a,xs,rfl,h1,_⟩:=qA (l:=m.map .d) a1 rfl
  obtain ⟨b,ys,rfl,h2,_⟩:=qA (l:=n.map .d) a2 rfl
  exact ⟨a,b,rfl,.inr ⟨⟨xs,SqT.of h1⟩,⟨ys,SqT.of h2⟩,k _ _ _ _ _ _ q1 k1 w1 ((Qn hmn a1 a2).mono fun _ _=>trivial)⟩⟩⟩
structure ku (D:Addr)(H:Hp)(O:Own)(M:MH)(H':Hp)(O':Own)(M':MH):Prop where
 fix:∀ a o,¬ O a->H a=some o->H' a=some o/\¬ O' a
 prv:∀ a,a ≠ D->O a->M a=none->H' a=H a/\O' a/\M' a=none
 mst:∀ a,M a ≠ none->M' a ≠ none
theorem Ext.x {D:Addr}{H H':Hp}{O O':Own}{M M':MH}(k:Ext H O M H' O' M'):ku D H O M H' O' M':=⟨k.fix,fun a _=>k.prv a,k.mst⟩
theorem ku.trans {D:Addr}{H H1 H2:Hp}{O O1 O2:Own}{M M1 M2:MH}(a:ku D H O M H1 O1 M1)(b:ku D H1 O1 M1 H2 O2 M2):ku D H O M H2 O2 M2:=
 ⟨fun x o h e=>let ⟨e1,h1⟩:=a.fix x o h e;b.fix x o h1 e1,fun x hx h e=>by
  obtain ⟨e1,h1,n1⟩:=a.prv x hx h e
  obtain ⟨e2,h2,n2⟩:=b.prv x hx h1 n1
  exact ⟨e2.trans e1,h2,n2⟩,fun x h=>b.mst x (a.mst x h)⟩
theorem ku.set {D:Addr}{H:Hp}{O:Own}{M:MH}(hO:O D)(o:HO):ku D H O M (upd H D o) O M:=⟨kK hO o,fun a ha h e=>⟨zg ha,h,e⟩,fun _ h=>h⟩
theorem Er.imp {H H':Hp}{O O':Own}{M M':MH}{σ:St}{ρ:ASt}(e:Er H O M σ ρ)(k:∀ a o,¬ O a->H a=some o->H' a=some o/\¬ O' a)(hm:∀ a,M a ≠ none->M' a ≠ none):Er H' O' M' σ ρ:=⟨e.len,fun i x h=>let ⟨v,h1,h2⟩:=e.get i x h;⟨v,h1,h2.imp k hm⟩⟩
noncomputable abbrev ATR:=List AV->ASt->MH->(List AV->ASt->MH->Prop)->Prop
structure Zs (D:Addr)(tr:TR)(a:ATR):Prop where
 go:∀ {σ:St} {H:Hp} {O:Own} {ρ:ASt} {M:MH} {acc:List AV} {ys:List V} {N:St->Hp->Prop} {N':List AV->ASt->MH->Prop},Wf H O M->Er H O M σ ρ->O D->M D=none->H D=some (.lst ys)->zd H O M ys acc->a acc ρ M N' ->
  (∀ acc' ρ' M' σ' H' O' ys',N' acc' ρ' M'->ku D H O M H' O' M'->Wf H' O' M'->Er H' O' M' σ' ρ'->O' D->M' D=none->H' D=some (.lst ys')->zd H' O' M' ys' acc'->N σ' H')->tr σ H N
noncomputable def xE (a:AE):ATR:=fun acc ρ M N=>a ρ M fun x M1=>acc.length<sizeLine/\N (acc ++ [x]) ρ M1
theorem kR {D:Addr}{t:TE}{a:AE}(h:zx t a):Zs D (Zb t D) (xE a):=⟨fun {σ H O ρ M acc ys N N'} w e o m hd r q k=>h.go w e q fun x M1 v H1 O1 ⟨q0,q1⟩ k1 w1 r1=>by
 obtain ⟨e1,o1,m1⟩:=k1.prv D o m
 have r':=r.ext k1
 refine ⟨ys,e1.trans hd,by rw [r.1];exact q0,k _ _ _ _ _ _ (ys ++ [v]) q1 (k1.x.trans (ku.set o1 _)) (we w1 o1 m1 (e1.trans hd) _ (fun _ z=>nomatch z)) ((e.ext k1).imp (kK o1 _) (fun _ z=>z)) o1 m1 zk ((r'.snoc r1).imp (kK o1 _) (fun _ z=>z))⟩⟩
noncomputable def YW (ag:AG)(at_:AT)(tr:ATR)(G:MH->Prop)(N:List AV->ASt->MH->Prop)(l acc:List AV)(ρ:ASt)(M:MH):Prop:=
 ∃ Pv:Nat->List AV->ASt->MH->Prop,Pv 0 acc ρ M/\(∀ i x acc ρ M,l[i]?=some x->Pv i acc ρ M->G M/\ag x ρ M fun ρ2 M2=>at_ ρ2 M2 fun b M3=>if b=true then tr acc ρ2 M3 (Pv (i+1)) else Pv (i+1) acc ρ2 M3)/\∀ acc ρ M,Pv l.length acc ρ M->G M/\N acc ρ M
theorem WB {D:Addr}{g:TG}{tt:TT}{tr:TR}{ag:AG}{at_:AT}{atr:ATR}(hg:ki g ag)(ht:jc tt at_)(hr:Zs D tr atr){J:It}{H1:Hp}{O1:Own}{M1:MH}{l:List AV}{G:MH->Prop}(hj:jn J H1 O1 M1 l G){N':List AV->ASt->MH->Prop}{N:St->Hp->Prop}
  {σ:St} {ρ:ASt} {acc:List AV} {ys:List V} (w:Wf H1 O1 M1) (e:Er H1 O1 M1 σ ρ) (o:O1 D) (m:M1 D=none) (hd:H1 D=some (.lst ys)) (r:zd H1 O1 M1 ys acc) (q:YW ag at_ atr G N' l acc ρ M1)
  (k:∀ acc' ρ' M' σ' H' O' ys',N' acc' ρ' M'->ku D H1 O1 M1 H' O' M'->Wf H' O' M'->Er H' O' M' σ' ρ'->O' D->M' D=none->H' D=some (.lst ys')->zd H' O' M' ys' acc'->N σ' H'):CL J g tt tr N σ H1:=by
 obtain ⟨Pv,p0,ps,pd⟩:=q
 refine ⟨fun i n σ H=>n=l.length - i/\i<=l.length/\∃ O ρ M acc ys,Wf H O M/\Er H O M σ ρ/\ku D H1 O1 M1 H O M/\O D/\M D=none/\H D=some (.lst ys)/\zd H O M ys acc/\Pv i acc ρ M,
  ⟨l.length,by simp,Nat.zero_le _,O1,ρ,M1,acc,ys,w,e,Ext.refl.x,o,m,hd,r,p0⟩,?_⟩
 rintro i n σ H ⟨rfl,hi,O,ρ,M,acc,ys,w,e,x,o,m,hd,r,hf⟩
 by_cases hil:i<l.length
 ·have hy:l[i]?=some l[i]:=List.getElem?_eq_getElem hil
  obtain ⟨hG,q2⟩:=ps i l[i] acc ρ M hy hf
  obtain ⟨j1,j2⟩:=(hj H O M x.fix x.mst w hG i).2 l[i] hy
  refine .inr ⟨j1,fun σ' H'=>∃ O ρ M acc ys,Wf H' O M/\Er H' O M σ' ρ/\ku D H1 O1 M1 H' O M/\O D/\M D=none/\H' D=some (.lst ys)/\zd H' O M ys acc/\Pv (i+1) acc ρ M,fun σ' H' z=>⟨l.length - (i+1),by omega,rfl,hil,z⟩,fun v H' hv=>?_⟩
  obtain ⟨k2,w2,r2⟩:=j2 v H' hv
  refine hg.go w2 (e.ext k2) r2 q2 fun σ3 H3 O3 ρ3 M3 q3 k3 w3 e3=>?_
  refine ht.go w3 e3 q3 fun b M4 H4 O4 q4 k4 w4=>?_
  have k24:=(k2.trans k3).trans k4
  obtain ⟨d4,o4,m4⟩:=k24.prv D o m
  have r4:=r.ext k24
  cases b with
  | true=>
   exact hr.go w4 (e3.ext k4) o4 m4 (d4.trans hd) r4 q4 fun acc' ρ' M' σ' H' O' ys' q5 k5 w5 e5 o5 m5 d5 r5=>⟨O',ρ',M',acc',ys',w5,e5,(x.trans k24.x).trans k5,o5,m5,d5,r5,q5⟩
  | false=>
   exact ⟨O4,ρ3,M4,acc,ys,w4,e3.ext k4,x.trans k24.x,o4,m4,d4.trans hd,r4,q4⟩
 ·have e0:i=l.length:=by omega
  subst e0
  obtain ⟨hG,q2⟩:=pd acc ρ M hf
  exact .inl ⟨(hj H O M x.fix x.mst w hG l.length).1 rfl,k _ _ _ _ _ _ _ q2 x w e o m hd r⟩
noncomputable def Xa (ts:List Nat)(ai:AI)(ag:AG)(at_:AT)(atr:ATR):AF:=fun ρ M Q=>ai ρ M fun l G M1=>YW ag at_ atr G (fun acc _ M'=>Q acc M') l [] (wV ts ρ) M1
theorem Zk {ts:List Nat}{wi:TI}{g:TG}{tt:TT}{tr:Addr->TR}{ai:AI}{ag:AG}{at_:AT}{atr:ATR}(hi:xg wi ai)(hg:ki g ag)(ht:jc tt at_)(hr:∀ D,Zs D (tr D) atr):wZ (KC ts wi g tt tr) (Xa ts ai ag at_ atr):=⟨fun {σ H O ρ M Q Q'} w e q k=>by
 refine hi.go w e q fun l G M1 J H1 O1 q1 k1 w1 hj D hD=>?_
 have kp:=qY w1 hD (.lst [])
 have hj':jn J (upd H1 D (.lst [])) (xo O1 D) M1 l G:=fun H' O' M' fix mst w' hG=>hj H' O' M' (fun a o ha ho=>fix a o (kp.fix a o ha ho).2 (kp.fix a o ha ho).1) mst w' hG
 refine WB hg ht (hr D) hj' (yS w1 hD _ (fun _ z=>nomatch z)) (((e.ext k1).clr ts).ext kp) (.inl rfl) (w1.fresh hD).2 zk .nil q1 fun acc' ρ' M' σ' H' O' ys' q5 k5 w5 e5 o5 m5 d5 r5=>?_
 have hH:=vd w1 k1 hD
 refine k _ _ _ _ _ _ q5 ⟨fun a o ha ho=>?_,fun a ha hm=>?_,fun a hm=>k5.mst a (k1.mst a hm)⟩ w5 o5 m5 hH d5 r5
 ·obtain ⟨x1,x2⟩:=(k1.trans kp).fix a o ha ho
  exact k5.fix a o x2 x1
 ·obtain ⟨x1,x2,x3⟩:=(k1.trans kp).prv a ha hm
  obtain ⟨y1,y2,y3⟩:=k5.prv a (fun z=>w.ne a ha (by rw [z];exact hH)) x2 x3
  exact ⟨y1.trans x1,y2,y3⟩⟩
theorem QZ {ts:List Nat}{wi:TI}{g:TG}{tt:TT}{te:TE}{ai:AI}{ag:AG}{at_:AT}{ae:AE}(hi:xg wi ai)(hg:ki g ag)(ht:jc tt at_)(he:zx te ae):wZ (vc ts wi g tt te) (Xa ts ai ag at_ (xE ae)):=
 ⟨fun w e q k=>(Zk (ts:=ts) (tr:=Zb te) hi hg ht fun D=>kR he).go w e q k⟩
noncomputable def aI (C:Int->Int->Prop)(g:Int->Int->Dat):AR2:=fun x y M Q=>∃ i j,x=.d (.int i)/\y=.d (.int j)/\C i j/\Q (.d (g i j)) M
noncomputable def aI0 (g:Int->Int->Dat):AR2:=fun x y M Q=>∃ i j,x=.d (.int i)/\y=.d (.int j)/\Q (.d (g i j)) M
theorem V8 {C:Int->Int->Prop}{f:Int->Int->Int}:Jt (rI C fun i j=>.int (f i j)) (aI C fun i j=>.int (f i j)):=⟨fun w r1 r2 ⟨i,j,e1,e2,c,q⟩ k=>by
 subst e1 e2;exact ⟨i,j,zA r1,zA r2,c,k _ _ _ _ _ q .refl w .int⟩⟩
theorem X4 {f:Int->Int->Int}:Jt (rI0 fun i j=>.int (f i j)) (aI0 fun i j=>.int (f i j)):=⟨fun w r1 r2 ⟨i,j,e1,e2,q⟩ k=>by
 subst e1 e2;exact ⟨i,j,zA r1,zA r2,k _ _ _ _ _ q .refl w .int⟩⟩
noncomputable def aU (g:Int->Dat):AV->MH->AK->Prop:=fun x M Q=>∃ i,x=.d (.int i)/\Q (.d (g i)) M
theorem Vu {f:Int->Int}:Bt (rU fun i=>.int (f i)) (aU fun i=>.int (f i)):=⟨fun w r1 ⟨i,e1,q⟩ k=>by
 subst e1;exact ⟨i,zA r1,k _ _ _ _ _ q .refl w .int⟩⟩
noncomputable def eqS:Dat->Dat->Option Bool
 | .non,.non=>some true | .non,.int _=>some false | .int _,.non=>some false | .non,.bl _=>some false | .bl _,.non=>some false | .non,.str _=>some false | .str _,.non=>some false
 | .int i,.int j=>some (decide (i=j)) | .bl a,.bl b=>some (decide (a=b)) | .str a,.str b=>some (decide (a=b))
 | .int _,.str _=>some false | .str _,.int _=>some false | .bl _,.str _=>some false | .str _,.bl _=>some false
 | _,_=>none
noncomputable def kU:AV->Bool
 | .d .non=>true
 | _=>false
theorem YS {H:Hp}{O:Own}{M:MH}{xs:List V}{l:List AV}(r:zd H O M xs l){i:Int}{x:AV}(h:atI l i=some x):∃ v,atI xs i=some v/\zj H O M v x:=by
 unfold atI at h ⊢
 rw [r.1]
 cases e:ixN l.length i with
 | none=>rw [e] at h;cases h
 | some j=>rw [e] at h;exact r.get h
noncomputable def aIx (s:AV->MH->Option (List AV)):AR2:=fun x y M Q=>∃ l i z,s x M=some l/\y=.d (.int i)/\atI l i=some z/\Q z M
theorem Jf {K:PySem.W.Frag}:Jt (Zt K) (aIx zQ):=⟨fun w r1 r2 ⟨l,i,z,h,e,hz,q⟩ k=>by
 subst e
 obtain ⟨a,xs,rfl,h1,r⟩:=yQ w r1 h
 obtain ⟨v,hv,rv⟩:=YS r hz
 exact ⟨a,xs,i,v,rfl,zA r2,h1.elim (fun h=>.inl (SqL.of h)) (fun h=>.inr (SqT.of h)),hv,k _ _ _ _ _ q .refl w rv⟩⟩
structure B5 (r:R2)(a:AV->AV->MH->(List AV->Prop)->Prop):Prop where
 go:∀ {x y:V} {dx dy:AV} {H:Hp} {O:Own} {M:MH} {Q:VK} {Q':List AV->Prop},Wf H O M->zj H O M x dx->zj H O M y dy->a dx dy M Q'->(∀ l ys,Q' l->zd H O M ys l->∀ p,H p=none->Q (.ref p) (upd H p (.lst ys)))->r x y H Q
noncomputable abbrev AO:=ASt->MH->(Option Int->MH->Prop)->Prop
structure Ba (t:TO)(a:AO):Prop where
 go:∀ {σ:St} {H:Hp} {O:Own} {ρ:ASt} {M:MH} {Q:Option Int->Hp->Prop} {Q':Option Int->MH->Prop},Wf H O M->Er H O M σ ρ->a ρ M Q'->(∀ x M' H' O',Q' x M'->Ext H O M H' O' M'->Wf H' O' M'->Q x H')->t σ H Q
noncomputable def Vp (a:AE):AO:=fun ρ M Q=>a ρ M fun x M1=>∃ i,x=.d (.int i)/\Q (some i) M1
theorem Xh {t:TE}{a:AE}(h:zx t a):Ba (Ke t) (Vp a):=⟨fun w e q k=>h.go w e q fun x M1 v H1 O1 ⟨i,e1,q1⟩ k1 w1 r1=>by
 subst e1;exact ⟨i,zA r1,k _ _ _ _ q1 k1 w1⟩⟩
theorem Zz {H:Hp}{O:Own}{M:MH}(w:Wf H O M){p:Addr}(hp:H p=none){xs:List V}{l:List Dat}(r:zd H O M xs (l.map .d)):zj (upd H p (.tup xs)) O M (.ref p) (.d (.tup l)):=
 have r2:=r.pure
 Rep.tup (w.fresh hp).1 zk r2.1 fun i x d e1 e2=>(r2.2 i x d e1 e2).ext (zW w hp _)
theorem zd.reverse {H:Hp}{O:Own}{M:MH}{xs:List V}{l:List AV}(a:zd H O M xs l):zd H O M xs.reverse l.reverse:=
 ⟨by rw [List.length_reverse,List.length_reverse,a.1],fun i x d h1 h2=>by
  have hi:=(List.getElem?_eq_some_iff.mp h1).1
  rw [List.length_reverse] at hi
  rw [List.getElem?_reverse hi] at h1
  rw [List.getElem?_reverse (by rw [<- a.1];exact hi),<- a.1] at h2
  exact a.2 _ x d h1 h2⟩
noncomputable def Az (a:AE)(st:AO):AE:=fun ρ M Q=>a ρ M fun x M1=>st ρ M1 fun i M2=>i=some (-1)/\((∃ m l,zL x M2=some m/\pur m=some l/\Q (.d (.lst l.reverse)) M2) \/ (∃ l,x=.d (.tup l)/\Q (.d (.tup l.reverse)) M2))
theorem YH {K:PySem.W.Frag}{t:TE}{ts:TO}{a:AE}{st:AO}(h1:zx t a)(h2:Ba ts st):zx (Wr K t ts) (Az a st):=
 ⟨fun w e q k=>h1.go w e q fun x M1 v H1 O1 q1 k1 w1 r1=>h2.go w1 (e.ext k1) q1 fun i M2 H2 O2 ⟨hi,q2⟩ k2 w2=>⟨hi,by
  have k12:=k1.trans k2
  rcases q2 with ⟨m,l,hl,hp,q2⟩ | ⟨l,rfl,q2⟩
  ·rw [qP hp] at hl
   obtain ⟨a,xs,rfl,e1,p1⟩:=qb w2 (r1.ext k2) hl
   have p2:=p1.reverse
   rw [<- List.map_reverse] at p2
   have p3:=p2.pure
   exact ⟨a,xs,rfl,.inl ⟨SqL.of e1,fun p hp=>k _ _ _ _ _ q2 (k12.trans (zW w2 hp _)) (kA w2 hp _) (Rep.lst (w2.fresh hp).1 zk p3.1 fun i x d e1 e2=>(p3.2 i x d e1 e2).ext (zW w2 hp _))⟩⟩
  ·obtain ⟨a,xs,rfl,e1,p1⟩:=qA (l:=l.map .d) (r1.ext k2) rfl
   have p2:=p1.reverse
   rw [<- List.map_reverse] at p2
   exact ⟨a,xs,rfl,.inr ⟨SqT.of e1,fun p hp=>k _ _ _ _ _ q2 (k12.trans (zW w2 hp _)) (kA w2 hp _) (Zz w2 hp p2)⟩⟩⟩⟩
mutual
noncomputable def eqD:Dat->Dat->Bool
 | .non,.non=>true
 | .bl a,.bl b=>a == b
 | .bl a,.int b=>(if a then 1 else 0) == b
 | .int a,.bl b=>a == (if b then 1 else 0)
 | .int a,.int b=>a == b
 | .str a,.str b=>a == b
 | .lst a,.lst b=>kQ a b
 | .tup a,.tup b=>kQ a b
 | _,_=>false
noncomputable def kQ:List Dat->List Dat->Bool
 | [],[]=>true
 | a :: r,b :: r'=>eqD a b && kQ r r'
 | _,_=>false
end
mutual
noncomputable def dp:Dat->Nat
 | .lst l=>dps l+1
 | .tup l=>dps l+1
 | .rng _ _ _=>1000
 | .scr _ _=>1000
 | .ty _=>1000
 | _=>0
noncomputable def dps:List Dat->Nat
 | []=>0
 | a :: r=>max (dp a) (dps r)
end
theorem Wo {l:List Dat}{n:Nat}(h:∀ d ∈ l,dp d<=n):dps l<=n:=by
 induction l with
 | nil=>exact Nat.zero_le _
 | cons a r ih=>rw [dps];exact Nat.max_le.mpr ⟨h a (by simp),ih fun d hd=>h d (by simp [hd])⟩
theorem zT {l:List Dat}{d:Dat}(h:d ∈ l):dp d<=dps l:=by
 induction l with
 | nil=>cases h
 | cons a r ih=>
  rw [dps]
  rcases List.mem_cons.mp h with rfl | h
  ·exact Nat.le_max_left _ _
  ·exact Nat.le_trans (ih h) (Nat.le_max_right _ _)
theorem jo:∀ (l m:List Dat),l.length=m.length->kQ l m=(List.range l.length).all fun j=>eqD (l.getD j .non) (m.getD j .non)
 | [],[],_=>rfl
 | a :: r,b :: r',h=>by
  rw [kQ,jo r r' (by simpa using h),List.length_cons,List.range_succ_eq_map,List.all_cons,List.all_map];rfl
 | [],_ :: _,h=>by simp at h
 | _ :: _,[],h=>by simp at h
theorem jy:∀ (l m:List Dat),l.length ≠ m.length->kQ l m=false
 | [],[],h=>absurd rfl h
 | a :: r,b :: r',h=>by rw [kQ,jy r r' (fun z=>h (by simp [z])),Bool.and_false]
 | [],_ :: _,h=>by simp [kQ]
 | _ :: _,[],h=>by simp [kQ]
theorem Jx (l m:List Dat):eqD (.lst l) (.tup m)=false:=by simp [eqD]
theorem Xq (l m:List Dat):eqD (.tup l) (.lst m)=false:=by simp [eqD]
theorem XR {p:Dat->Prop}(h:∀ a,(∀ b,dp b<dp a->p b)->p a)(a:Dat):p a:=by
 have:∀ n a,dp a<=n->p a:=fun n=>by
  induction n with
  | zero=>intro a ha;exact h a fun b hb=>absurd hb (by omega)
  | succ n ih=>intro a ha;exact h a fun b hb=>ih b (by omega)
 exact this (dp a) a (Nat.le_refl _)
theorem xS {l:List Dat}(h:∀ d ∈ l,eqD d d=true):kQ l l=true:=by
 induction l with
 | nil=>rfl
 | cons a r ih=>rw [kQ,h a (by simp),ih fun d hd=>h d (by simp [hd])];rfl
theorem xr {a:Dat}:dp a<1000->eqD a a=true:=by
 refine XR (p:=fun a=>dp a<1000->eqD a a=true) (fun a ih ha=>?_) a
 cases a with
 | non=>rfl
 | bl b=>rw [eqD];simp
 | int i=>rw [eqD];simp
 | str x=>rw [eqD];simp
 | lst l=>
  rw [eqD]
  rw [dp] at ha ih
  exact xS fun d hd=>ih d (by have:=zT hd;omega) (by have:=zT hd;omega)
 | tup l=>
  rw [eqD]
  rw [dp] at ha ih
  exact xS fun d hd=>ih d (by have:=zT hd;omega) (by have:=zT hd;omega)
 | rng a b c=>rw [dp] at ha;omega
 | scr _ l=>rw [dp] at ha;omega
 | ty l=>rw [dp] at ha;omega
theorem Rep.fn {H:Hp}{O O':Own}{v:V}{a b:Dat}(r:Rep H O v a):Rep H O' v b->dp a<1000->dp b<1000->a=b:=by
 induction r generalizing b with
 | non=>intro r' _ _;cases r';rfl
 | bl=>intro r' _ _;cases r';rfl
 | int=>intro r' _ _;cases r';rfl
 | str=>intro r' _ _;cases r';rfl
 | ty=>intro r' h _;rw [dp] at h;omega
 | rng _ _=>intro r' h _;rw [dp] at h;omega
 | scr _ _=>intro r' h _;rw [dp] at h;omega
 | scrK _=>intro r' h _;rw [dp] at h;omega
 | @lst a xs l o1 h1 l1 r1 ih=>
  intro r' ha hb
  cases r' with
  | @lst _ ys m o2 h2 l2 r2=>
   rw [h1] at h2;cases h2
   congr 1
   refine List.ext_getElem (l1.symm.trans l2) fun i i1 i2=>?_
   have i0:i<xs.length:=by omega
   rw [dp] at ha hb
   refine ih i xs[i] l[i] (by simp [i0]) (by simp [i1]) (r2 i xs[i] m[i] (by simp [i0]) (by simp [i2])) ?_ ?_
   ·have:=zT (List.getElem_mem i1);omega
   ·have:=zT (List.getElem_mem i2);omega
  | @tup _ ys m o2 h2=>rw [h1] at h2;cases h2
  | rng o2 h2=>rw [dp] at hb;omega
  | scr o2 h2=>rw [dp] at hb;omega
  | scrK _=>rw [dp] at hb;omega
 | @tup a xs l o1 h1 l1 r1 ih=>
  intro r' ha hb
  cases r' with
  | @tup _ ys m o2 h2 l2 r2=>
   rw [h1] at h2;cases h2
   congr 1
   refine List.ext_getElem (l1.symm.trans l2) fun i i1 i2=>?_
   have i0:i<xs.length:=by omega
   rw [dp] at ha hb
   refine ih i xs[i] l[i] (by simp [i0]) (by simp [i1]) (r2 i xs[i] m[i] (by simp [i0]) (by simp [i2])) ?_ ?_
   ·have:=zT (List.getElem_mem i1);omega
   ·have:=zT (List.getElem_mem i2);omega
  | @lst _ ys m o2 h2=>rw [h1] at h2;cases h2
  | rng o2 h2=>rw [dp] at hb;omega
  | scr o2 h2=>rw [dp] at hb;omega
  | scrK _=>rw [dp] at hb;omega
section
variable {X:Cx}{pins:List (Addr × Obj)}{s:Shared}{σ:St}{H:Hp}
theorem ju {xs:List V}{us:List Value}(r:zq xs us){j:Nat}(h:j<us.toArray.size):∃ x,xs[j]?=some x/\zp x us.toArray[j]:=by
 have h':j<us.length:=by simpa using h
 have hx:j<xs.length:=by rw [r.length];exact h'
 obtain ⟨u,hu,ru⟩:=r.get (i:=j) (List.getElem?_eq_getElem hx)
 have e:us.toArray[j]=u:=by
  have:=(List.getElem?_eq_some_iff.mp hu).2
  simpa using this
 exact ⟨xs[j],List.getElem?_eq_getElem hx,by rw [e];exact ru⟩
theorem Jp (I : Inv X pins σ H s){A : Around}{p q : Addr}{O O' : Own}{a b : Dat}(ih : ∀ (c d : Dat) (v u : V) (v' u' : Value), dp c < dp a -> Rep H O v c -> Rep H O' u d -> dp d < 1000 -> zp v v' -> zp u u' -> SeqAt.EqAt A.in1 s v' u' (eqD c d))
    (ra:Rep H O (.ref p) a) (rb:Rep H O' (.ref q) b) (ha:dp a<1000) (hb:dp b<1000) (hu:A.units<cLine):SeqAt.RcAt A s (.ref p) (.ref q) (eqD a b):=by
  cases ra with
  | @lst _ xs l o1 h1 l1 r1=>
    obtain ⟨us,u1,p1,z1⟩:=I.list (SqL.of h1)
    cases rb with
    | @lst _ ys m o2 h2 l2 r2=>
      obtain ⟨ws,u2,p2,z2⟩:=I.list (SqL.of h2)
      have s1:us.toArray.size=l.length:=by rw [List.size_toArray,<- u1.length,l1]
      have s2:ws.toArray.size=m.length:=by rw [List.size_toArray,<- u2.length,l2]
      by_cases e:l.length=m.length
      · have h := SeqAt.RcAt.lists (A := A) (e := fun j => eqD (l.getD j .non) (m.getD j .non)) p1.isList p2.isList (by rw [s1, s2, e]) hu (fun j j1 j2 => by
          obtain ⟨x,hx,rx⟩:=ju u1 j1
          obtain ⟨y,hy,ry⟩:=ju u2 j2
          have k1:j<l.length:=by rw [<- s1];exact j1
          have k2:j<m.length:=by rw [<- s2];exact j2
          rw [dp] at ha hb ih
          refine ih _ _ x y _ _ ?_ (r1 j x _ hx ?_) (r2 j y _ hy ?_) ?_ rx ry
          · rw [List.getD_eq_getElem?_getD,List.getElem?_eq_getElem k1]
            have:=zT (List.getElem_mem k1);show dp l[j]<_;omega
          · rw [List.getD_eq_getElem?_getD,List.getElem?_eq_getElem k1];rfl
          · rw [List.getD_eq_getElem?_getD,List.getElem?_eq_getElem k2];rfl
          · rw [List.getD_eq_getElem?_getD,List.getElem?_eq_getElem k2]
            have:=zT (List.getElem_mem k2);show dp m[j]<_;omega)
        rw [s1,<- jo l m e] at h
        rw [eqD];exact h
      · rw [eqD,jy l m e]
        exact SeqAt.RcAt.lists_lengths p1.isList p2.isList (by rw [s1,s2];simpa using e) hu
    | @tup _ ys m o2 h2 l2 r2=>
      obtain ⟨ws,u2,p2,z2⟩:=I.tuple (SqT.of h2)
      rw [Jx]
      exact SeqAt.RcAt.list_tuple p1.isList p2 hu
    | rng o2 h2=>rw [dp] at hb;omega
    | scr o2 h2=>rw [dp] at hb;omega
    | scrK _=>rw [dp] at hb;omega
  | @tup _ xs l o1 h1 l1 r1=>
    obtain ⟨us,u1,p1,z1⟩:=I.tuple (SqT.of h1)
    cases rb with
    | @tup _ ys m o2 h2 l2 r2=>
      obtain ⟨ws,u2,p2,z2⟩:=I.tuple (SqT.of h2)
      have s1:us.toArray.size=l.length:=by rw [List.size_toArray,<- u1.length,l1]
      have s2:ws.toArray.size=m.length:=by rw [List.size_toArray,<- u2.length,l2]
      have h := SeqAt.RcAt.tuples (A := A) (e := fun j => eqD (l.getD j .non) (m.getD j .non)) (show s.heap.IsTuple p us.toArray from p1) (show s.heap.IsTuple q ws.toArray from p2) hu (fun j j1 j2 => by
          obtain ⟨x,hx,rx⟩:=ju u1 j1
          obtain ⟨y,hy,ry⟩:=ju u2 j2
          have k1:j<l.length:=by rw [<- s1];exact j1
          have k2:j<m.length:=by rw [<- s2];exact j2
          rw [dp] at ha hb ih
          refine ih _ _ x y _ _ ?_ (r1 j x _ hx ?_) (r2 j y _ hy ?_) ?_ rx ry
          · rw [List.getD_eq_getElem?_getD,List.getElem?_eq_getElem k1]
            have:=zT (List.getElem_mem k1);show dp l[j]<_;omega
          · rw [List.getD_eq_getElem?_getD,List.getElem?_eq_getElem k1];rfl
          · rw [List.getD_eq_getElem?_getD,List.getElem?_eq_getElem k2];rfl
          · rw [List.getD_eq_getElem?_getD,List.getElem?_eq_getElem k2]
            have:=zT (List.getElem_mem k2);show dp m[j]<_;omega)
      rw [s1,s2] at h
      rw [eqD]
      by_cases e:l.length=m.length
      · rw [<- e,Nat.min_self,beq_self_eq_true,Bool.and_true,<- jo l m e] at h
        exact h
      · rw [jy l m e]
        rw [show (l.length == m.length)=false by simpa using e,Bool.and_false] at h
        exact h
    | @lst _ ys m o2 h2 l2 r2=>
      obtain ⟨ws,u2,p2,z2⟩:=I.list (SqL.of h2)
      rw [Xq]
      exact SeqAt.RcAt.tuple_list p1 p2.isList hu
    | rng o2 h2=>rw [dp] at hb;omega
    | scr o2 h2=>rw [dp] at hb;omega
    | scrK _=>rw [dp] at hb;omega
  | rng o2 h2=>rw [dp] at ha;omega
  | scr o2 h2=>rw [dp] at ha;omega
  | scrK _=>rw [dp] at ha;omega
theorem BR (I:Inv X pins σ H s){a:Addr}{xs:List V}(h:H a=some (.lst xs)):∃ us,s.heap.IsList a us:=let ⟨_,_,p,_⟩:=I.list (SqL.of h);⟨_,p.isList⟩
theorem BV (I:Inv X pins σ H s){a:Addr}{xs:List V}(h:H a=some (.tup xs)):∃ us,s.heap.IsTuple a us:=let ⟨_,_,p,_⟩:=I.tuple (SqT.of h);⟨_,p⟩
local macro_rules | `(tactic| walk_at "sc")=>`(tactic| first
 | with_reducible exact .same _ | with_reducible exact .none_none | with_reducible exact .none_bool _ | with_reducible exact .none_int _ _ | with_reducible exact .none_str _ _ | with_reducible exact .bool_none _ | with_reducible exact .bool_bool _ _ | with_reducible exact .bool_int _ _ _ | with_reducible exact .bool_str _ _ _ | with_reducible exact .int_none _ _ | with_reducible exact .int_bool _ _ _ | with_reducible exact .int_int _ _ _ _ | with_reducible exact .int_str _ _ _ _ | with_reducible exact .str_none _ _ | with_reducible exact .str_bool _ _ _ | with_reducible exact .str_int _ _ _ _ | with_reducible exact .str_str _ _ _ _)
theorem ls_ (I:Inv X pins σ H s){a:Addr}{xs:List V}(h:H a=some (.lst xs)):s.heap.IsList a (Classical.choose (BR I h)):=Classical.choose_spec _
theorem ts_ (I:Inv X pins σ H s){a:Addr}{xs:List V}(h:H a=some (.tup xs)):s.heap.IsTuple a (Classical.choose (BV I h)):=Classical.choose_spec _
local macro_rules | `(tactic| walk_at "sq")=>`(tactic| first
 | with_reducible exact .none_list (ls_ (by assumption) (by assumption)) (by assumption) | with_reducible exact .bool_list _ (ls_ (by assumption) (by assumption)) (by assumption) | with_reducible exact .int_list _ _ (ls_ (by assumption) (by assumption)) (by assumption) | with_reducible exact .str_list _ _ (ls_ (by assumption) (by assumption)) (by assumption) | with_reducible exact .list_none (ls_ (by assumption) (by assumption)) (by assumption) | with_reducible exact .list_bool _ (ls_ (by assumption) (by assumption)) (by assumption) | with_reducible exact .list_int _ _ (ls_ (by assumption) (by assumption)) (by assumption) | with_reducible exact .list_str _ _ (ls_ (by assumption) (by assumption)) (by assumption)
 | with_reducible exact .none_tuple (ts_ (by assumption) (by assumption)) (by assumption) | with_reducible exact .bool_tuple _ (ts_ (by assumption) (by assumption)) (by assumption) | with_reducible exact .int_tuple _ _ (ts_ (by assumption) (by assumption)) (by assumption) | with_reducible exact .str_tuple _ _ (ts_ (by assumption) (by assumption)) (by assumption) | with_reducible exact .tuple_none (ts_ (by assumption) (by assumption)) (by assumption) | with_reducible exact .tuple_bool _ (ts_ (by assumption) (by assumption)) (by assumption) | with_reducible exact .tuple_int _ _ (ts_ (by assumption) (by assumption)) (by assumption) | with_reducible exact .tuple_str _ _ (ts_ (by assumption) (by assumption)) (by assumption))
theorem ZQ (I : Inv X pins σ H s){O O' : Own}(A : Around)(hu : A.units < cLine)(a b : Dat)(v u : V)(v' u' : Value)(ha : dp a < 1000)(ra : Rep H O v a)(rb : Rep H O' u b)(hb : dp b < 1000)(rv : zp v v')(ru : zp u u')
    (ih:∀ (c d:Dat) (v u:V) (v' u':Value),dp c<dp a->Rep H O v c->Rep H O' u d->dp d<1000->zp v v'->zp u u'->SeqAt.EqAt A.in1 s v' u' (eqD c d)):SeqAt.EqAt A s v' u' (eqD a b):=by
  by_cases hr:∃ p q,v=.ref p/\u=.ref q
  · obtain ⟨p,q,rfl,rfl⟩:=hr
    cases rv
    cases ru
    by_cases e:p=q
    · subst e
      rw [<- ra.fn rb ha hb,xr ha]
      exact .same _
    · exact .of_refs e (Jp I ih ra rb ha hb hu)
  · cases ra <;> cases rb <;> first
      | with_reducible exact absurd ⟨_,_,rfl,rfl⟩ hr
      | (rw [dp] at ha;omega)
      | (rw [dp] at hb;omega)
      | ((first | (obtain ⟨t0,rfl⟩:=rv) | cases rv);(first | (obtain ⟨t1,rfl⟩:=ru) | cases ru);simp only [eqD,Bool.not_false,Bool.not_true];first | walk_at "sc" | walk_at "sq")
theorem Kl (I:Inv X pins σ H s){O O':Own}:∀ (n:Nat) (A:Around),A.units+n<cLine->∀ (a b:Dat) (v u:V) (v' u':Value),dp a<=n->n<1000->Rep H O v a->Rep H O' u b->dp b<1000->zp v v'->zp u u'->SeqAt.EqAt A s v' u' (eqD a b):=by
 intro n
 induction n with
 | zero=>
  intro A hu a b v u v' u' ha _ ra rb hb rv ru
  exact ZQ I A (by omega) a b v u v' u' (by omega) ra rb hb rv ru fun _ _ _ _ _ _ h=>absurd h (by omega)
 | succ n ih=>
  intro A hu a b v u v' u' ha hn ra rb hb rv ru
  exact ZQ I A (by omega) a b v u v' u' (by omega) ra rb hb rv ru fun c d x y x' y' hc rc rd hd rx ry=>ih A.in1 (by show A.units+1+n<_;omega) c d x y x' y' (by omega) (by omega) rc rd hd rx ry
noncomputable def WT (f:Bool->Bool):R2:=fun x y H Q=>∃ O O' a b,Rep H O x a/\Rep H O' y b/\dp a<=40/\dp b<=40/\Q (.bl (f (eqD a b))) H
theorem We (I:Inv X pins σ H s){O O':Own}(A:Around)(hu:A.units+41<cLine)(a b:Dat)(v u:V)(v' u':Value)(ha:dp a<=40)(ra:Rep H O v a)(rb:Rep H O' u b)(hb:dp b<=40)(rv:zp v v')(ru:zp u u'):SeqAt.RcAt A s v' u' (eqD a b):=by
  have ih:∀ (c d:Dat) (v u:V) (v' u':Value),dp c<dp a->Rep H O v c->Rep H O' u d->dp d<1000->zp v v'->zp u u'->SeqAt.EqAt A.in1 s v' u' (eqD c d):=fun c d v u v' u' hc rc rd hd rv ru=>Kl I 40 A.in1 (by show A.units+1+40<_;omega) c d v u v' u' (by omega) (by omega) rc rd hd rv ru
  replace hu:A.units<cLine:=by omega
  by_cases hr:∃ p q,v=.ref p/\u=.ref q
  · obtain ⟨p,q,rfl,rfl⟩:=hr
    cases rv
    cases ru
    exact Jp I ih ra rb (by omega) (by omega) hu
  · cases ra <;> cases rb <;> first
      | with_reducible exact absurd ⟨_,_,rfl,rfl⟩ hr
      | (rw [dp] at ha;omega)
      | (rw [dp] at hb;omega)
      | ((first | (obtain ⟨t0,rfl⟩:=rv) | cases rv);(first | (obtain ⟨t1,rfl⟩:=ru) | cases ru);simp only [eqD,Bool.not_false,Bool.not_true];first | walk_at "sc" | walk_at "sq")
theorem Je (I : Inv X pins σ H s){A : Around}{p q : Addr}{O O' : Own}{a b : Dat}(ih : ∀ (c d : Dat) (v u : V) (v' u' : Value), dp c < dp a -> Rep H O v c -> Rep H O' u d -> dp d < 1000 -> zp v v' -> zp u u' -> SeqAt.EqAt A.in1 s v' u' (eqD c d))
    (ra:Rep H O (.ref p) a) (rb:Rep H O' (.ref q) b) (ha:dp a<1000) (hb:dp b<1000) (hu:A.units<cLine):SeqAt.RcNeAt A s (.ref p) (.ref q) (!(eqD a b)):=by
  cases ra with
  | @lst _ xs l o1 h1 l1 r1=>
    obtain ⟨us,u1,p1,z1⟩:=I.list (SqL.of h1)
    cases rb with
    | @lst _ ys m o2 h2 l2 r2=>
      obtain ⟨ws,u2,p2,z2⟩:=I.list (SqL.of h2)
      have s1:us.toArray.size=l.length:=by rw [List.size_toArray,<- u1.length,l1]
      have s2:ws.toArray.size=m.length:=by rw [List.size_toArray,<- u2.length,l2]
      by_cases e:l.length=m.length
      · have h := SeqAt.RcNeAt.lists (A := A) (e := fun j => eqD (l.getD j .non) (m.getD j .non)) p1.isList p2.isList (by rw [s1, s2, e]) hu (fun j j1 j2 => by
          obtain ⟨x,hx,rx⟩:=ju u1 j1
          obtain ⟨y,hy,ry⟩:=ju u2 j2
          have k1:j<l.length:=by rw [<- s1];exact j1
          have k2:j<m.length:=by rw [<- s2];exact j2
          rw [dp] at ha hb ih
          refine ih _ _ x y _ _ ?_ (r1 j x _ hx ?_) (r2 j y _ hy ?_) ?_ rx ry
          · rw [List.getD_eq_getElem?_getD,List.getElem?_eq_getElem k1]
            have:=zT (List.getElem_mem k1);show dp l[j]<_;omega
          · rw [List.getD_eq_getElem?_getD,List.getElem?_eq_getElem k1];rfl
          · rw [List.getD_eq_getElem?_getD,List.getElem?_eq_getElem k2];rfl
          · rw [List.getD_eq_getElem?_getD,List.getElem?_eq_getElem k2]
            have:=zT (List.getElem_mem k2);show dp m[j]<_;omega)
        rw [s1,<- jo l m e] at h
        rw [eqD];exact h
      · rw [eqD,jy l m e]
        exact SeqAt.RcNeAt.lists_lengths p1.isList p2.isList (by rw [s1,s2];simpa using e) hu
    | @tup _ ys m o2 h2 l2 r2=>
      obtain ⟨ws,u2,p2,z2⟩:=I.tuple (SqT.of h2)
      rw [Jx]
      exact SeqAt.RcNeAt.list_tuple p1.isList p2 hu
    | rng o2 h2=>rw [dp] at hb;omega
    | scr o2 h2=>rw [dp] at hb;omega
    | scrK _=>rw [dp] at hb;omega
  | @tup _ xs l o1 h1 l1 r1=>
    obtain ⟨us,u1,p1,z1⟩:=I.tuple (SqT.of h1)
    cases rb with
    | @tup _ ys m o2 h2 l2 r2=>
      obtain ⟨ws,u2,p2,z2⟩:=I.tuple (SqT.of h2)
      have s1:us.toArray.size=l.length:=by rw [List.size_toArray,<- u1.length,l1]
      have s2:ws.toArray.size=m.length:=by rw [List.size_toArray,<- u2.length,l2]
      have h := SeqAt.RcNeAt.tuples (A := A) (e := fun j => eqD (l.getD j .non) (m.getD j .non)) (show s.heap.IsTuple p us.toArray from p1) (show s.heap.IsTuple q ws.toArray from p2) hu (fun j j1 j2 => by
          obtain ⟨x,hx,rx⟩:=ju u1 j1
          obtain ⟨y,hy,ry⟩:=ju u2 j2
          have k1:j<l.length:=by rw [<- s1];exact j1
          have k2:j<m.length:=by rw [<- s2];exact j2
          rw [dp] at ha hb ih
          refine ih _ _ x y _ _ ?_ (r1 j x _ hx ?_) (r2 j y _ hy ?_) ?_ rx ry
          · rw [List.getD_eq_getElem?_getD,List.getElem?_eq_getElem k1]
            have:=zT (List.getElem_mem k1);show dp l[j]<_;omega
          · rw [List.getD_eq_getElem?_getD,List.getElem?_eq_getElem k1];rfl
          · rw [List.getD_eq_getElem?_getD,List.getElem?_eq_getElem k2];rfl
          · rw [List.getD_eq_getElem?_getD,List.getElem?_eq_getElem k2]
            have:=zT (List.getElem_mem k2);show dp m[j]<_;omega)
      rw [s1,s2] at h
      rw [eqD]
      by_cases e:l.length=m.length
      · rw [<- e,Nat.min_self,beq_self_eq_true,Bool.and_true,<- jo l m e] at h
        exact h
      · rw [jy l m e]
        rw [show (l.length == m.length)=false by simpa using e,Bool.and_false] at h
        exact h
    | @lst _ ys m o2 h2 l2 r2=>
      obtain ⟨ws,u2,p2,z2⟩:=I.list (SqL.of h2)
      rw [Xq]
      exact SeqAt.RcNeAt.tuple_list p1 p2.isList hu
    | rng o2 h2=>rw [dp] at hb;omega
    | scr o2 h2=>rw [dp] at hb;omega
    | scrK _=>rw [dp] at hb;omega
  | rng o2 h2=>rw [dp] at ha;omega
  | scr o2 h2=>rw [dp] at ha;omega
  | scrK _=>rw [dp] at ha;omega
theorem JO (I:Inv X pins σ H s){O O':Own}(A:Around)(hu:A.units+41<cLine)(a b:Dat)(v u:V)(v' u':Value)(ha:dp a<=40)(ra:Rep H O v a)(rb:Rep H O' u b)(hb:dp b<=40)(rv:zp v v')(ru:zp u u'):SeqAt.RcNeAt A s v' u' (!(eqD a b)):=by
  have ih:∀ (c d:Dat) (v u:V) (v' u':Value),dp c<dp a->Rep H O v c->Rep H O' u d->dp d<1000->zp v v'->zp u u'->SeqAt.EqAt A.in1 s v' u' (eqD c d):=fun c d v u v' u' hc rc rd hd rv ru=>Kl I 40 A.in1 (by show A.units+1+40<_;omega) c d v u v' u' (by omega) (by omega) rc rd hd rv ru
  replace hu:A.units<cLine:=by omega
  by_cases hr:∃ p q,v=.ref p/\u=.ref q
  · obtain ⟨p,q,rfl,rfl⟩:=hr
    cases rv
    cases ru
    exact Je I ih ra rb (by omega) (by omega) hu
  · cases ra <;> cases rb <;> first
      | with_reducible exact absurd ⟨_,_,rfl,rfl⟩ hr
      | (rw [dp] at ha;omega)
      | (rw [dp] at hb;omega)
      | ((first | (obtain ⟨t0,rfl⟩:=rv) | cases rv);(first | (obtain ⟨t1,rfl⟩:=ru) | cases ru);simp only [eqD,Bool.not_false,Bool.not_true];first | walk_at "sc" | walk_at "sq")
theorem jv (hu:X.A.units+64<cLine):OpR X (compareOp .Eq) (WT id):=by
 intro pins s σ H x y v u Q I rx ry h
 obtain ⟨O,O',a,b,ra,rb,ha,hb,k⟩:=h
 exact We I X.A (by omega) a b x y v u ha ra rb hb rx ry _ _ _ _ ⟨.bl _,H,I,rfl,k⟩
theorem wo (hu:X.A.units+64<cLine):OpR X (compareOp .NotEq) (WT not):=by
 intro pins s σ H x y v u Q I rx ry h
 obtain ⟨O,O',a,b,ra,rb,ha,hb,k⟩:=h
 exact JO I X.A (by omega) a b x y v u ha ra rb hb rx ry _ _ _ _ ⟨.bl _,H,I,rfl,k⟩
end
noncomputable def KZ (x:AV)(M:MH):Option Dat:=match x with
 | .d x=>some x
 | .ref a=>match M a with
  | some (.lst l)=>(pur l).map .lst
  | _=>none
theorem VW (x:Dat)(M:MH):KZ (.d x) M=some x:=rfl
theorem vL {H:Hp}{O:Own}{M:MH}{v:V}{x:AV}{d:Dat}(w:Wf H O M)(r:zj H O M v x)(h:KZ x M=some d):∃ O',Rep H O' v d:=by
 cases x with
 | d x=>cases h;exact ⟨O,r⟩
 | ref a=>
  unfold KZ at h
  dsimp only at h
  cases e:M a with
  | none=>rw [e] at h;cases h
  | some o=>
   rw [e] at h
   cases o with
   | lst l=>
    dsimp only at h
    cases ep:pur l with
    | none=>rw [ep] at h;cases h
    | some ds=>
     rw [ep] at h
     cases h
     obtain ⟨xs,hx,rx⟩:=w.mo a _ e
     rw [qP ep] at rx
     have rp:=rx.pure
     refine ⟨X9 O a,?_⟩
     rw [r.1]
     exact Rep.lst (fun z=>z.1 rfl) hx rp.1 fun i x d e1 e2=>(rp.2 i x d e1 e2).imp (kl a)
   | _=>cases h
noncomputable def Bo (f:Bool->Bool):AR2:=fun x y M Q=>∃ a b,KZ x M=some a/\KZ y M=some b/\dp a<=40/\dp b<=40/\Q (.d (.bl (f (eqD a b)))) M
theorem XH {f:Bool->Bool}:Jt (WT f) (Bo f):=⟨fun w r1 r2 ⟨a,b,e1,e2,h1,h2,q⟩ k=>by
 obtain ⟨O1,p1⟩:=vL w r1 e1
 obtain ⟨O2,p2⟩:=vL w r2 e2
 exact ⟨O1,O2,a,b,p1,p2,h1,h2,k _ _ _ _ _ q .refl w .bl⟩⟩
theorem jT (i:Int):dp (.int i)=0:=by simp [dp]
theorem Yk (ns:List Int):dp (.lst (ns.map .int))<=1:=by
 rw [dp]
 have:dps (ns.map Dat.int)<=0:=Wo fun d hd=>by
  obtain ⟨i,_,rfl⟩:=List.mem_map.mp hd
  rw [jT];exact Nat.le_refl _
 omega
theorem qO {H:Hp}{O:Own}{M:MH}{vs:List V}{x:AV}(r:zd H O M vs [x]):∃ v,vs=[v]/\zj H O M v x:=by
 obtain ⟨v1,r',rfl,a1,r2⟩:=r.cons_inv
 rw [r2.nil_inv];exact ⟨v1,rfl,a1⟩
theorem kE {H:Hp}{O:Own}{M:MH}{vs:List V}{x y:AV}(r:zd H O M vs [x,y]):∃ v u,vs=[v,u]/\zj H O M v x/\zj H O M u y:=by
 obtain ⟨v1,r',rfl,a1,r2⟩:=r.cons_inv
 obtain ⟨v2,rfl,a2⟩:=qO r2
 exact ⟨v1,v2,rfl,a1,a2⟩
noncomputable def AD:List AV->MH->AK->Prop:=fun xs M Q=>∃ x l,xs=[x]/\zQ x M=some l/\Q (.d (.int (l.length:Nat))) M
theorem Yb {K:PySem.W.Frag}:vX (fun xs H Q=>∃ p ys,xs=[V.ref p]/\(SqL K H p ys \/ SqT K H p ys)/\Q (V.int ys.length) H) AD:=⟨fun w r ⟨x,l,e,h,q⟩ k=>by
 subst e
 obtain ⟨v,rfl,rv⟩:=qO r
 obtain ⟨a,xs,rfl,h1,r1⟩:=yQ w rv h
 exact ⟨a,xs,rfl,h1.elim (fun h=>.inl (SqL.of h)) (fun h=>.inr (SqT.of h)),by rw [r1.1];exact k _ _ _ _ _ q .refl w .int⟩⟩
noncomputable def bI1 (f:Int->Int):List AV->MH->AK->Prop:=fun xs M Q=>∃ i,xs=[.d (.int i)]/\Q (.d (.int (f i))) M
theorem Yu:vX (fun xs H Q=>∃ i,xs=[V.int i]/\Q (V.int (if i<0 then -i else i)) H) (bI1 fun i=>if i<0 then -i else i):=⟨fun w r ⟨i,e,q⟩ k=>by
 subst e
 obtain ⟨v,rfl,rv⟩:=qO r
 exact ⟨i,by rw [zA rv],k _ _ _ _ _ q .refl w .int⟩⟩
noncomputable def bI2 (f:Int->Int->Int):List AV->MH->AK->Prop:=fun xs M Q=>∃ i j,xs=[.d (.int i),.d (.int j)]/\Q (.d (.int (f i j))) M
theorem Am {f:Int->Int->Int}:vX (fun xs H Q=>∃ i j,xs=[V.int i,V.int j]/\Q (V.int (f i j)) H) (bI2 f):=⟨fun w r ⟨i,j,e,q⟩ k=>by
 subst e
 obtain ⟨v,u,rfl,rv,ru⟩:=kE r
 exact ⟨i,j,by rw [zA rv,zA ru],k _ _ _ _ _ q .refl w .int⟩⟩
noncomputable def Vg:List AV->MH->AK->Prop:=fun xs M Q=>∃ c,xs=[.d (.bl c)]/\Q (.d (.int (if c=true then 1 else 0))) M
theorem JX:vX (fun xs H Q=>∃ k,xs=[V.bl k]/\Q (V.int (if k=true then 1 else 0)) H) Vg:=⟨fun w r ⟨c,e,q⟩ k=>by
 subst e
 obtain ⟨v,rfl,rv⟩:=qO r
 exact ⟨c,by rw [yn rv],k _ _ _ _ _ q .refl w .int⟩⟩
noncomputable def K7:List AV->MH->AK->Prop:=fun xs M Q=>∃ x l ds,xs=[x]/\zQ x M=some l/\pur l=some ds/\Q (.d (.tup ds)) M
theorem Qx {K:PySem.W.Frag}:vX (fun xs H Q=>∃ p ys,xs=[V.ref p]/\((SqL K H p ys/\∀ l,H l=none->Q (V.ref l) (upd H l (HO.tup ys))) \/ SqT K H p ys/\Q (V.ref p) H)) K7:=⟨fun w r ⟨x,l,ds,e,h,hp,q⟩ k=>by
 subst e
 obtain ⟨v,rfl,rv⟩:=qO r
 rw [qP hp] at h
 rcases qm h with h' | ⟨m,rfl,e2⟩
 ·obtain ⟨a,xs,rfl,h1,r1⟩:=qb w rv h'
  exact ⟨a,xs,rfl,.inl ⟨SqL.of h1,fun p hp=>k _ _ _ _ _ q (zW w hp _) (kA w hp _) (Zz w hp r1)⟩⟩
 ·obtain rfl:ds=m:=by have:=congrArg pur e2;rw [ql,ql] at this;cases this;rfl
  obtain ⟨a,xs,rfl,h1,r1⟩:=qA (l:=ds.map .d) rv rfl
  exact ⟨a,xs,rfl,.inr ⟨SqT.of h1,k _ _ _ _ _ q .refl w rv⟩⟩⟩
structure Jr (r:List V->Hp->VK->Prop)(a:List AV->MH->(List AV->Prop)->Prop):Prop where
 go:∀ {vs:List V} {xs:List AV} {H:Hp} {O:Own} {M:MH} {Q:VK} {Q':List AV->Prop},Wf H O M->zd H O M vs xs->a xs M Q'->(∀ l ys,Q' l->zd H O M ys l->∀ p,H p=none->Q (.ref p) (upd H p (.lst ys)))->r vs H Q
noncomputable def fCB (r:List AV->MH->(List AV->Prop)->Prop)(b:AA):AF:=fun ρ M Q=>b ρ M fun xs M1=>r xs M1 fun l=>Q l M1
theorem yC {r:List V->Hp->VK->Prop}{ra:List AV->MH->(List AV->Prop)->Prop}{u:TA}{b:AA}(hr:Jr r ra)(h:jL u b):wZ (tCB r u) (fCB ra b):=
 ⟨fun w e q k=>h.go w e q fun x M1 v H1 O1 q1 k1 w1 r1=>hr.go w1 r1 q1 fun l ys q3 r3 p hp=>
  k l M1 p ys _ _ q3 (k1.trans (qY w1 hp _)) (yS w1 hp _ (fun _ z=>nomatch z)) (.inl rfl) (w1.fresh hp).2 (vd w1 k1 hp) zk (r3.ext (qY w1 hp _))⟩
noncomputable def KR:List AV->MH->(List AV->Prop)->Prop:=fun xs M Q=>∃ x l,xs=[x]/\zQ x M=some l/\Q l
theorem xK {K:PySem.W.Frag}:Jr (fun xs H Q=>∃ p ys,xs=[V.ref p]/\(SqL K H p ys \/ SqT K H p ys)/\∀ l,H l=none->Q (V.ref l) (upd H l (HO.lst ys))) KR:=⟨fun w r ⟨x,l,e,h,q⟩ k=>by
 subst e
 obtain ⟨v,rfl,rv⟩:=qO r
 obtain ⟨a,xs,rfl,h1,r1⟩:=yQ w rv h
 exact ⟨a,xs,rfl,h1.elim (fun h=>.inl (SqL.of h)) (fun h=>.inr (SqT.of h)),k _ _ q r1⟩⟩
theorem jh {H:Hp}{O:Own}{M:MH}:∀ {ns:List Int} {xs:List V},zd H O M xs (ns.map fun i=>AV.d (.int i))->xs=ns.map V.int
 | [],xs,r=>r.nil_inv
 | i :: ns,xs,r=>by
  obtain ⟨v,r',rfl,a1,r2⟩:=r.cons_inv
  rw [zA a1,jh r2];rfl
noncomputable def tyA (x:AV)(M:MH):Option String:=match x with
 | .d .non=>some "NoneType"
 | .d (.bl _)=>some "bool"
 | .d (.int _)=>some "int"
 | .d (.str _)=>some "str"
 | .d (.lst _)=>some "list"
 | .d (.tup _)=>some "tuple"
 | .ref a=>match M a with
  | some (.lst _)=>some "list"
  | some (.dK _)=>some "dict"
  | some (.dT _)=>some "dict"
  | _=>none
 | _=>none
theorem Ak {K:PySem.W.Frag}{H:Hp}{O:Own}{M:MH}{v:V}{x:AV}{t:String}(w:Wf H O M)(r:zj H O M v x)(h:tyA x M=some t):jV K H v (.type t):=by
 cases x with
 | d x=>
  cases (show Rep H O v x from r) with
  | non=>cases h;exact .non
  | bl=>cases h;exact .bl _
  | int=>cases h;exact .int _
  | str=>cases h;exact .str _
  | lst o e=>cases h;exact .lst e
  | tup o e=>cases h;exact .tup e
  | ty=>cases h
  | rng _ _=>cases h
  | scr _ _=>cases h
  | scrK _=>cases h
 | ref a=>
  unfold tyA at h
  dsimp only at h
  rw [r.1]
  cases e:M a with
  | none=>rw [e] at h;cases h
  | some o=>
   rw [e] at h
   have:=w.mo a o e
   cases o with
   | lst l=>cases h;obtain ⟨xs,hx,_⟩:=this;exact .lst hx
   | dK l=>cases h;obtain ⟨xs,hx,_⟩:=this;exact .dK hx
   | dT l=>cases h;obtain ⟨xs,hx,_⟩:=this;exact .dT hx
   | ins C fs=>cases h
   | exc C fs=>cases h
   | tb R=>cases h
noncomputable def AY:List AV->MH->AK->Prop:=fun xs M Q=>∃ x t c b,xs=[x,.d (.ty c)]/\tyA x M=some t/\isT t c=some b/\Q (.d (.bl b)) M
theorem Yy {K:PySem.W.Frag}:vX (fun xs H Q=>∃ x t c b,xs=[x,V.ty c]/\jV K H x (Value.type t)/\isT t c=some b/\Q (V.bl b) H) AY:=⟨fun w r ⟨x,t,c,b,e,h,hb,q⟩ k=>by
 subst e
 obtain ⟨v,u,rfl,rv,ru⟩:=kE r
 exact ⟨v,t,c,b,by rw [WR ru],Ak w rv h,hb,k _ _ _ _ _ q .refl w .bl⟩⟩
noncomputable def X3:List Dat->Option (List String)
 | []=>some []
 | .ty n :: r=>(X3 r).map (n :: ·)
 | _=>none
noncomputable def Y6:List AV->MH->AK->Prop:=fun xs M Q=>∃ x ns,xs=[x]/\zL x M=some (List.map (fun i=>AV.d (.int i)) ns)/\(∀ (x:Int),x ∈ ns->0<=x/\x<=1000000)/\ns.length<=100000/\Q (.d (.int ns.sum)) M
theorem Jg {K:PySem.W.Frag}:vX (fun xs H Q=>∃ p ns,xs=[V.ref p]/\SqL K H p (List.map V.int ns)/\(∀ (x:Int),x ∈ ns->0<=x/\x<=1000000)/\ns.length<=100000/\Q (V.int ns.sum) H) Y6:=⟨fun w r ⟨x,ns,e,h,h2,h3,q⟩ k=>by
 subst e
 obtain ⟨v,rfl,rv⟩:=qO r
 obtain ⟨a,xs,rfl,h1,r1⟩:=qb w rv h
 rw [jh r1] at h1
 exact ⟨a,ns,rfl,SqL.of h1,h2,h3,k _ _ _ _ _ q .refl w .int⟩⟩
structure Bg (r:V->List V->Hp->VK->Prop)(a:AV->List AV->MH->AK->Prop):Prop where
 go:∀ {x:V} {dx:AV} {vs:List V} {xs:List AV} {H:Hp} {O:Own} {M:MH} {Q:VK} {Q':AK},Wf H O M->zj H O M x dx->zd H O M vs xs->a dx xs M Q'->(∀ x M' v H' O',Q' x M'->Ext H O M H' O' M'->Wf H' O' M'->zj H' O' M' v x->Q v H')->r x vs H Q
noncomputable def aBM (r:AV->List AV->MH->AK->Prop)(a:AE)(b:AA):AE:=fun ρ M Q=>a ρ M fun x M1=>(∃ l,zL x M1=some l)/\b ρ M1 fun xs M2=>r x xs M2 Q
theorem W6 {K:PySem.W.Frag}{r:V->List V->Hp->VK->Prop}{ra:AV->List AV->MH->AK->Prop}{t:TE}{u:TA}{a:AE}{b:AA}(hr:Bg r ra)(h1:zx t a)(h2:jL u b):zx (tBM K "list" r t u) (aBM ra a b):=
 ⟨fun w e q k=>h1.go w e q fun x M1 v H1 O1 ⟨⟨l,hl⟩,q1⟩ k1 w1 r1=>⟨by
  obtain ⟨a,xs,rfl,hx,_⟩:=qb w1 r1 hl
  exact .inl ⟨rfl,xs,SqL.of hx⟩,h2.go w1 (e.ext k1) q1 fun y M2 u H2 O2 q2 k2 w2 r2=>hr.go w2 (r1.ext k2) r2 q2 fun z M3 v3 H3 O3 q3 k3 w3 r3=>k z M3 v3 H3 O3 q3 ((k1.trans k2).trans k3) w3 r3⟩⟩
theorem JS {H:Hp}{O:Own}{M:MH}{p:Addr}{l l':List AV}{xs':List V}(w:Wf H O M)(hm:M p=some (.lst l))(r:zd H O M xs' l'):Ext H O M (upd H p (.lst xs')) O (mup M p (.lst l'))/\Wf (upd H p (.lst xs')) O (mup M p (.lst l')):=
 have np:=qk hm
 ⟨qX w np _ _,wX w np (fun _ z=>nomatch z) ⟨_,zk,r.ext (qX w np _ _)⟩⟩
noncomputable def ZY:AV->List AV->MH->AK->Prop:=fun x xs M Q=>∃ p l y,x=.ref p/\xs=[y]/\M p=some (.lst l)/\l.length<sizeLine/\Q (.d .non) (mup M p (.lst (l ++ [y])))
theorem wI:Bg kM ZY:=⟨fun w r1 r2 ⟨p,l,y,e1,e2,hm,hs,q⟩ k=>by
 subst e1 e2
 obtain ⟨v,rfl,rv⟩:=qO r2
 obtain ⟨xs,hx,rx⟩:=w.mo p _ hm
 obtain ⟨k1,w1⟩:=JS w hm (rx.snoc rv)
 exact ⟨p,xs,v,r1.1,rfl,hx,by rw [rx.1];exact hs,k _ _ _ _ _ q k1 w1 .non⟩⟩
noncomputable def J8 (r:Addr):MO->Prop
 | .lst l=>AV.ref r ∈ l
 | .dK kvs=>AV.ref r ∈ kvs.map (·.2)
 | .dT kvs=>AV.ref r ∈ kvs.map (·.2)
 | .ins _ fs=>AV.ref r ∈ fs.map (·.2)
 | .exc _ _=>False
 | .tb _=>False
inductive Dee (M M2:MH):AV->Dat->Prop
 | d {x:Dat}:Dee M M2 (.d x) x
 | lst {p:Addr} {l:List AV} {ds:List Dat}:M p=some (.lst l)->M2 p=none->l.length=ds.length->(∀ (i:Nat) a b,l[i]?=some a->ds[i]?=some b->Dee M M2 a b)->Dee M M2 (.ref p) (.lst ds)
structure Ja (M0 M':MH)(x x':AV)(M'':MH):Prop where
 sub:∀ q,M'' q=M' q \/ (M0 q=none/\M'' q=none)
 cl:∀ q o,M'' q=some o->M0 q=some o \/ ∀ r,J8 r o->M'' r ≠ none
 res:(x'=x/\∀ p,x=.ref p->M'' p ≠ none) \/ (∃ p l ds,x=.ref p/\M' p=some (.lst l)/\pur l=some ds/\M'' p=none/\x'=.d (.lst ds)) \/ ∃ d,Dee M' M'' x d/\x'=.d d
theorem Dee.rep {H:Hp}{O:Own}{M M2:MH}(w:Wf H O M){x:AV}{d:Dat}(h:Dee M M2 x d):∀ {v:V},zj H O M v x->Rep H (fun a=>O a/\¬ (M a ≠ none/\M2 a=none)) v d:=by
 induction h with
 | d=>exact fun r=>Rep.imp (fun a u h e=>⟨e,fun z=>h z.1⟩) r
 | @lst p l ds hm hn hl _ ih=>
  intro v r
  obtain ⟨xs,hx,rx⟩:=w.mo p _ hm
  rw [r.1]
  refine Rep.lst (fun z=>z.2 ⟨qk hm,hn⟩) hx (rx.1.trans hl) fun i x d e1 e2=>?_
  have hi:=(List.getElem?_eq_some_iff.mp e2).1
  have ha:l[i]?=some (l[i]'(by omega)):=List.getElem?_eq_getElem (by omega)
  exact ih i _ d ha e2 (rx.2 i x _ e1 ha)
theorem YF {H0 H : Hp}{O0 O : Own}{M0 M' M'' : MH}{x x' : AV}{v : V}(w0 : Wf H0 O0 M0)(w : Wf H O M')(k : Ext H0 O0 M0 H O M')(r : zj H O M' v x)(f : Ja M0 M' x x' M'') :
    ∃ O'',Wf H O'' M''/\Ext H0 O0 M0 H O'' M''/\zj H O'' M'' v x'/\∀ a,O a->M' a=none->O'' a/\M'' a=none:=by
  have ks:∀ a u,¬ O a->H a=some u->H a=some u/\¬ (O a/\¬ (M' a ≠ none/\M'' a=none)):=fun a u h e=>⟨e,fun z=>h z.1⟩
  have k0:∀ a,M0 a ≠ none->M'' a=M' a:=fun a h=>(f.sub a).elim (fun z=>z) (fun z=>absurd z.1 h)
  have m0:∀ a,M0 a ≠ none->M'' a ≠ none:=fun a h=>by rw [k0 a h];exact k.mst a h
  have avs:∀ {xs:List V} {l:List AV},zd H O M' xs l->(∀ r,AV.ref r ∈ l->M'' r ≠ none)->zd H (fun a=>O a/\¬ (M' a ≠ none/\M'' a=none)) M'' xs l:=fun {xs l} rr hr=>⟨rr.1,fun i y d e1 e2=>by
    have:=rr.2 i y d e1 e2
    cases d with
    | d d=>exact Rep.imp ks this
    | ref a=>exact ⟨this.1,hr a (List.mem_of_getElem? e2)⟩⟩
  have refs0:∀ q o,M0 q=some o->∀ r,J8 r o->M0 r ≠ none:=fun q o e r hr=>by
    have:=w0.mo q o e
    cases o with
    | lst l=>
      obtain ⟨xs,_,rr⟩:=this
      obtain ⟨i,hi⟩:=List.getElem?_of_mem hr
      obtain ⟨y,_,ry⟩:=rr.get hi
      exact ry.2
    | dK l=>
      obtain ⟨xs,_,rr⟩:=this
      obtain ⟨i,hi⟩:=List.getElem?_of_mem hr
      obtain ⟨y,_,ry⟩:=rr.2.get hi
      exact ry.2
    | dT l=>
      obtain ⟨xs,_,rr⟩:=this
      obtain ⟨i,hi⟩:=List.getElem?_of_mem hr
      obtain ⟨y,_,ry⟩:=rr.2.get hi
      exact ry.2
    | ins C l=>
      obtain ⟨dx,xs,_,rr,_⟩:=this
      obtain ⟨i,hi⟩:=List.getElem?_of_mem hr
      obtain ⟨y,_,ry⟩:=rr.2.get hi
      exact ry.2
    | exc C l=>exact hr.elim
    | tb R=>exact hr.elim
  refine ⟨fun a=>O a/\¬ (M' a ≠ none/\M'' a=none),⟨fun q o e=>?_,fun a h=>?_,fun a h=>w.al a h.1⟩,⟨fun a u h e=>?_,fun a h e=>?_,m0⟩,?_,fun a h e=>⟨⟨h,fun z=>z.1 e⟩,(f.sub a).elim (fun z=>z.trans e) (fun z=>z.2)⟩⟩
  · have e' : M' q = some o := by
      rcases f.sub q with z | z
      · rw [<- z];exact e
      · rw [z.2] at e;cases e
    have hr:∀ r,J8 r o->M'' r ≠ none:=by
      rcases f.cl q o e with z | z
      · exact fun r hr=>m0 r (refs0 q o z r hr)
      · exact z
    have:=w.mo q o e'
    cases o with
    | lst l=>obtain ⟨xs,h1,rr⟩:=this;exact ⟨xs,h1,avs rr hr⟩
    | dK l=>obtain ⟨xs,h1,rr⟩:=this;exact ⟨xs,h1,rr.1,avs rr.2 hr⟩
    | dT l=>obtain ⟨xs,h1,rr⟩:=this;exact ⟨xs,h1,rr.1,avs rr.2 hr⟩
    | ins C l=>
      obtain ⟨dx,xs,h1,rr,h2,h3,h4⟩:=this
      refine ⟨dx,xs,h1,⟨rr.1,avs rr.2 hr⟩,⟨h2,fun z=>z.1 h3⟩,?_,h4⟩
      rcases f.sub dx with z | z
      · rw [z];exact h3
      · exact z.2
    | exc C l=>
      obtain ⟨d,h1,h2⟩:=this
      refine ⟨d,h1,?_⟩
      rcases h2 with h2 | ⟨dx,e1,h2,h3,h4⟩
      · exact .inl h2
      · refine .inr ⟨dx,e1,h2,⟨h3,fun z=>z.1 h4⟩,?_⟩
        rcases f.sub dx with z | z
        · rw [z];exact h4
        · exact z.2
    | tb R=>obtain ⟨ps,h1,h2⟩:=this;exact ⟨ps,h1,h2.imp id fun ⟨c,oc,u,a1,a2,a3⟩=>⟨c,oc,u,a1,fun z=>a2 z.1,a3⟩⟩
  · refine ⟨w.own a ?_,fun z=>h z.2⟩
    rcases f.sub a with z | z
    · rw [<- z];exact h
    · exact absurd z.2 h
  · obtain ⟨x1,x2⟩:=k.fix a u h e
    exact ⟨x1,fun z=>x2 z.1⟩
  · obtain ⟨x1,x2,x3⟩:=k.prv a h e
    refine ⟨x1,⟨x2,fun z=>z.1 x3⟩,?_⟩
    rcases f.sub a with z | z
    · rw [z];exact x3
    · exact z.2
  · rcases f.res with ⟨rfl,hp⟩ | ⟨p,l,ds,rfl,hm,hp,hn,rfl⟩ | ⟨d,hd,rfl⟩
    · cases x' with
      | d d=>exact Rep.imp ks r
      | ref a=>exact ⟨r.1,hp a rfl⟩
    · obtain ⟨xs,hx,rx⟩:=w.mo p _ hm
      rw [qP hp] at rx
      have rp:=rx.pure
      rw [r.1]
      exact Rep.lst (fun z=>z.2 ⟨qk hm,hn⟩) hx rp.1 fun i x d e1 e2=>(rp.2 i x d e1 e2).imp ks
    · exact hd.rep w r
theorem KH {H0 H:Hp}{O0 O:Own}{M0 M' M'':MH}{x x':AV}{v:V}(w0:Wf H0 O0 M0)(w:Wf H O M')(k:Ext H0 O0 M0 H O M')(r:zj H O M' v x)(f:Ja M0 M' x x' M'') :
  ∃ O'',Wf H O'' M''/\Ext H0 O0 M0 H O'' M''/\zj H O'' M'' v x':=let ⟨O2,a,b,c,_⟩:=YF w0 w k r f;⟨O2,a,b,c⟩
noncomputable def Fr (M0 M:MH):Prop:=∀ q,M0 q ≠ none->M q=M0 q
theorem Fr.refl {M:MH}:Fr M M:=fun _ _=>rfl
theorem Fr.mup {M0 M:MH}(f:Fr M0 M){p:Addr}(h:M0 p=none)(o:MO):Fr M0 (mup M p o):=fun q hq=>by rw [zh (fun z=>hq (by rw [z];exact h))];exact f q hq
theorem Fr.sub {M0 M:MH}(f:Fr M0 M)(q:Addr):M0 q=M q \/ (M0 q=none/\M0 q=none):=by
 cases e:M0 q with
 | none=>exact .inr ⟨rfl,rfl⟩
 | some o=>exact .inl (by rw [f q (by rw [e];exact fun z=>nomatch z),e])
theorem Kc {M0 M:MH}(f:Fr M0 M)(d:Dat):Ja M0 M (.d d) (.d d) M0:=⟨f.sub,fun q o e=>.inl e,.inl ⟨rfl,fun p z=>nomatch z⟩⟩
theorem Yp {l:List AV}{ds:List Dat}(h:pur l=some ds)(r:Addr):AV.ref r ∉ l:=by
 rw [qP h];intro z
 obtain ⟨d,_,e⟩:=List.mem_map.mp z
 cases e
noncomputable def qW (N:List Str)(xs:List AV):ASt:=xs.map some ++ List.replicate (N.length - xs.length) none
theorem KB {H:Hp}{O:Own}{M:MH}{vs:List V}{xs:List AV}(r:zd H O M vs xs)(N:List Str):Er H O M (start N vs) (qW N xs):=by
 unfold start qW
 refine ⟨by simp [r.1],fun i x h=>?_⟩
 by_cases c:i<xs.length
 ·rw [List.getElem?_append_left (by simpa using c),List.getElem?_map] at h
  cases e:xs[i]? with
  | none=>rw [e] at h;cases h
  | some y=>
   rw [e] at h
   cases h
   obtain ⟨v,hv,rv⟩:=r.get e
   exact ⟨v,by rw [List.getElem?_append_left (by rw [List.length_map,r.1];exact c),List.getElem?_map,hv];rfl,rv⟩
 ·rw [List.getElem?_append_right (by simp;omega),List.getElem?_replicate] at h
  split at h <;> cases h
noncomputable def rtA (M0:MH)(Q:AK):AK:=fun x M'=>∃ x' M'',Ja M0 M' x x' M''/\Q x' M''
theorem dfA {P:Program}{w:World}{K:PySem.W.Frag}{mg:Str->Option Value}{base:Heap}{x:Str}{st:Stmt}{N ps:List Str}{k:Nat}{a:ASp}(at_:At K mg x st)(S:zJ N ps (zn st))
  (hb:∀ (kV doc pm:Value) (an:Option Addr) (cdv ct:Value) (us:List Value),us.length=ps.length->bindArgs (PySem.W.fnOf x x (qC st) (qd st) (zn st) .none kV doc pm an cdv ct) ⟨us,[]⟩=pure (ps.zip us))
  (len:∀ xs M Q,a xs M Q->xs.length=ps.length)
  (hbody:∀ (f:Addr) (cdv:Value) (A:Around) (outer:List Env) (s:Shared) (H:Hp) (E:XK),qI k (A.deeper (envOfC x (zn st) s.heap.objs.size f cdv)) ->
   ∃ t,PSs (yJ CX0 P w K mg base N x (zn st) f cdv A outer s H E).nox (qd st) t/\∃ b,qN t b/\∀ xs M Q,a xs M Q->b M { nx:=fun _ M'=>rtA M Q (.d .non) M',rt:=rtA M Q } (qW N xs) M):Df P w K mg base x ps (k+1) (cSp a):=by
 refine vP at_ S hb (fun vs H Q E h=>?_) (fun f cdv A outer s H vs Q E hr h=>?_)
 ·obtain ⟨xs,M,O,Q',w,r,q,_⟩:=h
  rw [r.1];exact len xs M Q' q
 ·obtain ⟨t,ht,b,hb,hq⟩:=hbody f cdv A outer s H E hr
  refine ⟨t,ht,?_⟩
  obtain ⟨xs,M,O,Q',w,r,q,kk⟩:=h
  refine hb.go w w (KB r N) .refl (hq xs M Q' q) ⟨fun σ H' O' ρ M' w' e' x' q'=>?_,fun v y H' O' M' w' x' r' q'=>?_,fun _ _ _ _ _ _ _ _ z=>z.elim,fun _ _ _ _ _ _ _ _ z=>z.elim⟩
  ·obtain ⟨y',M'',f,q2⟩:=q'
   obtain ⟨O'',w2,k2,r2⟩:=KH w w' x' (show zj H' O' M' .non (.d .non) from .non) f
   exact kk _ _ _ _ _ q2 k2 w2 r2
  ·obtain ⟨y',M'',f,q2⟩:=q'
   obtain ⟨O'',w2,k2,r2⟩:=KH w w' x' r' f
   exact kk _ _ _ _ _ q2 k2 w2 r2
structure BO (tr:Addr->TR)(a:ATR):Prop where
 go:∀ D,Zs D (tr D) a
theorem Q4 {K:PySem.W.Frag}{u:TA}{b:AA}(h:jL u b):zx (tCB (fun xs H Q=>∃ p ys,xs=[V.ref p]/\(SqL K H p ys \/ SqT K H p ys)/\∀ l,H l=none->Q (V.ref l) (upd H l (HO.lst ys))) u) (aFz (fCB KR b)):=yi (yC xK h)
theorem ex2 {t:TS}{q:AS->Prop}{b:AS}(h:qN t b)(k:q b):∃ b,qN t b/\q b:=⟨b,h,k⟩
section
variable {X:Cx}{K:PySem.W.Frag}
end
theorem WQ:isT "int" "int"=some true:=by decide +kernel
theorem V5:isT "int" "bool"=some false:=by decide +kernel
theorem V7:isT "int" "str"=some false:=by decide +kernel
theorem Ap:isT "int" "list"=some false:=by decide +kernel
theorem VN:isT "int" "tuple"=some false:=by decide +kernel
theorem WD:isT "bool" "int"=some true:=by decide +kernel
theorem V9:isT "bool" "bool"=some true:=by decide +kernel
theorem VM:isT "bool" "str"=some false:=by decide +kernel
theorem WX:isT "bool" "list"=some false:=by decide +kernel
theorem Aa:isT "bool" "tuple"=some false:=by decide +kernel
theorem VF:isT "str" "int"=some false:=by decide +kernel
theorem V0:isT "str" "bool"=some false:=by decide +kernel
theorem Wg:isT "str" "str"=some true:=by decide +kernel
theorem Vy:isT "str" "list"=some false:=by decide +kernel
theorem VC:isT "str" "tuple"=some false:=by decide +kernel
theorem Ag:isT "NoneType" "int"=some false:=by decide +kernel
theorem W2:isT "NoneType" "bool"=some false:=by decide +kernel
theorem VZ:isT "NoneType" "str"=some false:=by decide +kernel
theorem Wy:isT "NoneType" "list"=some false:=by decide +kernel
theorem VG:isT "NoneType" "tuple"=some false:=by decide +kernel
theorem Aw:isT "list" "int"=some false:=by decide +kernel
theorem VD:isT "list" "bool"=some false:=by decide +kernel
theorem VU:isT "list" "str"=some false:=by decide +kernel
theorem WL:isT "list" "list"=some true:=by decide +kernel
theorem Wi:isT "list" "tuple"=some false:=by decide +kernel
theorem WU:isT "tuple" "int"=some false:=by decide +kernel
theorem WG:isT "tuple" "bool"=some false:=by decide +kernel
theorem Wd:isT "tuple" "str"=some false:=by decide +kernel
theorem Ai:isT "tuple" "list"=some false:=by decide +kernel
theorem Wm:isT "tuple" "tuple"=some true:=by decide +kernel
theorem W8:wB "int" ["list","tuple"]=some false:=by decide +kernel
theorem WM:wB "bool" ["list","tuple"]=some false:=by decide +kernel
theorem Wz:wB "str" ["list","tuple"]=some false:=by decide +kernel
theorem WI:wB "NoneType" ["list","tuple"]=some false:=by decide +kernel
theorem VP:wB "list" ["list","tuple"]=some true:=by decide +kernel
theorem W9:wB "tuple" ["list","tuple"]=some true:=by decide +kernel
theorem Xu:X3 []=some []:=rfl
theorem Qu {n:String}{r:List Dat}:X3 (.ty n :: r)=(X3 r).map (n :: ·):=rfl
theorem Bm (M:MH):tyA (.d .non) M=some "NoneType":=rfl
theorem Bz (b:Bool)(M:MH):tyA (.d (.bl b)) M=some "bool":=rfl
theorem Bv (i:Int)(M:MH):tyA (.d (.int i)) M=some "int":=rfl
theorem Bs (s:Str)(M:MH):tyA (.d (.str s)) M=some "str":=rfl
theorem By (l:List Dat)(M:MH):tyA (.d (.lst l)) M=some "list":=rfl
theorem BJ (l:List Dat)(M:MH):tyA (.d (.tup l)) M=some "tuple":=rfl
theorem Qz (x:Dat)(r:List AV):pur (.d x :: r)=match pur r with | some l=>some (x :: l) | none=>none:=rfl
theorem Ww (i j:Int):eqS (.int i) (.int j)=some (decide (i=j)):=rfl
theorem VB (i j:Bool):eqS (.bl i) (.bl j)=some (decide (i=j)):=rfl
theorem Ae (i j:Str):eqS (.str i) (.str j)=some (decide (i=j)):=rfl
theorem YZ:kU (.d .non)=true:=rfl
theorem YR (i:Int):kU (.d (.int i))=false:=rfl
theorem Y3 (i:List Dat):kU (.d (.lst i))=false:=rfl
theorem XG (i:List Dat):kU (.d (.tup i))=false:=rfl
theorem YN (i:Addr):kU (.ref i)=false:=rfl
theorem YY (i:Str):kU (.d (.str i))=false:=rfl
theorem YM (i:Bool):kU (.d (.bl i))=false:=rfl
theorem KY {H H':Hp}{O:Own}{M:MH}(w:Wf H O M)(k:Kp [] H H'):Ext H O M H' O M/\Wf H' O M:=by
 have e:Ext H O M H' O M:=⟨fun a o h e=>⟨k a o (by simp) e,h⟩,fun a h e=>⟨by
  obtain ⟨o,ho,_⟩:=w.al a h
  rw [ho];exact k a o (by simp) ho,h,e⟩,fun _ h=>h⟩
 refine ⟨e,⟨fun a o h=>qf.ext e ?_ (w.mo a o h),w.own,fun a h=>?_⟩⟩
 ·obtain ⟨u,hu,_⟩:=w.al a (w.own a (by rw [h];exact fun z=>nomatch z))
  rw [hu];exact k a u (by simp) hu
 ·obtain ⟨o,ho,hn⟩:=w.al a h
  exact ⟨o,k a o (by simp) ho,hn⟩
theorem Vv {H H':Hp}{O:Own}{M:MH}(w:Wf H O M){b:Addr}{l:List AV}(hb:M b=some (.lst l))(k:Kp [b] H H'){ns:List Int}(h:H' b=some (.lst (ns.map V.int))) :
  Ext H O M H' O (mup M b (.lst (ns.map fun i=>.d (.int i))))/\Wf H' O (mup M b (.lst (ns.map fun i=>.d (.int i)))):=by
 have hOb:=w.own b (qk hb)
 have kk:∀ a o,a ≠ b->H a=some o->H' a=some o:=fun a o ha e=>k a o (by simpa using ha) e
 have e:Ext H O M H' O (mup M b (.lst (ns.map fun i=>.d (.int i)))):=⟨fun a o h e=>⟨kk a o (fun z=>h (by rw [z];exact hOb)) e,h⟩,fun a ha e=>by
  have hne:a ≠ b:=fun z=>by rw [z,hb] at e;cases e
  obtain ⟨o,ho,_⟩:=w.al a ha
  exact ⟨by rw [ho];exact kk a o hne ho,ha,by rw [zh hne];exact e⟩,fun a ha=>by
  by_cases c:a=b
  ·rw [c,zf];exact fun z=>nomatch z
  ·rw [zh c];exact ha⟩
 refine ⟨e,⟨fun a o ho=>?_,fun a ha=>?_,fun a ha=>?_⟩⟩
 ·by_cases c:a=b
  ·subst c;rw [zf] at ho;cases ho;exact ⟨_,h,wb ns⟩
  ·rw [zh c] at ho
   refine qf.ext e ?_ (w.mo a o ho)
   obtain ⟨u,hu,_⟩:=w.al a (w.own a (qk ho))
   rw [hu];exact kk a u c hu
 ·by_cases c:a=b
  ·rw [c];exact hOb
  ·rw [zh c] at ha;exact w.own a ha
 ·by_cases c:a=b
  ·rw [c];exact ⟨_,h,fun xs z=>nomatch z⟩
  ·obtain ⟨o,ho,hn⟩:=w.al a ha
   exact ⟨o,kk a o c ho,hn⟩
theorem Kt {H:Hp}{O:Own}{p:Addr}{ns:List Int}(ho:¬ O p)(h:H p=some (.lst (ns.map V.int))):Rep H O (.ref p) (.lst (ns.map .int)):=
 Rep.lst ho h (by simp) fun i x d e1 e2=>by
  rw [List.getElem?_map] at e1 e2
  cases e:ns[i]? with
  | none=>rw [e] at e1;cases e1
  | some n=>rw [e] at e1 e2;cases e1;cases e2;exact .int
theorem KU {H:Hp}{O:Own}{M:MH}{v:V}{x:AV}{ns:List Int}(w:Wf H O M)(r:zj H O M v x)(h:zL x M=some (ns.map fun i=>.d (.int i))):∃ a,v=.ref a/\H a=some (.lst (ns.map V.int)):=by
 obtain ⟨a,xs,rfl,h1,r1⟩:=qb w r h
 rw [jh r1] at h1
 exact ⟨a,rfl,h1⟩
theorem Df.imp' {P:Program}{w:World}{K:PySem.W.Frag}{mg:Str->Option Value}{base:Heap}{x:Str}{ps:List Str}{sp sp':Sp}{k:Nat}(D:Df P w K mg base x ps k sp)(h:∀ vs H Q E,sp' vs H Q E->sp vs H Q E):Df P w K mg base x ps k sp':=
 let ⟨f,fd,F,r⟩:=D
 ⟨f,fd,F.imp h,r⟩
mutual
noncomputable def wdt:Dat->Nat
 | .lst l=>max l.length (Av l)
 | .tup l=>max l.length (Av l)
 | _=>0
noncomputable def Av:List Dat->Nat
 | []=>0
 | a :: r=>max (wdt a) (Av r)
end
theorem BG (b:Bool):dp (.bl b)=0:=by simp [dp]
theorem KM (b:Str):dp (.str b)=0:=by simp [dp]
theorem WW:dp .non=0:=by simp [dp]
theorem Vz (a b:Bool):eqD (.bl a) (.bl b)=decide (a=b):=by rw [eqD];cases a <;> cases b <;> rfl
theorem VQ (a b:Int):eqD (.int a) (.int b)=decide (a=b):=by rw [eqD];by_cases h:a=b <;> simp [h]
theorem JJ (a b:Str):eqD (.str a) (.str b)=decide (a=b):=by rw [eqD];by_cases h:a=b <;> simp [h]
theorem VJ:eqD .non .non=true:=by simp [eqD]
theorem As (i:Int):eqD .non (.int i)=false:=by simp [eqD]
theorem An (i:Int):eqD (.int i) .non=false:=by simp [eqD]
theorem VX (i:Int)(s:Str):eqD (.int i) (.str s)=false:=by simp [eqD]
theorem Wb (i:Int)(s:Str):eqD (.str s) (.int i)=false:=by simp [eqD]
theorem Wt (s:Str):eqD (.str s) .non=false:=by simp [eqD]
theorem Wv (s:Str):eqD .non (.str s)=false:=by simp [eqD]
theorem Kr {x:AV}{M:MH}{l:List AV}(h:zL x M=some l){p:Addr}(hp:M p=none)(o:MO):zL x (mup M p o)=some l:=by
 rcases jm h with ⟨m,rfl,rfl⟩ | ⟨a,rfl,e⟩
 ·rfl
 ·exact jp (by rw [zh (fun z=>by rw [z,hp] at e;cases e)];exact e)
theorem qM {x:AV}{M:MH}{l:List AV}(h:zQ x M=some l){p:Addr}(hp:M p=none)(o:MO):zQ x (mup M p o)=some l:=by
 rcases qm h with h' | ⟨m,rfl,rfl⟩
 ·have:=Kr h' hp o
  rcases jm h' with ⟨m,rfl,rfl⟩ | ⟨a,rfl,e⟩
  ·rfl
  ·exact this
 ·rfl
theorem Yl {x:AV}{M M':MH}{l:List AV}(h:zQ x M=some l)(f:Fr M M'):zQ x M'=some l:=by
 rcases qm h with h' | ⟨m,rfl,rfl⟩
 ·rcases jm h' with ⟨m,rfl,rfl⟩ | ⟨a,rfl,e⟩
  ·rfl
  ·exact qK (by rw [f a (qk e)];exact e)
 ·rfl
theorem qE (ns:List Int):List.map AV.d (List.map Dat.int ns)=List.map (fun i=>AV.d (.int i)) ns:=by rw [List.map_map];rfl
theorem Vh (ns:List Bool):List.map AV.d (List.map Dat.bl ns)=List.map (fun i=>AV.d (.bl i)) ns:=by rw [List.map_map];rfl
theorem jk (ns:List Int):pur (List.map (fun i=>AV.d (.int i)) ns)=some (ns.map Dat.int):=by rw [<- qE,ql]
theorem YC (ns:List Bool):pur (List.map (fun i=>AV.d (.bl i)) ns)=some (ns.map Dat.bl):=by rw [<- Vh,ql]
theorem kB {n:Nat}{i:Int}(h0:0<=i)(h1:i<n):ixN n i=some i.toNat:=by unfold ixN;rw [if_pos h0,if_pos h1]
theorem WJ {α:Type}{l:List α}{i:Int}(h0:0<=i)(h1:i<l.length)(d:α):atI l i=some (l.getD i.toNat d):=by
 unfold atI
 rw [kB h0 h1]
 show l[i.toNat]?=_
 rw [List.getD_eq_getElem?_getD,List.getElem?_eq_getElem (by omega)];rfl
theorem zm {a zl:AS}{B:MH}{D:jN}{ρ:ASt}{M:MH}(h:∀ r,r=zl->Zj a r B D ρ M):Zj a zl B D ρ M:=h zl rfl
theorem Fr.non {M M':MH}(f:Fr M M'){p:Addr}(h:M' p=none):M p=none:=by
 cases e:M p with
 | none=>rfl
 | some o=>rw [f p (by rw [e];exact fun z=>nomatch z),e] at h;cases h
noncomputable abbrev ilD (os:List Int):Dat:=.lst (os.map .int)
theorem YL (ns:List Int)(M:MH):zL (.d (ilD ns)) M=some (ns.map fun i=>.d (.int i)):=by rw [wY,qE]
noncomputable def BxM (M:MH)(b:Addr)(N:Nat):Prop:=∃ x y z:Int,M b=some (.lst [.d (.int x),.d (.int y),.d (.int z)])/\0<=x/\0<=y/\y<2147483648/\0<=z/\z<=N
theorem BxM.mono {M:MH}{b:Addr}{N N':Nat}(h:BxM M b N)(hn:N<=N'):BxM M b N':=by
 obtain ⟨x,y,z,h1,h2,h3,h4,h5,h6⟩:=h
 exact ⟨x,y,z,h1,h2,h3,h4,h5,by omega⟩
theorem BxM.ne {M:MH}{b:Addr}{N:Nat}(h:BxM M b N):M b ≠ none:=by obtain ⟨x,y,z,h1,_⟩:=h;exact qk h1
theorem BxM.bx {H:Hp}{O:Own}{M:MH}{b:Addr}{N:Nat}(w:Wf H O M)(h:BxM M b N):Bx H b N:=by
 obtain ⟨x,y,z,h1,h2⟩:=h
 obtain ⟨xs,hx,rx⟩:=w.mo b _ h1
 rw [jh (ns:=[x,y,z]) rx] at hx
 exact ⟨x,y,z,hx,h2⟩
noncomputable def BxS (M M':MH)(b:Addr)(N:Nat):Prop:=BxM M' b N/\∃ o,M'=mup M b o
theorem BxS.at {M M':MH}{b:Addr}{N:Nat}(h:BxS M M' b N){q:Addr}(hq:q ≠ b):M' q=M q:=by
 obtain ⟨_,o,rfl⟩:=h
 exact zh hq
theorem Jo {H H':Hp}{O:Own}{M:MH}(w:Wf H O M){b:Addr}{N N':Nat}(hb:BxM M b N)(k:Kp [b] H H')(h:Bx H' b N'):∃ M',BxS M M' b N'/\Ext H O M H' O M'/\Wf H' O M':=by
 obtain ⟨x,y,z,h1,_⟩:=hb
 obtain ⟨x',y',z',g1,g2⟩:=h
 obtain ⟨e1,e2⟩:=Vv w h1 k (ns:=[x',y',z']) g1
 exact ⟨_,⟨⟨x',y',z',zf,g2⟩,_,rfl⟩,e1,e2⟩
mutual
noncomputable def pdD:Dat->PyData
 | .bl b=>.bool b
 | .int i=>.int i
 | .str x=>.str x
 | .lst l=>.list (yc l)
 | .tup l=>.tuple (yc l)
 | _=>.none
noncomputable def yc:List Dat->List PyData
 | []=>[]
 | a :: r=>pdD a :: yc r
end
section
variable {X:Cx}{pins:List (Addr × Obj)}{s:Shared}{σ:St}{H:Hp}{O:Own}
mutual
theorem WK:∀ d:Dat,(pdD d).hasDict=false
 | .non=>by simp [pdD,PyData.hasDict]
 | .bl _=>by simp [pdD,PyData.hasDict]
 | .int _=>by simp [pdD,PyData.hasDict]
 | .str _=>by simp [pdD,PyData.hasDict]
 | .ty _=>by simp [pdD,PyData.hasDict]
 | .rng _ _ _=>by simp [pdD,PyData.hasDict]
 | .scr _ _=>by simp [pdD,PyData.hasDict]
 | .lst l=>by rw [pdD,PyData.hasDict];exact yF l
 | .tup l=>by rw [pdD,PyData.hasDict];exact yF l
theorem yF:∀ l:List Dat,PyData.hasDictAll (yc l)=false
 | []=>by simp [yc,PyData.hasDictAll]
 | a :: r=>by rw [yc,PyData.hasDictAll,WK a,yF r];rfl
end
mutual
theorem Xk:∀ d:Dat,(pdD d).depth<=dp d
 | .non=>by simp [pdD,PyData.depth]
 | .bl _=>by simp [pdD,PyData.depth]
 | .int _=>by simp [pdD,PyData.depth]
 | .str _=>by simp [pdD,PyData.depth]
 | .ty _=>by simp [pdD,PyData.depth]
 | .rng _ _ _=>by simp [pdD,PyData.depth]
 | .scr _ _=>by simp [pdD,PyData.depth]
 | .lst l=>by rw [pdD,PyData.depth,dp];exact Nat.succ_le_succ (ko l)
 | .tup l=>by rw [pdD,PyData.depth,dp];exact Nat.succ_le_succ (ko l)
theorem ko:∀ l:List Dat,PyData.depthAll (yc l)<=dps l
 | []=>by simp [yc,PyData.depthAll]
 | a :: r=>by rw [yc,PyData.depthAll,dps];exact Nat.max_le.mpr ⟨Nat.le_trans (Xk a) (Nat.le_max_left _ _),Nat.le_trans (ko r) (Nat.le_max_right _ _)⟩
end
end
section
variable {X:Cx}
end
structure Sh (b:Nat)(d:Dat):Prop where
 s:(pdD d).showable=true
 l:(pdD d).shown.length<=b
structure SB (M0 M:MH)(b:Addr)(N:Nat):Prop where
 bx:BxM M b N
 fr:∀ q,M0 q ≠ none->q ≠ b->M q=M0 q
 b0:M0 b ≠ none
theorem SB.refl {M:MH}{b:Addr}{N:Nat}(h:BxM M b N):SB M M b N:=⟨h,fun _ _ _=>rfl,h.ne⟩
theorem SB.go {M0 M M':MH}{b:Addr}{N N':Nat}(s:SB M0 M b N)(t:BxS M M' b N'):SB M0 M' b N':=⟨t.1,fun q hq hb=>(t.at hb).trans (s.fr q hq hb),s.b0⟩
theorem SB.mono {M0 M:MH}{b:Addr}{N N':Nat}(s:SB M0 M b N)(h:N<=N'):SB M0 M b N':=⟨s.bx.mono h,s.fr,s.b0⟩
theorem SB.new {M0 M:MH}{b p:Addr}{N:Nat}(s:SB M0 M b N)(hp:M p=none):M0 p=none/\p ≠ b:=by
 have hb:p ≠ b:=fun z=>s.bx.ne (by rw [<- z];exact hp)
 refine ⟨?_,hb⟩
 cases e:M0 p with
 | none=>rfl
 | some o=>rw [s.fr p (by rw [e];exact fun z=>nomatch z) hb,e] at hp;cases hp
theorem SB.fin {M0 M:MH}{b:Addr}{N:Nat}(s:SB M0 M b N)(d:Dat):∃ M'',Ja M0 M (.d d) (.d d) M''/\BxS M0 M'' b N:=by
 obtain ⟨x,y,z,h1,h2⟩:=s.bx
 refine ⟨mup M0 b (.lst [.d (.int x),.d (.int y),.d (.int z)]),⟨fun q=>?_,fun q o e=>?_,.inl ⟨rfl,fun p z=>nomatch z⟩⟩,⟨x,y,z,zf,h2⟩,_,rfl⟩
 ·by_cases c:q=b
  ·rw [c,zf,h1];exact .inl rfl
  ·rw [zh c]
   cases e:M0 q with
   | none=>exact .inr ⟨rfl,rfl⟩
   | some o=>exact .inl (by rw [s.fr q (by rw [e];exact fun z=>nomatch z) c,e])
 ·by_cases c:q=b
  ·rw [c,zf] at e
   cases e
   exact .inr fun r hr=>absurd hr (Yp (ds:=[.int x,.int y,.int z]) rfl r)
  ·rw [zh c] at e;exact .inl e
theorem SB.rt {M0 M:MH}{b:Addr}{N:Nat}{Q:AK}{d:Dat}(s:SB M0 M b N)(q:∀ M',BxS M0 M' b N->Q (.d d) M'):rtA M0 Q (.d d) M:=by
 obtain ⟨M'',f,t⟩:=s.fin d
 exact ⟨_,_,f,q M'' t⟩
theorem Be {M0 M:MH}{Q:AK}{d:Dat}(f:Fr M0 M)(q:Q (.d d) M0):rtA M0 Q (.d d) M:=⟨_,_,Kc f d,q⟩
theorem SB.frm {M M2 M':MH}{b:Addr}{N:Nat}(f:Fr M M2)(hb:M b=none)(s:SB M2 M' b N):Fr M M':=fun q hq=>by
 have h1:q ≠ b:=fun z=>hq (by rw [z];exact hb)
 rw [s.fr q (by rw [f q hq];exact hq) h1,f q hq]
section
variable {X:Cx}
end
section
open PySem.SeqAt
open PySem.AutoSeq1 (wpAny_loadPart')
open PySem.MeetsSeq PySem.MeetsSeq2 PySem.MeetsSeq3 PySem.SeqRoads2
end
section
variable {X:Cx}
end
section
variable {X:Cx}{pins:List (Addr × Obj)}{σ:St}{H:Hp}{s:Shared}{a b:Addr}{kvs:List (List Key × V)}{k:List Key}{v:V}{r:Value}{A:Around}{E:Value->Shared->Prop}
theorem xP {Q:Unit->Shared->Prop}(hu:A.units<cLine)(I:Inv X pins σ H s)(e:H a=some (.dT kvs))(eb:H b=some (.tup (k.map kV)))(l:kvs.length<sizeLine)(rv:zp v r)(h:∀ s',Inv X pins σ (upd H a (.dT (jq kvs k v))) s'->Q () s') :
  wpAny (model X.prog X.w) A (dictSet a (.ref b) r) Q E s:=by
 obtain ⟨z,hd,xs,rel,dd⟩:=Y7 I.hok e
 have hz:xs.length<=sizeLine:=by rw [<- Paired.length rel];exact z
 have hl:(jq kvs k v).length<=sizeLine:=by have:=jj kvs k v;omega
 refine wpAny_dictSet_heap (hsz:=hz) (show (tupleKind (zG X.prog X.w)).room A from hu) (kX I.hok eb) dd fun h' dd' hs=>h _ ?_
 obtain ⟨q,es,ep,hq,h2,h3,h4,_,h5⟩:=dd'
 refine yr I (by rw [e];exact True.intro) hs ⟨q,hq⟩ ⟨hl,hd,_,(rel.put k eb rv).keeps fun c ys ec=>?_,q,es,ep,hq,h2,h3,h4,h5⟩
 rw [zg (xC ec e (fun z=>nomatch z))]
 exact ec
end
section
variable {prog:Program}{w:World}{A:Around}{E:Value->Shared->Prop}{s:Shared}
theorem vi {l:Addr}{vs:List Value}{Q:List Value->Shared->Prop}(hl:IsTup s.heap l vs.toArray)
  (h:Q vs { s with heap:=(s.heap.push (seqObj "list" #[] 0)).update s.heap.objs.size (Obj.mapSeq (· ++ vs.toArray)) }) (hsz:vs.length<=sizeLine:=by size_fits) :
  wpAny (model prog w) A (collect (.ref l)) Q E s:=by
 obtain ⟨o,ho,hc,n,hd⟩:=id hl
 unfold collect
 refine wpAny_bind (wpAny_runValue (codeAny_builtin entry_proto_collect' ?_))
 show wpAny _ _ (do again (.builtin "list.__iadd__" ⟨[<- newList [],.ref l],[]⟩)) _ _ s
 refine wpAny_bind (wpAny_newList (wpAny_pure ⟨Code.quiet_builtin _ (by decide +kernel),codeAny_builtin entry_list_iadd' ?_⟩))
 show wpAny _ _ (Builtin.List.listExtendWith (.ref s.heap.objs.size) (.ref l) (.ref s.heap.objs.size)) _ _ { s with heap:=s.heap.push (seqObj "list" #[] 0) }
 unfold Builtin.List.listExtendWith
 have ho':(s.heap.push (seqObj "list" #[] 0)).get? l=some o:=Heap.get?_push_of_some _ ho
 refine wpAny_bind (wpAny_typeOf (T:="tuple") ⟨o,ho',hc⟩ ?_)
 have ht:(Value.type "tuple" == Value.type "tuple")=true:=by rfl
 rw [if_pos (by rw [ht];simp)]
 refine wpAny_bind (listItems_at ho' hd ?_)
 refine wpAny_bind (listItems_at (xs:=#[]) (n:=0) (Heap.get?_push_size _ rfl) rfl ?_)
 rw [if_neg (by simp)]
 refine wpAny_bind (listUpdate_at (xs:=#[]) (n:=0) (Heap.get?_push_size _ rfl) rfl ?_ (Nat.zero_le _) (by show (#[] ++ vs.toArray).size<=sizeLine+1;simp only [Array.size_append,List.size_toArray,List.length_nil];omega))
 refine wpAny_pure ?_
 show wpAny (model prog w) A (do
   let o <- load s.heap.objs.size
   match o.data with
   | .seq xs _=>pure xs.toList
   | _=>unsupported "internal:collect") Q E { s with heap:=(s.heap.push (seqObj "list" #[] 0)).update s.heap.objs.size (Obj.mapSeq (· ++ vs.toArray)) }
 refine wpAny_bind (wpAny_load (get?_update_seq (Heap.get?_push_size _ rfl) _) ?_)
 show wpAny _ _ (pure ((#[]:Array Value) ++ vs.toArray).toList) Q E _
 rw [show ((#[]:Array Value) ++ vs.toArray).toList=vs by simp]
 exact wpAny_pure h
end
section
variable {X:Cx}
end
theorem Yq {α τ:Type}(R:τ->ASt)(g f:α->AV)(xs:List α){ag:AG}{ae:AE}{G:MH->Prop}{N:List AV->ASt->MH->Prop}{ρ:ASt}{M:MH}(h0:∃ o,ρ=R o)(hG:G M)(hl:xs.length<=100000)
  (hs:∀ (o:τ) (x:α) (Q:AV->ASt->MH->Prop),x ∈ xs->(∀ o',Q (f x) (R o') M)->ag (g x) (R o) M fun ρ2 M2=>ae ρ2 M2 fun y M3=>Q y ρ2 M3) (hN:∀ o,N (xs.map f) (R o) M):YW ag vY (xE ae) G N (xs.map g) [] ρ M:=by
 have hsl:100000<sizeLine:=by rw [sizeLine_eq];decide
 refine ⟨fun i acc ρ' M'=>i<=xs.length/\acc=(xs.take i).map f/\M'=M/\∃ o,ρ'=R o,⟨Nat.zero_le _,rfl,rfl,h0⟩,?_,?_⟩
 ·rintro i x acc ρ' M' hx ⟨hi,rfl,rfl,o,rfl⟩
  rw [List.getElem?_map] at hx
  cases e:xs[i]? with
  | none=>rw [e] at hx;cases hx
  | some y=>
   rw [e] at hx
   cases hx
   have hil:=(List.getElem?_eq_some_iff.mp e).1
   refine ⟨hG,?_⟩
   refine hs o y (fun z ρ2 M3=>((xs.take i).map f).length<sizeLine/\(i+1<=xs.length/\(xs.take i).map f ++ [z]=(xs.take (i+1)).map f/\M3=M'/\∃ o,ρ2=R o)) (List.mem_of_getElem? e) fun o'=>⟨by rw [List.length_map,List.length_take];omega,hil,?_,rfl,o',rfl⟩
   rw [List.take_add_one,e,List.map_append];rfl
 ·rintro acc ρ' M' ⟨_,rfl,rfl,o,rfl⟩
  rw [List.length_map,List.take_length]
  exact ⟨hG,hN o⟩
noncomputable def fl2 (o:Obj):Option Value:=match o.data with
 | .fields vs=>vs[2]?
 | _=>none
noncomputable def SmD (h h':Heap):Prop:=∀ b o,h.get? b=some o->∃ o',h'.get? b=some o'/\o'.dict=o.dict/\fl2 o'=fl2 o
structure Kd {α:Type}(t:Sem α):Prop where
 out:∀ (M:Model) (G:PySem.Ctx) (R:α->Pos->Shared->Prop) (Ee:Value->Pos->Shared->Prop) (p:Pos) (s:Shared),Sem.wp M G t R Ee p s->Sem.wp M G t (fun a p' s'=>R a p' s'/\SmD s.heap s'.heap) Ee p s
section
variable {α β:Type}
end
local macro_rules | `(tactic| walk_at "kd")=>`(tactic| repeat' with_reducible first
  | assumption
  | exact kd_pure _
  | exact kd_uns _
  | exact kd_field _ _
  | exact kd_setField _ _ _ (by decide)
  | exact kd_load _
  | exact kd_stack
  | exact kd_alloc _
  | apply kd_ite
  | apply kd_bind
  | intro _
  | split)
structure B1 (P:Program)(w:World)(outer:List Env)(H:Hp)(s:Shared)(B:Heap)(H':Hp)(s':Shared):Prop where
 os:s'.os=s.os
 bare:AllBare s'.gens
 stay:B.StaysIn s'.heap
 cov:∀ b o,s.heap.get? b=some o->b ∉ frs outer->∃ o',B.get? b=some o'/\(H b=none->o'=o)
 slot:∀ b o,s.heap.get? b=some o->b ∈ frs outer->∃ sl,s'.heap.get? b=some { o with slots:=sl }
 frf:∀ b ∈ frs outer,H b=none
 free:∀ b o,s.heap.get? b=some o->H b=none->H' b=none
 tups:∀ b xs,H b=some (.tup xs)->H' b=some (.tup xs)
 frzs:∀ b o u,H b=some (.frz o u)->H' b=some (.frz o u)
 tbls:∀ b ps,H b=some (.tbl ps)->∃ more,H' b=some (.tbl (ps ++ more))
 hok:HOk P w H' B
section
variable {P:Program}{w:World}{outer:List Env}{H H':Hp}{s s':Shared}{B h':Heap}
end
section
variable {X:Cx}{pins:List (Addr × Obj)}{σ:St}{H H':Hp}{s s':Shared}{B h':Heap}
end
noncomputable def Two (d:Option Addr)(H:Hp):Prop:=∃ dx fs,d=some dx/\H dx=some (.xd fs)/\2<=fs.length
structure Air (P:Program)(w:World)(outer:List Env)(H:Hp)(s:Shared)(x C:Addr)(d:Option Addr)(H':Hp)(s':Shared):Prop where
 ex:∃ B a0,B1 P w outer H s B H' s'/\Heap.FlyingW B outer x (.ref C) a0 s'.heap
 dct:∃ o,s'.heap.get? x=some o/\o.dict=d/\(fl2 o=some .none \/ Two d H')
noncomputable def CX1 (P:Program)(w:World):CXT:=fun outer H s E e s'=>∃ x C d H',e=.ref x/\Air P w outer H s x C d H' s'/\E (.ref C) d H'
structure DX (X:Cx)(E:XK):Prop where
 stk:X.stack=X.env :: X.outer
 ex:X.ex=[]
 fr:X.env.frame=some X.env.locals
 xe:X.xe=fun e s'=>wpAny (model X.prog X.w) X.A (leaving X.env e) (fun _ s''=>CX1 X.prog X.w X.outer X.H₀ X.s₀ E e s'') (fun e' s''=>CX1 X.prog X.w X.outer X.H₀ X.s₀ E e' s'') s'
section
variable {X:Cx}{E:XK}{pins:List (Addr × Obj)}{σ:St}{H H':Hp}{s s':Shared}
end
section
variable {X:Cx}{k:Nat}{x:Str}{ps:List Str}{sp:Sp}{E:St->XK}{p pos:Pos}{e:Expr}{es:List Expr}{t:TA}
end
abbrev BN:List Value:=[.type "ValueError",.type "Exception",.type "BaseException",.type "object"]
section
variable {X:Cx}{E:XK}{C:Addr}{x:Str}{np cpos pos:Pos}{e:Expr}{es:List Expr}{t:TA}
end
section
variable {X:Cx}{pins:List (Addr × Obj)}{σ:St}{H H':Hp}{s s':Shared}
end
section
variable {X:Cx}{pins pins':List (Addr × Obj)}{σ:St}{H:Hp}{s s':Shared}{xe:Value->Shared->Prop}
end
section
variable {X:Cx}{pins:List (Addr × Obj)}{σ:St}{H H':Hp}{s s':Shared}{B:Heap}{x C:Addr}{d:Option Addr}{a0:Value}
variable {body suite:List Stmt}{b₀:Stmt}{n tx:Str}{i:Nat}{T:Addr}{np hpos pos:Pos}{tb:(St->XK)->TS}{th:TS}
end
open PySem.W (Looks InstAt findIn findObj subIn mroIn)
section
variable {prog:Program}{w:World}{A:Around}{E:Value->Shared->Prop}{h:Heap}{g:Array GenState}{d:Drawn}{t:Nat}{os:OsState}{K:PySem.W.Frag}{x C:Addr}{ox:Obj}{od:Option Obj}{name:Str}
structure B8 (K:PySem.W.Frag)(C:Addr):Prop where
 bx:subIn K (.ref C) (.type "BaseException")=some true
 ga:findIn K (.ref C) "__getattribute__"=some (some (.builtin "BaseException.__getattribute__"))
 gt:findIn K (.ref C) "__getattr__"=some none
 cl:findIn K (.ref C) "__class__"=some (some (.builtin "object.__class__"))
 gs:PySem.W.specialIn K (.builtin "object.__class__") "__get__"=some (some (.builtin "getset_descriptor.__get__"))
 tk:PySem.W.takesIn K (.builtin "object.__class__")=some true
 mo:mroIn K C (.type "object")=some true
 is:(PySem.W.clsIn K C).isSome=true
end
inductive Ka (X:Cx):List Expr->List Value->Prop
 | nil:Ka X [] []
 | own {x:Str} {p:Pos} {C:Addr} {es:List Expr} {cs:List Value}:Gl X x->X.mg x=some (.ref C)->(x == ("__debug__":Str))=false->Ka X es cs->Ka X (.Name x p :: es) (.ref C :: cs)
 | blt {x:Str} {p:Pos} {T:String} {es:List Expr} {cs:List Value}:Gl X x->X.mg x=none->bootBuiltins x=some (.type T)->x ≠ "__name__"->(x == ("__debug__":Str))=false->Ka X es cs->Ka X (.Name x p :: es) (.type T :: cs)
section
variable {X:Cx}{e c:Expr}{es:List Expr}{cs:List Value}{t:TE}{p pos tp:Pos}{kk:Nat}
end
noncomputable abbrev AXK:=Addr->List (Str × V)->MH->Prop
noncomputable abbrev BI:=List AV->MH->AK->AXK->Prop
noncomputable def BE (H:Hp)(O:Own)(M:MH)(d:Option Addr)(fs:List (Str × V)):Prop:=d=none/\fs=[] \/ ∃ dx,d=some dx/\H dx=some (.xd fs)/\O dx/\M dx=none
noncomputable def cE (H0:Hp)(O0:Own)(M0:MH)(E':AXK):XK:=fun c d H'=>∃ C fs M' O',c=.ref C/\E' C fs M'/\Ext H0 O0 M0 H' O' M'/\Wf H' O' M'/\BE H' O' M' d fs
structure EXs (H0:Hp)(O0:Own)(M0:MH)(E:St->XK)(EA:ASt->AXK):Prop where
 go:∀ σ ρ C fs M' H' O' d,EA ρ C fs M'->Ext H0 O0 M0 H' O' M'->Wf H' O' M'->Er H' O' M' σ ρ->BE H' O' M' d fs->E σ (.ref C) d H'
structure B9 (HX:Hp)(OX:Own)(MX:MH)(t:TS)(a:AS):Prop where
 go:∀ {H0:Hp} {O0:Own} {M0:MH} {D:jR} {D':jN} {σ:St} {H:Hp} {O:Own} {ρ:ASt} {M:MH},Ext HX OX MX H0 O0 M0->Wf H0 O0 M0->Wf H O M->Er H O M σ ρ->Ext H0 O0 M0 H O M->a M0 D' ρ M->ED H0 O0 M0 D D'->t D σ H
section
variable {HX:Hp}{OX:Own}{MX:MH}{t u:TS}{a b:AS}{E:St->XK}{EA:ASt->AXK}{sp:BI}{ta:TA}{aa:AA}
end
section
variable {K:PySem.W.Frag}{i:Nat}{T:Addr}{tb:(St->XK)->TS}{th:TS}{ab:(ASt->AXK)->AS}{ah:AS}
end
section
variable {X:Cx}{K:PySem.W.Frag}{body suite:List Stmt}{b₀:Stmt}{n tx:Str}{i:Nat}{T:Addr}{np hpos pos tp p:Pos}{tb:(St->XK)->TS}{th:TS}{e c:Expr}{es:List Expr}{cs:List Value}{t:TE}{kk:Nat}
end
section
variable {X:Cx}
end
end L2
namespace PySem
open Sem (wp)
section
variable {prog:Program}{w:World}{A:Around}{E:Value->Shared->Prop}{h:Heap}{g:Array GenState}{d:Drawn}{t:Nat}{os:OsState}
variable {nm q:Str}{C N:Addr}{bs bm bmB:List Value}{hdct:Bool}{sn:List Str}{sub:List Value}{ab:Bool}{col:Option Bool}{dd:Option Addr}{k0 k1 k2 k3 k5:Option Value}{B Bn newId nid initId inN:String}{bmN:List Value}
end
section
variable {M:Model}{A:Around}{E:Value->Shared->Prop}{env:Env}
variable {nm q:Str}{C N:Addr}{bs bm:List Value}{hdct:Bool}{sn:List Str}{sub:List Value}{ab:Bool}{col:Option Bool}{dd:Option Addr}{k0 k1 k2 k3 k5:Option Value}{newId:String}
end
section
variable {prog:Program}{w:World}{A:Around}{E:Value->Shared->Prop}{s:Shared}{env:Env}
variable {nm q:Str}{C N:Addr}{bs bm bmB:List Value}{hdct:Bool}{sn:List Str}{sub:List Value}{ab:Bool}{col:Option Bool}{dd:Option Addr}{k0 k1 k2 k3 k5:Option Value}{B Bn newId nid initId inN:String}{bmN:List Value}
end
end PySem
namespace L2
open PySem PySem.Spec PyProof.Rows
open PySem.W (Looks InstAt findIn findObj subIn mroIn clsIn takerIn hasDictIn)
noncomputable def BY:Value->Bool
 | .ref _=>true
 | _=>false
noncomputable def W5 (l:List Value):Bool:=l.dropWhile BY == BN
structure B7 (K:PySem.W.Frag)(C:Addr)(name:Str):Prop where
 s:findIn K (.ref C) "__setattr__"=some (some (.builtin "object.__setattr__"))
 t:takerIn K C name=some none
 hd:hasDictIn K C=true
 mo:mroIn K C (.type "object")=some true
 ve:(clsIn K C).any (fun cd=>W5 cd.mro)=true
section
variable {prog:Program}{w:World}{A:Around}{E:Value->Shared->Prop}{s:Shared}{K:PySem.W.Frag}{x C:Addr}{ox:Obj}{od:Option Obj}{name:Str}{v:Value}
end
open PySem.W (Looks InstAt findIn findObj subIn mroIn clsIn takerIn hasDictIn)
section
variable {X:Cx}{pins:List (Addr × Obj)}{σ:St}{H:Hp}{s:Shared}
variable {o value:Expr}{f:Str}{ta tv:TE}{pos pos':Pos}
end
section
variable {X:Cx}{E:XK}{C:Addr}{x:Str}{np cpos pos:Pos}{e:Expr}{es:List Expr}{t:TA}{k n:Nat}{fn:List V->List (Str × V)}
end
open PySem.W (Looks InstAt findIn findObj subIn mroIn clsIn takerIn hasDictIn)
section
variable {X:Cx}{k:Nat}{C:Addr}{m x:Str}{ps:List Str}{sp:Sp}{E:St->XK}{p pos apos:Pos}{o e:Expr}{es:List Expr}{t:TA}{to:TE}
end
section
variable {prog:Program}{w:World}{A:Around}{E:Value->Shared->Prop}{s:Shared}{K:PySem.W.Frag}{x C:Addr}{ox u:Obj}{name:Str}{v:Value}
end
section
variable {X:Cx}{e:Expr}{ta:TE}{f:Str}{pos:Pos}
end
open PySem.W (findIn hasDictIn)
section
variable {HX:Hp}{OX:Own}{MX:MH}{E:St->XK}{EA:ASt->AXK}{sp:BI}{te:TE}{ae:AE}{ta:TA}{aa:AA}{C:Addr}{m:Str}
end
end L2
namespace PySem
open Sem (wp)
section
variable {prog:Program}{w:World}{A:Around}{E:Value->Shared->Prop}{s:Shared}
end
section
variable {prog:Program}{w:World}{A:Around}{E:Value->Shared->Prop}{env:Env}
variable {nm q:Str}{C N:Addr}{bs bm bmB:List Value}{hdct:Bool}{sn:List Str}{sub:List Value}{ab:Bool}{col:Option Bool}{dd:Option Addr}{k0 k1 k2 k3 k5:Option Value}{B Bn newId nid initId inN:String}{bmN:List Value}
end
end PySem
namespace L2
open PySem PySem.Spec PyProof.Rows
section
variable {M:Model}{A:Around}{E:Value->Shared->Prop}{s:Shared}
end
section
variable {X:Cx}{E:XK}{pins:List (Addr × Obj)}{σ:St}{H:Hp}{s:Shared}
end
open PySem.W (Looks InstAt findIn findObj subIn mroIn clsIn takerIn hasDictIn)
structure B6 (k:Nat)(A:Around):Prop where
 gd:A.guards=some []
 dp:A.depth+3 * k+5<recursionLimit
 un:A.units+16 * k+200<cLine
open PySem.W (Looks InstAt findIn findObj subIn mroIn clsIn takerIn hasDictIn)
section
variable {X:Cx}{E:XK}{body:List Stmt}{n tx cx:Str}{i k nn:Nat}{T C2:Addr}{np cp cpos rpos hpos pos:Pos}{tb:(St->XK)->TS}{ta:TA}{e1:Expr}{es:List Expr}{fn:List V->List (Str × V)}
end
open PySem.W (Looks InstAt findIn findObj subIn mroIn clsIn takerIn hasDictIn)
section
variable {X:Cx}{e:Expr}{ta:TE}{f:Str}{pos:Pos}{K:PySem.W.Frag}
end
section
variable {HX:Hp}{OX:Own}{MX:MH}{K:PySem.W.Frag}{i j:Nat}{T C2:Addr}{f:Str}{fn:List V->List (Str × V)}{E:XK}{EA:ASt->AXK}{tb:(St->XK)->TS}{ab:(ASt->AXK)->AS}
end
section
variable {X:Cx}{K:PySem.W.Frag}{E:XK}{body:List Stmt}{n tx cx:Str}{i k nn:Nat}{T C2:Addr}{np cp cpos rpos hpos pos:Pos}{tb:(St->XK)->TS}{ta:TA}{e1:Expr}{es:List Expr}{fn:List V->List (Str × V)}
end
noncomputable def Vb (b:AA)(n:Nat)(ag:AGs):AS:=fun _ D ρ M=>b ρ M fun xs M1=>xs.length=n/\n<=sizeLine/\ag xs ρ M1 fun ρ2 M3=>D.nx ρ2 M3
theorem Xf {K:PySem.W.Frag}{u:TA}{b:AA}{n:Nat}{gs:TGs}{ag:AGs}(h:jL u b)(hg:vk gs ag):qN (Ze (X0 u) (ww K n gs)) (Vb b n ag):=⟨fun _ w e x q E=>h.go w e q fun xs M1 vs H1 O1 q1 k1 w1 r1=>
 ⟨by rw [r1.1,q1.1];exact q1.2.1,fun p hp=>
  have k2:=zW w1 hp (.tup vs)
  ⟨p,vs,rfl,SqT.of zk,r1.1.trans q1.1,hg.go (kA w1 hp _) (e.ext (k1.trans k2)) (r1.ext k2) q1.2.2 fun σ3 H3 O3 ρ3 M3 q3 k3 w3 e3=>E.nx _ _ _ _ _ w3 e3 (((x.trans k1).trans k2).trans k3) q3⟩⟩⟩
section
variable {X:Cx}
end
structure J5 where
 nx:ASt->MH->Prop
 rt:List AV->MH->Prop
noncomputable abbrev AST:=MH->J5->ASt->MH->Prop
structure B3 (t:TS)(a:AST):Prop where
 go:∀ {H0:Hp} {O0:Own} {M0:MH} {Q:VK} {D':J5} {σ:St} {H:Hp} {O:Own} {ρ:ASt} {M:MH} {nx:St->Hp->Prop},Wf H0 O0 M0->Wf H O M->Er H O M σ ρ->Ext H0 O0 M0 H O M->a M0 D' ρ M ->
  (∀ ys M' us H' O' p,D'.rt ys M'->Ext H0 O0 M0 H' O' M'->Wf H' O' M'->H' p=some (.tup us)->zd H' O' M' us ys->Q (.ref p) H')->t { nx:=nx,rt:=Q } σ H
end L2
namespace L2
open PySem PyProof.Rows
noncomputable def kn (p:Keyed):Int:=numOf p.1
noncomputable def LEr (rk:Keyed->Int)(p q:Keyed):Prop:=kn p<kn q \/ (kn p=kn q/\rk p<=rk q)
section
variable {rk:Keyed->Int}{p q r:Keyed}
theorem LEr.refl:LEr rk p p:=.inr ⟨rfl,Int.le_refl _⟩
theorem LEr.trans (h:LEr rk p q)(g:LEr rk q r):LEr rk p r:=by
 unfold LEr at *;omega
theorem LEr.kn (h:LEr rk p q):kn p<=kn q:=by unfold LEr at h;omega
theorem LEr.of (h:L2.kn p<=L2.kn q)(g:rk p<=rk q):LEr rk p q:=by unfold LEr;omega
end
noncomputable def IsI (p:Keyed):Prop:=∃ n t,p.1=Value.int n t
section
variable {prog:Program}{w:World}{A:Around}{E:Value->Shared->Prop}{s:Shared}
theorem vH {st:SortSt}{x y:Keyed}{Q:Option Bool->SortSt->Prop}(hk:kindOf st=oneType')(hx:IsI x)(hy:IsI y)(h:Q (some (decide (kn x<kn y))) st):wpS (model prog w) A E s (lt' x y) Q st:=by
 obtain ⟨x1,x2⟩:=x
 obtain ⟨y1,y2⟩:=y
 obtain ⟨a,t,rfl⟩:=hx
 obtain ⟨b,u,rfl⟩:=hy
 rw [lt'_eq]
 refine wpS_bind (wpS_get ?_)
 rw [hk,keyLt'_oneType]
 exact wpS_bind (wpS_lift (wpAny_attempt (oneLt_int ⟨rfl,wpS_pure h⟩)))
theorem zw {st:SortSt}{xs:Array Keyed}{i:Nat}{x:Keyed}{Q:Keyed->SortSt->Prop}(hx:xs[i]?=some x)(h:Q x st):wpS (model prog w) A E s (elem' xs i) Q st:=by
 rw [elem'_eq,hx];exact wpS_pure h
theorem qV {σ:Type}{st:σ}{t:String}{Q:PUnit->σ->Prop}(h:Q ⟨⟩ st):wpS (model prog w) A E s (liftM (rule t):StateT σ Sem PUnit) Q st:=wpS_lift (wpAny_rule ⟨rfl,h⟩)
end
noncomputable def yj:Bool->Keyed->Array Keyed->Nat->Nat->Nat->StateT SortSt Sem (Option Nat):=sortPriv% PySem.Builtin.gallop
local macro_rules | `(tactic| walk_at "unG")=>do
 let n:=Lean.mkIdent (Lean.mkPrivateNameCore `PySem.Builtin.List.W1All `PySem.Builtin.gallop)
 `(tactic| unfold $n)
noncomputable def byd (left:Bool)(key x:Keyed):Bool:=if left then decide (kn x<kn key) else !decide (kn key<kn x)
theorem Kw {left:Bool}{key x y:Keyed}(h:kn x<=kn y)(g:byd left key y=true):byd left key x=true:=by
 unfold byd at *
 cases left
 ·simp only [Bool.false_eq_true,if_false,Bool.not_eq_true',decide_eq_false_iff_not] at *;omega
 ·simp only [if_true,decide_eq_true_eq] at *;omega
structure Cut (left:Bool)(key:Keyed)(f:Nat->Keyed)(n k:Nat):Prop where
 le:k<=n
 lo:∀ i,i<k->byd left key (f i)=true
 hi:∀ i,k<=i->i<n->byd left key (f i)=false
section
variable {prog:Program}{w:World}{A:Around}{E:Value->Shared->Prop}{s:Shared}
theorem QS {st:SortSt}{left:Bool}{key:Keyed}{xs:Array Keyed}{base n hint:Nat}{f:Nat->Keyed}{Q:Option Nat->SortSt->Prop}(hk:kindOf st=oneType')(hkey:IsI key)(hf:∀ i,i<n->xs[base+i]?=some (f i)/\IsI (f i))(hs:∀ i j,i<=j->j<n->kn (f i)<=kn (f j))(hh:hint<n)
  (h:∀ k,Cut left key f n k->Q (some k) st):wpS (model prog w) A E s (yj left key xs base n hint) Q st:=by
 unfold yj
 walk_at "unG"
 have hb:∀ (i:Nat) (Q:Option Bool->SortSt->Prop),i<n->Q (some (byd left key (f i))) st->wpS (model prog w) A E s (do
   let x <- elem' xs (base+i)
   if left=true then lt' x key else do
    let r <- lt' key x
    pure (r.map (!·))) Q st:=fun i Q hi q=>by
  refine wpS_bind (zw (hf i hi).1 ?_)
  unfold byd at q
  cases left
  ·rw [if_neg (by decide)]
   exact wpS_bind (vH hk hkey (hf i hi).2 (wpS_pure q))
  ·rw [if_pos rfl]
   exact vH hk (hf i hi).2 hkey q
 have up:∀ i j,i<=j->j<n->byd left key (f j)=true->byd left key (f i)=true:=fun i j h1 h2=>Kw (hs i j h1 h2)
 have dn:∀ i j,i<=j->j<n->byd left key (f i)=false->byd left key (f j)=false:=fun i j h1 h2 g=>by
  cases e:byd left key (f j) with
  | false=>rfl
  | true=>rw [up i j h1 h2 e] at g;exact g
 have fin:∀ {F:Nat->Option (Option Nat) × Nat × Nat->StateT SortSt Sem (ForInStep (Option (Option Nat) × Nat × Nat))} lo hi,(∀ t lo hi (R:_->SortSt->Prop),lo ≥ hi->R (ForInStep.done (none,lo,hi)) st->wpS (model prog w) A E s (F t (none,lo,hi)) R st) ->
   (∀ t lo hi (R:_->SortSt->Prop),lo<hi->hi<=n->R (ForInStep.yield (if byd left key (f (lo+(hi - lo) / 2))=true then (none,lo+(hi - lo) / 2+1,hi) else (none,lo,lo+(hi - lo) / 2))) st->wpS (model prog w) A E s (F t (none,lo,hi)) R st) ->
   lo<=hi->hi<=n->(∀ i,i<lo->byd left key (f i)=true)->(∀ i,hi<=i->i<n->byd left key (f i)=false)->wpS (model prog w) A E s (forIn [0:n] (none,lo,hi) F) (fun c st'=>st'=st/\∃ k,c=(none,k,k)/\Cut left key f n k) st:=fun lo hi F1 F2 h1 h2 h3 h4=>by
  refine wpS_forRange (I:=fun t c st'=>st'=st/\∃ lo hi,c=(none,lo,hi)/\lo<=hi/\hi<=n/\hi - lo<=n - t/\(∀ i,i<lo->byd left key (f i)=true)/\(∀ i,hi<=i->i<n->byd left key (f i)=false))
   ?_ ?_ ⟨rfl,lo,hi,rfl,h1,h2,by omega,h3,h4⟩
  ·rintro t c st' _ ht ⟨rfl,lo,hi,rfl,g1,g2,g3,g4,g5⟩
   by_cases c:lo ≥ hi
   ·have:lo=hi:=by omega
    subst this
    exact F1 _ _ _ _ c ⟨rfl,lo,rfl,g2,g4,g5⟩
   ·refine F2 _ _ _ _ (by omega) g2 ?_
    cases e:byd left key (f (lo+(hi - lo) / 2)) with
    | true=>rw [if_pos rfl];exact ⟨rfl,_,_,rfl,by omega,g2,by omega,fun i hi'=>up i _ (by omega) (by omega) e,g5⟩
    | false=>rw [if_neg (by decide)];exact ⟨rfl,_,_,rfl,by omega,by omega,by omega,g4,fun i h1 h2=>dn _ i h1 h2 e⟩
  ·rintro c st' ⟨rfl,lo,hi,rfl,g1,g2,g3,g4,g5⟩
   have:lo=hi:=by omega
   subst this
   exact ⟨rfl,lo,rfl,g2,g4,g5⟩
 dsimp only
 refine wpS_bind (hb hint _ hh ?_)
 cases e:byd left key (f hint) with
 | true=>
  dsimp only
  rw [if_pos rfl]
  refine wpS_bind (wpS_mono (wpS_forRange (I:=fun t c st'=>st'=st/\∃ la o,c=(none,la,o)/\la<o/\t+1<=o/\hint+la<n/\byd left key (f (hint+la))=true)
   (Q:=fun c st'=>st'=st/\∃ la o,c=(none,la,o)/\la<o/\hint+la<n/\byd left key (f (hint+la))=true/\(o ≥ n - hint \/ byd left key (f (hint+o))=false)) ?_ ?_ ⟨rfl,0,1,rfl,by omega,by omega,by omega,e⟩) ?_)
  ·rintro t c st' _ ht ⟨rfl,la,o,rfl,g1,g2,g3,g4⟩
   dsimp only
   by_cases c:o ≥ n - hint
   ·rw [if_pos c];exact wpS_pure ⟨rfl,la,o,rfl,g1,g3,g4,.inl c⟩
   ·rw [if_neg c]
    refine wpS_bind (hb _ _ (by omega) ?_)
    cases e2:byd left key (f (hint+o)) with
    | true=>exact wpS_pure ⟨rfl,o,_,rfl,by omega,by omega,by omega,e2⟩
    | false=>exact wpS_pure ⟨rfl,la,o,rfl,g1,g3,g4,.inr e2⟩
  ·rintro c st' ⟨rfl,la,o,rfl,g1,g2,g3,g4⟩
   exact ⟨rfl,la,o,rfl,g1,g3,g4,.inl (by omega)⟩
  ·rintro c st' ⟨rfl,la,o,rfl,g1,g3,g4,g5⟩
   refine wpS_bind (wpS_mono (fin (hint+la+1) (hint+min o (n - hint)) (fun t lo hi R c r=>?_) (fun t lo hi R c c2 r=>?_) (by omega) (by omega) ?_ ?_) ?_)
   ·dsimp only;rw [if_pos c];exact wpS_pure r
   ·dsimp only
    rw [if_neg (by omega)]
    refine wpS_bind (hb _ _ (by omega) ?_)
    cases e:byd left key (f (lo+(hi - lo) / 2)) with
    | true=>rw [e,if_pos rfl] at r;exact wpS_pure r
    | false=>rw [e,if_neg (by decide)] at r;exact wpS_pure r
   ·exact fun i hi=>up i _ (by omega) g3 g4
   ·intro i h1 h2
    rcases g5 with g5 | g5
    ·omega
    ·exact dn _ i (by omega) h2 g5
   ·rintro c st' ⟨rfl,k,rfl,g⟩
    exact wpS_pure (h k g)
 | false=>
  dsimp only
  rw [if_neg (by decide)]
  refine wpS_bind (wpS_mono (wpS_forRange (I:=fun t c st'=>st'=st/\∃ la o,c=(none,la,o)/\la<o/\t+1<=o/\la<=hint/\byd left key (f (hint - la))=false)
   (Q:=fun c st'=>st'=st/\∃ la o,c=(none,la,o)/\la<o/\la<=hint/\byd left key (f (hint - la))=false/\(o ≥ hint+1 \/ byd left key (f (hint - o))=true)) ?_ ?_ ⟨rfl,0,1,rfl,by omega,by omega,by omega,e⟩) ?_)
  ·rintro t c st' _ ht ⟨rfl,la,o,rfl,g1,g2,g3,g4⟩
   dsimp only
   by_cases c:o ≥ hint+1
   ·rw [if_pos c];exact wpS_pure ⟨rfl,la,o,rfl,g1,g3,g4,.inl c⟩
   ·rw [if_neg c]
    refine wpS_bind (hb _ _ (by omega) ?_)
    cases e2:byd left key (f (hint - o)) with
    | true=>exact wpS_pure ⟨rfl,la,o,rfl,g1,g3,g4,.inr e2⟩
    | false=>exact wpS_pure ⟨rfl,o,_,rfl,by omega,by omega,by omega,e2⟩
  ·rintro c st' ⟨rfl,la,o,rfl,g1,g2,g3,g4⟩
   exact ⟨rfl,la,o,rfl,g1,g3,g4,.inl (by omega)⟩
  ·rintro c st' ⟨rfl,la,o,rfl,g1,g3,g4,g5⟩
   refine wpS_bind (wpS_mono (fin (hint+1 - min o (hint+1)) (hint - la) (fun t lo hi R c r=>?_) (fun t lo hi R c c2 r=>?_) (by omega) (by omega) ?_ ?_) ?_)
   ·dsimp only;rw [if_pos c];exact wpS_pure r
   ·dsimp only
    rw [if_neg (by omega)]
    refine wpS_bind (hb _ _ (by omega) ?_)
    cases e:byd left key (f (lo+(hi - lo) / 2)) with
    | true=>rw [e,if_pos rfl] at r;exact wpS_pure r
    | false=>rw [e,if_neg (by decide)] at r;exact wpS_pure r
   ·intro i hi
    rcases g5 with g5 | g5
    ·omega
    ·exact up i _ (by omega) (by omega) g5
   ·exact fun i h1 h2=>dn _ i (by omega) h2 g4
   ·rintro c st' ⟨rfl,k,rfl,g⟩
    exact wpS_pure (h k g)
end
end L2
namespace L2
open PySem PyProof.Rows
section
variable {rk:Keyed->Int}
structure MLo (rk:Keyed->Int)(X Y:List Keyed)(a b:Nat)(o:List Keyed):Prop where
 la:a<=X.length
 lb:b<=Y.length
 perm:o.Perm (X.take a ++ Y.take b)
 pw:o.Pairwise (LEr rk)
 lx:∀ x ∈ o,∀ y ∈ X.drop a,LEr rk x y
 ly:∀ x ∈ o,∀ y ∈ Y.drop b,LEr rk x y
structure qU (rk:Keyed->Int)(X Y:List Keyed):Prop where
 px:X.Pairwise (LEr rk)
 py:Y.Pairwise (LEr rk)
 bel:∀ x ∈ X,∀ y ∈ Y,rk x<=rk y
 ix:∀ x ∈ X,IsI x
 iy:∀ y ∈ Y,IsI y
theorem jC {X:List Keyed}(h:X.Pairwise (LEr rk)){a:Nat}{x:Keyed}(hx:X[a]?=some x):∀ y ∈ X.drop a,LEr rk x y:=fun y hy=>by
 obtain ⟨hl,rfl⟩:=List.getElem?_eq_some_iff.mp hx
 rw [List.drop_eq_getElem_cons hl] at hy
 rcases List.mem_cons.mp hy with rfl | hy
 ·exact LEr.refl
 ·have:=List.Pairwise.sublist (List.drop_sublist a X) h
  rw [List.drop_eq_getElem_cons hl] at this
  exact (List.pairwise_cons.mp this).1 y hy
theorem jd {X:List Keyed}(h:X.Pairwise (LEr rk)){a:Nat}{x:Keyed}(hx:X[a]?=some x):∀ y ∈ X.take (a+1),LEr rk y x:=fun y hy=>by
 obtain ⟨hl,rfl⟩:=List.getElem?_eq_some_iff.mp hx
 rw [List.take_succ_eq_append_getElem hl] at hy
 rcases List.mem_append.mp hy with hy | hy
 ·have:=List.Pairwise.sublist (List.take_sublist (a+1) X) h
  rw [List.take_succ_eq_append_getElem hl] at this
  exact (List.pairwise_append.mp this).2.2 y hy _ (List.mem_singleton.mpr rfl)
 ·rw [List.mem_singleton.mp hy];exact LEr.refl
theorem yb {o:List Keyed}{x:Keyed}(h:o.Pairwise (LEr rk))(g:∀ y ∈ o,LEr rk y x):(o ++ [x]).Pairwise (LEr rk):=List.pairwise_append.mpr ⟨h,List.pairwise_singleton _ _,fun y hy z hz=>by rw [List.mem_singleton.mp hz];exact g y hy⟩
theorem wl {o A B:List Keyed}{x:Keyed}(h:o.Perm (A ++ B)):(o ++ [x]).Perm ((A ++ [x]) ++ B):=by
 rw [List.append_assoc]
 refine (h.append_right [x]).trans ?_
 rw [List.append_assoc]
 exact List.Perm.append_left A List.perm_append_comm
theorem wv {o A B:List Keyed}{x:Keyed}(h:o.Perm (A ++ B)):(o ++ [x]).Perm (A ++ (B ++ [x])):=by
 rw [<- List.append_assoc];exact h.append_right [x]
variable {X Y o:List Keyed}{a b:Nat}
theorem MLo.x (T:qU rk X Y)(h:MLo rk X Y a b o){x y:Keyed}(hx:X[a]?=some x)(hy:Y[b]?=some y)(c:kn x<=kn y):MLo rk X Y (a+1) b (o ++ [x]):=by
 obtain ⟨hl,e⟩:=List.getElem?_eq_some_iff.mp hx
 have hd:X.drop a=x :: X.drop (a+1):=by rw [List.drop_eq_getElem_cons hl,e]
 have mx:x ∈ X:=List.mem_of_getElem? hx
 refine ⟨hl,h.lb,?_,yb h.pw fun z hz=>h.lx z hz x (by rw [hd];exact List.mem_cons_self ..),fun z hz y' hy'=>?_,fun z hz y' hy'=>?_⟩
 ·rw [List.take_succ_eq_append_getElem hl,e];exact wl h.perm
 ·rcases List.mem_append.mp hz with hz | hz
  ·exact h.lx z hz y' (by rw [hd];exact List.mem_cons_of_mem _ hy')
  ·rw [List.mem_singleton.mp hz];exact jC T.px hx y' (by rw [hd];exact List.mem_cons_of_mem _ hy')
 ·rcases List.mem_append.mp hz with hz | hz
  ·exact h.ly z hz y' hy'
  ·rw [List.mem_singleton.mp hz]
   have:=(jC T.py hy y' hy').kn
   exact LEr.of (by omega) (T.bel _ mx _ (List.mem_of_mem_drop hy'))
theorem MLo.y (T:qU rk X Y)(h:MLo rk X Y a b o){x y:Keyed}(hx:X[a]?=some x)(hy:Y[b]?=some y)(c:kn y<kn x):MLo rk X Y a (b+1) (o ++ [y]):=by
 obtain ⟨hl,e⟩:=List.getElem?_eq_some_iff.mp hy
 have hd:Y.drop b=y :: Y.drop (b+1):=by rw [List.drop_eq_getElem_cons hl,e]
 refine ⟨h.la,hl,?_,yb h.pw fun z hz=>h.ly z hz y (by rw [hd];exact List.mem_cons_self ..),fun z hz y' hy'=>?_,fun z hz y' hy'=>?_⟩
 ·rw [List.take_succ_eq_append_getElem hl,e];exact wv h.perm
 ·rcases List.mem_append.mp hz with hz | hz
  ·exact h.lx z hz y' hy'
  ·rw [List.mem_singleton.mp hz]
   have:=(jC T.px hx y' hy').kn
   exact .inl (by omega)
 ·rcases List.mem_append.mp hz with hz | hz
  ·exact h.ly z hz y' (by rw [hd];exact List.mem_cons_of_mem _ hy')
  ·rw [List.mem_singleton.mp hz];exact jC T.py hy y' (by rw [hd];exact List.mem_cons_of_mem _ hy')
theorem MLo.xs (T:qU rk X Y)(h:MLo rk X Y a b o){y:Keyed}(hy:Y[b]?=some y):∀ k,(∀ i,i<k->∃ x,X[a+i]?=some x/\kn x<=kn y)->MLo rk X Y (a+k) b (o ++ (X.drop a).take k)
 | 0,_=>by rw [List.take_zero,List.append_nil];exact h
 | k+1,g=>by
  obtain ⟨x,h1,h2⟩:=g k (by omega)
  have:=(MLo.xs T h hy k fun i hi=>g i (by omega)).x T h1 hy h2
  obtain ⟨hl,e⟩:=List.getElem?_eq_some_iff.mp h1
  rw [List.append_assoc] at this
  rw [show (X.drop a).take (k+1)=(X.drop a).take k ++ [x] by rw [List.take_succ_eq_append_getElem (by rw [List.length_drop];omega),List.getElem_drop,e]]
  exact this
theorem MLo.ys (T:qU rk X Y)(h:MLo rk X Y a b o){x:Keyed}(hx:X[a]?=some x):∀ k,(∀ i,i<k->∃ y,Y[b+i]?=some y/\kn y<kn x)->MLo rk X Y a (b+k) (o ++ (Y.drop b).take k)
 | 0,_=>by rw [List.take_zero,List.append_nil];exact h
 | k+1,g=>by
  obtain ⟨y,h1,h2⟩:=g k (by omega)
  have:=(MLo.ys T h hx k fun i hi=>g i (by omega)).y T hx h1 h2
  obtain ⟨hl,e⟩:=List.getElem?_eq_some_iff.mp h1
  rw [List.append_assoc] at this
  rw [show (Y.drop b).take (k+1)=(Y.drop b).take k ++ [y] by rw [List.take_succ_eq_append_getElem (by rw [List.length_drop];omega),List.getElem_drop,e]]
  exact this
noncomputable def qp (rk:Keyed->Int)(X Y m:List Keyed):Prop:=m.Perm (X ++ Y)/\m.Pairwise (LEr rk)
theorem MLo.doneY (T:qU rk X Y)(h:MLo rk X Y a Y.length o):qp rk X Y (o ++ X.drop a ++ Y.drop Y.length):=by
 rw [List.drop_length,List.append_nil]
 have p:=h.perm
 rw [List.take_length] at p
 refine ⟨?_,List.pairwise_append.mpr ⟨h.pw,T.px.sublist (List.drop_sublist _ _),h.lx⟩⟩
 refine (p.append_right _).trans ?_
 rw [List.append_assoc]
 refine (List.Perm.append_left _ List.perm_append_comm).trans ?_
 rw [<- List.append_assoc,List.take_append_drop]
theorem MLo.doneX (T:qU rk X Y)(h:MLo rk X Y X.length b o):qp rk X Y (o ++ X.drop X.length ++ Y.drop b):=by
 rw [List.drop_length,List.append_nil]
 have p:=h.perm
 rw [List.take_length] at p
 refine ⟨?_,List.pairwise_append.mpr ⟨h.pw,T.py.sublist (List.drop_sublist _ _),h.ly⟩⟩
 refine (p.append_right _).trans ?_
 rw [List.append_assoc,List.take_append_drop]
theorem MLo.last (T:qU rk X Y)(h:MLo rk X Y a b o)(ha:a+1=X.length)(g:∀ x,X[a]?=some x->∀ y ∈ Y,kn y<kn x):qp rk X Y (o ++ Y.drop b ++ X.drop a):=by
 obtain ⟨x,hx⟩:∃ x,X[a]?=some x:=⟨_,List.getElem?_eq_getElem (by omega)⟩
 obtain ⟨hl,e⟩:=List.getElem?_eq_some_iff.mp hx
 have hd:X.drop a=[x]:=by rw [List.drop_eq_getElem_cons hl,e,List.drop_eq_nil_of_le (by omega)]
 refine ⟨?_,?_⟩
 ·refine ((h.perm.append_right _).append_right _).trans ?_
  rw [List.append_assoc (X.take a),List.take_append_drop]
  rw [List.append_assoc]
  refine (List.Perm.append_left _ List.perm_append_comm).trans ?_
  rw [<- List.append_assoc,List.take_append_drop]
 ·rw [hd]
  refine yb (List.pairwise_append.mpr ⟨h.pw,T.py.sublist (List.drop_sublist _ _),h.ly⟩) fun y hy=>?_
  rcases List.mem_append.mp hy with hy | hy
  ·exact h.lx y hy x (by rw [hd];exact List.mem_singleton.mpr rfl)
  ·exact .inl (g x hx y (List.mem_of_mem_drop hy))
end
noncomputable def vf:Array Keyed->Array Keyed->StateT SortSt Sem (Array Keyed):=sortPriv% PySem.Builtin.mergeLo
local macro_rules | `(tactic| walk_at "unM")=>do
 let n:=Lean.mkIdent (Lean.mkPrivateNameCore `PySem.Builtin.List.W1All `PySem.Builtin.mergeLo)
 `(tactic| unfold $n)
noncomputable abbrev jI (st:SortSt)(g:Nat):SortSt:=SortSt.mk' (kindOf st) (arrOf st) (pendingOf st) g (failedOf st)
noncomputable def Z6:Nat->StateT SortSt Sem Unit:=sortPriv% PySem.Builtin.setMinGallop
theorem Zg (g:Nat):Z6 g=modify fun st=>jI st g:=rfl
section
variable {prog:Program}{w:World}{A:Around}{E:Value->Shared->Prop}{s:Shared}{rk:Keyed->Int}
theorem jB {st:SortSt}{g:Nat}{Q:Unit->SortSt->Prop}(h:Q () (jI st g)):wpS (model prog w) A E s (Z6 g) Q st:=by
 rw [Zg];exact wpS_modify h
theorem xI {X:List Keyed}(h:X.Pairwise (LEr rk)){i j:Nat}(hij:i<=j)(hj:j<X.length):kn (X[i]?.getD (.none,.none))<=kn (X[j]?.getD (.none,.none)):=by
 rw [List.getElem?_eq_getElem hj,List.getElem?_eq_getElem (by omega)]
 by_cases c:i=j
 ·subst c;exact Int.le_refl _
 ·exact (List.pairwise_iff_getElem.mp h i j (by omega) hj (by omega)).kn
theorem kq {st:SortSt}{left:Bool}{key:Keyed}{xs:Array Keyed}{base n hint:Nat}{Q:Option Nat->SortSt->Prop}(hk:kindOf st=oneType')(hkey:IsI key)(hX:((xs.toList.drop base).take n).Pairwise (LEr rk))(hI:∀ x ∈ xs.toList,IsI x)(hb:base+n<=xs.size)(hh:hint<n)
  (h:∀ k,k<=n->(∀ i,i<k->∃ x,xs.toList[base+i]?=some x/\byd left key x=true)->(∀ i,k<=i->i<n->∃ x,xs.toList[base+i]?=some x/\byd left key x=false)->Q (some k) st):wpS (model prog w) A E s (yj left key xs base n hint) Q st:=by
 have ge:∀ i,i<n->∃ x,xs.toList[base+i]?=some x/\((xs.toList.drop base).take n)[i]?=some x:=fun i hi=>by
  have:base+i<xs.toList.length:=by rw [Array.length_toList];omega
  refine ⟨_,List.getElem?_eq_getElem this,?_⟩
  rw [List.getElem?_take_of_lt hi,List.getElem?_drop,List.getElem?_eq_getElem this]
 refine QS (f:=fun i=>((xs.toList.drop base).take n)[i]?.getD (.none,.none)) hk hkey (fun i hi=>?_) (fun i j hij hj=>xI hX hij (by rw [List.length_take,List.length_drop,Array.length_toList];omega)) hh fun k c=>h k c.le (fun i hi=>?_) fun i h1 h2=>?_
 ·obtain ⟨x,h1,h2⟩:=ge i hi
  rw [h2,<- Array.getElem?_toList,h1]
  exact ⟨rfl,hI x (List.mem_of_getElem? h1)⟩
 ·obtain ⟨x,h1,h2⟩:=ge i (Nat.lt_of_lt_of_le hi c.le)
  have:=c.lo i hi
  rw [h2] at this
  exact ⟨x,h1,this⟩
 ·obtain ⟨x,h3,h4⟩:=ge i h2
  have:=c.hi i h1 h2
  rw [h4] at this
  exact ⟨x,h3,this⟩
theorem Ku {key x:Keyed}(h:byd true key x=true):kn x<kn key:=by unfold byd at h;simpa using h
theorem Zl {key x:Keyed}(h:byd true key x=false):kn key<=kn x:=by unfold byd at h;simpa using h
theorem Jv {key x:Keyed}(h:byd false key x=true):kn x<=kn key:=by unfold byd at h;simpa using h
theorem wM {key x:Keyed}(h:byd false key x=false):kn key<kn x:=by unfold byd at h;simpa using h
end
end L2
namespace L2
open PySem PyProof.Rows
local macro_rules | `(tactic| walk_at "unM")=>do
 let n:=Lean.mkIdent (Lean.mkPrivateNameCore `PySem.Builtin.List.W1All `PySem.Builtin.mergeLo)
 `(tactic| unfold $n)
section
variable {prog:Program}{w:World}{A:Around}{E:Value->Shared->Prop}{s:Shared}{rk:Keyed->Int}
theorem yg (xs:Array Keyed)(i k:Nat):(xs.extract i (i+k)).toList=(xs.toList.drop i).take k:=by
 rw [Array.toList_extract,List.extract_eq_take_drop,Nat.add_sub_cancel_left]
theorem jF (xs:Array Keyed)(i:Nat):(xs.extract i xs.size).toList=xs.toList.drop i:=by
 rw [Array.toList_extract,List.extract_eq_take_drop,List.take_of_length_le (by rw [List.length_drop,Array.length_toList];omega)]
theorem qu {xs:Array Keyed}{i:Nat}(h:i<xs.size):∃ x,xs[i]?=some x/\xs.toList[i]?=some x:=⟨xs[i],Array.getElem?_eq_getElem h,by rw [Array.getElem?_toList,Array.getElem?_eq_getElem h]⟩
theorem zK {α:Type}{st:SortSt}{c:Prop}[Decidable c]{m1 m2:StateT SortSt Sem α}{Q:α->SortSt->Prop}(h1:c->wpS (model prog w) A E s m1 Q st)(h2:¬ c->wpS (model prog w) A E s m2 Q st):wpS (model prog w) A E s (if c then m1 else m2) Q st:=by
 by_cases h:c
 ·rw [if_pos h];exact h1 h
 ·rw [if_neg h];exact h2 h
theorem Vf {α:Type}{st:SortSt}{c:Nat->Prop}{dc:∀ g,Decidable (c g)}{F m1:Nat->StateT SortSt Sem α}{Q:α->SortSt->Prop}(h:∀ g,wpS (model prog w) A E s (F g) Q st)(e:∀ g,m1 g=F (g - 1)):∀ g,wpS (model prog w) A E s (if c g then m1 g else F g) Q st:=fun g=>zK (fun _=>e g ▸ h _) fun _=>h _
theorem Vq {α:Type}{st:SortSt}{P:Array Keyed->Nat->Prop}{c:Prop}{dc:Decidable c}{c1 c2:Array Keyed->Nat->Prop}{d1:∀ o a,Decidable (c1 o a)}{d2:∀ o a,Decidable (c2 o a)}{F m1 r1 r2:Array Keyed->Nat->StateT SortSt Sem α}{Q:α->SortSt->Prop}(f:Array Keyed->Nat->Array Keyed)(g:Nat->Nat)
  (h1:∀ o a,P o a->c->c1 o a->wpS (model prog w) A E s (r1 o a) Q st) (h2:∀ o a,P o a->c->¬ c1 o a->c2 o a->wpS (model prog w) A E s (r2 o a) Q st) (h:∀ o a o2 a2,P o a->(c/\¬ c1 o a/\¬ c2 o a/\o2=f o a/\a2=g a) \/ (¬ c/\o2=o/\a2=a)->wpS (model prog w) A E s (F o2 a2) Q st) (e:∀ o a,m1 o a=F (f o a) (g a)) :
  ∀ o a,P o a->wpS (model prog w) A E s (if c then if c1 o a then r1 o a else if c2 o a then r2 o a else m1 o a else F o a) Q st:=fun o a p=>
 zK (fun hc=>zK (h1 o a p hc) fun hc1=>zK (h2 o a p hc hc1) fun hc2=>e o a ▸ h o a _ _ p (.inl ⟨hc,hc1,hc2,rfl,rfl⟩)) fun hc=>h o a _ _ p (.inr ⟨hc,rfl,rfl⟩)
theorem Va {α:Type}{st:SortSt}{P:Array Keyed->Nat->Prop}{c:Prop}{dc:Decidable c}{c1:Array Keyed->Nat->Prop}{d1:∀ o a,Decidable (c1 o a)}{F m1 r1:Array Keyed->Nat->StateT SortSt Sem α}{Q:α->SortSt->Prop}(f:Array Keyed->Nat->Array Keyed)(g:Nat->Nat)
  (h1:∀ o a,P o a->c->c1 o a->wpS (model prog w) A E s (r1 o a) Q st) (h:∀ o a o2 a2,P o a->(c/\¬ c1 o a/\o2=f o a/\a2=g a) \/ (¬ c/\o2=o/\a2=a)->wpS (model prog w) A E s (F o2 a2) Q st) (e:∀ o a,m1 o a=F (f o a) (g a)) :
  ∀ o a,P o a->wpS (model prog w) A E s (if c then if c1 o a then r1 o a else m1 o a else F o a) Q st:=fun o a p=>
 zK (fun hc=>zK (h1 o a p hc) fun hc1=>e o a ▸ h o a _ _ p (.inl ⟨hc,hc1,rfl,rfl⟩)) fun hc=>h o a _ _ p (.inr ⟨hc,rfl,rfl⟩)
theorem wK {st : SortSt}{xs ys : Array Keyed}{Q : Array Keyed -> SortSt -> Prop}(hk : kindOf st = oneType')(T : qU rk xs.toList ys.toList)(hx : 0 < xs.size)(hy : 0 < ys.size)(h0 : ∀ x y, xs.toList[0]? = some x -> ys.toList[0]? = some y -> kn y < kn x)(hl : ∀ x, xs.toList[xs.size - 1]? = some x -> ∀ y ∈ ys.toList, kn y < kn x)
    (h:∀ m g,qp rk xs.toList ys.toList m.toList->Q m (jI st g)):wpS (model prog w) A E s (vf xs ys) Q st:=by
  unfold vf
  walk_at "unM"
  have lx:xs.toList.length=xs.size:=Array.length_toList
  have ly:ys.toList.length=ys.size:=Array.length_toList
  have dn:∀ {o:Array Keyed} {a b},MLo rk xs.toList ys.toList a b o.toList->b=ys.size->qp rk xs.toList ys.toList (o ++ xs.extract a ++ ys.extract b).toList:=fun {o a b} M e=>by
    rw [Array.toList_append,Array.toList_append,jF,jF]
    subst e;rw [<- ly] at M ⊢;exact M.doneY T
  have dnx:∀ {o:Array Keyed} {a b},MLo rk xs.toList ys.toList a b o.toList->a=xs.size->qp rk xs.toList ys.toList (o ++ xs.extract a ++ ys.extract b).toList:=fun {o a b} M e=>by
    rw [Array.toList_append,Array.toList_append,jF,jF]
    subst e;rw [<- lx] at M ⊢;exact M.doneX T
  have ls:∀ {o:Array Keyed} {a b},MLo rk xs.toList ys.toList a b o.toList->a+1=xs.size->qp rk xs.toList ys.toList (o ++ ys.extract b ++ xs.extract a).toList:=fun {o a b} M e=>by
    rw [Array.toList_append,Array.toList_append,jF,jF]
    exact M.last T (by omega) fun x hx'=>hl x (by rw [<- hx'];congr 1;omega)
  have ix:∀ {a x},xs.toList[a]?=some x->IsI x:=fun e=>T.ix _ (List.mem_of_getElem? e)
  have iy:∀ {a x},ys.toList[a]?=some x->IsI x:=fun e=>T.iy _ (List.mem_of_getElem? e)
  have gal:∀ {a b} {o:Array Keyed} {k:Nat} {y:Keyed},MLo rk xs.toList ys.toList a b o.toList->ys.toList[b]?=some y->(∀ i,i<k->∃ x,xs.toList[a+i]?=some x/\byd false y x=true)->MLo rk xs.toList ys.toList (a+k) b (o ++ xs.extract a (a+k)).toList:=fun {a b o k y} M e g=>by
    rw [Array.toList_append,yg]
    exact M.xs T e k fun i hi=>by obtain ⟨x,h1,h2⟩:=g i hi;exact ⟨x,h1,Jv h2⟩
  have gal2:∀ {a b} {o:Array Keyed} {k:Nat} {x:Keyed},MLo rk xs.toList ys.toList a b o.toList->xs.toList[a]?=some x->(∀ i,i<k->∃ y,ys.toList[b+i]?=some y/\byd true x y=true)->MLo rk xs.toList ys.toList a (b+k) (o ++ ys.extract b (b+k)).toList:=fun {a b o k y} M e g=>by
    rw [Array.toList_append,yg]
    exact M.ys T e k fun i hi=>by obtain ⟨x,h1,h2⟩:=g i hi;exact ⟨x,h1,Ku h2⟩
  have pux:∀ {a b} {o:Array Keyed} {x y:Keyed},MLo rk xs.toList ys.toList a b o.toList->xs.toList[a]?=some x->ys.toList[b]?=some y->kn x<=kn y->MLo rk xs.toList ys.toList (a+1) b (o.push x).toList:=fun M h1 h2 h3=>by rw [Array.toList_push];exact M.x T h1 h2 h3
  have puy:∀ {a b} {o:Array Keyed} {x y:Keyed},MLo rk xs.toList ys.toList a b o.toList->xs.toList[a]?=some x->ys.toList[b]?=some y->kn y<kn x->MLo rk xs.toList ys.toList a (b+1) (o.push y).toList:=fun M h1 h2 h3=>by rw [Array.toList_push];exact M.y T h1 h2 h3
  obtain ⟨x0,ex0,lx0⟩:=qu hx
  obtain ⟨y0,ey0,ly0⟩:=qu hy
  have M0:MLo rk xs.toList ys.toList 0 0 (#[]:Array Keyed).toList:=⟨Nat.zero_le _,Nat.zero_le _,List.Perm.refl _,List.Pairwise.nil,fun x hx=>(nomatch hx),fun x hx=>(nomatch hx)⟩
  have M1:MLo rk xs.toList ys.toList 0 1 (#[y0]:Array Keyed).toList:=puy M0 lx0 ly0 (h0 _ _ lx0 ly0)
  refine wpS_bind (qV ?_)
  dsimp only
  refine wpS_bind (zw ey0 ?_)
  by_cases c1:(1 == ys.size)=true
  · rw [if_pos c1]
    exact wpS_pure (h _ (gallopOf st) (dn M1 (by simpa using c1)))
  rw [if_neg c1]
  by_cases c2:(0+1 == xs.size)=true
  · rw [if_pos c2]
    exact wpS_pure (h _ (gallopOf st) (ls M1 (by simpa using c2)))
  rw [if_neg c2]
  have c1 : 1 < ys.size := by have : ¬ 1 = ys.size := by simpa using c1
                              omega
  have c2 : 1 < xs.size := by have : ¬ 0 + 1 = xs.size := by simpa using c2
                              omega
  refine wpS_bind (wpS_get ?_)
  refine wpS_bind (wpS_mono (wpS_forRange (I:=fun t c st'=>∃ o a b g g',c=(none,o,a,b,g)/\st'=jI st g'/\MLo rk xs.toList ys.toList a b o.toList/\a+1<xs.size/\b<ys.size/\t+1<=a+b)
    (Q:=fun c st'=>∃ m o a b g g',c=(some m,o,a,b,g)/\st'=jI st g'/\qp rk xs.toList ys.toList m.toList) ?_ ?_ ⟨_,_,_,_,gallopOf st,rfl,rfl,M1,by omega,by omega,by omega⟩) ?_)
  · rintro t c st' _ ht ⟨o,a,b,g,g',rfl,rfl,M,ha,hb,hc⟩
    dsimp only
    refine wpS_bind (wpS_mono (wpS_forRange (I:=fun u c st'=>∃ o a b ac bc,c=(none,o,a,b,ac,bc)/\st'=jI st g'/\MLo rk xs.toList ys.toList a b o.toList/\a+1<xs.size/\b<ys.size/\t+1<=a+b/\u+1<=a+b)
      (Q:=fun c st'=>st'=jI st g'/\((∃ m o a b ac bc,c=(some m,o,a,b,ac,bc)/\qp rk xs.toList ys.toList m.toList) \/ (∃ o a b ac bc,c=(none,o,a,b,ac,bc)/\MLo rk xs.toList ys.toList a b o.toList/\a+1<xs.size/\b<ys.size/\t+2<=a+b))) ?_ ?_ ⟨_,_,_,_,_,rfl,rfl,M,ha,hb,hc,by omega⟩) ?_)
    · rintro u c st' _ hu ⟨o,a,b,ac,bc,rfl,rfl,M,ha,hb,hc,hd⟩
      obtain ⟨x,ex,lx'⟩:=qu (xs:=xs) (i:=a) (by omega)
      obtain ⟨y,ey,ly'⟩:=qu hb
      dsimp only
      refine wpS_bind (zw ey (wpS_bind (zw ex (wpS_bind (vH hk (iy ly') (ix lx') ?_)))))
      by_cases c:kn y<kn x
      · rw [decide_eq_true c]
        dsimp only
        rw [if_pos rfl]
        refine wpS_bind (zw ey ?_)
        have M':=puy M lx' ly' c
        by_cases c3:(b+1 == ys.size)=true
        · rw [if_pos c3];exact wpS_pure ⟨rfl,.inl ⟨_,_,_,_,_,_,rfl,dn M' (by simpa using c3)⟩⟩
        rw [if_neg c3]
        have c3:¬ b+1=ys.size:=by simpa using c3
        split
        · exact wpS_pure ⟨rfl,.inr ⟨_,_,_,_,_,rfl,M',ha,by omega,by omega⟩⟩
        · exact wpS_pure ⟨_,_,_,_,_,rfl,rfl,M',ha,by omega,by omega,by omega⟩
      · rw [decide_eq_false c]
        dsimp only
        rw [if_neg (by decide)]
        refine wpS_bind (zw ex ?_)
        have M':=pux M lx' ly' (by omega)
        by_cases c3:(a+1+1 == xs.size)=true
        · rw [if_pos c3];exact wpS_pure ⟨rfl,.inl ⟨_,_,_,_,_,_,rfl,ls M' (by simpa using c3)⟩⟩
        rw [if_neg c3]
        have c3:¬ a+1+1=xs.size:=by simpa using c3
        split
        · exact wpS_pure ⟨rfl,.inr ⟨_,_,_,_,_,rfl,M',by omega,hb,by omega⟩⟩
        · exact wpS_pure ⟨_,_,_,_,_,rfl,rfl,M',by omega,hb,by omega,by omega⟩
    · rintro c st' ⟨o,a,b,ac,bc,rfl,rfl,M,ha,hb,hc,hd⟩
      omega
    rintro c st' ⟨rfl,⟨m,o,a,b,ac,bc,rfl,r⟩ | ⟨o,a,b,ac,bc,rfl,M,ha,hb,hc⟩⟩
    · exact wpS_pure ⟨m,_,_,_,_,_,rfl,rfl,r⟩
    dsimp only
    refine wpS_bind (qV ?_)
    refine wpS_bind (wpS_mono (wpS_forRange (I:=fun u c st'=>∃ o a b g ac bc g',c=(none,o,a,b,g,ac,bc)/\st'=jI st g'/\MLo rk xs.toList ys.toList a b o.toList/\a+1<xs.size/\b<ys.size/\t+2<=a+b/\u+1<=a+b)
      (Q:=fun c st'=>∃ g',st'=jI st g'/\((∃ m o a b g ac bc,c=(some m,o,a,b,g,ac,bc)/\qp rk xs.toList ys.toList m.toList) \/ (∃ o a b g ac bc,c=(none,o,a,b,g,ac,bc)/\MLo rk xs.toList ys.toList a b o.toList/\a+1<xs.size/\b<ys.size/\t+2<=a+b))) ?_ ?_ ⟨_,_,_,_,_,_,_,rfl,rfl,M,ha,hb,hc,by omega⟩) ?_)
    · rintro u c st' _ hu ⟨o,a,b,g,ac,bc,g',rfl,rfl,M,ha,hb,hc,hd⟩
      clear c1 c2 M1 M0
      obtain ⟨y,ey,ly'⟩:=qu hb
      dsimp only
      revert g
      refine Vf (fun g=>?h) ?e
      case e=>exact fun _=>rfl
      refine wpS_bind (jB ?_)
      refine wpS_bind (zw ey ?_)
      refine wpS_bind (kq (rk:=rk) hk (iy ly') ((T.px.sublist (List.drop_sublist _ _)).sublist (List.take_sublist _ _)) T.ix (by omega) (by omega) fun k k1 k2 k3=>?_)
      dsimp only
      have all:MLo rk xs.toList ys.toList a b o.toList/\a+1<xs.size/\t+2<=a+b/\u+1<=a+b/\k<=xs.size - a/\(∀ i,i<k->∃ x,xs.toList[a+i]?=some x/\byd false y x=true)/\(∀ i,k<=i->i<xs.size - a->∃ x,xs.toList[a+i]?=some x/\byd false y x=false):=⟨M,ha,hc,hd,k1,k2,k3⟩
      clear M ha hc hd k1 k2 k3
      revert all
      revert o a
      refine Vq (fun o a=>o ++ xs.extract a (a+k)) (fun a=>a+k) (fun o a p _ c3=>wpS_pure ⟨_,rfl,.inl ⟨_,_,_,_,_,_,_,rfl,ls (gal p.1 ly' p.2.2.2.2.2.1) (beq_iff_eq.mp c3)⟩⟩) (fun o a p _ _ c4=>wpS_pure ⟨_,rfl,.inl ⟨_,_,_,_,_,_,_,rfl,dnx (gal p.1 ly' p.2.2.2.2.2.1) (beq_iff_eq.mp c4)⟩⟩) (fun o a o2 a2 p hj=>?hj1) ?ej1
      case ej1=>exact fun _ _=>rfl
      obtain ⟨M,ha,hc,hd,k1,k2,k3⟩:=p
      have Mg:=gal M ly' k2
      obtain ⟨M1,ea,ha2⟩:MLo rk xs.toList ys.toList a2 b o2.toList/\a2=a+k/\a2+1<xs.size:=by
        clear hc hd k2 k3 hu
        rcases hj with ⟨_,c3,c4,rfl,rfl⟩ | ⟨c3,rfl,rfl⟩
        · have c3:¬ a+k+1=xs.size:=fun z=>c3 (beq_iff_eq.mpr z)
          have c4:¬ a+k=xs.size:=fun z=>c4 (beq_iff_eq.mpr z)
          exact ⟨Mg,rfl,by omega⟩
        · exact ⟨M,by omega,by omega⟩
      obtain ⟨x,ex,lx'⟩:=qu (xs:=xs) (i:=a2) (by clear hj;omega)
      obtain ⟨x',lx2,k4⟩:=k3 k (Nat.le_refl _) (by clear hj;omega)
      rw [<- ea,lx'] at lx2
      cases lx2
      have k4:=wM k4
      have hc:t+2<=a2+b/\u+1<=a2+b:=by clear hj;omega
      clear hj k2 k3 k1 ea M ha hd
      refine wpS_bind (zw ey ?_)
      have M2:=puy M1 lx' ly' k4
      by_cases c5:(b+1 == ys.size)=true
      · rw [if_pos c5];exact wpS_pure ⟨_,rfl,.inl ⟨_,_,_,_,_,_,_,rfl,dn M2 (beq_iff_eq.mp c5)⟩⟩
      rw [if_neg c5]
      have c5:b+1<ys.size:=Nat.lt_of_le_of_ne hb fun z=>c5 (beq_iff_eq.mpr z)
      refine wpS_bind (zw ex ?_)
      refine wpS_bind (kq (rk:=rk) hk (ix lx') ((T.py.sublist (List.drop_sublist _ _)).sublist (List.take_sublist _ _)) T.iy (by omega) (by omega) fun k' k1' k2' k3'=>?_)
      dsimp only
      have all:MLo rk xs.toList ys.toList a2 (b+1) (o2.push y).toList/\b+1<ys.size/\t+2<=a2+(b+1)/\u+1<=a2+(b+1)/\k'<=ys.size - (b+1)/\(∀ i,i<k'->∃ z,ys.toList[b+1+i]?=some z/\byd true x z=true)/\(∀ i,k'<=i->i<ys.size - (b+1)->∃ z,ys.toList[b+1+i]?=some z/\byd true x z=false):=⟨M2,c5,by omega,by omega,k1',k2',k3'⟩
      clear M2 c5 k1' k2' k3' M1
      generalize o2.push y=o3 at all ⊢
      generalize b+1=b1 at all ⊢
      revert all
      revert o3 b1
      refine Va (fun o b=>o ++ ys.extract b (b+k')) (fun b=>b+k') (fun o b p _ c6=>wpS_pure ⟨_,rfl,.inl ⟨_,_,_,_,_,_,_,rfl,dn (gal2 p.1 lx' p.2.2.2.2.2.1) (beq_iff_eq.mp c6)⟩⟩) (fun o b o4 b4 p hj=>?hj2) ?ej2
      case ej2=>exact fun _ _=>rfl
      obtain ⟨M,hb,hc,hd,k1,k2,k3⟩:=p
      have Mg:=gal2 M lx' k2
      obtain ⟨M3,eb,hb4⟩:MLo rk xs.toList ys.toList a2 b4 o4.toList/\b4=b+k'/\b4<ys.size:=by
        clear hc hd k2 k3 hu
        rcases hj with ⟨_,c3,rfl,rfl⟩ | ⟨c3,rfl,rfl⟩
        · have c3:¬ b+k'=ys.size:=fun z=>c3 (beq_iff_eq.mpr z)
          exact ⟨Mg,rfl,by omega⟩
        · exact ⟨M,by omega,by omega⟩
      obtain ⟨y',ly2,k5⟩:=k3 k' (Nat.le_refl _) (by clear hj;omega)
      rw [<- eb] at ly2
      have hc:t+2<=a2+b4/\u+1<=a2+b4:=by clear hj;omega
      clear hj k2 k3 k1 eb M hb hd
      refine wpS_bind (zw ex ?_)
      have M4:=pux M3 lx' ly2 (Zl k5)
      by_cases c7:(a2+1+1 == xs.size)=true
      · rw [if_pos c7];exact wpS_pure ⟨_,rfl,.inl ⟨_,_,_,_,_,_,_,rfl,ls M4 (beq_iff_eq.mp c7)⟩⟩
      rw [if_neg c7]
      have c7:a2+1+1<xs.size:=Nat.lt_of_le_of_ne ha2 fun z=>c7 (beq_iff_eq.mpr z)
      refine zK (fun _=>?_) fun _=>?_
      · exact wpS_pure ⟨_,rfl,.inr ⟨_,_,_,_,_,_,rfl,M4,c7,hb4,by omega⟩⟩
      · exact wpS_pure ⟨_,_,_,_,_,_,_,rfl,rfl,M4,c7,hb4,by omega,by omega⟩
    · rintro c st' ⟨o,a,b,g,ac,bc,g',rfl,rfl,M,ha,hb,hc,hd⟩
      omega
    rintro c st' ⟨g',rfl,⟨m,o,a,b,g,ac,bc,rfl,r⟩ | ⟨o,a,b,g,ac,bc,rfl,M,ha,hb,hc⟩⟩
    · exact wpS_pure ⟨m,_,_,_,_,_,rfl,rfl,r⟩
    · dsimp only
      refine wpS_bind (jB ?_)
      exact wpS_pure ⟨_,_,_,_,_,rfl,rfl,M,ha,hb,by omega⟩
  · rintro c st' ⟨o,a,b,g,g',rfl,rfl,M,ha,hb,hc⟩
    omega
  · rintro c st' ⟨m,o,a,b,g,g',rfl,rfl,r⟩
    exact wpS_pure (h m g' r)
end
end L2
namespace L2
open PySem PyProof.Rows
section
variable {rk:Keyed->Int}{X Y o:List Keyed}{a b:Nat}
structure MHi (rk:Keyed->Int)(X Y:List Keyed)(a b:Nat)(o:List Keyed):Prop where
 la:a<=X.length
 lb:b<=Y.length
 perm:o.Perm (X.drop a ++ Y.drop b)
 pw:o.Pairwise fun p q=>LEr rk q p
 lx:∀ x ∈ o,∀ y ∈ X.take a,LEr rk y x
 ly:∀ x ∈ o,∀ y ∈ Y.take b,LEr rk y x
theorem yY {x:Keyed}(h:o.Pairwise fun p q=>LEr rk q p)(g:∀ y ∈ o,LEr rk x y):(o ++ [x]).Pairwise fun p q=>LEr rk q p:=List.pairwise_append.mpr ⟨h,List.pairwise_singleton _ _,fun y hy z hz=>by rw [List.mem_singleton.mp hz];exact g y hy⟩
theorem MHi.x (T:qU rk X Y)(h:MHi rk X Y (a+1) (b+1) o){x y:Keyed}(hx:X[a]?=some x)(hy:Y[b]?=some y)(c:kn y<kn x):MHi rk X Y a (b+1) (o ++ [x]):=by
 obtain ⟨hl,e⟩:=List.getElem?_eq_some_iff.mp hx
 have hd:X.drop a=x :: X.drop (a+1):=by rw [List.drop_eq_getElem_cons hl,e]
 have ht:X.take (a+1)=X.take a ++ [x]:=by rw [List.take_succ_eq_append_getElem hl,e]
 refine ⟨by omega,h.lb,?_,yY h.pw fun z hz=>h.lx z hz x (by rw [ht];exact List.mem_append_right _ (List.mem_singleton.mpr rfl)),fun z hz y' hy'=>?_,fun z hz y' hy'=>?_⟩
 ·rw [hd]
  refine (h.perm.append_right [x]).trans ?_
  exact List.perm_append_comm
 ·rcases List.mem_append.mp hz with hz | hz
  ·exact h.lx z hz y' (by rw [ht];exact List.mem_append_left _ hy')
  ·rw [List.mem_singleton.mp hz];exact jd T.px hx y' (by rw [ht];exact List.mem_append_left _ hy')
 ·rcases List.mem_append.mp hz with hz | hz
  ·exact h.ly z hz y' hy'
  ·rw [List.mem_singleton.mp hz]
   have:=(jd T.py hy y' hy').kn
   exact .inl (by omega)
theorem MHi.y (T:qU rk X Y)(h:MHi rk X Y (a+1) (b+1) o){x y:Keyed}(hx:X[a]?=some x)(hy:Y[b]?=some y)(c:kn x<=kn y):MHi rk X Y (a+1) b (o ++ [y]):=by
 obtain ⟨hl,e⟩:=List.getElem?_eq_some_iff.mp hy
 have hd:Y.drop b=y :: Y.drop (b+1):=by rw [List.drop_eq_getElem_cons hl,e]
 have ht:Y.take (b+1)=Y.take b ++ [y]:=by rw [List.take_succ_eq_append_getElem hl,e]
 refine ⟨h.la,by omega,?_,yY h.pw fun z hz=>h.ly z hz y (by rw [ht];exact List.mem_append_right _ (List.mem_singleton.mpr rfl)),fun z hz y' hy'=>?_,fun z hz y' hy'=>?_⟩
 ·rw [hd]
  refine (h.perm.append_right [y]).trans ?_
  rw [List.append_assoc]
  exact List.Perm.append_left _ List.perm_append_comm
 ·rcases List.mem_append.mp hz with hz | hz
  ·exact h.lx z hz y' hy'
  ·rw [List.mem_singleton.mp hz]
   have:=(jd T.px hx y' hy').kn
   exact LEr.of (by omega) (T.bel _ (List.mem_of_mem_take hy') _ (List.mem_of_getElem? hy))
 ·rcases List.mem_append.mp hz with hz | hz
  ·exact h.ly z hz y' (by rw [ht];exact List.mem_append_left _ hy')
  ·rw [List.mem_singleton.mp hz];exact jd T.py hy y' (by rw [ht];exact List.mem_append_left _ hy')
theorem yU {X:List Keyed}{a k:Nat}{x:Keyed}(h:X[a+k]?=some x):((X.drop a).take (k+1)).reverse=[x] ++ ((X.drop a).take k).reverse:=by
 obtain ⟨hl,e⟩:=List.getElem?_eq_some_iff.mp h
 rw [List.take_succ_eq_append_getElem (by rw [List.length_drop];omega),List.getElem_drop,e,List.reverse_append];rfl
theorem MHi.xs (T:qU rk X Y){y:Keyed}(hy:Y[b]?=some y):∀ k {o},MHi rk X Y (a+k) (b+1) o->(∀ i,i<k->∃ x,X[a+i]?=some x/\kn y<kn x)->MHi rk X Y a (b+1) (o ++ ((X.drop a).take k).reverse)
 | 0,o,h,_=>by rw [List.take_zero,List.reverse_nil,List.append_nil];exact h
 | k+1,o,h,g=>by
  obtain ⟨x,h1,h2⟩:=g k (by omega)
  rw [yU h1,<- List.append_assoc]
  exact MHi.xs T hy k (MHi.x T h h1 hy h2) fun i hi=>g i (by omega)
theorem MHi.ys (T:qU rk X Y){x:Keyed}(hx:X[a]?=some x):∀ k {o},MHi rk X Y (a+1) (b+k) o->(∀ i,i<k->∃ y,Y[b+i]?=some y/\kn x<=kn y)->MHi rk X Y (a+1) b (o ++ ((Y.drop b).take k).reverse)
 | 0,o,h,_=>by rw [List.take_zero,List.reverse_nil,List.append_nil];exact h
 | k+1,o,h,g=>by
  obtain ⟨y,h1,h2⟩:=g k (by omega)
  rw [yU h1,<- List.append_assoc]
  exact MHi.ys T hx k (MHi.y T h hx h1 h2) fun i hi=>g i (by omega)
theorem Zf (h:o.Pairwise fun p q=>LEr rk q p):o.reverse.Pairwise (LEr rk):=List.pairwise_reverse.mpr h
theorem MHi.doneX (T:qU rk X Y)(h:MHi rk X Y 0 b o):qp rk X Y (X.take 0 ++ Y.take b ++ o.reverse):=by
 rw [List.take_zero,List.nil_append]
 refine ⟨?_,List.pairwise_append.mpr ⟨T.py.sublist (List.take_sublist _ _),Zf h.pw,fun x hx y hy=>h.ly y (List.mem_reverse.mp hy) x hx⟩⟩
 refine (List.Perm.append_left _ ((List.reverse_perm o).trans h.perm)).trans ?_
 rw [List.drop_zero,<- List.append_assoc]
 refine (List.perm_append_comm.append_right _).trans ?_
 rw [List.append_assoc,List.take_append_drop]
theorem MHi.doneY (T:qU rk X Y)(h:MHi rk X Y a 0 o):qp rk X Y (X.take a ++ Y.take 0 ++ o.reverse):=by
 rw [List.take_zero,List.append_nil]
 refine ⟨?_,List.pairwise_append.mpr ⟨T.px.sublist (List.take_sublist _ _),Zf h.pw,fun x hx y hy=>h.lx y (List.mem_reverse.mp hy) x hx⟩⟩
 refine (List.Perm.append_left _ ((List.reverse_perm o).trans h.perm)).trans ?_
 rw [List.drop_zero,<- List.append_assoc,List.take_append_drop]
theorem MHi.first (T:qU rk X Y)(h:MHi rk X Y a 1 o)(g:∀ y,Y[0]?=some y->∀ x ∈ X,kn y<kn x):qp rk X Y (Y.take 1 ++ X.take a ++ o.reverse):=by
 have hl:=h.lb
 refine ⟨?_,?_⟩
 ·refine (List.Perm.append_left _ ((List.reverse_perm o).trans h.perm)).trans ?_
  rw [List.append_assoc,<- List.append_assoc (X.take a),List.take_append_drop]
  refine List.perm_append_comm.trans ?_
  rw [List.append_assoc]
  refine List.Perm.append_left _ (List.perm_append_comm.trans ?_)
  rw [List.take_append_drop]
 ·refine List.pairwise_append.mpr ⟨List.pairwise_append.mpr ⟨T.py.sublist (List.take_sublist _ _),T.px.sublist (List.take_sublist _ _),fun y hy x hx=>?_⟩,Zf h.pw,fun x hx y hy=>?_⟩
  ·have e:Y[0]?=some (Y[0]'hl):=List.getElem?_eq_getElem hl
   rw [List.take_succ_eq_append_getElem hl,List.take_zero,List.nil_append] at hy
   rw [List.mem_singleton.mp hy]
   exact .inl (g _ e x (List.mem_of_mem_take hx))
  ·rcases List.mem_append.mp hx with hx | hx
   ·exact h.ly y (List.mem_reverse.mp hy) x hx
   ·exact h.lx y (List.mem_reverse.mp hy) x hx
end
noncomputable def vq:Array Keyed->Array Keyed->StateT SortSt Sem (Array Keyed):=sortPriv% PySem.Builtin.mergeHi
local macro_rules | `(tactic| walk_at "unM")=>do
 let n:=Lean.mkIdent (Lean.mkPrivateNameCore `PySem.Builtin.List.W1All `PySem.Builtin.mergeHi)
 `(tactic| unfold $n)
section
variable {prog:Program}{w:World}{A:Around}{E:Value->Shared->Prop}{s:Shared}{rk:Keyed->Int}
theorem jz (xs:Array Keyed)(i:Nat):(xs.extract 0 i).toList=xs.toList.take i:=by
 rw [Array.toList_extract,List.extract_eq_take_drop,List.drop_zero,Nat.sub_zero]
theorem ZR (xs:Array Keyed){i j:Nat}(h:i<=j):(xs.extract i j).reverse.toList=((xs.toList.drop i).take (j - i)).reverse:=by
 rw [Array.toList_reverse,Array.toList_extract,List.extract_eq_take_drop]
theorem wt {st:SortSt}{xs ys:Array Keyed}{Q:Array Keyed->SortSt->Prop}(hk:kindOf st=oneType')(T:qU rk xs.toList ys.toList)(hx:0<xs.size)(hy:0<ys.size)(h0:∀ y,ys.toList[0]?=some y->∀ x ∈ xs.toList,kn y<kn x)(hl:∀ x,xs.toList[xs.size - 1]?=some x->∀ y ∈ ys.toList,kn y<kn x)
  (h:∀ m g,qp rk xs.toList ys.toList m.toList->Q m (jI st g)):wpS (model prog w) A E s (vq xs ys) Q st:=by
 unfold vq
 walk_at "unM"
 have lx:xs.toList.length=xs.size:=Array.length_toList
 have ly:ys.toList.length=ys.size:=Array.length_toList
 have dn:∀ {o:Array Keyed} {a b},MHi rk xs.toList ys.toList a b o.toList->a=0->qp rk xs.toList ys.toList (xs.extract 0 a ++ ys.extract 0 b ++ o.reverse).toList:=fun {o a b} M e=>by
  rw [Array.toList_append,Array.toList_append,jz,jz,Array.toList_reverse]
  subst e;exact M.doneX T
 have dny:∀ {o:Array Keyed} {a b},MHi rk xs.toList ys.toList a b o.toList->b=0->qp rk xs.toList ys.toList (xs.extract 0 a ++ ys.extract 0 b ++ o.reverse).toList:=fun {o a b} M e=>by
  rw [Array.toList_append,Array.toList_append,jz,jz,Array.toList_reverse]
  subst e;exact M.doneY T
 have ls:∀ {o:Array Keyed} {a b},MHi rk xs.toList ys.toList a b o.toList->b=1->qp rk xs.toList ys.toList (ys.extract 0 b ++ xs.extract 0 a ++ o.reverse).toList:=fun {o a b} M e=>by
  rw [Array.toList_append,Array.toList_append,jz,jz,Array.toList_reverse]
  subst e;exact M.first T h0
 have ix:∀ {a x},xs.toList[a]?=some x->IsI x:=fun e=>T.ix _ (List.mem_of_getElem? e)
 have iy:∀ {a x},ys.toList[a]?=some x->IsI x:=fun e=>T.iy _ (List.mem_of_getElem? e)
 have gal:∀ {a b} {o:Array Keyed} {k:Nat} {y:Keyed},MHi rk xs.toList ys.toList a b o.toList->1<=b->ys.toList[b - 1]?=some y->k<=a->(∀ i,k<=i->i<a->∃ x,xs.toList[0+i]?=some x/\byd false y x=false)->MHi rk xs.toList ys.toList k b (o ++ (xs.extract k a).reverse).toList:=fun {a b o k y} M hb e hka g=>by
  rw [Array.toList_append,ZR _ hka]
  obtain ⟨b,rfl⟩:∃ b',b=b'+1:=⟨b - 1,by omega⟩
  exact MHi.xs T e (a - k) (by rw [show k+(a - k)=a by omega];exact M) fun i hi=>by obtain ⟨x,h1,h2⟩:=g (k+i) (by omega) (by omega);rw [Nat.zero_add] at h1;exact ⟨x,h1,wM h2⟩
 have gal2:∀ {a b} {o:Array Keyed} {k:Nat} {x:Keyed},MHi rk xs.toList ys.toList a b o.toList->1<=a->xs.toList[a - 1]?=some x->k<=b->(∀ i,k<=i->i<b->∃ y,ys.toList[0+i]?=some y/\byd true x y=false)->MHi rk xs.toList ys.toList a k (o ++ (ys.extract k b).reverse).toList:=fun {a b o k y} M hb e hka g=>by
  rw [Array.toList_append,ZR _ hka]
  obtain ⟨a,rfl⟩:∃ b',a=b'+1:=⟨a - 1,by omega⟩
  exact MHi.ys T e (b - k) (by rw [show k+(b - k)=b by omega];exact M) fun i hi=>by obtain ⟨x,h1,h2⟩:=g (k+i) (by omega) (by omega);rw [Nat.zero_add] at h1;exact ⟨x,h1,Zl h2⟩
 have pux:∀ {a b} {o:Array Keyed} {x y:Keyed},MHi rk xs.toList ys.toList a b o.toList->1<=a->1<=b->xs.toList[a - 1]?=some x->ys.toList[b - 1]?=some y->kn y<kn x->MHi rk xs.toList ys.toList (a - 1) b (o.push x).toList:=fun {a b o x y} M ha hb h1 h2 h3=>by
  rw [Array.toList_push]
  obtain ⟨a,rfl⟩:∃ b',a=b'+1:=⟨a - 1,by omega⟩
  obtain ⟨b,rfl⟩:∃ b',b=b'+1:=⟨b - 1,by omega⟩
  exact M.x T h1 h2 h3
 have puy:∀ {a b} {o:Array Keyed} {x y:Keyed},MHi rk xs.toList ys.toList a b o.toList->1<=a->1<=b->xs.toList[a - 1]?=some x->ys.toList[b - 1]?=some y->kn x<=kn y->MHi rk xs.toList ys.toList a (b - 1) (o.push y).toList:=fun {a b o x y} M ha hb h1 h2 h3=>by
  rw [Array.toList_push]
  obtain ⟨a,rfl⟩:∃ b',a=b'+1:=⟨a - 1,by omega⟩
  obtain ⟨b,rfl⟩:∃ b',b=b'+1:=⟨b - 1,by omega⟩
  exact M.y T h1 h2 h3
 obtain ⟨x0,ex0,lx0⟩:=qu (xs:=xs) (i:=xs.size - 1) (by omega)
 obtain ⟨y0,ey0,ly0⟩:=qu (xs:=ys) (i:=ys.size - 1) (by omega)
 have M0:MHi rk xs.toList ys.toList xs.size ys.size (#[]:Array Keyed).toList:=⟨Nat.le_of_eq lx.symm,Nat.le_of_eq ly.symm,by rw [<- lx,<- ly,List.drop_length,List.drop_length];exact List.Perm.refl _,List.Pairwise.nil,fun x hx=>(nomatch hx),fun x hx=>(nomatch hx)⟩
 have M1:MHi rk xs.toList ys.toList (xs.size - 1) ys.size (#[x0]:Array Keyed).toList:=pux M0 hx hy lx0 ly0 (hl _ lx0 _ (List.mem_of_getElem? ly0))
 refine wpS_bind (qV ?_)
 dsimp only
 refine wpS_bind (zw ex0 ?_)
 by_cases c1:(xs.size - 1 == 0)=true
 ·rw [if_pos c1]
  exact wpS_pure (h _ (gallopOf st) (dn M1 (by simpa using c1)))
 rw [if_neg c1]
 by_cases c2:(ys.size == 1)=true
 ·rw [if_pos c2]
  exact wpS_pure (h _ (gallopOf st) (ls M1 (by simpa using c2)))
 rw [if_neg c2]
 have c1:¬ xs.size - 1=0:=fun z=>c1 (beq_iff_eq.mpr z)
 have c2:¬ ys.size=1:=fun z=>c2 (beq_iff_eq.mpr z)
 refine wpS_bind (wpS_get ?_)
 refine wpS_bind (wpS_mono (wpS_forRange (I:=fun t c st'=>∃ o a b g g',c=(none,a,b,o,g)/\st'=jI st g'/\MHi rk xs.toList ys.toList a b o.toList/\0<a/\1<b/\t+1+a+b<=xs.size+ys.size)
  (Q:=fun c st'=>∃ m o a b g g',c=(some m,a,b,o,g)/\st'=jI st g'/\qp rk xs.toList ys.toList m.toList) ?_ ?_ ⟨_,_,_,_,gallopOf st,rfl,rfl,M1,by omega,by omega,by omega⟩) ?_)
 ·rintro t c st' _ ht ⟨o,a,b,g,g',rfl,rfl,M,ha,hb,hc⟩
  dsimp only
  refine wpS_bind (wpS_mono (wpS_forRange (I:=fun u c st'=>∃ o a b ac bc,c=(none,a,b,o,ac,bc)/\st'=jI st g'/\MHi rk xs.toList ys.toList a b o.toList/\0<a/\1<b/\t+1+a+b<=xs.size+ys.size/\u+1+a+b<=xs.size+ys.size)
   (Q:=fun c st'=>st'=jI st g'/\((∃ m o a b ac bc,c=(some m,a,b,o,ac,bc)/\qp rk xs.toList ys.toList m.toList) \/ (∃ o a b ac bc,c=(none,a,b,o,ac,bc)/\MHi rk xs.toList ys.toList a b o.toList/\0<a/\1<b/\t+2+a+b<=xs.size+ys.size))) ?_ ?_ ⟨_,_,_,_,_,rfl,rfl,M,ha,hb,hc,by omega⟩) ?_)
  ·rintro u c st' _ hu ⟨o,a,b,ac,bc,rfl,rfl,M,ha,hb,hc,hd⟩
   have ma:=M.la
   have mb:=M.lb
   obtain ⟨x,ex,lx'⟩:=qu (xs:=xs) (i:=a - 1) (by omega)
   obtain ⟨y,ey,ly'⟩:=qu (xs:=ys) (i:=b - 1) (by omega)
   dsimp only
   refine wpS_bind (zw ey (wpS_bind (zw ex (wpS_bind (vH hk (iy ly') (ix lx') ?_)))))
   by_cases c:kn y<kn x
   ·rw [decide_eq_true c]
    dsimp only
    rw [if_pos rfl]
    refine wpS_bind (zw ex ?_)
    have M':=pux M (by omega) (by omega) lx' ly' c
    by_cases c3:(a - 1 == 0)=true
    ·rw [if_pos c3];exact wpS_pure ⟨rfl,.inl ⟨_,_,_,_,_,_,rfl,dn M' (by simpa using c3)⟩⟩
    rw [if_neg c3]
    have c3:¬ a - 1=0:=fun z=>c3 (beq_iff_eq.mpr z)
    refine zK (fun _=>?_) fun _=>?_
    ·exact wpS_pure ⟨rfl,.inr ⟨_,_,_,_,_,rfl,M',by omega,by omega,by omega⟩⟩
    ·exact wpS_pure ⟨_,_,_,_,_,rfl,rfl,M',by omega,by omega,by omega,by omega⟩
   ·rw [decide_eq_false c]
    dsimp only
    rw [if_neg (by decide)]
    refine wpS_bind (zw ey ?_)
    have M':=puy M (by omega) (by omega) lx' ly' (by omega)
    by_cases c3:(b - 1 == 1)=true
    ·rw [if_pos c3];exact wpS_pure ⟨rfl,.inl ⟨_,_,_,_,_,_,rfl,ls M' (by simpa using c3)⟩⟩
    rw [if_neg c3]
    have c3:¬ b - 1=1:=fun z=>c3 (beq_iff_eq.mpr z)
    refine zK (fun _=>?_) fun _=>?_
    ·exact wpS_pure ⟨rfl,.inr ⟨_,_,_,_,_,rfl,M',by omega,by omega,by omega⟩⟩
    ·exact wpS_pure ⟨_,_,_,_,_,rfl,rfl,M',by omega,by omega,by omega,by omega⟩
  ·rintro c st' ⟨o,a,b,ac,bc,rfl,rfl,M,ha,hb,hc,hd⟩
   omega
  rintro c st' ⟨rfl,⟨m,o,a,b,ac,bc,rfl,r⟩ | ⟨o,a,b,ac,bc,rfl,M,ha,hb,hc⟩⟩
  ·exact wpS_pure ⟨m,_,_,_,_,_,rfl,rfl,r⟩
  dsimp only
  refine wpS_bind (qV ?_)
  refine wpS_bind (wpS_mono (wpS_forRange (I:=fun u c st'=>∃ o a b g ac bc g',c=(none,a,b,o,g,ac,bc)/\st'=jI st g'/\MHi rk xs.toList ys.toList a b o.toList/\0<a/\1<b/\t+2+a+b<=xs.size+ys.size/\u+1+a+b<=xs.size+ys.size)
   (Q:=fun c st'=>∃ g',st'=jI st g'/\((∃ m o a b g ac bc,c=(some m,a,b,o,g,ac,bc)/\qp rk xs.toList ys.toList m.toList) \/ (∃ o a b g ac bc,c=(none,a,b,o,g,ac,bc)/\MHi rk xs.toList ys.toList a b o.toList/\0<a/\1<b/\t+2+a+b<=xs.size+ys.size))) ?_ ?_ ⟨_,_,_,_,_,_,_,rfl,rfl,M,ha,hb,hc,by omega⟩) ?_)
  ·rintro u c st' _ hu ⟨o,a,b,g,ac,bc,g',rfl,rfl,M,ha,hb,hc,hd⟩
   clear c1 c2 M1 M0
   have ma:=M.la
   have mb:=M.lb
   obtain ⟨y,ey,ly'⟩:=qu (xs:=ys) (i:=b - 1) (by omega)
   dsimp only
   revert g
   refine Vf (fun g=>?h) ?e
   case e=>exact fun _=>rfl
   refine wpS_bind (jB ?_)
   refine wpS_bind (zw ey ?_)
   refine wpS_bind (kq (rk:=rk) hk (iy ly') (T.px.sublist ((List.take_sublist _ _).trans (List.drop_sublist _ _))) T.ix (by omega) (by omega) fun k k1 k2 k3=>?_)
   dsimp only
   generalize hac:a - k=ac2
   have all:MHi rk xs.toList ys.toList a b o.toList/\0<a/\t+2+a+b<=xs.size+ys.size/\u+1+a+b<=xs.size+ys.size/\k<=a/\a<=xs.size/\(∀ i,i<k->∃ x,xs.toList[0+i]?=some x/\byd false y x=true)/\(∀ i,k<=i->i<a->∃ x,xs.toList[0+i]?=some x/\byd false y x=false)/\a - k=ac2:=⟨M,ha,hc,hd,k1,lx ▸ ma,k2,k3,hac⟩
   clear M ha hc hd k1 k2 k3 hac ma
   revert all
   revert o a
   refine Va (fun o a=>o ++ (xs.extract k a).reverse) (fun _=>k) (fun o a p _ c4=>wpS_pure ⟨_,rfl,.inl ⟨_,_,_,_,_,_,_,rfl,dn (gal p.1 (Nat.le_of_lt hb) ly' p.2.2.2.2.1 p.2.2.2.2.2.2.2.1) (beq_iff_eq.mp c4)⟩⟩) (fun o a o2 a2 p hj=>?hj1) ?ej1
   case ej1=>exact fun _ _=>rfl
   obtain ⟨M,ha,hc,hd,k1,ax,k2,k3,hac⟩:=p
   have Mg:=gal M (Nat.le_of_lt hb) ly' k1 k3
   obtain ⟨M1,ea,ha2⟩:MHi rk xs.toList ys.toList a2 b o2.toList/\a2=k/\0<a2:=by
    clear hc hd k2 k3 hu
    rcases hj with ⟨_,c4,rfl,rfl⟩ | ⟨c3,rfl,rfl⟩
    ·have c4:¬ a2=0:=fun z=>c4 (beq_iff_eq.mpr z)
     exact ⟨Mg,rfl,by omega⟩
    ·exact ⟨M,by omega,ha⟩
   have hc:t+2+a2+b<=xs.size+ys.size/\u+1+a2+b<=xs.size+ys.size/\a2<=xs.size:=by clear hj;omega
   subst ea
   obtain ⟨x,ex,lx'⟩:=qu (xs:=xs) (i:=a2 - 1) (by clear hj;omega)
   obtain ⟨x',lx2,k4⟩:=k2 (a2 - 1) (by clear hj;omega)
   rw [Nat.zero_add,lx'] at lx2
   cases lx2
   clear hj k2 k3 k1 M Mg ha hd hac ax
   refine wpS_bind (zw ey ?_)
   have M2:=puy M1 ha2 (Nat.le_of_lt hb) lx' ly' (Jv k4)
   by_cases c5:(b - 1 == 1)=true
   ·rw [if_pos c5];exact wpS_pure ⟨_,rfl,.inl ⟨_,_,_,_,_,_,_,rfl,ls M2 (beq_iff_eq.mp c5)⟩⟩
   rw [if_neg c5]
   have c5:¬ b - 1=1:=fun z=>c5 (beq_iff_eq.mpr z)
   refine wpS_bind (zw ex ?_)
   refine wpS_bind (kq (rk:=rk) hk (ix lx') (T.py.sublist ((List.take_sublist _ _).trans (List.drop_sublist _ _))) T.iy (by omega) (by omega) fun k' k1' k2' k3'=>?_)
   dsimp only
   generalize hbc:b - 1 - k'=bc2
   have all:MHi rk xs.toList ys.toList a2 (b - 1) (o2.push y).toList/\1<b - 1/\t+2+a2+(b - 1)<=xs.size+ys.size/\u+2+a2+(b - 1)<=xs.size+ys.size/\k'<=b - 1/\(∀ i,i<k'->∃ z,ys.toList[0+i]?=some z/\byd true x z=true)/\(∀ i,k'<=i->i<b - 1->∃ z,ys.toList[0+i]?=some z/\byd true x z=false)/\b - 1 - k'=bc2:=⟨M2,by omega,by omega,by omega,k1',k2',k3',hbc⟩
   clear M2 c5 k1' k2' k3' M1 hbc
   generalize o2.push y=o3 at all ⊢
   generalize b - 1=b1 at all ⊢
   revert all
   revert o3 b1
   refine Vq (fun o b=>o ++ (ys.extract k' b).reverse) (fun _=>k') (fun o b p _ c6=>wpS_pure ⟨_,rfl,.inl ⟨_,_,_,_,_,_,_,rfl,ls (gal2 p.1 ha2 lx' p.2.2.2.2.1 p.2.2.2.2.2.2.1) (beq_iff_eq.mp c6)⟩⟩) (fun o b p _ _ c8=>wpS_pure ⟨_,rfl,.inl ⟨_,_,_,_,_,_,_,rfl,dny (gal2 p.1 ha2 lx' p.2.2.2.2.1 p.2.2.2.2.2.2.1) (beq_iff_eq.mp c8)⟩⟩) (fun o b o4 b4 p hj=>?hj2) ?ej2
   case ej2=>exact fun _ _=>rfl
   obtain ⟨M,hb1,hc1,hd1,k1,k2,k3,hbc⟩:=p
   have Mg:=gal2 M ha2 lx' k1 k3
   obtain ⟨M3,eb,hb4⟩:MHi rk xs.toList ys.toList a2 b4 o4.toList/\b4=k'/\1<b4:=by
    clear hc hc1 hd1 k2 k3 hu
    rcases hj with ⟨_,c6,c8,rfl,rfl⟩ | ⟨c3,rfl,rfl⟩
    ·have c6:¬ b4=1:=fun z=>c6 (beq_iff_eq.mpr z)
     have c8:¬ b4=0:=fun z=>c8 (beq_iff_eq.mpr z)
     exact ⟨Mg,rfl,by omega⟩
    ·exact ⟨M,by omega,hb1⟩
   subst eb
   obtain ⟨y',ly2,k5⟩:=k2 (b4 - 1) (by clear hj;omega)
   rw [Nat.zero_add] at ly2
   have hc:t+2+a2+b4<=xs.size+ys.size/\u+2+a2+b4<=xs.size+ys.size:=by clear hj;omega
   clear hj k2 k3 k1 M Mg hb1 hc1 hd1 hbc
   refine wpS_bind (zw ex ?_)
   have M4:=pux M3 ha2 (Nat.le_of_lt hb4) lx' ly2 (Ku k5)
   by_cases c7:(a2 - 1 == 0)=true
   ·rw [if_pos c7];exact wpS_pure ⟨_,rfl,.inl ⟨_,_,_,_,_,_,_,rfl,dn M4 (beq_iff_eq.mp c7)⟩⟩
   rw [if_neg c7]
   have c7:¬ a2 - 1=0:=fun z=>c7 (beq_iff_eq.mpr z)
   refine zK (fun _=>?_) fun _=>?_
   ·exact wpS_pure ⟨_,rfl,.inr ⟨_,_,_,_,_,_,rfl,M4,by omega,hb4,by omega⟩⟩
   ·exact wpS_pure ⟨_,_,_,_,_,_,_,rfl,rfl,M4,by omega,hb4,by omega,by omega⟩
  ·rintro c st' ⟨o,a,b,g,ac,bc,g',rfl,rfl,M,ha,hb,hc,hd⟩
   omega
  rintro c st' ⟨g',rfl,⟨m,o,a,b,g,ac,bc,rfl,r⟩ | ⟨o,a,b,g,ac,bc,rfl,M,ha,hb,hc⟩⟩
  ·exact wpS_pure ⟨m,_,_,_,_,_,rfl,rfl,r⟩
  ·dsimp only
   refine wpS_bind (jB ?_)
   exact wpS_pure ⟨_,_,_,_,_,rfl,rfl,M,ha,hb,by omega⟩
 ·rintro c st' ⟨o,a,b,g,g',rfl,rfl,M,ha,hb,hc⟩
  omega
 ·rintro c st' ⟨m,o,a,b,g,g',rfl,rfl,r⟩
  exact wpS_pure (h m g' r)
end
end L2
namespace L2
open PySem PyProof.Rows
noncomputable def gK (xs:Array Keyed)(i:Nat):Keyed:=xs[i]?.getD (.none,.none)
theorem jw {xs ys:Array Keyed}{i j:Nat}(h:xs[i]?=ys[j]?):gK xs i=gK ys j:=by unfold gK;rw [h]
theorem AR {xs:Array Keyed}{i:Nat}(h:i<xs.size):xs[i]?=some (gK xs i):=by unfold gK;rw [Array.getElem?_eq_getElem h];rfl
structure Sg (xs ys:Array Keyed)(lo hi:Nat):Prop where
 perm:ys.Perm xs
 out:∀ i,i<lo \/ hi<=i->ys[i]?=xs[i]?
 inn:∀ i,lo<=i->i<hi->∃ j,lo<=j/\j<hi/\ys[i]?=xs[j]?
theorem Sg.size {xs ys:Array Keyed}{lo hi:Nat}(h:Sg xs ys lo hi):ys.size=xs.size:=h.perm.size_eq
theorem Sg.refl (xs:Array Keyed)(lo hi:Nat):Sg xs xs lo hi:=⟨Array.Perm.refl _,fun _ _=>rfl,fun i h1 h2=>⟨i,h1,h2,rfl⟩⟩
theorem Sg.trans {xs ys zs:Array Keyed}{lo hi:Nat}(h:Sg xs ys lo hi)(g:Sg ys zs lo hi):Sg xs zs lo hi:=
 ⟨g.perm.trans h.perm,fun i c=>(g.out i c).trans (h.out i c),fun i h1 h2=>by
  obtain ⟨j,j1,j2,e⟩:=g.inn i h1 h2
  obtain ⟨k,k1,k2,e'⟩:=h.inn j j1 j2
  exact ⟨k,k1,k2,e.trans e'⟩⟩
theorem Sg.mono {xs ys:Array Keyed}{lo hi lo' hi':Nat}(h:Sg xs ys lo hi)(h1:lo'<=lo)(h2:hi<=hi'):Sg xs ys lo' hi':=
 ⟨h.perm,fun i c=>h.out i (by omega),fun i c1 c2=>by
  by_cases c:lo<=i/\i<hi
  ·obtain ⟨j,j1,j2,e⟩:=h.inn i c.1 c.2
   exact ⟨j,by omega,by omega,e⟩
  ·exact ⟨i,c1,c2,h.out i (by omega)⟩⟩
theorem zS {xs:Array Keyed}{i j:Nat}(hj:j<=xs.size):Sg xs (mirror xs i j ((j - i) / 2)) i j:=
 ⟨mirror_perm _ _ _ _,fun k c=>by rw [getElem?_mirror_all hj,if_neg (by omega)],fun k h1 h2=>⟨i+j - 1 - k,by omega,by omega,by rw [getElem?_mirror_all hj,if_pos ⟨h1,h2⟩]⟩⟩
theorem zH {xs:Array Keyed}{i j:Nat}(hj:j<=xs.size)(k:Nat):gK (mirror xs i j ((j - i) / 2)) k=if i<=k/\k<j then gK xs (i+j - 1 - k) else gK xs k:=by
 have e:=getElem?_mirror_all (i:=i) hj k
 by_cases h1:i<=k/\k<j
 ·rw [if_pos h1] at e ⊢;exact jw e
 ·rw [if_neg h1] at e ⊢;exact jw e
theorem QR {xs:Array Keyed}{src d:Nat}(hs:src<xs.size)(hd:d<=src)(k:Nat):gK (bubble xs src d) k=if k=src - d then gK xs src else if src - d<k/\k<=src then gK xs (k - 1) else gK xs k:=by
 have e:=getElem?_bubble hs d hd k
 by_cases h1:k=src - d
 ·rw [if_pos h1] at e ⊢;exact jw e
 ·rw [if_neg h1] at e ⊢
  by_cases h2:src - d<k/\k<=src
  ·rw [if_pos h2] at e ⊢;exact jw e
  ·rw [if_neg h2] at e ⊢;exact jw e
theorem Q0 {xs:Array Keyed}{src d:Nat}(hs:src<xs.size)(hd:d<=src):Sg xs (bubble xs src d) (src - d) (src+1):=
 ⟨bubble_perm _ _ _,fun k c=>by rw [getElem?_bubble hs d hd,if_neg (by omega),if_neg (by omega)],fun k h1 h2=>by
  rw [getElem?_bubble hs d hd]
  by_cases c:k=src - d
  ·rw [if_pos c];exact ⟨src,by omega,by omega,rfl⟩
  ·rw [if_neg c,if_pos (by omega)];exact ⟨k - 1,by omega,by omega,rfl⟩⟩
structure SoB (a₀:Array Keyed)(st:SortSt):Prop where
 perm:(arrOf st).Perm a₀
 kind:kindOf st=oneType'
 failed:failedOf st=none
theorem SoB.size {a₀:Array Keyed}{st:SortSt}(h:SoB a₀ st):(arrOf st).size=a₀.size:=h.perm.size_eq
theorem SoB.set {a₀:Array Keyed}{st:SortSt}(h:SoB a₀ st){xs:Array Keyed}(hp:xs.Perm (arrOf st)):SoB a₀ (setArr st xs):=⟨hp.trans h.perm,h.kind,h.failed⟩
noncomputable def wQ (a₀:Array Keyed):Prop:=∀ p ∈ a₀.toList,IsI p
theorem SoB.ints {a₀:Array Keyed}{st:SortSt}(h:SoB a₀ st)(h0:wQ a₀):∀ p ∈ (arrOf st).toList,IsI p:=fun p hp=>h0 p ((Array.perm_iff_toList_perm.mp h.perm).mem_iff.mp hp)
theorem SoB.int {a₀:Array Keyed}{st:SortSt}(h:SoB a₀ st)(h0:wQ a₀){i:Nat}(hi:i<a₀.size):(arrOf st)[i]?=some (gK (arrOf st) i)/\IsI (gK (arrOf st) i):=by
 have e:=AR (xs:=arrOf st) (i:=i) (by rw [h.size];exact hi)
 refine ⟨e,h.ints h0 _ (List.mem_of_getElem? (i:=i) ?_)⟩
 rw [Array.getElem?_toList];exact e
section
variable {prog:Program}{w:World}{A:Around}{E:Value->Shared->Prop}{s:Shared}{a₀:Array Keyed}{rk:Keyed->Int}
theorem ZH {st:SortSt}{i j:Nat}{Q:Option Bool->SortSt->Prop}(hB:SoB a₀ st)(h0:wQ a₀)(hi:i<a₀.size)(hj:j<a₀.size)(h:Q (some (decide (kn (gK (arrOf st) i)<kn (gK (arrOf st) j)))) st):wpS (model prog w) A E s (ltAt' i j) Q st:=by
 rw [ltAt'_eq]
 refine wpS_bind (wpS_get ?_)
 obtain ⟨e1,i1⟩:=hB.int h0 hi
 obtain ⟨e2,i2⟩:=hB.int h0 hj
 exact wpS_bind (zw e1 (wpS_bind (zw e2 (vH hB.kind i1 i2 h))))
noncomputable def Srt (rk:Keyed->Int)(xs:Array Keyed)(lo hi:Nat):Prop:=∀ i j,lo<=i->i<=j->j<hi->LEr rk (gK xs i) (gK xs j)
noncomputable def Asc (rk:Keyed->Int)(xs:Array Keyed)(lo:Nat):Prop:=∀ i j,lo<=i->i<=j->j<xs.size->rk (gK xs i)<=rk (gK xs j)
theorem Sg.rkk {xs ys:Array Keyed}{lo m:Nat}(h:Sg xs ys lo m)(ha:Asc rk xs lo){i j:Nat}(h1:lo<=i)(h2:i<m)(h3:m<=j)(h4:j<xs.size):rk (gK ys i)<=rk (gK ys j):=by
 obtain ⟨i',a1,a2,e⟩:=h.inn i h1 h2
 rw [jw e,jw (h.out j (.inr h3))]
 exact ha i' j a1 (by omega) h4
theorem Srt.one {xs:Array Keyed}{lo:Nat}:Srt rk xs lo (lo+1):=fun i j h1 h2 h3=>by
 have:i=j:=by omega
 subst this;exact LEr.refl
theorem Srt.more {xs:Array Keyed}{lo hi:Nat}(h:Srt rk xs lo hi)(hl:lo<hi)(g:LEr rk (gK xs (hi - 1)) (gK xs hi)):Srt rk xs lo (hi+1):=fun i j h1 h2 h3=>by
 by_cases c:j<hi
 ·exact h i j h1 h2 c
 ·have:j=hi:=by omega
  subst this
  by_cases c2:i=j
  ·subst c2;exact LEr.refl
  ·exact (h i (j - 1) h1 (by omega) (by omega)).trans g
theorem wc {xs:Array Keyed}{lo k l:Nat}(hs:Srt rk xs lo (lo+k))(hl:l<=k)(hz:lo+k<xs.size)(ha:∀ i,lo<=i->i<lo+l->LEr rk (gK xs i) (gK xs (lo+k)))(hb:∀ i,lo+l<=i->i<lo+k->LEr rk (gK xs (lo+k)) (gK xs i)):Srt rk (bubble xs (lo+k) (lo+k - (lo+l))) lo (lo+(k+1)):=by
 have f:∀ i,gK (bubble xs (lo+k) (lo+k - (lo+l))) i=if i=lo+l then gK xs (lo+k) else if lo+l<i/\i<=lo+k then gK xs (i - 1) else gK xs i:=fun i=>by
  rw [QR hz (by omega),show lo+k - (lo+k - (lo+l))=lo+l by omega]
 clear hz
 intro i j b1 b2 b3
 rw [f,f]
 clear f
 by_cases ci:i=lo+l
 ·rw [if_pos ci]
  by_cases cj:j=lo+l
  ·rw [if_pos cj];exact LEr.refl
  ·rw [if_neg cj,if_pos (by omega)]
   exact hb (j - 1) (by omega) (by omega)
 ·rw [if_neg ci]
  by_cases cj:j=lo+l
  ·rw [if_pos cj,if_neg (by omega)]
   exact ha i b1 (by omega)
  ·rw [if_neg cj]
   by_cases ci2:lo+l<i
   ·rw [if_pos (by omega),if_pos (by omega)]
    exact hs _ _ (by omega) (by omega) (by omega)
   ·rw [if_neg (by omega)]
    by_cases cj2:lo+l<j
    ·rw [if_pos (by omega)];exact hs _ _ b1 (by omega) (by omega)
    ·rw [if_neg (by omega)];exact hs _ _ b1 b2 (by omega)
theorem QM {st : SortSt}{lo n ok : Nat}{Q : Bool -> SortSt -> Prop}(h0 : wQ a₀)(hB : SoB a₀ st)(hn : lo + n <= a₀.size)(hok : 1 <= ok)(hok2 : ok <= n)(ha : ∀ i j, lo <= i -> i < j -> lo + ok <= j -> j < a₀.size -> rk (gK (arrOf st) i) <= rk (gK (arrOf st) j))(hs : Srt rk (arrOf st) lo (lo + ok))
    (h:∀ xs,Sg (arrOf st) xs lo (lo+n)->Srt rk xs lo (lo+n)->Q true (setArr st xs)):wpS (model prog w) A E s (binarySort' lo n ok) Q st:=by
  rw [binarySort'_eq]
  refine wpS_bind (wpS_mono (wpS_forRange (I:=fun k c st'=>c=(none,())/\∃ xs,st'=setArr st xs/\Sg (arrOf st) xs lo (lo+k)/\Srt rk xs lo (lo+k)/\k<=n)
    (Q:=fun c st'=>c=(none,())/\∃ xs,st'=setArr st xs/\Sg (arrOf st) xs lo (lo+n)/\Srt rk xs lo (lo+n)) ?_ ?_ ⟨rfl,arrOf st,rfl,Sg.refl _ _ _,by rw [show max ok 1=ok by omega];exact hs,by omega⟩) ?_)
  · rintro k c st' hak hkn ⟨rfl,xs,rfl,g,hs,_⟩
    have hB':SoB a₀ (setArr st xs):=hB.set g.perm
    have sz:xs.size=a₀.size:=hB'.size
    refine wpS_bind (wpS_mono (wpS_forRange (I:=fun t c st'=>st'=setArr st xs/\∃ l r,c=(none,l,r)/\l<=r/\r<=k/\r - l<=k - t/\(∀ i,i<l->kn (gK xs (lo+i))<=kn (gK xs (lo+k)))/\(∀ i,r<=i->i<k->kn (gK xs (lo+k))<kn (gK xs (lo+i))))
      (Q:=fun c st'=>st'=setArr st xs/\∃ l,c=(none,l,l)/\l<=k/\(∀ i,i<l->kn (gK xs (lo+i))<=kn (gK xs (lo+k)))/\(∀ i,l<=i->i<k->kn (gK xs (lo+k))<kn (gK xs (lo+i)))) ?_ ?_ ⟨rfl,0,k,rfl,by omega,by omega,by omega,fun i hi=>by omega,fun i h1 h2=>by omega⟩) ?_)
    · rintro t c st' _ ht ⟨rfl,l,r,rfl,h1,h2,h3,h4,h5⟩
      dsimp only
      by_cases c:l ≥ r
      · rw [if_pos c]
        have:l=r:=by omega
        subst this
        exact wpS_pure ⟨rfl,l,rfl,h2,h4,h5⟩
      · rw [if_neg c]
        refine wpS_bind (ZH hB' h0 (by omega) (by omega) ?_)
        by_cases c2:kn (gK xs (lo+k))<kn (gK xs (lo+(l+r) / 2))
        · rw [show decide (kn (gK (arrOf (setArr st xs)) (lo+k))<kn (gK (arrOf (setArr st xs)) (lo+(l+r) / 2)))=true from decide_eq_true c2]
          refine wpS_pure ⟨rfl,_,_,rfl,by omega,by omega,by omega,h4,fun i a1 a2=>?_⟩
          have:=(hs (lo+(l+r) / 2) (lo+i) (by omega) (by omega) (by omega)).kn
          omega
        · rw [show decide (kn (gK (arrOf (setArr st xs)) (lo+k))<kn (gK (arrOf (setArr st xs)) (lo+(l+r) / 2)))=false from decide_eq_false c2]
          refine wpS_pure ⟨rfl,_,_,rfl,by omega,by omega,by omega,fun i a1=>?_,h5⟩
          have:=(hs (lo+i) (lo+(l+r) / 2) (by omega) (by omega) (by omega)).kn
          omega
    · rintro c st' ⟨rfl,l,r,rfl,h1,h2,h3,h4,h5⟩
      have:l=r:=by omega
      subst this
      exact ⟨rfl,l,rfl,h2,h4,h5⟩
    · rintro c st' ⟨rfl,l,rfl,h2,h4,h5⟩
      show wpS _ _ _ _ (do moveDown' (lo+k) (lo+l);pure (ForInStep.yield (none,()))) _ _
      rw [moveDown'_eq]
      refine wpS_bind (wpS_modify (wpS_pure ⟨rfl,bubble xs (lo+k) (lo+k - (lo+l)),rfl,?_,?_,by omega⟩))
      · exact (g.mono (Nat.le_refl _) (by omega)).trans ((Q0 (by omega) (by omega)).mono (by omega) (by omega))
      · have rkk : ∀ i, i < k -> rk (gK xs (lo + i)) <= rk (gK xs (lo + k)) := fun i hi => by
          obtain ⟨i',a1,a2,e⟩:=g.inn (lo+i) (by omega) (by omega)
          rw [jw e,jw (g.out (lo+k) (.inr (by omega)))]
          exact ha i' (lo+k) a1 (by omega) (by omega) (by omega)
        clear ha
        refine wc hs h2 (by omega) (fun i a1 a2=>?_) fun i a1 a2=>?_
        · have z1:=h4 (i - lo) (by omega)
          have z2:=rkk (i - lo) (by omega)
          rw [show lo+(i - lo)=i by omega] at z1 z2
          exact LEr.of z1 z2
        · have:=h5 (i - lo) (by omega) (by omega)
          rw [show lo+(i - lo)=i by omega] at this
          exact .inl this
  · rintro c st' ⟨rfl,xs,rfl,g,hs,hk⟩
    rw [show max (max ok 1) n=n by omega] at g hs
    exact ⟨rfl,xs,rfl,g,hs⟩
  · rintro c st' ⟨rfl,xs,rfl,g,hs⟩
    exact wpS_pure (h xs g hs)
end
end L2
namespace L2
open PySem PyProof.Rows
section
variable {prog:Program}{w:World}{A:Around}{E:Value->Shared->Prop}{s:Shared}{a₀:Array Keyed}{rk:Keyed->Int}
noncomputable def Fal (rk:Keyed->Int)(xs:Array Keyed)(lo hi:Nat):Prop:=∀ i j,lo<=i->i<=j->j<hi->LEr rk (gK xs j) (gK xs i)
structure Dsc (rk:Keyed->Int)(xs:Array Keyed)(lo T hi:Nat):Prop where
 l:lo<=T
 t:T<hi
 a:Fal rk xs lo T
 b:∀ i,lo<=i->i<T->kn (gK xs (hi - 1))<kn (gK xs i)
 c:∀ i j,T<=i->i<=j->j<hi->kn (gK xs i)=kn (gK xs (hi - 1))/\rk (gK xs i)<=rk (gK xs j)
theorem Dsc.fall0 {xs:Array Keyed}{lo T hi:Nat}(h:Dsc rk xs lo T hi)(e:T+1=hi):Fal rk xs lo hi:=fun i j h1 h2 h3=>by
 by_cases c:j<T
 ·exact h.a i j h1 h2 c
 ·have:j=T:=by omega
  subst this
  by_cases c2:i=j
  ·subst c2;exact LEr.refl
  ·have:=h.b i h1 (by omega)
   rw [show hi - 1=j by omega] at this
   exact .inl this
theorem Dsc.fall {xs:Array Keyed}{lo T hi:Nat}(h:Dsc rk xs lo T hi)(hs:hi<=xs.size):Fal rk (mirror xs T hi ((hi - T) / 2)) lo hi:=fun i j h1 h2 h3=>by
 have hl:=h.l
 have ht:=h.t
 rw [zH hs,zH hs]
 by_cases ci:T<=i
 ·rw [if_pos (by omega),if_pos (by omega)]
  have a1:=h.c (T+hi - 1 - j) (T+hi - 1 - i) (by omega) (by omega) (by omega)
  have a2:=h.c (T+hi - 1 - i) (T+hi - 1 - i) (by omega) (by omega) (by omega)
  exact LEr.of (by omega) a1.2
 ·by_cases cj:T<=j
  ·rw [if_pos (by omega),if_neg (by omega)]
   have a1:=h.b i h1 (by omega)
   have a2:=h.c (T+hi - 1 - j) (T+hi - 1 - j) (by omega) (by omega) (by omega)
   exact .inl (by omega)
  ·rw [if_neg (by omega),if_neg (by omega)];exact h.a i j h1 h2 (by omega)
theorem Dsc.last {xs:Array Keyed}{lo T hi:Nat}(h:Dsc rk xs lo T hi)(hs:hi<=xs.size):kn (gK (mirror xs T hi ((hi - T) / 2)) (hi - 1))=kn (gK xs (hi - 1)):=by
 have ht:=h.t
 rw [zH hs,if_pos ⟨by omega,by omega⟩]
 exact (h.c (T+hi - 1 - (hi - 1)) (T+hi - 1 - (hi - 1)) (by omega) (by omega) (by omega)).1
theorem Fal.next {xs:Array Keyed}{lo hi:Nat}(h:Fal rk xs lo hi)(hl:lo<hi)(g:kn (gK xs hi)<kn (gK xs (hi - 1))):Dsc rk xs lo hi (hi+1):=by
 refine ⟨by omega,by omega,h,fun i h1 h2=>?_,fun i j h1 h2 h3=>?_⟩
 ·have:=(h i (hi - 1) h1 (by omega) (by omega)).kn
  rw [Nat.add_sub_cancel];omega
 ·have:i=hi:=by omega
  have:j=hi:=by omega
  subst i j
  rw [Nat.add_sub_cancel];exact ⟨rfl,Int.le_refl _⟩
theorem Dsc.like {xs:Array Keyed}{lo T hi:Nat}(h:Dsc rk xs lo T hi)(e:kn (gK xs hi)=kn (gK xs (hi - 1)))(g:∀ i,lo<=i->i<hi->rk (gK xs i)<=rk (gK xs hi)):Dsc rk xs lo T (hi+1):=by
 have hl:=h.l
 have ht:=h.t
 refine ⟨hl,by omega,h.a,fun i h1 h2=>?_,fun i j h1 h2 h3=>?_⟩
 ·have:=h.b i h1 h2
  rw [Nat.add_sub_cancel];omega
 ·rw [Nat.add_sub_cancel]
  by_cases cj:j<hi
  ·have:=h.c i j h1 h2 cj
   exact ⟨by omega,this.2⟩
  ·have:j=hi:=by omega
   subst this
   by_cases ci:i=j
   ·subst ci;exact ⟨rfl,Int.le_refl _⟩
   ·exact ⟨by have:=(h.c i i h1 (by omega) (by omega)).1;omega,g i (by omega) (by omega)⟩
theorem Fal.srt {xs:Array Keyed}{lo hi:Nat}(h:Fal rk xs lo hi)(hs:hi<=xs.size):Srt rk (mirror xs lo hi ((hi - lo) / 2)) lo hi:=fun i j h1 h2 h3=>by
 rw [zH hs,zH hs,if_pos ⟨h1,by omega⟩,if_pos ⟨by omega,h3⟩]
 exact h _ _ (by omega) (by omega) (by omega)
theorem JV {st:SortSt}{lo nrem:Nat}{Q:Option Nat->SortSt->Prop}(h0:wQ a₀)(hB:SoB a₀ st)(hn:lo+nrem<=a₀.size)(h1:1<=nrem)(ha:Asc rk (arrOf st) lo)
  (h:∀ m xs,1<=m->m<=nrem->Sg (arrOf st) xs lo (lo+m)->Srt rk xs lo (lo+m)->Q (some m) (setArr st xs)):wpS (model prog w) A E s (countRun' lo nrem) Q st:=by
 rw [countRun'_eq]
 have sz:=hB.size
 have asc:∀ {F:Nat->Option (Option Nat) × Nat->StateT SortSt Sem (ForInStep (Option (Option Nat) × Nat))} (xs:Array Keyed) (n:Nat),Sg (arrOf st) xs lo (lo+n) ->
   (∀ t n (R:_->SortSt->Prop),1<=n->n<nrem->R (if kn (gK xs (lo+n))<kn (gK xs (lo+n - 1)) then ForInStep.done (none,n) else ForInStep.yield (none,n+1)) (setArr st xs)->wpS (model prog w) A E s (F t (none,n)) R (setArr st xs)) ->
   Srt rk xs lo (lo+n)->1<=n->n<=nrem->wpS (model prog w) A E s (forIn [n:nrem] (none,n) F) (fun c st'=>st'=setArr st xs/\∃ m,c=(none,m)/\n<=m/\m<=nrem/\Srt rk xs lo (lo+m)/\(m=nrem \/ kn (gK xs (lo+m))<kn (gK xs (lo+m - 1)))) (setArr st xs):=fun xs n g hF hs hn1 hn2=>by
  refine wpS_forRange (I:=fun t c st'=>st'=setArr st xs/\c=(none,t)/\Srt rk xs lo (lo+t)) ?_ ?_ ⟨rfl,rfl,hs⟩
  ·rintro t c st' h1 h2 ⟨rfl,rfl,hs⟩
   refine hF _ _ _ (by omega) h2 ?_
   by_cases c:kn (gK xs (lo+t))<kn (gK xs (lo+t - 1))
   ·rw [if_pos c];exact ⟨rfl,t,rfl,h1,by omega,hs,.inr c⟩
   ·rw [if_neg c]
    refine ⟨rfl,rfl,?_⟩
    exact hs.more (by omega) (LEr.of (by omega) ((g.mono (Nat.le_refl _) (show lo+n<=lo+t by omega)).rkk ha (by omega) (by omega) (Nat.le_refl _) (by omega)))
  ·rintro c st' ⟨rfl,rfl,hs⟩
   rw [show max n nrem=nrem by omega] at hs ⊢
   exact ⟨rfl,_,rfl,hn2,Nat.le_refl _,hs,.inl rfl⟩
 have cmp:∀ {xs:Array Keyed} {m i j:Nat} (R:Option Bool->SortSt->Prop),Sg (arrOf st) xs lo m->i<a₀.size->j<a₀.size->R (some (decide (kn (gK xs i)<kn (gK xs j)))) (setArr st xs)->wpS (model prog w) A E s (ltAt' i j) R (setArr st xs):=fun R g hi hj r=>ZH (hB.set g.perm) h0 hi hj r
 refine wpS_bind (wpS_mono (asc (arrOf st) 1 (Sg.refl _ _ _) (fun t n R hn1 hn2 r=>?_) Srt.one (by omega) h1) ?_)
 ·dsimp only
  refine wpS_bind (cmp _ (Sg.refl _ lo lo) (by omega) (by omega) ?_)
  by_cases c:kn (gK (arrOf st) (lo+n))<kn (gK (arrOf st) (lo+n - 1))
  ·rw [if_pos c] at r;rw [decide_eq_true c];exact wpS_pure r
  ·rw [if_neg c] at r;rw [decide_eq_false c];exact wpS_pure r
 rintro c st' ⟨rfl,n,rfl,hn1,hn2,hs,hc⟩
 dsimp only
 by_cases c1:(n == nrem)=true
 ·rw [if_pos c1]
  exact wpS_pure (h n (arrOf st) hn1 hn2 (Sg.refl _ _ _) hs)
 rw [if_neg c1]
 have c1:¬ n=nrem:=fun z=>c1 (beq_iff_eq.mpr z)
 have hc:kn (gK (arrOf st) (lo+n))<kn (gK (arrOf st) (lo+n - 1)):=hc.resolve_left c1
 have key:∀ xs,Sg (arrOf st) xs lo (lo+n)->Fal rk xs lo (lo+n)->kn (gK xs (lo+n))<kn (gK xs (lo+n - 1))->Dsc rk xs lo (lo+n) (lo+n+1):=fun xs g f z=>f.next (by omega) z
 refine zK (fun c2=>?_) fun c2=>?_
 ·refine wpS_bind (cmp _ (Sg.refl _ lo lo) (by omega) (by omega) ?_)
  by_cases c3:kn (gK (arrOf st) lo)<kn (gK (arrOf st) (lo+n - 1))
  ·rw [decide_eq_true c3]
   exact wpS_pure (h n (arrOf st) hn1 hn2 (Sg.refl _ _ _) hs)
  rw [decide_eq_false c3]
  dsimp only
  rw [if_neg (by decide)]
  refine wpS_bind (wpS_reverse ?_)
  have hz:lo+n<=(arrOf st).size:=by omega
  have g1:Sg (arrOf st) (mirror (arrOf st) lo (lo+n) ((lo+n - lo) / 2)) lo (lo+n):=zS hz
  have ek:∀ i,lo<=i->i<lo+n->kn (gK (arrOf st) i)=kn (gK (arrOf st) lo):=fun i a1 a2=>by
   have z1:=(hs lo i (Nat.le_refl _) a1 a2).kn
   have z2:=(hs i (lo+n - 1) a1 (by omega) (by omega)).kn
   omega
  have f1:Fal rk (mirror (arrOf st) lo (lo+n) ((lo+n - lo) / 2)) lo (lo+n):=fun i j a1 a2 a3=>by
   rw [zH hz,zH hz,if_pos (by omega),if_pos (by omega)]
   have z1:=ek (lo+(lo+n) - 1 - i) (by omega) (by omega)
   have z2:=ek (lo+(lo+n) - 1 - j) (by omega) (by omega)
   exact LEr.of (by omega) (ha _ _ (by omega) (by omega) (by omega))
  have d1:=key _ g1 f1 (by
   rw [zH hz,zH hz,if_neg (by omega),if_pos ⟨by omega,by omega⟩]
   have z1:=ek (lo+(lo+n) - 1 - (lo+n - 1)) (by omega) (by omega)
   have z2:=ek (lo+n - 1) (by omega) (by omega)
   omega)
  have g1:=g1.mono (Nat.le_refl lo) (Nat.le_succ (lo+n))
  show wpS _ _ _ _ _ _ (setArr st (mirror (arrOf st) lo (lo+n) ((lo+n - lo) / 2)))
  generalize mirror (arrOf st) lo (lo+n) ((lo+n - lo) / 2)=xs at *
  refine wpS_bind (qV ?_)
  refine wpS_bind (wpS_mono (wpS_forRange (I:=fun t c st'=>∃ xs T q,c=(none,t,q)/\st'=setArr st xs/\Sg (arrOf st) xs lo (lo+t)/\T+q+1=lo+t/\Dsc rk xs lo T (lo+t)) (Q:=fun c st'=>∃ xs T q t,c=(none,t,q)/\1<=t/\t<=nrem/\st'=setArr st xs/\Sg (arrOf st) xs lo (lo+t)/\T+q+1=lo+t/\Dsc rk xs lo T (lo+t)) ?_ ?_ ⟨xs,lo+n,0,rfl,rfl,g1,by omega,d1⟩) ?_)
  ·rintro t c st' h1 h2 ⟨xs,T,q,rfl,rfl,g,hq,d⟩
   have hz:lo+t<=xs.size:=by rw [g.size,sz];omega
   have dl:=d.l
   dsimp only
   refine wpS_bind (cmp _ g (by omega) (by omega) ?_)
   by_cases c3:kn (gK xs (lo+t))<kn (gK xs (lo+t - 1))
   ·rw [decide_eq_true c3]
    dsimp only
    rw [if_pos rfl]
    refine zK (fun c4=>?_) fun c4=>?_
    ·refine wpS_bind (wpS_reverse (wpS_pure ?_))
     rw [show lo+t - (q+1)=T by omega]
     exact ⟨mirror xs T (lo+t) ((lo+t - T) / 2),lo+t,0,rfl,rfl,(g.trans ((zS hz).mono d.l (Nat.le_refl _))).mono (Nat.le_refl _) (by omega),by omega,(d.fall hz).next (by omega) (by rw [d.last hz,zH hz,if_neg (by omega)];exact c3)⟩
    ·exact wpS_pure ⟨xs,lo+t,0,rfl,rfl,g.mono (Nat.le_refl _) (by omega),by omega,(d.fall0 (by omega)).next (by omega) c3⟩
   ·rw [decide_eq_false c3]
    dsimp only
    rw [if_neg (by decide)]
    refine wpS_bind (cmp _ g (by omega) (by omega) ?_)
    by_cases c4:kn (gK xs (lo+t - 1))<kn (gK xs (lo+t))
    ·rw [decide_eq_true c4];exact wpS_pure ⟨xs,T,q,t,rfl,by omega,by omega,rfl,g,hq,d⟩
    ·rw [decide_eq_false c4];exact wpS_pure ⟨xs,T,q+1,rfl,rfl,g.mono (Nat.le_refl _) (by omega),by omega,d.like (by omega) fun i a1 a2=>g.rkk ha a1 a2 (Nat.le_refl _) (by omega)⟩
  ·rintro c st' ⟨xs,T,q,rfl,rfl,g,hq,d⟩
   rw [show max (n+1) nrem=nrem by omega] at *
   exact ⟨xs,T,q,nrem,rfl,by omega,Nat.le_refl _,rfl,g,hq,d⟩
  rintro c st' ⟨xs,T,q,t,rfl,t1,t2,rfl,g,hq,d⟩
  have hz:lo+t<=xs.size:=by rw [g.size,sz];omega
  have dl:=d.l
  dsimp only
  refine zK (fun c4=>wpS_bind (wpS_reverse ?_)) fun c4=>?_
  ·rw [show lo+t - (q+1)=T by omega]
   have g2:=g.trans ((zS hz).mono d.l (Nat.le_refl _))
   have f2:=d.fall hz
   show wpS _ _ _ _ _ _ (setArr st (mirror xs T (lo+t) ((lo+t - T) / 2)))
   generalize mirror xs T (lo+t) ((lo+t - T) / 2)=ys at *
   refine wpS_bind (wpS_reverse ?_)
   have hz2:lo+t<=ys.size:=by rw [g2.size,sz];omega
   have g3:=g2.trans (zS hz2)
   have s3:=f2.srt hz2
   refine wpS_bind (wpS_mono (asc (mirror ys lo (lo+t) ((lo+t - lo) / 2)) t g3 (fun u n R hn1 hn2 r=>?_) s3 t1 t2) ?_)
   ·dsimp only
    refine wpS_bind (cmp _ g3 (by omega) (by omega) ?_)
    by_cases c:kn (gK (mirror ys lo (lo+t) ((lo+t - lo) / 2)) (lo+n))<kn (gK (mirror ys lo (lo+t) ((lo+t - lo) / 2)) (lo+n - 1))
    ·rw [if_pos c] at r;rw [decide_eq_true c];exact wpS_pure r
    ·rw [if_neg c] at r;rw [decide_eq_false c];exact wpS_pure r
   rintro c st' ⟨rfl,m,rfl,m1,m2,s4,_⟩
   exact wpS_pure (h m _ (by omega) m2 (g3.mono (Nat.le_refl _) (by omega)) s4)
  ·have f2:=d.fall0 (by omega)
   have g2:=g
   generalize xs=ys at *
   refine wpS_bind (wpS_reverse ?_)
   have hz2:lo+t<=ys.size:=by rw [g2.size,sz];omega
   have g3:=g2.trans (zS hz2)
   have s3:=f2.srt hz2
   refine wpS_bind (wpS_mono (asc (mirror ys lo (lo+t) ((lo+t - lo) / 2)) t g3 (fun u n R hn1 hn2 r=>?_) s3 t1 t2) ?_)
   ·dsimp only
    refine wpS_bind (cmp _ g3 (by omega) (by omega) ?_)
    by_cases c:kn (gK (mirror ys lo (lo+t) ((lo+t - lo) / 2)) (lo+n))<kn (gK (mirror ys lo (lo+t) ((lo+t - lo) / 2)) (lo+n - 1))
    ·rw [if_pos c] at r;rw [decide_eq_true c];exact wpS_pure r
    ·rw [if_neg c] at r;rw [decide_eq_false c];exact wpS_pure r
   rintro c st' ⟨rfl,m,rfl,m1,m2,s4,_⟩
   exact wpS_pure (h m _ (by omega) m2 (g3.mono (Nat.le_refl _) (by omega)) s4)
 ·have e1:n=1:=by omega
  subst e1
  have d1:Dsc rk (arrOf st) lo (lo+1) (lo+1+1):=by
   refine key _ (Sg.refl _ _ _) (fun i j a1 a2 a3=>?_) hc
   have:i=j:=by omega
   subst this;exact LEr.refl
  have g1:Sg (arrOf st) (arrOf st) lo (lo+1+1):=Sg.refl _ _ _
  refine wpS_bind (qV ?_)
  refine wpS_bind (wpS_mono (wpS_forRange (I:=fun t c st'=>∃ xs T q,c=(none,t,q)/\st'=setArr st xs/\Sg (arrOf st) xs lo (lo+t)/\T+q+1=lo+t/\Dsc rk xs lo T (lo+t)) (Q:=fun c st'=>∃ xs T q t,c=(none,t,q)/\1<=t/\t<=nrem/\st'=setArr st xs/\Sg (arrOf st) xs lo (lo+t)/\T+q+1=lo+t/\Dsc rk xs lo T (lo+t)) ?_ ?_ ⟨arrOf st,lo+1,0,rfl,rfl,g1,by omega,d1⟩) ?_)
  ·rintro t c st' h1 h2 ⟨xs,T,q,rfl,rfl,g,hq,d⟩
   have hz:lo+t<=xs.size:=by rw [g.size,sz];omega
   have dl:=d.l
   dsimp only
   refine wpS_bind (cmp _ g (by omega) (by omega) ?_)
   by_cases c3:kn (gK xs (lo+t))<kn (gK xs (lo+t - 1))
   ·rw [decide_eq_true c3]
    dsimp only
    rw [if_pos rfl]
    refine zK (fun c4=>?_) fun c4=>?_
    ·refine wpS_bind (wpS_reverse (wpS_pure ?_))
     rw [show lo+t - (q+1)=T by omega]
     exact ⟨mirror xs T (lo+t) ((lo+t - T) / 2),lo+t,0,rfl,rfl,(g.trans ((zS hz).mono d.l (Nat.le_refl _))).mono (Nat.le_refl _) (by omega),by omega,(d.fall hz).next (by omega) (by rw [d.last hz,zH hz,if_neg (by omega)];exact c3)⟩
    ·exact wpS_pure ⟨xs,lo+t,0,rfl,rfl,g.mono (Nat.le_refl _) (by omega),by omega,(d.fall0 (by omega)).next (by omega) c3⟩
   ·rw [decide_eq_false c3]
    dsimp only
    rw [if_neg (by decide)]
    refine wpS_bind (cmp _ g (by omega) (by omega) ?_)
    by_cases c4:kn (gK xs (lo+t - 1))<kn (gK xs (lo+t))
    ·rw [decide_eq_true c4];exact wpS_pure ⟨xs,T,q,t,rfl,by omega,by omega,rfl,g,hq,d⟩
    ·rw [decide_eq_false c4];exact wpS_pure ⟨xs,T,q+1,rfl,rfl,g.mono (Nat.le_refl _) (by omega),by omega,d.like (by omega) fun i a1 a2=>g.rkk ha a1 a2 (Nat.le_refl _) (by omega)⟩
  ·rintro c st' ⟨xs,T,q,rfl,rfl,g,hq,d⟩
   rw [show max (1+1) nrem=nrem by omega] at *
   exact ⟨xs,T,q,nrem,rfl,by omega,Nat.le_refl _,rfl,g,hq,d⟩
  rintro c st' ⟨xs,T,q,t,rfl,t1,t2,rfl,g,hq,d⟩
  have hz:lo+t<=xs.size:=by rw [g.size,sz];omega
  have dl:=d.l
  dsimp only
  refine zK (fun c4=>wpS_bind (wpS_reverse ?_)) fun c4=>?_
  ·rw [show lo+t - (q+1)=T by omega]
   have g2:=g.trans ((zS hz).mono d.l (Nat.le_refl _))
   have f2:=d.fall hz
   show wpS _ _ _ _ _ _ (setArr st (mirror xs T (lo+t) ((lo+t - T) / 2)))
   generalize mirror xs T (lo+t) ((lo+t - T) / 2)=ys at *
   refine wpS_bind (wpS_reverse ?_)
   have hz2:lo+t<=ys.size:=by rw [g2.size,sz];omega
   have g3:=g2.trans (zS hz2)
   have s3:=f2.srt hz2
   refine wpS_bind (wpS_mono (asc (mirror ys lo (lo+t) ((lo+t - lo) / 2)) t g3 (fun u n R hn1 hn2 r=>?_) s3 t1 t2) ?_)
   ·dsimp only
    refine wpS_bind (cmp _ g3 (by omega) (by omega) ?_)
    by_cases c:kn (gK (mirror ys lo (lo+t) ((lo+t - lo) / 2)) (lo+n))<kn (gK (mirror ys lo (lo+t) ((lo+t - lo) / 2)) (lo+n - 1))
    ·rw [if_pos c] at r;rw [decide_eq_true c];exact wpS_pure r
    ·rw [if_neg c] at r;rw [decide_eq_false c];exact wpS_pure r
   rintro c st' ⟨rfl,m,rfl,m1,m2,s4,_⟩
   exact wpS_pure (h m _ (by omega) m2 (g3.mono (Nat.le_refl _) (by omega)) s4)
  ·have f2:=d.fall0 (by omega)
   have g2:=g
   generalize xs=ys at *
   refine wpS_bind (wpS_reverse ?_)
   have hz2:lo+t<=ys.size:=by rw [g2.size,sz];omega
   have g3:=g2.trans (zS hz2)
   have s3:=f2.srt hz2
   refine wpS_bind (wpS_mono (asc (mirror ys lo (lo+t) ((lo+t - lo) / 2)) t g3 (fun u n R hn1 hn2 r=>?_) s3 t1 t2) ?_)
   ·dsimp only
    refine wpS_bind (cmp _ g3 (by omega) (by omega) ?_)
    by_cases c:kn (gK (mirror ys lo (lo+t) ((lo+t - lo) / 2)) (lo+n))<kn (gK (mirror ys lo (lo+t) ((lo+t - lo) / 2)) (lo+n - 1))
    ·rw [if_pos c] at r;rw [decide_eq_true c];exact wpS_pure r
    ·rw [if_neg c] at r;rw [decide_eq_false c];exact wpS_pure r
   rintro c st' ⟨rfl,m,rfl,m1,m2,s4,_⟩
   exact wpS_pure (h m _ (by omega) m2 (g3.mono (Nat.le_refl _) (by omega)) s4)
end
end L2
namespace L2
open PySem PyProof.Rows
local macro_rules | `(tactic| walk_at "unMa")=>do
 let n:=Lean.mkIdent (Lean.mkPrivateNameCore `PySem.Builtin.List.W1All `PySem.Builtin.mergeAt)
 `(tactic| unfold $n)
theorem vE {f:Array Keyed->Keyed × Nat->Array Keyed}{b:Nat}(hf:∀ a p j,f a (p,j)=a.setIfInBounds (b+j) p):∀ (l:List Keyed) (n:Nat) (xs:Array Keyed) (U V W:List Keyed),xs.toList=U ++ (V ++ W)->U.length=b+n->V.length=l.length->((l.zipIdx n).foldl f xs).toList=U ++ (l ++ W)
 | [],n,xs,U,V,W,e,h1,h2=>by
  have:V=[]:=List.length_eq_zero_iff.mp h2
  subst this
  exact e
 | p :: l,n,xs,U,v :: V,W,e,h1,h2=>by
  rw [List.zipIdx_cons,List.foldl_cons,hf]
  have:=vE hf l (n+1) (xs.setIfInBounds (b+n) p) (U ++ [p]) V W (by
   rw [Array.toList_setIfInBounds,e,<- h1,List.set_append_right _ _ (Nat.le_refl _),Nat.sub_self,List.cons_append,List.set_cons_zero,List.append_assoc];rfl) (by rw [List.length_append,List.length_singleton];omega) (by simpa using h2)
  rw [this,List.append_assoc];rfl
section
variable {prog:Program}{w:World}{A:Around}{E:Value->Shared->Prop}{s:Shared}{rk:Keyed->Int}
theorem Wp {st st':SortSt}{Q:PUnit->SortSt->Prop}(h:Q ⟨⟩ st'):wpS (model prog w) A E s (set st':StateT SortSt Sem PUnit) Q st:=by
 unfold wpS
 show wpAny _ _ ((set st':StateT SortSt Sem PUnit).run st) _ _ _
 rw [StateT.run_set]
 exact wpAny_pure ⟨rfl,h⟩
theorem qp.join {X Y m:List Keyed}{k j:Nat}(T:qU rk X Y)(hm:qp rk (X.drop k) (Y.take j) m)(h1:∀ x ∈ X.take k,∀ y ∈ Y,kn x<=kn y)(h2:∀ y ∈ Y.drop j,∀ x ∈ X,kn x<=kn y):qp rk X Y (X.take k ++ (m ++ Y.drop j)):=by
 refine ⟨?_,?_⟩
 ·refine (List.Perm.append_left _ (hm.1.append_right _)).trans ?_
  rw [List.append_assoc,List.take_append_drop,<- List.append_assoc,List.take_append_drop]
 ·have mm:∀ x ∈ m,x ∈ X.drop k \/ x ∈ Y.take j:=fun x hx=>List.mem_append.mp (hm.1.mem_iff.mp hx)
  have pX:∀ x ∈ X.take k,∀ y ∈ X.drop k,LEr rk x y:=by
   have:=T.px
   rw [<- List.take_append_drop k X] at this
   exact (List.pairwise_append.mp this).2.2
  have pY:∀ x ∈ Y.take j,∀ y ∈ Y.drop j,LEr rk x y:=by
   have:=T.py
   rw [<- List.take_append_drop j Y] at this
   exact (List.pairwise_append.mp this).2.2
  refine List.pairwise_append.mpr ⟨T.px.sublist (List.take_sublist _ _),List.pairwise_append.mpr ⟨hm.2,T.py.sublist (List.drop_sublist _ _),fun x hx y hy=>?_⟩,fun x hx y hy=>?_⟩
  ·rcases mm x hx with hx | hx
   ·exact LEr.of (h2 y hy x (List.mem_of_mem_drop hx)) (T.bel _ (List.mem_of_mem_drop hx) _ (List.mem_of_mem_drop hy))
   ·exact pY x hx y hy
  ·have bl:∀ y ∈ Y,LEr rk x y:=fun y hy=>LEr.of (h1 x hx y hy) (T.bel _ (List.mem_of_mem_take hx) _ hy)
   rcases List.mem_append.mp hy with hy | hy
   ·rcases mm y hy with hy | hy
    ·exact pX x hx y hy
    ·exact bl y (List.mem_of_mem_take hy)
   ·exact bl y (List.mem_of_mem_drop hy)
theorem wu {st:SortSt}{i:Nat}{Q:Bool->SortSt->Prop}{P X Y R:List Keyed}{pw pw':Nat}(hk:kindOf st=oneType')(hf:failedOf st=none)(hI:∀ p ∈ (arrOf st).toList,IsI p)(e:(arrOf st).toList=P ++ (X ++ (Y ++ R)))(T:qU rk X Y)(hx:0<X.length)(hy:0<Y.length)
  (p1:(pendingOf st)[i]?=some (P.length,X.length,pw)) (p2:(pendingOf st)[i+1]?=some (P.length+X.length,Y.length,pw'))
  (h:∀ m g xs,qp rk X Y m->xs.toList=P ++ (m ++ R)->Q true (SortSt.mk' (kindOf st) xs (((pendingOf st).setIfInBounds i (P.length,X.length+Y.length,pw)).eraseIdxIfInBounds (i+1)) g (failedOf st))):wpS (model prog w) A E s (mergeAt' i) Q st:=by
 unfold mergeAt'
 walk_at "unMa"
 have sz:(arrOf st).size=P.length+(X.length+(Y.length+R.length)):=by rw [<- Array.length_toList,e,List.length_append,List.length_append,List.length_append]
 have gx:∀ j,j<X.length->(arrOf st).toList[P.length+j]?=X[j]?:=fun j hj=>by
  rw [e,List.getElem?_append_right (by omega),Nat.add_sub_cancel_left,List.getElem?_append_left hj]
 have gy:∀ j,j<Y.length->(arrOf st).toList[P.length+X.length+j]?=Y[j]?:=fun j hj=>by
  rw [e,List.getElem?_append_right (by omega),List.getElem?_append_right (by omega),List.getElem?_append_left (by omega)];congr 1;omega
 have dX:∀ k,k<=X.length->((arrOf st).toList.drop (P.length+k)).take (X.length - k)=X.drop k:=fun k hk=>by
  rw [e,<- List.drop_drop,List.drop_left,List.drop_append_of_le_length hk,List.take_append_of_le_length (by rw [List.length_drop];omega),List.take_of_length_le (by rw [List.length_drop];omega)]
 have dY:∀ k,k<=Y.length->((arrOf st).toList.drop (P.length+X.length)).take k=Y.take k:=fun k hk=>by
  rw [e,<- List.drop_drop,List.drop_left,List.drop_left,List.take_append_of_le_length hk]
 have ax:∀ {j x},(arrOf st).toList[j]?=some x->(arrOf st)[j]?=some x:=fun z=>by rw [<- Array.getElem?_toList];exact z
 obtain ⟨y0,hy0⟩:∃ y,Y[0]?=some y:=⟨_,List.getElem?_eq_getElem hy⟩
 obtain ⟨x9,hx9⟩:∃ x,X[X.length - 1]?=some x:=⟨_,List.getElem?_eq_getElem (by omega)⟩
 have my:=List.mem_of_getElem? hy0
 have mx:=List.mem_of_getElem? hx9
 have y0le:∀ y ∈ Y,kn y0<=kn y:=fun y hy=>(jC T.py hy0 y (by rw [List.drop_zero];exact hy)).kn
 have x9le:∀ x ∈ X,kn x<=kn x9:=fun x hx'=>(jd T.px hx9 x (by rw [show X.length - 1+1=X.length by omega,List.take_length];exact hx')).kn
 refine wpS_bind (wpS_get ?_)
 rw [p1,p2]
 refine wpS_bind (Wp ?_)
 refine wpS_bind (zw (ax (by rw [show P.length+X.length=P.length+X.length+0 by omega,gy 0 hy];exact hy0)) ?_)
 refine wpS_bind (kq (rk:=rk) (xs:=arrOf st) hk (T.iy _ my) (by have:=dX 0 (by omega);rw [Nat.add_zero,Nat.sub_zero,List.drop_zero] at this;rw [this];exact T.px) hI (by omega) hx fun k k1 k2 k3=>?_)
 dsimp only
 have k2:∀ x ∈ X.take k,kn x<=kn y0:=fun x hx'=>by
  obtain ⟨j,hj⟩:=List.getElem?_of_mem hx'
  have hjk:j<k:=by have:=(List.getElem?_eq_some_iff.mp hj).1;rw [List.length_take] at this;omega
  obtain ⟨x',e1,e2⟩:=k2 j hjk
  rw [gx j (by omega)] at e1
  rw [List.getElem?_take_of_lt hjk,e1] at hj
  cases hj
  exact Jv e2
 have k2':∀ x ∈ X.take k,∀ y ∈ Y,kn x<=kn y:=fun x hx' y hy'=>Int.le_trans (k2 x hx') (y0le y hy')
 by_cases c1:(X.length - k == 0)=true
 ·rw [if_pos c1]
  have c1:k=X.length:=by have:=beq_iff_eq.mp c1;omega
  subst c1
  rw [List.take_length] at k2'
  refine wpS_pure (h (X ++ Y) (gallopOf st) (arrOf st) ⟨List.Perm.refl _,List.pairwise_append.mpr ⟨T.px,T.py,fun x hx' y hy'=>LEr.of (k2' x hx' y hy') (T.bel x hx' y hy')⟩⟩ (by rw [e,List.append_assoc]))
 rw [if_neg c1]
 have c1:k<X.length:=by
  have:¬ X.length - k=0:=fun z=>c1 (beq_iff_eq.mpr z)
  omega
 obtain ⟨xk,hxk⟩:∃ x,X[k]?=some x:=⟨_,List.getElem?_eq_getElem c1⟩
 have k3':kn y0<kn xk:=by
  obtain ⟨x',e1,e2⟩:=k3 k (Nat.le_refl _) c1
  rw [gx k c1,hxk] at e1
  cases e1
  exact wM e2
 have k4:∀ x ∈ X.drop k,kn y0<kn x:=fun x hx'=>by have:=(jC T.px hxk x hx').kn;omega
 refine wpS_bind (zw (ax (by rw [show P.length+k+(X.length - k) - 1=P.length+(X.length - 1) by omega,gx _ (by omega)];exact hx9)) ?_)
 refine wpS_bind (kq (rk:=rk) (xs:=arrOf st) hk (T.ix _ mx) (by rw [dY _ (Nat.le_refl _),List.take_length];exact T.py) hI (by omega) (by omega) fun j j1 j2 j3=>?_)
 dsimp only
 have j2:∀ y ∈ Y.take j,kn y<kn x9:=fun y hy'=>by
  obtain ⟨n,hn⟩:=List.getElem?_of_mem hy'
  have hnj:n<j:=by have:=(List.getElem?_eq_some_iff.mp hn).1;rw [List.length_take] at this;omega
  obtain ⟨y',e1,e2⟩:=j2 n hnj
  rw [gy n (by omega)] at e1
  rw [List.getElem?_take_of_lt hnj,e1] at hn
  cases hn
  exact Ku e2
 have j3:∀ y ∈ Y.drop j,∀ x ∈ X,kn x<=kn y:=fun y hy' x hx'=>by
  obtain ⟨n,hn⟩:=List.getElem?_of_mem hy'
  rw [List.getElem?_drop] at hn
  have hl:=(List.getElem?_eq_some_iff.mp hn).1
  obtain ⟨y',e1,e2⟩:=j3 (j+n) (by omega) hl
  rw [gy _ hl,hn] at e1
  cases e1
  exact Int.le_trans (x9le x hx') (Zl e2)
 have c2:j ≠ 0:=fun z=>by
  subst z
  have:=j3 y0 (by rw [List.drop_zero];exact my) xk (List.mem_of_getElem? hxk)
  omega
 rw [if_neg (by simpa using c2)]
 have ex:((arrOf st).extract (P.length+k) (P.length+X.length)).toList=X.drop k:=by
  rw [Array.toList_extract,List.extract_eq_take_drop,show P.length+X.length - (P.length+k)=X.length - k by omega,dX k k1]
 have ey:((arrOf st).extract (P.length+X.length) (P.length+X.length+j)).toList=Y.take j:=by
  rw [yg,dY j j1]
 have T':qU rk (X.drop k) (Y.take j):=⟨T.px.sublist (List.drop_sublist _ _),T.py.sublist (List.take_sublist _ _),fun x hx' y hy'=>T.bel x (List.mem_of_mem_drop hx') y (List.mem_of_mem_take hy'),fun x hx'=>T.ix x (List.mem_of_mem_drop hx'),fun y hy'=>T.iy y (List.mem_of_mem_take hy')⟩
 have l9:(X.drop k)[X.length - k - 1]?=some x9:=by rw [List.getElem?_drop,<- hx9];congr 1;omega
 have t0:(Y.take j)[0]?=some y0:=by rw [List.getElem?_take_of_lt (by omega),hy0]
 have z1:((arrOf st).extract (P.length+k) (P.length+X.length)).size=X.length - k:=by rw [<- Array.length_toList,ex,List.length_drop]
 have z2:((arrOf st).extract (P.length+X.length) (P.length+X.length+j)).size=j:=by rw [<- Array.length_toList,ey,List.length_take];omega
 have fin:∀ {f:Array Keyed->Keyed × Nat->Array Keyed} (m:Array Keyed) (g:Nat),(∀ a p q,f a (p,q)=a.setIfInBounds (P.length+k+q) p)->qp rk (X.drop k) (Y.take j) m.toList->Q true (SortSt.mk' (kindOf st) (m.toList.zipIdx.foldl f (arrOf st)) (((pendingOf st).setIfInBounds i (P.length,X.length+Y.length,pw)).eraseIdxIfInBounds (i+1)) g (failedOf st)):=fun {f} m g hff hm=>by
  refine h _ g _ (qp.join T hm k2' j3) ?_
  rw [vE hff m.toList 0 (arrOf st) (P ++ X.take k) (X.drop k ++ Y.take j) (Y.drop j ++ R) ?_ ?_ hm.1.length_eq.symm]
  ·simp only [List.append_assoc]
  ·rw [e,List.append_assoc,List.append_assoc,<- List.append_assoc (Y.take j),List.take_append_drop,<- List.append_assoc (X.take k),List.take_append_drop]
  ·rw [List.length_append,List.length_take];omega
 refine zK (fun _=>?_) fun _=>?_
 ·refine wpS_bind (wK (rk:=rk) (xs:=(arrOf st).extract (P.length+k) (P.length+X.length)) (ys:=(arrOf st).extract (P.length+X.length) (P.length+X.length+j)) hk (by rw [ex,ey];exact T') (by rw [z1];omega) (by rw [z2];omega) (by rw [ex,ey];intro x y a1 a2;rw [t0] at a2;cases a2;exact k4 x (List.mem_of_getElem? a1)) (by rw [ex,ey,z1];intro x a1;rw [l9] at a1;cases a1;exact j2) fun m g hm=>?_)
  rw [ex,ey] at hm
  refine wpS_bind (wpS_modify (wpS_bind (wpS_get ?_)))
  show wpS _ _ _ _ (pure (failedOf st).isNone) _ _
  rw [show (failedOf st).isNone=true by rw [hf];rfl]
  exact wpS_pure (fin m g (fun _ _ _=>rfl) hm)
 ·refine wpS_bind (wt (rk:=rk) (xs:=(arrOf st).extract (P.length+k) (P.length+X.length)) (ys:=(arrOf st).extract (P.length+X.length) (P.length+X.length+j)) hk (by rw [ex,ey];exact T') (by rw [z1];omega) (by rw [z2];omega) (by rw [ex,ey];intro y a2;rw [t0] at a2;cases a2;exact k4) (by rw [ex,ey,z1];intro x a1;rw [l9] at a1;cases a1;exact j2) fun m g hm=>?_)
  rw [ex,ey] at hm
  refine wpS_bind (wpS_modify (wpS_bind (wpS_get ?_)))
  show wpS _ _ _ _ (pure (failedOf st).isNone) _ _
  rw [show (failedOf st).isNone=true by rw [hf];rfl]
  exact wpS_pure (fin m g (fun _ _ _=>rfl) hm)
end
end L2
namespace L2
open PySem PyProof.Rows
noncomputable def Pnd:Nat->List (Nat × Nat × Nat)->List (List Keyed)->Prop
 | _,[],[]=>True
 | o,p :: ps,r :: rs=>p.1=o/\p.2.1=r.length/\Pnd (o+r.length) ps rs
 | _,_,_=>False
theorem Pnd.len:∀ {o ps rs},Pnd o ps rs->ps.length=rs.length
 | _,[],[],_=>rfl
 | _,_ :: ps,_ :: rs,h=>congrArg (·+1) (Pnd.len h.2.2)
 | _,[],_ :: _,h=>h.elim
 | _,_ :: _,[],h=>h.elim
theorem Pnd.snoc:∀ {o ps rs} {r:List Keyed} {pw:Nat},Pnd o ps rs->Pnd o (ps ++ [(o+rs.flatten.length,r.length,pw)]) (rs ++ [r])
 | _,[],[],_,_,_=>⟨rfl,rfl,trivial⟩
 | o,p :: ps,q :: rs,r,pw,h=>by
  refine ⟨h.1,h.2.1,?_⟩
  have:=Pnd.snoc (r:=r) (pw:=pw) h.2.2
  rw [List.flatten_cons,List.length_append,<- Nat.add_assoc];exact this
 | _,[],_ :: _,_,_,h=>h.elim
 | _,_ :: _,[],_,_,h=>h.elim
theorem Pnd.at : ∀ {o ps rs} (i : Nat) {X Y : List Keyed}, Pnd o ps rs -> rs[i]? = some X -> rs[i + 1]? = some Y -> ∃ pw pw', ps[i]? = some (o + (rs.take i).flatten.length, X.length, pw) /\ ps[i + 1]? = some (o + (rs.take i).flatten.length + X.length, Y.length, pw') /\
      ∀ Z:List Keyed,Z.length=X.length+Y.length->Pnd o ((ps.set i (o+(rs.take i).flatten.length,X.length+Y.length,pw)).eraseIdx (i+1)) (rs.take i ++ Z :: rs.drop (i+2))
  | o,p :: p' :: ps,x :: y :: rs,0,X,Y,h,hx,hy=>by
    cases hx;cases hy
    obtain ⟨h1,h2,h3,h4,h5⟩:=h
    obtain ⟨a,b,c⟩:=p
    obtain ⟨a',b',c'⟩:=p'
    simp only at h1 h2 h3 h4
    subst h1 h2 h3 h4
    refine ⟨c,c',rfl,rfl,fun Z hZ=>⟨rfl,hZ.symm,?_⟩⟩
    show Pnd (a+Z.length) ps rs
    rw [hZ,<- Nat.add_assoc];exact h5
  | o,p :: ps,x :: rs,i+1,X,Y,h,hx,hy=>by
    obtain ⟨pw,pw',e1,e2,e3⟩:=Pnd.at (o:=o+x.length) i (X:=X) (Y:=Y) h.2.2 hx hy
    have e:o+x.length+(rs.take i).flatten.length=o+((x :: rs).take (i+1)).flatten.length:=by
      rw [List.take_succ_cons,List.flatten_cons,List.length_append,Nat.add_assoc]
    rw [e] at e1 e2
    refine ⟨pw,pw',e1,e2,fun Z hZ=>?_⟩
    have:=e3 Z hZ
    rw [e] at this
    exact ⟨h.1,h.2.1,this⟩
  | _,[],[],_,_,_,_,hx,_=>by simp at hx
  | _,[],_ :: _,_,_,_,h,_,_=>h.elim
  | _,_ :: _,[],_,_,_,h,_,_=>h.elim
  | _,[_],[_],0,_,_,_,_,hy=>by simp at hy
  | _,[_],_ :: _ :: _,0,_,_,h,_,_=>h.2.2.elim
  | _,_ :: _ :: _,[_],0,_,_,h,_,_=>h.2.2.elim
theorem Pnd.mod {f:Nat × Nat × Nat->Nat × Nat × Nat}(hf:∀ p,(f p).1=p.1/\(f p).2.1=p.2.1):∀ {o ps rs} (i:Nat),Pnd o ps rs->Pnd o (ps.modify i f) rs
 | _,[],[],i,_=>by rw [List.modify_nil];trivial
 | _,p :: ps,r :: rs,0,h=>⟨(hf p).1.trans h.1,(hf p).2.trans h.2.1,h.2.2⟩
 | _,p :: ps,r :: rs,i+1,h=>⟨h.1,h.2.1,Pnd.mod hf i h.2.2⟩
 | _,[],_ :: _,_,h=>h.elim
 | _,_ :: _,[],_,h=>h.elim
section
variable {prog:Program}{w:World}{A:Around}{E:Value->Shared->Prop}{s:Shared}{a₀:Array Keyed}{rk:Keyed->Int}
structure Rns (rk:Keyed->Int)(a₀:Array Keyed)(rs:List (List Keyed))(zl:List Keyed)(st:SortSt):Prop where
 b:SoB a₀ st
 e:(arrOf st).toList=rs.flatten ++ zl
 ne:∀ r ∈ rs,0<r.length
 so:∀ r ∈ rs,r.Pairwise (LEr rk)
 bel:rs.Pairwise fun X Y=>∀ x ∈ X,∀ y ∈ Y,rk x<=rk y
 be:∀ x ∈ rs.flatten,∀ y ∈ zl,rk x<=rk y
 pn:Pnd 0 (pendingOf st).toList rs
theorem Wc {rs:List (List Keyed)}{i:Nat}(h:i+1<rs.length):rs=rs.take i ++ rs[i] :: rs[i+1] :: rs.drop (i+2):=by
 rw [List.getElem_cons_drop,List.getElem_cons_drop,List.take_append_drop]
theorem Rns.merge {rs:List (List Keyed)}{zl:List Keyed}{st:SortSt}{i:Nat}{Q:Bool->SortSt->Prop}(h0:wQ a₀)(J:Rns rk a₀ rs zl st)(hi:i+1<rs.length)(h:∀ rs' st',rs'.length+1=rs.length->rs'.flatten.length=rs.flatten.length->Rns rk a₀ rs' zl st'->Q true st'):wpS (model prog w) A E s (mergeAt' i) Q st:=by
 have sp:=Wc hi
 have hx:rs[i]?=some rs[i]:=List.getElem?_eq_getElem _
 have hy:rs[i+1]?=some rs[i+1]:=List.getElem?_eq_getElem _
 have mx:rs[i] ∈ rs:=List.getElem_mem _
 have my:rs[i+1] ∈ rs:=List.getElem_mem _
 obtain ⟨pw,pw',p1,p2,p3⟩:=Pnd.at i J.pn hx hy
 have fl:rs.flatten=(rs.take i).flatten ++ (rs[i] ++ (rs[i+1] ++ (rs.drop (i+2)).flatten)):=by
  conv=>lhs;rw [sp]
  rw [List.flatten_append,List.flatten_cons,List.flatten_cons]
 have bl:=J.bel
 rw [sp] at bl
 obtain ⟨b1,b2,b3⟩:=List.pairwise_append.mp bl
 obtain ⟨b4,b5⟩:=List.pairwise_cons.mp b2
 obtain ⟨b6,b7⟩:=List.pairwise_cons.mp b5
 generalize rs[i]=X at *
 generalize rs[i+1]=Y at *
 refine wu (rk:=rk) (P:=(rs.take i).flatten) (X:=X) (Y:=Y) (R:=(rs.drop (i+2)).flatten ++ zl) (pw:=pw) (pw':=pw') J.b.kind J.b.failed (J.b.ints h0) ?_ ⟨J.so _ mx,J.so _ my,b4 _ (List.mem_cons_self ..),?_,?_⟩ (J.ne _ mx) (J.ne _ my) ?_ ?_ fun m g xs hm hxs=>?_
 ·rw [J.e,fl];simp only [List.append_assoc]
 ·exact fun x hx'=>J.b.ints h0 x (by rw [J.e];exact List.mem_append_left _ (List.mem_flatten.mpr ⟨X,mx,hx'⟩))
 ·exact fun x hx'=>J.b.ints h0 x (by rw [J.e];exact List.mem_append_left _ (List.mem_flatten.mpr ⟨Y,my,hx'⟩))
 ·rw [<- Array.getElem?_toList,p1,Nat.zero_add]
 ·rw [<- Array.getElem?_toList,p2,Nat.zero_add]
 ·have ml:m.length=X.length+Y.length:=by rw [hm.1.length_eq,List.length_append]
  have mm:∀ x ∈ m,x ∈ X \/ x ∈ Y:=fun x hx'=>List.mem_append.mp (hm.1.mem_iff.mp hx')
  have fl':(rs.take i ++ m :: rs.drop (i+2)).flatten=(rs.take i).flatten ++ (m ++ (rs.drop (i+2)).flatten):=by rw [List.flatten_append,List.flatten_cons]
  have pf:(rs.take i ++ m :: rs.drop (i+2)).flatten.Perm rs.flatten:=by
   rw [fl,fl',<- List.append_assoc X]
   exact List.Perm.append_left _ (hm.1.append_right _)
  have inr:∀ r ∈ rs.take i ++ m :: rs.drop (i+2),r=m \/ r ∈ rs:=fun r hr=>by
   rcases List.mem_append.mp hr with hr | hr
   ·exact .inr (List.mem_of_mem_take hr)
   ·rcases List.mem_cons.mp hr with hr | hr
    ·exact .inl hr
    ·exact .inr (List.mem_of_mem_drop hr)
  refine h (rs.take i ++ m :: rs.drop (i+2)) _ ?_ pf.length_eq ⟨⟨?_,J.b.kind,J.b.failed⟩,?_,fun r hr=>?_,fun r hr=>?_,?_,fun x hx' y hy'=>J.be x (pf.mem_iff.mp hx') y hy',?_⟩
  ·rw [List.length_append,List.length_cons,List.length_take,List.length_drop];omega
  ·refine Array.perm_iff_toList_perm.mpr (List.Perm.trans ?_ (Array.perm_iff_toList_perm.mp J.b.perm))
   show xs.toList.Perm _
   rw [hxs,J.e,fl]
   simp only [List.append_assoc]
   rw [<- List.append_assoc X]
   exact List.Perm.append_left _ (hm.1.append_right _)
  ·show xs.toList=_
   rw [hxs,fl'];simp only [List.append_assoc]
  ·rcases inr r hr with rfl | hr
   ·rw [ml];have:=J.ne _ mx;omega
   ·exact J.ne r hr
  ·rcases inr r hr with rfl | hr
   ·exact hm.2
   ·exact J.so r hr
  ·refine List.pairwise_append.mpr ⟨b1,List.pairwise_cons.mpr ⟨fun r hr x hx' y hy'=>?_,b7⟩,fun r hr r' hr' x hx' y hy'=>?_⟩
   ·rcases mm x hx' with hx' | hx'
    ·exact b4 r (List.mem_cons_of_mem _ hr) x hx' y hy'
    ·exact b6 r hr x hx' y hy'
   ·rcases List.mem_cons.mp hr' with rfl | hr'
    ·rcases mm y hy' with hy' | hy'
     ·exact b3 r hr X (List.mem_cons_self ..) x hx' y hy'
     ·exact b3 r hr Y (List.mem_cons_of_mem _ (List.mem_cons_self ..)) x hx' y hy'
    ·exact b3 r hr r' (List.mem_cons_of_mem _ (List.mem_cons_of_mem _ hr')) x hx' y hy'
  ·have:=p3 m ml
   rw [Nat.zero_add] at this
   show Pnd 0 (((pendingOf st).setIfInBounds i _).eraseIdxIfInBounds (i+1)).toList _
   rw [Array.toList_eraseIdxIfInBounds,Array.toList_setIfInBounds]
   exact this
end
end L2
namespace L2
open PySem PyProof.Rows
section
variable {prog:Program}{w:World}{A:Around}{E:Value->Shared->Prop}{s:Shared}{a₀:Array Keyed}{rk:Keyed->Int}
theorem yy {xs:Array Keyed}{i:Nat}{x:Keyed}(h:xs.toList[i]?=some x):gK xs i=x:=by
 unfold gK
 rw [<- Array.getElem?_toList,h];rfl
theorem Vk {l:List Keyed}{R:Keyed->Keyed->Prop}(h:∀ (i j:Nat) (x y:Keyed),i<j->l[i]?=some x->l[j]?=some y->R x y):l.Pairwise R:=by
 rw [List.pairwise_iff_getElem]
 intro i j hi hj hij
 exact h i j _ _ hij (List.getElem?_eq_getElem hi) (List.getElem?_eq_getElem hj)
theorem Rns.run {rs:List (List Keyed)}{zl:List Keyed}{st:SortSt}(J:Rns rk a₀ rs zl st){xs:Array Keyed}{n:Nat}(hn:1<=n)(hn2:n<=zl.length)(g:Sg (arrOf st) xs rs.flatten.length (rs.flatten.length+n))(hs:Srt rk xs rs.flatten.length (rs.flatten.length+n)) :
  ∃ r,r.length=n/\r.Pairwise (LEr rk)/\r.Perm (zl.take n)/\xs.toList=rs.flatten ++ (r ++ zl.drop n):=by
 have ln:(arrOf st).toList.length=rs.flatten.length+zl.length:=by rw [J.e,List.length_append]
 have lx:xs.toList.length=rs.flatten.length+zl.length:=by rw [Array.length_toList,g.size,<- Array.length_toList,ln]
 have out:∀ i,i<rs.flatten.length \/ rs.flatten.length+n<=i->xs.toList[i]?=(arrOf st).toList[i]?:=fun i c=>by rw [Array.getElem?_toList,Array.getElem?_toList];exact g.out i c
 have e:xs.toList=rs.flatten ++ ((xs.toList.drop rs.flatten.length).take n ++ zl.drop n):=by
  refine List.ext_getElem? fun i=>?_
  by_cases c1:i<rs.flatten.length
  ·rw [out i (.inl c1),J.e,List.getElem?_append_left c1,List.getElem?_append_left c1]
  ·rw [List.getElem?_append_right (by omega)]
   by_cases c2:i<rs.flatten.length+n
   ·rw [List.getElem?_append_left (by rw [List.length_take,List.length_drop];omega),List.getElem?_take_of_lt (by omega),List.getElem?_drop];congr 1;omega
   ·rw [out i (.inr (by omega)),J.e,List.getElem?_append_right (by omega),List.getElem?_append_right (by rw [List.length_take,List.length_drop];omega),List.getElem?_drop,List.length_take,List.length_drop];congr 1;omega
 refine ⟨(xs.toList.drop rs.flatten.length).take n,by rw [List.length_take,List.length_drop];omega,Vk fun i j x y hij hx hy=>?_,?_,e⟩
 ·have hj:j<n:=by have:=(List.getElem?_eq_some_iff.mp hy).1;rw [List.length_take] at this;omega
  rw [List.getElem?_take_of_lt (by omega),List.getElem?_drop] at hx hy
  have:=hs (rs.flatten.length+i) (rs.flatten.length+j) (by omega) (by omega) (by omega)
  rwa [yy hx,yy hy] at this
 ·have p:=Array.perm_iff_toList_perm.mp g.perm
  rw [e,J.e] at p
  have p:=(List.perm_append_left_iff _).mp p
  have p2:((xs.toList.drop rs.flatten.length).take n ++ zl.drop n).Perm (zl.take n ++ zl.drop n):=by rw [List.take_append_drop];exact p
  exact (List.perm_append_right_iff _).mp p2
theorem Rns.asc {rs:List (List Keyed)}{zl:List Keyed}{st:SortSt}(J:Rns rk a₀ rs zl st)(re:zl.Pairwise fun x y=>rk x<=rk y):Asc rk (arrOf st) rs.flatten.length:=fun i j h1 h2 h3=>by
 have ln:(arrOf st).toList.length=rs.flatten.length+zl.length:=by rw [J.e,List.length_append]
 rw [Array.length_toList] at ln
 have g:∀ k,rs.flatten.length<=k->k<(arrOf st).size->∃ x,zl[k - rs.flatten.length]?=some x/\gK (arrOf st) k=x:=fun k k1 k2=>by
  refine ⟨_,List.getElem?_eq_getElem (by omega),yy ?_⟩
  rw [J.e,List.getElem?_append_right k1,List.getElem?_eq_getElem]
 obtain ⟨x,x1,x2⟩:=g i h1 (by omega)
 obtain ⟨y,y1,y2⟩:=g j (by omega) h3
 rw [x2,y2]
 by_cases c:i=j
 ·subst c;rw [x1] at y1;cases y1;exact Int.le_refl _
 ·obtain ⟨a1,a2⟩:=List.getElem?_eq_some_iff.mp x1
  obtain ⟨b1,b2⟩:=List.getElem?_eq_some_iff.mp y1
  have:=List.pairwise_iff_getElem.mp re _ _ a1 b1 (by omega)
  rwa [a2,b2] at this
theorem Rns.size {rs:List (List Keyed)}{zl:List Keyed}{st:SortSt}(J:Rns rk a₀ rs zl st):rs.flatten.length+zl.length=a₀.size:=by
 rw [<- J.b.size,<- Array.length_toList,J.e,List.length_append]
theorem Rns.psize {rs:List (List Keyed)}{zl:List Keyed}{st:SortSt}(J:Rns rk a₀ rs zl st):(pendingOf st).size=rs.length:=by
 rw [<- Array.length_toList,J.pn.len]
theorem Rns.with {rs:List (List Keyed)}{zl r:List Keyed}{st:SortSt}{xs:Array Keyed}{n:Nat}(J:Rns rk a₀ rs zl st)(hp:r.Perm (zl.take n))(e:xs.toList=rs.flatten ++ (r ++ zl.drop n)):Rns rk a₀ rs (r ++ zl.drop n) (setArr st xs):=by
 have pr:(r ++ zl.drop n).Perm zl:=by
  refine (hp.append_right _).trans ?_
  rw [List.take_append_drop]
 refine ⟨⟨?_,J.b.kind,J.b.failed⟩,e,J.ne,J.so,J.bel,fun x hx y hy=>J.be x hx y (pr.mem_iff.mp hy),J.pn⟩
 refine Array.perm_iff_toList_perm.mpr (List.Perm.trans ?_ (Array.perm_iff_toList_perm.mp J.b.perm))
 show xs.toList.Perm _
 rw [e,J.e]
 exact List.Perm.append_left _ pr
theorem Rns.push {rs:List (List Keyed)}{zl r:List Keyed}{st:SortSt}(J:Rns rk a₀ rs (r ++ zl) st)(h1:0<r.length)(h2:r.Pairwise (LEr rk))(h3:∀ x ∈ r,∀ y ∈ zl,rk x<=rk y):Rns rk a₀ (rs ++ [r]) zl (setPending st ((pendingOf st).push (rs.flatten.length,r.length,0))):=by
 have fl:(rs ++ [r]).flatten=rs.flatten ++ r:=by rw [List.flatten_append,List.flatten_cons,List.flatten_nil,List.append_nil]
 refine ⟨⟨J.b.perm,J.b.kind,J.b.failed⟩,by rw [fl,List.append_assoc];exact J.e,fun q hq=>?_,fun q hq=>?_,List.pairwise_append.mpr ⟨J.bel,List.pairwise_singleton _ _,fun q hq q' hq' x hx y hy=>?_⟩,fun x hx y hy=>?_,?_⟩
 ·rcases List.mem_append.mp hq with hq | hq
  ·exact J.ne q hq
  ·rw [List.mem_singleton.mp hq];exact h1
 ·rcases List.mem_append.mp hq with hq | hq
  ·exact J.so q hq
  ·rw [List.mem_singleton.mp hq];exact h2
 ·rw [List.mem_singleton.mp hq'] at hy
  exact J.be x (List.mem_flatten.mpr ⟨q,hq,hx⟩) y (List.mem_append_left _ hy)
 ·rw [fl] at hx
  rcases List.mem_append.mp hx with hx | hx
  ·exact J.be x hx y (List.mem_append_right _ hy)
  ·exact h3 x hx y hy
 ·show Pnd 0 ((pendingOf st).push _).toList _
  rw [Array.toList_push]
  have:=J.pn.snoc (r:=r) (pw:=0)
  rwa [Nat.zero_add] at this
theorem Rns.power {rs:List (List Keyed)}{zl:List Keyed}{st:SortSt}{f:Nat × Nat × Nat->Nat × Nat × Nat}{i:Nat}(hf:∀ p,(f p).1=p.1/\(f p).2.1=p.2.1)(J:Rns rk a₀ rs zl st):Rns rk a₀ rs zl (setPending st ((pendingOf st).modify i f)):=
 ⟨⟨J.b.perm,J.b.kind,J.b.failed⟩,J.e,J.ne,J.so,J.bel,J.be,by
  show Pnd 0 ((pendingOf st).modify i f).toList rs
  rw [Array.toList_modify];exact J.pn.mod hf i⟩
theorem Rns.end {rs:List (List Keyed)}{st:SortSt}(J:Rns rk a₀ rs [] st)(h:rs.length<=1):(arrOf st).toList.Pairwise (LEr rk):=by
 rw [J.e,List.append_nil]
 match rs,h,J with
 | [],_,_=>exact List.Pairwise.nil
 | [r],_,J=>rw [List.flatten_cons,List.flatten_nil,List.append_nil];exact J.so r (List.mem_singleton.mpr rfl)
theorem Kq:∀ {rs:List (List Keyed)},(∀ r ∈ rs,0<r.length)->rs.length<=rs.flatten.length
 | [],_=>Nat.le_refl _
 | r :: rs,h=>by
  have:=Kq (rs:=rs) fun q hq=>h q (List.mem_cons_of_mem _ hq)
  have:=h r (List.mem_cons_self ..)
  rw [List.flatten_cons,List.length_append,List.length_cons];omega
end
end L2
namespace L2
open PySem PyProof.Rows
section
variable {prog:Program}{w:World}{A:Around}{E:Value->Shared->Prop}{s:Shared}{a₀:Array Keyed}{rk:Keyed->Int}
theorem XE {c:Prop}[Decidable c]{n:Nat}:(if c then n - 1 else n)<=n:=by split <;> omega
theorem vA {st:SortSt}{Q:Unit->SortSt->Prop}(h0:wQ a₀)(hB:SoB a₀ st)(hp:pendingOf st=#[])(hr:(arrOf st).toList.Pairwise fun x y=>rk x<=rk y)(h:∀ st',SoB a₀ st'->(arrOf st').toList.Pairwise (LEr rk)->Q () st'):wpS (model prog w) A E s sortRuns' Q st:=by
 rw [sortRuns'_eq]
 refine wpS_bind (wpS_get ?_)
 dsimp only
 have J0:Rns rk a₀ [] (arrOf st).toList st:=⟨hB,rfl,fun r hr=>(nomatch hr),fun r hr=>(nomatch hr),List.Pairwise.nil,fun x hx=>(nomatch hx),by rw [hp];trivial⟩
 have sz:=hB.size
 rw [sz]
 refine wpS_bind (wpS_mono (wpS_forRange (I:=fun t c st'=>∃ rs zl,c=(none,rs.flatten.length)/\Rns rk a₀ rs zl st'/\zl.Pairwise (fun x y=>rk x<=rk y)/\(t<=rs.flatten.length \/ zl=[]))
  (Q:=fun c st'=>∃ rs,c=(none,rs.flatten.length)/\Rns rk a₀ rs [] st') ?_ ?_ ⟨[],_,rfl,J0,hr,.inl (Nat.zero_le _)⟩) ?_)
 ·rintro t c st' _ ht ⟨rs,zl,rfl,J,re,hc⟩
  have js:=J.size
  dsimp only
  by_cases c1:rs.flatten.length ≥ a₀.size
  ·rw [if_pos c1]
   have:zl=[]:=List.length_eq_zero_iff.mp (by omega)
   subst this
   exact wpS_pure ⟨rs,rfl,J⟩
  rw [if_neg c1]
  refine wpS_bind (JV (rk:=rk) h0 J.b (by omega) (by omega) (J.asc re) fun m xs m1 m2 g hs=>?_)
  dsimp only
  refine zK (fun c2=>?_) fun c2=>?_
  ·refine wpS_bind (qV ?_)
   generalize hN:min (a₀.size - rs.flatten.length) (minRun' a₀.size a₀.size 0)=n
   have hn1:1<=n:=by omega
   have hn2:n<=zl.length:=by omega
   have A1:=J.asc re
   have xz:xs.size=a₀.size:=g.size.trans J.b.size
   refine wpS_bind (QM (rk:=rk) h0 (J.b.set g.perm) (by omega) m1 (by omega) (fun i j i1 i2 i3 i4=>?_) hs fun ys g2 hs2=>?_)
   ·show rk (gK xs i)<=rk (gK xs j)
    by_cases c3:i<rs.flatten.length+m
    ·exact g.rkk A1 i1 c3 i3 (by rw [J.b.size];exact i4)
    ·rw [jw (g.out i (.inr (by omega))),jw (g.out j (.inr (by omega)))]
     exact A1 i j i1 (by omega) (by rw [J.b.size];exact i4)
   have g:=(g.mono (Nat.le_refl _) (show rs.flatten.length+m<=rs.flatten.length+n by omega)).trans g2
   clear hs g2
   have hs:=hs2
   show wpS _ _ _ _ _ _ (setArr st' ys)
   rw [if_neg (by decide)]
   generalize ys=xs at *
   obtain ⟨r,r1,r2,r3,r4⟩:=J.run hn1 hn2 g hs
   have J1:=J.with r3 r4
   have r5:∀ x ∈ r,∀ y ∈ zl.drop n,rk x<=rk y:=fun x hx y hy=>by
    have:=re
    rw [<- List.take_append_drop n zl] at this
    exact (List.pairwise_append.mp this).2.2 x (r3.mem_iff.mp hx) y hy
   have re':(zl.drop n).Pairwise fun x y=>rk x<=rk y:=re.sublist (List.drop_sublist _ _)
   have fin:∀ rs' st2,Rns rk a₀ rs' (r ++ zl.drop n) st2->rs'.flatten.length=rs.flatten.length->∃ rs2 rest2,((none,rs.flatten.length+n):Option Unit × Nat)=(none,rs2.flatten.length)/\Rns rk a₀ rs2 rest2 (setPending st2 ((pendingOf st2).push (rs.flatten.length,n,0)))/\rest2.Pairwise (fun x y=>rk x<=rk y)/\(t+1<=rs2.flatten.length \/ rest2=[]):=fun rs' st2 J' hl=>by
    have J2:=J'.push (by omega) r2 r5
    rw [hl,r1] at J2
    have fl:(rs' ++ [r]).flatten.length=rs.flatten.length+n:=by rw [List.flatten_append,List.flatten_cons,List.flatten_nil,List.append_nil,List.length_append,hl,r1]
    refine ⟨rs' ++ [r],zl.drop n,by rw [fl],J2,re',?_⟩
    rw [fl]
    rcases hc with hc | hc
    ·exact .inl (by omega)
    ·rw [hc,List.length_nil] at hn2;omega
   refine wpS_bind (wpS_get ?_)
   cases hb:(pendingOf (setArr st' xs)).back? with
   | none=>exact wpS_bind (wpS_modify (wpS_pure (fin rs _ J1 rfl)))
   | some p=>
    obtain ⟨s1,n1,p1⟩:=p
    dsimp only
    refine wpS_bind (wpS_mono (wpS_forRange (I:=fun _ c st2=>c=(none,())/\∃ rs',Rns rk a₀ rs' (r ++ zl.drop n) st2/\rs'.flatten.length=rs.flatten.length) (Q:=fun c st2=>c=(none,())/\∃ rs',Rns rk a₀ rs' (r ++ zl.drop n) st2/\rs'.flatten.length=rs.flatten.length) ?_ (fun _ _ hh=>hh) ⟨rfl,rs,J1,rfl⟩) ?_)
    ·rintro u c st2 _ _ ⟨rfl,rs',J',hl⟩
     refine wpS_bind (wpS_get ?_)
     have ps:=J'.psize
     by_cases c5:(pendingOf st2).size > 1
     ·rw [if_pos c5]
      cases hq:(pendingOf st2)[(pendingOf st2).size - 2]? with
      | none=>exact wpS_pure ⟨rfl,rs',J',hl⟩
      | some q=>
       dsimp only
       refine zK (fun _=>wpS_pure ⟨rfl,rs',J',hl⟩) fun _=>?_
       refine wpS_bind (J'.merge h0 (by omega) fun rs2 st3 l2 f2 J2=>?_)
       rw [if_neg (by decide)]
       exact wpS_pure ⟨rfl,rs2,J2,by omega⟩
     ·rw [if_neg c5]
      exact wpS_pure ⟨rfl,rs',J',hl⟩
    ·rintro c st2 ⟨rfl,rs',J',hl⟩
     dsimp only
     refine wpS_bind (wpS_modify (wpS_bind (wpS_modify (wpS_pure ?_))))
     exact fin rs' _ (J'.power (fun _=>⟨rfl,rfl⟩)) hl
  ·have hn1:=m1
   have hn2:m<=zl.length:=by omega
   generalize m=n at *
   obtain ⟨r,r1,r2,r3,r4⟩:=J.run hn1 hn2 g hs
   have J1:=J.with r3 r4
   have r5:∀ x ∈ r,∀ y ∈ zl.drop n,rk x<=rk y:=fun x hx y hy=>by
    have:=re
    rw [<- List.take_append_drop n zl] at this
    exact (List.pairwise_append.mp this).2.2 x (r3.mem_iff.mp hx) y hy
   have re':(zl.drop n).Pairwise fun x y=>rk x<=rk y:=re.sublist (List.drop_sublist _ _)
   have fin:∀ rs' st2,Rns rk a₀ rs' (r ++ zl.drop n) st2->rs'.flatten.length=rs.flatten.length->∃ rs2 rest2,((none,rs.flatten.length+n):Option Unit × Nat)=(none,rs2.flatten.length)/\Rns rk a₀ rs2 rest2 (setPending st2 ((pendingOf st2).push (rs.flatten.length,n,0)))/\rest2.Pairwise (fun x y=>rk x<=rk y)/\(t+1<=rs2.flatten.length \/ rest2=[]):=fun rs' st2 J' hl=>by
    have J2:=J'.push (by omega) r2 r5
    rw [hl,r1] at J2
    have fl:(rs' ++ [r]).flatten.length=rs.flatten.length+n:=by rw [List.flatten_append,List.flatten_cons,List.flatten_nil,List.append_nil,List.length_append,hl,r1]
    refine ⟨rs' ++ [r],zl.drop n,by rw [fl],J2,re',?_⟩
    rw [fl]
    rcases hc with hc | hc
    ·exact .inl (by omega)
    ·rw [hc,List.length_nil] at hn2;omega
   refine wpS_bind (wpS_get ?_)
   cases hb:(pendingOf (setArr st' xs)).back? with
   | none=>exact wpS_bind (wpS_modify (wpS_pure (fin rs _ J1 rfl)))
   | some p=>
    obtain ⟨s1,n1,p1⟩:=p
    dsimp only
    refine wpS_bind (wpS_mono (wpS_forRange (I:=fun _ c st2=>c=(none,())/\∃ rs',Rns rk a₀ rs' (r ++ zl.drop n) st2/\rs'.flatten.length=rs.flatten.length) (Q:=fun c st2=>c=(none,())/\∃ rs',Rns rk a₀ rs' (r ++ zl.drop n) st2/\rs'.flatten.length=rs.flatten.length) ?_ (fun _ _ hh=>hh) ⟨rfl,rs,J1,rfl⟩) ?_)
    ·rintro u c st2 _ _ ⟨rfl,rs',J',hl⟩
     refine wpS_bind (wpS_get ?_)
     have ps:=J'.psize
     by_cases c5:(pendingOf st2).size > 1
     ·rw [if_pos c5]
      cases hq:(pendingOf st2)[(pendingOf st2).size - 2]? with
      | none=>exact wpS_pure ⟨rfl,rs',J',hl⟩
      | some q=>
       dsimp only
       refine zK (fun _=>wpS_pure ⟨rfl,rs',J',hl⟩) fun _=>?_
       refine wpS_bind (J'.merge h0 (by omega) fun rs2 st3 l2 f2 J2=>?_)
       rw [if_neg (by decide)]
       exact wpS_pure ⟨rfl,rs2,J2,by omega⟩
     ·rw [if_neg c5]
      exact wpS_pure ⟨rfl,rs',J',hl⟩
    ·rintro c st2 ⟨rfl,rs',J',hl⟩
     dsimp only
     refine wpS_bind (wpS_modify (wpS_bind (wpS_modify (wpS_pure ?_))))
     exact fin rs' _ (J'.power (fun _=>⟨rfl,rfl⟩)) hl
 ·rintro c st' ⟨rs,zl,rfl,J,re,hc⟩
  have js:=J.size
  rw [Nat.max_eq_right (Nat.zero_le _)] at hc
  have:zl=[]:=by
   rcases hc with hc | hc
   ·exact List.length_eq_zero_iff.mp (by omega)
   ·exact hc
  subst this
  exact ⟨rs,rfl,J⟩
 rintro c st' ⟨rs,rfl,J⟩
 have js:=J.size
 have jl:=Kq J.ne
 rw [List.length_nil] at js
 dsimp only
 refine wpS_bind (wpS_mono (wpS_forRange (I:=fun t c st2=>c=(none,())/\∃ rs',Rns rk a₀ rs' [] st2/\(rs'.length+t<=a₀.size \/ rs'.length<=1)) (Q:=fun c st2=>c=(none,())/\∃ rs',Rns rk a₀ rs' [] st2/\rs'.length<=1) ?_ ?_ ⟨rfl,rs,J,.inl (by omega)⟩) ?_)
 ·rintro t c st2 _ ht ⟨rfl,rs',J',hl⟩
  refine wpS_bind (wpS_get ?_)
  have ps:=J'.psize
  by_cases c1:(pendingOf st2).size<=1
  ·rw [if_pos c1];exact wpS_pure ⟨rfl,rs',J',by omega⟩
  rw [if_neg c1]
  refine wpS_bind (J'.merge h0 ?_ fun rs2 st3 l2 f2 J2=>?_)
  ·exact Nat.lt_of_le_of_lt (Nat.add_le_add_right XE 1) (by omega)
  ·rw [if_neg (by decide)]
   exact wpS_pure ⟨rfl,rs2,J2,by omega⟩
 ·rintro c st2 ⟨rfl,rs',J',hl⟩
  exact ⟨rfl,rs',J',by omega⟩
 ·rintro c st2 ⟨rfl,rs',J',hl⟩
  exact wpS_pure (h st2 J'.b (J'.end hl))
end
end L2
namespace L2
open PySem PyProof.Rows
section
variable {prog:Program}{w:World}{A:Around}{E:Value->Shared->Prop}{s:Shared}
theorem yK:100000<sizeLine:=by rw [sizeLine_eq];decide
theorem BA {xs:Array Keyed}{n:Nat}{rk:Keyed->Int}(hn:n<=xs.size)(h:xs.toList.Pairwise (LEr rk)):SortedTo xs n:=fun i j hij hj=>by
 have e:∀ k,k<xs.size->K xs k=kn (xs.toList[k]?.getD (.none,.none)):=fun k hk=>by
  unfold K kn
  rw [Array.getElem?_toList,Array.getElem?_eq_getElem hk];rfl
 rw [e i (by omega),e j (by omega)]
 exact xI h hij (by rw [Array.length_toList];omega)
theorem vO {a:Addr}{vs:List Value}{ns:List Int}{n:Nat}{P:Fin->Shared->Prop}(ho:s.heap.get? a=some (seqObj "list" vs.toArray n))(hI:IntsAre vs ns)(hz:vs.length<=100000)
  (h:∀ (out:Array Value) (ns':List Int),IntsAre out.toList ns'->ns'.Perm ns->ns'.Pairwise (·<=·)->P (.done (.ret .none)) { s with heap:=sortedHeap s.heap a vs out }):wpAny (model prog w) A (Builtin.«list.sort» ⟨[.ref a],[]⟩) P E s:=by
 by_cases h64:vs.length<64
 ·exact list_sort_tree ho hI h64 h
 have sl:=yK
 obtain ⟨v1,v2,vr,ev⟩:∃ v1 v2 vr,vs=v1 :: v2 :: vr:=by
  match vs,h64 with
  | [],q=>exact absurd (by simp) q
  | [_],q=>exact absurd (by simp) q
  | x :: y :: z,_=>exact ⟨x,y,z,rfl⟩
 have az:a<s.heap.objs.size:=Heap.lt_size ho
 obtain ⟨e1,g1⟩:∃ e1,(s.heap.update a (Obj.mapSeq fun _=>#[])).get? a=some (seqObj "list" #[] e1):=⟨_,get?_update_seq ho fun _=>#[]⟩
 have g3:(((s.heap.update a (Obj.mapSeq fun _=>#[])).push (seqObj "tuple" vs.toArray 0)).push (seqObj "list" #[] 0)).get? a=some (seqObj "list" #[] e1):=by
  refine (Heap.get?_push_ne _ _ _ ?_).trans ((Heap.get?_push_ne _ _ _ ?_).trans g1)
  ·rw [size_push',Heap.size_update];exact Nat.ne_of_lt (Nat.lt_succ_of_lt az)
  ·rw [Heap.size_update];exact Nat.ne_of_lt az
 have vz:vs.toArray.size=vs.length:=List.size_toArray
 rw [list_sort_plain]
 refine wpAny_bind (listItems_at ho rfl (wpAny_bind (listUpdate_at ho rfl (wpAny_bind (seqEpoch_at g1 rfl ?_)) (by omega) (by show 0<=_;omega))))
 refine wpAny_bind (wpAny_newTuple (wpAny_bind (wpAny_newList (wpAny_holding ?_) (by show 0<=_;omega))) (by show vs.length<=_;omega))
 show wpAny (model prog w) A _ P E { s with heap:=((s.heap.update a (Obj.mapSeq fun _=>#[])).push (seqObj "tuple" vs.toArray 0)).push (seqObj "list" #[] 0) }
 dsimp only
 have two:¬ vs.toArray.size<2:=by omega
 rw [if_neg two,if_neg two]
 have kk:keyKind' vs.toArray=pure oneType':=by rw [ev];rw [ev] at hI;exact keyKind_ints hI
 rw [kk]
 refine wpAny_bind (wpAny_pure (wpAny_bind (wpAny_mono (vA (rk:=fun _=>0) (a₀:=pairsOf vs) (st:=SortSt.mk' oneType' (vs.toArray.zip vs.toArray) #[] 7 none)
  (Q:=fun _ st'=>SoB (pairsOf vs) st'/\(arrOf st').toList.Pairwise (LEr fun _=>0)) hI.intKeys ⟨Array.Perm.refl _,rfl,rfl⟩ rfl (Vk fun _ _ _ _ _ _ _=>Int.le_refl _) fun st' b p=>⟨b,p⟩) ?_ fun _ _ e=>e)))
 rintro ⟨⟨⟩,st'⟩ s' ⟨rfl,hB,hp⟩
 have sz:(arrOf st').size=vs.length:=hB.size.trans (pairsOf_size vs)
 refine wpAny_bind (seqEpoch_at g3 rfl (wpAny_bind (listUpdate_at g3 rfl ?_ (by show 0<=_;omega) (by show ((arrOf st').map _).size<=_;rw [Array.size_map,sz];omega))))
 rw [hB.failed]
 dsimp only
 rw [bne_self_eq_false,if_neg (by decide)]
 obtain ⟨ns',a1,a2,a3⟩:=sorted_out hI hB.perm (BA (by rw [hB.size];exact Nat.le_refl _) hp)
 exact wpAny_pure (h _ ns' a1 a2 a3)
end
section
variable {prog:Program}{w:World}{A:Around}{E:Value->Shared->Prop}{s:Shared}
noncomputable def Y5 (h:Heap)(vs:List Value):Heap:=(h.push (seqObj "list" #[] 0)).update h.objs.size (Obj.mapSeq (· ++ vs.toArray))
theorem xA {l:Addr}{vs:List Value}{ns:List Int}{Q:Value->Shared->Prop}(hc:∀ (A':Around) (R:List Value->Shared->Prop),R vs { s with heap:=Y5 s.heap vs }->wpAny (model prog w) A' (collect (.ref l)) R E s)(hI:IntsAre vs ns)(hz:vs.length<=100000)
  (h:∀ (out:Array Value) (ns':List Int),IntsAre out.toList ns'->ns'.Perm ns->ns'.Pairwise (·<=·)->Q (.ref (s.heap.objs.size+1)) { s with heap:=sortedAll s.heap vs out }):wpAny (model prog w) A (call (.builtin "sorted") [.ref l]) Q E s:=by
 have sl:=yK
 have gz:(Y5 s.heap vs).objs.size=s.heap.objs.size+1:=(Heap.size_update ..).trans (size_push' _ _)
 have at1:((Y5 s.heap vs).push (seqObj "list" vs.toArray 0)).get? (s.heap.objs.size+1)=some (seqObj "list" vs.toArray 0):=by rw [<- gz];exact Heap.get?_push_size _ rfl
 refine Calls.call_function_entry kind_sorted plain_sorted entry_sorted (args_sorted1 _) ?_
 unfold Builtin.«sorted»
 refine wpAny_bind (m:=checkCount "sorted" 1 1 _) (wpAny_pure (wpAny_bind (hc _ _ (wpAny_bind (wpAny_newList ?_ (by show vs.length<=_;omega))))))
 show wpAny _ _ _ _ _ { s with heap:=(Y5 s.heap vs).push (seqObj "list" vs.toArray 0) }
 rw [gz]
 exact wpAny_bind (wpAny_holding (wpAny_call_entry slot_list_sort ⟨_,at1,rfl⟩ entry_list_sort (vO at1 hI hz fun out ns' a1 a2 a3=>⟨_,rfl,wpAny_pure ⟨_,rfl,h out ns' a1 a2 a3⟩⟩) (args_list_sort _)))
end
section
variable {X:Cx}
theorem yH:qq X (.builtin "sorted") (fun xs H Q=>∃ p ns,xs=[.ref p]/\SqL X.K H p (List.map V.int ns)/\ns.length<=1000/\∀ l ns',H l=none->ns'.Perm ns->ns'.Pairwise (·<=·)->Q (.ref l) (upd H l (.lst (List.map V.int ns')))):=by
 rintro pins s σ H xs us Q I r ⟨p,ns,rfl,hq,h64,q⟩
 obtain ⟨u,rfl,rx⟩:=ji r
 cases rx
 obtain ⟨its,rv,pl,hz⟩:=I.list hq
 have hlen:=rv.length
 rw [List.length_map] at hlen
 have sl:=yK
 refine xA (fun A' R r=>collect_list pl.isList r (by omega)) (xq rv) (by omega) fun out ns' a1 a2 a3=>?_
 obtain ⟨k,he⟩:=sortedAll_at s.heap its out
 refine ⟨.ref (s.heap.objs.size+1),_,I.laid (t':=s.toks) (fun _ _=>sortedAll_old) (Nat.le_succ _) (show zE X.prog X.w _ _ _ (.lst (List.map V.int ns')) from ⟨?_,out.toList,k,jD a1,by simpa [seqObj] using he⟩),rfl,q _ _ (I.hok.fresh (Nat.le_succ _)) a2 a3⟩
 rw [List.length_map,a2.length_eq];omega
theorem xw:qq X (.builtin "sorted") (fun xs H Q=>∃ p ns,xs=[.ref p]/\SqT X.K H p (List.map V.int ns)/\ns.length<=1000/\∀ l ns',H l=none->ns'.Perm ns->ns'.Pairwise (·<=·)->Q (.ref l) (upd H l (.lst (List.map V.int ns')))):=by
 rintro pins s σ H xs us Q I r ⟨p,ns,rfl,hq,h64,q⟩
 obtain ⟨u,rfl,rx⟩:=ji r
 cases rx
 obtain ⟨its,rv,pl,hz⟩:=I.tuple hq
 have hlen:=rv.length
 rw [List.length_map] at hlen
 have sl:=yK
 refine xA (fun A' R r=>vi pl r (by omega)) (xq rv) (by omega) fun out ns' a1 a2 a3=>?_
 obtain ⟨k,he⟩:=sortedAll_at s.heap its out
 refine ⟨.ref (s.heap.objs.size+1),_,I.laid (t':=s.toks) (fun _ _=>sortedAll_old) (Nat.le_succ _) (show zE X.prog X.w _ _ _ (.lst (List.map V.int ns')) from ⟨?_,out.toList,k,jD a1,by simpa [seqObj] using he⟩),rfl,q _ _ (I.hok.fresh (Nat.le_succ _)) a2 a3⟩
 rw [List.length_map,a2.length_eq];omega
end
theorem zU {X:Cx}:qq X (.builtin "sorted") (fun xs H Q=>∃ p ns,xs=[.ref p]/\(SqL X.K H p (List.map V.int ns) \/ SqT X.K H p (List.map V.int ns))/\ns.length<=1000/\∀ l ns',H l=none->ns'.Perm ns->ns'.Pairwise (·<=·)->Q (.ref l) (upd H l (.lst (List.map V.int ns')))):=by
 rintro pins s σ H xs us Q I r ⟨p,ns,e,hq | hq,h64,q⟩
 ·exact yH _ _ _ _ _ _ _ I r ⟨p,ns,e,hq,h64,q⟩
 ·exact xw _ _ _ _ _ _ _ I r ⟨p,ns,e,hq,h64,q⟩
noncomputable def kP:List AV->MH->(List AV->Prop)->Prop:=fun xs M Q=>∃ x ns,xs=[x]/\zQ x M=some (List.map (fun i=>AV.d (.int i)) ns)/\ns.length<=1000/\∀ ns',ns'.Perm ns->List.Pairwise (fun x1 x2=>x1<=x2) ns'->Q (List.map (fun i=>AV.d (.int i)) ns')
theorem jZ {K:PySem.W.Frag}:Jr (fun xs H Q=>∃ p ns,xs=[V.ref p]/\(SqL K H p (List.map V.int ns) \/ SqT K H p (List.map V.int ns))/\ns.length<=1000/\∀ (l:Addr) (ns':List Int),H l=none->ns'.Perm ns->List.Pairwise (fun x1 x2=>x1<=x2) ns'->Q (V.ref l) (upd H l (HO.lst (List.map V.int ns')))) kP:=⟨fun w r ⟨x,ns,e,h,hl,q⟩ k=>by
 subst e
 obtain ⟨v,rfl,rv⟩:=qO r
 obtain ⟨a,xs,rfl,h1,r1⟩:=yQ w rv h
 rw [jh r1] at h1
 exact ⟨a,ns,rfl,h1.imp SqL.of SqT.of,hl,fun l ns' hp h2 h3=>k _ _ (q ns' h2 h3) (wb ns') l hp⟩⟩
theorem Zm {K:PySem.W.Frag}{u:TA}{b:AA}(h:jL u b):zx (tCB (fun xs H Q=>∃ p ns,xs=[V.ref p]/\(SqL K H p (List.map V.int ns) \/ SqT K H p (List.map V.int ns))/\ns.length<=1000/\∀ (l:Addr) (ns':List Int),H l=none->ns'.Perm ns->List.Pairwise (fun x1 x2=>x1<=x2) ns'->Q (V.ref l) (upd H l (HO.lst (List.map V.int ns')))) u) (aFz (fCB kP b)):=yi (yC jZ h)
section
variable {X:Cx}
variable {o e:Expr}{es:List Expr}{to:TE}{t:TA}{name:Str}{apos cpos:Pos}{T1 id1 T2 id2:String}{r1 r2:V->List V->Hp->VK->Prop}{K:PySem.W.Frag}
end
noncomputable def qH (prog:Program)(w:World)(A:Around)(kx vx:Expr)(gens:List Comprehension)(scope:Scope)(pos:Pos)(d:Nat)(acc:Value)(env:Env)(Q:Shared->Prop)(s:Shared):Prop:=
  match gens[d+1]? with
  | some g' => wpAny (model prog w) A (eval g'.iter env) (fun x s1 => wpAny (model prog w) A (foldedSetIterable g'.iter env x) (fun x s2 => wpAny (model prog w) A (pyIter x) (fun it s3 =>
      wpAny (model prog w) A (runOwn (Code.compStart (.DictComp kx vx gens scope pos) (d+1) it acc env) env) (fun _ s4=>Q s4) (fun _ _=>False) s3) (fun _ _=>False) s2) (fun _ _=>False) s1) (fun _ _=>False) s
  | none=>wpAny (model prog w) A (eval kx env) (fun k s1=>wpAny (model prog w) A (eval vx env) (fun v s2=>∃ d,acc=.ref d/\wpAny (model prog w) A (dictSet d k v) (fun _ s3=>Q s3) (fun _ _=>False) s2) (fun _ _=>False) s1) (fun _ _=>False) s
section
variable {prog:Program}{w:World}{A:Around}{R:Result->Shared->Prop}{s:Shared}
theorem ym {kx vx:Expr}{gens:List Comprehension}{d:Nat}{scope:Scope}{pos:Pos}{acc:Value}{env:Env}{Q Q':Shared->Prop}(h:qH prog w A kx vx gens scope pos d acc env Q s)(hq:∀ s,Q s->Q' s):qH prog w A kx vx gens scope pos d acc env Q' s:=by
 unfold qH at h ⊢
 cases e:gens[d+1]? with
 | none=>
  simp only [e] at h ⊢
  exact wpAny_mono h (fun x s₄ h₄=>wpAny_mono h₄ (fun _ s₅ ⟨d,e,h₅⟩=>⟨d,e,wpAny_mono h₅ (fun _ s₆ h₆=>hq _ h₆) fun _ _ h'=>h'⟩) fun _ _ h'=>h') fun _ _ h'=>h'
 | some g'=>
  simp only [e] at h ⊢
  exact wpAny_mono h (fun x s₄ h₄=>wpAny_mono h₄ (fun x s₅ h₅=>wpAny_mono h₅ (fun it s₆ h₆=>wpAny_mono h₆ (fun _ s₇ h₇=>hq _ h₇) fun _ _ h'=>h') fun _ _ h'=>h') fun _ _ h'=>h') fun _ _ h'=>h'
theorem ja {kx vx target iter : Expr}{ifs : List Expr}{gens : List Comprehension}{d : Nat}{scope : Scope}{pos : Pos}{it acc : Value}{env : Env}(hg : gens[d]? = some ⟨target, iter, ifs, 0⟩)(hn : ∀ g', gens[d + 1]? = some g' -> g'.is_async = 0)(I : Nat -> Shared -> Prop)
    (turn:∀ n s,I n s->wpAny (model prog w) A (pyNext it) (fun r s₁=>match r with
      | none=>R (.ok .next) s₁
      | some v => wpAny (model prog w) A (letOwnedTupleGo target it v) (fun _ s₀ => wpAny (model prog w) A (assign target env v) (fun _ s₂ =>
          wpAny (model prog w) A (forIn ifs true fun c r=>if r=true then do let ok <- isTrue c env (eval c env);pure (ForInStep.yield ok) else pure (ForInStep.yield r)) (fun ok s₃=>
            if ok=true then qH prog w A kx vx gens scope pos d acc env (fun s₅=>∃ m,m<n/\I m s₅) s₃
            else ∃ m,m<n/\I m s₃) (fun _ _=>False) s₂) (fun _ _=>False) s₀) (fun _ _=>False) s₁) (fun _ _=>False) s)
    (n:Nat) (h:I n s) :
    codeAny (model prog w) A (.compLoop (.DictComp kx vx gens scope pos) d it acc env) R s:=by
  refine codeAny_loop rfl I (fun n s hI=>?_) n h
  show wpAny _ A ((compTurn (.DictComp kx vx gens scope pos) d it acc env).onRaise (fun x=>do noteFrame x env;theTreesLotGoes x)) _ _ s
  refine wpAny_noted ?_
  unfold compTurn
  simp only [hg]
  refine wpAny_bind (wpAny_standAt ?_)
  rw [if_neg (by decide)]
  refine wpAny_bind (wpAny_mono (turn n s hI) (fun r s₁ h₁=>?_) fun _ _ h'=>h'.elim)
  cases r with
  | none=>exact wpAny_pure h₁
  | some v=>
    refine wpAny_bind (wpAny_mono h₁ (fun _ s₀ h₀=>?_) fun _ _ h'=>h'.elim)
    refine wpAny_bind (wpAny_mono h₀ (fun _ s₂ h₂=>wpAny_bind (wpAny_mono h₂ (fun ok s₃ h₃=>?_) fun _ _ h'=>h'.elim)) fun _ _ h'=>h'.elim)
    cases ok with
    | false=>exact wpAny_pure ⟨rfl,h₃⟩
    | true=>
      rw [if_pos rfl] at h₃ ⊢
      unfold qH at h₃
      cases e:gens[d+1]? with
      | none=>
        simp only [e] at h₃ ⊢
        refine wpAny_bind (wpAny_bind (wpAny_mono h₃ (fun x s₄ h₄=>wpAny_bind (wpAny_holding (wpAny_mono h₄ (fun y s₅ ⟨d,ea,h₅⟩=>?_) fun _ _ h'=>h'.elim))) fun _ _ h'=>h'.elim))
        subst ea
        exact wpAny_bind (wpAny_standAt (wpAny_holding (wpAny_mono h₅ (fun _ s₆ h₆=>wpAny_pure ⟨rfl,h₆⟩) fun _ _ h'=>h'.elim)))
      | some g'=>
        simp only [e] at h₃ ⊢
        have ha:=hn g' e
        refine wpAny_bind (wpAny_mono h₃ (fun x s₄ h₄=>?_) fun _ _ h'=>h'.elim)
        refine wpAny_bind (wpAny_standAt ?_)
        rw [if_neg (by rw [ha];decide)]
        refine wpAny_bind (wpAny_mono h₄ (fun x s₅ h₅=>?_) fun _ _ h'=>h'.elim)
        refine wpAny_bind (wpAny_holding ?_)
        rw [if_neg (by rw [ha];decide)]
        refine wpAny_mono h₅ (fun it s₆ h₆=>?_) fun _ _ h'=>h'.elim
        exact wpAny_bind (wpAny_mono h₆ (fun _ s₇ h₇=>wpAny_pure ⟨rfl,h₇⟩) fun _ _ h'=>h'.elim)
theorem qc {kx vx target iter:Expr}{ifs:List Expr}{gens:List Comprehension}{d:Nat}{scope:Scope}{pos:Pos}{it acc:Value}{env:Env}(hg:gens[d]?=some ⟨target,iter,ifs,0⟩)
  (h1:codeAny (model prog w) A (.compLoop (.DictComp kx vx gens scope pos) d it acc env) R s)
  (h2:wpAny (model prog w) A (pyIter it) (fun it' s'=>codeAny (model prog w) A (.compLoop (.DictComp kx vx gens scope pos) d it' acc env) R s') (fun _ _=>False) s) :
  codeAny (model prog w) A (.compStart (.DictComp kx vx gens scope pos) d it acc env) R s:=by
 refine codeAny_loop' rfl (fun _ s'=>s'=s) (fun n s' hI=>?_) 0 rfl
 subst hI
 show wpAny _ A ((compStart (.DictComp kx vx gens scope pos) d it acc env).onRaise (fun x=>do noteFrame x env;standAt theWindowsPlace)) _ _ _
 refine wpAny_onRaise ?_
 unfold compStart
 have hc:(clausesOf (.DictComp kx vx gens scope pos))[d]?=some ⟨target,iter,ifs,0⟩:=hg
 simp only [hc]
 rw [if_neg (by show ¬ ((0:Nat) != 0)=true;decide)]
 refine wpAny_bind (wpAny_askSetting ?_)
 split
 ·exact wpAny_pure (.inr ⟨rfl,h1⟩)
 ·refine wpAny_bind (wpAny_rule ?_)
  refine wpAny_bind (wpAny_standAt ?_)
  exact wpAny_bind (wpAny_mono h2 (fun it' s' h'=>wpAny_pure (.inr ⟨rfl,h'⟩)) fun _ _ h'=>h'.elim)
end
noncomputable def yA (tk tv:TE)(D:Addr):TR:=fun σ H N=>tk σ H fun y H4=>tv σ H4 fun v H5=>∃ kvs k b,y=.ref b/\H5 D=some (.dT kvs)/\H5 b=some (.tup (k.map kV))/\kvs.length<sizeLine/\N σ (upd H5 D (.dT (jq kvs k v)))
noncomputable def yv (wi:TI)(g:TG)(tt:TT)(tr:Addr->TR)(D:Addr):TR:=fun σ H N=>wi σ H fun J H1=>CL J g tt (tr D) N σ H1
noncomputable def PRd (C:Cx)(kx vx:Expr)(gens:List Comprehension)(scope:Scope)(pos:Pos)(d:Nat)(D:Addr)(tr:TR):Prop:=
 ∀ (pins:List (Addr × Obj)) (s:Shared) (σ:St) (H:Hp) (N:St->Hp->Prop),Inv C pins σ H s->tr σ H N->qH C.prog C.w C.A kx vx gens scope pos d (.ref D) C.env (fun s'=>∃ σ' H',Inv C pins σ' H' s'/\N σ' H') s
section
variable {C:Cx}{kx vx tg iter:Expr}{ifs:List Expr}{gens:List Comprehension}{scope:Scope}{pos:Pos}{d:Nat}{D:Addr}{g:TG}{tt:TT}{te:TE}{tr:TR}
theorem vB (hc:C.calm=true)(hgd:gens[d]?=some ⟨tg,iter,ifs,0⟩)(hn:∀ g',gens[d+1]?=some g'->g'.is_async=0)(hg:PG C tg g)(ht:PIf C ifs tt)(hr:PRd C kx vx gens scope pos d D tr)(hxe:∀ e s,¬ C.xe e s)
  {it:Addr} {fp:List Addr} {tn:Nat->Heap->Prop} {J:It} (T:yh C.prog C.w C.K tg J fp it tn) {pins:List (Addr × Obj)} {s:Shared} {σ:St} {H:Hp} (I:Inv C pins σ H s) (st:tn 0 s.heap) (hf:∀ b ∈ fp,jK C pins H b) {N:St->Hp->Prop} (h:CL J g tt tr N σ H)
  {R:Result->Shared->Prop} (fin:∀ s' σ' H',Inv C pins σ' H' s'->N σ' H'->R (.ok .next) s') :
  codeAny (model C.prog C.w) C.A (.compLoop (.DictComp kx vx gens scope pos) d (.ref it) (.ref D) C.env) R s:=by
 obtain ⟨W,⟨m0,w0⟩,turn⟩:=h
 have no:∀ {α:Type} {m:Sem α} {Q:α->Shared->Prop} {s:Shared},wpAny (model C.prog C.w) C.A m Q C.xe s->wpAny (model C.prog C.w) C.A m Q (fun _ _=>False) s:=fun h=>wpAny_mono h (fun _ _ q=>q) fun e s q=>hxe e s q
 have stat:∀ {H':Hp},(∀ b ∈ fp,H' b=none)->∀ b ∈ fp,jK C pins H' b:=fun hn b hb=>⟨hn b hb,(hf b hb).2⟩
 refine ja hgd hn (fun n s'=>∃ i τ H',Inv C pins τ H' s'/\tn i s'.heap/\(∀ b ∈ fp,H' b=none)/\W i n τ H') ?_ m0 ⟨0,σ,H,I,st,fun b hb=>(hf b hb).1,w0⟩
 rintro n s5 ⟨i,τ,H5,I5,st5,fr5,w5⟩
 rcases turn i n τ H5 w5 with ⟨stop,qn⟩ | ⟨go,N1,hN,step⟩
 ·refine thn (T.done C rfl rfl rfl hc i pins s5 τ H5 _ I5 (stat fr5) st5 stop) fun r s6 ⟨hr,I6⟩=>?_
  subst hr
  exact fin s6 τ H5 I6 qn
 ·refine thn (T.item C rfl rfl rfl hc i pins s5 τ H5 _ I5 (stat fr5) st5 go) fun r s6 ⟨u,hr',h6⟩=>?_
  subst hr'
  refine thn h6 fun _ s7 ⟨x,H7,I7,r7,y7,st7,fr7⟩=>?_
  have I7':=I7.pinned (stat fr7) (T.obj _ _ st7)
  refine thn (no (hg _ s7 τ H7 x u _ I7' r7 (step x H7 y7))) fun _ s8 ⟨τ8,H8,I8,q8⟩=>?_
  refine thn (no (ht _ s8 τ8 H8 _ I8 q8)) fun b s9 ⟨H9,I9,q9⟩=>?_
  have again:∀ {τ9:St} {H9:Hp} {s9:Shared},Inv C (pins ++ kf fp s7.heap) τ9 H9 s9->N1 τ9 H9 ->
    ∃ m,m<n/\∃ i τ H',Inv C pins τ H' s9/\tn i s9.heap/\(∀ b ∈ fp,H' b=none)/\W i m τ H':=fun {τ9 H9 s9} I9 n9=>by
   obtain ⟨m',hm,w9⟩:=hN _ _ n9
   refine ⟨m',hm,i+1,τ9,H9,I9.unpinned,T.keep _ _ _ st7 fun b hb o e=>(I9.pin (b,o) (List.mem_append_right _ (List.mem_append_right _ (qg hb e)))).1,fun b hb=>?_,w9⟩
   obtain ⟨o,e,d⟩:=T.obj _ _ st7 b hb
   exact (I9.pin (b,o) (List.mem_append_right _ (List.mem_append_right _ (qg hb e)))).2.1
  cases b with
  | false=>
   rw [if_neg Bool.false_ne_true] at q9 ⊢
   exact again I9 q9
  | true=>
   rw [if_pos rfl] at q9 ⊢
   exact ym (hr _ s9 τ8 H9 _ I9 q9) fun s11 ⟨τ9,H11,I11,n11⟩=>again I11 n11
theorem Xi {tk tv:TE}(hu:C.A.units<cLine)(hg2:gens[d+1]?=none)(hk:PE C kx tk)(hv:PE C vx tv)(hxe:∀ e s,¬ C.xe e s):PRd C kx vx gens scope pos d D (yA tk tv D):=by
 intro pins s σ H N I h
 have no:∀ {α:Type} {m:Sem α} {Q:α->Shared->Prop} {s:Shared},wpAny (model C.prog C.w) C.A m Q C.xe s->wpAny (model C.prog C.w) C.A m Q (fun _ _=>False) s:=fun h=>wpAny_mono h (fun _ _ q=>q) fun e s q=>hxe e s q
 unfold qH
 simp only [hg2]
 refine thn (no (hk pins s σ H _ I h)) fun y s1 ⟨k,H1,I1,r1,q1⟩=>?_
 refine thn (no (hv pins s1 σ H1 _ I1 q1)) fun z s2 ⟨v,H2,I2,r2,kvs,ks,b,e,e1,e2,l,n⟩=>⟨D,rfl,?_⟩
 subst e
 cases r1
 exact xP hu I2 e1 e2 l r2 fun s' I'=>⟨σ,_,I',n⟩
theorem Kb {tr:Addr->TR}{wi:TI}(hc:C.calm=true)(hgd:gens[d+1]?=some ⟨tg,iter,ifs,0⟩)(hn:∀ g',gens[d+2]?=some g'->g'.is_async=0)(hi:PI C tg iter wi)(hs:∀ x,foldedSetIterable iter C.env x=pure x)(hg:PG C tg g)(ht:PIf C ifs tt)
  (hr:PRd C kx vx gens scope pos (d+1) D (tr D)) (hxe:∀ e s,¬ C.xe e s):PRd C kx vx gens scope pos d D (yv wi g tt tr D):=by
 intro pins s σ H N I h
 have no:∀ {α:Type} {m:Sem α} {Q:α->Shared->Prop} {s:Shared},wpAny (model C.prog C.w) C.A m Q C.xe s->wpAny (model C.prog C.w) C.A m Q (fun _ _=>False) s:=fun h=>wpAny_mono h (fun _ _ q=>q) fun e s q=>hxe e s q
 unfold qH
 simp only [hgd]
 refine thn (no (hi pins s σ H _ I h)) fun v s1 h1=>?_
 rw [hs v]
 refine wpAny_pure (thn (no h1) fun itv s2 h2=>?_)
 obtain ⟨it,fp,tn,J,H2,e,I2,T,st2,f2,q2⟩:=h2
 subst e
 refine wpAny_runOwn ?_
 show codeAny _ C.A _ _ _
 have loop:=vB (R:=fun r s'=>match r with | .ok f=>(∃ σ' H',Inv C pins σ' H' s'/\N σ' H') | .error e=>cameBackBy (model C.prog C.w) C.A C.env (fun _ _=>False) e s') hc hgd hn hg ht hr hxe T I2 st2 f2 q2 fun s' σ' H' I' n'=>⟨σ',H',I',n'⟩
 exact qc hgd loop (T.self _ 0 _ _ _ st2 loop)
end
noncomputable def wJ (ts:List Nat)(wi:TI)(g:TG)(tt:TT)(tr:Addr->TR):TE:=fun σ H Q=>wi σ H fun J H1=>∀ D,H1 D=none->CL J g tt (tr D) (fun _ H2=>Q (.ref D) H2) (clr ts σ) (upd H1 D (.dT []))
section
variable {X:Cx}{ts:List Nat}{scope:Scope}{tg iter kx vx:Expr}{ifs:List Expr}{zl:List Comprehension}{wi:TI}{g:TG}{tt:TT}{tr:Addr->TR}{pos:Pos}
theorem QF (hc:X.calm=true)(hsc:vK X.N ts scope X.env.kindOf=true)(hi:PI X tg iter wi)(hn:∀ g',zl[0]?=some g'->g'.is_async=0)(hg:∀ cl s H fp,PG (cxC X scope cl s H fp) tg g)(ht:∀ cl s H fp,PIf (cxC X scope cl s H fp) ifs tt)
  (hr:∀ cl s H fp D,PRd (cxC X scope cl s H fp) kx vx (⟨tg,iter,ifs,0⟩ :: zl) scope pos 0 D (tr D))
  {pins:List (Addr × Obj)} {s:Shared} {σ:St} {H:Hp} {Q:VK} (I:Inv X pins σ H s) (h:wJ ts wi g tt tr σ H Q) {use:Option (Value->Sem Unit)} {Q':Value->Shared->Prop}
  (fin:∀ (D C:Addr) (H':Hp) (s':Shared),Inv X pins σ H' s'->(∃ m,s'.heap.Ns C m)->H' C=none->C ≠ X.env.locals->(∀ x c,X.env.cells.lookup x=some c->c ≠ C)->X.s₀.heap.objs.size<=C->(∀ p ∈ X.pn ++ pins,p.1 ≠ C)->C ∉ X.fs->Q (.ref D) H' ->
   compPost (model X.prog X.w) X.A X.xe use Q' (.ref D) C (.ok .next) s')
  (hs:∀ x,foldedSetIterable iter X.env x=pure x) :
  wpAny (model X.prog X.w) X.A (comprehension (.DictComp kx vx (⟨tg,iter,ifs,0⟩ :: zl) scope pos) scope X.env (firstIterPos (⟨tg,iter,ifs,0⟩ :: zl) pos) (newDict) false (eval iter X.env) use) Q' X.xe s:=by
 have S:=JU hsc
 obtain ⟨cl,hcl,c1,c2⟩:=kZ (scope:=scope) (env:=X.env) fun y hy e=>I.ok.has y.1 (S.free y hy e)
 refine wpAny_comprehension_free (use:=use) rfl hs hcl S.kind S.loc ?_
 refine wpAny_mono (hi pins s σ H _ I h) (fun v s1 h1=>wpAny_mono h1 (fun itv s2 h2=>?_) fun _ _ e=>e) fun _ _ e=>e
 obtain ⟨it,fp,tn,J,H2,e,I2,T,st2,f2,q2⟩:=h2
 subst e
 have hD:H2 s2.heap.objs.size=none:=I2.hok.fresh (Nat.le_refl _)
 have q3:=q2 _ hD
 refine wpAny_newObj_type (wpAny_newFunctionEnv S.cell (by intro y hy;simp at hy) (fun h₁ hns₁ hsb₁=>?_) S.kind)
 dsimp only at hns₁ hsb₁ ⊢
 generalize hh3:s2.heap.push { cls:=.type "dict",data:=.dict #[] }=g3 at hns₁ hsb₁ ⊢
 have I3:Inv X pins σ (upd H2 s2.heap.objs.size (.dT [])) { s2 with heap:=g3 }:=by
  rw [<- hh3]
  exact I2.laid (t':=s2.toks) (fun b u e=>Heap.get?_push_of_some _ e) (Nat.le_refl _) (vC _ I2.big)
 have st3:tn 0 g3:=T.keep _ _ _ st2 fun b _ o e=>by rw [<- hh3];exact Heap.get?_push_of_some _ e
 have lt2:∀ b ∈ fp,b<s2.heap.objs.size:=fun b hb=>by obtain ⟨o,e,_⟩:=T.obj _ _ st2 b hb;exact Heap.lt_size e
 have hsz3:g3.objs.size=s2.heap.objs.size+1:=by rw [<- hh3,Heap.size_push]
 have f3:∀ b ∈ fp,jK X pins (upd H2 s2.heap.objs.size (.dT [])) b:=fun b hb=>⟨by rw [zg (Nat.ne_of_lt (lt2 b hb))];exact (f2 b hb).1,(f2 b hb).2⟩
 have lt3:∀ b ∈ fp,b<g3.objs.size:=fun b hb=>by rw [hsz3];exact Nat.lt_succ_of_lt (lt2 b hb)
 have old:∀ b o,g3.get? b=some o->h₁.get? b=some o:=fun b o e=>hsb₁.extBut b o (Nat.ne_of_lt (Heap.lt_size e)) (Heap.get?_push_of_some _ e)
 have hns:h₁.Ns g3.objs.size (fun x=>([]:List (Str × Value)).reverse.lookup x):=hns₁
 have I4:∀ t,Inv (cxC X scope cl { s2 with heap:=g3 } (upd H2 s2.heap.objs.size (.dT [])) fp) [] (clr ts σ) (upd H2 s2.heap.objs.size (.dT [])) { s2 with heap:=h₁,toks:=t }:=fun t=>xc I3 S f3 lt3 c1 c2 hns old
 have fpne:∀ b ∈ fp,b ∉ frs X.stack:=fun b hb z=>by
  obtain ⟨_,f1,f2,_⟩:=f3 b hb
  rcases List.mem_cons.mp (I3.stkSub b z) with e | e
  ·exact f1 e
  ·exact f2 e
 have stat:∀ {H':Hp},(∀ b ∈ fp,H' b=none)->∀ b ∈ fp,jK (cxC X scope cl { s2 with heap:=g3 } (upd H2 s2.heap.objs.size (.dT [])) fp) [] H' b:=fun hn b hb=>
  ⟨hn b hb,Nat.ne_of_lt (lt3 b hb),fpne b hb,.inl hb,fun x c e=>(f2 b hb).2.2.2.2.1 x c (c1 x c e),fun p hp=>absurd hp (by simp)⟩
 have loop:∀ t,codeAny (model X.prog X.w) X.A (.compLoop (.DictComp kx vx (⟨tg,iter,ifs,0⟩ :: zl) scope pos) 0 (.ref it) (.ref s2.heap.objs.size) (compEnvC scope cl g3.objs.size X.env))
   (compPost (model X.prog X.w) X.A X.xe use Q' (.ref s2.heap.objs.size) g3.objs.size) { s2 with heap:=h₁,toks:=t }:=by
  intro t
  refine vB (C:=cxC X scope cl { s2 with heap:=g3 } (upd H2 s2.heap.objs.size (.dT [])) fp) hc rfl (fun g' e=>hn g' (by simpa using e)) (hg _ _ _ _) (ht _ _ _ _) (hr _ _ _ _ _) (fun _ _ z=>z) T (I4 t) (T.keep _ _ _ st3 fun b _ o e=>old b o e) (stat fun b hb=>(f3 b hb).1) q3 fun s6 σ6 H5 I6 qn=>?_
  have base:Un (frs X.stack) fp (upd H2 s2.heap.objs.size (.dT [])) H5 g3 s6.heap:=I6.base
  have J6:Inv X pins σ H5 s6:=I3.call' (ch:=fp) I6.os base I6.hok I6.bare fun b hb=>⟨(f3 b hb).2.2.2.1,(f3 b hb).2.1,(f3 b hb).2.2.2.2.1,(f3 b hb).2.2.2.2.2⟩
  obtain ⟨m6,n6,_⟩:=I6.loc
  refine fin _ g3.objs.size H5 s6 J6 ⟨m6,n6⟩ I6.free (Nat.ne_of_gt I3.lt) (fun x c e z=>?_) I3.sz (fun p hp z=>?_) (I3.nofs (Nat.le_refl _)) qn
  ·obtain ⟨v,q⟩:=I3.cell x c e
   exact absurd q.lt (by rw [z];exact Nat.lt_irrefl _)
  ·exact absurd (Heap.lt_size (I3.pin p hp).1) (by rw [z];exact Nat.lt_irrefl _)
 have LW:=loop (s2.toks+([]:List (Str × Value)).length)
 exact qc rfl LW (T.self _ 0 _ _ _ (T.keep _ _ _ st3 fun b _ o e=>old b o e) LW)
end
section
variable {P:Program}{w:World}{A:Around}{E:Value->Shared->Prop}{s:Shared}{n l1 l2 l3:Nat}{k:Nat}{xs ys zs:Array Value}{x y u a b c:Value}{Q:Option Value->Shared->Prop}
end
section
variable {X:Cx}{es:List Expr}{kt:Nat}{tp:Pos}
end
section
variable {X:Cx}{o i:Expr}{pos:Pos}{td ty:TE}
end
noncomputable def setAll:List Nat->List V->St->St
 | i :: is,v :: vs,σ=>setAll is vs (σ.set i (some v))
 | _,_,σ=>σ
noncomputable def KT1 (K:PySem.W.Frag)(a:Addr)(xs:List V):Prop:=∃ (o:Obj) (its:Array Value) (n:Nat),K.lookup a=some o/\o.cls=.type "tuple"/\o.data=.seq its n/\its.size<=sizeLine/\zq xs its.toList
theorem KT1.sq {K:PySem.W.Frag}{H:Hp}{a:Addr}{xs:List V}(h:KT1 K a xs):SqT K H a xs:=.inr h
noncomputable def XM:List Nat->TGs
 | []=>YO
 | i :: is=>Z4 (xi i) (XM is)
theorem ZD {Q:St->Hp->Prop}{H:Hp}:∀ {is:List Nat} {vs:List V} {σ:St},is.length=vs.length->Q (setAll is vs σ) H->XM is vs σ H Q
 | [],[],_,_,q=>⟨rfl,q⟩
 | i :: is,v :: vs,σ,e,q=>⟨v,vs,rfl,ZD (by simpa using e) q⟩
 | [],_ :: _,_,e,_=>by simp at e
 | _ :: _,[],_,e,_=>by simp at e
section
variable {X:Cx}{es:List Expr}{kt:Nat}{tp gp:Pos}{body:List Stmt}{pos:Pos}{tb:TS}{g:Str}{a:Addr}{is:List Nat}
end
noncomputable def vw:List Nat->List (Option AV)->ASt->ASt
 | i :: is,v :: vs,ρ=>vw is vs (ρ.set i v)
 | _,_,ρ=>ρ
noncomputable def VO (v:V):Option AV->Prop
 | none=>True
 | some (.d (.int i))=>v=.int i
 | some _=>False
inductive VOs:List V->List (Option AV)->Prop
 | nil:VOs [] []
 | cons {v:V} {x:Option AV} {vs:List V} {xs:List (Option AV)}:VO v x->VOs vs xs->VOs (v :: vs) (x :: xs)
theorem Er.setN {H:Hp}{O:Own}{M:MH}{σ:St}{ρ:ASt}(e:Er H O M σ ρ)(v:V)(j:Nat):Er H O M (σ.set j (some v)) (ρ.set j none):=
 ⟨by rw [List.length_set,List.length_set,e.len],fun i y h=>by
  rw [List.getElem?_set] at h ⊢
  by_cases c:j=i
  ·rw [if_pos c] at h
   split at h <;> cases h
  ·rw [if_neg c] at h ⊢;exact e.get i y h⟩
theorem Er.setAll {H:Hp}{O:Own}{M:MH}:∀ {is:List Nat} {vs:List V} {xs:List (Option AV)} {σ:St} {ρ:ASt},VOs vs xs->Er H O M σ ρ->Er H O M (setAll is vs σ) (vw is xs ρ)
 | [],_,_,_,_,.nil,e=>e
 | [],_,_,_,_,.cons _ _,e=>e
 | _ :: _,_,_,_,_,.nil,e=>e
 | i :: is,v :: vs,x :: xs,σ,ρ,.cons h r,e=>by
  refine Er.setAll (is:=is) r ?_
  cases x with
  | none=>exact e.setN v i
  | some x=>
   cases x with
   | ref a=>exact h.elim
   | d x=>
    cases x with
    | int j=>rw [show v=.int j from h];exact e.set (x:=.d (.int j)) .int i
    | _=>exact h.elim
inductive JG (b:List V->TS):List (List V)->List (List (Option AV) × AS)->Prop
 | nil:JG b [] []
 | cons {vs:List V} {vss:List (List V)} {xs:List (Option AV)} {ab:AS} {r:List (List (Option AV) × AS)}:VOs vs xs->qN (b vs) ab->JG b vss r->JG b (vs :: vss) ((xs,ab) :: r)
noncomputable def qG (kvs:List (List Key × AV))(k:List Key):Option AV:=(kvs.find? fun kv=>decide (kv.1=k)).map (·.2)
noncomputable def yw (kvs:List (List Key × AV))(k:List Key)(v:AV):List (List Key × AV):=
 if (kvs.any fun kv=>decide (kv.1=k))=true then kvs.map (fun kv=>if kv.1=k then (kv.1,v) else kv) else kvs ++ [(k,v)]
noncomputable abbrev ikT (ks:List Int):List Key:=ks.map Sum.inl
theorem vZ {H:Hp}{O:Own}{M:MH}(k:List Key):∀ {xs:List (List Key × V)} {kvs:List (List Key × AV)} {v:AV},xs.map (·.1)=kvs.map (·.1)->zd H O M (xs.map (·.2)) (kvs.map (·.2))->qG kvs k=some v->∃ u,jU xs k=some u/\zj H O M u v
 | [],[],v,_,_,h=>by cases h
 | [],_ :: _,v,e,_,h=>by cases e
 | _ :: _,[],v,e,_,h=>by cases e
 | (a,x) :: xs,(b,y) :: kvs,v,e,r,h=>by
  obtain ⟨e1,e2⟩:=List.cons.inj e
  have e1:a=b:=e1
  subst e1
  obtain ⟨r1,r2⟩:=zd.head r
  by_cases c:a=k
  ·have:qG ((a,y) :: kvs) k=some y:=by unfold qG;rw [List.find?_cons,show decide (a=k)=true from decide_eq_true c];rfl
   rw [this] at h;cases h
   exact ⟨x,ke c,r1⟩
  ·have:qG ((a,y) :: kvs) k=qG kvs k:=by unfold qG;rw [List.find?_cons,show decide (a=k)=false from decide_eq_false c]
   rw [this] at h
   obtain ⟨u,hu,ru⟩:=vZ k (xs:=xs) e2 r2 h
   exact ⟨u,by rw [ka c];exact hu,ru⟩
theorem vV {α β:Type}(k:List Key):∀ {xs:List (List Key × α)} {ys:List (List Key × β)},xs.map (·.1)=ys.map (·.1)->(xs.any fun kv=>decide (kv.1=k))=(ys.any fun kv=>decide (kv.1=k))
 | [],[],_=>rfl
 | [],_ :: _,e=>by cases e
 | _ :: _,[],e=>by cases e
 | x :: xs,y :: ys,e=>by
  obtain ⟨e1,e2⟩:=List.cons.inj e
  have e1:x.1=y.1:=e1
  rw [List.any_cons,List.any_cons,e1,vV k e2]
theorem yN {H:Hp}{O:Own}{M:MH}{k:List Key}{u:V}{v:AV}{xs:List (List Key × V)}{kvs:List (List Key × AV)}(h:jg H O M xs kvs)(r:zj H O M u v):jg H O M (jq xs k u) (yw kvs k v):=by
  unfold jq yw
  rw [vV k h.1]
  split
  · have go : ∀ {xs : List (List Key × V)} {kvs : List (List Key × AV)}, xs.map (·.1) = kvs.map (·.1) -> zd H O M (xs.map (·.2)) (kvs.map (·.2)) -> jg H O M (xs.map fun kv => if kv.1 = k then (kv.1, u) else kv) (kvs.map fun kv => if kv.1 = k then (kv.1, v) else kv) := by
      intro xs
      induction xs with
      | nil=>intro kvs e q;cases kvs with | nil=>exact ⟨rfl,.nil⟩ | cons _ _=>cases e
      | cons x xs ih=>
        intro kvs e q
        cases kvs with
        | nil=>cases e
        | cons y kvs=>
          obtain ⟨e1,e2⟩:=List.cons.inj e
          have e1:x.1=y.1:=e1
          obtain ⟨r1,r2⟩:=zd.head q
          obtain ⟨i1,i2⟩:=ih e2 r2
          by_cases c:y.1=k
          · refine ⟨?_,?_⟩
            · rw [List.map_cons,List.map_cons,List.map_cons,List.map_cons,if_pos c,if_pos (e1.trans c)];exact List.cons_eq_cons.mpr ⟨e1,i1⟩
            · rw [List.map_cons,List.map_cons,List.map_cons,List.map_cons,if_pos c,if_pos (e1.trans c)];exact .cons r i2
          · refine ⟨?_,?_⟩
            · rw [List.map_cons,List.map_cons,List.map_cons,List.map_cons,if_neg c,if_neg (fun z=>c (e1.symm.trans z))];exact List.cons_eq_cons.mpr ⟨e1,i1⟩
            · rw [List.map_cons,List.map_cons,List.map_cons,List.map_cons,if_neg c,if_neg (fun z=>c (e1.symm.trans z))];exact .cons r1 i2
    exact go h.1 h.2
  · exact ⟨by rw [List.map_append,List.map_append,h.1];rfl,by rw [List.map_append,List.map_append];exact h.2.append (.cons r .nil)⟩
theorem xa {H:Hp}{O:Own}{M:MH}{p:Addr}{l l':List (List Key × AV)}{xs':List (List Key × V)}(w:Wf H O M)(hm:M p=some (.dT l))(r:jg H O M xs' l'):Ext H O M (upd H p (.dT xs')) O (mup M p (.dT l'))/\Wf (upd H p (.dT xs')) O (mup M p (.dT l')):=
 have np:=qk hm
 ⟨qX w np _ _,wX w np (fun _ z=>nomatch z) ⟨_,zk,r.ext (qX w np _ _)⟩⟩
theorem kW {H:Hp}{O:Own}{v:V}{ks:List Int}(r:Rep H O v (.tup (ks.map .int))):∃ b,v=.ref b/\H b=some (.tup ((ikT ks).map kV)):=by
 cases r with
 | @tup b xs _ o1 e1 l1 rr=>
  refine ⟨b,rfl,?_⟩
  have go:∀ {ks:List Int} {xs:List V},xs.length=(ks.map Dat.int).length->(∀ (i:Nat) x d,xs[i]?=some x->(ks.map Dat.int)[i]?=some d->Rep H O x d)->xs=(ikT ks).map kV:=by
   intro ks
   induction ks with
   | nil=>intro xs h _;exact List.length_eq_zero_iff.mp h
   | cons k ks ih=>
    intro xs h r
    cases xs with
    | nil=>simp at h
    | cons x xs=>rw [zA (r 0 x (.int k) rfl rfl),ih (xs:=xs) (by simpa using h) fun i y d e1 e2=>r (i+1) y d e1 e2];rfl
  rw [e1,go l1 rr]
noncomputable def JI (ad ai:AE):AE:=fun ρ M Q=>ad ρ M fun x M1=>ai ρ M1 fun y M2=>∃ (p:Addr) (kvs:List (List Key × AV)) (ks:List Int) (v:AV),x=.ref p/\M2 p=some (.dT kvs)/\y=.d (.tup (ks.map .int))/\qG kvs (ikT ks)=some v/\Q v M2
theorem QL {td ty:TE}{ad ai:AE}(h1:zx td ad)(h2:zx ty ai):zx (KW td ty) (JI ad ai):=
 ⟨fun w e q k=>h1.go w e q fun x M1 v H1 O1 q1 k1 w1 r1=>h2.go w1 (e.ext k1) q1 fun y M2 u H2 O2 q2 k2 w2 r2=>by
  obtain ⟨p,kvs,ks,v,rfl,hm,rfl,hv,q⟩:=q2
  cases r1.1
  obtain ⟨b,rfl,hb⟩:=kW r2
  obtain ⟨xs,hx,kr⟩:=w2.mo p _ hm
  obtain ⟨u,hu,ru⟩:=vZ (ikT ks) kr.1 kr.2 hv
  exact ⟨p,u,rfl,by have:=xx.t (k:=ikT ks) hx hb;rw [hu] at this;exact this,k _ _ _ _ _ q (k1.trans k2) w2 ru⟩⟩
noncomputable def Xj (ad ai av:AE):AS:=fun _ D ρ M=>av ρ M fun v M1=>ad ρ M1 fun x M2=>ai ρ M2 fun y M3=>∃ (p:Addr) (kvs:List (List Key × AV)) (ks:List Int),x=.ref p/\M3 p=some (.dT kvs)/\y=.d (.tup (ks.map .int))/\kvs.length<1000000/\D.nx ρ (mup M3 p (.dT (yw kvs (ikT ks) v)))
theorem ZT {H:Hp}{O:Own}{M:MH}{xs:List (List Key × V)}{kvs:List (List Key × AV)}(h:jg H O M xs kvs):xs.length=kvs.length:=by
 have:=congrArg List.length h.1
 simpa using this
theorem QD {td ty tv:TE}{ad ai av:AE}(h1:zx td ad)(h2:zx ty ai)(h3:zx tv av):qN (Jc td ty tv) (Xj ad ai av):=
 ⟨fun w0 w e x q E=>h3.go w e q fun z M1 v H1 O1 q1 k1 w1 r1=>h1.go w1 (e.ext k1) q1 fun y M2 u H2 O2 q2 k2 w2 r2=>h2.go w2 ((e.ext k1).ext k2) q2 fun t M3 g H3 O3 q3 k3 w3 r3=>by
  obtain ⟨p,kvs,ks,rfl,hm,rfl,hl,q⟩:=q3
  cases r2.1
  obtain ⟨b,rfl,hb⟩:=kW r3
  obtain ⟨xs,hx,kr⟩:=w3.mo p _ hm
  obtain ⟨k4,w4⟩:=xa w3 hm (yN (k:=ikT ks) kr ((r1.ext k2).ext k3))
  exact ⟨p,_,rfl,Xe.t hx hb (by rw [ZT kr];exact Nat.lt_of_lt_of_le hl (by decide)),E.nx _ _ _ _ _ w4 ((((e.ext k1).ext k2).ext k3).ext k4) (x.trans (((k1.trans k2).trans k3).trans k4)) q⟩⟩
noncomputable abbrev ATD:=ASt->MH->(ASt->MH->Prop)->Prop
structure vS (tr:TR)(a:ATD):Prop where
 go:∀ {σ:St} {H:Hp} {O:Own} {ρ:ASt} {M:MH} {N:St->Hp->Prop} {N':ASt->MH->Prop},Wf H O M->Er H O M σ ρ->a ρ M N'->(∀ σ' H' O' ρ' M',N' ρ' M'->Ext H O M H' O' M'->Wf H' O' M'->Er H' O' M' σ' ρ'->N σ' H')->tr σ H N
noncomputable def WA (ag:AG)(at_:AT)(tr:ATD)(G:MH->Prop)(N:ASt->MH->Prop)(l:List AV)(ρ:ASt)(M:MH):Prop:=
 ∃ Pv:Nat->ASt->MH->Prop,Pv 0 ρ M/\(∀ i x ρ M,l[i]?=some x->Pv i ρ M->G M/\ag x ρ M fun ρ' M'=>at_ ρ' M' fun b M2=>if b=true then tr ρ' M2 (Pv (i+1)) else Pv (i+1) ρ' M2)/\∀ ρ M,Pv l.length ρ M->G M/\N ρ M
theorem Z1 {g:TG}{tt:TT}{tr:TR}{ag:AG}{at_:AT}{ar:ATD}(hg:ki g ag)(ht:jc tt at_)(hr:vS tr ar){J:It}{H:Hp}{O:Own}{M:MH}{l:List AV}{G:MH->Prop}(hj:jn J H O M l G)(w:Wf H O M){σ:St}{ρ:ASt}(e:Er H O M σ ρ){N:St->Hp->Prop}{N':ASt->MH->Prop}(q:WA ag at_ ar G N' l ρ M)
  (k:∀ σ' H' O' ρ' M',N' ρ' M'->Ext H O M H' O' M'->Wf H' O' M'->Er H' O' M' σ' ρ'->N σ' H'):CL J g tt tr N σ H:=by
 obtain ⟨Pv,p0,ps,pd⟩:=q
 refine ⟨fun i m σ' H'=>m=l.length - i/\i<=l.length/\∃ O' ρ' M',Wf H' O' M'/\Er H' O' M' σ' ρ'/\Ext H O M H' O' M'/\Pv i ρ' M',⟨l.length,by simp,Nat.zero_le _,O,ρ,M,w,e,.refl,p0⟩,?_⟩
 rintro i m σ1 H1 ⟨rfl,hi,O1,ρ1,M1,w1,e1,x1,hf⟩
 by_cases hil:i<l.length
 ·have hy:l[i]?=some l[i]:=List.getElem?_eq_getElem hil
  obtain ⟨hG,q2⟩:=ps i l[i] ρ1 M1 hy hf
  obtain ⟨j1,j2⟩:=(hj H1 O1 M1 x1.fix x1.mst w1 hG i).2 l[i] hy
  refine .inr ⟨j1,fun σ' H'=>∃ O' ρ' M',Wf H' O' M'/\Er H' O' M' σ' ρ'/\Ext H O M H' O' M'/\Pv (i+1) ρ' M',fun σ' H' z=>⟨l.length - (i+1),by omega,rfl,hil,z⟩,fun v H' hv=>?_⟩
  obtain ⟨k2,w2,r2⟩:=j2 v H' hv
  refine hg.go w2 (e1.ext k2) r2 q2 fun σ3 H3 O3 ρ3 M3 q3 k3 w3 e3=>ht.go w3 e3 q3 fun b M4 H4 O4 q4 k4 w4=>?_
  cases b with
  | false=>
   rw [if_neg Bool.false_ne_true] at q4 ⊢
   exact ⟨O4,ρ3,M4,w4,e3.ext k4,((x1.trans k2).trans k3).trans k4,q4⟩
  | true=>
   rw [if_pos rfl] at q4 ⊢
   exact hr.go w4 (e3.ext k4) q4 fun σ5 H5 O5 ρ5 M5 q5 k5 w5 e5=>⟨O5,ρ5,M5,w5,e5,(((x1.trans k2).trans k3).trans k4).trans k5,q5⟩
 ·have e0:i=l.length:=by omega
  subst e0
  obtain ⟨hG,q2⟩:=pd ρ1 M1 hf
  exact .inl ⟨(hj H1 O1 M1 x1.fix x1.mst w1 hG l.length).1 rfl,k _ _ _ _ _ q2 x1 w1 e1⟩
noncomputable def wD (ak av:AE)(D:Addr):ATD:=fun ρ M N=>ak ρ M fun y M1=>av ρ M1 fun v M2=>∃ (kvs:List (List Key × AV)) (ks:List Int),y=.d (.tup (ks.map .int))/\M2 D=some (.dT kvs)/\kvs.length<1000/\N ρ (mup M2 D (.dT (yw kvs (ikT ks) v)))
theorem QW {tk tv:TE}{ak av:AE}{D:Addr}(h1:zx tk ak)(h2:zx tv av):vS (yA tk tv D) (wD ak av D):=
 ⟨fun w e q k=>h1.go w e q fun y M1 v H1 O1 q1 k1 w1 r1=>h2.go w1 (e.ext k1) q1 fun z M2 u H2 O2 q2 k2 w2 r2=>by
  obtain ⟨kvs,ks,rfl,hm,hl,q⟩:=q2
  obtain ⟨b,rfl,hb⟩:=kW (Rep.ext k2 r1)
  obtain ⟨xs,hx,kr⟩:=w2.mo D _ hm
  obtain ⟨k4,w4⟩:=xa w2 hm (yN (k:=ikT ks) kr r2)
  exact ⟨xs,ikT ks,b,rfl,hx,hb,by rw [ZT kr];exact Nat.lt_of_lt_of_le hl (by decide),k _ _ _ _ _ q ((k1.trans k2).trans k4) w4 (((e.ext k1).ext k2).ext k4)⟩⟩
noncomputable def Zi (ai:AI)(ag:AG)(at_:AT)(tr:Addr->ATD)(D:Addr):ATD:=fun ρ M N=>ai ρ M fun l G M1=>WA ag at_ (tr D) G N l ρ M1
theorem Z8 {wi:TI}{g:TG}{tt:TT}{tr:Addr->TR}{ai:AI}{ag:AG}{at_:AT}{ar:Addr->ATD}{D:Addr}(hi:xg wi ai)(hg:ki g ag)(ht:jc tt at_)(hr:vS (tr D) (ar D)):vS (yv wi g tt tr D) (Zi ai ag at_ ar D):=
 ⟨fun w e q k=>hi.go w e q fun l G M1 J H1 O1 q1 k1 w1 hj=>Z1 hg ht hr hj w1 (e.ext k1) q1 fun σ' H' O' ρ' M' n k2 w2 e2=>k _ _ _ _ _ n (k1.trans k2) w2 e2⟩
noncomputable def yx (tr:Addr->TR)(ar:Addr->ATD):Prop:=∀ D,vS (tr D) (ar D)
theorem wG {tk tv:TE}{ak av:AE}(h1:zx tk ak)(h2:zx tv av):yx (yA tk tv) (wD ak av):=fun _=>QW h1 h2
theorem wr {wi:TI}{g:TG}{tt:TT}{tr:Addr->TR}{ai:AI}{ag:AG}{at_:AT}{ar:Addr->ATD}(hi:xg wi ai)(hg:ki g ag)(ht:jc tt at_)(hr:yx tr ar):yx (yv wi g tt tr) (Zi ai ag at_ ar):=fun D=>Z8 hi hg ht (hr D)
noncomputable def KG (ts:List Nat)(ai:AI)(ag:AG)(at_:AT)(tr:Addr->ATD):AE:=fun ρ M Q=>ai ρ M fun l G M1=>∀ D,M1 D=none->WA ag at_ (tr D) G (fun _ M2=>Q (.ref D) M2) l (wV ts ρ) (mup M1 D (.dT []))
theorem jn.ext {J:It}{H H1:Hp}{O O1:Own}{M M1:MH}{l:List AV}{G:MH->Prop}(h:jn J H O M l G)(k:Ext H O M H1 O1 M1):jn J H1 O1 M1 l G:=fun H' O' M' fix mst w' hG=>h H' O' M' (fun a o h1 e=>let ⟨e1,h2⟩:=k.fix a o h1 e;fix a o h2 e1) (fun a ha=>mst a (k.mst a ha)) w' hG
theorem Qe {ts:List Nat}{wi:TI}{g:TG}{tt:TT}{tr:Addr->TR}{ai:AI}{ag:AG}{at_:AT}{ar:Addr->ATD}(hi:xg wi ai)(hg:ki g ag)(ht:jc tt at_)(hr:yx tr ar):zx (wJ ts wi g tt tr) (KG ts ai ag at_ ar):=
 ⟨fun w e q k=>hi.go w e q fun l G M1 J H1 O1 q1 k1 w1 hj D hD=>by
  have kx:=yI w1 hD (.dT []) (.dT [])
  have wx:Wf (upd H1 D (.dT [])) (xo O1 D) (mup M1 D (.dT [])):=Xr w1 hD (fun _ z=>nomatch z) ⟨[],zk,rfl,.nil⟩
  refine Z1 hg ht (hr D) (hj.ext kx) wx (((e.ext k1).ext kx).clr ts) (q1 D (w1.fresh hD).2) fun σ' H' O' ρ' M' n k2 w2 e2=>k _ _ _ _ _ n ((k1.trans kx).trans k2) w2 ⟨rfl,k2.mst D (by rw [zf];exact fun z=>nomatch z)⟩⟩
section
variable {X:Cx}{ts:List Nat}{scope:Scope}{tg iter kx vx:Expr}{ifs:List Expr}{zl:List Comprehension}{wi:TI}{g:TG}{tt:TT}{tr:Addr->TR}{pos:Pos}
theorem JW {j:Nat}{y:Str}{py spos:Pos}(hc:X.calm=true)(hN:X.N.Nodup)(hj:X.N[j]?=some y)(hy:Loc X.env.scope y)(hsc:vK X.N ts scope X.env.kindOf=true)(hi:PI X tg iter wi)(hg:∀ cl s H fp,PG (cxC X scope cl s H fp) tg g)(ht:∀ cl s H fp,PIf (cxC X scope cl s H fp) ifs tt)
  (hr:∀ cl s H fp D,PRd (cxC X scope cl s H fp) kx vx (⟨tg,iter,ifs,0⟩ :: zl) scope pos 0 D (tr D)) (hn:∀ g',zl[0]?=some g'->g'.is_async=0:=by intro _ e;cases e;rfl)
  (hsw:swapsWith (.DictComp kx vx (⟨tg,iter,ifs,0⟩ :: zl) scope pos) (some (.Name y py)) spos.line X.env=pure true:=by rfl)
  (hs:∀ x,foldedSetIterable iter X.env x=pure x:=by intro _;rfl) (hf:X.fn y=true \/ X.env.scope.names.lookup y=some .local:=by first | exact .inl rfl | exact .inr rfl | assumption) :
  PS X (.Assign [.Name y py] (.DictComp kx vx (⟨tg,iter,ifs,0⟩ :: zl) scope pos) spos) (Ze (wJ ts wi g tt tr) (xi j)):=by
 intro pins s σ H D I h
 rw [exec_Assign_Name_used _ _ _ _ hsw]
 refine wpAny_bind (wpAny_standAt (wpAny_bind ?_))
 show wpAny _ _ (do let _ <- comprehension (.DictComp kx vx (⟨tg,iter,ifs,0⟩ :: zl) scope pos) scope X.env _ newDict false (eval iter X.env) (some (assign (.Name y py) X.env))) _ _ s
 refine wpAny_bind (wpAny_mono (QF hc hsc hi hn hg ht hr I h (use:=some (assign (.Name y py) X.env)) (Q':=fun _ s'=>SP X pins D .next s') (fun D' C H' s' I' ⟨m,hn⟩ hC hL hce hsz hp hfs q=>?_) hs) (fun _ s' hq=>wpAny_pure (wpAny_pure hq)) fun _ _ e=>e)
 show wpAny _ _ (assign (.Name y py) X.env (.ref D')) _ _ _
 refine wpAny_assign_Name (ky (v:=.ref D') I' hN hj hy rfl (fun s2 I2 ⟨a,hsb,ha⟩=>?_) hf)
 have hCa:C ≠ a:=by
  rcases ha with rfl | ha
  ·exact hL
  ·exact Ne.symm (hce y a ha)
 refine ⟨m,hn.sameBut hsb hCa,fun h' hs'=>?_⟩
 exact ⟨_,H',I2.turned (t':=s2.toks) (it:=C) (fun b o hb e=>(hs'.2 b hb).trans e) hC hL (.inr hsz) hce hp,q⟩
end
noncomputable def kN (n:Nat)(is:List Nat)(te:TE)(D:Addr):List (List V)->St->Hp->(Hp->Prop)->Prop
 | [],_,H,N=>N H
 | vs :: r,σ,H,N=>σ.length=n/\te (setAll is vs σ) H fun v H5=>∃ ys,H5 D=some (.lst ys)/\ys.length<sizeLine/\kN n is te D r (setAll is vs σ) (upd H5 D (.lst (ys ++ [v]))) N
noncomputable def Xt (ts:List Nat)(n:Nat)(is:List Nat)(te:TE)(vss:List (List V)):TE:=fun σ H Q=>∀ D,H D=none->kN n is te D vss (clr ts σ) (upd H D (.lst [])) fun H'=>Q (.ref D) H'
theorem JB {n:Nat}{is:List Nat}{te:TE}{D:Addr}{l:List (List V)}{σ:St}{H:Hp}{N:Hp->Prop}{i:Nat}{vs:List V}(e:l[i]?=some vs)(h:kN n is te D (l.drop i) σ H N):σ.length=n/\te (setAll is vs σ) H fun v H5=>∃ ys,H5 D=some (.lst ys)/\ys.length<sizeLine/\kN n is te D (l.drop (i+1)) (setAll is vs σ) (upd H5 D (.lst (ys ++ [v]))) N:=by
 have:l.drop i=vs :: l.drop (i+1):=by
  obtain ⟨hl,rfl⟩:=List.getElem?_eq_some_iff.mp e
  exact List.drop_eq_getElem_cons hl
 rw [this] at h
 exact h
section
variable {X:Cx}{es:List Expr}{kt:Nat}{tp gp:Pos}{elt:Expr}{scope:Scope}{pos:Pos}{te:TE}{g:Str}{a:Addr}{is ts:List Nat}
theorem X1 {bs:List Addr}{vss:List (List V)}{K:PySem.W.Frag}(hK:X.K=K)(hc:X.calm=true)(hsc:vK X.N ts scope X.env.kindOf=true)(hg:Gl X g)(hm:X.mg g=some (.ref a))(ha:KT1 K a (bs.map .ref))(hb:∀ (j:Nat) (c:Addr) vs,bs[j]?=some c->vss[j]?=some vs->KT1 K c vs)(hl:bs.length=vss.length)(hv:∀ vs ∈ vss,is.length=vs.length)
  (hgs:∀ cl s H fp,PG (cxC X scope cl s H fp) (.Tuple es kt tp) (ww K is.length (XM is))) (he:∀ cl s H fp,PE (cxC X scope cl s H fp) elt te)
  (hd:(g == ("__debug__":Str))=false:=by decide) (hs:∀ x,foldedSetIterable (.Name g gp) X.env x=pure x:=by intro _;rfl) :
  PE X (.ListComp elt [⟨.Tuple es kt tp,.Name g gp,[],0⟩] scope pos) (Xt ts X.N.length is te vss):=by
 subst hK
 intro pins s σ H Q I h
 refine ye hc hsc (Wl (Y2 (v:=.ref a) hg hm rfl hd)) hgs (fun _ _ _ _=>qD) he hs pins s σ H Q I ?_
 refine ⟨a,rfl,⟨_,ha.sq⟩,fun D hD=>?_⟩
 refine Ys (xs:=bs.map .ref) (g:=ww X.K is.length (XM is)) (tb:=fun E τ2 H3=>Zy τ2 H3 fun b H4=>if b=true then te τ2 H4 fun v H5=>∃ ys,H5 D=some (.lst ys)/\ys.length<sizeLine/\E.nx τ2 (upd H5 D (.lst (ys ++ [v]))) else E.nx τ2 H4) (D:={ nx:=fun _ H2=>Q (.ref D) H2,rt:=fun _ _=>False }) (fun i σ H=>kN X.N.length is te D (vss.drop i) σ H fun H'=>Q (.ref D) H') (h D hD) (fun _ _ _ _ _=>ha.sq) (fun i x σ H hx q=>?_) fun σ H q=>?_
 ·rw [List.getElem?_map] at hx
  cases hc:bs[i]? with
  | none=>rw [hc] at hx;cases hx
  | some c=>
   rw [hc] at hx;cases hx
   have hi:i<vss.length:=by rw [<- hl];exact (List.getElem?_eq_some_iff.mp hc).1
   have e:=List.getElem?_eq_getElem hi
   obtain ⟨q1,q2⟩:=JB e q
   have hvl:=hv _ (List.getElem_mem hi)
   refine ⟨c,_,rfl,(hb i c _ hc e).sq,hvl.symm,ZD hvl ?_⟩
   show te _ _ _
   exact q2
 ·rw [List.length_map,hl,List.drop_length] at q
  exact q
end
noncomputable def kF (n:Nat)(is:List Nat)(ae:AE):List (List (Option AV))->List AV->ASt->MH->(List AV->MH->Prop)->Prop
 | [],acc,_,M,N=>N acc M
 | xs :: r,acc,ρ,M,N=>ρ.length=n/\ae (vw is xs ρ) M fun x M1=>acc.length<sizeLine/\kF n is ae r (acc ++ [x]) (vw is xs ρ) M1 N
noncomputable def JR (ts:List Nat)(n:Nat)(is:List Nat)(ae:AE)(xss:List (List (Option AV))):AF:=fun ρ M Q=>kF n is ae xss [] (wV ts ρ) M Q
inductive Kg:List (List V)->List (List (Option AV))->Prop
 | nil:Kg [] []
 | cons {vs:List V} {xs:List (Option AV)} {vss:List (List V)} {xss:List (List (Option AV))}:VOs vs xs->Kg vss xss->Kg (vs :: vss) (xs :: xss)
theorem Jk {n:Nat}{is:List Nat}{te:TE}{ae:AE}{D:Addr}(he:zx te ae){vss:List (List V)}{xss:List (List (Option AV))}(hv:Kg vss xss):∀ {σ:St} {H:Hp} {O:Own} {ρ:ASt} {M:MH} {acc:List AV} {ys:List V} {N:Hp->Prop} {N':List AV->MH->Prop},Wf H O M->Er H O M σ ρ->O D->M D=none->H D=some (.lst ys)->zd H O M ys acc->kF n is ae xss acc ρ M N' ->
  (∀ acc' M' H' O' ys',N' acc' M'->ku D H O M H' O' M'->Wf H' O' M'->O' D->M' D=none->H' D=some (.lst ys')->zd H' O' M' ys' acc'->N H')->kN n is te D vss σ H N:=by
 induction hv with
 | nil=>exact fun w e o m hd r q k=>k _ _ _ _ _ q Ext.refl.x w o m hd r
 | cons h1 _ ih=>
  intro σ H O ρ M acc ys N N' w e o m hd r q k
  refine ⟨e.len.trans q.1,?_⟩
  refine (kR (D:=D) he).go (N:=fun σ' H'=>kN n is te D _ σ' H' N) (N':=fun acc' ρ' M'=>kF n is ae _ acc' ρ' M' N') w (e.setAll h1) o m hd r q.2 fun acc' ρ' M' σ' H' O' ys' q5 k5 w5 e5 o5 m5 d5 r5=>ih w5 e5 o5 m5 d5 r5 q5 fun acc2 M2 H2 O2 ys2 q6 k6 w6 o6 m6 d6 r6=>k _ _ _ _ _ q6 (k5.trans k6) w6 o6 m6 d6 r6
theorem wL {ts:List Nat}{n:Nat}{is:List Nat}{te:TE}{ae:AE}{vss:List (List V)}{xss:List (List (Option AV))}(hv:Kg vss xss)(he:zx te ae):wZ (Xt ts n is te vss) (JR ts n is ae xss):=⟨fun {σ H O ρ M Q Q'} w e q k=>by
 intro D hD
 have kp:=qY w hD (.lst [])
 refine Jk he hv (yS w hD _ (fun _ z=>nomatch z)) ((e.clr ts).ext kp) (.inl rfl) (w.fresh hD).2 zk .nil q fun acc' M' H' O' ys' q5 k5 w5 o5 m5 d5 r5=>?_
 refine k _ _ _ _ _ _ q5 ⟨fun a o ha ho=>?_,fun a ha hm=>?_,fun a hm=>k5.mst a hm⟩ w5 o5 m5 hD d5 r5
 ·obtain ⟨x1,x2⟩:=kp.fix a o ha ho
  exact k5.fix a o x2 x1
 ·obtain ⟨x1,x2,x3⟩:=kp.prv a ha hm
  obtain ⟨y1,y2,y3⟩:=k5.prv a (fun z=>w.ne a ha (by rw [z];exact hD)) x2 x3
  exact ⟨y1.trans x1,y2,y3⟩⟩
section
variable {X:Cx}{e hi st:Expr}{te:TE}{th ts:TO}{p2 pos:Pos}{K:PySem.W.Frag}
end
noncomputable def JH (tk tv:TE):TE:=fun σ H Q=>∀ p,H p=none->yf [(tk,tv)] σ (upd H p (.dT [])) fun ps H2=>H2 p=some (.dT [])/\∃ (b:Addr) (y:V) (k:List Key),ps=[(.ref b,y)]/\H2 b=some (.tup (k.map kV))/\Q (.ref p) (upd H2 p (.dT (jq [] k y)))
theorem KA {X:Cx}{pos:Pos}{e f:Expr}{tk tv:TE}(hu:X.A.units<cLine)(h:PPs X pos [some e] [f] [(tk,tv)]):PE X (.Dict [some e] [f] pos) (JH tk tv):=by
 intro pins s σ H Q I q
 have hn:=I.hok.fresh (Nat.le_refl s.heap.objs.size)
 have I1:=I.laid (a:=s.heap.objs.size) (o:=.dT []) (h':=s.heap.push { cls:=.type "dict",data:=.dict #[] }) (t':=s.toks) (fun _ _ q=>Heap.get?_push_of_some _ q) (Nat.le_refl _) (vC s.heap I.big)
 refine wpAny_Dict_any rfl rfl (fun z=>nomatch z) (Nat.le_of_ble_eq_true rfl) (thn (h pins _ σ _ _ I1 (q _ hn)) fun ws s2 ⟨ps,H2,I2,rel,e,b,y,k,ep,g,q2⟩=>?_)
 subst ep
 cases rel with
 | @cons _ w1 _ _ r1 rel=>
  cases rel
  obtain ⟨u1,v1⟩:=w1
  obtain ⟨ra,rb⟩:=r1
  cases (show u1=Value.ref b from ra)
  have hs:(0:Nat)+1<sizeLine:=by rw [sizeLine_eq];decide
  unfold storeAll
  rw [List.forIn_cons]
  refine wpAny_bind (wpAny_bind (xP hu I2 e g (by simp only [List.length_nil];omega) rb fun s3 I3=>wpAny_pure ?_))
  dsimp only
  rw [List.forIn_nil]
  exact wpAny_pure ⟨.ref s.heap.objs.size,_,I3,rfl,q2⟩
noncomputable def JT (ak av:AE):AE:=fun ρ M Q=>∀ D,M D=none->ak ρ (mup M D (.dT [])) fun y M1=>av ρ M1 fun v M2=>∃ ks:List Int,y=.d (.tup (ks.map .int))/\M2 D=some (.dT [])/\Q (.ref D) (mup M2 D (.dT [(ikT ks,v)]))
theorem Q2 {tk tv:TE}{ak av:AE}(h1:zx tk ak)(h2:zx tv av):zx (JH tk tv) (JT ak av):=⟨fun {σ H O ρ M Q Q'} w e q k p hp=>by
 have kx:=yI w hp (.dT []) (.dT [])
 have wx:Wf (upd H p (.dT [])) (xo O p) (mup M p (.dT [])):=Xr w hp (fun _ z=>nomatch z) ⟨[],zk,rfl,.nil⟩
 refine h1.go wx (e.ext kx) (q p (w.fresh hp).2) fun y M1 v1 H1 O1 q1 k1 w1 r1=>h2.go w1 ((e.ext kx).ext k1) q1 fun v M2 u H2 O2 q2 k2 w2 r2=>?_
 obtain ⟨ks,rfl,hm,q3⟩:=q2
 obtain ⟨b,rfl,hb⟩:=kW (Rep.ext k2 r1)
 obtain ⟨xs,hx,kr⟩:=w2.mo p _ hm
 have h0:xs=[]:=by
  have:=congrArg List.length kr.1
  exact List.eq_nil_of_length_eq_zero (by simpa using this)
 subst h0
 obtain ⟨k4,w4⟩:=xa w2 hm (yN (k:=ikT ks) kr r2)
 refine ⟨hx,b,u,ikT ks,rfl,hb,k _ _ _ _ _ q3 (((kx.trans k1).trans k2).trans k4) w4 ⟨rfl,?_⟩⟩
 rw [zf];exact fun z=>nomatch z⟩
theorem Ki {κ:Type}[DecidableEq κ]{xs:List (κ × V)}{kvs:List (κ × AV)}(k:κ)(h:xs.map (·.1)=kvs.map (·.1)):(jU xs k).isSome=((kvs.find? fun kv=>decide (kv.1=k)).map (·.2)).isSome:=by
 unfold jU
 rw [Option.isSome_map,Option.isSome_map]
 induction xs generalizing kvs with
 | nil=>cases kvs with
  | nil=>rfl
  | cons y r=>cases h
 | cons x r ih=>
  cases kvs with
  | nil=>cases h
  | cons y r'=>
   rw [List.map_cons,List.map_cons,List.cons.injEq] at h
   rw [List.find?_cons,List.find?_cons,h.1]
   cases decide (y.1=k) with
   | true=>rfl
   | false=>exact ih h.2
noncomputable def Kv (g:Bool->Bool)(ai ad:AE):AE:=fun ρ M Q=>ai ρ M fun y M1=>ad ρ M1 fun x M2=>∃ (p:Addr) (kvs:List (List Key × AV)) (ks:List Int),x=.ref p/\M2 p=some (.dT kvs)/\y=.d (.tup (ks.map .int))/\Q (.d (.bl (g (qG kvs (ikT ks)).isSome))) M2
theorem Qc {ty td:TE}{ai ad:AE}{g:Bool->Bool}(h1:zx ty ai)(h2:zx td ad):zx (fun σ H Q=>ty σ H fun y H1=>td σ H1 fun x H2=>∃ a o,x=.ref a/\xx H2 a y o/\Q (.bl (g o.isSome)) H2) (Kv g ai ad):=
 ⟨fun w e q k=>h1.go w e q fun y M1 v H1 O1 q1 k1 w1 r1=>h2.go w1 (e.ext k1) q1 fun x M2 u H2 O2 q2 k2 w2 r2=>by
  obtain ⟨p,kvs,ks,rfl,hm,rfl,q⟩:=q2
  cases r2.1
  obtain ⟨b,rfl,hb⟩:=kW (Rep.ext k2 r1)
  obtain ⟨xs,hx,kr⟩:=w2.mo p _ hm
  refine ⟨p,_,rfl,xx.t (k:=ikT ks) hx hb,k _ _ _ _ _ q (k1.trans k2) w2 ?_⟩
  rw [show (qG kvs (ikT ks)).isSome=(jU xs (ikT ks)).isSome from (Ki (ikT ks) kr.1).symm]
  exact Rep.bl⟩
theorem y8 {ty td:TE}{ai ad:AE}(h1:zx ty ai)(h2:zx td ad):zx (ya ty td) (Kv not ai ad):=Qc (g:=not) h1 h2
end L2
namespace Ot
open PySem PySem.Spec PyProof.Rows L2
noncomputable def top (i:Nat):Stmt:=PySem.Challenge.pw_ownturn_k48_fewest_exchanges.main.body.getD i (.Pass ⟨0,0,0,0⟩)
section
variable {P:Program}{w:World}{K:PySem.W.Frag}{mg:Str->Option Value}{base:Heap}{k:Nat}
local macro_rules | `(tactic| walk_at "rd")=>`(tactic| try simp only [Zy,W4,WO,Q7,tOp,tUn,rU,Yc,tC,tB,Ay,A3,Zt,rI0,rI,Ze,xi,W0,JC,JP,ww,Z4,YO,Ab,tCB,Jl,Ah,Vc,ZV,Vd,wN,BH,AW,rEq,Ac,X0,tBM,kM,Zo,Qy,wW,Wr,YI,KW,yf,QJ,Qw,tOr,Al,ZU,K6,cxK,K1,Xv,AN,iLT,Vj,yk,ya,Jc,tSl,Ke,ZZ,Bj,List.append_nil,
 List.getElem?_cons_zero,List.getElem?_cons_succ,Option.some.injEq,exists_eq_left',exists_eq_left,V.int.injEq,V.ref.injEq,V.bl.injEq,List.cons.injEq,and_true,true_and,and_assoc,decide_eq_true_eq,Bool.not_eq_true',decide_eq_false_iff_not,Bool.false_eq_true,if_false,if_true,reduceIte,exists_and_left,exists_and_right,List.set_cons_zero,List.set_cons_succ,List.nil_append,List.cons_append])
theorem jr {H:Hp}{a b:Addr}{o:HO}(h':H b=none)(h:H a=some o):a ≠ b:=zi h h'
theorem vI {H H':Hp}{l:Addr}(h:H' l=none)(e:Kp [] H H'):H l=none:=e.free h
theorem wa {K:PySem.W.Frag}{H H':Hp}{a:Addr}{xs:List V}(h:SqL K H a xs)(e:Kp [] H H'):SqL K H' a xs:=by
 rcases h with (h | ⟨o,h⟩) | h
 ·exact .inl (.inl (e _ _ (by simp) h))
 ·exact .inl (.inr ⟨o,e _ _ (by simp) h⟩)
 ·exact .inr h
theorem hsl:100000<sizeLine:=by rw [sizeLine_eq];decide
theorem AH {α:Type}(k:Nat)(v:α):(List.replicate k [v]).flatten=List.replicate k v:=by simp
theorem qS (i:Int){j:Int}(h:0<j):0<=i % j/\i % j<j:=⟨Int.emod_nonneg _ (by omega),Int.emod_lt_of_pos _ h⟩
theorem xb {i j:Int}(h1:0<=i)(h2:i<18446744073709551616):Kj i j:=.inl ⟨by omega,by omega⟩
theorem Zd {i j:Int}(h1:0<=j)(h2:j<18446744073709551616):Kj i j:=.inr ⟨by omega,by omega⟩
theorem b01 (c:Prop)[Decidable c]:0<=(if c then (1:Int) else 0):=by split <;> decide
theorem Zq {i j:Int}(h1:0<j)(h2:j<1073741824):Af i j:=⟨h1,h2⟩
local macro_rules | `(tactic| walk_at "ne")=>`(tactic| first | (with_reducible assumption) | exact Ne.symm (by with_reducible assumption) | exact jr (by with_reducible assumption) (by walk_at "hp") | exact Ne.symm (jr (by with_reducible assumption) (by walk_at "hp")))
local macro_rules | `(tactic| walk_at "hp")=>`(tactic| first | (with_reducible assumption) | (with_reducible exact zk) | ((with_reducible refine Eq.trans (zg ?ne) ?_);(case ne=>walk_at "ne");walk_at "hp"))
local macro_rules | `(tactic| walk_at "kp")=>`(tactic| first | (with_reducible assumption) | (with_reducible exact Kp.refl) | ((with_reducible refine Kp.trans ?_ (Kp.new _ ?h));(case h=>with_reducible assumption);walk_at "kp") | ((with_reducible refine Kp.trans ?_ (Kp.set _ ?h));(case h=>(simp;done));walk_at "kp"))
local macro_rules | `(tactic| walk_at "fr")=>`(tactic| first | (with_reducible assumption) | exact vI (by with_reducible assumption) (by walk_at "kp"))
local macro_rules | `(tactic| walk_at "sz")=>`(tactic| (simp only [List.length_cons,List.length_nil,List.length_map,List.length_append,List.length_replicate,List.length_take,List.length_drop,vG,AH,Nat.zero_add,Nat.one_mul];omega))
local macro_rules | `(tactic| walk_at "fact")=>`(tactic| first | (with_reducible assumption) | exact rfl | exact SqL.of (by walk_at "hp") | exact SqT.of (by walk_at "hp") | exact Or.inl (SqL.of (by walk_at "hp")) | exact Or.inr (SqT.of (by walk_at "hp")) | exact Or.inl (by with_reducible assumption) | exact wa (by with_reducible assumption) (by walk_at "kp") | exact Or.inl (wa (by with_reducible assumption) (by walk_at "kp")) | exact Exists.intro _ (SqL.of (by walk_at "hp")) | exact Exists.intro _ (wa (by with_reducible assumption) (by walk_at "kp")) | (walk_at "hp") | decide | omega | exact xb (by omega) (by omega) | exact Zd (by omega) (by omega) | exact Zq (by omega) (by omega) | exact ⟨by omega,by omega⟩ | (walk_at "sz") | exact ⟨by decide,by decide,by decide⟩ | exact Zd (b01 _) (b01' _) | (walk_at "fr"))
local macro_rules | `(tactic| walk_at "x1")=>`(tactic| first
 | ((with_reducible refine Exists.intro ?w (And.intro ?h ?_));(case h=>walk_at "fact"))
 | ((with_reducible refine And.intro ?h ?_);(case h=>walk_at "fact"))
 | ((with_reducible refine Exists.intro ?w (Exists.intro ?w2 (And.intro ?h ?_)));(case h=>walk_at "fact")))
local macro_rules | `(tactic| walk_at "xs")=>`(tactic| repeat walk_at "x1")
local macro_rules | `(tactic| walk_at "sim1") => `(tactic| first
 | ((with_reducible apply simX_tryR exs_def);intro HX_ OX_ MX_ E_ EA_ hE_)
 | ((with_reducible apply sim_try);intro HX_ OX_ MX_ E_ EA_ hE_)
 | ((with_reducible apply sim_try0);intro HX_ OX_ MX_ E_ EA_ hE_)
 | (with_reducible first | assumption | apply Jj | exact YK | exact Ad | exact VL | exact Wn | exact XC | exact Xg | exact QT | exact Jy | exact Xl | exact XH | exact V8 | exact X4 | exact Jf | exact Vu | exact Jn | exact Yb | exact Yu | exact Am | exact JX | exact Qx | exact Yy | exact Jg | exact wI | exact xK | exact jZ | apply y8 | apply Q2 | apply QL | apply QD | apply Qe | apply wG | apply wr | apply Xf | apply YE | apply YU | apply Y1 | apply Yg | apply Ji | apply XJ | apply Qs | apply JD | apply QA | apply J9 | apply Km | apply A2 | apply Wu | apply XW | apply Wk | apply XT | apply YD | apply WV | apply X5 | apply KS | apply XD | apply Xh | apply YH | apply W6 | apply V2 | apply kR | apply Kn | apply yC | apply QZ | apply YQ | apply V6 | apply Q4 | apply Zm | apply WZ | apply yi))
local macro_rules | `(tactic| walk_at "sim")=>`(tactic| repeat' walk_at "sim1")
local macro_rules | `(tactic| walk_at "ra")=>`(tactic| try simp only [Kv,JT,JI,Xj,KG,wD,Zi,kP,Vb,BD,aC,aOp,aUn,A7,Vo,aCB,Vl,aFz,aOw,Bu,AU,aB,vY,aOr,BB,KN,Zj,Vm,A9,A0,yD,Y9,Jh,Vs,Ve,asL,AJ,VY,aiS,Bd,Bq,aiE,AQ,xE,Xa,aI,aI0,aU,aIx,Vp,Az,Bo,AD,bI1,bI2,Vg,K7,fCB,KR,AY,Y6,aBM,ZY,wV,VW,wY,WF,JF,K4,Bm,Bz,Bv,Bs,By,BJ,Xu,Qu,Option.map_some,W8,WM,Wz,WI,VP,W9,WQ,V5,V7,Ap,VN,WD,V9,VM,WX,Aa,VF,V0,Wg,Vy,VC,Ag,W2,VZ,Wy,VG,Aw,VD,VU,WL,Wi,WU,WG,Wd,Ai,Wm,Ye,Qz,ql,jk,YC,qE,Vh,Ww,VB,Ae,YZ,YR,Y3,XG,YN,YY,YM,jT,BG,KM,WW,Vz,VQ,JJ,VJ,As,An,VX,Wb,Wt,Wv,id,decide_true,decide_false,Bool.decide_eq_true,not_true_eq_false,not_false_eq_true,Xw,
 List.getElem?_cons_zero,List.getElem?_cons_succ,Option.some.injEq,exists_eq_left',exists_eq_left,AV.d.injEq,AV.ref.injEq,Dat.int.injEq,Dat.bl.injEq,Dat.str.injEq,Dat.lst.injEq,Dat.tup.injEq,Dat.ty.injEq,List.cons.injEq,and_true,true_and,and_assoc,decide_eq_true_eq,Bool.not_eq_true',decide_eq_false_iff_not,Bool.false_eq_true,if_false,if_true,reduceIte,exists_and_left,exists_and_right,List.set_cons_zero,List.set_cons_succ,List.nil_append,List.cons_append,List.length_map,List.map_cons,List.map_nil,Nat.zero_le,Bool.not_true,Bool.not_false,Bool.true_eq_false,eq_self,List.length_cons,List.length_nil])
local macro_rules | `(tactic| walk_at "sk")=>`(tactic| (refine zm fun r9 hr9=>?_;walk_at "ra";refine ⟨_,rfl,_,rfl,by rw [KM];omega,?_⟩;rw [JJ,if_neg (by decide +kernel)];subst hr9))
theorem vg (ns:List Int)(lo hi:Option Int):Qr (ns.map V.int) lo hi=List.map V.int ((ns.drop (HT.sIx ns.length 0 lo)).take (HT.sIx ns.length ns.length hi - HT.sIx ns.length 0 lo)):=by
 unfold Qr
 rw [List.length_map,<- List.map_drop,<- List.map_take]
theorem Z3 (cs:List Int)(j:Nat)(v:Int):(cs.map V.int).set j (.int v)=(cs.set j v).map V.int:=by rw [List.map_set]
theorem kG {cs:List Int}{k:Int}(h0:0<=k)(h1:k<cs.length):ixN (cs.map V.int).length k=some k.toNat/\atI (cs.map V.int) k=some (.int (cs.getD k.toNat 0)):=by
 have hk:k.toNat<cs.length:=by omega
 have e1:ixN (cs.map V.int).length k=some k.toNat:=by unfold ixN;rw [List.length_map,if_pos h0,if_pos h1]
 refine ⟨e1,?_⟩
 unfold atI
 rw [e1]
 show (cs.map V.int)[k.toNat]?=_
 rw [List.getElem?_map,List.getD_eq_getElem?_getD,List.getElem?_eq_getElem hk];rfl
theorem yB {ns:List Int}{i:Nat}{x:V}(h:(ns.map V.int)[i]?=some x):x=.int (ns.getD i 0)/\i<ns.length:=by
 rw [List.getElem?_map] at h
 cases e:ns[i]? with
 | none=>rw [e] at h;cases h
 | some v=>
  rw [e] at h
  cases h
  exact ⟨by rw [List.getD_eq_getElem?_getD,e];rfl,(List.getElem?_eq_some_iff.mp e).1⟩
noncomputable abbrev Zh:Stmt:=top 6
theorem ZX:zJ ["_law_box_here","_law_many","_law_once","_law_found"] ["_law_box_here","_law_many"] (zn Zh):=⟨rfl,rfl,rfl,by decide +kernel,rfl,by decide +kernel,by decide +kernel⟩
noncomputable def wz:Sp:=fun vs H Q _=>∃ (b:Addr) (many:Int) (N:Nat),vs=[.ref b,.int many]/\Bx H b N/\N<1000000000/\0<many/\many<1073741824/\∀ r H',Kp [b] H H'->Bx H' b (N+1)->0<=r->r<many->Q (.int r) H'
theorem Yx (a:At K mg "_law_take" Zh)(B:Blt mg):Df P w K mg base "_law_take" ["_law_box_here","_law_many"] 1 wz:=by
 refine vP (k:=0) a ZX (fun _ _ _ _ _ _=>Pn2_ fun _ _=>rfl) (fun vs H Q E h=>?_) (fun f cdv A outer s H vs Q E hr h=>?_)
 ·obtain ⟨b,m,N,rfl,_⟩:=h;rfl
 obtain ⟨b,m,N,rfl,⟨x,y,z,hb,hx,hy,hy',hz,hz'⟩,hN,hm,hm',q⟩:=h
 have sc:=ZX
 refine ⟨_,(ze (j5 (qw A6 (zC zN (pv 0) zc (fun _ _=>rfl)) zc (zX _)) (ze (kg (zr vF rfl B.divmod QP (za (zC zN (pv 0) zc (fun _ _=>rfl)) (za (pv 1) zb))) (qB (K:=K) 2 rfl rfl (zB (jS (pv 0) zc qj) (zB (zv (i:=3) sc.nd rfl (by first | exact Or.inl rfl | exact Or.inr rfl)) qF))))
  (zt (qa (pv 3)))) qx)
  (ze (kg (zo zI (zC zN (pv 0) zc (fun _ _=>rfl)) zc) (jS (pv 0) zc qj))
  (ze (zu (i:=2) sc.nd rfl (by first | exact Or.inl rfl | exact Or.inr rfl) (zo qz (zo qt (zo zI (zC zN (pv 0) zc (fun _ _=>rfl)) (zo qt zc (zC zN (pv 0) zc (fun _ _=>rfl)))) (zo zI zc (zC zN (pv 0) zc (fun _ _=>rfl)))) zc))
  (ze (kg (zo qz (zo zI (zo qt (pv 2) (zo zI (zo qz (pv 2) zc) zc)) (zC zN (pv 0) zc (fun _ _=>rfl))) zc) (jS (pv 0) zc qj))
  (zt (qa (zo qz (zo yM (zo qz (zo qt (zC zN (pv 0) zc (fun _ _=>rfl)) (zo zI (zo qz (zC zN (pv 0) zc (fun _ _=>rfl)) zc) zc)) zc) zc) (pv 1)))))))),?_⟩
 rw [show start ["_law_box_here","_law_many","_law_once","_law_found"] [V.ref b,V.int m]=[some (.ref b),some (.int m),none,none] from rfl]
 walk_at "rd"
 walk_at "xs"
 refine Bp (fun c=>?_) (fun c=>?_)
 ·walk_at "xs"
  refine fun p hp=>?_
  walk_at "xs"
  refine q _ _ ((Kp.new _ hp).trans (Kp.set _ (by simp))) ⟨_,_,_,zk,Int.ediv_nonneg hx (by omega),hy,hy',hz,by omega⟩ (qS x hm).1 (qS x hm).2
 ·walk_at "xs"
  refine q _ _ ((Kp.set _ (by simp)).trans (Kp.set _ (by simp))) ⟨_,_,_,zk,hx,?_,?_,?_,?_⟩ (qS _ hm).1 (qS _ hm).2
  ·exact (qS _ (by decide)).1
  ·exact Int.lt_trans (qS _ (by decide)).2 (by decide)
  ·omega
  ·omega
noncomputable abbrev Xp:Stmt:=top 5
theorem Jm:zJ ["_law_script","_law_k","_law_cell"] ["_law_script","_law_k"] (zn Xp):=⟨rfl,rfl,rfl,by decide +kernel,rfl,by decide +kernel,by decide +kernel⟩
noncomputable def Y8:Sp:=fun vs H Q _=>∃ (a:Addr) (k:Int) (cs:List Int),vs=[.ref a,.int k]/\H a=some (il cs)/\0<=k/\k<=1000/\cs.length<=1000/\∀ p H',Kp [] H H'->H p=none->Bx H' p 0->Q (.ref p) H'
theorem Yd {cs:List Int}{k:Int}(h0:0<=k):∃ c:Int,atI (cs.map V.int ++ List.replicate (k+1).toNat (V.int 0)) k=some (.int c):=by
 have e:cs.map V.int ++ List.replicate (k+1).toNat (V.int 0)=(cs ++ List.replicate (k+1).toNat 0).map V.int:=by simp
 have ek:k=((k.toNat:Nat):Int):=by omega
 have hk:k.toNat<(cs ++ List.replicate (k+1).toNat (0:Int)).length:=by rw [List.length_append,List.length_replicate];omega
 refine ⟨(cs ++ List.replicate (k+1).toNat 0)[k.toNat],?_⟩
 rw [e]
 have q:atI ((cs ++ List.replicate (k+1).toNat (0:Int)).map V.int) ((k.toNat:Nat):Int)=some (.int (cs ++ List.replicate (k+1).toNat 0)[k.toNat]):=YG (by rw [List.getElem?_map,List.getElem?_eq_getElem hk] <;> rfl)
 rw [<- ek] at q
 exact q
theorem Vw (a:At K mg "_law_box" Xp)(B:Blt mg):Df P w K mg base "_law_box" ["_law_script","_law_k"] 1 Y8:=by
 refine vP (k:=0) a Jm (fun _ _ _ _ _ _=>Pn2_ fun _ _=>rfl) (fun vs H Q E h=>?_) (fun f cdv A outer s H vs Q E hr h=>?_)
 ·obtain ⟨a,k,cs,rfl,_⟩:=h;rfl
 obtain ⟨a,k,cs,rfl,ha,hk,hk',hcs,q⟩:=h
 have sc:=Jm
 have hsl:=hsl
 refine ⟨_,(ze (zu (i:=2) sc.nd rfl (by first | exact Or.inl rfl | exact Or.inr rfl) (zC zN (zo VH (pv 0) (zo VR (qi (za zc zb)) (zo zI (pv 1) zc))) (pv 1) (fun _ _=>rfl)))
  (zt (qa (qi (za (zo qt (zr kS rfl B.abs wk (za (pv 2) zb)) (zz qy rfl B.int jQ (za (jE BC (zr kS rfl B.abs wk (za (pv 2) zb)) (zo WS zc zc) (zX _)) zb))) (za (zo qz (zo qt (zo zI (zo zI (zo qz (pv 2) zc) (zo qt zc (pv 1))) zc) zc) zc) (za zc zb))))))),?_⟩
 rw [show start ["_law_script","_law_k","_law_cell"] [V.ref a,V.int k]=[some (.ref a),some (.int k),none] from rfl]
 walk_at "rd"
 walk_at "xs"
 intro p1 hp1
 walk_at "xs"
 intro p2 hp2
 walk_at "xs"
 intro p3 hp3
 simp only [AH] at hp3 ⊢
 obtain ⟨c,hc⟩:=Yd (cs:=cs) hk
 walk_at "xs"
 intro p4 hp4
 refine q _ _ (by walk_at "kp") (by walk_at "fr") ⟨_,_,_,zk,?_,?_,?_,?_,?_⟩
 ·exact Int.mul_nonneg (by split <;> omega) (b01 _)
 ·exact (qS _ (by decide)).1
 ·exact Int.lt_trans (qS _ (by decide)).2 (by decide)
 ·decide
 ·decide
noncomputable abbrev xl:Stmt:=top 7
theorem xV:zJ ["_law_script","_law_many","_law_cells","_law_k","_law_cell"] ["_law_script","_law_many"] (zn xl):=⟨rfl,rfl,rfl,by decide +kernel,rfl,by decide +kernel,by decide +kernel⟩
noncomputable def vh (K:PySem.W.Frag):Sp:=fun vs H Q _=>∃ (a:Addr) (m:Int) (ns:List Int),vs=[.ref a,.int m]/\SqL K H a (ns.map V.int)/\0<m/\m<=60/\ns.length<=63/\∀ p H' cs,Kp [] H H'->H p=none->H' p=some (il cs)->cs.length<=1000->Q (.ref p) H'
theorem Z9 (a:At K mg "_law_folded" xl)(B:Blt mg):Df P w K mg base "_law_folded" ["_law_script","_law_many"] 1 (vh K):=by
 refine vP (k:=0) a xV (fun _ _ _ _ _ _=>Pn2_ fun _ _=>rfl) (fun vs H Q E h=>?_) (fun f cdv A outer s H vs Q E hr h=>?_)
 ·obtain ⟨a,k,cs,rfl,_⟩:=h;rfl
 obtain ⟨a,m,ns,rfl,ha,hm,hm',hns,q⟩:=h
 obtain ⟨M,rfl⟩:∃ M:Nat,m=M:=⟨m.toNat,by omega⟩
 have sc:=xV
 have hsl:=hsl
 refine ⟨_,(ze (zu (i:=2) sc.nd rfl (by first | exact Or.inl rfl | exact Or.inr rfl) (zz qQ rfl B.list yl (za (y4 ZL (pv 0) yz (kL (pv 1))) zb)))
  (ze (qT PassesOwn.never rfl (Ya rfl B.enumerate (za (y4 ZL (pv 0) (kL (pv 1)) (kL zc)) zb)) (qB (K:=K) 2 rfl rfl (zB (zv (i:=3) sc.nd rfl (by first | exact Or.inl rfl | exact Or.inr rfl)) (zB (zv (i:=4) sc.nd rfl (by first | exact Or.inl rfl | exact Or.inr rfl)) qF))) (zt (kg (zo zI (zC zN (pv 2) (zo qz (pv 3) (pv 1)) (fun _ _=>rfl)) (zo qt (pv 4) (zo zI (pv 3) zc))) (jS (pv 2) (zo qz (pv 3) (pv 1)) qj))))
  (zt (qa (pv 2))))),?_⟩
 rw [show start ["_law_script","_law_many","_law_cells","_law_k","_law_cell"] [V.ref a,V.int M]=[some (.ref a),some (.int M),none,none,none] from rfl]
 walk_at "rd"
 walk_at "xs"
 intro p1 hp1
 rw [vg]
 walk_at "xs"
 intro p2 hp2
 walk_at "xs"
 intro p3 hp3
 rw [vg]
 have e63:(63:Int)=((63:Nat):Int):=rfl
 simp only [HT.sIx_none,HT.sIx_nat,e63,List.drop_zero,Nat.sub_zero] at hp2 hp3 ⊢
 walk_at "xs"
 generalize hc0:ns.take (min M ns.length)=c0 at hp2 hp3 ⊢
 generalize hd0:(ns.drop (min M ns.length)).take (min 63 ns.length - min M ns.length)=d0 at hp2 hp3 ⊢
 have lc:c0.length=min M ns.length:=by rw [<- hc0,List.length_take];omega
 have ld:d0.length<=ns.length - M:=by rw [<- hd0,List.length_take,List.length_drop];omega
 have n23:p2 ≠ p3:=by walk_at "ne"
 refine Yv (xs:=d0.map V.int) (fun i τ H'=>∃ u v cs,τ=[some (.ref a),some (.int M),some (.ref p2),u,v]/\Kp [p2] (upd (upd (upd H p1 (HO.lst (List.map V.int c0))) p2 (HO.lst (List.map V.int c0))) p3 (HO.lst (List.map V.int d0))) H'/\H' p2=some (il cs)/\cs.length=c0.length) ?_ ?_ ?_ ?_
 ·exact ⟨none,none,c0,rfl,Kp.refl,by walk_at "hp",rfl⟩
 ·rintro i τ H' _ ⟨u,v,cs,rfl,kp,_⟩
  exact SqL.of (kp _ _ (by simp [Ne.symm n23]) (by walk_at "hp"))
 ·rintro i x pp τ H' hx hpp ⟨u,v,cs,rfl,kp,hcs,hl⟩
  obtain ⟨rfl,hi⟩:=yB hx
  have b1:=qS (i:Int) hm
  obtain ⟨g1,g2⟩:=kG (cs:=cs) (k:=(i:Int) % (M:Int)) b1.1 (by omega)
  have hcs':upd H' pp (HO.tup [V.int i,V.int (d0.getD i 0)]) p2=some (il cs):=by walk_at "hp"
  walk_at "rd"
  walk_at "xs"
  refine ⟨(kp.trans (Kp.new _ hpp)).trans (Kp.set _ (by simp)),_,zk.trans (congrArg some (congrArg HO.lst (Z3 _ _ _))),by rw [List.length_set];exact hl⟩
 ·rintro τ H' ⟨u,v,cs,rfl,kp,hcs,hl⟩
  walk_at "rd"
  refine q _ _ cs (fun c o hc hh=>kp c o ?_ ((((Kp.new _ hp1).trans (Kp.new _ hp2)).trans (Kp.new _ hp3)) c o hc hh)) (by walk_at "fr") hcs (by omega)
  have:c ≠ p2:=jr (vI hp2 (Kp.new _ hp1)) hh
  simpa using this
noncomputable abbrev vD:List Int:=[0,1,2,3,4,5,6,7,4,5,6,7]
noncomputable abbrev xn:Stmt:=top 8
theorem xJ:zJ ["_law_box_here","_law_most","_law_few"] ["_law_box_here","_law_most"] (zn xn):=⟨rfl,rfl,rfl,by decide +kernel,rfl,by decide +kernel,by decide +kernel⟩
noncomputable def vM:Sp:=fun vs H Q _=>∃ (b:Addr) (m:Int) (N:Nat),vs=[.ref b,.int m]/\Bx H b N/\N<100000000/\16<=m/\m<=1000/\∀ r H',Kp [b] H H'->Bx H' b (N+10)->0<=r->r<=m+24->Q (.int r) H'
theorem Q3 (a:At K mg "_law_length" xn)(B:Blt mg)(D_law_take:Df P w K mg base "_law_take" ["_law_box_here","_law_many"] 1 wz):Df P w K mg base "_law_length" ["_law_box_here","_law_most"] 2 vM:=by
 refine vP (k:=1) a xJ (fun _ _ _ _ _ _=>Pn2_ fun _ _=>rfl) (fun vs H Q E h=>?_) (fun f cdv A outer s H vs Q E hr h=>?_)
 ·obtain ⟨a,k,cs,rfl,_⟩:=h;rfl
 obtain ⟨b,m,N,rfl,hb,hN,hm,hm',q⟩:=h
 have sc:=xJ
 have hsl:=hsl
 refine' ⟨_,ze (j5 (qw Vn (zO D_law_take hr rfl (za (pv 0) (za zc zb))) zc (zX _)) (zt (qa (zo yu (pv 1) (zO D_law_take hr rfl (za (pv 0) (za (zr (xZ rfl) rfl B.max Xm (za zc (za (zo yM (pv 1) zc) zb))) zb)))))) qx) (ze _ _),?_⟩
 rotate_left 2
 ·refine' zu (i:=2) _ _ _ _ _ _
  rotate_left 1
  ·exact sc.nd
  ·rfl
  ·first | exact Or.inl rfl | exact Or.inr rfl
  ·refine' zC _ _ _ _
   rotate_left 3
   ·exact zN
   ·refine' qi _
    rotate_left 1
    refine' ZA (is:=[0,1,2,3,4,5,6,7,4,5,6,7]) _
    rfl
   ·exact (zO D_law_take hr rfl (za (pv 0) (za zc zb)))
   ·exact (fun _ _=>rfl)
  ·rfl
  ·first | exact .inl rfl | exact .inr rfl | assumption
 ·refine' zt _
  rotate_left 1
  refine' qa _
  rotate_left 1
  refine' zC _ _ _ _
  rotate_left 3
  ·exact zN
  ·refine' qi _
   rotate_left 1
   refine' za _ _ _
   rotate_left 2
   ·exact pv 2
   ·exact (za (zo zI zc (zO D_law_take hr rfl (za (pv 0) (za zc zb)))) zb)
   ·rfl
  ·exact (zz qy rfl B.int jQ (za (jE Vn (zO D_law_take hr rfl (za (pv 0) (za zc zb))) zc (zX _)) zb))
  ·exact (fun _ _=>rfl)
 rw [show start ["_law_box_here","_law_most","_law_few"] [V.ref b,V.int m]=[some (.ref b),some (.int m),none] from rfl]
 walk_at "rd"
 refine ⟨b,16,N,rfl,hb,by omega,by decide,by decide,fun r1 H1 k1 b1 l1 u1=>⟨rfl,?_⟩⟩
 walk_at "rd"
 refine Bp (fun c=>?_) (fun c=>?_)
 ·walk_at "xs"
  refine ⟨b,_,_,rfl,b1,by omega,by split <;> omega,by split <;> omega,fun r2 H2 k2 b2 l2 u2=>⟨_,rfl,?_⟩⟩
  refine q _ _ (k1.trans k2) (b2.mono (by omega)) ?_ ?_
  ·split at u2 <;> omega
  ·omega
 ·walk_at "xs"
  intro p1 hp1
  refine ⟨b,12,_,rfl,b1.new hp1,by omega,by decide,by decide,fun r2 H2 k2 b2 l2 u2=>?_⟩
  have hne:p1 ≠ b:=by obtain ⟨_,_,_,h,_⟩:=b1;exact Ne.symm (zi h hp1)
  have h2:=k2 p1 _ (by simpa using hne) zk
  obtain ⟨e1,e2⟩:=kG (cs:=vD) (k:=r2) l2 (by simpa using u2)
  refine ⟨_,_,rfl,SqL.of h2,_,e2,b,17,_,rfl,b2,by omega,by decide,by decide,fun r3 H3 k3 b3 l3 u3=>?_⟩
  have hv:0<=vD.getD r2.toNat 0/\vD.getD r2.toNat 0<=(24:Int):=by
   have:∀ j:Nat,0<=vD.getD j 0/\vD.getD j 0<=(24:Int):=by
    intro j
    by_cases hj:j<12
    ·have hd:∀ j:Nat,j<12->0<=vD.getD j 0/\vD.getD j 0<=(24:Int):=by decide
     exact hd j hj
    ·have e:vD.getD j (0:Int)=0:=by rw [List.getD_eq_getElem?_getD,List.getElem?_eq_none (by simpa using hj)];rfl
     rw [e];decide
   exact this _
  refine ⟨_,rfl,by show 2<=sizeLine;decide,fun p2 hp2=>?_⟩
  refine ⟨b,6,_,rfl,b3.new hp2,by omega,by decide,by decide,fun r4 H4 k4 b4 l4 u4=>⟨rfl,?_⟩⟩
  have hne2:p2 ≠ b:=by obtain ⟨_,_,_,h,_⟩:=b3;exact Ne.symm (zi h hp2)
  have h4:=k4 p2 _ (by simpa using hne2) zk
  have fin:∀ r,0<=r->r<=24->Q (.int r) H4:=fun r g1 g2=>by
   refine q r H4 ?_ (b4.mono (by omega)) g1 (by omega)
   exact (((k1.trans (Kp.new _ hp1)).trans k2).trans k3).trans ((Kp.new _ hp2).trans k4)
  by_cases c4:r4=0
  ·subst c4
   exact ⟨_,SqL.of h4,_,rfl,fin _ (by omega) (by omega)⟩
  ·rw [if_neg (fun z=>c4 (V.int.inj z))]
   exact ⟨_,SqL.of h4,_,rfl,fin _ hv.1 hv.2⟩
noncomputable def cE:Option Int->V
 | none=>.non
 | some x=>.int x
inductive De where
 | swap (a b:Nat) | take (p:Nat) | move (p g:Nat) | lay (g:Nat)
noncomputable abbrev ES:=List (Option Int) × Option Int
inductive DoE:De->ES->ES->Prop
 | swap {a b:Nat} {row:List (Option Int)} {h:Option Int} {x y:Int}:a ≠ b->row[a]?=some (some x)->row[b]?=some (some y)->DoE (.swap a b) (row,h) ((row.set a (some y)).set b (some x),h)
 | take {p:Nat} {row:List (Option Int)} {x:Int}:row[p]?=some (some x)->DoE (.take p) (row,none) (row.set p none,some x)
 | move {p g:Nat} {row:List (Option Int)} {h:Option Int} {x:Int}:row[p]?=some (some x)->row[g]?=some none->DoE (.move p g) (row,h) ((row.set p none).set g (some x),h)
 | lay {g:Nat} {row:List (Option Int)} {x:Int}:row[g]?=some none->DoE (.lay g) (row,some x) (row.set g (some x),none)
inductive kY:List De->ES->ES->Prop
 | nil {s:ES}:kY [] s s
 | cons {d:De} {l:List De} {s t u:ES}:DoE d s t->kY l t u->kY (d :: l) s u
theorem kY.append {a b:List De}{s t u:ES}(h1:kY a s t)(h2:kY b t u):kY (a ++ b) s u:=by
 induction h1 with
 | nil=>exact h2
 | cons d _ ih=>exact .cons d (ih h2)
noncomputable def Xc:ASp:=fun xs M Q=>∃ (b:Addr) (many:Int) (N:Nat),xs=[.ref b,.d (.int many)]/\BxM M b N/\N<1000000000/\0<many/\many<1073741824/\∀ r M',BxS M M' b (N+1)->0<=r->r<many->Q (.d (.int r)) M'
theorem Yj (vs:List V)(H:Hp)(Q:VK)(E:XK)(h:cSp Xc vs H Q E):wz vs H Q E:=by
 obtain ⟨xs,M,O,Q',w,r,⟨b,many,N,rfl,hb,h1,h2,h3,q⟩,k⟩:=h
 obtain ⟨v,u,rfl,rv,ru⟩:=kE r
 rw [zA ru,rv.1]
 refine ⟨b,many,N,rfl,hb.bx w,h1,h2,h3,fun r H' kp hb' r0 r1=>?_⟩
 obtain ⟨M',s,e,w'⟩:=Jo w hb kp hb'
 exact k _ _ _ _ _ (q r M' s r0 r1) e w' .int
noncomputable def AC:ASp:=fun xs M Q=>∃ (x:AV) (k:Int) (cs:List Int),xs=[x,.d (.int k)]/\zL x M=some (cs.map fun i=>.d (.int i))/\0<=k/\k<=1000/\cs.length<=1000/\∀ p o,M p=none->BxM (mup M p o) p 0->Q (.ref p) (mup M p o)
theorem W7 (vs:List V)(H:Hp)(Q:VK)(E:XK)(h:cSp AC vs H Q E):Y8 vs H Q E:=by
 obtain ⟨xs,M,O,Q',w,r,⟨x,n,cs,rfl,hx,h1,h2,h3,q⟩,k⟩:=h
 obtain ⟨v,u,rfl,rv,ru⟩:=kE r
 rw [zA ru]
 obtain ⟨a,rfl,ha⟩:=KU w rv hx
 refine ⟨a,n,cs,rfl,ha,h1,h2,h3,fun p H' kp hp hb'=>?_⟩
 obtain ⟨x',y',z',g1,g2⟩:=hb'
 obtain ⟨e1,w1⟩:=KY w kp
 have fr:=w.fresh hp
 have e2:=Ext.owned (O':=xo O p) (p:=p) w ⟨fun a o h e=>⟨(e1.fix a o h e).1,fun z=>z.elim (zi e hp) h⟩,fun a h e=>⟨(e1.prv a h e).1,.inr h,e⟩,fun _ h=>h⟩ hp (.lst ([x',y',z'].map fun i=>.d (.int i)))
 refine k _ _ _ _ _ (q p _ fr.2 ⟨x',y',z',zf,g2⟩) e2 (v4 (O:=xo O p) (xs:=[V.int x',V.int y',V.int z']) ⟨fun a o h=>?_,fun a h=>.inr (w1.own a h),fun a h=>?_⟩ (.inl rfl) fr.2 g1 (wb [x',y',z'])) ⟨rfl,by rw [zf];exact fun z=>nomatch z⟩
 ·have e3:Ext H O M H' (xo O p) M:=⟨fun a o h e=>⟨(e1.fix a o h e).1,fun z=>z.elim (zi e hp) h⟩,fun a h e=>⟨(e1.prv a h e).1,.inr h,e⟩,fun _ h=>h⟩
  refine qf.ext e3 ?_ (w.mo a o h)
  obtain ⟨u,hu,_⟩:=w.al a (w.own a (qk h))
  rw [hu];exact kp a u (by simp) hu
 ·rcases h with rfl | h
  ·exact ⟨_,g1,fun xs z=>nomatch z⟩
  ·exact w1.al a h
noncomputable def ZW (K:PySem.W.Frag):ASp:=fun xs M Q=>∃ (m:Int) (ns:List Int),xs=[.d (.scr K ns),.d (.int m)]/\0<m/\m<=60/\ns.length<=63/\∀ cs:List Int,cs.length<=1000->Q (.d (.lst (cs.map .int))) M
theorem QI (vs:List V)(H:Hp)(Q:VK)(E:XK)(h:cSp (ZW K) vs H Q E):vh K vs H Q E:=by
 obtain ⟨xs,M,O,Q',w,r,⟨m,ns,rfl,h1,h2,h3,q⟩,k⟩:=h
 obtain ⟨v,u,rfl,rv,ru⟩:=kE r
 rw [zA ru]
 obtain ⟨a,rfl,ha⟩:=XX rv
 refine ⟨a,m,ns,rfl,ha,h1,h2,h3,fun p H' cs kp hp hc lc=>?_⟩
 obtain ⟨e1,w1⟩:=KY w kp
 exact k _ _ _ _ _ (q cs lc) e1 w1 (Kt (w.fresh hp).1 hc)
noncomputable def ZC:ASp:=fun xs M Q=>∃ (b:Addr) (m:Int) (N:Nat),xs=[.ref b,.d (.int m)]/\BxM M b N/\N<100000000/\16<=m/\m<=1000/\∀ r M',BxS M M' b (N+10)->0<=r->r<=m+24->Q (.d (.int r)) M'
theorem Qo (vs:List V)(H:Hp)(Q:VK)(E:XK)(h:cSp ZC vs H Q E):vM vs H Q E:=by
 obtain ⟨xs,M,O,Q',w,r,⟨b,many,N,rfl,hb,h1,h2,h3,q⟩,k⟩:=h
 obtain ⟨v,u,rfl,rv,ru⟩:=kE r
 rw [zA ru,rv.1]
 refine ⟨b,many,N,rfl,hb.bx w,h1,h2,h3,fun r H' kp hb' r0 r1=>?_⟩
 obtain ⟨M',s,e,w'⟩:=Jo w hb kp hb'
 exact k _ _ _ _ _ (q r M' s r0 r1) e w' .int
theorem yP {b:Addr}{M0 M:MH}{N c n:Nat}{most:Int}(R:Option AV->ASt)(j:Nat){o0:Option AV}{ae:AE}{Nx:List AV->ASt->MH->Prop}(hR:∀ o x,(R o).set j (some x)=R (some x))(sb:SB M0 M b N)(hn:n<=1000)
  (turn:∀ (k:Nat) (M1:MH) (N1:Nat) (Q:AK),k<n->N1<=N+c * n->SB M0 M1 b N1->(∀ r M2,SB M0 M2 b (N1+c)->0<=r->r<most->Q (.d (.int r)) M2)->ae (R (some (.d (.int k)))) M1 Q)
  (fin:∀ (ks:List Int) o M1,ks.length=n->(∀ k ∈ ks,0<=k/\k<most)->SB M0 M1 b (N+c * n)->Nx (ks.map fun i=>.d (.int i)) (R o) M1):YW (yD j) vY (xE ae) (fun _=>True) Nx (vQ 0 1 n) [] (R o0) M:=by
 have hsl:100000<sizeLine:=by rw [sizeLine_eq];decide
 refine ⟨fun i acc ρ M1=>i<=n/\SB M0 M1 b (N+c * i)/\(∃ o,ρ=R o)/\∃ ks:List Int,acc=(ks.map fun i=>.d (.int i))/\ks.length=i/\∀ k ∈ ks,0<=k/\k<most,⟨Nat.zero_le _,sb,⟨_,rfl⟩,[],rfl,rfl,fun _ h=>nomatch h⟩,?_,?_⟩
 ·rintro i x acc ρ M1 hx ⟨hi,s1,⟨o,rfl⟩,ks,rfl,hl,hk⟩
  obtain ⟨h1,rfl⟩:=qo hx
  refine ⟨trivial,?_⟩
  dsimp only [yD,vY]
  rw [hR,Int.zero_add,Int.mul_one,if_pos rfl]
  unfold xE
  refine turn i M1 _ _ h1 (Nat.add_le_add_left (Nat.mul_le_mul_left _ hi) _) s1 fun r M2 s2 r0 r1=>⟨by rw [List.length_map];omega,h1,by rw [Nat.mul_succ,<- Nat.add_assoc];exact s2,⟨_,rfl⟩,ks ++ [r],by rw [List.map_append];rfl,by rw [List.length_append,hl];rfl,fun k hk'=>?_⟩
  rcases List.mem_append.mp hk' with z | z
  ·exact hk k z
  ·rw [List.mem_singleton.mp z];exact ⟨r0,r1⟩
 ·rintro acc ρ M1 ⟨_,s1,⟨o,rfl⟩,ks,rfl,hl,hk⟩
  rw [qL] at hl s1
  exact ⟨trivial,fin ks o M1 hl hk s1⟩
noncomputable def Jd:ASp:=fun xs M Q=>∃ (b:Addr) (n:Nat) (most:Int) (N:Nat),xs=[.ref b,.d (.int n),.d (.int most)]/\BxM M b N/\N<10000000/\n<=1000/\0<most/\most<=100/\∀ (ks:List Int) M',BxS M M' b (N+10000)->ks.length=n->(∀ k ∈ ks,0<=k/\k<most)->Q (.d (ilD ks)) M'
noncomputable abbrev yG:Stmt:=top 9
theorem vy:zJ ["_law_box_here","_law_n","_law_most","_law_way","_law_some","_law_kinds_here","_law_k"] ["_law_box_here","_law_n","_law_most"] (zn yG):=⟨rfl,rfl,rfl,by decide +kernel,rfl,by decide +kernel,by decide +kernel⟩
theorem KO (a:At K mg "_law_kinds" yG)(B:Blt mg)(D_law_take:Df P w K mg base "_law_take" ["_law_box_here","_law_many"] 1 (cSp Xc)):Df P w K mg base "_law_kinds" ["_law_box_here","_law_n","_law_most"] 2 (cSp Jd):=by
 refine dfA (k:=1) a vy (fun _ _ _ _ _ _=>Pn3_ fun _ _ _=>rfl) (fun xs M Q h=>?_) (fun f cdv A outer s H E hr=>?_)
 ·obtain ⟨_,_,_,_,rfl,_⟩:=h;rfl
 have sc:=vy
 have hsl:=hsl
 refine ⟨_,(ze (zu (i:=3) sc.nd rfl (by first | exact Or.inl rfl | exact Or.inr rfl) (zO D_law_take hr rfl (za (pv 0) (za zc zb))))
  (ze (zu (i:=4) sc.nd rfl (by first | exact Or.inl rfl | exact Or.inr rfl) (ye (ts:=[6]) rfl rfl (zP rfl B.range (za zc zb)) (fun _ _ _ _=>(zv (i:=6) sc.nd rfl (by first | exact Or.inl rfl | exact Or.inr rfl))) (fun _ _ _ _=>qD) (fun _ _ _ _=>(zO D_law_take hr rfl (za (pv 0) (za (pv 2) zb))))))
  (ze (yO (j:=5) rfl sc.nd rfl (by first | exact Or.inl rfl | exact Or.inr rfl) (ts:=[6]) rfl (zP rfl B.range (za (pv 1) zb)) (fun _ _ _ _=>(zv (i:=6) sc.nd rfl (by first | exact Or.inl rfl | exact Or.inr rfl))) (fun _ _ _ _=>qD) (fun _ _ _ _=>(zC (jb (K:=K) rfl) (qi (za (zO D_law_take hr rfl (za (pv 0) (za (pv 2) zb))) (za (zC (jb (K:=K) rfl) (pv 4) (zO D_law_take hr rfl (za (pv 0) (za zc zb))) (fun _ _=>rfl)) zb))) (zz qy rfl B.int jQ (za (jE (jv hr.units) (pv 3) zc (zX _)) zb)) (fun _ _=>rfl))))
  (ze (j5 (qw (jv hr.units) (pv 3) zc (zX _)) (zt (yO (j:=5) rfl sc.nd rfl (by first | exact Or.inl rfl | exact Or.inr rfl) (ts:=[6]) rfl (zP rfl B.range (za (pv 1) zb)) (fun _ _ _ _=>(zv (i:=6) sc.nd rfl (by first | exact Or.inl rfl | exact Or.inr rfl))) (fun _ _ _ _=>qD) (fun _ _ _ _=>(zC (jb (K:=K) rfl) (pv 4) (zz qy rfl B.int jQ (za (jE (jv hr.units) (zO D_law_take hr rfl (za (pv 0) (za zc zb))) zc (zX _)) zb)) (fun _ _=>rfl))))) qx)
  (ze (j5 (qw (jv hr.units) (pv 3) zc (zX _)) (zt (zu (i:=5) sc.nd rfl (by first | exact Or.inl rfl | exact Or.inr rfl) (zr zU rfl B.sorted qJ (za (pv 5) zb)))) qx)
  (ze (j5 (qw (jv hr.units) (pv 3) zc (zX _)) (zt (zu (i:=5) sc.nd rfl (by first | exact Or.inl rfl | exact Or.inr rfl) (QQ (zr zU rfl B.sorted qJ (za (pv 5) zb)) (kL (A8 Vx zc))))) qx)
  (ze (j5 (qw (jv hr.units) (pv 3) zc (zX _)) (zt (yO (j:=5) rfl sc.nd rfl (by first | exact Or.inl rfl | exact Or.inr rfl) (ts:=[6]) rfl (zP rfl B.range (za (pv 1) zb)) (fun _ _ _ _=>(zv (i:=6) sc.nd rfl (by first | exact Or.inl rfl | exact Or.inr rfl))) (fun _ _ _ _=>qD) (fun _ _ _ _=>(zC (jb (K:=K) rfl) (pv 4) (zo qz (pv 6) zc) (fun _ _=>rfl))))) qx)
  (zt (qa (pv 5)))))))))),?_⟩
 refine ex2 (by walk_at "sim") ?_
 rintro xs M Q ⟨b,n,most,N,rfl,bx,hN,hn,m0,m1,q⟩
 rw [show qW ["_law_box_here","_law_n","_law_most","_law_way","_law_some","_law_kinds_here","_law_k"] [.ref b,.d (.int n),.d (.int most)]=[some (.ref b),some (.d (.int n)),some (.d (.int most)),none,none,none,none] from rfl]
 have sb:=SB.refl bx
 refine zm fun r hr0=>?_
 walk_at "ra"
 refine ⟨b,6,_,rfl,sb.bx,by omega,by omega,by omega,fun way M1 s1 a1 a2=>?_⟩
 have sb:=sb.go s1
 subst hr0
 refine zm fun r hr0=>?_
 walk_at "ra"
 refine ⟨by omega,by omega,?_⟩
 refine yP (c:=1) (most:=most) (fun o=>[some (.ref b),some (.d (.int n)),some (.d (.int most)),some (.d (.int way)),none,none,o]) 6 (fun _ _=>rfl) sb (by decide) (fun k M1 N1 Q hk hN1 s1 q=>?_) fun so o M2 ls hs sb=>?_
 ·walk_at "ra"
  exact ⟨b,most,_,rfl,s1.bx,by omega,by omega,by omega,fun r M2 s2 r0 r1=>q r M2 (s1.go s2) r0 r1⟩
 refine ⟨_,jk _,?_⟩
 subst hr0
 refine zm fun r hr0=>?_
 walk_at "ra"
 rw [Int.toNat_natCast]
 refine ⟨by omega,by omega,?_⟩
 have sg:∀ x,0<=x->x<(3:Int)->∃ y,atI ((so.map Dat.int).map AV.d) x=some (.d (.int y))/\0<=y/\y<most:=fun x x0 x1=>by
  have hx:x.toNat<so.length:=by rw [ls];omega
  refine ⟨so[x.toNat],?_,hs _ (List.getElem_mem hx)⟩
  unfold atI
  rw [kB x0 (by rw [List.length_map,List.length_map,ls];omega)]
  show ((so.map Dat.int).map AV.d)[x.toNat]?=_
  rw [List.getElem?_map,List.getElem?_map,List.getElem?_eq_getElem hx];rfl
 refine yP (c:=2) (most:=most) (fun o=>[some (.ref b),some (.d (.int n)),some (.d (.int most)),some (.d (.int way)),some (.d (.lst (so.map .int))),none,o]) 6 (fun _ _=>rfl) sb (by omega) (fun k M1 N1 Q hk hN1 s1 q=>?_) fun ks o M2 lk hk sb=>?_
 ·walk_at "ra"
  refine ⟨b,most,_,rfl,s1.bx,by omega,by omega,by omega,fun r M2 s2 r0 r1=>⟨b,3,_,rfl,(s1.go s2).bx,by omega,by omega,by omega,fun i M3 s3 i0 i1=>?_⟩⟩
  have s4:=(s1.go s2).go s3
  obtain ⟨y,hy,y0,y1⟩:=sg i i0 i1
  refine ⟨_,rfl,_,by rw [<- qE];exact hy,by omega,_,rfl,?_⟩
  by_cases c:way=1
  ·rw [if_pos c]
   exact ⟨_,rfl,q y M3 (s4.mono (by omega)) y0 y1⟩
  ·rw [if_neg c]
   exact ⟨_,rfl,q r M3 (s4.mono (by omega)) r0 r1⟩
 refine ⟨_,jk _,?_⟩
 subst hr0
 refine zm fun r hr0=>?_
 have nx:∀ (ks:List Int) (M2:MH),ks.length=n->(∀ k ∈ ks,0<=k/\k<most)->SB M M2 b (N+9000)->r M { nx:=fun x M'=>rtA M Q (AV.d Dat.non) M',rt:=rtA M Q } [some (.ref b),some (.d (.int n)),some (.d (.int most)),some (.d (.int way)),some (.d (.lst (so.map .int))),some (.d (.lst (ks.map .int))),none] M2:=by
  intro ks M2 lk hk sb
  subst hr0
  refine zm fun r hr0=>?_
  have nx:∀ (ks:List Int) (M2:MH),ks.length=n->(∀ k ∈ ks,0<=k/\k<most)->SB M M2 b (N+9000)->r M { nx:=fun x M'=>rtA M Q (AV.d Dat.non) M',rt:=rtA M Q } [some (.ref b),some (.d (.int n)),some (.d (.int most)),some (.d (.int way)),some (.d (.lst (so.map .int))),some (.d (.lst (ks.map .int))),none] M2:=by
   intro ks M2 lk hk sb
   subst hr0
   refine zm fun r hr0=>?_
   have nx:∀ (ks:List Int) (M2:MH),ks.length=n->(∀ k ∈ ks,0<=k/\k<most)->SB M M2 b (N+9000)->r M { nx:=fun x M'=>rtA M Q (AV.d Dat.non) M',rt:=rtA M Q } [some (.ref b),some (.d (.int n)),some (.d (.int most)),some (.d (.int way)),some (.d (.lst (so.map .int))),some (.d (.lst (ks.map .int))),none] M2:=by
    intro ks M2 lk hk sb
    subst hr0
    refine zm fun r hr0=>?_
    have nx:∀ (ks:List Int) (M2:MH),ks.length=n->(∀ k ∈ ks,0<=k/\k<most)->SB M M2 b (N+9000)->r M { nx:=fun x M'=>rtA M Q (AV.d Dat.non) M',rt:=rtA M Q } [some (.ref b),some (.d (.int n)),some (.d (.int most)),some (.d (.int way)),some (.d (.lst (so.map .int))),some (.d (.lst (ks.map .int))),none] M2:=by
     intro ks M2 lk hk sb
     subst hr0
     walk_at "ra"
     exact (sb.mono (N':=N+10000) (by omega)).rt fun M' s=>q ks M' s lk hk
    walk_at "ra"
    split
    ·rw [Int.toNat_natCast]
     refine ⟨by omega,by omega,?_⟩
     refine yP (c:=0) (most:=most) (fun o=>[some (.ref b),some (.d (.int n)),some (.d (.int most)),some (.d (.int way)),some (.d (.lst (so.map .int))),some (.d (.lst (ks.map .int))),o]) 6 (fun _ _=>rfl) sb (by omega) (fun k M1 N1 Q hk hN1 s1 q=>?_) fun ks o M2 lk hk sb=>⟨_,jk _,nx ks M2 lk hk (sb.mono (by omega))⟩
     walk_at "ra"
     obtain ⟨y,hy,y0,y1⟩:=sg ((k:Int) % 3) (by omega) (by omega)
     exact ⟨by decide,_,by rw [<- qE];exact hy,q y M1 s1 y0 y1⟩
    ·exact nx ks M2 lk hk sb
   walk_at "ra"
   split
   ·refine ⟨ks,rfl,by omega,fun ns hp _=>.inl ?_⟩
    rw [<- List.map_reverse]
    exact nx _ M2 (by rw [List.length_reverse,hp.length_eq,lk]) (fun k h=>hk k (hp.mem_iff.mp (List.mem_reverse.mp h))) sb
   ·exact nx ks M2 lk hk sb
  walk_at "ra"
  split
  ·exact ⟨ks,rfl,by omega,fun ns hp _=>nx _ M2 (by rw [hp.length_eq,lk]) (fun k h=>hk k (hp.mem_iff.mp h)) sb⟩
  ·exact nx ks M2 lk hk sb
 walk_at "ra"
 rw [Int.toNat_natCast]
 split
 ·refine ⟨by omega,by omega,?_⟩
  refine yP (c:=1) (most:=most) (fun o=>[some (.ref b),some (.d (.int n)),some (.d (.int most)),some (.d (.int way)),some (.d (.lst (so.map .int))),some (.d (.lst (ks.map .int))),o]) 6 (fun _ _=>rfl) sb (by omega) (fun k M1 N1 Q hk hN1 s1 q=>?_) fun ks o M2 lk hk sb=>?_
  ·walk_at "ra"
   refine ⟨b,8,_,rfl,s1.bx,by omega,by omega,by omega,fun r M2 s2 r0 r1=>?_⟩
   show ∃ a,_
   refine ⟨_,rfl,by rw [jT];omega,?_⟩
   obtain ⟨y,hy,y0,y1⟩:=sg (if eqD (.int r) (.int 0)=true then 1 else 0) (by split <;> omega) (by split <;> omega)
   exact ⟨_,by rw [<- qE];exact hy,q y M2 (s1.go s2) y0 y1⟩
  ·exact ⟨_,jk _,nx ks M2 lk hk (sb.mono (by omega))⟩
 ·exact nx ks M2 lk hk (sb.mono (by omega))
structure zZ (ds row:List Int)(C:Int->Int->List Nat):Prop where
 at_:∀ i j p,i ≠ j->p ∈ C i j->p<row.length/\ds.getD p 0=i/\row.getD p 0=j
 nd:∀ i j,i ≠ j->(C i j).Nodup
 all:∀ p,p<row.length->row.getD p 0 ≠ ds.getD p 0->p ∈ C (ds.getD p 0) (row.getD p 0)
noncomputable def zM (C:Int->Int->List Nat)(i j:Int)(l:List Nat):Int->Int->List Nat:=fun x y=>if x=i/\y=j then l else C x y
theorem qh {C:Int->Int->List Nat}{i j:Int}{l:List Nat}:zM C i j l i j=l:=if_pos ⟨rfl,rfl⟩
theorem zD {C:Int->Int->List Nat}{i j x y:Int}{l:List Nat}(h:¬ (x=i/\y=j)):zM C i j l x y=C x y:=if_neg h
theorem jA {row:List Int}{a p:Nat}{v:Int}(h:a<row.length):(row.set a v).getD p 0=if p=a then v else row.getD p 0:=by
 rw [List.getD_eq_getElem?_getD,List.getElem?_set,List.getD_eq_getElem?_getD]
 by_cases c:a=p
 ·rw [if_pos c,if_pos (c ▸ h),if_pos c.symm];rfl
 ·rw [if_neg c,if_neg (Ne.symm c)]
theorem zZ.two {ds row:List Int}{C:Int->Int->List Nat}{i j:Int}{a b:Nat}{r1 r2:List Nat}(h:zZ ds row C)(ne:i ≠ j)(h1:C i j=a :: r1)(h2:C j i=b :: r2) :
  a ≠ b/\a<row.length/\b<row.length/\row.getD a 0=j/\row.getD b 0=i/\zZ ds ((row.set a i).set b j) (zM (zM C i j r1) j i r2):=by
 obtain ⟨a1,a2,a3⟩:=h.at_ i j a ne (by rw [h1];exact .head _)
 obtain ⟨b1,b2,b3⟩:=h.at_ j i b (Ne.symm ne) (by rw [h2];exact .head _)
 have nab:a ≠ b:=fun z=>ne (by rw [<- a2,z,b2])
 have gt:∀ p,((row.set a i).set b j).getD p 0=if p=b then j else if p=a then i else row.getD p 0:=fun p=>by
  rw [jA (by rw [List.length_set];exact b1),jA a1]
 have n1:=h.nd i j ne
 have n2:=h.nd j i (Ne.symm ne)
 rw [h1] at n1
 rw [h2] at n2
 have ta:=(List.nodup_cons.mp n1)
 have tb:=(List.nodup_cons.mp n2)
 have cell:∀ x y,zM (zM C i j r1) j i r2 x y=if x=j/\y=i then r2 else if x=i/\y=j then r1 else C x y:=fun x y=>rfl
 refine ⟨nab,a1,b1,a3,b3,⟨fun x y p hxy hp=>?_,fun x y hxy=>?_,fun p hp hne=>?_⟩⟩
 ·rw [cell] at hp
  rw [List.length_set,List.length_set,gt]
  have old:p ∈ C x y/\p ≠ a/\p ≠ b:=by
   by_cases c1:x=j/\y=i
   ·rw [if_pos c1] at hp
    obtain ⟨rfl,rfl⟩:=c1
    refine ⟨by rw [h2];exact .tail _ hp,fun z=>?_,fun z=>tb.1 (z ▸ hp)⟩
    have:=(h.at_ x y p hxy (by rw [h2];exact .tail _ hp)).2.1
    rw [z,a2] at this;exact ne this
   ·rw [if_neg c1] at hp
    by_cases c2:x=i/\y=j
    ·rw [if_pos c2] at hp
     obtain ⟨rfl,rfl⟩:=c2
     refine ⟨by rw [h1];exact .tail _ hp,fun z=>ta.1 (z ▸ hp),fun z=>?_⟩
     have:=(h.at_ x y p hxy (by rw [h1];exact .tail _ hp)).2.1
     rw [z,b2] at this;exact ne this.symm
    ·rw [if_neg c2] at hp
     have hh:=(h.at_ x y p hxy hp).2
     refine ⟨hp,fun z=>c2 ?_,fun z=>c1 ?_⟩
     ·rw [z,a2,a3] at hh;exact ⟨hh.1.symm,hh.2.symm⟩
     ·rw [z,b2,b3] at hh;exact ⟨hh.1.symm,hh.2.symm⟩
  rw [if_neg old.2.2,if_neg old.2.1]
  exact h.at_ x y p hxy old.1
 ·rw [cell]
  by_cases c1:x=j/\y=i
  ·rw [if_pos c1];exact tb.2
  ·rw [if_neg c1]
   by_cases c2:x=i/\y=j
   ·rw [if_pos c2];exact ta.2
   ·rw [if_neg c2];exact h.nd x y hxy
 ·rw [List.length_set,List.length_set] at hp
  rw [gt] at hne ⊢
  by_cases pb:p=b
  ·rw [if_pos pb,pb,b2] at hne;exact absurd rfl hne
  ·rw [if_neg pb] at hne ⊢
   by_cases pa:p=a
   ·rw [if_pos pa,pa,a2] at hne;exact absurd rfl hne
   ·rw [if_neg pa] at hne ⊢
    have old:=h.all p hp hne
    rw [cell]
    by_cases c1:ds.getD p 0=j/\row.getD p 0=i
    ·rw [if_pos c1]
     rw [c1.1,c1.2,h2] at old
     exact (List.mem_cons.mp old).resolve_left pb
    ·rw [if_neg c1]
     by_cases c2:ds.getD p 0=i/\row.getD p 0=j
     ·rw [if_pos c2]
      rw [c2.1,c2.2,h1] at old
      exact (List.mem_cons.mp old).resolve_left pa
     ·rw [if_neg c2];exact old
theorem zZ.done {ds row:List Int}{C:Int->Int->List Nat}(h:zZ ds row C)(hl:row.length=ds.length)(e:∀ p,p<row.length->row.getD p 0 ≠ ds.getD p 0->C (ds.getD p 0) (row.getD p 0)=[]):row=ds:=by
  refine List.ext_getElem? fun p=>?_
  by_cases hp:p<row.length
  · have : row.getD p 0 = ds.getD p 0 := Classical.byContradiction fun z => by
      have:=h.all p hp z
      rw [e p hp z] at this;cases this
    rw [List.getD_eq_getElem?_getD,List.getD_eq_getElem?_getD,List.getElem?_eq_getElem hp,List.getElem?_eq_getElem (by omega)] at this
    rw [List.getElem?_eq_getElem hp,List.getElem?_eq_getElem (by omega)]
    exact congrArg some this
  · rw [List.getElem?_eq_none (by omega),List.getElem?_eq_none (by omega)]
theorem zZ.pass {ds row:List Int}{C:Int->Int->List Nat}{f s t:Int}{a b:Nat}{r1 r2:List Nat}(h:zZ ds row C)(n1:f ≠ s)(n2:s ≠ t)(n3:f ≠ t)(h1:C f s=a :: r1)(h2:C s t=b :: r2) :
  a ≠ b/\a<row.length/\b<row.length/\row.getD a 0=s/\row.getD b 0=t/\zZ ds ((row.set a t).set b s) (zM (zM (zM C f s r1) s t r2) f t (a :: C f t)):=by
 obtain ⟨a1,a2,a3⟩:=h.at_ f s a n1 (by rw [h1];exact .head _)
 obtain ⟨b1,b2,b3⟩:=h.at_ s t b n2 (by rw [h2];exact .head _)
 have nab:a ≠ b:=fun z=>n1 (by rw [<- a2,z,b2])
 have gt:∀ p,((row.set a t).set b s).getD p 0=if p=b then s else if p=a then t else row.getD p 0:=fun p=>by
  rw [jA (by rw [List.length_set];exact b1),jA a1]
 have m1:=h.nd f s n1
 have m2:=h.nd s t n2
 rw [h1] at m1
 rw [h2] at m2
 have ta:=(List.nodup_cons.mp m1)
 have tb:=(List.nodup_cons.mp m2)
 have naf:a ∉ C f t:=fun z=>n2 ((a3.symm.trans (h.at_ f t a n3 z).2.2))
 have cell:∀ x y,zM (zM (zM C f s r1) s t r2) f t (a :: C f t) x y=if x=f/\y=t then a :: C f t else if x=s/\y=t then r2 else if x=f/\y=s then r1 else C x y:=fun x y=>rfl
 refine ⟨nab,a1,b1,a3,b3,⟨fun x y p hxy hp=>?_,fun x y hxy=>?_,fun p hp hne=>?_⟩⟩
 ·rw [cell] at hp
  rw [List.length_set,List.length_set,gt]
  by_cases c0:x=f/\y=t
  ·rw [if_pos c0] at hp
   obtain ⟨rfl,rfl⟩:=c0
   rcases List.mem_cons.mp hp with rfl | hp
   ·rw [if_neg nab,if_pos rfl];exact ⟨a1,a2,rfl⟩
   ·have hh:=h.at_ x y p hxy hp
    have pa:p ≠ a:=fun z=>naf (z ▸ hp)
    have pb:p ≠ b:=fun z=>by rw [z,b2] at hh;exact n1 hh.2.1.symm
    rw [if_neg pb,if_neg pa];exact hh
  ·rw [if_neg c0] at hp
   have old:p ∈ C x y/\p ≠ a/\p ≠ b:=by
    by_cases c1:x=s/\y=t
    ·rw [if_pos c1] at hp
     obtain ⟨rfl,rfl⟩:=c1
     refine ⟨by rw [h2];exact .tail _ hp,fun z=>?_,fun z=>tb.1 (z ▸ hp)⟩
     have:=(h.at_ x y p hxy (by rw [h2];exact .tail _ hp)).2.1
     rw [z,a2] at this;exact n1 this
    ·rw [if_neg c1] at hp
     by_cases c2:x=f/\y=s
     ·rw [if_pos c2] at hp
      obtain ⟨rfl,rfl⟩:=c2
      refine ⟨by rw [h1];exact .tail _ hp,fun z=>ta.1 (z ▸ hp),fun z=>?_⟩
      have:=(h.at_ x y p hxy (by rw [h1];exact .tail _ hp)).2.1
      rw [z,b2] at this;exact n1 this.symm
     ·rw [if_neg c2] at hp
      have hh:=(h.at_ x y p hxy hp).2
      refine ⟨hp,fun z=>c2 ?_,fun z=>c1 ?_⟩
      ·rw [z,a2,a3] at hh;exact ⟨hh.1.symm,hh.2.symm⟩
      ·rw [z,b2,b3] at hh;exact ⟨hh.1.symm,hh.2.symm⟩
   rw [if_neg old.2.2,if_neg old.2.1]
   exact h.at_ x y p hxy old.1
 ·rw [cell]
  by_cases c0:x=f/\y=t
  ·rw [if_pos c0];exact List.nodup_cons.mpr ⟨naf,h.nd f t n3⟩
  ·rw [if_neg c0]
   by_cases c1:x=s/\y=t
   ·rw [if_pos c1];exact tb.2
   ·rw [if_neg c1]
    by_cases c2:x=f/\y=s
    ·rw [if_pos c2];exact ta.2
    ·rw [if_neg c2];exact h.nd x y hxy
 ·rw [List.length_set,List.length_set] at hp
  rw [gt] at hne ⊢
  by_cases pb:p=b
  ·rw [if_pos pb,pb,b2] at hne;exact absurd rfl hne
  ·rw [if_neg pb] at hne ⊢
   by_cases pa:p=a
   ·rw [if_pos pa,cell,if_pos ⟨by rw [pa];exact a2,rfl⟩,pa];exact .head _
   ·rw [if_neg pa] at hne ⊢
    have old:=h.all p hp hne
    rw [cell]
    by_cases c0:ds.getD p 0=f/\row.getD p 0=t
    ·rw [if_pos c0]
     rw [c0.1,c0.2] at old
     exact .tail _ old
    ·rw [if_neg c0]
     by_cases c1:ds.getD p 0=s/\row.getD p 0=t
     ·rw [if_pos c1]
      rw [c1.1,c1.2,h2] at old
      exact (List.mem_cons.mp old).resolve_left pb
     ·rw [if_neg c1]
      by_cases c2:ds.getD p 0=f/\row.getD p 0=s
      ·rw [if_pos c2]
       rw [c2.1,c2.2,h1] at old
       exact (List.mem_cons.mp old).resolve_left pa
      ·rw [if_neg c2];exact old
theorem J4 {row:List Int}{a b:Nat}{x y:Int}(nab:a ≠ b)(ha:a<row.length)(hb:b<row.length)(ea:row.getD a 0=x)(eb:row.getD b 0=y):DoE (.swap a b) (row.map some,none) (((row.set a y).set b x).map some,none):=by
 have g:∀ p v,p<row.length->row.getD p 0=v->(row.map some)[p]?=some (some v):=fun p v h e=>by
  rw [List.getElem?_map,List.getElem?_eq_getElem h]
  rw [List.getD_eq_getElem?_getD,List.getElem?_eq_getElem h] at e
  exact congrArg (fun z=>some (some z)) e
 rw [List.map_set,List.map_set]
 exact .swap nab (g a x ha ea) (g b y hb eb)
theorem yR {row:List Int}{a b:Nat}{x y:Int}(nab:a ≠ b)(ha:a<row.length)(hb:b<row.length)(ea:row.getD a 0=x)(eb:row.getD b 0=y)(v:Int):((row.set a y).set b x).count v=row.count v:=by
 have g:∀ p w,p<row.length->row.getD p 0=w->row[p]?=some w:=fun p w h e=>by
  rw [List.getElem?_eq_getElem h]
  rw [List.getD_eq_getElem?_getD,List.getElem?_eq_getElem h] at e
  exact congrArg some e
 have h1:=g a x ha ea
 have h2:=g b y hb eb
 have c1:=List.count_set (a:=y) (b:=v) (l:=row) ha
 have hb':b<(row.set a y).length:=by rw [List.length_set];exact hb
 have c2:=List.count_set (a:=x) (b:=v) (l:=row.set a y) hb'
 have e1:row[a]=x:=by rw [List.getElem?_eq_getElem ha] at h1;exact Option.some.inj h1
 have e2:(row.set a y)[b]=y:=by
  rw [List.getElem_set_ne nab]
  rw [List.getElem?_eq_getElem hb] at h2;exact Option.some.inj h2
 rw [e1] at c1
 rw [e2] at c2
 rw [c2,c1]
 have p1:(if (x == v)=true then 1 else 0)<=row.count v:=by
  split
  ·rename_i z
   exact List.count_pos_iff.mpr (by have:=List.mem_of_getElem? h1;rwa [eq_of_beq z] at this)
  ·exact Nat.zero_le _
 omega
theorem j7 {ds:List Int}{i j:Int}(ne:i ≠ j):∀ (l1 l2:List Nat) (row:List Int) (C:Int->Int->List Nat),zZ ds row C->C i j=l1->C j i=l2 ->
  ∃ row' C',kY ((l1.zip l2).map fun z=>De.swap z.1 z.2) (row.map some,none) (row'.map some,none)/\row'.length=row.length/\(∀ v,row'.count v=row.count v)/\zZ ds row' C'/\C' i j=l1.drop (min l1.length l2.length)/\C' j i=l2.drop (min l1.length l2.length)/\∀ x y,¬ (x=i/\y=j)->¬ (x=j/\y=i)->C' x y=C x y
 | [],l2,row,C,h,h1,h2=>⟨row,C,.nil,rfl,fun _=>rfl,h,by rw [h1];simp,by rw [h2];simp,fun _ _ _ _=>rfl⟩
 | a :: r1,[],row,C,h,h1,h2=>⟨row,C,.nil,rfl,fun _=>rfl,h,by rw [h1];simp,by rw [h2];simp,fun _ _ _ _=>rfl⟩
 | a :: r1,b :: r2,row,C,h,h1,h2=>by
  obtain ⟨nab,ha,hb,ea,eb,ok⟩:=h.two ne h1 h2
  have k1:zM (zM C i j r1) j i r2 i j=r1:=(zD fun z=>ne z.1).trans qh
  have k2:zM (zM C i j r1) j i r2 j i=r2:=qh
  obtain ⟨row',C',d,l,cn,ok',e1,e2,e3⟩:=j7 ne r1 r2 _ _ ok k1 k2
  refine ⟨row',C',.cons (J4 nab ha hb ea eb) d,by rw [l,List.length_set,List.length_set],fun v=>by rw [cn v,yR nab ha hb ea eb v],ok',?_,?_,fun x y z1 z2=>by rw [e3 x y z1 z2,zD z2,zD z1]⟩
  ·rw [e1];simp [Nat.succ_min_succ]
  ·rw [e2];simp [Nat.succ_min_succ]
theorem kj {ds:List Int}{f s t:Int}(n1:f ≠ s)(n2:s ≠ t)(n3:f ≠ t):∀ (l1 l2 l3:List Nat) (row:List Int) (C:Int->Int->List Nat),l1.length=l2.length->l2.length=l3.length->zZ ds row C->C f s=l1->C s t=l2->C t f=l3 ->
  ∃ row' C',kY ((l1.zip (l2.zip l3)).flatMap fun z=>[De.swap z.1 z.2.1,De.swap z.1 z.2.2]) (row.map some,none) (row'.map some,none)/\row'.length=row.length/\(∀ v,row'.count v=row.count v)/\zZ ds row' C'/\C' f s=[]/\C' s t=[]/\C' t f=[]/\∀ x y,¬ (x=f/\y=s)->¬ (x=s/\y=t)->¬ (x=t/\y=f)->C' x y=C x y
 | [],[],[],row,C,_,_,h,h1,h2,h3=>⟨row,C,.nil,rfl,fun _=>rfl,h,h1,h2,h3,fun _ _ _ _ _=>rfl⟩
 | a :: r1,b :: r2,c :: r3,row,C,m1,m2,h,h1,h2,h3=>by
  obtain ⟨nab,ha,hb,ea,eb,ok⟩:=h.pass n1 n2 n3 h1 h2
  have k1:zM (zM (zM C f s r1) s t r2) f t (a :: C f t) f t=a :: C f t:=qh
  have k2:zM (zM (zM C f s r1) s t r2) f t (a :: C f t) t f=c :: r3:=by
   rw [zD fun z=>n3 z.1.symm,zD fun z=>n2 z.1.symm,zD fun z=>n3 z.1.symm];exact h3
  obtain ⟨nac,ha2,hc,ea2,ec,ok2⟩:=ok.two n3 k1 k2
  have q1:zM (zM (zM (zM (zM C f s r1) s t r2) f t (a :: C f t)) f t (C f t)) t f r3 f s=r1:=by
   rw [zD fun z=>n3 z.1,zD fun z=>n2 z.2,zD fun z=>n2 z.2,zD fun z=>n1 z.1,qh]
  have q2:zM (zM (zM (zM (zM C f s r1) s t r2) f t (a :: C f t)) f t (C f t)) t f r3 s t=r2:=by
   rw [zD fun z=>n2 z.1,zD fun z=>n1 z.1.symm,zD fun z=>n1 z.1.symm,qh]
  have q3:zM (zM (zM (zM (zM C f s r1) s t r2) f t (a :: C f t)) f t (C f t)) t f r3 t f=r3:=qh
  obtain ⟨row',C',d,l,cn,ok',e1,e2,e3,e4⟩:=kj n1 n2 n3 r1 r2 r3 _ _ (by simpa using m1) (by simpa using m2) ok2 q1 q2 q3
  refine ⟨row',C',.cons (J4 nab ha hb ea eb) (.cons (J4 nac ha2 hc ea2 ec) d),by rw [l];simp only [List.length_set],fun v=>by rw [cn v,yR nac ha2 hc ea2 ec v,yR nab ha hb ea eb v],ok',e1,e2,e3,fun x y z1 z2 z3=>?_⟩
  rw [e4 x y z1 z2 z3,zD z3]
  by_cases c:x=f/\y=t
  ·obtain ⟨rfl,rfl⟩:=c;exact qh
  ·rw [zD c,zD c,zD z2,zD z1]
noncomputable def nC (ds row:List Int)(i j:Int):Nat:=((List.range row.length).filter fun p=>decide (ds.getD p 0=i) && decide (row.getD p 0=j)).length
theorem zZ.len {ds row:List Int}{C:Int->Int->List Nat}(h:zZ ds row C){i j:Int}(ne:i ≠ j):(C i j).length=nC ds row i j:=by
 refine List.Perm.length_eq ((List.perm_ext_iff_of_nodup (h.nd i j ne) (List.nodup_range.filter _)).mpr fun p=>⟨fun hp=>?_,fun hp=>?_⟩)
 ·obtain ⟨h1,h2,h3⟩:=h.at_ i j p ne hp
  exact List.mem_filter.mpr ⟨List.mem_range.mpr h1,by simp only [h2,h3,decide_true,Bool.and_self]⟩
 ·obtain ⟨h1,h2⟩:=List.mem_filter.mp hp
  simp only [Bool.and_eq_true,decide_eq_true_eq] at h2
  have:=h.all p (List.mem_range.mp h1) (by rw [h2.1,h2.2];exact Ne.symm ne)
  rwa [h2.1,h2.2] at this
theorem xW (l:List Int)(v:Int):l.count v=((List.range l.length).filter fun p=>decide (l.getD p 0=v)).length:=by
 have e:l=(List.range l.length).map fun p=>l.getD p 0:=by
  refine List.ext_getElem? fun p=>?_
  rw [List.getElem?_map]
  by_cases hp:p<l.length
  ·rw [List.getElem?_range hp,List.getElem?_eq_getElem hp]
   show _=some (l.getD p 0)
   rw [List.getD_eq_getElem?_getD,List.getElem?_eq_getElem hp];rfl
  ·rw [List.getElem?_eq_none (by omega),List.getElem?_eq_none (by rw [List.length_range];omega)];rfl
 conv=>lhs;rw [e]
 rw [List.count,List.countP_map,List.countP_eq_length_filter]
 congr 1
theorem wf (A:Nat->Bool)(g:Nat->Int):∀ L:List Nat,(∀ p ∈ L,g p=0 \/ g p=1 \/ g p=2)->(L.filter A).length=(L.filter fun p=>A p && decide (g p=0)).length+(L.filter fun p=>A p && decide (g p=1)).length+(L.filter fun p=>A p && decide (g p=2)).length
 | [],_=>rfl
 | p :: r,h=>by
  have ih:=wf A g r fun q hq=>h q (.tail _ hq)
  simp only [List.filter_cons]
  cases hA:A p with
  | false=>simpa using ih
  | true=>
   rcases h p (.head _) with z | z | z <;> simp [z,ih] <;> omega
theorem bal {ds row:List Int}(hl:row.length=ds.length)(hd:∀ p,p<row.length->ds.getD p 0=0 \/ ds.getD p 0=1 \/ ds.getD p 0=2)(hr:∀ p,p<row.length->row.getD p 0=0 \/ row.getD p 0=1 \/ row.getD p 0=2)(hc:∀ v,row.count v=ds.count v)(v:Int) :
  nC ds row v 0+nC ds row v 1+nC ds row v 2=nC ds row 0 v+nC ds row 1 v+nC ds row 2 v:=by
 have h1:=wf (fun p=>decide (ds.getD p 0=v)) (fun p=>row.getD p 0) (List.range row.length) fun p hp=>hr p (List.mem_range.mp hp)
 have h2:=wf (fun p=>decide (row.getD p 0=v)) (fun p=>ds.getD p 0) (List.range row.length) fun p hp=>hd p (List.mem_range.mp hp)
 have e1:=xW row v
 have e2:=xW ds v
 rw [<- hl] at e2
 have e3:=hc v
 have sw:∀ i,((List.range row.length).filter fun p=>decide (row.getD p 0=v) && decide (ds.getD p 0=i)).length=nC ds row i v:=fun i=>by
  unfold nC
  congr 1
  exact List.filter_congr fun p _=>Bool.and_comm _ _
 rw [sw,sw,sw] at h2
 unfold nC
 unfold nC at h2
 omega
noncomputable def cel (ds ks:List Int)(i j:Int):List Nat:=(List.range ks.length).filter fun p=>decide (ds.getD p 0=i) && decide (ks.getD p 0=j)
theorem WN (ds ks:List Int):zZ ds ks (cel ds ks):=⟨fun i j p _ hp=>by
  obtain ⟨h1,h2⟩:=List.mem_filter.mp hp
  simp only [Bool.and_eq_true,decide_eq_true_eq] at h2
  exact ⟨List.mem_range.mp h1,h2.1,h2.2⟩,fun i j _=>List.nodup_range.filter _,fun p hp _=>List.mem_filter.mpr ⟨List.mem_range.mpr hp,by simp⟩⟩
noncomputable def prs (C:Int->Int->List Nat)(i j:Int):List De:=((C i j).zip (C j i)).map fun z=>De.swap z.1 z.2
noncomputable def lft (C:Int->Int->List Nat)(i j:Int):List Nat:=(C i j).drop (min (C i j).length (C j i).length)
noncomputable def rnd (D:Int->Int->List Nat)(f s t:Int):List De:=((D f s).zip ((D s t).zip (D t f))).flatMap fun z=>[De.swap z.1 z.2.1,De.swap z.1 z.2.2]
noncomputable def xch (C:Int->Int->List Nat):List De:=prs C 0 1 ++ prs C 0 2 ++ prs C 1 2 ++ rnd (lft C) 0 1 2 ++ rnd (lft C) 0 2 1
theorem xm (C:Int->Int->List Nat)(i j:Int):(C j i).drop (min (C i j).length (C j i).length)=lft C j i:=by unfold lft;rw [Nat.min_comm]
theorem XY (C:Int->Int->List Nat)(i j:Int):(lft C i j).length=0 \/ (lft C j i).length=0:=by
 unfold lft
 rw [List.length_drop,List.length_drop]
 rcases Nat.le_total (C i j).length (C j i).length with h | h
 ·exact .inl (by rw [Nat.min_eq_left h,Nat.sub_self])
 ·exact .inr (by rw [Nat.min_eq_left h,Nat.sub_self])
theorem wA (C:Int->Int->List Nat)(i j:Int):(C i j).length=min (C i j).length (C j i).length+(lft C i j).length:=by
 unfold lft
 rw [List.length_drop,Nat.add_sub_of_le (Nat.min_le_left _ _)]
theorem xU (C:Int->Int->List Nat)(i j:Int):(C j i).length=min (C i j).length (C j i).length+(lft C j i).length:=by
 rw [Nat.min_comm];exact wA C j i
theorem q0l {x a b c d:Nat}(h:x+a+c=x+b+d):a+c=b+d:=by omega
theorem q1l {x b e a f:Nat}(h:b+x+e=a+x+f):b+e=a+f:=by omega
theorem zz6 {a b c d e f:Nat}(q0:a+c=b+d)(q1:b+e=a+f)(h1:a=0 \/ b=0)(h2:c=0 \/ d=0)(h3:e=0 \/ f=0):a=e/\e=d/\c=f/\f=b:=by
 rcases h1 with rfl | rfl
 ·rcases h3 with rfl | rfl
  ·have:f=b:=by omega
   rcases h2 with rfl | rfl <;> refine ⟨rfl,?_,?_,this⟩ <;> omega
  ·have:b=0/\e=0:=by omega
   obtain ⟨rfl,rfl⟩:=this
   refine ⟨rfl,?_,?_,rfl⟩ <;> omega
 ·rcases h3 with rfl | rfl
  ·have:a=0/\f=0:=by omega
   obtain ⟨rfl,rfl⟩:=this
   refine ⟨rfl,?_,?_,rfl⟩ <;> omega
  ·have:e=a:=by omega
   rcases h2 with rfl | rfl <;> refine ⟨this.symm,?_,?_,rfl⟩ <;> omega
theorem wn {ks ds:List Int}(hl:ks.length=ds.length)(hk:∀ p,p<ks.length->ks.getD p 0=0 \/ ks.getD p 0=1 \/ ks.getD p 0=2)(hd:∀ p,p<ks.length->ds.getD p 0=0 \/ ds.getD p 0=1 \/ ds.getD p 0=2)(hc:∀ v,ks.count v=ds.count v) :
  kY (xch (cel ds ks)) (ks.map some,none) (ds.map some,none)/\(lft (cel ds ks) 0 1).length=(lft (cel ds ks) 1 2).length/\(lft (cel ds ks) 1 2).length=(lft (cel ds ks) 2 0).length/\(lft (cel ds ks) 0 2).length=(lft (cel ds ks) 2 1).length/\(lft (cel ds ks) 2 1).length=(lft (cel ds ks) 1 0).length:=by
 obtain ⟨w1,C1,d1,l1,c1,o1,a1,b1,e1⟩:=j7 (i:=0) (j:=1) (by decide) _ _ ks _ (WN ds ks) rfl rfl
 rw [xm] at b1
 have a1:C1 0 1=lft (cel ds ks) 0 1:=a1
 obtain ⟨w2,C2,d2,l2,c2,o2,a2,b2,e2⟩:=j7 (i:=0) (j:=2) (by decide) _ _ w1 C1 o1 rfl rfl
 have f02:C1 0 2=cel ds ks 0 2:=e1 0 2 (by decide) (by decide)
 have f20:C1 2 0=cel ds ks 2 0:=e1 2 0 (by decide) (by decide)
 rw [f02,f20] at a2 b2 d2
 rw [xm] at b2
 have a2:C2 0 2=lft (cel ds ks) 0 2:=a2
 obtain ⟨w3,C3,d3,l3,c3,o3,a3,b3,e3⟩:=j7 (i:=1) (j:=2) (by decide) _ _ w2 C2 o2 rfl rfl
 have f12:C2 1 2=cel ds ks 1 2:=(e2 1 2 (by decide) (by decide)).trans (e1 1 2 (by decide) (by decide))
 have f21:C2 2 1=cel ds ks 2 1:=(e2 2 1 (by decide) (by decide)).trans (e1 2 1 (by decide) (by decide))
 rw [f12,f21] at a3 b3 d3
 rw [xm] at b3
 have a3:C3 1 2=lft (cel ds ks) 1 2:=a3
 have g01:C3 0 1=lft (cel ds ks) 0 1:=(e3 0 1 (by decide) (by decide)).trans ((e2 0 1 (by decide) (by decide)).trans a1)
 have g10:C3 1 0=lft (cel ds ks) 1 0:=(e3 1 0 (by decide) (by decide)).trans ((e2 1 0 (by decide) (by decide)).trans b1)
 have g02:C3 0 2=lft (cel ds ks) 0 2:=(e3 0 2 (by decide) (by decide)).trans a2
 have g20:C3 2 0=lft (cel ds ks) 2 0:=(e3 2 0 (by decide) (by decide)).trans b2
 have lw:w3.length=ks.length:=by omega
 have cw:∀ v,w3.count v=ds.count v:=fun v=>by rw [c3,c2,c1,hc]
 have in3:∀ (row:List Int),row.length=ds.length->(∀ v,row.count v=ds.count v)->∀ p,p<row.length->row.getD p 0=0 \/ row.getD p 0=1 \/ row.getD p 0=2:=fun row hlr hcr p hp=>by
  have hm:row.getD p 0 ∈ row:=by rw [List.getD_eq_getElem?_getD,List.getElem?_eq_getElem hp];exact List.getElem_mem _
  have h1:=List.count_pos_iff.mpr hm
  rw [hcr] at h1
  obtain ⟨q,hq⟩:=List.mem_iff_getElem?.mp (List.count_pos_iff.mp h1)
  have hql:=(List.getElem?_eq_some_iff.mp hq).1
  have:=hd q (by omega)
  rw [List.getD_eq_getElem?_getD,hq] at this
  exact this
 have bl:=fun v=>bal (ds:=ds) (row:=w3) (by omega) (fun p hp=>hd p (by omega)) (in3 w3 (by omega) cw) cw v
 have L:=fun {i j:Int} (ne:i ≠ j)=>o3.len ne
 have q0:=bl 0
 have q1:=bl 1
 have q2:=bl 2
 rw [<- L (i:=0) (j:=1) (by decide),<- L (i:=0) (j:=2) (by decide),<- L (i:=1) (j:=0) (by decide),<- L (i:=2) (j:=0) (by decide),g01,g02,g10,g20] at q0
 rw [<- L (i:=1) (j:=0) (by decide),<- L (i:=1) (j:=2) (by decide),<- L (i:=0) (j:=1) (by decide),<- L (i:=2) (j:=1) (by decide),g10,a3,g01,b3] at q1
 rw [<- L (i:=2) (j:=0) (by decide),<- L (i:=2) (j:=1) (by decide),<- L (i:=0) (j:=2) (by decide),<- L (i:=1) (j:=2) (by decide),g20,b3,g02,a3] at q2
 obtain ⟨z1,z2,z3,z4⟩:=zz6 (q0l q0) (q1l q1) (XY (cel ds ks) 0 1) (XY (cel ds ks) 0 2) (XY (cel ds ks) 1 2)
 obtain ⟨w4,C4,d4,l4,c4,o4,a4,b4,t4,e4⟩:=kj (f:=0) (s:=1) (t:=2) (by decide) (by decide) (by decide) _ _ _ w3 C3 z1 z2 o3 g01 a3 g20
 have h02:C4 0 2=lft (cel ds ks) 0 2:=(e4 0 2 (by decide) (by decide) (by decide)).trans g02
 have h21:C4 2 1=lft (cel ds ks) 2 1:=(e4 2 1 (by decide) (by decide) (by decide)).trans b3
 have h10:C4 1 0=lft (cel ds ks) 1 0:=(e4 1 0 (by decide) (by decide) (by decide)).trans g10
 obtain ⟨w5,C5,d5,l5,c5,o5,a5,b5,t5,e5⟩:=kj (f:=0) (s:=2) (t:=1) (by decide) (by decide) (by decide) _ _ _ w4 C4 z3 z4 o4 h02 h21 h10
 have lw5:w5.length=ds.length:=by omega
 have fin:w5=ds:=o5.done lw5 fun p hp hne=>by
  have x1:=hd p (by omega)
  have x2:=in3 w5 lw5 (fun v=>by rw [c5,c4,cw]) p hp
  rcases x1 with u | u | u <;> rcases x2 with v | v | v <;> rw [u,v] <;> rw [u,v] at hne
  ·exact absurd rfl hne
  ·exact (e5 0 1 (by decide) (by decide) (by decide)).trans a4
  ·exact a5
  ·exact t5
  ·exact absurd rfl hne
  ·exact (e5 1 2 (by decide) (by decide) (by decide)).trans b4
  ·exact (e5 2 0 (by decide) (by decide) (by decide)).trans t4
  ·exact b5
  ·exact absurd rfl hne
 subst fin
 exact ⟨(((d1.append d2).append d3).append d4).append d5,z1,z2,z3,z4⟩
theorem ZS {D:Int->Int->List Nat}{f s t:Int}(h1:(D f s).length=(D s t).length)(h2:(D s t).length=(D t f).length):(rnd D f s t).length=2 * (D f s).length:=by
 unfold rnd
 have:∀ l:List (Nat × Nat × Nat),(l.flatMap fun z=>[De.swap z.1 z.2.1,De.swap z.1 z.2.2]).length=2 * l.length:=fun l=>by
  induction l with
  | nil=>rfl
  | cons a r ih=>rw [List.flatMap_cons,List.length_append,ih,List.length_cons,List.length_cons,List.length_cons,List.length_nil];omega
 rw [this,List.length_zip,List.length_zip];omega
theorem YX {n01 n10 n02 n20 n12 n21 m1 m2 m3 a b c d e f:Nat}(h1:n01=m1+a)(h2:n10=m1+b)(h3:n02=m2+c)(h4:n20=m2+d)(h5:n12=m3+e)(h6:n21=m3+f)(z1:a=e)(z2:e=d)(z3:c=f)(z4:f=b) :
  ((m1+m2+m3+2 * a+2 * c:Nat):Int)=(m1:Int)+(m2:Int)+(m3:Int)+((n01:Int)+n02+n10+n12+n20+n21 - 2 * ((m1:Int)+(m2:Int)+(m3:Int))) / 3 * 2:=by
 subst h1 h2 h3 h4 h5 h6 z1 z2 z3 z4
 omega
theorem X8 {C:Int->Int->List Nat}(z1:(lft C 0 1).length=(lft C 1 2).length)(z2:(lft C 1 2).length=(lft C 2 0).length)(z3:(lft C 0 2).length=(lft C 2 1).length)(z4:(lft C 2 1).length=(lft C 1 0).length) :
  ((xch C).length:Int)=((min (C 0 1).length (C 1 0).length:Nat):Int)+((min (C 0 2).length (C 2 0).length:Nat):Int)+((min (C 1 2).length (C 2 1).length:Nat):Int) +
   (((C 0 1).length:Int)+(C 0 2).length+(C 1 0).length+(C 1 2).length+(C 2 0).length+(C 2 1).length - 2 * (((min (C 0 1).length (C 1 0).length:Nat):Int)+((min (C 0 2).length (C 2 0).length:Nat):Int)+((min (C 1 2).length (C 2 1).length:Nat):Int))) / 3 * 2:=by
 have p:∀ i j,(prs C i j).length=min (C i j).length (C j i).length:=fun i j=>by unfold prs;rw [List.length_map,List.length_zip]
 have e:(xch C).length=min (C 0 1).length (C 1 0).length+min (C 0 2).length (C 2 0).length+min (C 1 2).length (C 2 1).length+2 * (lft C 0 1).length+2 * (lft C 0 2).length:=by
  unfold xch
  rw [List.length_append,List.length_append,List.length_append,List.length_append,p,p,p,ZS z1 z2,ZS z3 z4]
 rw [e]
 exact YX (wA C 0 1) (xU C 0 1) (wA C 0 2) (xU C 0 2) (wA C 1 2) (xU C 1 2) z1 z2 z3 z4
noncomputable def srt (ks:List Int):List Int:=ks.mergeSort fun x y=>decide (x<=y)
theorem zy (ks:List Int):(srt ks).Perm ks:=List.mergeSort_perm _ _
theorem wd (ks:List Int):(srt ks).Pairwise (·<=·):=by
 have:=List.pairwise_mergeSort (le:=fun x y:Int=>decide (x<=y)) (fun a b c h1 h2=>by simp at h1 h2 ⊢;omega) (fun a b=>by simp;omega) ks
 exact this.imp fun h=>by simpa using h
theorem xh {ks ns:List Int}(p:ns.Perm ks)(h:ns.Pairwise (·<=·)):ns=srt ks:=(p.trans (zy ks).symm).eq_of_pairwise (fun _ _ _ _ x y=>Int.le_antisymm x y) h (wd ks)
noncomputable def kk (k:Nat):List Key:=ikT [((k / 3:Nat):Int),((k % 3:Nat):Int)]
theorem Kx {k l:Nat}(h:kk k=kk l):k=l:=by
 have h1:=(List.cons.inj h).1
 have h2:=(List.cons.inj (List.cons.inj h).2).1
 have h1:((k / 3:Nat):Int)=((l / 3:Nat):Int):=Sum.inl.inj h1
 have h2:((k % 3:Nat):Int)=((l % 3:Nat):Int):=Sum.inl.inj h2
 omega
noncomputable def kvN (n:Nat)(E:Nat->AV):List (List Key × AV):=(List.range n).map fun k=>(kk k,E k)
theorem Yn (n:Nat)(E:Nat->AV):(kvN n E).length=n:=by simp [kvN]
theorem y6 {n k:Nat}{E:Nat->AV}(h:k<n):qG (kvN n E) (kk k)=some (E k):=by
 unfold qG kvN
 have:((List.range n).map fun k=>(kk k,E k)).find? (fun kv=>decide (kv.1=kk k))=some (kk k,E k):=by
  rw [List.find?_map]
  have:(List.range n).find? ((fun kv:List Key × AV=>decide (kv.1=kk k)) ∘ fun k=>(kk k,E k))=some k:=by
   rw [List.find?_range_eq_some]
   exact ⟨by simp,List.mem_range.mpr h,fun j hj=>by simp;exact fun z=>by have:=Kx z;omega⟩
  rw [this];rfl
 rw [this];rfl
theorem XZ {n k:Nat}{E:Nat->AV}:((kvN n E).any fun kv=>decide (kv.1=kk k))=decide (k<n):=by
 unfold kvN
 rw [List.any_map]
 by_cases h:k<n
 ·rw [decide_eq_true h,List.any_eq_true];exact ⟨k,List.mem_range.mpr h,by simp⟩
 ·rw [decide_eq_false h,List.any_eq_false]
  intro j hj
  have:=List.mem_range.mp hj
  simp only [Function.comp,decide_eq_true_eq]
  exact fun z=>by have:=Kx z;omega
theorem XI {n:Nat}{E:Nat->AV}{v:AV}:yw (kvN n E) (kk n) v=kvN (n+1) fun l=>if l=n then v else E l:=by
 unfold yw
 rw [XZ,decide_eq_false (by omega),if_neg (by simp)]
 unfold kvN
 rw [List.range_succ,List.map_append]
 congr 1
 ·refine List.map_congr_left fun j hj=>?_
  have:=List.mem_range.mp hj
  dsimp only
  rw [if_neg (by omega)]
 ·simp
noncomputable abbrev nI (n:Nat):AV:=.d (.int (n:Int))
structure PlN (M M':MH)(D:Addr)(P:Nat->Addr)(C:Nat->List Nat)(n:Nat):Prop where
 d:M' D=some (.dT (kvN n fun k=>.ref (P k)))
 p:∀ k,k<n->M' (P k)=some (.lst ((C k).map nI))
 d0:M D=none
 p0:∀ k,k<n->M (P k)=none
 pd:∀ k,k<n->P k ≠ D
 inj:∀ k l,k<n->l<n->P k=P l->k=l
 els:∀ a,a ≠ D->(∀ k,k<n->a ≠ P k)->M' a=M a
theorem PlN.start {M:MH}{D:Addr}(h:M D=none){P:Nat->Addr}{C:Nat->List Nat}:PlN M (mup M D (.dT [])) D P C 0:=
 ⟨zf,fun _ z=>by omega,h,fun _ z=>by omega,fun _ z=>by omega,fun _ _ z=>by omega,fun a ha _=>zh ha⟩
theorem PlN.fr {M M':MH}{D:Addr}{P:Nat->Addr}{C:Nat->List Nat}{n:Nat}(h:PlN M M' D P C n):Fr M M':=fun q hq=>h.els q (fun z=>hq (by rw [z];exact h.d0)) fun k hk z=>hq (by rw [z];exact h.p0 k hk)
theorem PlN.more {M M':MH}{D p:Addr}{P:Nat->Addr}{C:Nat->List Nat}{n:Nat}(h:PlN M M' D P C n)(hp:M' p=none)(hC:C n=[]):PlN M (mup (mup M' p (.lst [])) D (.dT (yw (kvN n fun k=>.ref (P k)) (kk n) (.ref p)))) D (fun k=>if k=n then p else P k) C (n+1):=by
 have pD:p ≠ D:=fun z=>by rw [z,h.d] at hp;cases hp
 have pP:∀ k,k<n->P k ≠ p:=fun k hk z=>by rw [<- z,h.p k hk] at hp;cases hp
 have mp:M p=none:=by rw [<- h.els p pD fun k hk z=>pP k hk z.symm];exact hp
 refine ⟨?_,fun k hk=>?_,h.d0,fun k hk=>?_,fun k hk=>?_,fun k l hk hl e=>?_,fun a ha hk=>?_⟩
 ·rw [zf,XI]
  congr 2
  unfold kvN
  refine List.map_congr_left fun j _=>?_
  dsimp only
  by_cases c:j=n
  ·rw [if_pos c,if_pos c]
  ·rw [if_neg c,if_neg c]
 ·by_cases c:k=n
  ·rw [if_pos c,zh pD,zf,c,hC];rfl
  ·rw [if_neg c,zh (h.pd k (by omega)),zh (pP k (by omega))];exact h.p k (by omega)
 ·split
  ·exact mp
  ·exact h.p0 k (by omega)
 ·split
  ·exact pD
  ·exact h.pd k (by omega)
 ·by_cases c:k=n <;> by_cases c2:l=n
  ·omega
  ·rw [if_pos c,if_neg c2] at e;exact absurd e.symm (pP l (by omega))
  ·rw [if_neg c,if_pos c2] at e;exact absurd e (pP k (by omega))
  ·rw [if_neg c,if_neg c2] at e;exact h.inj k l (by omega) (by omega) e
 ·have a1:a ≠ p:=by have:=hk n (by omega);rw [if_pos rfl] at this;exact this
  rw [zh ha,zh a1]
  exact h.els a ha fun k hk2=>by have:=hk k (by omega);rw [if_neg (by omega)] at this;exact this
theorem PlN.app {M M':MH}{D:Addr}{P:Nat->Addr}{C:Nat->List Nat}{n k:Nat}(h:PlN M M' D P C n)(hk:k<n)(x:Nat):PlN M (mup M' (P k) (.lst ((C k).map nI ++ [nI x]))) D P (fun l=>if l=k then C l ++ [x] else C l) n:=by
 refine ⟨by rw [zh (Ne.symm (h.pd k hk))];exact h.d,fun l hl=>?_,h.d0,h.p0,h.pd,h.inj,fun a ha hk2=>by rw [zh (hk2 k hk)];exact h.els a ha hk2⟩
 by_cases c:l=k
 ·rw [if_pos c,c,zf,List.map_append];rfl
 ·rw [if_neg c,zh (fun z=>c (h.inj l k hl hk z))];exact h.p l hl
noncomputable def qZ (ds ks:List Int)(i k:Nat):List Nat:=(List.range i).filter fun p=>decide (ds.getD p 0=((k / 3:Nat):Int)) && decide (ks.getD p 0=((k % 3:Nat):Int))
theorem vU {ds ks:List Int}{k:Nat}:qZ ds ks ks.length k=cel ds ks ((k / 3:Nat):Int) ((k % 3:Nat):Int):=rfl
theorem xX (ds ks:List Int)(i k:Nat){g h:Nat}(hg:ds.getD i 0=(g:Int))(hh:ks.getD i 0=(h:Int))(g3:g<3)(h3:h<3):qZ ds ks (i+1) k=if k=3 * g+h then qZ ds ks i k ++ [i] else qZ ds ks i k:=by
 unfold qZ
 rw [List.range_succ,List.filter_append]
 rw [show [i].filter (fun p=>decide (ds.getD p 0=((k / 3:Nat):Int)) && decide (ks.getD p 0=((k % 3:Nat):Int)))=if k=3 * g+h then [i] else [] from ?_]
 ·split
  ·rfl
  ·rw [List.append_nil]
 ·rw [List.filter_cons,hg,hh,List.filter_nil]
  by_cases c:k=3 * g+h
  ·rw [if_pos c,if_pos (by simp;omega)]
  ·rw [if_neg c,if_neg (by simp;omega)]
noncomputable def Br:ASp:=fun xs M Q=>∃ (y:AV) (ks:List Int),xs=[y]/\zQ y M=some (List.map (fun i=>AV.d (.int i)) ks)/\(∀ k ∈ ks,0<=k/\k<3)/\ks.length<=1000/\∀ M' D P,PlN M M' D P (qZ (srt ks) ks ks.length) 9->Q (.ref D) M'
noncomputable abbrev JA:Stmt:=top 2
theorem KJ:zJ ["kinds","found","place","goal","i","j"] ["kinds"] (zn JA):=⟨rfl,rfl,rfl,by decide +kernel,rfl,by decide +kernel,by decide +kernel⟩
theorem Ar (a:At K mg "places_by_kinds" JA)(B:Blt mg):Df P w K mg base "places_by_kinds" ["kinds"] 2 (cSp Br):=by
 refine dfA (k:=1) a KJ (fun _ _ _ _ _ _=>Pn1_ fun _=>rfl) (fun xs M Q h=>?_) (fun f cdv A outer s H E hr=>?_)
 ·obtain ⟨_,_,rfl,_⟩:=h;rfl
 have sc:=KJ
 have hsl:=hsl
 refine ⟨_,(ze (JW (j:=1) rfl sc.nd rfl (by first | exact Or.inl rfl | exact Or.inr rfl) (ts:=[4,5]) rfl (zP rfl B.range (za zc zb)) (fun _ _ _ _=>(zv (i:=4) sc.nd rfl (by first | exact Or.inl rfl | exact Or.inr rfl))) (fun _ _ _ _=>qD) (fun _ _ _ _ _=>(Kb rfl rfl (by intro _ e;cases e <;> rfl) (zP rfl B.range (za zc zb)) (fun _=>rfl) (zv (i:=5) sc.nd rfl (by first | exact Or.inl rfl | exact Or.inr rfl)) qD (Xi (Nat.lt_of_succ_lt (jP hr)) rfl (zY (za (pv 4) (za (pv 5) zb))) (jY (qi zb)) (fun _ _ z=>z)) (fun _ _ z=>z))))
  (ze (qT PassesOwn.never rfl (Qq rfl B.enumerate (za (zr zU rfl B.sorted qJ (za (pv 0) zb)) zb)) (qB (K:=K) 2 rfl rfl (zB (zv (i:=2) sc.nd rfl (by first | exact Or.inl rfl | exact Or.inr rfl)) (zB (zv (i:=3) sc.nd rfl (by first | exact Or.inl rfl | exact Or.inr rfl)) qF))) (zt (Zr (Vr PySem.F.plainAttrs_list PySem.F.slot_list_append PySem.F.type_list_append xO (j8 (jP hr) (pv 1) (zY (za (pv 3) (za (zC je (pv 0) (pv 2) (fun _ _=>rfl)) zb))) (fun _ _=>rfl)) (za (pv 2) zb)))))
  (zt (qa (pv 1))))),?_⟩
 refine ex2 (by walk_at "sim") ?_
 rintro xs M Q ⟨y,ks,rfl,hy,hk,hn,q⟩
 rw [show qW ["kinds","found","place","goal","i","j"] [y]=[some y,none,none,none,none,none] from rfl]
 refine zm fun r hr0=>?_
 walk_at "ra"
 refine ⟨by decide,by decide,fun D hD=>?_⟩
 refine ⟨fun i ρ M'=>i<=3/\∃ u v P,ρ=[some y,none,none,none,u,v]/\PlN M M' D P (fun _=>[]) (3 * i),⟨by omega,none,none,fun _=>0,rfl,PlN.start hD⟩,?_,?_⟩
 ·rintro i x ρ M' hx ⟨hi,u,v,P,rfl,hP⟩
  obtain ⟨hi3,rfl⟩:=qo hx
  have hi3:i<3:=hi3
  refine ⟨trivial,?_⟩
  walk_at "ra"
  refine ⟨by decide,by decide,?_⟩
  refine ⟨fun j ρ M'=>j<=3/\∃ v P,ρ=[some y,none,none,none,some (.d (.int (0+(i:Int) * 1))),v]/\PlN M M' D P (fun _=>[]) (3 * i+j),⟨by omega,_,P,rfl,hP⟩,?_,?_⟩
  ·rintro j x ρ M' hx ⟨hj,v,P,rfl,hP⟩
   obtain ⟨hj3,rfl⟩:=qo hx
   have hj3:j<3:=hj3
   refine ⟨trivial,?_⟩
   walk_at "ra"
   refine ⟨Nat.le_trans (by decide) (Nat.le_of_lt hsl),fun p hp _=>?_⟩
   have pD:D ≠ p:=fun z=>by rw [<- z,hP.d] at hp;cases hp
   have ek:ikT [0+(i:Int) * 1,0+(j:Int) * 1]=kk (3 * i+j):=by
    unfold kk
    rw [show (3 * i+j) / 3=i by omega,show (3 * i+j) % 3=j by omega,Int.zero_add,Int.zero_add,Int.mul_one,Int.mul_one]
   refine ⟨_,[0+(i:Int) * 1,0+(j:Int) * 1],rfl,(zh pD).trans hP.d,by rw [Yn];omega,by omega,(fun k=>if k=3 * i+j then p else P k),?_⟩
   rw [ek]
   exact hP.more hp rfl
  ·rintro ρ M1 ⟨_,v,P,rfl,hP⟩
   exact ⟨trivial,by omega,⟨_,_,rfl⟩,P,hP⟩
 rintro ρ M1 ⟨_,u,v,P,rfl,hP⟩
 refine ⟨trivial,?_⟩
 have hP:PlN M M1 D P (fun _=>[]) 9:=hP
 dsimp only
 subst hr0
 have sy:∀ {M2:MH} {P:Nat->Addr} {C:Nat->List Nat},PlN M M2 D P C 9->zQ y M2=some (List.map (fun i=>AV.d (.int i)) ks):=fun h=>Yl hy h.fr
 refine zm fun r hr0=>?_
 walk_at "ra"
 refine ⟨ks,sy hP,hn,fun ns' pm pw=>?_⟩
 have es:=xh pm pw
 subst es
 have sl:(srt ks).length=ks.length:=(zy ks).length_eq
 have s3:∀ k ∈ srt ks,0<=k/\k<3:=fun k h=>hk k ((zy ks).mem_iff.mp h)
 refine ⟨fun i ρ M'=>i<=ks.length/\∃ u v,ρ=[some y,some (.ref D),u,v,none,none]/\PlN M M' D P (qZ (srt ks) ks i) 9,⟨Nat.zero_le _,_,_,rfl,hP⟩,?_,?_⟩
 ·rintro i x ρ M' hx ⟨hi,u,v,rfl,hP⟩
  obtain ⟨d,hd,rfl⟩:=kz hx
  rw [List.getElem?_map] at hd
  obtain ⟨g,hg,rfl⟩:=Option.map_eq_some_iff.mp hd
  have hil:i<ks.length:=by rw [<- sl];exact (List.getElem?_eq_some_iff.mp hg).1
  have g3:=s3 g (List.mem_of_getElem? hg)
  have hh:=List.getElem?_eq_getElem hil
  have h3:=hk ks[i] (List.getElem_mem hil)
  have eg:(srt ks).getD i 0=((g.toNat:Nat):Int):=by rw [List.getD_eq_getElem?_getD,hg];show g=_;omega
  have eh:ks.getD i 0=((ks[i].toNat:Nat):Int):=by rw [List.getD_eq_getElem?_getD,hh];show ks[i]=_;omega
  refine ⟨trivial,?_⟩
  walk_at "ra"
  have k9:3 * g.toNat+ks[i].toNat<9:=by omega
  have ek:ikT [g,ks[i]]=kk (3 * g.toNat+ks[i].toNat):=by
   unfold kk
   rw [show (3 * g.toNat+ks[i].toNat) / 3=g.toNat by omega,show (3 * g.toNat+ks[i].toNat) % 3=ks[i].toNat by omega,show ((g.toNat:Nat):Int)=g by omega,show ((ks[i].toNat:Nat):Int)=ks[i] by omega]
  have hc:(qZ (srt ks) ks i (3 * g.toNat+ks[i].toNat)).length<=i:=Nat.le_trans (List.length_filter_le _ _) (by simp)
  have hpk:=hP.p _ k9
  have step:(fun l=>if l=3 * g.toNat+ks[i].toNat then qZ (srt ks) ks i l ++ [i] else qZ (srt ks) ks i l)=qZ (srt ks) ks (i+1):=by
   funext l
   rw [xX (srt ks) ks i l eg eh (by omega) (by omega)]
  refine ⟨_,sy hP,.d (.int ks[i]),?_,Nat.le_trans (by decide) (Nat.le_of_lt hsl),[.int g,.int ks[i]],rfl,_,hP.d,[g,ks[i]],rfl,.ref (P (3 * g.toNat+ks[i].toNat)),by rw [ek];exact y6 k9,⟨_,jp hpk⟩,_,rfl,_,hpk,?_,by omega,?_⟩
  ·rw [WJ (Int.natCast_nonneg i) (by simpa using hil) (.d .non),List.getD_eq_getElem?_getD,Int.toNat_natCast,List.getElem?_map,hh];rfl
  ·rw [List.length_map];exact Nat.lt_of_le_of_lt (Nat.le_trans hc (Nat.le_trans hi hn)) (by rw [sizeLine_eq];decide)
  ·rw [<- step]
   exact hP.app k9 i
 ·rintro ρ M1 ⟨_,u,v,rfl,hP⟩
  refine ⟨trivial,?_⟩
  rw [jG,List.length_map,sl] at hP
  subst hr0
  walk_at "ra"
  refine ⟨.ref D,M1,⟨fun q=>.inl rfl,fun q o e=>?_,.inl ⟨rfl,fun p z=>by cases z;rw [hP.d];exact fun z=>nomatch z⟩⟩,q _ _ _ hP⟩
  by_cases c:q=D
  ·rw [c,hP.d] at e;cases e
   refine .inr fun r hr=>?_
   obtain ⟨kv,hkv,er⟩:=List.mem_map.mp hr
   obtain ⟨k,hkr,rfl⟩:=List.mem_map.mp hkv
   cases er
   rw [hP.p k (List.mem_range.mp hkr)];exact fun z=>nomatch z
  ·by_cases c2:∃ k,k<9/\q=P k
   ·obtain ⟨k,h9,rfl⟩:=c2
    rw [hP.p k h9] at e;cases e
    refine .inr fun r hr=>?_
    obtain ⟨kv,hkv,er⟩:=List.mem_map.mp hr
    cases er
   ·refine .inl ?_
    rw [<- hP.els q c fun k hk z=>c2 ⟨k,hk,z⟩];exact e
theorem kJ {x:AV}{M:MH}{l:List AV}(h:zL x M=some l):zQ x M=some l:=by
 cases x with
 | d x=>cases x <;> first | exact h | (cases h)
 | ref a=>exact h
noncomputable abbrev nD (n:Nat):Dat:=.int (n:Int)
theorem AL {i j:Nat}(hj:j<3):ikT [(i:Int),(j:Int)]=kk (3 * i+j):=by
 unfold kk
 rw [show (3 * i+j) / 3=i by omega,show (3 * i+j) % 3=j by omega]
noncomputable def Ko (K:PySem.W.Frag)(mg:Str->Option Value):Prop:=∃ a b0 b1 b2:Addr,mg "PAIRS"=some (.ref a)/\KT1 K a [.ref b0,.ref b1,.ref b2]/\KT1 K b0 [.int 0,.int 1]/\KT1 K b1 [.int 0,.int 2]/\KT1 K b2 [.int 1,.int 2]
theorem k3 {l:List Int}(h:∀ k ∈ l,0<=k/\k<3)(p:Nat)(hp:p<l.length):l.getD p 0=0 \/ l.getD p 0=1 \/ l.getD p 0=2:=by
 have:=h l[p] (List.getElem_mem hp)
 rw [List.getD_eq_getElem?_getD,List.getElem?_eq_getElem hp]
 show l[p]=0 \/ l[p]=1 \/ l[p]=2
 omega
theorem Xy {x:AV}{M M':MH}{l:List AV}(h:zL x M=some l)(f:Fr M M'):zL x M'=some l:=by
 rcases jm h with ⟨m,rfl,rfl⟩ | ⟨a,rfl,e⟩
 ·rfl
 ·exact jp ((f a (by rw [e];exact fun z=>nomatch z)).trans e)
structure RwS (M M':MH)(pr:Addr)(p:Nat->Addr)(c:Nat->Nat->Nat):Prop where
 r:M' pr=some (.lst [.ref (p 0),.ref (p 1),.ref (p 2)])
 e:∀ g,g<3->M' (p g)=some (.lst [nI (c g 0),nI (c g 1),nI (c g 2)])
 ne:∀ g,g<3->p g ≠ pr
 inj:∀ g h,g<3->h<3->p g=p h->g=h
 r0:M pr=none
 p0:∀ g,g<3->M (p g)=none
 fr:Fr M M'
theorem RwS.at_ {M M':MH}{pr:Addr}{p:Nat->Addr}{c:Nat->Nat->Nat}(h:RwS M M' pr p c){g:Nat}(hg:g<3):zQ (.ref pr) M'=some [.ref (p 0),.ref (p 1),.ref (p 2)]/\atI [AV.ref (p 0),.ref (p 1),.ref (p 2)] (g:Int)=some (.ref (p g)):=by
 refine ⟨qK h.r,?_⟩
 match g,hg with
 | 0,_=>rfl
 | 1,_=>rfl
 | 2,_=>rfl
theorem RwS.cell {M M':MH}{pr:Addr}{p:Nat->Addr}{c:Nat->Nat->Nat}(h:RwS M M' pr p c){g k:Nat}(hg:g<3)(hk:k<3):zQ (.ref (p g)) M'=some [nI (c g 0),nI (c g 1),nI (c g 2)]/\atI [nI (c g 0),nI (c g 1),nI (c g 2)] (k:Int)=some (nI (c g k)):=by
 refine ⟨qK (h.e g hg),?_⟩
 match k,hk with
 | 0,_=>rfl
 | 1,_=>rfl
 | 2,_=>rfl
theorem RwS.up {M M':MH}{pr:Addr}{p:Nat->Addr}{c c':Nat->Nat->Nat}(h:RwS M M' pr p c){g k:Nat}(hg:g<3)(hk:k<3){v:Int}(hv:v=(c' g k:Int))(ho:∀ a b,a<3->b<3->¬ (a=g/\b=k)->c' a b=c a b) :
  ixN [nI (c g 0),nI (c g 1),nI (c g 2)].length (k:Int)=some k/\RwS M (mup M' (p g) (.lst ([nI (c g 0),nI (c g 1),nI (c g 2)].set k (.d (.int v))))) pr p c':=by
 refine ⟨by rw [kB (by omega) (by simp only [List.length_cons,List.length_nil];omega),Int.toNat_natCast],by rw [zh (Ne.symm (h.ne g hg))];exact h.r,fun a ha=>?_,h.ne,h.inj,h.r0,h.p0,h.fr.mup (h.p0 g hg) _⟩
 by_cases c1:a=g
 ·subst c1
  rw [zf,hv]
  match k,hk,ho with
  | 0,_,ho=>rw [ho a 1 ha (by omega) (by omega),ho a 2 ha (by omega) (by omega)];rfl
  | 1,_,ho=>rw [ho a 0 ha (by omega) (by omega),ho a 2 ha (by omega) (by omega)];rfl
  | 2,_,ho=>rw [ho a 0 ha (by omega) (by omega),ho a 1 ha (by omega) (by omega)];rfl
 ·rw [zh (fun z=>c1 (h.inj a g ha hg z)),ho a 0 ha (by omega) (fun z=>c1 z.1),ho a 1 ha (by omega) (fun z=>c1 z.1),ho a 2 ha (by omega) (fun z=>c1 z.1)];exact h.e a ha
noncomputable def ln3 (C:Int->Int->List Nat):Int:=((min (C 0 1).length (C 1 0).length:Nat):Int)+((min (C 0 2).length (C 2 0).length:Nat):Int)+((min (C 1 2).length (C 2 1).length:Nat):Int)
noncomputable def qv (C:Int->Int->List Nat):Int:=ln3 C+(((C 0 1).length:Int)+(C 0 2).length+(C 1 0).length+(C 1 2).length+(C 2 0).length+(C 2 1).length - 2 * ln3 C) / 3 * 2
noncomputable def awT (C:Int->Int->List Nat):Nat->Int
 | 0=>0
 | i+1=>awT C i+(((C i 0).length:Int)+(C i 1).length+(C i 2).length) - (C i i).length
noncomputable def Bl:ASp:=fun xs M Q=>∃ (y:AV) (ks:List Int),xs=[y]/\zL y M=some (List.map (fun i=>AV.d (.int i)) ks)/\(∀ k ∈ ks,0<=k/\k<3)/\ks.length<=1000/\Q (.d (.int (qv (cel (srt ks) ks)))) M
noncomputable abbrev wy:Stmt:=top 10
theorem ZJ:zJ ["_law_kinds_here","_law_due","_law_rows","_law_twos","_law_away","_law_i","_law_kind","_law_goal","_law_j"] ["_law_kinds_here"] (zn wy):=⟨rfl,rfl,rfl,by decide +kernel,rfl,by decide +kernel,by decide +kernel⟩
theorem YA (a:At K mg "_law_fewest" wy)(B:Blt mg)(Bsum:mg "sum"=none):Df P w K mg base "_law_fewest" ["_law_kinds_here"] 1 (cSp Bl):=by
  refine dfA (k:=0) a ZJ (fun _ _ _ _ _ _=>Pn1_ fun _=>rfl) (fun xs M Q h=>?_) (fun f cdv A outer s H E hr=>?_)
  · obtain ⟨_,_,rfl,_⟩:=h;rfl
  have sc:=ZJ
  have hsl:=hsl
  refine' ⟨_,?q0,?qr⟩
  (case q0=>
    refine' ze ?q1 ?q2
    (case q1=>exact (zu (i:=1) sc.nd rfl (by first | exact Or.inl rfl | exact Or.inr rfl) (zr zU rfl B.sorted qJ (za (pv 0) zb))))
    (case q2=>
      refine' ze ?q3 ?q4
      (case q3=>
        refine' zu (i:=2) ?q5 ?q6 ?q7 ?q8
        (case q5=>exact sc.nd)
        (case q6=>exact rfl)
        (case q7=>exact (by first | exact Or.inl rfl | exact Or.inr rfl))
        (case q8=>
          refine' jY ?q9
          (case q9=>
            refine' qi ?q10
            (case q10=>
              refine' za ?q11 ?q12
              (case q11=>exact (jY (qi (za zc (za zc (za zc zb))))))
              (case q12=>
                refine' za ?q13 ?q14
                (case q13=>exact (jY (qi (za zc (za zc (za zc zb))))))
                (case q14=>
                  refine' za ?q15 ?q16
                  (case q15=>exact (jY (qi (za zc (za zc (za zc zb))))))
                  (case q16=>exact zb)))))))
      (case q4=>
        refine' ze ?q17 ?q18
        (case q17=>exact (qT PassesOwn.never rfl (Ky rfl B.zip (za (pv 0) (za (pv 1) zb))) (qB (K:=K) 2 rfl rfl (zB (zv (i:=6) sc.nd rfl (by first | exact Or.inl rfl | exact Or.inr rfl)) (zB (zv (i:=7) sc.nd rfl (by first | exact Or.inl rfl | exact Or.inr rfl)) qF))) (zt (kg (zo zI (zC je (zC je (pv 2) (pv 7) (fun _ _=>rfl)) (pv 6) (fun _ _=>rfl)) zc) (jS (zC je (pv 2) (pv 7) (fun _ _=>rfl)) (pv 6) qj)))))
        (case q18=>
          refine' ze ?q19 ?q20
          (case q19=>
            refine' zu (i:=3) ?q21 ?q22 ?q23 ?q24
            (case q21=>exact sc.nd)
            (case q22=>exact rfl)
            (case q23=>exact (by first | exact Or.inl rfl | exact Or.inr rfl))
            (case q24=>
              refine' zr ?q25 ?q26 ?q27 ?q28 ?q29
              (case q25=>exact (kC rfl))
              (case q26=>exact rfl)
              (case q27=>exact Bsum)
              (case q28=>exact wF)
              (case q29=>
                refine' za ?q30 ?q31
                (case q30=>
                  refine' ye (ts:=[5,8]) ?q32 ?q33 ?q34 ?q35 ?q36 ?q37
                  (case q32=>exact rfl)
                  (case q33=>exact rfl)
                  (case q34=>
                    refine' JN ?q38
                    (case q38=>
                      refine' zY ?q39
                      (case q39=>
                        refine' za ?q40 ?q41
                        (case q40=>exact (zY (za zc (za zc zb))))
                        (case q41=>
                          refine' za ?q42 ?q43
                          (case q42=>exact (zY (za zc (za zc zb))))
                          (case q43=>
                            refine' za ?q44 ?q45
                            (case q44=>exact (zY (za zc (za zc zb))))
                            (case q45=>exact zb))))))
                  (case q35=>exact (fun _ _ _ _=>(qB (K:=K) 2 rfl rfl (zB (zv (i:=5) sc.nd rfl (by first | exact Or.inl rfl | exact Or.inr rfl)) (zB (zv (i:=8) sc.nd rfl (by first | exact Or.inl rfl | exact Or.inr rfl)) qF)))))
                  (case q36=>exact (fun _ _ _ _=>qD))
                  (case q37=>exact (fun _ _ _ _=>(zr (xQ rfl) rfl B.min JZ (za (zC (jb (K:=K) rfl) (zC (jb (K:=K) rfl) (pv 2) (pv 5) (fun _ _=>rfl)) (pv 8) (fun _ _=>rfl)) (za (zC (jb (K:=K) rfl) (zC (jb (K:=K) rfl) (pv 2) (pv 8) (fun _ _=>rfl)) (pv 5) (fun _ _=>rfl)) zb))))))
                (case q31=>exact zb))))
          (case q20=>exact (ze (zu (i:=4) sc.nd rfl (by first | exact Or.inl rfl | exact Or.inr rfl) zc) (ze (qT PassesOwn.never rfl (zP rfl B.range (za zc zb)) (zv (i:=5) sc.nd rfl (by first | exact Or.inl rfl | exact Or.inr rfl)) (zt (zu (i:=4) sc.nd rfl (by first | exact Or.inl rfl | exact Or.inr rfl) (zo yu (zo zI (pv 4) (zr (kC rfl) rfl Bsum wF (za (zC je (pv 2) (pv 5) (fun _ _=>rfl)) zb))) (zC je (zC je (pv 2) (pv 5) (fun _ _=>rfl)) (pv 5) (fun _ _=>rfl)))))) (zt (qa (zo zI (pv 3) (zo qt (zo yM (zo yu (pv 4) (zo qt zc (pv 3))) zc) zc)))))))))))
  refine ex2 (by walk_at "sim") ?_
  rintro xs M Q ⟨y,ks,rfl,hy,hk,hn,q⟩
  rw [show qW ["_law_kinds_here","_law_due","_law_rows","_law_twos","_law_away","_law_i","_law_kind","_law_goal","_law_j"] [y]=[some y,none,none,none,none,none,none,none,none] from rfl]
  refine zm fun r hr0=>?_
  walk_at "ra"
  refine ⟨ks,kJ hy,hn,fun ns' pm pw=>?_⟩
  have es:=xh pm pw
  subst es
  subst hr0
  refine zm fun r hr0=>?_
  walk_at "ra"
  refine ⟨by omega,fun p0 n0 _=>⟨by omega,fun p1 n1 _=>⟨by omega,fun p2 n2 _=>⟨by omega,fun pr nr0 nr=>?_⟩⟩⟩⟩
  have sl:(srt ks).length=ks.length:=(zy ks).length_eq
  have s3:∀ k ∈ srt ks,0<=k/\k<3:=fun k h=>hk k ((zy ks).mem_iff.mp h)
  have h0:∃ p,RwS M (mup (mup (mup (mup M p0 (.lst [nI 0,nI 0,nI 0])) p1 (.lst [nI 0,nI 0,nI 0])) p2 (.lst [nI 0,nI 0,nI 0])) pr (.lst [.ref p0,.ref p1,.ref p2])) pr p fun g k=>(qZ (srt ks) ks 0 (3 * g+k)).length:=by
    have a10:p1 ≠ p0:=fun z=>by rw [z,zf] at n1;cases n1
    rw [zh a10] at n1
    have a21:p2 ≠ p1:=fun z=>by rw [z,zf] at n2;cases n2
    rw [zh a21] at n2
    have a20:p2 ≠ p0:=fun z=>by rw [z,zf] at n2;cases n2
    rw [zh a20] at n2
    have b2:pr ≠ p2:=fun z=>by rw [z,zf] at nr;cases nr
    rw [zh b2] at nr
    have b1:pr ≠ p1:=fun z=>by rw [z,zf] at nr;cases nr
    rw [zh b1] at nr
    have b0:pr ≠ p0:=fun z=>by rw [z,zf] at nr;cases nr
    rw [zh b0] at nr
    refine ⟨fun g=>if g=0 then p0 else if g=1 then p1 else p2,⟨zf,fun g hg=>?_,fun g hg=>?_,fun g h hg hh e=>?_,nr,fun g hg=>?_,(((Fr.refl.mup n0 _).mup n1 _).mup n2 _).mup nr _⟩⟩
    · match g,hg with
      | 0,_=>show mup _ _ _ p0=_;rw [zh (Ne.symm b0),zh (Ne.symm a20),zh (Ne.symm a10),zf];rfl
      | 1,_=>show mup _ _ _ p1=_;rw [zh (Ne.symm b1),zh (Ne.symm a21),zf];rfl
      | 2,_=>show mup _ _ _ p2=_;rw [zh (Ne.symm b2),zf];rfl
    · match g,hg with
      | 0,_=>exact Ne.symm b0
      | 1,_=>exact Ne.symm b1
      | 2,_=>exact Ne.symm b2
    · match g,hg,h,hh,e with
      | 0,_,0,_,_=>rfl
      | 0,_,1,_,e=>exact absurd e (Ne.symm a10)
      | 0,_,2,_,e=>exact absurd e (Ne.symm a20)
      | 1,_,0,_,e=>exact absurd e a10
      | 1,_,1,_,_=>rfl
      | 1,_,2,_,e=>exact absurd e (Ne.symm a21)
      | 2,_,0,_,e=>exact absurd e a20
      | 2,_,1,_,e=>exact absurd e a21
      | 2,_,2,_,_=>rfl
    · match g,hg with
      | 0,_=>exact n0
      | 1,_=>exact n1
      | 2,_=>exact n2
  obtain ⟨p,h0⟩:=h0
  generalize hM2:mup (mup (mup (mup M p0 (.lst [AV.d (.int 0),AV.d (.int 0),AV.d (.int 0)])) p1 (.lst [AV.d (.int 0),AV.d (.int 0),AV.d (.int 0)])) p2 (.lst [AV.d (.int 0),AV.d (.int 0),AV.d (.int 0)])) pr (.lst [.ref p0,.ref p1,.ref p2])=M2
  have h0:RwS M M2 pr p fun g k=>(qZ (srt ks) ks 0 (3 * g+k)).length:=by rw [<- hM2];exact h0
  have ly:∀ {M3:MH} {c:Nat->Nat->Nat},RwS M M3 pr p c->zL y M3=some ((ks.map Dat.int).map AV.d):=fun h=>by rw [qE];exact Xy hy h.fr
  clear hM2 n0 n1 n2 nr nr0
  subst hr0
  refine zm fun r hr0=>?_
  walk_at "ra"
  refine ⟨ks.map .int,(srt ks).map .int,.inl ⟨ly h0,by rw [qE]⟩,?_⟩
  refine ⟨fun i ρ M'=>i<=ks.length/\∃ u v,ρ=[some y,some (.d (.lst ((srt ks).map .int))),some (.ref pr),none,none,none,u,v,none]/\RwS M M' pr p fun g k=>(qZ (srt ks) ks i (3 * g+k)).length,⟨Nat.zero_le _,_,_,rfl,h0⟩,?_,?_⟩
  · rintro i x ρ M' hx ⟨hi,u,v,rfl,hP⟩
    obtain ⟨d,e,hd,he,rfl⟩:=xu hx
    rw [List.getElem?_map] at hd he
    obtain ⟨h,hh,rfl⟩:=Option.map_eq_some_iff.mp hd
    obtain ⟨g,hg,rfl⟩:=Option.map_eq_some_iff.mp he
    have hil:i<ks.length:=(List.getElem?_eq_some_iff.mp hh).1
    have g3:=s3 g (List.mem_of_getElem? hg)
    have h3:=hk h (List.mem_of_getElem? hh)
    obtain ⟨a,rfl⟩:∃ a:Nat,g=a:=⟨g.toNat,by omega⟩
    obtain ⟨b,rfl⟩:∃ b:Nat,h=b:=⟨h.toNat,by omega⟩
    have eg:(srt ks).getD i 0=(a:Int):=by rw [List.getD_eq_getElem?_getD,hg];rfl
    have eh:ks.getD i 0=(b:Int):=by rw [List.getD_eq_getElem?_getD,hh];rfl
    have st:=fun k=>xX (srt ks) ks i k eg eh (by omega) (by omega)
    obtain ⟨u1,u2⟩:=hP.up (g:=a) (k:=b) (c':=fun g k=>(qZ (srt ks) ks (i+1) (3 * g+k)).length) (v:=((qZ (srt ks) ks i (3 * a+b)).length:Int)+1) (by omega) (by omega) (by rw [st,if_pos rfl,List.length_append];simp) (fun x y hx hy z=>by show (qZ (srt ks) ks (i+1) (3 * x+y)).length=_;rw [st,if_neg (by omega)])
    refine ⟨(ly hP).trans (ly h0).symm,?_⟩
    walk_at "ra"
    have c1:=hP.at_ (g:=a) (by omega)
    have c2:=hP.cell (g:=a) (k:=b) (by omega) (by omega)
    exact ⟨_,c1.1,_,c1.2,_,c2.1,_,c2.2,_,rfl,_,c1.1,_,c1.2,_,rfl,_,hP.e a (by omega),_,u1,hil,u2⟩
  · rintro ρ M1 ⟨_,u,v,rfl,hP⟩
    refine ⟨(ly hP).trans (ly h0).symm,?_⟩
    rw [j9,List.length_map,List.length_map,sl,Nat.min_self] at hP
    subst hr0
    dsimp only
    have cE:∀ g k:Nat,g<3->k<3->(qZ (srt ks) ks ks.length (3 * g+k)).length=(cel (srt ks) ks (g:Int) (k:Int)).length:=fun g k hg hk=>by rw [vU,show (3 * g+k) / 3=g by omega,show (3 * g+k) % 3=k by omega]
    refine zm fun r hr0=>?_
    walk_at "ra"
    refine ⟨by omega,by omega,by omega,by omega,?_⟩
    refine Yq (fun o:Option AV × Option AV=>[some y,some (.d (.lst ((srt ks).map .int))),some (.ref pr),none,none,o.1,u,v,o.2]) (fun z:Nat × Nat=>AV.d (.tup [nD z.1,nD z.2])) (fun z=>nI (min (cel (srt ks) ks z.1 z.2).length (cel (srt ks) ks z.2 z.1).length)) [(0,1),(0,2),(1,2)] ⟨(none,none),rfl⟩ trivial (by simp) (fun o z Q hz q=>?_) fun o=>?_
    · have z3 : z.1 < 3 /\ z.2 < 3 := by
        simp only [List.mem_cons,List.not_mem_nil,or_false] at hz
        rcases hz with rfl | rfl | rfl <;> exact ⟨by decide,by decide⟩
      walk_at "ra"
      have c1:=hP.at_ z3.1
      have c2:=hP.cell z3.1 z3.2
      have c3:=hP.at_ z3.2
      have c4:=hP.cell z3.2 z3.1
      refine ⟨_,c1.1,_,c1.2,_,c2.1,_,c2.2,_,c3.1,_,c3.2,_,c4.1,_,c4.2,_,rfl,_,rfl,?_⟩
      have:=q (some (.d (.int z.1)),some (.d (.int z.2)))
      rw [cE _ _ z3.1 z3.2,cE _ _ z3.2 z3.1,show (if ((cel (srt ks) ks z.2 z.1).length:Int)<((cel (srt ks) ks z.1 z.2).length:Int) then ((cel (srt ks) ks z.2 z.1).length:Int) else ((cel (srt ks) ks z.1 z.2).length:Int))=((min (cel (srt ks) ks z.1 z.2).length (cel (srt ks) ks z.2 z.1).length:Nat):Int) by split <;> omega]
      exact this
    have cb:∀ g k:Int,(cel (srt ks) ks g k).length<=1000:=fun g k=>Nat.le_trans (List.length_filter_le _ _) (by rw [List.length_range];exact hn)
    have b01:=cb 0 1
    have b02:=cb 0 2
    have b12:=cb 1 2
    refine ⟨_,rfl,[((min (cel (srt ks) ks 0 1).length (cel (srt ks) ks 1 0).length:Nat):Int),((min (cel (srt ks) ks 0 2).length (cel (srt ks) ks 2 0).length:Nat):Int),((min (cel (srt ks) ks 1 2).length (cel (srt ks) ks 2 1).length:Nat):Int)],rfl,fun x hx=>?_,by simp,?_⟩
    · simp only [List.mem_cons,List.not_mem_nil,or_false] at hx
      rcases hx with rfl | rfl | rfl <;> omega
    have e3:[((min (cel (srt ks) ks 0 1).length (cel (srt ks) ks 1 0).length:Nat):Int),((min (cel (srt ks) ks 0 2).length (cel (srt ks) ks 2 0).length:Nat):Int),((min (cel (srt ks) ks 1 2).length (cel (srt ks) ks 2 1).length:Nat):Int)].sum=ln3 (cel (srt ks) ks):=by
      simp only [List.sum_cons,List.sum_nil];unfold ln3;omega
    rw [e3]
    subst hr0
    refine zm fun r hr0=>?_
    walk_at "ra"
    subst hr0
    refine zm fun r hr0=>?_
    walk_at "ra"
    refine ⟨by omega,by omega,?_⟩
    refine ⟨fun i ρ M'=>M1=M'/\i<=3/\∃ u5,ρ=[some y,some (.d (.lst ((srt ks).map .int))),some (.ref pr),some (.d (.int (ln3 (cel (srt ks) ks)))),some (.d (.int (awT (cel (srt ks) ks) i))),u5,u,v,none],⟨rfl,by omega,_,rfl⟩,?_,?_⟩
    · rintro i x ρ M' hx ⟨rfl,hi,u5,rfl⟩
      obtain ⟨hi3,rfl⟩:=qo hx
      have hi3:i<3:=hi3
      refine ⟨trivial,?_⟩
      rw [Int.zero_add,Int.mul_one]
      walk_at "ra"
      have c1:=hP.at_ hi3
      have c2:=hP.cell hi3 hi3
      refine ⟨_,c1.1,_,c1.2,[((cel (srt ks) ks i 0).length:Int),((cel (srt ks) ks i 1).length:Int),((cel (srt ks) ks i 2).length:Int)],?_,fun x hx=>?_,by simp,?_⟩
      · rw [jp (hP.e i hi3),cE i 0 hi3 (by omega),cE i 1 hi3 (by omega),cE i 2 hi3 (by omega)];rfl
      · simp only [List.mem_cons,List.not_mem_nil,or_false] at hx
        have:=cb i 0
        have:=cb i 1
        have:=cb i 2
        rcases hx with rfl | rfl | rfl <;> omega
      · refine ⟨_,c1.1,_,c1.2,_,c2.1,_,c2.2,_,rfl,by omega,?_,_,rfl⟩
        rw [cE i i hi3 hi3]
        simp only [List.sum_cons,List.sum_nil,awT]
        omega
    · rintro ρ M' ⟨rfl,_,u5,rfl⟩
      refine ⟨trivial,?_⟩
      dsimp only
      subst hr0
      walk_at "ra"
      refine ⟨xb (by omega) (by omega),Zq (by omega) (by omega),Zd (by omega) (by omega),?_⟩
      refine ⟨_,_,Kc hP.fr _,?_⟩
      have ea:awT (cel (srt ks) ks) 3=((cel (srt ks) ks 0 1).length:Int)+(cel (srt ks) ks 0 2).length+(cel (srt ks) ks 1 0).length+(cel (srt ks) ks 1 2).length+(cel (srt ks) ks 2 0).length+(cel (srt ks) ks 2 1).length:=by
        show 0+(((cel (srt ks) ks 0 0).length:Int)+(cel (srt ks) ks 0 1).length+(cel (srt ks) ks 0 2).length) - (cel (srt ks) ks 0 0).length+(((cel (srt ks) ks 1 0).length:Int)+(cel (srt ks) ks 1 1).length+(cel (srt ks) ks 1 2).length) - (cel (srt ks) ks 1 1).length+(((cel (srt ks) ks 2 0).length:Int)+(cel (srt ks) ks 2 1).length+(cel (srt ks) ks 2 2).length) - (cel (srt ks) ks 2 2).length=_
        omega
      rw [qL,show Int.toNat 3=3 from rfl,ea]
      exact q
noncomputable def swp (r:List Int)(a b:Nat):List Int:=(r.set a (r.getD b 0)).set b (r.getD a 0)
noncomputable def sm (f:Nat->Int):Nat->Int
 | 0=>0
 | n+1=>sm f n+f n
theorem wj {f g:Nat->Int}{a b:Nat}(ne:a ≠ b)(h:∀ p,p ≠ a->p ≠ b->f p=g p):∀ n,sm g n+(if a<n then f a else 0)+(if b<n then f b else 0)=sm f n+(if a<n then g a else 0)+(if b<n then g b else 0)
 | 0=>by simp [sm]
 | n+1=>by
  have ih:=wj ne h n
  unfold sm
  by_cases ca:n=a
  ·subst ca
   rw [if_neg (Nat.lt_irrefl _),if_neg (Nat.lt_irrefl _)] at ih
   rw [if_pos (Nat.lt_succ_self _),if_pos (Nat.lt_succ_self _)]
   by_cases cb:b<n
   ·rw [if_pos cb,if_pos cb] at ih
    rw [if_pos (by omega),if_pos (by omega)];omega
   ·rw [if_neg cb,if_neg cb] at ih
    rw [if_neg (by omega),if_neg (by omega)];omega
  ·have ea:(a<n+1)=(a<n):=by apply propext;omega
   simp only [ea]
   by_cases cb:n=b
   ·subst cb
    rw [if_neg (Nat.lt_irrefl _),if_neg (Nat.lt_irrefl _)] at ih
    rw [if_pos (Nat.lt_succ_self _),if_pos (Nat.lt_succ_self _)]
    omega
   ·have eb:(b<n+1)=(b<n):=by apply propext;omega
    simp only [eb]
    have:=h n ca cb
    omega
theorem jW (q:Nat->Bool):∀ n,(((List.range n).filter q).length:Int)=sm (fun p=>if q p=true then 1 else 0) n
 | 0=>rfl
 | n+1=>by
  rw [List.range_succ,List.filter_append,List.length_append]
  have ih:=jW q n
  unfold sm
  cases e:q n with
  | true=>rw [List.filter_cons_of_pos e,List.filter_nil];simp only [List.length_cons,List.length_nil,if_true];omega
  | false=>rw [List.filter_cons_of_neg (by rw [e];exact Bool.false_ne_true),List.filter_nil];simp only [List.length_nil,Bool.false_eq_true,if_false];omega
noncomputable def gA (ds r:List Int)(p:Nat):Int:=(ds.getD p 0 - r.getD p 0) % 3
noncomputable def gB (ds r:List Int)(p:Nat):Int:=(r.getD p 0 - ds.getD p 0) % 3
noncomputable abbrev In3 (r:List Int):Prop:=∀ k ∈ r,0<=k/\k<3
theorem yp {r:List Int}(h:In3 r){p:Nat}:0<=r.getD p 0/\r.getD p 0<3:=by
 rw [List.getD_eq_getElem?_getD]
 cases e:r[p]? with
 | none=>exact ⟨by decide,by decide⟩
 | some x=>exact h x (List.mem_of_getElem? e)
theorem yT {ds r:List Int}(hd:In3 ds)(hr:In3 r) :
  sm (gA ds r) r.length=((cel ds r 1 0).length:Int)+(cel ds r 2 1).length+(cel ds r 0 2).length+2 * ((cel ds r 0 1).length+(cel ds r 1 2).length+(cel ds r 2 0).length) /\
  sm (gB ds r) r.length=2 * (((cel ds r 1 0).length:Int)+(cel ds r 2 1).length+(cel ds r 0 2).length)+((cel ds r 0 1).length+(cel ds r 1 2).length+(cel ds r 2 0).length):=by
 unfold cel
 rw [jW,jW,jW,jW,jW,jW]
 generalize r.length=n
 induction n with
 | zero=>exact ⟨rfl,rfl⟩
 | succ n ih=>
  simp only [sm]
  have h1:=yp (p:=n) hd
  have h2:=yp (p:=n) hr
  generalize e1:ds.getD n 0=g at *
  generalize e2:r.getD n 0=k at *
  have hg:g=0 \/ g=1 \/ g=2:=by omega
  have hk:k=0 \/ k=1 \/ k=2:=by omega
  have key:gA ds r n=(if (decide (g=1) && decide (k=0))=true then 1 else 0)+(if (decide (g=2) && decide (k=1))=true then 1 else 0)+(if (decide (g=0) && decide (k=2))=true then 1 else 0)+2 * ((if (decide (g=0) && decide (k=1))=true then 1 else 0)+(if (decide (g=1) && decide (k=2))=true then 1 else 0)+(if (decide (g=2) && decide (k=0))=true then 1 else 0)) /\
    gB ds r n=2 * ((if (decide (g=1) && decide (k=0))=true then 1 else 0)+(if (decide (g=2) && decide (k=1))=true then 1 else 0)+(if (decide (g=0) && decide (k=2))=true then 1 else 0))+((if (decide (g=0) && decide (k=1))=true then 1 else 0)+(if (decide (g=1) && decide (k=2))=true then 1 else 0)+(if (decide (g=2) && decide (k=0))=true then 1 else 0)):=by
   unfold gA gB
   rw [e1,e2]
   rcases hg with rfl | rfl | rfl <;> rcases hk with rfl | rfl | rfl <;> exact ⟨by decide,by decide⟩
  rw [key.1,key.2]
  obtain ⟨i1,i2⟩:=ih
  constructor <;> omega
theorem k3' {r:List Int}(h:In3 r):∀ p,p<r.length->r.getD p 0=0 \/ r.getD p 0=1 \/ r.getD p 0=2:=fun p _=>by
 have:=yp (p:=p) h
 omega
theorem j0 {r:List Int}(h:In3 r):In3 (srt r):=fun k hk=>h k ((zy r).mem_iff.mp hk)
theorem kI {r:List Int}(h:In3 r):3 * qv (cel (srt r) r)=max (sm (gA (srt r) r) r.length) (sm (gB (srt r) r) r.length):=by
 obtain ⟨c1,c2⟩:=yT (j0 h) h
 rw [c1,c2]
 have hm:=wn (ks:=r) (ds:=srt r) (zy r).length_eq.symm (k3' h) (fun p hp=>k3' (j0 h) p (by rw [(zy r).length_eq];exact hp)) fun v=>((zy r).count_eq v).symm
 obtain ⟨_,z1,z2,z3,z4⟩:=hm
 have dl:∀ i j,(lft (cel (srt r) r) i j).length=(cel (srt r) r i j).length - min (cel (srt r) r i j).length (cel (srt r) r j i).length:=fun i j=>by unfold lft;rw [List.length_drop]
 rw [dl,dl] at z1 z2 z3 z4
 unfold qv ln3
 omega
theorem kT {r:List Int}{a b:Nat}(ha:a<r.length)(hb:b<r.length):(swp r a b).Perm r:=by
 have:=List.set_set_perm (as:=r) ha hb
 unfold swp
 rw [List.getD_eq_getElem?_getD,List.getD_eq_getElem?_getD,List.getElem?_eq_getElem ha,List.getElem?_eq_getElem hb]
 exact this
theorem Yr (r:List Int)(a b:Nat):(swp r a b).length=r.length:=by unfold swp;rw [List.length_set,List.length_set]
theorem Z5 {r:List Int}{a b:Nat}(ha:a<r.length)(hb:b<r.length):srt (swp r a b)=srt r:=
 (xh ((zy r).trans (kT ha hb).symm) (wd r)).symm
theorem Xx {r:List Int}{a b:Nat}(h:In3 r)(ha:a<r.length)(hb:b<r.length):In3 (swp r a b):=fun k hk=>h k ((kT ha hb).mem_iff.mp hk)
theorem Yh {r:List Int}{a b:Nat}(ha:a<r.length)(hb:b<r.length)(ne:a ≠ b):(swp r a b).getD a 0=r.getD b 0/\(swp r a b).getD b 0=r.getD a 0/\∀ p,p ≠ a->p ≠ b->(swp r a b).getD p 0=r.getD p 0:=by
 unfold swp
 refine ⟨?_,?_,fun p pa pb=>?_⟩
 ·rw [List.getD_eq_getElem?_getD,List.getElem?_set,if_neg (Ne.symm ne),List.getElem?_set,if_pos rfl,if_pos ha];rfl
 ·rw [List.getD_eq_getElem?_getD,List.getElem?_set,if_pos rfl,List.length_set,if_pos hb];rfl
 ·rw [List.getD_eq_getElem?_getD,List.getElem?_set,if_neg (Ne.symm pb),List.getElem?_set,if_neg (Ne.symm pa),List.getD_eq_getElem?_getD]
theorem ch3 (u v s t:Int):(u - s) % 3+(v - t) % 3<=(u - t) % 3+(v - s) % 3+3:=by omega
theorem Bc {x y p q p' q':Int}(h:y+p+q=x+p'+q')(c:p+q<=p'+q'+3):x<=y+3:=by omega
theorem mx3 {x1 x2 y1 y2 F1 F2:Int}(e1:3 * F1=max x1 x2)(e2:3 * F2=max y1 y2)(b1:x1<=y1+3)(b2:x2<=y2+3):F1<=F2+1:=by omega
theorem Xz {r:List Int}{a b:Nat}(h:In3 r)(ha:a<r.length)(hb:b<r.length)(ne:a ≠ b):qv (cel (srt r) r)<=qv (cel (srt (swp r a b)) (swp r a b))+1:=by
 have e1:=kI h
 have e2:=kI (Xx h ha hb)
 rw [Z5 ha hb,Yr] at e2
 rw [Z5 ha hb]
 obtain ⟨ga,gb,gp⟩:=Yh ha hb ne
 have sA:=wj (f:=gA (srt r) r) (g:=gA (srt r) (swp r a b)) ne (fun p pa pb=>by unfold gA;rw [gp p pa pb]) r.length
 have sB:=wj (f:=gB (srt r) r) (g:=gB (srt r) (swp r a b)) ne (fun p pa pb=>by unfold gB;rw [gp p pa pb]) r.length
 rw [if_pos ha,if_pos hb,if_pos ha,if_pos hb] at sA sB
 unfold gA at sA
 unfold gB at sB
 rw [ga,gb] at sA sB
 exact mx3 e1 e2 (Bc sA (ch3 _ _ _ _)) (Bc sB (by have:=ch3 (r.getD a 0) (r.getD b 0) ((srt r).getD a 0) ((srt r).getD b 0);omega))
inductive Rch (ks:List Int):Nat->List Int->Prop
 | zero:Rch ks 0 ks
 | stay {m:Nat} {r:List Int}:Rch ks m r->Rch ks (m+1) r
 | step {m:Nat} {r:List Int} {a b:Nat}:Rch ks m r->a<b->b<r.length->Rch ks (m+1) (swp r a b)
theorem Rch.perm {ks:List Int}{m:Nat}{r:List Int}(h:Rch ks m r):r.Perm ks:=by
 induction h with
 | zero=>exact .refl _
 | stay _ ih=>exact ih
 | step _ h1 h2 ih=>exact (kT (by omega) h2).trans ih
theorem Rch.in3 {ks:List Int}{m:Nat}{r:List Int}(h:Rch ks m r)(hk:In3 ks):In3 r:=fun k hr=>hk k (h.perm.mem_iff.mp hr)
theorem Rch.few {ks:List Int}{m:Nat}{r:List Int}(h:Rch ks m r)(hk:In3 ks):qv (cel (srt ks) ks)<=qv (cel (srt r) r)+m:=by
 induction h with
 | zero=>omega
 | stay _ ih=>omega
 | step h' h1 h2 ih=>have:=Xz (h'.in3 hk) (Nat.lt_trans h1 h2) h2 (Nat.ne_of_lt h1);omega
theorem YJ {ks:List Int}(hk:In3 ks):qv (cel (srt (srt ks)) (srt ks))=0:=by
 have e:=kI (j0 hk)
 have s:srt (srt ks)=srt ks:=(xh (List.Perm.refl (srt ks)) (wd ks)).symm
 rw [s] at e ⊢
 have z:∀ n,sm (gA (srt ks) (srt ks)) n=0/\sm (gB (srt ks) (srt ks)) n=0:=fun n=>by
  induction n with
  | zero=>exact ⟨rfl,rfl⟩
  | succ n ih=>unfold sm;rw [ih.1,ih.2];unfold gA gB;constructor <;> omega
 obtain ⟨z1,z2⟩:=z (srt ks).length
 rw [z1,z2] at e
 omega
theorem Rch.le {ks:List Int}{m n:Nat}{r:List Int}(h:Rch ks m r)(hn:m<=n):Rch ks n r:=by
  induction n with
  | zero => have : m = 0 := by omega
            subst this;exact h
  | succ n ih=>
    by_cases c:m=n+1
    · subst c;exact h
    · exact .stay (ih (by omega))
theorem KF (r:List Int){a b:Nat}(ne:a ≠ b):swp r a b=swp r b a:=by unfold swp;rw [List.set_comm _ _ ne]
theorem Zx {ks:List Int}:∀ {l:List De} {m:Nat} {r:List Int} {st:ES},Rch ks m r->kY l (r.map some,none) st->(∀ d ∈ l,∃ a b,d=De.swap a b)->∃ t,st=(t.map some,none)/\Rch ks (m+l.length) t
 | [],m,r,st,h,hd,_=>by cases hd;exact ⟨r,rfl,h⟩
 | d :: l,m,r,st,h,hd,hs=>by
  obtain ⟨a,b,rfl⟩:=hs d List.mem_cons_self
  cases hd with
  | @cons _ _ _ t _ h1 h2=>
   have key:t=((swp r a b).map some,none)/\Rch ks (m+1) (swp r a b):=by
    cases h1 with
    | @swap _ _ _ _ x y ne g1 g2=>
     rw [List.getElem?_map] at g1 g2
     obtain ⟨x',hx,e1⟩:=Option.map_eq_some_iff.mp g1
     obtain ⟨y',hy,e2⟩:=Option.map_eq_some_iff.mp g2
     cases e1;cases e2
     have ha:=(List.getElem?_eq_some_iff.mp hx).1
     have hb:=(List.getElem?_eq_some_iff.mp hy).1
     refine ⟨?_,?_⟩
     ·unfold swp
      rw [List.getD_eq_getElem?_getD,List.getD_eq_getElem?_getD,hx,hy,List.map_set,List.map_set];rfl
     ·by_cases c:a<b
      ·exact .step h c hb
      ·rw [KF r ne];exact .step h (by omega) ha
   obtain ⟨rfl,h3⟩:=key
   obtain ⟨u,hu,h4⟩:=Zx h3 h2 fun d hd=>hs d (List.mem_cons_of_mem _ hd)
   exact ⟨u,hu,by rw [List.length_cons,show m+(l.length+1)=m+1+l.length by omega];exact h4⟩
theorem QU (C:Int->Int->List Nat):∀ d ∈ xch C,∃ a b,d=De.swap a b:=by
 have hp:∀ i j,∀ d ∈ prs C i j,∃ a b,d=De.swap a b:=fun i j d hd=>by
  obtain ⟨z,_,rfl⟩:=List.mem_map.mp hd
  exact ⟨_,_,rfl⟩
 have hr:∀ (D:Int->Int->List Nat) f s t,∀ d ∈ rnd D f s t,∃ a b,d=De.swap a b:=fun D f s t d hd=>by
  obtain ⟨z,_,hz⟩:=List.mem_flatMap.mp hd
  simp only [List.mem_cons,List.not_mem_nil,or_false] at hz
  rcases hz with rfl | rfl <;> exact ⟨_,_,rfl⟩
 intro d hd
 unfold xch at hd
 rcases List.mem_append.mp hd with hd | hd
 ·rcases List.mem_append.mp hd with hd | hd
  ·rcases List.mem_append.mp hd with hd | hd
   ·rcases List.mem_append.mp hd with hd | hd
    ·exact hp _ _ d hd
    ·exact hp _ _ d hd
   ·exact hp _ _ d hd
  ·exact hr _ _ _ _ d hd
 ·exact hr _ _ _ _ d hd
theorem Ao {r:List Int}(h:In3 r):0<=qv (cel (srt r) r):=by
 have e:=kI h
 obtain ⟨c1,_⟩:=yT (j0 h) h
 rw [c1] at e
 omega
theorem X6 {ks:List Int}(hk:In3 ks):Rch ks (qv (cel (srt ks) ks)).toNat (srt ks):=by
 have hm:=wn (ks:=ks) (ds:=srt ks) (zy ks).length_eq.symm (k3' hk) (fun p hp=>k3' (j0 hk) p (by rw [(zy ks).length_eq];exact hp)) fun v=>((zy ks).count_eq v).symm
 obtain ⟨hd,z1,z2,z3,z4⟩:=hm
 obtain ⟨t,ht,hr⟩:=Zx .zero hd (QU _)
 have e:srt ks=t:=(List.map_inj_right (f:=some) (fun _ _ h=>Option.some.inj h)).mp (Prod.mk.inj ht).1
 rw [<- e] at hr
 have l:=X8 z1 z2 z3 z4
 have e2:((xch (cel (srt ks) ks)).length:Int)=qv (cel (srt ks) ks):=by rw [l];unfold qv ln3;omega
 rw [<- e2,Int.toNat_natCast]
 rw [Nat.zero_add] at hr
 exact hr
theorem ZK {ks:List Int}(hk:In3 ks)(m:Nat):Rch ks m (srt ks) ↔ qv (cel (srt ks) ks)<=m:=by
 refine ⟨fun h=>?_,fun h=>(X6 hk).le (by omega)⟩
 have:=h.few hk
 rw [YJ hk] at this
 omega
noncomputable def Qb:Nat->List (List Int)
 | 0=>[[]]
 | n+1=>(Qb n).flatMap fun r=>[0 :: r,1 :: r,2 :: r]
theorem vt:∀ n,(Qb n).length=3 ^ n
 | 0=>rfl
 | n+1=>by
  unfold Qb
  have:∀ l:List (List Int),(l.flatMap fun r=>[0 :: r,1 :: r,2 :: r]).length=3 * l.length:=fun l=>by
   induction l with
   | nil=>rfl
   | cons x l ih=>rw [List.flatMap_cons,List.length_append,ih,List.length_cons,List.length_cons,List.length_cons,List.length_nil,List.length_cons];omega
  rw [this,vt n,Nat.pow_succ,Nat.mul_comm]
theorem vR:∀ (r:List Int),In3 r->r ∈ Qb r.length
 | [],_=>by simp [Qb]
 | x :: r,h=>by
  rw [List.length_cons]
  unfold Qb
  refine List.mem_flatMap.mpr ⟨r,vR r fun k hk=>h k (List.mem_cons_of_mem _ hk),?_⟩
  have:=h x List.mem_cons_self
  have:x=0 \/ x=1 \/ x=2:=by omega
  rcases this with rfl | rfl | rfl <;> simp
theorem Vi {α:Type}[DecidableEq α]:∀ {l r:List α},l.Nodup->(∀ x ∈ l,x ∈ r)->l.length<=r.length
 | [],_,_,_=>Nat.zero_le _
 | x :: l,r,hn,h=>by
  have hx:=h x List.mem_cons_self
  have hn':=List.nodup_cons.mp hn
  have ih:=Vi (l:=l) (r:=r.erase x) hn'.2 fun y hy=>(List.mem_erase_of_ne (fun z=>hn'.1 (by rw [<- z];exact hy))).mpr (h y (List.mem_cons_of_mem _ hy))
  rw [List.length_erase_of_mem hx] at ih
  have:0<r.length:=List.length_pos_of_mem hx
  rw [List.length_cons];omega
theorem Yo {rs:List (List Int)}{n:Nat}(hn:rs.Nodup)(h:∀ r ∈ rs,r.length=n/\In3 r)(h7:n<=7):rs.length<=2187:=by
 have:=Vi hn fun r hr=>by have:=vR r (h r hr).2;rw [(h r hr).1] at this;exact this
 rw [vt] at this
 exact Nat.le_trans this (Nat.le_trans (Nat.pow_le_pow_right (by decide) h7) (by decide))
noncomputable abbrev tpR (r:List Int):Dat:=.tup (r.map .int)
noncomputable abbrev kvO (rs:List (List Int)):List (List Key × AV):=rs.map fun r=>(ikT r,.d (.bl true))
theorem ZI {u v:List Int}(h:ikT u=ikT v):u=v:=(List.map_inj_right (fun _ _ z=>Sum.inl.inj z)).mp h
theorem vb (rs:List (List Int))(r:List Int):(qG (kvO rs) (ikT r)).isSome=decide (r ∈ rs):=by
 unfold qG
 rw [Option.isSome_map]
 induction rs with
 | nil=>rfl
 | cons x rs ih=>
  rw [kvO,List.map_cons,List.find?_cons]
  by_cases c:x=r
  ·subst c
   rw [decide_eq_true rfl]
   simp
  ·rw [decide_eq_false (fun z=>c (ZI z))]
   dsimp only
   rw [ih]
   exact decide_eq_decide.mpr ⟨fun h=>List.mem_cons_of_mem _ h,fun h=>(List.mem_cons.mp h).resolve_left (Ne.symm c)⟩
theorem XS {rs:List (List Int)}{r:List Int}(h:r ∉ rs):yw (kvO rs) (ikT r) (.d (.bl true))=kvO (rs ++ [r]):=by
 unfold yw
 rw [if_neg]
 ·rw [kvO,kvO,List.map_append];rfl
 ·intro z
  obtain ⟨kv,h1,h2⟩:=List.any_eq_true.mp z
  obtain ⟨x,hx,rfl⟩:=List.mem_map.mp h1
  exact h (by rw [<- ZI (of_decide_eq_true h2)];exact hx)
noncomputable abbrev tpA (W:List (List Int)):List AV:=W.map fun r=>.d (tpR r)
structure SrS (M M':MH)(ks:List Int)(D:Addr)(m:Nat)(rows W:List (List Int))(y:AV):Prop where
 d:M' D=some (.dT (kvO rows))
 nd:rows.Nodup
 rch:∀ r,r ∈ rows ↔ Rch ks m r
 w:zQ y M'=some (tpA W)
 sub:∀ r ∈ W,r ∈ rows
 clo:∀ r ∈ rows,r ∈ W \/ ∀ a b,a<b->b<r.length->swp r a b ∈ rows
 ne:y ≠ .ref D
 fr:Fr M M'
 d0:M D=none
theorem BK {ks r:List Int}(h:Rch ks 0 r):r=ks:=by cases h;rfl
theorem Qp {M:MH}{ks:List Int}{D:Addr}(hD:M D=none):SrS M (mup M D (.dT (kvO [ks]))) ks D 0 [ks] [ks] (.d (.lst [tpR ks])):=
 ⟨zf,by simp,fun r=>⟨fun h=>by rw [List.mem_singleton.mp h];exact .zero,fun h=>by rw [BK h];exact List.mem_singleton.mpr rfl⟩,rfl,fun r h=>h,fun r h=>.inl h,(fun z=>nomatch z),Fr.refl.mup hD _,hD⟩
structure SrI (M M':MH)(ks:List Int)(D p:Addr)(m:Nat)(rows W L:List (List Int))(y:AV)(S:List Int->Prop):Prop where
 d:M' D=some (.dT (kvO (rows ++ L)))
 l:M' p=some (.lst (tpA L))
 nd:(rows ++ L).Nodup
 rch:∀ r ∈ L,Rch ks (m+1) r
 w:zQ y M'=some (tpA W)
 met:∀ t,S t->t ∈ rows ++ L
 ne:y ≠ .ref D
 nep:y ≠ .ref p
 npd:p ≠ D
 fr:Fr M M'
 d0:M D=none
 p0:M p=none
noncomputable def T1 (W:List (List Int))(i:Nat)(t:List Int):Prop:=∃ j r a b,j<i/\W[j]?=some r/\a<b/\b<r.length/\t=swp r a b
theorem QH {M M':MH}{ks:List Int}{D p:Addr}{m:Nat}{rows W:List (List Int)}{y:AV}(h:SrS M M' ks D m rows W y)(hp:M' p=none):SrI M (mup M' p (.lst [])) ks D p m rows W [] y (T1 W 0):=by
 have npd:p ≠ D:=fun z=>by rw [z,h.d] at hp;cases hp
 refine ⟨?_,zf,by rw [List.append_nil];exact h.nd,(fun r z=>nomatch z),qM h.w hp _,fun t ⟨_,_,_,_,z,_⟩=>absurd z (Nat.not_lt_zero _),h.ne,fun z=>?_,npd,h.fr.mup (h.fr.non hp) _,h.d0,h.fr.non hp⟩
 ·rw [zh (Ne.symm npd),List.append_nil];exact h.d
 ·have:=h.w
  rw [z] at this
  unfold zQ at this
  dsimp only at this
  rw [hp] at this;cases this
noncomputable def T2 (S:List Int->Prop)(r:List Int)(i:Nat)(t:List Int):Prop:=S t \/ ∃ a b,a<i/\a<b/\b<r.length/\t=swp r a b
noncomputable def T3 (S:List Int->Prop)(r:List Int)(a i:Nat)(t:List Int):Prop:=S t \/ ∃ b,a<b/\b<a+1+i/\b<r.length/\t=swp r a b
noncomputable abbrev stR (y:AV)(ks:List Int)(D:Addr)(y3:AV)(m:Nat)(p:Addr)(v6 v7 v8 v9:Option AV):ASt:=[some y,some (.d (tpR (srt ks))),some (.ref D),some y3,some (.d (.int m)),some (.ref p),v6,v7,v8,v9]
noncomputable def P1 (M:MH)(ks:List Int)(D p:Addr)(m:Nat)(rows W:List (List Int))(y y3:AV):Nat->ASt->MH->Prop:=fun i ρ M2=>∃ L v6 v7 v8 v9,ρ=stR y ks D y3 m p v6 v7 v8 v9/\SrI M M2 ks D p m rows W L y3 (T1 W i)
noncomputable def P2 (M:MH)(ks:List Int)(D p:Addr)(m:Nat)(rows W:List (List Int))(y y3:AV)(S:List Int->Prop)(r:List Int):Nat->ASt->MH->Prop:=fun i ρ M2=>∃ L v7 v8 v9,ρ=stR y ks D y3 m p (some (.d (tpR r))) v7 v8 v9/\SrI M M2 ks D p m rows W L y3 (T2 S r i)
noncomputable def P3 (M:MH)(ks:List Int)(D p:Addr)(m:Nat)(rows W:List (List Int))(y y3:AV)(S:List Int->Prop)(r:List Int)(a:Nat):Nat->ASt->MH->Prop:=fun i ρ M2=>∃ L v8 v9,ρ=stR y ks D y3 m p (some (.d (tpR r))) (some (.d (.int a))) v8 v9/\SrI M M2 ks D p m rows W L y3 (T3 S r a i)
theorem SrI.imp {M M':MH}{ks:List Int}{D p:Addr}{m:Nat}{rows W L:List (List Int)}{y:AV}{S S':List Int->Prop}(h:SrI M M' ks D p m rows W L y S)(k:∀ t,S' t->S t):SrI M M' ks D p m rows W L y S':=
 { h with met:=fun t z=>h.met t (k t z) }
theorem SrI.round {M M' M2:MH}{ks:List Int}{D p:Addr}{m:Nat}{rows W L:List (List Int)}{y:AV}(hS:SrS M M' ks D m rows W y)(hI:SrI M M2 ks D p m rows W L y (T1 W W.length)):SrS M M2 ks D (m+1) (rows ++ L) L (.ref p):=by
 have hW:∀ r ∈ W,∀ a b,a<b->b<r.length->swp r a b ∈ rows ++ L:=fun r hr a b h1 h2=>by
  obtain ⟨j,hj⟩:=List.getElem?_of_mem hr
  exact hI.met _ ⟨j,r,a,b,(List.getElem?_eq_some_iff.mp hj).1,hj,h1,h2,rfl⟩
 have hR:∀ r ∈ rows,∀ a b,a<b->b<r.length->swp r a b ∈ rows ++ L:=fun r hr a b h1 h2=>by
  rcases hS.clo r hr with z | z
  ·exact hW r z a b h1 h2
  ·exact List.mem_append_left _ (z a b h1 h2)
 refine ⟨hI.d,hI.nd,fun r=>⟨fun h=>?_,fun h=>?_⟩,qK hI.l,fun r h=>List.mem_append_right _ h,fun r h=>?_,fun z=>hI.npd (AV.ref.inj z),hI.fr,hI.d0⟩
 ·rcases List.mem_append.mp h with z | z
  ·exact .stay ((hS.rch r).mp z)
  ·exact hI.rch r z
 ·cases h with
  | stay h'=>exact List.mem_append_left _ ((hS.rch r).mpr h')
  | step h' h1 h2=>exact hR _ ((hS.rch _).mpr h') _ _ h1 h2
 ·rcases List.mem_append.mp h with z | z
  ·exact .inr (hR r z)
  ·exact .inl z
theorem Js {row:List Int}{b:Nat}(h:b<row.length):atI (List.map (fun i=>AV.d (Dat.int i)) row) (b:Int)=some (.d (.int (row.getD b 0))):=by
 unfold atI
 rw [kB (by omega) (by rw [List.length_map];omega),Int.toNat_natCast]
 show (List.map (fun i=>AV.d (Dat.int i)) row)[b]?=_
 rw [List.getElem?_map,List.getD_eq_getElem?_getD,List.getElem?_eq_getElem h];rfl
theorem XO (row:List Int)(a b:Nat):((List.map (fun i=>AV.d (Dat.int i)) row).set a (.d (.int (row.getD b 0)))).set b (.d (.int (row.getD a 0)))=List.map (fun i=>AV.d (Dat.int i)) (swp row a b):=by
 unfold swp
 rw [List.map_set,List.map_set]
theorem ZN {x:AV}{M:MH}{l:List AV}(h:zQ x M=some l){p:Addr}(hp:x ≠ .ref p)(o:MO):zQ x (mup M p o)=some l:=by
 cases x with
 | d x=>cases x <;> first | exact h | cases h
 | ref a=>
  unfold zQ at *
  dsimp only at *
  rw [zh (fun z=>hp (by rw [z]))];exact h
theorem SrI.add {M M4:MH}{ks:List Int}{D p q:Addr}{m:Nat}{rows W L:List (List Int)}{y:AV}{S S':List Int->Prop}{t:List Int}{o:MO}(h:SrI M M4 ks D p m rows W L y S)(hq:M4 q=none)(ht:t ∉ rows ++ L)(hr:Rch ks (m+1) t)(hS:∀ u,S' u->S u \/ u=t) :
  SrI M (mup (mup (mup M4 q o) D (.dT (kvO (rows ++ L ++ [t])))) p (.lst (tpA L ++ [.d (tpR t)]))) ks D p m rows W (L ++ [t]) y S':=by
 have nq:∀ {a:Addr} {o:MO},M4 a=some o->a ≠ q:=fun e z=>by rw [z,hq] at e;cases e
 have e3:rows ++ (L ++ [t])=rows ++ L ++ [t]:=(List.append_assoc _ _ _).symm
 refine ⟨?_,?_,?_,fun r hr'=>?_,?_,fun u hu=>?_,h.ne,h.nep,h.npd,((h.fr.mup (h.fr.non hq) _).mup h.d0 _).mup h.p0 _,h.d0,h.p0⟩
 ·rw [zh (Ne.symm h.npd),zf,e3]
 ·rw [zf,tpA,tpA,List.map_append];rfl
 ·rw [e3]
  exact List.nodup_append.mpr ⟨h.nd,by simp,fun a ha b hb=>by rw [List.mem_singleton.mp hb];exact fun z=>ht (z ▸ ha)⟩
 ·rcases List.mem_append.mp hr' with z | z
  ·exact h.rch r z
  ·rw [List.mem_singleton.mp z];exact hr
 ·exact ZN (ZN (qM h.w hq _) h.ne _) h.nep _
 ·rw [e3]
  rcases hS u hu with z | z
  ·exact List.mem_append_left _ (h.met u z)
  ·exact List.mem_append_right _ (List.mem_singleton.mpr z)
theorem SrI.old {M M4:MH}{ks:List Int}{D p q:Addr}{m:Nat}{rows W L:List (List Int)}{y:AV}{S S':List Int->Prop}{t:List Int}{o:MO}(h:SrI M M4 ks D p m rows W L y S)(hq:M4 q=none)(ht:t ∈ rows ++ L)(hS:∀ u,S' u->S u \/ u=t) :
  SrI M (mup M4 q o) ks D p m rows W L y S':=by
 have nq:∀ {a:Addr} {o:MO},M4 a=some o->a ≠ q:=fun e z=>by rw [z,hq] at e;cases e
 refine ⟨(zh (nq h.d)).trans h.d,(zh (nq h.l)).trans h.l,h.nd,h.rch,qM h.w hq _,fun u hu=>?_,h.ne,h.nep,h.npd,h.fr.mup (h.fr.non hq) _,h.d0,h.p0⟩
 rcases hS u hu with z | z
 ·exact h.met u z
 ·rw [z];exact ht
theorem Z0 {S:List Int->Prop}{r:List Int}{a b b':Nat}(e:a+1+b=b'):∀ u,T3 S r a (b+1) u->T3 S r a b u \/ u=swp r a b':=by
 rintro u (h | ⟨c,h1,h2,h3,h4⟩)
 ·exact .inl (.inl h)
 ·by_cases z:c<b'
  ·exact .inl (.inr ⟨c,h1,by omega,h3,h4⟩)
  ·have:c=b':=by omega
   subst this
   exact .inr h4
theorem vp {t:AS}{ag:AG}{x:AV}{B:MH}{D:jN}{ρ:ASt}{M:MH}(h:∀ D',D'=D->ag x ρ M fun ρ' M'=>t B D' ρ' M'):ag x ρ M fun ρ' M'=>t B D ρ' M':=h D rfl
noncomputable def Zw:ASp:=fun xs M Q=>∃ (y:AV) (ks:List Int),xs=[y]/\zL y M=some (List.map (fun i=>AV.d (.int i)) ks)/\(∀ k ∈ ks,0<=k/\k<3)/\ks.length<=7/\Q (.d (.int (qv (cel (srt ks) ks)))) M
noncomputable abbrev wH:Stmt:=top 11
theorem ZG:zJ ["_law_kinds_here","_law_due","_law_known","_law_waiting","_law_many","_law_later","_law_row","_law_a","_law_b","_law_other"] ["_law_kinds_here"] (zn wH):=⟨rfl,rfl,rfl,by decide +kernel,rfl,by decide +kernel,by decide +kernel⟩
theorem Ym (a:At K mg "_law_searched" wH)(B:Blt mg):Df P w K mg base "_law_searched" ["_law_kinds_here"] 1 (cSp Zw):=by
 refine dfA (k:=0) a ZG (fun _ _ _ _ _ _=>Pn1_ fun _=>rfl) (fun xs M Q h=>?_) (fun f cdv A outer s H E hr=>?_)
 ·obtain ⟨_,_,rfl,_⟩:=h;rfl
 have sc:=ZG
 have hsl:=hsl
 refine ⟨_,(ze (zu (i:=1) sc.nd rfl (by first | exact Or.inl rfl | exact Or.inr rfl) (zz zV rfl B.tuple jt (za (zr zU rfl B.sorted qJ (za (pv 0) zb)) zb)))
  (ze (zu (i:=2) sc.nd rfl (by first | exact Or.inl rfl | exact Or.inr rfl) (KA (Nat.lt_of_succ_lt (jP hr)) (J3 (zz zV rfl B.tuple jt (za (pv 0) zb)) yZ YT)))
  (ze (zu (i:=3) sc.nd rfl (by first | exact Or.inl rfl | exact Or.inr rfl) (qi (za (zz zV rfl B.tuple jt (za (pv 0) zb)) zb)))
  (ze (zu (i:=4) sc.nd rfl (by first | exact Or.inl rfl | exact Or.inr rfl) zc)
  (ze (Jw PassesOwn.never (Q8 (xT (jP hr) (pv 1) (pv 2))) (ze (zu (i:=5) sc.nd rfl (by first | exact Or.inl rfl | exact Or.inr rfl) (jY (qi zb)))
  (ze (qT PassesOwn.never rfl (JN (pv 3)) (zv (i:=6) sc.nd rfl (by first | exact Or.inl rfl | exact Or.inr rfl)) (zt (qT PassesOwn.never rfl (zP rfl B.range (za (zr zR rfl B.len jX (za (pv 6) zb)) zb)) (zv (i:=7) sc.nd rfl (by first | exact Or.inl rfl | exact Or.inr rfl)) (zt (qT PassesOwn.never rfl (QV rfl B.range (za (zo zI (pv 7) zc) (za (zr zR rfl B.len jX (za (pv 6) zb)) zb))) (zv (i:=8) sc.nd rfl (by first | exact Or.inl rfl | exact Or.inr rfl)) (ze (zu (i:=9) sc.nd rfl (by first | exact Or.inl rfl | exact Or.inr rfl) (jY (zz qQ rfl B.list yl (za (pv 6) zb))))
  (ze (kg (zY (za (zC je (pv 6) (pv 8) (fun _ _=>rfl)) (za (zC je (pv 6) (pv 7) (fun _ _=>rfl)) zb))) (qB (K:=K) 2 rfl rfl (zB (jS (pv 9) (pv 7) qj) (zB (jS (pv 9) (pv 8) qj) qF))))
  (ze (zu (i:=9) sc.nd rfl (by first | exact Or.inl rfl | exact Or.inr rfl) (zz zV rfl B.tuple jt (za (pv 9) zb)))
  (zt (j5 (Q8 (xT (jP hr) (pv 9) (pv 2))) (ze (XB (jP hr) (pv 2) (pv 9) yZ rfl)
  (zt (Zr (Vr PySem.F.plainAttrs_list PySem.F.slot_list_append PySem.F.type_list_append xO (pv 5) (za (pv 9) zb))))) qx))))))))))
  (ze (zu (i:=3) sc.nd rfl (by first | exact Or.inl rfl | exact Or.inr rfl) (pv 5))
  (zt (zu (i:=4) sc.nd rfl (by first | exact Or.inl rfl | exact Or.inr rfl) (zo zI (pv 4) zc)))))))
  (zt (qa (pv 4)))))))),?_⟩
 refine ex2 (by walk_at "sim") ?_
 rintro xs M Q ⟨y,ks,rfl,hy,hk,hn,q⟩
 rw [show qW ["_law_kinds_here","_law_due","_law_known","_law_waiting","_law_many","_law_later","_law_row","_law_a","_law_b","_law_other"] [y]=[some y,none,none,none,none,none,none,none,none,none] from rfl]
 refine zm fun r hr0=>?_
 walk_at "ra"
 refine ⟨ks,kJ hy,by omega,fun ns' pm pw=>?_⟩
 have es:=xh pm pw
 subst es
 subst hr0
 refine zm fun r hr0=>?_
 walk_at "ra"
 intro D hD
 refine ⟨_,qM (kJ hy) hD _,ks.map .int,by rw [<- qE];exact ql _,ks,rfl,zf,?_⟩
 subst hr0
 refine zm fun r hr0=>?_
 walk_at "ra"
 refine ⟨_,qM (kJ hy) hD _,ks.map .int,by rw [<- qE];exact ql _,?_⟩
 refine ⟨by omega,?_⟩
 subst hr0
 refine zm fun r hr0=>?_
 walk_at "ra"
 subst hr0
 refine zm fun r hr0=>?_
 show Zj (Kh _ _) _ _ _ _ _
 unfold Zj
 have F0:=Ao hk
 refine ⟨fun k ρ M'=>∃ (m:Nat) (rows W:List (List Int)) (y3:AV) (u5 u6 u7 u8 u9:Option AV),k+m=(qv (cel (srt ks) ks)).toNat/\ρ=[some y,some (.d (tpR (srt ks))),some (.ref D),some y3,some (.d (.int m)),u5,u6,u7,u8,u9]/\SrS M M' ks D m rows W y3,⟨_,0,[ks],[ks],_,none,none,none,none,none,Nat.add_zero _,rfl,?_⟩,?_⟩
 ·exact Qp hD
 rintro k ρ M' ⟨m,rows,W,y3,u5,u6,u7,u8,u9,hkm,rfl,hS⟩
 walk_at "ra"
 refine ⟨_,hS.d,srt ks,rfl,?_⟩
 rw [vb]
 by_cases c:srt ks ∈ rows
 ·rw [if_neg (by rw [decide_eq_true c];decide)]
  subst hr0
  walk_at "ra"
  have h1:=(ZK hk m).mp ((hS.rch _).mp c)
  refine Be hS.fr ?_
  rw [show (m:Int)=qv (cel (srt ks) ks) by omega]
  exact q
 ·rw [if_pos (by rw [decide_eq_false c])]
  intro p hp _
  refine ⟨_,qM hS.w hp _,?_⟩
  refine ⟨P1 M ks D p m rows W y y3,⟨[],u6,u7,u8,u9,rfl,QH hS hp⟩,?_,?_⟩
  ·rintro i x ρ M2 hx ⟨L,v6,v7,v8,v9,rfl,hI⟩
   rw [List.getElem?_map] at hx
   obtain ⟨row,hrow,rfl⟩:=Option.map_eq_some_iff.mp hx
   have hrw:=(hS.rch row).mp (hS.sub row (List.mem_of_getElem? hrow))
   have hrl:row.length=ks.length:=hrw.perm.length_eq
   refine ⟨hI.w,?_⟩
   refine vp fun D1 hD1=>?_
   walk_at "ra"
   refine ⟨by omega,by omega,?_⟩
   rw [Int.toNat_natCast]
   refine ⟨P2 M ks D p m rows W y y3 (T1 W i) row,⟨L,v7,v8,v9,rfl,hI.imp fun t z=>z.elim id fun ⟨_,_,z,_⟩=>absurd z (Nat.not_lt_zero _)⟩,?_,?_⟩
   ·rintro a x ρ M3 hx ⟨L2,w7,w8,w9,rfl,hI2⟩
    obtain ⟨ha,rfl⟩:=qo hx
    rw [show (0:Int)+(a:Int) * 1=(a:Int) by omega]
    refine ⟨trivial,?_⟩
    refine vp fun D2 hD2=>?_
    walk_at "ra"
    refine ⟨by omega,by omega,by omega,by omega,?_⟩
    refine ⟨P3 M ks D p m rows W y y3 (T2 (T1 W i) row a) row a,⟨L2,w8,w9,rfl,hI2.imp fun t z=>z.elim id fun ⟨_,z1,z2,_⟩=>by omega⟩,?_,?_⟩
    ·rintro b x ρ M4 hx ⟨L3,x8,x9,rfl,hI3⟩
     obtain ⟨hb,rfl⟩:=qo hx
     rw [show (a:Int)+1+(b:Int) * 1=((a+1+b:Nat):Int) by omega]
     refine ⟨trivial,?_⟩
     have hbl:a+1+b<row.length:=by omega
     generalize hbb:a+1+b=b' at *
     walk_at "ra"
     intro q hq _
     have nq:∀ {a:Addr} {o:MO},M4 a=some o->a ≠ q:=fun e z=>by rw [z,hq] at e;cases e
     refine ⟨_,Js hbl,_,Js (by omega),by rw [sizeLine_eq];decide,_,zf,a,by rw [List.length_map,kB (by omega) (by omega),Int.toNat_natCast],_,zf,b',by rw [List.length_set,List.length_map,kB (by omega) (by omega),Int.toNat_natCast],?_⟩
     rw [XO]
     refine ⟨_,qK zf,(swp row a b').map .int,by rw [<- qE];exact ql _,_,(zh (nq hI3.d)).trans hI3.d,_,rfl,?_⟩
     rw [vb]
     by_cases ct:swp row a b' ∈ rows ++ L3
     ·rw [if_neg (by rw [decide_eq_true ct];decide)]
      exact ⟨L3,_,_,rfl,hI3.old hq ct (Z0 hbb)⟩
     ·rw [if_pos (by rw [decide_eq_false ct])]
      have bnd:=Yo hI3.nd (n:=ks.length) (fun r hr=>(List.mem_append.mp hr).elim (fun z=>⟨((hS.rch r).mp z).perm.length_eq,((hS.rch r).mp z).in3 hk⟩) fun z=>⟨(hI3.rch r z).perm.length_eq,(hI3.rch r z).in3 hk⟩) hn
      refine ⟨_,(zh (nq hI3.d)).trans hI3.d,_,rfl,by rw [List.length_map];omega,⟨_,jp ((zh hI3.npd).trans ((zh (nq hI3.l)).trans hI3.l))⟩,_,(zh hI3.npd).trans ((zh (nq hI3.l)).trans hI3.l),?_,?_⟩
      ·rw [List.length_map,sizeLine_eq]
       rw [List.length_append] at bnd
       omega
      ·rw [XS ct]
       exact ⟨L3 ++ [swp row a b'],_,_,rfl,hI3.add hq ct (.step hrw (by omega) hbl) (Z0 hbb)⟩
    ·rintro ρ M4 ⟨L3,x8,x9,rfl,hI3⟩
     refine ⟨trivial,?_⟩
     subst hD2
     refine ⟨L3,_,x8,x9,rfl,hI3.imp fun t z=>?_⟩
     rw [qL]
     rcases z with z | ⟨a',b',h1,h2,h3,h4⟩
     ·exact .inl (.inl z)
     ·by_cases z:a'<a
      ·exact .inl (.inr ⟨a',b',z,h2,h3,h4⟩)
      ·have:a'=a:=by omega
       subst this
       exact .inr ⟨b',h2,by omega,h3,h4⟩
   ·rintro ρ M3 ⟨L2,w7,w8,w9,rfl,hI2⟩
    refine ⟨trivial,?_⟩
    subst hD1
    refine ⟨L2,_,w7,w8,w9,rfl,hI2.imp fun t ⟨j,r,a,b,h1,h2,h3,h4,h5⟩=>?_⟩
    rw [qL]
    by_cases z:j<i
    ·exact .inl ⟨j,r,a,b,z,h2,h3,h4,h5⟩
    ·have:j=i:=by omega
     subst this
     rw [hrow] at h2
     cases h2
     exact .inr ⟨a,b,by omega,h3,h4,h5⟩
  ·rintro ρ M2 ⟨L,v6,v7,v8,v9,rfl,hI⟩
   rw [List.length_map] at hI
   refine ⟨hI.w,?_⟩
   walk_at "ra"
   have h1:¬ qv (cel (srt ks) ks)<=m:=fun z=>c ((hS.rch _).mpr ((ZK hk m).mpr z))
   exact ⟨k - 1,by omega,m+1,by omega,by omega,⟨_,rfl⟩,_,_,hI.round hS⟩
theorem KI {n01 n10 n02 n20 n12 n21 m1 m2 m3 a b c d e f:Nat}(h1:n01=m1+a)(h2:n10=m1+b)(h3:n02=m2+c)(h4:n20=m2+d)(h5:n12=m3+e)(h6:n21=m3+f)(z1:a=e)(z2:e=d)(z3:c=f)(z4:f=b)(h0:a=0 \/ b=0) :
  (m1:Int)+(m2:Int)+(m3:Int)+2 * (if (n01:Int) - n10<0 then -((n01:Int) - n10) else (n01:Int) - n10)=(m1:Int)+(m2:Int)+(m3:Int)+((n01:Int)+n02+n10+n12+n20+n21 - 2 * ((m1:Int)+(m2:Int)+(m3:Int))) / 3 * 2:=by
 subst h1 h2 h3 h4 h5 h6 z1 z2 z3 z4
 rcases h0 with h0 | h0 <;> split <;> omega
theorem V1 {ks:List Int}(hk:∀ k ∈ ks,0<=k/\k<3):ln3 (cel (srt ks) ks)+2 * (if ((cel (srt ks) ks 0 1).length:Int) - ((cel (srt ks) ks 1 0).length:Int)<0 then -(((cel (srt ks) ks 0 1).length:Int) - ((cel (srt ks) ks 1 0).length:Int)) else ((cel (srt ks) ks 0 1).length:Int) - ((cel (srt ks) ks 1 0).length:Int))=qv (cel (srt ks) ks):=by
 have hm:=wn (ks:=ks) (ds:=srt ks) (zy ks).length_eq.symm (k3 hk) (fun q hq=>k3 (fun k h=>hk k ((zy ks).mem_iff.mp h)) q (by rw [(zy ks).length_eq];exact hq)) fun v=>((zy ks).count_eq v).symm
 obtain ⟨_,z1,z2,z3,z4⟩:=hm
 unfold qv ln3
 exact KI (wA (cel (srt ks) ks) 0 1) (xU (cel (srt ks) ks) 0 1) (wA (cel (srt ks) ks) 0 2) (xU (cel (srt ks) ks) 0 2) (wA (cel (srt ks) ks) 1 2) (xU (cel (srt ks) ks) 1 2) z1 z2 z3 z4 (XY (cel (srt ks) ks) 0 1)
noncomputable def aFE:ASp:=fun xs M Q=>∃ (y:AV) (ks:List Int),xs=[y]/\zQ y M=some (List.map (fun i=>AV.d (.int i)) ks)/\(∀ k ∈ ks,0<=k/\k<3)/\ks.length<=1000/\Q (.d (.int (qv (cel (srt ks) ks)))) M
noncomputable abbrev JK:Stmt:=top 3
theorem Xs:zJ ["kinds","found","swaps","rounds","i","j"] ["kinds"] (zn JK):=⟨rfl,rfl,rfl,by decide +kernel,rfl,by decide +kernel,by decide +kernel⟩
theorem Au (a:At K mg "fewest_exchanges" JK)(B:Blt mg)(Bsum:mg "sum"=none)(KP:Ko K mg)(D_places_by_kinds:Df P w K mg base "places_by_kinds" ["kinds"] 2 (cSp Br)):Df P w K mg base "fewest_exchanges" ["kinds"] 3 (cSp aFE):=by
 refine dfA (k:=2) a Xs (fun _ _ _ _ _ _=>Pn1_ fun _=>rfl) (fun xs M Q h=>?_) (fun f cdv A outer s H E hr=>?_)
 ·obtain ⟨_,_,rfl,_⟩:=h;rfl
 have sc:=Xs
 have hsl:=hsl
 obtain ⟨aP,b0,b1,b2,KG_PAIRS,KA_PAIRS',kb0,kb1,kb2⟩:=KP
 have KA_PAIRS:KT1 K aP ([b0,b1,b2].map .ref):=KA_PAIRS'
 have KB_PAIRS:∀ (j:Nat) (c:Addr) vs,[b0,b1,b2][j]?=some c->([[.int 0,.int 1],[.int 0,.int 2],[.int 1,.int 2]]:List (List V))[j]?=some vs->KT1 K c vs:=fun j c vs e1 e2=>by
  match j,e1,e2 with
  | 0,e1,e2=>cases e1;cases e2;exact kb0
  | 1,e1,e2=>cases e1;cases e2;exact kb1
  | 2,e1,e2=>cases e1;cases e2;exact kb2
  | _+3,e1,e2=>simp at e1
 have KL_PAIRS:∀ vs ∈ ([[.int 0,.int 1],[.int 0,.int 2],[.int 1,.int 2]]:List (List V)),[4,5].length=vs.length:=fun vs h=>by simp at h;rcases h with rfl | rfl | rfl <;> rfl
 refine ⟨_,(ze (zu (i:=1) sc.nd rfl (by first | exact Or.inl rfl | exact Or.inr rfl) (zO D_places_by_kinds hr rfl (za (pv 0) zb)))
  (ze (zu (i:=2) sc.nd rfl (by first | exact Or.inl rfl | exact Or.inr rfl) (zr (kC rfl) rfl Bsum wF (za (X1 (ts:=[4,5]) (is:=[4,5]) (K:=K) rfl rfl rfl rfl KG_PAIRS KA_PAIRS KB_PAIRS rfl KL_PAIRS (fun _ _ _ _=>(qB (K:=K) 2 rfl rfl (zB (zv (i:=4) sc.nd rfl (by first | exact Or.inl rfl | exact Or.inr rfl)) (zB (zv (i:=5) sc.nd rfl (by first | exact Or.inl rfl | exact Or.inr rfl)) qF)))) (fun _ _ _ _=>(zr (xQ rfl) rfl B.min JZ (za (zr (jO (K:=K) rfl) rfl B.len jX (za (j8 (jP hr) (pv 1) (zY (za (pv 4) (za (pv 5) zb))) (fun _ _=>rfl)) zb)) (za (zr (jO (K:=K) rfl) rfl B.len jX (za (j8 (jP hr) (pv 1) (zY (za (pv 5) (za (pv 4) zb))) (fun _ _=>rfl)) zb)) zb))))) zb)))
  (ze (zu (i:=3) sc.nd rfl (by first | exact Or.inl rfl | exact Or.inr rfl) (zr kS rfl B.abs wk (za (zo yu (zr zR rfl B.len jX (za (j8 (jP hr) (pv 1) (zY (za zc (za zc zb))) (fun _ _=>rfl)) zb)) (zr zR rfl B.len jX (za (j8 (jP hr) (pv 1) (zY (za zc (za zc zb))) (fun _ _=>rfl)) zb))) zb)))
  (zt (qa (zo zI (pv 2) (zo qt zc (pv 3)))))))),?_⟩
 refine ex2 (by
  walk_at "sim"
  ·refine' wL (xss:=[[some (.d (.int 0)),some (.d (.int 1))],[some (.d (.int 0)),some (.d (.int 2))],[some (.d (.int 1)),some (.d (.int 2))]]) (.cons (.cons rfl (.cons rfl .nil)) (.cons (.cons rfl (.cons rfl .nil)) (.cons (.cons rfl (.cons rfl .nil)) .nil))) _
   all_goals walk_at "sim") ?_
 rintro xs M Q ⟨y,ks,rfl,hy,hk,hn,q⟩
 rw [show qW ["kinds","found","swaps","rounds","i","j"] [y]=[some y,none,none,none,none,none] from rfl]
 refine zm fun r hr0=>?_
 walk_at "ra"
 refine ⟨y,ks,rfl,hy,hk,hn,fun M1 D P hP=>?_⟩
 subst hr0
 refine zm fun r hr0=>?_
 walk_at "ra"
 unfold JR kF kF kF kF
 dsimp only [wV,vw,List.set_cons_zero,List.set_cons_succ]
 walk_at "ra"
 have lk:∀ i j:Nat,i<3->j<3->qG (kvN 9 fun k=>.ref (P k)) (ikT [(i:Int),(j:Int)])=some (.ref (P (3 * i+j))):=fun i j hi hj=>by rw [AL hj];exact y6 (by omega)
 have sq:∀ i j:Nat,i<3->j<3->zQ (.ref (P (3 * i+j))) M1=some ((cel (srt ks) ks (i:Int) (j:Int)).map nI):=fun i j hi hj=>by
  have:=hP.p (3 * i+j) (by omega)
  rw [vU,show (3 * i+j) / 3=i by omega,show (3 * i+j) % 3=j by omega] at this
  exact qK this
 have cb:∀ g k:Int,(cel (srt ks) ks g k).length<=1000:=fun g k=>Nat.le_trans (List.length_filter_le _ _) (by rw [List.length_range];exact hn)
 refine ⟨rfl,by omega,_,hP.d,[0,1],rfl,_,lk 0 1 (by omega) (by omega),_,sq 0 1 (by omega) (by omega),by omega,_,hP.d,[1,0],rfl,_,lk 1 0 (by omega) (by omega),_,sq 1 0 (by omega) (by omega),by omega,rfl,by omega,_,hP.d,[0,2],rfl,_,lk 0 2 (by omega) (by omega),_,sq 0 2 (by omega) (by omega),by omega,_,hP.d,[2,0],rfl,_,lk 2 0 (by omega) (by omega),_,sq 2 0 (by omega) (by omega),by omega,rfl,by omega,_,hP.d,[1,2],rfl,_,lk 1 2 (by omega) (by omega),_,sq 1 2 (by omega) (by omega),by omega,_,hP.d,[2,1],rfl,_,lk 2 1 (by omega) (by omega),_,sq 2 1 (by omega) (by omega),by omega,?_⟩
 have mn:∀ i j:Int,(if ((cel (srt ks) ks j i).length:Int)<((cel (srt ks) ks i j).length:Int) then ((cel (srt ks) ks j i).length:Int) else ((cel (srt ks) ks i j).length:Int))=((min (cel (srt ks) ks i j).length (cel (srt ks) ks j i).length:Nat):Int):=fun i j=>by split <;> omega
 simp only [List.length_map,mn]
 have b1:=cb 0 1
 have b2:=cb 0 2
 have b3:=cb 1 2
 refine ⟨[((min (cel (srt ks) ks 0 1).length (cel (srt ks) ks 1 0).length:Nat):Int),((min (cel (srt ks) ks 0 2).length (cel (srt ks) ks 2 0).length:Nat):Int),((min (cel (srt ks) ks 1 2).length (cel (srt ks) ks 2 1).length:Nat):Int)],rfl,fun x hx=>?_,by simp,?_⟩
 ·simp only [List.mem_cons,List.not_mem_nil,or_false] at hx
  rcases hx with rfl | rfl | rfl <;> omega
 rw [show [((min (cel (srt ks) ks 0 1).length (cel (srt ks) ks 1 0).length:Nat):Int),((min (cel (srt ks) ks 0 2).length (cel (srt ks) ks 2 0).length:Nat):Int),((min (cel (srt ks) ks 1 2).length (cel (srt ks) ks 2 1).length:Nat):Int)].sum=ln3 (cel (srt ks) ks) by simp only [List.sum_cons,List.sum_nil];unfold ln3;omega]
 subst hr0
 refine zm fun r hr0=>?_
 walk_at "ra"
 refine ⟨by omega,_,hP.d,[0,1],rfl,_,lk 0 1 (by omega) (by omega),_,sq 0 1 (by omega) (by omega),by omega,_,hP.d,[1,0],rfl,_,lk 1 0 (by omega) (by omega),_,sq 1 0 (by omega) (by omega),?_⟩
 subst hr0
 walk_at "ra"
 refine ⟨xb (by omega) (by omega),_,_,Kc hP.fr _,?_⟩
 have e:=V1 hk
 rw [<- e] at q
 exact q
noncomputable abbrev Xd:Stmt:=top 12
theorem JL:zJ ["_law_script","_law_cells","_law_k","_law_box_here","_law_few","_law_more","_law_kinds_here","_law_due","_law_handed","_law_found"] ["_law_script"] (zn Xd):=⟨rfl,rfl,rfl,by decide +kernel,rfl,by decide +kernel,by decide +kernel⟩
noncomputable def Z7 (K:PySem.W.Frag):Sp:=fun vs H Q _=>∃ (a:Addr) (ns:List Int),vs=[.ref a]/\SqL K H a (ns.map V.int)/\ns.length<=63/\∀ H',Q (.bl true) H'
noncomputable def A4 (K:PySem.W.Frag):ASp:=fun xs M Q=>∃ ns:List Int,xs=[.d (.scr K ns)]/\ns.length<=63/\Q (.d (.bl true)) M
theorem sp_law (vs:List V)(H:Hp)(Q:VK)(E:XK)(h:Z7 K vs H Q E):cSp (A4 K) vs H Q E:=by
 obtain ⟨a,ns,rfl,ha,hn,q⟩:=h
 refine ⟨[.d (.scr K ns)],fun _=>none,fun _=>False,fun x _=>x=.d (.bl true),⟨(fun a o e=>nomatch e),(fun a h=>h rfl),fun a h=>h.elim⟩,.cons (Y0 (fun _ z=>z) ha) .nil,⟨ns,rfl,hn,rfl⟩,fun x M' v H' O' hx _ _ r=>?_⟩
 subst hx
 rw [yn r]
 exact q H'
theorem QG {M:MH}{B:MH}{D:jN}{ρ:ASt}{t:AS}(h:∀ D',D'=D->t B D' ρ M):t B D ρ M:=h D rfl
theorem Kz {t:AS}{ag:AG}{x:AV}{B:MH}{D:jN}{ρ:ASt}{M:MH}(h:∀ D',D'=D->ag x ρ M fun ρ' M'=>t B D' ρ' M'):ag x ρ M fun ρ' M'=>t B D ρ' M':=h D rfl
theorem Wq (a:At K mg "law" Xd)(B:Blt mg)(D_law_box:Df P w K mg base "_law_box" ["_law_script","_law_k"] 19 (cSp AC))(D_law_take:Df P w K mg base "_law_take" ["_law_box_here","_law_many"] 19 (cSp Xc))(D_law_folded:Df P w K mg base "_law_folded" ["_law_script","_law_many"] 19 (cSp (ZW K)))(D_law_length:Df P w K mg base "_law_length" ["_law_box_here","_law_most"] 19 (cSp ZC))(D_law_kinds:Df P w K mg base "_law_kinds" ["_law_box_here","_law_n","_law_most"] 19 (cSp Jd))
  (D_law_fewest:Df P w K mg base "_law_fewest" ["_law_kinds_here"] 19 (cSp Bl)) (D_law_searched:Df P w K mg base "_law_searched" ["_law_kinds_here"] 19 (cSp Zw)) (D_fewest_exchanges:Df P w K mg base "fewest_exchanges" ["kinds"] 19 (cSp aFE)) :
  Df P w K mg base "law" ["_law_script"] 20 (cSp (A4 K)):=by
 refine dfA (k:=19) a JL (fun _ _ _ _ _ _=>Pn1_ fun _=>rfl) (fun xs M Q h=>?_) (fun f cdv A outer s H E hr=>?_)
 ·obtain ⟨_,rfl,_⟩:=h;rfl
 have sc:=JL
 have hsl:=hsl
 refine ⟨_,(ze (zu (i:=1) sc.nd rfl (by first | exact Or.inl rfl | exact Or.inr rfl) (zO D_law_folded hr rfl (za (pv 0) (za zc zb))))
  (ze (qT PassesOwn.never rfl (zP rfl B.range (za (zr (xZ rfl) rfl B.max Xm (za zc (za (zr zR rfl B.len jX (za (pv 1) zb)) zb))) zb)) (zv (i:=2) sc.nd rfl (by first | exact Or.inl rfl | exact Or.inr rfl)) (ze (zu (i:=3) sc.nd rfl (by first | exact Or.inl rfl | exact Or.inr rfl) (zO D_law_box hr rfl (za (pv 1) (za (pv 2) zb))))
  (ze (zu (i:=4) sc.nd rfl (by first | exact Or.inl rfl | exact Or.inr rfl) (zO D_law_kinds hr rfl (za (pv 3) (za (zC je (qi (za (zO D_law_take hr rfl (za (pv 3) (za zc zb))) (za zc zb))) (zz qy rfl B.int jQ (za (jE (jv hr.units) (zO D_law_take hr rfl (za (pv 3) (za zc zb))) zc (zX _)) zb)) (fun _ _=>rfl)) (za zc zb)))))
  (ze (zu (i:=5) sc.nd rfl (by first | exact Or.inl rfl | exact Or.inr rfl) (zO D_law_kinds hr rfl (za (pv 3) (za (zo zI zc (zO D_law_length hr rfl (za (pv 3) (za (zo zI zc (zo qt zc (zz qy rfl B.int jQ (za (jE (jv hr.units) (pv 2) zc (zX _)) zb)))) zb)))) (za zc zb)))))
  (zt (qT PassesOwn.never rfl (JN (zY (za (zY (za (pv 4) (za (zO D_law_searched hr rfl (za (pv 4) zb)) zb))) (za (zY (za (pv 5) (za (zO D_law_fewest hr rfl (za (pv 5) zb)) zb))) (za (zY (za (pv 4) (za (zO D_law_fewest hr rfl (za (pv 4) zb)) zb))) zb))))) (qB (K:=K) 2 rfl rfl (zB (zv (i:=6) sc.nd rfl (by first | exact Or.inl rfl | exact Or.inr rfl)) (zB (zv (i:=7) sc.nd rfl (by first | exact Or.inl rfl | exact Or.inr rfl)) qF))) (ze (zu (i:=8) sc.nd rfl (by first | exact Or.inl rfl | exact Or.inr rfl) (zz qQ rfl B.list yl (za (pv 6) zb)))
  (ze (zu (i:=9) sc.nd rfl (by first | exact Or.inl rfl | exact Or.inr rfl) (zO D_fewest_exchanges hr rfl (za (pv 8) zb)))
  (ze (j5 (PW.pt (JE (Ws (KQ (zr yV rfl B.isinstance jM (za (pv 9) (za (ZF (v:=.ty "int") rfl B.int jQ rfl) zb))) (fun _=>rfl))) (JE (KQ (zr yV rfl B.isinstance jM (za (pv 9) (za (ZF (v:=.ty "bool") rfl B.bool Y4 rfl) zb))) (fun _=>rfl)) (JE (qw (wo hr.units) (pv 9) (pv 7) (zX _)) (WY (qw (wo hr.units) (pv 8) (pv 6) (zX _))))))) (zt (qa yZ)) qx)
  (zt (j5 (qw (wo hr.units) (zO D_fewest_exchanges hr rfl (za (zz zV rfl B.tuple jt (za (pv 6) zb)) zb)) (pv 7) (zX _)) (zt (qa yZ)) qx)))))))))))
  (zt (qa yZ)))),?_⟩
 refine ex2 (by walk_at "sim") ?_
 rintro xs M Q ⟨ns,rfl,hn,q⟩
 rw [show qW ["_law_script","_law_cells","_law_k","_law_box_here","_law_few","_law_more","_law_kinds_here","_law_due","_law_handed","_law_found"] [.d (.scr K ns)]=[some (.d (.scr K ns)),none,none,none,none,none,none,none,none,none] from rfl]
 refine zm fun r hr0=>?_
 walk_at "ra"
 refine ⟨4,ns,rfl,by omega,by omega,hn,fun cs lc=>?_⟩
 subst hr0
 refine zm fun r hr0=>?_
 walk_at "ra"
 have e2:(if (cs.length:Int) > 1 then (cs.length:Int) else 1)=((max 1 cs.length:Nat):Int):=by split <;> omega
 rw [e2,Int.toNat_natCast]
 refine ⟨by omega,by omega,?_⟩
 refine ⟨fun i ρ M'=>(∃ x2 x3 x4 x5 x6 x7 x8 x9,ρ=[some (.d (.scr K ns)),some (.d (ilD cs)),x2,x3,x4,x5,x6,x7,x8,x9])/\Fr M M',⟨⟨_,_,_,_,_,_,_,_,rfl⟩,Fr.refl⟩,?_,?_⟩
 ·rintro i y ρ M1 hy ⟨⟨x2,x3,x4,x5,x6,x7,x8,x9,rfl⟩,f1⟩
  obtain ⟨hi,rfl⟩:=qo hy
  refine ⟨trivial,?_⟩
  rw [Int.zero_add,Int.mul_one]
  show Zj _ _ _ _ _ _
  refine zm fun r2 hr2=>?_
  walk_at "ra"
  refine ⟨_,i,cs,rfl,YL _ _,by omega,by omega,by omega,fun b o hb bx=>?_⟩
  have b0:=f1.non hb
  have f2:=f1.mup b0 o
  have sb:=SB.refl bx
  generalize mup M1 b o=M2 at *
  subst hr2
  refine zm fun r2 hr2=>?_
  walk_at "ra"
  refine ⟨b,7,0,rfl,sb.bx,by omega,by omega,by omega,fun u M3 s3 u0 u1=>?_⟩
  have sb:=sb.go s3
  refine ⟨by rw [sizeLine_eq];decide,[.int u,.int 7],rfl,b,8,1,rfl,sb.bx,by omega,by omega,by omega,fun v M4 s4 v0 v1=>?_⟩
  have sb:=sb.go s4
  refine ⟨_,rfl,by rw [jT];omega,?_⟩
  have few:∃ n:Nat,n<=7/\atI [AV.d (.int u),AV.d (.int 7)] (if eqD (.int v) (.int 0)=true then 1 else 0)=some (.d (.int n)):=by
   split
   ·exact ⟨7,by omega,rfl⟩
   ·exact ⟨u.toNat,by omega,by rw [Int.toNat_of_nonneg u0];rfl⟩
  obtain ⟨n1,hn1,hat⟩:=few
  refine ⟨_,hat,b,n1,3,2,rfl,sb.bx,by omega,by omega,by omega,by omega,fun k1 M5 s5 lk1 hk1=>?_⟩
  have sb:=sb.go s5
  subst hr2
  refine zm fun r2 hr2=>?_
  walk_at "ra"
  have m16:∃ m:Int,(16+176 * if (i:Int)=0 then 1 else 0)=m/\16<=m/\m<=192:=⟨_,rfl,by split <;> omega,by split <;> omega⟩
  obtain ⟨m,hm,m1,m2⟩:=m16
  rw [hm]
  refine ⟨?_,b,m,_,rfl,sb.bx,by omega,by omega,by omega,fun u2 M6 s6 w0 w1=>?_⟩
  ·split
   ·exact xb (by omega) (by omega)
   ·exact xb (by omega) (by omega)
  have sb:=sb.go s6
  obtain ⟨n2,rfl⟩:∃ k:Nat,u2=k:=⟨u2.toNat,by omega⟩
  refine ⟨_,rfl,b,8+n2,3,_,by rw [show (8:Int)+(n2:Int)=((8+n2:Nat):Int) by omega],sb.bx,by omega,by omega,by omega,by omega,fun k2 M7 s7 lk2 hk2=>?_⟩
  have sb:=sb.go s7
  have fm:=SB.frm f2 b0 sb
  clear sb s7 s6 s5 s4 s3 bx
  subst hr2
  show VY _ _ _ _ _ _ _
  refine QG fun D0 hD0=>?_
  walk_at "ra"
  have lk:∀ (ks:List Int) (M':MH),zL (.d (ilD ks)) M'=some (ks.map fun i=>AV.d (.int i)):=fun ks _=>by rw [show ilD ks=Dat.lst (ks.map .int) from rfl,wY,qE]
  have sk:∀ (ks:List Int) (M':MH),zQ (.d (ilD ks)) M'=some (ks.map fun i=>AV.d (.int i)):=fun ks _=>by rw [show ilD ks=Dat.lst (ks.map .int) from rfl,JF,qE]
  have dpl:∀ ns:List Int,dp (ilD ns)<=40:=fun ns=>Nat.le_trans (Yk ns) (by decide)
  have z2:0+1+1<=sizeLine:=by rw [sizeLine_eq];decide
  refine ⟨_,k1,rfl,lk k1 _,hk1,by omega,z2,[ilD k1,.int (qv (cel (srt k1) k1))],rfl,_,k2,rfl,lk k2 _,hk2,by omega,z2,[ilD k2,.int (qv (cel (srt k2) k2))],rfl,_,k1,rfl,lk k1 _,hk1,by omega,z2,[ilD k1,.int (qv (cel (srt k1) k1))],rfl,by rw [sizeLine_eq];decide,?_⟩
  refine ⟨fun j ρ M'=>(∃ x6 x7 x8 x9,ρ=[some (.d (.scr K ns)),some (.d (ilD cs)),some (.d (.int i)),some (.ref b),some (.d (ilD k1)),some (.d (ilD k2)),x6,x7,x8,x9])/\Fr M M',⟨⟨_,_,_,_,rfl⟩,fm⟩,?_,?_⟩
  ·rintro j y ρ M8 hy ⟨⟨v6,v7,v8,v9,rfl⟩,f8⟩
   have hks:∃ ks:List Int,y=.d (.tup [ilD ks,.int (qv (cel (srt ks) ks))])/\(∀ k ∈ ks,0<=k/\k<3)/\ks.length<=1000:=by
    have:=List.mem_of_getElem? hy
    simp only [List.mem_cons,List.not_mem_nil,or_false] at this
    rcases this with rfl | rfl | rfl
    ·exact ⟨k1,rfl,hk1,by omega⟩
    ·exact ⟨k2,rfl,hk2,by omega⟩
    ·exact ⟨k1,rfl,hk1,by omega⟩
   obtain ⟨ks,rfl,hk,hl⟩:=hks
   refine ⟨trivial,?_⟩
   refine Kz fun D1 hD1=>?_
   walk_at "ra"
   have ie:∀ z:Int,¬ (eqD (.int z) (.int z)=false):=fun z h=>by rw [xr (by rw [jT];decide)] at h;cases h
   have eqs:¬ (eqD (.lst (ks.map .int)) (ilD ks)=false):=fun h=>by rw [show Dat.lst (ks.map .int)=ilD ks from rfl,xr (Nat.lt_of_le_of_lt (dpl ks) (by decide))] at h;cases h
   refine ⟨_,ks,rfl,sk ks _,hk,hl,"int",rfl,true,rfl,?_⟩
   rw [if_neg (by decide)]
   refine ⟨"int",rfl,false,rfl,?_⟩
   rw [if_neg (by decide)]
   refine ⟨_,rfl,by rw [jT];omega,?_⟩
   rw [if_neg (ie _)]
   refine ⟨dpl ks,dpl ks,?_⟩
   rw [if_neg eqs]
   refine ⟨_,ks,rfl,by rw [K4,qE],hk,hl,_,rfl,by rw [jT];omega,?_⟩
   rw [if_neg (ie _)]
   subst hD1
   exact ⟨⟨_,_,_,_,rfl⟩,f8⟩
  ·rintro ρ M8 ⟨⟨v6,v7,v8,v9,rfl⟩,f8⟩
   refine ⟨trivial,?_⟩
   subst hD0
   exact ⟨⟨_,_,_,_,_,_,_,_,rfl⟩,f8⟩
 ·rintro ρ M1 ⟨⟨x2,x3,x4,x5,x6,x7,x8,x9,rfl⟩,f1⟩
  refine ⟨trivial,?_⟩
  subst hr0
  walk_at "ra"
  exact Be f1 q
theorem Zc {K:PySem.W.Frag}{a:Addr}{i j:Int}{t u:Tok}{n:Nat}(h:K.lookup a=some ⟨.type "tuple",none,.seq #[.int i t,.int j u] n,#[]⟩):KT1 K a [.int i,.int j]:=⟨_,_,_,h,rfl,rfl,by rw [sizeLine_eq];simp,.cons ⟨_,rfl⟩ (.cons ⟨_,rfl⟩ .nil)⟩
theorem K5 {K:PySem.W.Frag}{a b c d:Addr}{n:Nat}(h:K.lookup a=some ⟨.type "tuple",none,.seq #[.ref b,.ref c,.ref d] n,#[]⟩):KT1 K a [.ref b,.ref c,.ref d]:=⟨_,_,_,h,rfl,rfl,by rw [sizeLine_eq];simp,.cons rfl (.cons rfl (.cons rfl .nil))⟩
end
theorem all_mk {l:PySem.W.OpenLaw}{w:World}{K:PySem.W.Frag}{h:Heap}{mg:Str->Option Value}{fa:Addr}{aP b0 b1 b2:Addr}{t0 u0 t1 u1 t2 u2:Tok}{n0 n1 n2 n9:Nat}(X:K.In h)(G:h.Ns mainGlobals mg)(hfa:mg "law"=some (.ref fa))(a:At K mg "law" Xd)(B:Blt mg)(Ball:mg "all"=none)(Bsum:mg "sum"=none)
  (a__law_take:At K mg "_law_take" Zh) (a__law_box:At K mg "_law_box" Xp) (a__law_folded:At K mg "_law_folded" xl) (a__law_length:At K mg "_law_length" xn) (a__law_kinds:At K mg "_law_kinds" yG) (a__law_fewest:At K mg "_law_fewest" wy) (a__law_searched:At K mg "_law_searched" wH) (a_places_by_kinds:At K mg "places_by_kinds" JA) (a_fewest_exchanges:At K mg "fewest_exchanges" JK)
  (gPa:PySem.W.nsIn K mainGlobals "PAIRS"=some (some (.ref aP)))
  (lPa:K.lookup aP=some ⟨.type "tuple",none,.seq #[.ref b0,.ref b1,.ref b2] n9,#[]⟩)
  (lb0:K.lookup b0=some ⟨.type "tuple",none,.seq #[.int 0 t0,.int 1 u0] n0,#[]⟩)
  (lb1:K.lookup b1=some ⟨.type "tuple",none,.seq #[.int 0 t1,.int 2 u1] n1,#[]⟩)
  (lb2:K.lookup b2=some ⟨.type "tuple",none,.seq #[.int 1 t2,.int 2 u2] n2,#[]⟩)
 :∃ fd:FuncData,(∀ (s:Shared) (v:Value),BindsTo s fd ⟨[v],[]⟩ [("_law_script",v)])/\∀ base:Heap,K.In base->base.Ns mainGlobals mg->jJ l.prog w K mg base CX0 20 fa fd ["_law_script"] (Z7 K):=by
 obtain ⟨f,fd,F,m⟩:=id a
 obtain rfl:fa=f:=by rw [hfa] at m;cases m;rfl
 obtain ⟨oc,od,kV,doc,pm,an,cdv,ct,osl,e,lk,hcd⟩:=F.ex
 refine ⟨fd,fun s v=>?_,fun base _ _=>?_⟩
 ·subst e;exact .of_eq rfl
 ·have T:=Yx (P:=l.prog) (w:=w) (base:=base) a__law_take B
  have tk:=T.imp' Yj
  have KP:Ko K mg:=⟨aP,b0,b1,b2,PySem.W.mg_of X G gPa,K5 lPa,Zc lb0,Zc lb1,Zc lb2⟩
  have L:=Wq (P:=l.prog) (w:=w) (base:=base) a B (((Vw a__law_box B).imp' W7).mono (by decide)) (tk.mono (by decide)) (((Z9 a__law_folded B).imp' QI).mono (by decide)) (((Q3 a__law_length B T).imp' Qo).mono (by decide)) ((KO a__law_kinds B tk).mono (by decide)) ((YA a__law_fewest B Bsum).mono (by decide)) ((Ym a__law_searched B).mono (by decide)) ((Au a_fewest_exchanges B Bsum KP (Ar a_places_by_kinds B)).mono (by decide))
  exact (L.imp' (sp_law (K:=K))).fn m lk
theorem walk {l:PySem.W.OpenLaw}{q:Program}{loose:List Str}{XP:(Str->Option Value)->Heap->Prop}{YP:World->Heap->Prop}{d:DefRec}{K:Params->PySem.W.Frag}(hn:l.most=some 63)(hdf:d.params.defaults=[])
  (hY:∀ (w:World) (h:Heap),YP w h->(K w.params).In h)
  (F:∀ (w:World) (mg:Str->Option Value) (fa:Addr) (h:Heap),(K w.params).In h->h.Ns mainGlobals mg->mg d.name=some (.ref fa) ->
   ∃ fd:FuncData,(∀ (s:Shared) (u:Value),BindsTo s fd ⟨[u],[]⟩ [("_law_script",u)])/\∀ base:Heap,(K w.params).In base->base.Ns mainGlobals mg->jJ l.prog w (K w.params) mg base CX0 20 fa fd ["_law_script"] (Z7 (K w.params))) :
  PySem.W.WalkO q loose XP YP l.row.toRowW d [] (fun f vs=>PySem.call f vs):=
 L2.walk_of (n:=63) (k:=20) (x:="_law_script") (CX:=fun _=>CX0) (sp:=fun w=>Z7 (K w.params)) hn (by decide) hdf ⟨rfl,rfl,by decide,by decide⟩ hY F (fun _ _ a ns hl _ hS=>⟨a,ns,rfl,hS,hl,fun _=>rfl⟩) fun _ _ _ _ _ z=>z
end Ot
theorem PySem.W.Fast.te10115455501080937:True:=trivial
theorem PySem.W.Fast.te18287563757936531442:True:=trivial
theorem PySem.W.Fast.te15480110760129739240:True:=trivial
namespace PySem.W.Fast
def tw9960955764726308582:=()
def tw17652804448847980273:=()
def tw11812981802341470447:=()
def tw861270892198374080:=()
def tw10182445521595091672:=()
def tw11005361365704890438:=()
def tw16115415150716780865:=()
def tw10851392661112684902:=()
def tw3994061519096378494:=()
def tw3469703148147717070:=()
def tw2883877283955883521:=()
def tw14741573945623629051:=()
def tw3145130923909948227:=()
def tw4328298880692615783:=()
def tw16612275461065508901:=()
def tw18048604111342351110:=()
def tw8102639874055682177:=()
def tw3862480745432767938:=()
def tw6109825439792863673:=()
def tw14275083320699409522:=()
def tw13472667501575713650:=()
def tw7542193127778549794:=()
def tw14361966289527909137:=()
def tw17960743644976216641:=()
def tw15864466833526147304:=()
def tw16085731657164589061:=()
def tw9967587576133629377:=()
def tw16207384583478155399:=()
def tw1281573676375143446:=()
def tw8985513485109688687:=()
def tw17432616616599720448:=()
def tw12571745463268193340:=()
def tw9668042033860483779:=()
def tw3424063932217746436:=()
def tw1988099332169148614:=()
def tw9954366252156398004:=()
def tw4135953901868740324:=()
def tw9305733698905456474:=()
def tw1476670560586453490:=()
def tw16035272450258926549:=()
def tw13426744071508415116:=()
def tw7120038024874894298:=()
def tw9895863421083766062:=()
def tw2778189158599589260:=()
def tw5938408900060130790:=()
def tw7275473502658960329:=()
def tw8772149608941944490:=()
def tw18238848107306536694:=()
def tw10298530061823088347:=()
def tw14226118708257251201:=()
def tw6896668202683402526:=()
def tw4316869917620456216:=()
def tw12656862534629512074:=()
def tw3301551031474506606:=()
def tw18075655895629660645:=()
def tw3976638846347168010:=()
def tw12439456392794398251:=()
def tw15330339772180188372:=()
def tw17336068121515706201:=()
def tw17418173454152348851:=()
def tw14661990021201900855:=()
def tw17442028139653003207:=()
def tw10184939347542011991:=()
def tw10658674861748614303:=()
def tw18058974845812710337:=()
def tw11483837458212346667:=()
def tw10706917069390324687:=()
def tw15723734072415877726:=()
def tw12176379908787628020:=()
end PySem.W.Fast
open PySem PySem.W PyProof.Rows
set_option maxRecDepth 100000 in
set_option maxHeartbeats 0 in
theorem PySem.Challenge.cw_ownturn_k48_fewest_exchanges_holds : PySem.Challenge.rw_ownturn_k48_fewest_exchanges.Holds := by
 w_on; o_law; k_head; (case hw => w_witness2)
 k_fill
 refine Ot.walk (l := PySem.Challenge.rw_ownturn_k48_fewest_exchanges) rfl rfl (fun w h Y => PySem.W.kIn_of Y) ?F
 case F =>
  intro w mg fa h KX G hmg
  refine' Ot.all_mk KX G hmg (L2.at_mk KX G ?a0 ?l0 ?c0 ?k0) (L2.blt_mk KX G ?z1 ?z2 ?z3 ?z4 ?z5 ?z6 ?z7 ?z8 ?z9 ?z10 ?z11 ?z12 ?z13 ?z14 ?z15 ?z16) (PySem.W.mg_none_of KX G ?zall) (PySem.W.mg_none_of KX G ?zsum) (L2.at_mk KX G ?a1 ?l1 ?c1 ?k1) (L2.at_mk KX G ?a2 ?l2 ?c2 ?k2) (L2.at_mk KX G ?a3 ?l3 ?c3 ?k3) (L2.at_mk KX G ?a4 ?l4 ?c4 ?k4) (L2.at_mk KX G ?a5 ?l5 ?c5 ?k5) (L2.at_mk KX G ?a6 ?l6 ?c6 ?k6) (L2.at_mk KX G ?a7 ?l7 ?c7 ?k7) (L2.at_mk KX G ?a8 ?l8 ?c8 ?k8) (L2.at_mk KX G ?a9 ?l9 ?c9 ?k9) ?xfgPa ?xflPa ?xflb0 ?xflb1 ?xflb2
  (case xfgPa | xflPa | xflb0 | xflb1 | xflb2 => first | k_is | kit_is | kts_exm)
  (case a0 | l0 | c0 | k0 | a1 | l1 | c1 | k1 | a2 | l2 | c2 | k2 | a3 | l3 | c3 | k3 | a4 | l4 | c4 | k4 | a5 | l5 | c5 | k5 | a6 | l6 | c6 | k6 | a7 | l7 | c7 | k7 | a8 | l8 | c8 | k8 | a9 | l9 | c9 | k9 | zall | zsum | z1 | z2 | z3 | z4 | z5 | z6 | z7 | z8 | z9 | z10 | z11 | z12 | z13 | z14 | z15 | z16 => k_is)
