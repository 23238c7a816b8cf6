import PyProof.Rows.All
import Wide.All
import OpenK.AllK
import Wide.FinOn
import Lean
import PyProof.EqAt
import PyProof.EqKinds
import PyProof.TupleCall
import Lean
import PyProof.ExcInit
import PyProof.ExcClass3
import PyProof.InstStoreFacts
import KE.KIsAll
import KE.KTryMore
import PyProof.ExcBaseAll.ValueError
import PyProof.ExcArgsOwn
import KE.RegKIsAll
import KE.RegKTryMore
import PyProof.RulesAs
import PySem.Challenge.RW_ownturn_k69_whole_leaders_go_round
local macro_rules | `(tactic| walk_at "o") => `(tactic| first | lia | omega)
set_option compiler.extract_closed false
set_option Elab.async false
set_option linter.all false
set_option maxRecDepth 100000
namespace L2
open PySem PySem.Spec PyProof.Rows
noncomputable abbrev Key:=Sum Int Str
noncomputable def FR:Key->Value->Bool
 | .inl k,v=>Value.isInt k v
 | .inr x,v=>Value.isStrOf x v
noncomputable def Lz (w:World):Key->Int
 | .inl k=>hashInt k
 | .inr x=>hashStr w x
theorem qh:∀ {k:Key} {v:Value},FR k v=true->(∃ i t,k=Sum.inl i/\v=Value.int i t) \/ (∃ x t,k=Sum.inr x/\v=Value.str x t)
 | .inl i,v,h=>by
  obtain ⟨t,e⟩:=Value.isInt_shape (k:=i) (v:=v) h
  exact .inl ⟨i,t,rfl,e⟩
 | .inr x,v,h=>by
  obtain ⟨t,e⟩:=Value.isStrOf_shape (x:=x) (v:=v) h
  exact .inr ⟨x,t,rfl,e⟩
theorem Ib (a b:Int):decide ((Sum.inl a:Key)=Sum.inl b)=(a == b):=by
 by_cases e:a=b
 ·subst e;simp
 ·have h:¬ (Sum.inl a:Key)=Sum.inl b:=fun q=>e (Sum.inl.inj q)
  rw [decide_eq_false h]
  exact (beq_eq_false_iff_ne.mpr e).symm
theorem Hz (a b:Str):decide ((Sum.inr a:Key)=Sum.inr b)=decide (a=b):=by
 by_cases e:a=b
 ·subst e;simp
 ·have h:¬ (Sum.inr a:Key)=Sum.inr b:=fun q=>e (Sum.inr.inj q)
  rw [decide_eq_false h,decide_eq_false e]
theorem Gc (a:Int)(b:Str):decide ((Sum.inl a:Key)=Sum.inr b)=false:=decide_eq_false (fun q=>nomatch q)
theorem HA (a:Str)(b:Int):decide ((Sum.inr a:Key)=Sum.inl b)=false:=decide_eq_false (fun q=>nomatch q)
noncomputable def vi (prog:Program)(w:World):PySem.KeyKind prog w Key where
 is:=FR
 hash:=Lz w
 inj:=fun v a b ha hb=>by
  rcases qh ha with ⟨i,t,rfl,rfl⟩ | ⟨x,t,rfl,rfl⟩
  ·rcases qh hb with ⟨j,u,rfl,e⟩ | ⟨y,u,rfl,e⟩
   ·injection e with e1 _;rw [e1]
   ·exact nomatch e
  ·rcases qh hb with ⟨j,u,rfl,e⟩ | ⟨y,u,rfl,e⟩
   ·exact nomatch e
   ·injection e with e1 _;rw [e1]
 byValue:=fun k v h=>by
  rcases qh h with ⟨i,t,rfl,rfl⟩ | ⟨x,t,rfl,rfl⟩ <;> rfl
 pyHash:=fun hv h=>by
  rcases qh hv with ⟨i,t,rfl,rfl⟩ | ⟨x,t,rfl,rfl⟩
  ·exact wpAny_pyHash_int h
  ·exact wpAny_pyHash_str h
 eqBool:=fun hu hv h=>by
  rcases qh hu with ⟨i,t,rfl,rfl⟩ | ⟨x,t,rfl,rfl⟩
  ·rcases qh hv with ⟨j,u,rfl,rfl⟩ | ⟨y,u,rfl,rfl⟩
   ·rw [Ib] at h;exact wpAny_eqBool_int h
   ·rw [Gc] at h;exact SeqAt.EqAt.int_str i t y u _ _ _ _ h
  ·rcases qh hv with ⟨j,u,rfl,rfl⟩ | ⟨y,u,rfl,rfl⟩
   ·rw [HA] at h;exact SeqAt.EqAt.str_int x t j u _ _ _ _ h
   ·rw [Hz] at h;exact wpAny_eqBool_str h
 «strs»:=fun k x t v h=>by
  rcases qh h with ⟨i,u,rfl,e⟩ | ⟨y,u,rfl,e⟩
  ·exact nomatch e
  ·injection e with e1 _
   subst e1
   cases v <;> rfl
inductive V where
 | non | bl (b:Bool) | int (i:Int) | str (x:Str) | byt (b:Array UInt8) | flt (b:UInt64) | ref (a:Addr) | ty (n:String)
 deriving DecidableEq
noncomputable def zH:V->Value->Prop
 | .non,u=>u=Value.none
 | .bl b,u=>u=Value.bool b
 | .int i,u=>∃ t,u=Value.int i t
 | .str x,u=>∃ t,u=Value.str x t
 | .byt b,u=>∃ t,u=Value.bytes b t
 | .flt b,u=>∃ t,u=Value.float b t
 | .ref a,u=>u=Value.ref a
 | .ty n,u=>u=Value.type n
noncomputable abbrev zE:List V->List Value->Prop:=Paired zH
theorem zE.length {xs:List V}{us:List Value}(r:zE xs us):xs.length=us.length:=Paired.length r
theorem zE.get:∀ {xs:List V} {us:List Value} {i:Nat} {x:V},zE xs us->xs[i]?=some x->∃ u,us[i]?=some u/\zH x u
 | _,_,_,_,.nil,e=>by simp at e
 | _,_,0,_,.cons r _,e=>by simp at e;subst e;exact ⟨_,rfl,r⟩
 | _,_,i+1,x,.cons _ t,e=>by
  obtain ⟨u,h1,h2⟩:=zE.get (i:=i) (x:=x) t (by simpa using e)
  exact ⟨u,by simpa using h1,h2⟩
theorem zE.set {x:V}{u:Value}(r:zH x u):∀ {xs:List V} {us:List Value} (i:Nat),zE xs us->zE (xs.set i x) (us.set i u)
 | _,_,_,.nil=>.nil
 | _,_,0,.cons _ t=>.cons r t
 | _,_,i+1,.cons q t=>.cons q (zE.set r i t)
theorem zE.append:∀ {xs ys:List V} {us ws:List Value},zE xs us->zE ys ws->zE (xs ++ ys) (us ++ ws)
 | _,_,_,_,.nil,s=>s
 | _,_,_,_,.cons r t,s=>.cons r (zE.append t s)
theorem zE.take:∀ {xs:List V} {us:List Value} (n:Nat),zE xs us->zE (xs.take n) (us.take n)
 | _,_,0,_=>.nil
 | _,_,_+1,.nil=>.nil
 | _,_,n+1,.cons r t=>.cons r (zE.take n t)
theorem zE.drop:∀ {xs:List V} {us:List Value} (n:Nat),zE xs us->zE (xs.drop n) (us.drop n)
 | _,_,0,r=>r
 | _,_,_+1,.nil=>.nil
 | _,_,n+1,.cons _ t=>zE.drop n t
noncomputable def Hs:Option V->Option Value->Prop
 | some v,some u=>zH v u
 | none,none=>True
 | _,_=>False
noncomputable def KV {κ:Type}:List (κ × V)->List (κ × Value)->Prop:=Paired fun (p:κ × V) (q:κ × Value)=>p.1=q.1/\zH p.2 q.2
noncomputable def kV:Key->V
 | .inl i=>.int i
 | .inr x=>.str x
inductive HO where
  | lst (xs:List V)
  | tup (xs:List V)
  | dK (kvs:List (Key × V)) | dT (kvs:List (List Key × V))
  | set (S:Int->Bool) (n:Nat)
  | ins (C dx:Addr) (fs:List (Str × V))
  | own (x:Addr)
  | xd (fs:List (Str × V))
  | met (f x:Addr)
  | rng (lo hi:Int)
  | frz (o:Obj) (u:HO)
  | tbl (ps:Array Value)
  | ext (φ:Heap->Prop)
noncomputable abbrev Hp:=Addr->Option HO
noncomputable def upd (H:Hp)(a:Addr)(o:HO):Hp:=fun b=>if b=a then some o else H b
theorem zf {H:Hp}{a:Addr}{o:HO}:upd H a o a=some o:=by unfold upd;rw [if_pos rfl]
theorem zq {H:Hp}{a b:Addr}{o:HO}(h:b ≠ a):upd H a o b=H b:=by unfold upd;rw [if_neg h]
theorem QU {H:Hp}{a b:Addr}{o u:HO}(h:H a=some o)(h':H b=some u)(d:o ≠ u):a ≠ b:=by
 intro e;subst e;rw [h] at h';exact d (Option.some.inj h')
theorem zj {H:Hp}{a b:Addr}{o:HO}(h:H a=some o)(h':H b=none):a ≠ b:=by
 intro e;subst e;rw [h] at h';cases h'
noncomputable def A7 (h:Heap)(a:Addr)(items:Array Value):Prop:=∃ o,h.get? a=some o/\o.cls=.type "tuple"/\(∃ n,o.data=.seq items n)/\o.dict=none
theorem A7.is {h:Heap}{a:Addr}{items:Array Value}(x:A7 h a items):IsTup h a items:=let ⟨o,e,c,n,_⟩:=x;⟨o,e,c,n⟩
theorem A7.lt {h:Heap}{a:Addr}{items:Array Value}(x:A7 h a items):a<h.objs.size:=x.is.lt
section
variable (P:Program)(w:World)
noncomputable def zX (H:Hp)(h:Heap)(a:Addr):HO->Prop
  | .lst xs=>xs.length<=sizeLine/\∃ (its:List Value) (n:Nat),zE xs its/\h.get? a=some { cls:=.type "list",data:=.seq its.toArray n }
  | .tup xs=>xs.length<=sizeLine/\∃ its:List Value,zE xs its/\A7 h a its.toArray
  | .dK kvs=>kvs.length<=sizeLine/\(a == sysModules)=false/\∃ vs,KV kvs vs/\h.DictOf (vi P w) a vs
  | .dT kvs => kvs.length <= sizeLine /\ (a == sysModules) = false /\ ∃ xs : List (List Key × Addr × Value),
      Paired (fun (p:List Key × V) (q:List Key × Addr × Value)=>p.1=q.1/\H q.2.1=some (.tup (p.1.map kV))/\zH p.2 q.2.2) kvs xs /\
      ∃ o es ep,h.get? a=some o/\o.ExactDict/\o.data=.dict es ep/\es.toList=xs.map (entryOfKey (tupleKind (vi P w)))/\(xs.map (·.1)).Nodup
  | .set S n=>h.SetOf (intKind P w) a S n
  | .ins C dx fs => H dx = some (.own a) /\ fs.length <= 1000 /\ dx ≠ a /\ h.get? a = some (PySem.W.instObj C dx) /\
      ∃ mA,h.Ns1 dx mA/\(∀ f,Hs (fs.lookup f) (mA f))/\PySem.Within mA (fs.map (·.1))
  | .own _=>∃ o,h.get? a=some o
  | .xd fs=>∃ mA,h.Ns1 a mA/\∀ f,Hs (fs.lookup f) (mA f)
  | .rng lo hi=>∃ t u v,h.get? a=some { cls:=.type "range",data:=.fields #[.int lo t,.int hi u,.int 1 v] }
  | .frz o u=>h.get? a=some o/\zX H h a u
  | .tbl ps=>h.get? a=some { cls:=.none,data:=.fields ps }
  | .met f x=>h.get? a=some (PySem.W.methodObj (.ref f) (.ref x))
  | .ext φ=>φ h/\(∃ o,h.get? a=some o)/\∀ h1 h2:Heap,φ h1->(∀ o,h1.get? a=some o->h2.get? a=some o)->φ h2
noncomputable def HOk (H:Hp)(h:Heap):Prop:=∀ a o,H a=some o->zX P w H h a o
end
section
variable {P:Program}{w:World}{H H':Hp}{h h':Heap}{a:Addr}{o:HO}
theorem zX.lt (x:zX P w H h a o):a<h.objs.size:=by
 cases o with
 | lst xs=>obtain ⟨_,_,_,_,e⟩:=x;exact Heap.lt_size e
 | tup xs=>obtain ⟨_,_,_,p⟩:=x;exact p.lt
 | dK kvs=>obtain ⟨_,_,_,_,o,_,_,e,_⟩:=x;exact Heap.lt_size e
 | dT kvs=>obtain ⟨_,_,_,_,o,_,_,e,_⟩:=x;exact Heap.lt_size e
 | set S n=>obtain ⟨o,_,_,_,e,_⟩:=x;exact Heap.lt_size e
 | ins C dx fs=>obtain ⟨_,_,_,e,_⟩:=x;exact Heap.lt_size e
 | own y=>obtain ⟨_,e⟩:=x;exact Heap.lt_size e
 | xd fs=>obtain ⟨_,⟨_,_,_,e,_⟩,_⟩:=x;exact Heap.lt_size e
 | rng lo hi=>obtain ⟨_,_,_,e⟩:=x;exact Heap.lt_size e
 | frz ob u=>obtain ⟨e,_⟩:=x;exact Heap.lt_size e
 | tbl ps=>exact Heap.lt_size (show h.get? a=some _ from x)
 | met f y=>exact Heap.lt_size (show h.get? a=some _ from x)
 | ext φ=>obtain ⟨_,⟨_,e⟩,_⟩:=x;exact Heap.lt_size e
theorem Paired.mapP {α β:Type}{F G:α->β->Prop}:∀ {l₁:List α} {l₂:List β},Paired F l₁ l₂->(∀ a b,F a b->G a b)->Paired G l₁ l₂
 | _,_,.nil,_=>.nil
 | _,_,.cons r t,f=>.cons (f _ _ r) (Paired.mapP t f)
theorem zX.stay (x:zX P w H h a o)(k:∀ b u,(b=a \/ H b=some (.own a))->h.get? b=some u->h'.get? b=some u)
  (ho:∀ b,H b=some (.own a)->H' b=some (.own a)) (ht:∀ b xs,H b=some (.tup xs)->H' b=some (.tup xs)):zX P w H' h' a o:=by
 induction o with
 | lst xs=>obtain ⟨z,its,n,r,e⟩:=x;exact ⟨z,its,n,r,k _ _ (.inl rfl) e⟩
 | tup xs=>obtain ⟨z,its,r,ob,e,c⟩:=x;exact ⟨z,its,r,ob,k _ _ (.inl rfl) e,c⟩
 | dK kvs=>obtain ⟨z,y,vs,r,ob,es,ep,e,c⟩:=x;exact ⟨z,y,vs,r,ob,es,ep,k _ _ (.inl rfl) e,c⟩
 | dT kvs=>
  obtain ⟨z,y,xs,r,ob,es,ep,e,c⟩:=x
  exact ⟨z,y,xs,Paired.mapP r fun p q z=>⟨z.1,ht _ _ z.2.1,z.2.2⟩,ob,es,ep,k _ _ (.inl rfl) e,c⟩
 | set S n=>obtain ⟨ob,es,ep,t,e,c⟩:=x;exact ⟨ob,es,ep,t,k _ _ (.inl rfl) e,c⟩
 | ins C dx fs=>
  obtain ⟨d,z,ne,e,mA,⟨od,es,ep,e2,c⟩,r⟩:=x
  exact ⟨ho _ d,z,ne,k _ _ (.inl rfl) e,mA,⟨od,es,ep,k _ _ (.inr d) e2,c⟩,r⟩
 | own y=>obtain ⟨ob,e⟩:=x;exact ⟨ob,k _ _ (.inl rfl) e⟩
 | xd fs=>obtain ⟨mA,⟨od,es,ep,e,c⟩,r⟩:=x;exact ⟨mA,⟨od,es,ep,k _ _ (.inl rfl) e,c⟩,r⟩
 | rng lo hi=>obtain ⟨t,u,v,e⟩:=x;exact ⟨t,u,v,k _ _ (.inl rfl) e⟩
 | frz ob u ih=>obtain ⟨e,q⟩:=x;exact ⟨k _ _ (.inl rfl) e,ih q⟩
 | tbl ps=>
  have e:h.get? a=some { cls:=.none,data:=.fields ps }:=x
  show h'.get? a=some { cls:=.none,data:=.fields ps }
  exact k a _ (.inl rfl) e
 | met f y=>
  have e:h.get? a=some (PySem.W.methodObj (.ref f) (.ref y)):=x
  show h'.get? a=some (PySem.W.methodObj (.ref f) (.ref y))
  exact k a _ (.inl rfl) e
 | ext φ=>obtain ⟨p,⟨o,e⟩,st⟩:=x;exact ⟨st _ _ p fun o q=>k _ _ (.inl rfl) q,⟨o,k _ _ (.inl rfl) e⟩,st⟩
theorem HOk.lt (x:HOk P w H h)(e:H a=some o):a<h.objs.size:=(x a o e).lt
theorem HOk.fresh (x:HOk P w H h)(e:h.objs.size<=a):H a=none:=by
 cases q:H a with
 | none=>rfl
 | some u=>exact absurd (Nat.lt_of_lt_of_le (x.lt q) e) (Nat.lt_irrefl _)
theorem HOk.kept (x:HOk P w H h)(k:∀ b u,h.get? b=some u->h'.get? b=some u):HOk P w H h':=fun a o e=>
 (x a o e).stay (fun b u _ q=>k b u q) (fun _ q=>q) fun _ _ q=>q
theorem HOk.laid (x:HOk P w H h)(k:∀ b u,h.get? b=some u->h'.get? b=some u)(hp:h.objs.size<=a)(new:zX P w (upd H a o) h' a o):HOk P w (upd H a o) h':=fun b u e=>by
 have hn:=x.fresh hp
 by_cases hb:b=a
 ·subst hb;rw [zf] at e;cases e;exact new
 ·rw [zq hb] at e
  exact (x b u e).stay (fun c v _ q=>k c v q) (fun c q=>by rw [zq (zj q hn)];exact q) fun c xs q=>by rw [zq (zj q hn)];exact q
end
noncomputable def Rd (H:Hp)(a:Addr)(u:HO):Prop:=H a=some u \/ ∃ o,H a=some (.frz o u)
theorem Rd.ok {P:Program}{w:World}{H:Hp}{h:Heap}{a:Addr}{u:HO}(r:Rd H a u)(x:HOk P w H h):zX P w H h a u:=by
 rcases r with r | ⟨o,r⟩
 ·exact x a u r
 ·obtain ⟨_,q⟩:=x a _ r
  exact q
noncomputable def Mut:Option HO->Prop
 | some (.lst _)=>True
 | some (.dK _)=>True
 | some (.dT _)=>True
 | some (.set _ _)=>True
 | some (.ins _ _ _)=>True
 | some (.ext _)=>True
 | _=>False
section
variable {P:Program}{w:World}{H:Hp}{h h':Heap}{x e:Addr}{o':HO}
theorem HOk.write (ok : HOk P w H h)(mu : Mut (H x))(he : e = x \/ H e = some (.own x))(k : ∀ b u, b ≠ e -> h.get? b = some u -> h'.get? b = some u)(heo : ∃ u, h'.get? e = some u)
    (new:zX P w (upd H x o') h' x o'):HOk P w (upd H x o') h':=fun b u q=>by
  have nown:∀ c y,H c=some (.own y)->c ≠ x:=fun c y r z=>by subst z;rw [r] at mu;exact mu
  have ntup:∀ c xs,H c=some (.tup xs)->c ≠ x:=fun c xs r z=>by subst z;rw [r] at mu;exact mu
  by_cases hb:b=x
  · subst hb;rw [zf] at q;cases q;exact new
  · rw [zq hb] at q
    by_cases hbe:b=e
    · have q' : H b = some (.own x) := by
        rcases he with z | z
        · exact absurd (hbe.trans z) hb
        · rw [hbe];exact z
      rw [q] at q';cases q'
      obtain ⟨v,hv⟩:=heo
      exact ⟨v,by rw [hbe];exact hv⟩
    · refine (ok b u q).stay (fun c v hc r=>k c v ?_ r) (fun c r=>by rw [zq (nown c b r)];exact r) fun c xs r=>by rw [zq (ntup c xs r)];exact r
      rcases hc with rfl | hc
      · exact hbe
      · rintro rfl
        rcases he with z | z
        · exact nown c b hc z
        · rw [hc] at z;cases z;exact hb rfl
end
structure Un (fs ex:List Addr)(H H':Hp)(h h':Heap):Prop where
 keep:∀ b o,h.get? b=some o->H b=none->b ∉ fs->b ∉ ex->h'.get? b=some o
 slot:∀ b o,h.get? b=some o->H b=none->b ∈ fs->b ∉ ex->∃ sl,h'.get? b=some { o with slots:=sl }
 free:∀ b o,h.get? b=some o->H b=none->b ∉ ex->H' b=none
 there:∀ b o,h.get? b=some o->b ∉ ex->∃ o',h'.get? b=some o'
 tups:∀ b xs,H b=some (.tup xs)->H' b=some (.tup xs)
 frzs:∀ b o u,H b=some (.frz o u)->H' b=some (.frz o u)
 tbls:∀ b ps,H b=some (.tbl ps)->∃ more,H' b=some (.tbl (ps ++ more))
section
variable {fs fs' ex ex':List Addr}{H H1 H2:Hp}{h h1 h2 h':Heap}{a x e:Addr}{o:HO}
theorem Un.any (u:Un fs ex H H1 h h1){b:Addr}{ob:Obj}(q:h.get? b=some ob)(n:H b=none)(hx:b ∉ ex):∃ sl,h1.get? b=some { ob with slots:=sl }:=by
 by_cases hb:b ∈ fs
 ·exact u.slot b ob q n hb hx
 ·exact ⟨ob.slots,u.keep b ob q n hb hx⟩
theorem Un.kept (k:∀ b u,h.get? b=some u->h'.get? b=some u):Un fs ex H H h h':=
 ⟨fun b ob q _ _ _=>k b ob q,fun b ob q _ _ _=>⟨ob.slots,k b ob q⟩,fun _ _ _ n _=>n,fun b ob q _=>⟨ob,k b ob q⟩,fun _ _ q=>q,fun _ _ _ q=>q,fun _ ps q=>⟨#[],by rw [q];simp⟩⟩
theorem Un.refl:Un fs ex H H h h:=Un.kept fun _ _ q=>q
theorem Un.laid (k:∀ b u,h.get? b=some u->h'.get? b=some u)(hp:h.objs.size<=a)(hn:H a=none):Un fs ex H (upd H a o) h h' where
 keep:=fun b u q _ _ _=>k b u q
 slot:=fun b u q _ _ _=>⟨u.slots,k b u q⟩
 free:=fun b u q n _=>by rw [zq (Nat.ne_of_lt (Nat.lt_of_lt_of_le (Heap.lt_size q) hp))];exact n
 there:=fun b u q _=>⟨u,k b u q⟩
 tups:=fun b xs q=>by rw [zq (zj q hn)];exact q
 frzs:=fun b u xs q=>by rw [zq (zj q hn)];exact q
 tbls:=fun b ps q=>⟨#[],by rw [zq (zj q hn),q];simp⟩
theorem Un.write (mu:Mut (H x))(he:e=x \/ H e=some (.own x))(k:∀ b u,b ≠ e->h.get? b=some u->h'.get? b=some u)(heo:∃ u,h'.get? e=some u):Un fs ex H (upd H x o) h h':=by
 have hx:∀ b,H b=none->b ≠ x:=fun b n z=>by subst z;rw [n] at mu;exact mu
 have hb:∀ b,H b=none->b ≠ e:=fun b n z=>by
  subst z
  rcases he with r | r
  ·exact hx b n r
  ·rw [n] at r;cases r
 have hm:∀ b u,H b=some u->¬ Mut (some u)->b ≠ x:=fun b u q nm z=>by subst z;rw [q] at mu;exact nm mu
 refine ⟨fun b u q n _ _=>k b u (hb b n) q,fun b u q n _ _=>⟨u.slots,k b u (hb b n) q⟩,fun b u q n _=>by rw [zq (hx b n)];exact n,fun b u q _=>?_,
  fun b xs q=>by rw [zq (hm b _ q fun z=>z)];exact q,fun b u xs q=>by rw [zq (hm b _ q fun z=>z)];exact q,fun b ps q=>⟨#[],by rw [zq (hm b _ q fun z=>z),q];simp⟩⟩
 by_cases hbe:b=e
 ·subst hbe;exact heo
 ·exact ⟨u,k b u hbe q⟩
end
noncomputable def trk (h:Heap)(H:Hp):List Addr:=(List.range h.objs.size).filter fun a=>(H a).isSome
noncomputable def Z2 (h:Heap)(H:Hp):Heap:=PySem.W.hideAll h (trk h H)
theorem V5 (h:Heap)(H:Hp):(Z2 h H).objs.size=h.objs.size:=PySem.W.hideAll_size _ _
theorem BU {h:Heap}{H:Hp}{b:Addr}{o:Obj}(e:h.get? b=some o)(n:H b=none):(Z2 h H).get? b=some o:=
 PySem.W.hideAll_get _ e fun hm=>by
  have q:(H b).isSome=true:=(List.mem_filter.mp hm).2
  rw [n] at q;simp at q
theorem DG {h:Heap}{H:Hp}{b:Addr}{o:Obj}(e:(Z2 h H).get? b=some o):h.get? b=some o/\H b=none:=by
 have e':h.get? b=some o:=PySem.W.of_hideAll (trk h H) e
 refine ⟨e',?_⟩
 cases q:H b with
 | none=>rfl
 | some x=>
  have hm:b ∈ trk h H:=List.mem_filter.mpr ⟨List.mem_range.mpr (Heap.lt_size e'),by simp [q]⟩
  have z:(Z2 h H).get? b=none:=PySem.W.hideAll_none (trk h H) hm
  rw [z] at e;cases e
noncomputable def Fc (g h:Heap)(L:Addr):List (Addr × Obj):=(List.range h.objs.size).filterMap fun a=>if a=L \/ (g.get? a).isSome=true then none else (h.get? a).map fun o=>(a,o)
noncomputable def zF (g h:Heap)(L d:Addr):List (Addr × Obj):=(Fc g h L).filter fun p=>decide (p.1 ≠ d)
structure Mod (K:PySem.W.Frag)(mg:Str->Option Value)(base:Heap):Prop where
 kin:K.In base
 glob:base.Ns mainGlobals mg
 blt:∃ mb,base.Ns builtinsNs mb/\∀ x:Str,x ≠ "__name__"->mb x=bootBuiltins x
 nolimit:base.NoLimit
structure Cx where
 prog:Program
 w:World
 K:PySem.W.Frag
 mg:Str->Option Value
 base:Heap
 A:Around
 N:List Str
 s₀:Shared
 H₀:Hp
 env:Env
 outer:List Env
 stack:List Env
 ex:List Addr
 fn:Str->Bool
 calm:Bool
 pn:List (Addr × Obj)
 xe:Value->Shared->Prop
noncomputable def frs (l:List Env):List Addr:=l.filterMap (·.frame)
noncomputable abbrev Cx.fs (X:Cx):List Addr:=frs X.outer
noncomputable def Vis (sc:Scope)(x:Str):Prop:=sc.names.lookup x=some .local \/ sc.names.lookup x=some .cell \/ sc.names.lookup x=some .free
noncomputable def Loc (sc:Scope)(x:Str):Prop:=sc.names.lookup x=some .local \/ sc.names.lookup x=some .cell
noncomputable def Ls (env:Env)(h:Heap)(m:Str->Option Value)(x:Str)(u:Value):Prop:=
 (env.kindOf x=some .local/\m x=some u) \/ ((env.kindOf x=some .cell \/ env.kindOf x=some .free)/\∃ c,env.cells.lookup x=some c/\h.IsCell c (some u))
structure Cx.Ok (X:Cx):Prop where
 mod:Mod X.K X.mg X.base
 kind:X.env.scope.kind=.function
 glob:X.env.globals=mainGlobals
 blt:X.env.builtins=builtinsNs
 above:X.s₀.heap.objs.size<=X.env.locals
 inj:∀ x y c,X.env.cells.lookup x=some c->X.env.cells.lookup y=some c->x=y
 has:∀ x,(X.env.kindOf x=some .cell \/ X.env.kindOf x=some .free)->∃ c,X.env.cells.lookup x=some c
 cab:∀ x c,X.fn x=true->X.env.cells.lookup x=some c->X.s₀.heap.objs.size<=c
 hd:X.calm=true->X.A.handled=none
 frames:X.A.frames=some X.stack
 stk:X.stack=X.outer \/ (X.stack=X.env :: X.outer/\X.env.frame=some X.env.locals)
 exf:∀ b ∈ X.ex,b ≠ X.env.locals/\∀ x c,X.env.cells.lookup x=some c->c ≠ b
 bs:∀ b o,X.base.get? b=some o->X.s₀.heap.get? b=some o/\X.H₀ b=none
 bsz:X.base.objs.size<=X.s₀.heap.objs.size
 noex:∀ b o,X.base.get? b=some o->b ∉ X.ex
 exfs:∀ b ∈ X.ex,b ∉ X.fs
 funs:X.s₀.heap.FunFrames X.base X.outer
 frf:∀ b ∈ X.fs,X.H₀ b=none
structure Inv (X:Cx)(pins:List (Addr × Obj))(σ:List (Option V))(H:Hp)(s:Shared):Prop where
 ok:X.Ok
 os:s.os=X.s₀.os
 bare:AllBare s.gens
 base:Un X.fs X.ex X.H₀ H X.s₀.heap s.heap
 loc:∃ m,s.heap.Ns X.env.locals m/\∀ (i:Nat) (x:Str) (v:V),X.N[i]?=some x->σ[i]?=some (some v)->Vis X.env.scope x->∃ u,zH v u/\Ls X.env s.heap m x u
 cell:∀ x c,X.env.cells.lookup x=some c->∃ v,s.heap.IsCell c v
 free:H X.env.locals=none
 freeC:∀ x c,X.env.cells.lookup x=some c->H c=none
 pin:∀ p ∈ X.pn ++ pins,s.heap.get? p.1=some p.2/\H p.1=none/\p.1 ≠ X.env.locals/\p.1 ∉ X.fs/\∀ v,p.2.data ≠ .cell v
 hok:HOk X.prog X.w H s.heap
 len:σ.length=X.N.length
section
variable {X:Cx}{pins:List (Addr × Obj)}{σ:List (Option V)}{H H':Hp}{s:Shared}{h':Heap}
theorem Cx.Ok.nofr (ok:X.Ok){b:Addr}{o:Obj}(e:X.base.get? b=some o):b ∉ X.fs:=fun hb=>by
 have:=(ok.funs.mem hb).1
 rw [e] at this;cases this
theorem Inv.bs (I:Inv X pins σ H s):∀ b o,X.base.get? b=some o->s.heap.get? b=some o/\H b=none:=fun b o e=>
 ⟨I.base.keep b o (I.ok.bs b o e).1 (I.ok.bs b o e).2 (I.ok.nofr e) (I.ok.noex b o e),I.base.free b o (I.ok.bs b o e).1 (I.ok.bs b o e).2 (I.ok.noex b o e)⟩
theorem Inv.bk (I:Inv X pins σ H s):∀ b o,X.base.get? b=some o->s.heap.get? b=some o:=fun b o e=>(I.bs b o e).1
theorem Inv.mod (I:Inv X pins σ H s):Mod X.K X.mg X.base:=I.ok.mod
theorem Inv.kIn (I:Inv X pins σ H s):X.K.In s.heap:=I.ok.mod.kin.keeps I.bk
theorem Inv.lt (I:Inv X pins σ H s):X.env.locals<s.heap.objs.size:=let ⟨_,hn,_⟩:=I.loc;hn.lt
theorem Inv.sz (I:Inv X pins σ H s):X.s₀.heap.objs.size<=s.heap.objs.size:=Nat.le_trans I.ok.above (Nat.le_of_lt I.lt)
theorem Inv.nofs (I:Inv X pins σ H s){a:Addr}(h:s.heap.objs.size<=a):a ∉ X.fs:=fun hb=>by
 obtain ⟨_,o,ho,_⟩:=I.ok.funs.mem hb
 exact absurd (Nat.lt_of_lt_of_le (Heap.lt_size ho) (Nat.le_trans I.sz h)) (Nat.lt_irrefl _)
theorem Inv.cne (I:Inv X pins σ H s):∀ x c,X.env.cells.lookup x=some c->c ≠ X.env.locals:=fun x c e z=>by
 obtain ⟨v,o,ho,hd⟩:=I.cell x c e
 obtain ⟨m,⟨o',es,ep,ho',hd',_⟩,_⟩:=I.loc
 rw [z,ho'] at ho;cases ho;rw [hd'] at hd;cases hd
theorem Inv.funs (I:Inv X pins σ H s):s.heap.FunFrames X.base X.outer:=by
 have all:∀ (l:List Env),(∀ b ∈ frs l,b ∈ X.fs)->X.s₀.heap.FunFrames X.base l->s.heap.FunFrames X.base l:=by
  intro l
  induction l with
  | nil=>intro _ _;trivial
  | cons env r ih=>
   intro hs hl
   obtain ⟨hk,⟨L,o,hf,hn,ho,hd⟩,hr⟩:=hl
   have hL:L ∈ X.fs:=hs L (by unfold frs;rw [List.filterMap_cons,hf];exact List.mem_cons_self)
   obtain ⟨sl,e⟩:=I.base.slot L o ho (I.ok.frf L hL) hL fun z=>I.ok.exfs L z hL
   exact ⟨hk,⟨L,_,hf,hn,e,hd⟩,ih (fun b hb=>hs b (by unfold frs;rw [List.filterMap_cons,hf];exact List.mem_cons_of_mem _ hb)) hr⟩
 exact all X.outer (fun _ hb=>hb) I.ok.funs
theorem Inv.stack (I:Inv X pins σ H s):s.heap.FunFrames X.base X.stack:=by
 rcases I.ok.stk with e | ⟨e,hf⟩
 ·rw [e];exact I.funs
 ·rw [e]
  obtain ⟨m,hn,_⟩:=I.loc
  refine .cons (by rw [I.ok.kind];decide) hf hn ?_ I.funs
  exact Heap.get?_none_of_le (Nat.le_trans I.ok.bsz I.ok.above)
theorem Inv.stkSub (I:Inv X pins σ H s):∀ b ∈ frs X.stack,b ∈ X.env.locals :: X.fs:=fun b hb=>by
 rcases I.ok.stk with e | ⟨e,hf⟩
 ·rw [e] at hb;exact List.mem_cons_of_mem _ hb
 ·rw [e] at hb
  unfold frs at hb
  rw [List.filterMap_cons,hf] at hb
  exact hb
theorem Inv.stkFree (I:Inv X pins σ H s):∀ b ∈ frs X.stack,H b=none:=fun b hb=>by
 rcases List.mem_cons.mp (I.stkSub b hb) with e | hb
 ·rw [e];exact I.free
 ·obtain ⟨_,o,ho,_⟩:=I.ok.funs.mem hb
  exact I.base.free b o ho (I.ok.frf b hb) fun z=>I.ok.exfs b z hb
theorem Inv.step {g':Array GenState}{t':Nat}{d':Drawn}{ch:List Addr}(I:Inv X pins σ H s)
  (hch:∀ b ∈ ch,(b ∈ X.ex \/ X.s₀.heap.objs.size<=b)/\b ≠ X.env.locals/\(∀ x c,X.env.cells.lookup x=some c->c ≠ b)/\∀ p ∈ X.pn ++ pins,p.1 ≠ b)
  (keep:∀ b o,b ≠ X.env.locals->b ∉ X.fs->b ∉ ch->s.heap.get? b=some o->H b=none->h'.get? b=some o)
  (slot:∀ b o,b ≠ X.env.locals->b ∈ X.fs->b ∉ ch->s.heap.get? b=some o->H b=none->∃ sl,h'.get? b=some { o with slots:=sl }) (free:∀ b o,b ∉ ch->s.heap.get? b=some o->H b=none->H' b=none)
  (there:∀ b o,b ∉ ch->s.heap.get? b=some o->∃ o',h'.get? b=some o')
  (tups:∀ b xs,H b=some (.tup xs)->H' b=some (.tup xs)) (frzs:∀ b o u,H b=some (.frz o u)->H' b=some (.frz o u)) (tbls:∀ b ps,H b=some (.tbl ps)->∃ more,H' b=some (.tbl (ps ++ more)))
  (ns:∀ m,s.heap.Ns X.env.locals m->h'.Ns X.env.locals m) (hok:HOk X.prog X.w H' h') (hg:AllBare g') :
  Inv X pins σ H' { s with heap:=h',gens:=g',drawn:=d',toks:=t' }:=by
 have neL:∀ b o,X.s₀.heap.get? b=some o->b ≠ X.env.locals:=fun b o e=>Nat.ne_of_lt (Nat.lt_of_lt_of_le (Heap.lt_size e) I.ok.above)
 have neC:∀ b o,X.s₀.heap.get? b=some o->b ∉ X.ex->b ∉ ch:=fun b o e hx hb=>by
  rcases (hch b hb).1 with z | z
  ·exact hx z
  ·exact absurd (Nat.lt_of_lt_of_le (Heap.lt_size e) z) (Nat.lt_irrefl _)
 have cellK:∀ x c,X.env.cells.lookup x=some c->∀ v,s.heap.IsCell c v->h'.IsCell c v:=fun x c e v ⟨o,ho,hd⟩=>by
  have nch:c ∉ ch:=fun z=>(hch c z).2.2.1 x c e rfl
  by_cases hc:c ∈ X.fs
  ·obtain ⟨sl,q⟩:=slot c o (I.cne x c e) hc nch ho (I.freeC x c e)
   exact ⟨_,q,hd⟩
  ·exact ⟨o,keep c o (I.cne x c e) hc nch ho (I.freeC x c e),hd⟩
 refine ⟨I.ok,I.os,hg,⟨fun b o e n hb hx=>?_,fun b o e n hb hx=>?_,fun b o e n hx=>?_,fun b o e hx=>?_,fun b xs e=>tups b xs (I.base.tups b xs e),fun b o xs e=>frzs b o xs (I.base.frzs b o xs e),fun b ps e=>?_⟩,?_,fun x c e=>?_,?_,fun x c e=>?_,fun p hp=>?_,hok,I.len⟩
 ·exact keep b o (neL b o e) hb (neC b o e hx) (I.base.keep b o e n hb hx) (I.base.free b o e n hx)
 ·obtain ⟨sl,e1⟩:=I.base.slot b o e n hb hx
  obtain ⟨sl',e2⟩:=slot b _ (neL b o e) hb (neC b o e hx) e1 (I.base.free b o e n hx)
  exact ⟨sl',e2⟩
 ·obtain ⟨o',e1⟩:=I.base.there b o e hx
  exact free b o' (neC b o e hx) e1 (I.base.free b o e n hx)
 ·obtain ⟨o',e1⟩:=I.base.there b o e hx
  exact there b o' (neC b o e hx) e1
 ·obtain ⟨m1,e1⟩:=I.base.tbls b ps e
  obtain ⟨m2,e2⟩:=tbls b _ e1
  exact ⟨m1 ++ m2,by rw [e2,Array.append_assoc]⟩
 ·obtain ⟨m,hn,hl⟩:=I.loc
  refine ⟨m,ns m hn,fun i x v e1 e2 e3=>?_⟩
  obtain ⟨u,r,l⟩:=hl i x v e1 e2 e3
  refine ⟨u,r,?_⟩
  rcases l with l | ⟨k,c,e,z⟩
  ·exact .inl l
  ·exact .inr ⟨k,c,e,cellK x c e _ z⟩
 ·obtain ⟨v,z⟩:=I.cell x c e
  exact ⟨v,cellK x c e v z⟩
 ·obtain ⟨m,⟨o,_,_,ho,_⟩,_⟩:=I.loc
  exact free _ o (fun z=>(hch _ z).2.1 rfl) ho I.free
 ·obtain ⟨v,o,ho,hd⟩:=I.cell x c e
  exact free c o (fun z=>(hch c z).2.2.1 x c e rfl) ho (I.freeC x c e)
 ·obtain ⟨e,n,ne,nf,d⟩:=I.pin p hp
  have nch:p.1 ∉ ch:=fun z=>(hch p.1 z).2.2.2 p hp rfl
  exact ⟨keep p.1 p.2 ne nf nch e n,free p.1 p.2 nch e n,ne,nf,d⟩
theorem Inv.un {t':Nat}(I:Inv X pins σ H s)(u:Un X.fs [] H H' s.heap h')(hok:HOk X.prog X.w H' h'):Inv X pins σ H' { s with heap:=h',toks:=t' }:=by
 obtain ⟨m,⟨o,es,ep,ho,r⟩,_⟩:=id I.loc
 obtain ⟨sl,hL⟩:=u.any ho I.free (by simp)
 exact I.step (g':=s.gens) (d':=s.drawn) (ch:=[]) (fun _ z=>nomatch z) (fun b o _ hb _ e n=>u.keep b o e n hb (by simp)) (fun b o _ hb _ e n=>u.slot b o e n hb (by simp)) (fun b o _ e n=>u.free b o e n (by simp)) (fun b o _ e=>u.there b o e (by simp)) u.tups u.frzs u.tbls (fun m' hm=>by
  obtain ⟨o',es',ep',ho',r'⟩:=hm
  rw [ho] at ho';cases ho'
  exact ⟨_,es',ep',hL,r'⟩) hok I.bare
theorem Inv.call {g':Array GenState}{t':Nat}{d':Drawn}{ch:List Addr}(I:Inv X pins σ H s)(u:Un (frs X.stack) ch H H' s.heap h')(hok:HOk X.prog X.w H' h')(hg:AllBare g')
  (hch:∀ b ∈ ch,(b ∈ X.ex \/ X.s₀.heap.objs.size<=b)/\b ≠ X.env.locals/\(∀ x c,X.env.cells.lookup x=some c->c ≠ b)/\∀ p ∈ X.pn ++ pins,p.1 ≠ b) :
  Inv X pins σ H' { s with heap:=h',gens:=g',drawn:=d',toks:=t' }:=by
 obtain ⟨m,⟨o,es,ep,ho,r⟩,_⟩:=id I.loc
 obtain ⟨sl,hL⟩:=u.any ho I.free fun z=>(hch _ z).2.1 rfl
 exact I.step (ch:=ch) hch (fun b o hL hb hc e n=>u.keep b o e n (fun z=>(List.mem_cons.mp (I.stkSub b z)).elim hL hb) hc) (fun b o _ _ hc e n=>u.any e n hc) (fun b o hc e n=>u.free b o e n hc) (fun b o hc e=>u.there b o e hc) u.tups u.frzs u.tbls (fun m' hm=>by
  obtain ⟨o',es',ep',ho',r'⟩:=hm
  rw [ho] at ho';cases ho'
  exact ⟨_,es',ep',hL,r'⟩) hok hg
theorem Inv.turned {t':Nat}{it:Addr}(I:Inv X pins σ H s)(k:∀ b o,b ≠ it->s.heap.get? b=some o->h'.get? b=some o)(hn:H it=none)(hL:it ≠ X.env.locals)
  (h1:it ∈ X.ex \/ X.s₀.heap.objs.size<=it) (h2:∀ x c,X.env.cells.lookup x=some c->c ≠ it) (h3:∀ p ∈ X.pn ++ pins,p.1 ≠ it):Inv X pins σ H { s with heap:=h',toks:=t' }:=by
 have nit:∀ b u,H b=some u->b ≠ it:=fun b u e z=>by rw [z,hn] at e;cases e
 refine I.step (g':=s.gens) (d':=s.drawn) (ch:=[it]) (fun b hb=>?_) (fun b o _ _ hc e _=>k b o (fun z=>hc (by simp [z])) e) (fun b o _ _ hc e _=>⟨o.slots,k b o (fun z=>hc (by simp [z])) e⟩) (fun _ _ _ _ n=>n)
  (fun b o hc e=>⟨o,k b o (fun z=>hc (by simp [z])) e⟩) (fun _ _ e=>e) (fun _ _ _ e=>e) (fun b ps e=>⟨#[],by rw [e];simp⟩) (fun m hm=>?_) (fun b u e=>?_) I.bare
 ·have e:b=it:=by simpa using hb
  subst e
  exact ⟨h1,hL,h2,h3⟩
 ·obtain ⟨o,es,ep,ho,r⟩:=hm
  exact ⟨o,es,ep,k _ o (Ne.symm hL) ho,r⟩
 ·refine (I.hok b u e).stay (fun c v hc q=>k c v ?_ q) (fun _ q=>q) fun _ _ q=>q
  rcases hc with z | z
  ·rw [z];exact nit b u e
  ·exact nit c _ z
theorem Inv.tok (I:Inv X pins σ H s)(t:Nat):Inv X pins σ H { s with toks:=t }:=I.un (h':=s.heap) (t':=t) Un.refl I.hok
theorem Inv.kept {t':Nat}(I:Inv X pins σ H s)(k:∀ b u,s.heap.get? b=some u->h'.get? b=some u):Inv X pins σ H { s with heap:=h',toks:=t' }:=I.un (Un.kept k) (I.hok.kept k)
theorem Inv.laid {a:Addr}{o:HO}{t':Nat}(I:Inv X pins σ H s)(k:∀ b u,s.heap.get? b=some u->h'.get? b=some u)(hp:s.heap.objs.size<=a)(new:zX X.prog X.w (upd H a o) h' a o) :
  Inv X pins σ (upd H a o) { s with heap:=h',toks:=t' }:=I.un (Un.laid k hp (I.hok.fresh hp)) (I.hok.laid k hp new)
theorem Inv.write {x e:Addr}{o:HO}{t':Nat}(I:Inv X pins σ H s)(mu:Mut (H x))(he:e=x \/ H e=some (.own x))(k:∀ b u,b ≠ e->s.heap.get? b=some u->h'.get? b=some u)(heo:∃ u,h'.get? e=some u)
  (new:zX X.prog X.w (upd H x o) h' x o):Inv X pins σ (upd H x o) { s with heap:=h',toks:=t' }:=I.un (Un.write mu he k heo) (I.hok.write mu he k heo new)
theorem Inv.pins_of {pins':List (Addr × Obj)}(I:Inv X pins σ H s)(h:∀ p ∈ pins',s.heap.get? p.1=some p.2/\H p.1=none/\p.1 ≠ X.env.locals/\p.1 ∉ X.fs/\∀ v,p.2.data ≠ .cell v):Inv X pins' σ H s:=
 ⟨I.ok,I.os,I.bare,I.base,I.loc,I.cell,I.free,I.freeC,fun p hp=>(List.mem_append.mp hp).elim (fun z=>I.pin p (List.mem_append_left _ z)) (h p),I.hok,I.len⟩
theorem J3 {N:List Str}(hN:N.Nodup){i j:Nat}{x:Str}(a:N[i]?=some x)(b:N[j]?=some x):i=j:=by
 obtain ⟨h1,e1⟩:=List.getElem?_eq_some_iff.mp a
 obtain ⟨h2,e2⟩:=List.getElem?_eq_some_iff.mp b
 exact (List.getElem_inj hN).mp (e1.trans e2.symm)
theorem wR {M : Model}{A : Around}{E : Value -> Shared -> Prop}{i : Nat}{x : Str}{v : V}{u : Value}{Q : Unit -> Shared -> Prop}(I : Inv X pins σ H s)(hN : X.N.Nodup)(hi : X.N[i]? = some x)(hx : Loc X.env.scope x)(r : zH v u)
    (h:∀ s',Inv X pins (σ.set i (some v)) H s'->(∃ a,Heap.SameBut a s.heap s'.heap/\(a=X.env.locals \/ X.env.cells.lookup x=some a))->Q () s') (hf:X.fn x=true \/ X.env.scope.names.lookup x=some .local:=by first | exact .inl rfl | exact .inr rfl | assumption):wpAny M A (storeName X.env x u) Q E s:=by
  obtain ⟨m,hn,hl⟩:=id I.loc
  have hcls:(X.env.scope.kind == .class || (X.env.scope.kind == .module && X.env.locals != X.env.globals))=false:=by rw [I.ok.kind];rfl
  have hiσ:i<σ.length:=by rw [I.len];exact (List.getElem?_eq_some_iff.mp hi).1
  have cne:=I.cne
  have tracked:∀ {a:Addr} {h':Heap},(∃ o,s.heap.get? a=some o/\H a=none)->Heap.SameBut a s.heap h'->HOk X.prog X.w H h':=fun {a h'} ha hs b ob e=>by
    obtain ⟨_,_,hfree⟩:=ha
    refine (I.hok b ob e).stay (fun c w' hc q=>(hs.2 c ?_).trans q) (fun _ q=>q) fun _ _ q=>q
    rintro rfl
    rcases hc with rfl | hc
    · rw [hfree] at e;cases e
    · rw [hfree] at hc;cases hc
  rcases hx with hk | hk
  · refine wpAny_storeName_local hk hn (fun h' hn' hs=>?_) hcls
    obtain ⟨oL,_,_,hoL,_⟩:=id hn
    refine h _ ⟨I.ok,I.os,I.bare,⟨fun b o e n hb hx=>?_,fun b o e n hb hx=>?_,I.base.free,fun b o e hx=>?_,I.base.tups,I.base.frzs,I.base.tbls⟩,⟨_,hn',fun j y v' e1 e2 e3=>?_⟩,fun y c e=>?_,I.free,I.freeC,fun p hp=>?_,tracked ⟨oL,hoL,I.free⟩ hs,by simpa using I.len⟩ ⟨_,hs,.inl rfl⟩
    · exact (hs.2 b (Nat.ne_of_lt (Nat.lt_of_lt_of_le (Heap.lt_size e) I.ok.above))).trans (I.base.keep b o e n hb hx)
    · obtain ⟨sl,e1⟩:=I.base.slot b o e n hb hx
      exact ⟨sl,(hs.2 b (Nat.ne_of_lt (Nat.lt_of_lt_of_le (Heap.lt_size e) I.ok.above))).trans e1⟩
    · obtain ⟨o',e1⟩:=I.base.there b o e hx
      exact ⟨o',(hs.2 b (Nat.ne_of_lt (Nat.lt_of_lt_of_le (Heap.lt_size e) I.ok.above))).trans e1⟩
    · by_cases hj:j=i
      · subst hj
        rw [hi] at e1;cases e1
        rw [List.getElem?_set_self hiσ] at e2
        cases e2
        exact ⟨u,r,.inl ⟨hk,by simp⟩⟩
      · rw [List.getElem?_set_ne (Ne.symm hj)] at e2
        obtain ⟨u',r',q⟩:=hl j y v' e1 e2 e3
        refine ⟨u',r',?_⟩
        rcases q with ⟨k,e⟩ | ⟨k,c,e,z⟩
        · refine .inl ⟨k,?_⟩
          have:y ≠ x:=fun e=>hj (J3 hN e1 (e ▸ hi))
          simp [this,e]
        · exact .inr ⟨k,c,e,z.sameBut hs (cne y c e)⟩
    · obtain ⟨w',z⟩:=I.cell y c e
      exact ⟨w',z.sameBut hs (cne y c e)⟩
    · obtain ⟨e,n,ne,nf,d⟩:=I.pin p hp
      exact ⟨(hs.2 p.1 ne).trans e,n,ne,nf,d⟩
  · have hfn : X.fn x = true := by
      rcases hf with z | z
      · exact z
      · rw [z] at hk;cases hk
    obtain ⟨c,hc⟩:=I.ok.has x (.inl hk)
    obtain ⟨w',z⟩:=I.cell x c hc
    refine wpAny_storeName_cell I.ok.kind hk hc z (fun h' hc' hs=>?_)
    obtain ⟨oc,hoc,hocd⟩:=id z
    refine h { s with heap:=h' } ⟨I.ok,I.os,I.bare,⟨fun b o e n hb hx=>?_,fun b o e n hb hx=>?_,I.base.free,fun b o e hx=>?_,I.base.tups,I.base.frzs,I.base.tbls⟩,⟨m,hn.sameBut hs (Ne.symm (cne x c hc)),fun j y v' e1 e2 e3=>?_⟩,fun y c' e=>?_,I.free,I.freeC,fun p hp=>?_,tracked ⟨oc,hoc,I.freeC x c hc⟩ hs,by simpa using I.len⟩ ⟨c,hs,.inr hc⟩
    · exact (hs.2 b (Nat.ne_of_lt (Nat.lt_of_lt_of_le (Heap.lt_size e) (I.ok.cab x c hfn hc)))).trans (I.base.keep b o e n hb hx)
    · obtain ⟨sl,e1⟩:=I.base.slot b o e n hb hx
      exact ⟨sl,(hs.2 b (Nat.ne_of_lt (Nat.lt_of_lt_of_le (Heap.lt_size e) (I.ok.cab x c hfn hc)))).trans e1⟩
    · obtain ⟨o',e1⟩:=I.base.there b o e hx
      exact ⟨o',(hs.2 b (Nat.ne_of_lt (Nat.lt_of_lt_of_le (Heap.lt_size e) (I.ok.cab x c hfn hc)))).trans e1⟩
    · by_cases hj:j=i
      · subst hj
        rw [hi] at e1;cases e1
        rw [List.getElem?_set_self hiσ] at e2
        cases e2
        exact ⟨u,r,.inr ⟨.inl hk,c,hc,hc'⟩⟩
      · rw [List.getElem?_set_ne (Ne.symm hj)] at e2
        obtain ⟨u',r',q⟩:=hl j y v' e1 e2 e3
        refine ⟨u',r',?_⟩
        rcases q with q | ⟨k,c',e,z'⟩
        · exact .inl q
        · refine .inr ⟨k,c',e,z'.sameBut hs ?_⟩
          rintro rfl
          exact hj (J3 hN e1 (I.ok.inj _ _ _ e hc ▸ hi))
    · by_cases hcc:c'=c
      · subst hcc;exact ⟨_,hc'⟩
      · obtain ⟨w2,z2⟩:=I.cell y c' e
        exact ⟨w2,z2.sameBut hs hcc⟩
    · obtain ⟨e,n,ne,nf,d⟩:=I.pin p hp
      refine ⟨(hs.2 p.1 ?_).trans e,n,ne,nf,d⟩
      intro q
      rw [q,hoc] at e
      have q':oc=p.2:=Option.some.inj e
      exact d w' (by rw [<- q'];exact hocd)
theorem kP {M:Model}{A:Around}{E:Value->Shared->Prop}{i:Nat}{x:Str}{v:V}{u:Value}{Q:Unit->Shared->Prop}(I:Inv X pins σ H s)(hN:X.N.Nodup)(hi:X.N[i]?=some x)(hx:Loc X.env.scope x)(r:zH v u)
  (h:∀ s',Inv X pins (σ.set i (some v)) H s'->Q () s') (hf:X.fn x=true \/ X.env.scope.names.lookup x=some .local:=by first | exact .inl rfl | exact .inr rfl | assumption):wpAny M A (storeName X.env x u) Q E s:=
 wR I hN hi hx r (fun s' I' _=>h s' I') hf
theorem Inv.call' {s':Shared}{ch:List Addr}(I:Inv X pins σ H s)(ho:s'.os=s.os)(u:Un (frs X.stack) ch H H' s.heap s'.heap)(hok:HOk X.prog X.w H' s'.heap)(hg:AllBare s'.gens)
  (hch:∀ b ∈ ch,(b ∈ X.ex \/ X.s₀.heap.objs.size<=b)/\b ≠ X.env.locals/\(∀ x c,X.env.cells.lookup x=some c->c ≠ b)/\∀ p ∈ X.pn ++ pins,p.1 ≠ b):Inv X pins σ H' s':=by
 obtain ⟨h',g',d',t',o'⟩:=s'
 have e:o'=s.os:=ho
 subst e
 exact I.call (g':=g') (t':=t') (d':=d') u hok hg hch
end
noncomputable abbrev XK:=Value->Option Addr->Hp->Prop
noncomputable abbrev St:=List (Option V)
noncomputable abbrev VK:=V->Hp->Prop
noncomputable abbrev TE:=St->Hp->VK->Prop
noncomputable abbrev TT:=St->Hp->(Bool->Hp->Prop)->Prop
noncomputable abbrev TA:=St->Hp->(List V->Hp->Prop)->Prop
structure kq where
 nx:St->Hp->Prop
 rt:VK
 bk:St->Hp->Prop:=fun _ _=>False
 ct:St->Hp->Prop:=fun _ _=>False
noncomputable abbrev TS:=kq->St->Hp->Prop
noncomputable def EP (X:Cx)(pins:List (Addr × Obj))(σ:St)(Q:VK)(u:Value)(s':Shared):Prop:=∃ v H',Inv X pins σ H' s'/\zH v u/\Q v H'
noncomputable def TP (X:Cx)(pins:List (Addr × Obj))(σ:St)(Q:Bool->Hp->Prop)(b:Bool)(s':Shared):Prop:=∃ H',Inv X pins σ H' s'/\Q b H'
noncomputable def AP (X:Cx)(pins:List (Addr × Obj))(σ:St)(Q:List V->Hp->Prop)(us:List Value)(s':Shared):Prop:=∃ vs H',Inv X pins σ H' s'/\zE vs us/\Q vs H'
noncomputable def SP (X:Cx)(pins:List (Addr × Obj))(D:kq)(f:Flow)(s':Shared):Prop:=
 match f with
 | .next=>∃ σ' H',Inv X pins σ' H' s'/\D.nx σ' H'
 | .brk=>∃ σ' H',Inv X pins σ' H' s'/\D.bk σ' H'
 | .cont=>∃ σ' H',Inv X pins σ' H' s'/\D.ct σ' H'
 | .ret u=>∃ v σ' H',Inv X pins σ' H' s'/\zH v u/\D.rt v H'
noncomputable def PE (X:Cx)(e:Expr)(t:TE):Prop:=
 ∀ (pins:List (Addr × Obj)) (s:Shared) (σ:St) (H:Hp) (Q:VK),Inv X pins σ H s->t σ H Q->wpAny (model X.prog X.w) X.A (eval e X.env) (EP X pins σ Q) X.xe s
noncomputable def PT (X:Cx)(e:Expr)(t:TT):Prop:=
 ∀ (pins:List (Addr × Obj)) (s:Shared) (σ:St) (H:Hp) (Q:Bool->Hp->Prop),Inv X pins σ H s->t σ H Q->wpAny (model X.prog X.w) X.A (isTrue e X.env (eval e X.env)) (TP X pins σ Q) X.xe s
noncomputable def PW (X:Cx)(e:Expr)(t:TT):Prop:=
 ∀ (whole:Sem Value) (pins:List (Addr × Obj)) (s:Shared) (σ:St) (H:Hp) (Q:Bool->Hp->Prop),Inv X pins σ H s->t σ H Q->wpAny (model X.prog X.w) X.A (isTrue e X.env whole) (TP X pins σ Q) X.xe s
theorem PW.pt {X:Cx}{e:Expr}{t:TT}(h:PW X e t):PT X e t:=h _
noncomputable def PA (X:Cx)(es:List Expr)(t:TA):Prop:=
 ∀ (pos:Pos) (pins:List (Addr × Obj)) (s:Shared) (σ:St) (H:Hp) (Q:List V->Hp->Prop),Inv X pins σ H s->t σ H Q->wpAny (model X.prog X.w) X.A (spliced (backTo pos (starEach es X.env))) (AP X pins σ Q) X.xe s
noncomputable def PS (X:Cx)(st:Stmt)(t:TS):Prop:=
 ∀ (pins:List (Addr × Obj)) (s:Shared) (σ:St) (H:Hp) (D:kq),Inv X pins σ H s->t D σ H->wpAny (model X.prog X.w) X.A (exec st X.env) (SP X pins D) X.xe s
noncomputable def PSs (X:Cx)(st:List Stmt)(t:TS):Prop:=
 ∀ (pins:List (Addr × Obj)) (s:Shared) (σ:St) (H:Hp) (D:kq),Inv X pins σ H s->t D σ H->wpAny (model X.prog X.w) X.A (execs st X.env) (SP X pins D) X.xe s
theorem thn {α:Type}{t:Sem α}{Q Q':α->Shared->Prop}{M:Model}{A:Around}{E:Value->Shared->Prop}{s:Shared}(h:wpAny M A t Q E s)(hQ:∀ a s,Q a s->Q' a s):wpAny M A t Q' E s:=wpAny_mono h hQ fun _ _ x=>x
section
variable {X:Cx}
theorem bin {a b:Expr}{ta tb:TE}(ha:PE X a ta)(hb:PE X b tb){pins:List (Addr × Obj)}{s:Shared}{σ:St}{H:Hp}{R:V->V->Hp->Prop}(I:Inv X pins σ H s)(h:ta σ H fun x H1=>tb σ H1 fun y H2=>R x y H2)
  {α:Type} {Q:α->Shared->Prop} {f:Value->Value->Sem α}
  (hf:∀ v u s2 x y H2,Inv X pins σ H2 s2->zH x v->zH y u->R x y H2->wpAny (model X.prog X.w) X.A (f v u) Q X.xe s2) :
  wpAny (model X.prog X.w) X.A (eval a X.env) (fun v s₁=>wpAny (model X.prog X.w) X.A (eval b X.env) (fun u s₂=>wpAny (model X.prog X.w) X.A (f v u) Q X.xe s₂) X.xe s₁) X.xe s:=by
 refine thn (ha pins s σ H _ I h) fun v s1 ⟨x,H1,I1,r1,q1⟩=>?_
 refine thn (hb pins s1 σ H1 _ I1 q1) fun u s2 ⟨y,H2,I2,r2,q2⟩=>?_
 exact hf v u s2 x y H2 I2 r1 r2 q2
noncomputable def Qg (i:Nat):TE:=fun σ H Q=>∃ v,σ[i]?=some (some v)/\Q v H
noncomputable def tC (v:V):TE:=fun _ H Q=>Q v H
theorem GY {i:Nat}{x:Str}{pos:Pos}(hN:X.N[i]?=some x)(hv:Vis X.env.scope x)(hd:(x == ("__debug__":Str))=false:=by decide)(hcd:(x == ("__classdict__":Str))=false:=by decide):PE X (.Name x pos) (Qg i):=by
 intro pins s σ H Q I h
 obtain ⟨v,e,h⟩:=h
 obtain ⟨m,hn,hl⟩:=I.loc
 obtain ⟨u,r,l⟩:=hl i x v hN e hv
 have fin:EP X pins σ Q u s:=⟨v,H,I,r,h⟩
 rcases l with ⟨hk,hm⟩ | ⟨hk,c,hc,hcell⟩
 ·exact wpAny_Name (wpAny_loadName_local I.ok.kind hk hn hm fin) hd
 ·rcases hk with hk | hk
  ·exact wpAny_Name (wpAny_loadName_cell I.ok.kind hk hc hcell fin) hd
  ·exact wpAny_Name (wpAny_loadName_free I.ok.kind hk hc hcell fin hcd) hd
theorem zg {i j pos}:PE X (.Constant (.int i) j pos) (tC (.int i)):=fun _ _ _ H _ I h=>wpAny_Constant_int ⟨.int i,H,I.tok _,⟨_,rfl⟩,h⟩
theorem qI {b j pos}:PE X (.Constant (.bool b) j pos) (tC (.bl b)):=fun _ _ _ H _ I h=>Constant_bool ⟨.bl b,H,I,rfl,h⟩
theorem kK {x j pos}:PE X (.Constant (.str x) j pos) (tC (.str x)):=fun _ _ _ H _ I h=>Calls.Constant_str ⟨.str x,H,I.tok _,⟨_,rfl⟩,h⟩
noncomputable def Gl (X:Cx)(x:Str):Prop:=X.env.kindOf x=some .globalImplicit
theorem ZI {E:Value->Shared->Prop}{pins:List (Addr × Obj)}{s:Shared}{σ:St}{H:Hp}{x:Str}{u:Value}{pos:Pos}{Q:Value->Shared->Prop}(I:Inv X pins σ H s)(hg:Gl X x)(hm:X.mg x=some u)(h:Q u s)
  (hd:(x == ("__debug__":Str))=false:=by decide):wpAny (model X.prog X.w) X.A (eval (.Name x pos) X.env) Q E s:=
 Calls.Name_function_global I.ok.kind hg (Calls.loadGlobal_global (by rw [I.ok.glob];exact I.mod.glob.keeps I.bk) hm h) hd
theorem kL {E:Value->Shared->Prop}{pins:List (Addr × Obj)}{s:Shared}{σ:St}{H:Hp}{x:Str}{u:Value}{pos:Pos}{Q:Value->Shared->Prop}(I:Inv X pins σ H s)(hg:Gl X x)(hm:X.mg x=none)(hv:bootBuiltins x=some u)(h:Q u s)
  (hn:x ≠ "__name__":=by decide) (hd:(x == ("__debug__":Str))=false:=by decide):wpAny (model X.prog X.w) X.A (eval (.Name x pos) X.env) Q E s:=by
 obtain ⟨mb,h1,h2⟩:=I.mod.blt
 exact Calls.Name_function_global I.ok.kind hg (Calls.loadGlobal_builtin (by rw [I.ok.glob];exact I.mod.glob.keeps I.bk) hm (by rw [I.ok.blt];exact h1.keeps I.bk) ((h2 x hn).trans hv) h) hd
theorem xl {x:Str}{v:V}{u:Value}{pos:Pos}(hg:Gl X x)(hm:X.mg x=none)(hv:bootBuiltins x=some u)(r:zH v u)(hn:x ≠ "__name__":=by decide)(hd:(x == ("__debug__":Str))=false:=by decide):PE X (.Name x pos) (tC v):=
 fun _ _ _ H _ I h=>kL I hg hm hv ⟨v,H,I,r,h⟩ hn hd
variable {a b:Expr}{ta tb:TE}{pos:Pos}
noncomputable def PC (X:Cx)(op:CmpOp)(a b:Expr)(t:TE):Prop:=
 ∀ (pins:List (Addr × Obj)) (s:Shared) (σ:St) (H:Hp) (Q:VK),Inv X pins σ H s->t σ H Q ->
  wpAny (model X.prog X.w) X.A (eval a X.env) (fun v s₁=>wpAny (model X.prog X.w) X.A (eval b X.env) (fun u s₂=>wpAny (model X.prog X.w) X.A (compareOp op v u) (EP X pins σ Q) X.xe s₂) X.xe s₁) X.xe s
theorem AU (b:Expr){op:CmpOp}(h:op ≠ .In)(h2:op ≠ .NotIn):behindInMarks op b=false:=by
 have e1:(op == CmpOp.In)=false:=by cases op <;> first | rfl | exact absurd rfl h
 have e2:(op == CmpOp.NotIn)=false:=by cases op <;> first | rfl | exact absurd rfl h2
 cases b <;> simp [behindInMarks,e1,e2]
noncomputable def tB (t:TE):TT:=fun σ H Q=>t σ H fun x H1=>∃ c,x=.bl c/\Q c H1
theorem LG {op:CmpOp}{t:TE}(h:PC X op a b t)(h1:behindInMarks op b=false:=by first | exact AU _ (by decide) (by decide) | rfl):PT X (.Compare a [op] [b] pos) (tB t):=by
 intro pins s σ H Q I hw
 refine wpAny_isTrue_Compare1 (thn (h pins s σ H _ I hw) fun v s1 h1=>thn h1 fun u s2 h2=>thn h2 fun c s3 ⟨x,H1,I1,r1,q1⟩=>?_) h1
 obtain ⟨d,rfl,q⟩:=q1
 cases r1
 exact wpAny_truthy_bool ⟨H1,I1,q⟩
theorem qE {e:Expr}{t:TE}(h:PE X e t)(he:∀ whole,isTrue e X.env whole=(do let v <- whole;standAt e.pos;holding [v] (truthy v)):=by intro _;rfl):PT X e (tB t):=by
 intro pins s σ H Q I hw
 refine isTrue_plain (thn (h pins s σ H _ I hw) fun v s1 ⟨x,H1,I1,r1,q1⟩=>?_) (he _)
 obtain ⟨d,rfl,q⟩:=q1
 cases r1
 exact wpAny_truthy_bool ⟨H1,I1,q⟩
variable {tA tB':TT}{zF:List Expr}
noncomputable def F8 (t u:TT):TT:=fun σ H Q=>t σ H fun c H1=>if c=true then u σ H1 Q else Q false H1
noncomputable def tOr (t u:TT):TT:=fun σ H Q=>t σ H fun c H1=>if c=true then Q true H1 else u σ H1 Q
noncomputable def HL (t:TT):TT:=fun σ H Q=>t σ H fun c H1=>Q (!c) H1
theorem Qi (ha:PT X a tA):PW X (.BoolOp .And [a] pos) tA:=by
 intro wh pins s σ H Q I h
 refine isTrue_and (thn (ha pins s σ H Q I h) fun c s1 e=>?_)
 cases c with
 | true=>exact isTrue_and_nil e
 | false=>exact e
theorem j4 (ha:PT X a tA):PW X (.BoolOp .Or [a] pos) tA:=by
 intro wh pins s σ H Q I h
 refine isTrue_or (thn (ha pins s σ H Q I h) fun c s1 e=>?_)
 cases c with
 | false=>exact isTrue_or_nil e
 | true=>exact e
theorem Kj (ha:PT X a tA)(hb:PW X (.BoolOp .And (b :: zF) pos) tB'):PW X (.BoolOp .And (a :: b :: zF) pos) (F8 tA tB'):=by
 intro wh pins s σ H Q I h
 refine isTrue_and (thn (ha pins s σ H _ I h) fun c s1 ⟨H1,I1,q1⟩=>?_)
 cases c with
 | true=>exact hb wh pins s1 σ H1 Q I1 q1
 | false=>exact ⟨H1,I1,q1⟩
theorem yc (ha:PT X a tA)(hb:PW X (.BoolOp .Or (b :: zF) pos) tB'):PW X (.BoolOp .Or (a :: b :: zF) pos) (tOr tA tB'):=by
 intro wh pins s σ H Q I h
 refine isTrue_or (thn (ha pins s σ H _ I h) fun c s1 ⟨H1,I1,q1⟩=>?_)
 cases c with
 | true=>exact ⟨H1,I1,q1⟩
 | false=>exact hb wh pins s1 σ H1 Q I1 q1
theorem jN (ha:PT X a tA):PT X (.UnaryOp .Not a pos) (HL tA):=by
 intro pins s σ H Q I h
 exact isTrue_not (ha pins s σ H (fun c H1=>Q (!c) H1) I h)
noncomputable def AR (ta tb:TE):TE:=fun σ H Q=>ta σ H fun x H1=>∃ c,x=.bl c/\if c=true then tb σ H1 Q else Q (.bl false) H1
theorem Ih {op}{t:TE}(h:PE X a t):PE X (.BoolOp op [a] pos) t:=fun pins s σ H Q I hw=>BoolOp_one (h pins s σ H Q I hw)
theorem Gu (ha:PE X a ta)(hb:PE X (.BoolOp .And (b :: zF) pos) tb):PE X (.BoolOp .And (a :: b :: zF) pos) (AR ta tb):=by
 intro pins s σ H Q I h
 refine BoolOp_and (thn (ha pins s σ H _ I h) fun v s1 ⟨x,H1,I1,r1,q1⟩=>?_)
 obtain ⟨c,rfl,q1⟩:=q1
 cases r1
 refine wpAny_truthy_bool ?_
 cases c with
 | true=>exact hb pins s1 σ H1 Q I1 q1
 | false=>exact ⟨.bl false,H1,I1,rfl,q1⟩
noncomputable def tIf (t:TT)(ta tb:TE):TE:=fun σ H Q=>t σ H fun c H1=>if c=true then ta σ H1 Q else tb σ H1 Q
theorem AJ {c:Expr}(hc:PT X c tA)(ha:PE X a ta)(hb:PE X b tb):PE X (.IfExp c a b pos) (tIf tA ta tb):=by
 intro pins s σ H Q I h
 refine wpAny_IfExp (thn (hc pins s σ H _ I h) fun d s1 ⟨H1,I1,q1⟩=>?_)
 cases d with
 | true=>exact ha pins s1 σ H1 Q I1 q1
 | false=>exact hb pins s1 σ H1 Q I1 q1
end
noncomputable def SqL (K:PySem.W.Frag)(H:Hp)(a:Addr)(xs:List V):Prop:=
 Rd H a (.lst xs) \/
  ∃ (o:Obj) (its:Array Value) (n:Nat),K.lookup a=some o/\o.cls=.type "list"/\o.dict=none/\o.data=.seq its n/\its.size<=sizeLine/\zE xs its.toList
noncomputable def SqT (K:PySem.W.Frag)(H:Hp)(a:Addr)(xs:List V):Prop:=
 Rd H a (.tup xs) \/
  ∃ (o:Obj) (its:Array Value) (n:Nat),K.lookup a=some o/\o.cls=.type "tuple"/\o.data=.seq its n/\its.size<=sizeLine/\zE xs its.toList
noncomputable def Lu:Value->Option V
 | .none=>some .non
 | .bool b=>some (.bl b)
 | .int i _=>some (.int i)
 | .str x _=>some (.str x)
 | .bytes b _=>some (.byt b)
 | .float b _=>some (.flt b)
 | .ref a=>some (.ref a)
 | .type n=>some (.ty n)
 | _=>none
theorem zH.abs {x:V}{u:Value}(r:zH x u):Lu u=some x:=by
 cases x with
 | non=>cases r;rfl
 | bl _=>cases r;rfl
 | int _=>obtain ⟨t,rfl⟩:=r;rfl
 | str _=>obtain ⟨t,rfl⟩:=r;rfl
 | byt _=>obtain ⟨t,rfl⟩:=r;rfl
 | flt _=>obtain ⟨t,rfl⟩:=r;rfl
 | ref _=>cases r;rfl
 | ty _=>cases r;rfl
theorem zH.inj {x y:V}{u:Value}(r:zH x u)(q:zH y u):x=y:=Option.some.inj (r.abs.symm.trans q.abs)
theorem zE.inj:∀ {xs ys:List V} {us:List Value},zE xs us->zE ys us->xs=ys
 | _,_,_,.nil,.nil=>rfl
 | _,_,_,.cons r t,.cons r' t'=>by rw [r.inj r',zE.inj t t']
section
variable {X:Cx}{pins:List (Addr × Obj)}{σ:St}{H:Hp}{s:Shared}{a:Addr}{xs ys:List V}
theorem SqL.of {K:PySem.W.Frag}(h:H a=some (.lst xs)):SqL K H a xs:=.inl (.inl h)
theorem SqT.of {K:PySem.W.Frag}(h:H a=some (.tup xs)):SqT K H a xs:=.inl (.inl h)
theorem Inv.list (I:Inv X pins σ H s)(h:SqL X.K H a xs):∃ its:List Value,zE xs its/\PlainL s.heap a its.toArray/\xs.length<=sizeLine:=by
 rcases h with h | ⟨o,its,n,hk,hc,hd,hs,hz,r⟩
 ·obtain ⟨z,its,n,r,e⟩:=h.ok I.hok
  exact ⟨its,r,⟨_,n,e,rfl,rfl,rfl⟩,z⟩
 ·refine ⟨its.toList,r,⟨o,n,I.kIn a o hk,hc,hd,by simpa using hs⟩,?_⟩
  have e:=r.length
  simp only [Array.length_toList] at e
  walk_at "o"
theorem Inv.tuple (I:Inv X pins σ H s)(h:SqT X.K H a xs):∃ its:List Value,zE xs its/\IsTup s.heap a its.toArray/\xs.length<=sizeLine:=by
 rcases h with h | ⟨o,its,n,hk,hc,hs,hz,r⟩
 ·obtain ⟨z,its,r,p⟩:=h.ok I.hok
  exact ⟨its,r,p.is,z⟩
 ·refine ⟨its.toList,r,⟨o,I.kIn a o hk,hc,n,by simpa using hs⟩,?_⟩
  have e:=r.length
  simp only [Array.length_toList] at e
  walk_at "o"
theorem Inv.list_inj (I:Inv X pins σ H s)(h:SqL X.K H a xs)(h':SqL X.K H a ys):xs=ys:=by
 obtain ⟨its,r,⟨o,n,e,_,_,d⟩,_⟩:=I.list h
 obtain ⟨its',r',⟨o',n',e',_,_,d'⟩,_⟩:=I.list h'
 rw [e] at e';cases e'
 rw [d] at d'
 injection d' with d1 _
 have:its=its':=by simpa using congrArg Array.toList d1
 subst this
 exact r.inj r'
theorem Inv.tuple_inj (I:Inv X pins σ H s)(h:SqT X.K H a xs)(h':SqT X.K H a ys):xs=ys:=by
 obtain ⟨its,r,⟨o,e,_,n,d⟩,_⟩:=I.tuple h
 obtain ⟨its',r',⟨o',e',_,n',d'⟩,_⟩:=I.tuple h'
 rw [e] at e';cases e'
 rw [d] at d'
 injection d' with d1 _
 have:its=its':=by simpa using congrArg Array.toList d1
 subst this
 exact r.inj r'
end
noncomputable abbrev Cx.wish (X:Cx)(E:Value->Shared->Prop):Cx:={ X with xe:=E }
noncomputable abbrev Cx.nox (X:Cx):Cx:=X.wish fun _ _=>False
theorem Cx.Ok.wish {X:Cx}(ok:X.Ok)(E:Value->Shared->Prop):(X.wish E).Ok:=
 ⟨ok.mod,ok.kind,ok.glob,ok.blt,ok.above,ok.inj,ok.has,ok.cab,ok.hd,ok.frames,ok.stk,ok.exf,ok.bs,ok.bsz,ok.noex,ok.exfs,ok.funs,ok.frf⟩
theorem Cx.Ok.unwish {X:Cx}{E:Value->Shared->Prop}(ok:(X.wish E).Ok):X.Ok:=
 ⟨ok.mod,ok.kind,ok.glob,ok.blt,ok.above,ok.inj,ok.has,ok.cab,ok.hd,ok.frames,ok.stk,ok.exf,ok.bs,ok.bsz,ok.noex,ok.exfs,ok.funs,ok.frf⟩
section
variable {X:Cx}{pins:List (Addr × Obj)}{σ:St}{H:Hp}{s:Shared}{E:Value->Shared->Prop}
theorem Inv.wish (I:Inv X pins σ H s)(E:Value->Shared->Prop):Inv (X.wish E) pins σ H s:=⟨I.ok.wish E,I.os,I.bare,I.base,I.loc,I.cell,I.free,I.freeC,I.pin,I.hok,I.len⟩
theorem Inv.unwish (I:Inv (X.wish E) pins σ H s):Inv X pins σ H s:=⟨I.ok.unwish,I.os,I.bare,I.base,I.loc,I.cell,I.free,I.freeC,I.pin,I.hok,I.len⟩
theorem SP.unwish {D:kq}{f:Flow}{s':Shared}(h:SP (X.wish E) pins D f s'):SP X pins D f s':=by
 cases f with
 | next=>obtain ⟨σ',H',I,q⟩:=h;exact ⟨σ',H',I.unwish,q⟩
 | brk=>obtain ⟨σ',H',I,q⟩:=h;exact ⟨σ',H',I.unwish,q⟩
 | cont=>obtain ⟨σ',H',I,q⟩:=h;exact ⟨σ',H',I.unwish,q⟩
 | ret u=>obtain ⟨v,σ',H',I,r,q⟩:=h;exact ⟨v,σ',H',I.unwish,r,q⟩
theorem PSs.nox {st:List Stmt}{t:TS}(h:PSs X.nox st t):PSs X st t:=fun pins s σ H D I hw=>
 wpAny_mono (h pins s σ H D (I.wish _) hw) (fun _ _ q=>q.unwish) fun _ _ z=>False.elim z
end
section
variable {X:Cx}{st:Stmt}{zF:List Stmt}{t u:TS}{e:Expr}{te:TE}{pos:Pos}
noncomputable def Dg:TS:=fun D σ H=>D.nx σ H
noncomputable def DY (t u:TS):TS:=fun D σ H=>t { D with nx:=u D } σ H
theorem zG:PSs X [] Dg:=fun _ _ σ H _ I h=>wpAny_execs_nil ⟨σ,H,I,h⟩
theorem zc (h1:PS X st t)(h2:PSs X zF u):PSs X (st :: zF) (DY t u):=by
 intro pins s σ H D I h
 refine wpAny_execs_cons (thn (h1 pins s σ H { D with nx:=u D } I h) fun f s1 q=>?_)
 cases f with
 | next=>
  obtain ⟨σ',H',I',q⟩:=q
  exact h2 pins s1 σ' H' D I' q
 | ret v=>exact q
 | brk=>exact q
 | cont=>exact q
theorem ze (h1:PS X st t):PSs X [st] t:=by
 intro pins s σ H D I h
 refine wpAny_execs_cons (thn (h1 pins s σ H D I h) fun f s1 q=>?_)
 cases f with
 | next=>exact wpAny_execs_nil q
 | ret v=>exact q
 | brk=>exact q
 | cont=>exact q
theorem Inv.quiet {pins:List (Addr × Obj)}{σ:St}{H:Hp}{s:Shared}(I:Inv X pins σ H s):interactive X.env=false:=by simp [interactive,I.ok.kind]
noncomputable def Yt (te:TE):TS:=fun D σ H=>te σ H fun _ H1=>D.nx σ H1
theorem qC (he:PE X e te)(hs:swapsWith e none pos.line X.env=pure false:=by rfl):PS X (.Expr e pos) (Yt te):=by
 intro pins s σ H D I h
 exact wpAny_Expr_any (thn (he pins s σ H _ I h) fun v s1 ⟨x,H1,I1,r1,q1⟩=>⟨σ,H1,I1,q1⟩) I.quiet hs
noncomputable def HE (te:TE):TS:=fun D σ H=>te σ H D.rt
theorem zx (he:PE X e te):PS X (.Return (some e) pos) (HE te):=by
 intro pins s σ H D I h
 exact wpAny_Return_some (thn (he pins s σ H _ I h) fun v s1 ⟨x,H1,I1,r1,q1⟩=>⟨x,σ,H1,I1,r1,q1⟩)
noncomputable def E3 (c:TT)(t u:TS):TS:=fun D σ H=>c σ H fun b H1=>if b=true then t D σ H1 else u D σ H1
theorem qg {c:Expr}{a b:List Stmt}{tc:TT}(hc:PT X c tc)(ha:PSs X a t)(hb:PSs X b u):PS X (.If c a b pos) (E3 tc t u):=by
 intro pins s σ H D I h
 refine wpAny_If (thn (hc pins s σ H _ I h) fun d s1 ⟨H1,I1,q1⟩=>?_)
 cases d with
 | true=>exact ha pins s1 σ H1 D I1 q1
 | false=>exact hb pins s1 σ H1 D I1 q1
noncomputable def Xh:TS:=fun _ _ _=>False
theorem B2:PS X st Xh:=fun _ _ _ _ _ _ h=>h.elim
end
noncomputable abbrev TG:=V->St->Hp->(St->Hp->Prop)->Prop
noncomputable abbrev TGs:=List V->St->Hp->(St->Hp->Prop)->Prop
noncomputable def PG (X:Cx)(target:Expr)(t:TG):Prop:=
 ∀ (pins:List (Addr × Obj)) (s:Shared) (σ:St) (H:Hp) (v:V) (u:Value) (Q:St->Hp->Prop),Inv X pins σ H s->zH v u->t v σ H Q ->
  wpAny (model X.prog X.w) X.A (assign target X.env u) (fun _ s'=>∃ σ' H',Inv X pins σ' H' s'/\Q σ' H') X.xe s
noncomputable def PGs (X:Cx)(ts:List Expr)(t:TGs):Prop:=
 ∀ (pins:List (Addr × Obj)) (s:Shared) (σ:St) (H:Hp) (vs:List V) (us:List Value) (Q:St->Hp->Prop),Inv X pins σ H s->zE vs us->t vs σ H Q ->
  wpAny (model X.prog X.w) X.A (assignInOrder ((assignEach ts X.env).map (·.2)) us) (fun _ s'=>∃ σ' H',Inv X pins σ' H' s'/\Q σ' H') X.xe s
noncomputable abbrev BS:=V->V->V->Hp->(Hp->Prop)->Prop
noncomputable def Gf (X:Cx)(t:BS):Prop:=
 ∀ (pins:List (Addr × Obj)) (s:Shared) (σ:St) (H:Hp) (o i v:V) (ov iv u:Value) (Q:Hp->Prop),Inv X pins σ H s->zH o ov->zH i iv->zH v u->t o i v H Q ->
  wpAny (model X.prog X.w) X.A (setItem ov iv u) (fun _ s'=>∃ H',Inv X pins σ H' s'/\Q H') X.xe s
noncomputable abbrev TIp:=V->V->Hp->VK->Prop
noncomputable def PIp (X:Cx)(op:Operator)(t:TIp):Prop:=
 ∀ (pins:List (Addr × Obj)) (s:Shared) (σ:St) (H:Hp) (x y:V) (v u:Value) (Q:VK),Inv X pins σ H s->zH x v->zH y u->t x y H Q ->
  wpAny (model X.prog X.w) X.A (inplaceOp op v u) (EP X pins σ Q) X.xe s
section
variable {X:Cx}{pos:Pos}
noncomputable def Q2 (i:Nat):TG:=fun v σ H Q=>Q (σ.set i (some v)) H
theorem zy {i:Nat}{x:Str}(hN:X.N.Nodup)(hi:X.N[i]?=some x)(hx:Loc X.env.scope x)(hf:X.fn x=true \/ X.env.scope.names.lookup x=some .local:=by first | exact .inl rfl | exact .inr rfl | assumption):PG X (.Name x pos) (Q2 i):=by
 intro pins s σ H v u Q I r h
 exact wpAny_assign_Name (kP I hN hi hx r (fun s' I'=>⟨_,H,I',h⟩) hf)
noncomputable def GX:TGs:=fun vs σ H Q=>vs=[]/\Q σ H
noncomputable def BV (t:TG)(u:TGs):TGs:=fun vs σ H Q=>∃ v r,vs=v :: r/\t v σ H fun σ' H'=>u r σ' H' Q
theorem jE:PGs X [] GX:=by
 intro pins s σ H vs us Q I r h
 obtain ⟨e,h⟩:=h
 subst e
 cases r
 exact assignInOrder_nil ⟨σ,H,I,h⟩
theorem zZ {e:Expr}{es:List Expr}{t:TG}{u:TGs}(h1:PG X e t)(h2:PGs X es u)
  (hs:(assignEach (e :: es) X.env).map (·.2)=assign e X.env :: (assignEach es X.env).map (·.2):=by rfl):PGs X (e :: es) (BV t u):=by
 intro pins s σ H vs us Q I r h
 obtain ⟨v,vr,e1,h⟩:=h
 subst e1
 cases r with
 | cons r rr=>
  rw [hs]
  refine assignInOrder_cons (thn (h1 pins s σ H _ _ _ I r h) fun _ s1 ⟨σ1,H1,I1,q1⟩=>?_)
  exact h2 pins s1 σ1 H1 _ _ Q I1 rr q1
noncomputable def Ed (K:PySem.W.Frag)(n:Nat)(t:TGs):TG:=fun v σ H Q=>∃ a xs,v=.ref a/\SqT K H a xs/\xs.length=n/\t xs σ H Q
theorem GS {es:List Expr}{k:Nat}{t:TGs}{n:Nat}(hc:X.calm=true)(h:PGs X es t)
  (hn:(assignEach es X.env).length=n:=by rfl) (hst:(assignEach es X.env).findIdx? (·.1)=none:=by rfl):PG X (.Tuple es k pos) (Ed X.K n t):=by
 intro pins s σ H v u Q I r hw
 obtain ⟨a,xs,e1,hq,hl,hw⟩:=hw
 subst e1
 cases r
 obtain ⟨its,rv,ht,hz⟩:=I.tuple hq
 refine assign_Tuple_tuple (I.ok.hd hc) ht (by simp [hn,<- hl,rv.length]) hst fun h' hx=>?_
 have I1:Inv X pins σ H { s with heap:=h' }:=I.kept (t':=s.toks) fun b o e=>hx b o (Nat.ne_of_lt (Heap.lt_size e)) e
 exact h pins _ σ H xs _ Q I1 (by simpa using rv) hw
noncomputable def Iu (to ti:TE)(t:BS):TG:=fun v σ H Q=>to σ H fun o H1=>ti σ H1 fun i H2=>t o i v H2 fun H3=>Q σ H3
theorem qV {o i:Expr}{to ti:TE}{t:BS}(ho:PE X o to)(hi:PE X i ti)(hs:Gf X t)
  (ha:∀ v,assign (.Subscript o i pos) X.env v=(do
   let ov <- holding [v] (eval o X.env)
   let iv <- holding [v,ov] (eval i X.env)
   standAt pos
   holding [v,ov,iv] (setItem ov iv v)
   release [v,ov,iv] []):=by intro _;rfl):PG X (.Subscript o i pos) (Iu to ti t):=by
 intro pins s σ H v u Q I r h
 rw [ha]
 refine wpAny_bind (wpAny_holding (thn (ho pins s σ H _ I h) fun ov s1 ⟨x,H1,I1,r1,q1⟩=>?_))
 refine wpAny_bind (wpAny_holding (thn (hi pins s1 σ H1 _ I1 q1) fun iv s2 ⟨y,H2,I2,r2,q2⟩=>?_))
 refine wpAny_bind (wpAny_standAt (wpAny_bind (wpAny_holding (thn (hs pins s2 σ H2 x y v ov iv u _ I2 r1 r2 r q2) fun _ s3 ⟨H3,I3,q3⟩=>?_))))
 exact wpAny_release ⟨σ,H3,I3,q3⟩
noncomputable def BB (te:TE)(g:TG):TS:=fun D σ H=>te σ H fun x H1=>g x σ H1 D.nx
theorem ji {tg e:Expr}{te:TE}{g:TG}(he:PE X e te)(hg:PG X tg g)(hs:swapsWithSole [tg] e pos.line X.env=pure false:=by rfl)(hw:swappedStores [tg] e X.env=pure none:=by rfl)
  (h1:(assignEach [tg] X.env).map (·.2)=[assign tg X.env]:=by rfl):PS X (.Assign [tg] e pos) (BB te g):=by
 intro pins s σ H D I h
 refine wpAny_Assign_stores (thn (he pins s σ H _ I h) fun v s1 ⟨x,H1,I1,r1,q1⟩=>?_) hs hw
 rw [h1]
 exact thn (hg pins s1 σ H1 x v _ I1 r1 q1) fun _ s2 q=>q
theorem zr {i:Nat}{x:Str}{e:Expr}{te:TE}{pos':Pos}(hN:X.N.Nodup)(hi:X.N[i]?=some x)(hx:Loc X.env.scope x)(he:PE X e te)(hs:swapsWith e (some (.Name x pos')) pos.line X.env=pure false:=by rfl)(hf:X.fn x=true \/ X.env.scope.names.lookup x=some .local:=by first | exact .inl rfl | exact .inr rfl | assumption) :
  PS X (.Assign [.Name x pos'] e pos) (BB te (Q2 i)):=by
 intro pins s σ H D I h
 refine wpAny_Assign_Name (thn (he pins s σ H _ I h) fun v s1 ⟨y,H1,I1,r1,q1⟩=>?_) hs
 exact kP I1 hN hi hx r1 (fun s2 I2=>⟨_,H1,I2,q1⟩) hf
noncomputable def Ii (i j:Nat)(ta:TA):TS:=fun D σ H=>ta σ H fun vs H1=>∃ v w,vs=[v,w]/\D.nx ((σ.set i (some v)).set j (some w)) H1
theorem KO {i j:Nat}{x y:Str}{a b:Expr}{ta:TA}{px py pt:Pos}{kt k2 pt2}(hc:X.calm=true)(hN:X.N.Nodup)(hi:X.N[i]?=some x)(hj:X.N[j]?=some y)(hij:i ≠ j)
  (hx:X.env.scope.names.lookup x=some .local) (hy:X.env.scope.names.lookup y=some .local) (ha:PA X [a,b] ta)
  (hw:swappedStores [.Tuple [.Name x px,.Name y py] kt pt] (.Tuple [a,b] k2 pt2) X.env=pure (some [x,y]))
  (hs:swapsWithSole [.Tuple [.Name x px,.Name y py] kt pt] (.Tuple [a,b] k2 pt2) pos.line X.env=pure false:=by rfl) :
  PS X (.Assign [.Tuple [.Name x px,.Name y py] kt pt] (.Tuple [a,b] k2 pt2) pos) (Ii i j ta):=by
 intro pins s σ H D I h
 rw [exec_Assign_arm]
 refine wpAny_bind (wpAny_standAt ?_)
 rw [hs]
 refine wpAny_bind (wpAny_pure ?_)
 rw [if_neg (by decide)]
 refine wpAny_bind (Tuple_ (thn (ha _ pins s σ H _ I h) fun us s1 ⟨vs,H1,I1,r1,q1⟩=>?_))
 obtain ⟨v,w,e1,q1⟩:=q1
 subst e1
 obtain ⟨u1,u2,rfl,rv,rw'⟩:∃ u1 u2,us=[u1,u2]/\zH v u1/\zH w u2:=by
  cases r1 with
  | cons p q=>
   cases q with
   | cons p' q'=>
    cases q'
    exact ⟨_,_,rfl,p,p'⟩
 refine wpAny_newObj_type ?_ (by show 2<=sizeLine;decide)
 have I2:Inv X pins σ H1 { s1 with heap:=s1.heap.push { cls:=.type "tuple",data:=.seq [u1,u2].toArray } }:=I1.kept (t':=s1.toks) fun b o e=>Heap.get?_push_of_some _ e
 rw [hw]
 refine wpAny_bind (wpAny_pure ?_)
 show wpAny (model X.prog X.w) X.A (do rule "assign.swapped-stores";let items <- unpackItems (.ref s1.heap.objs.size) 2 none;assignInOrder [fun v=>bindName X.env y v,fun v=>bindName X.env x v] items.reverse;pure Flow.next) _ _ _
 refine wpAny_bind (wpAny_rule (wpAny_bind (unpackItems_tuple (items:=#[u1,u2]) (I.ok.hd hc) (IsTup.new s1.heap _) fun h' hx'=>?_)))
 have I3:=I2.kept (h':=h') (t':=s1.toks) fun b o e=>hx' b o (Nat.ne_of_lt (Heap.lt_size e)) e
 show wpAny _ _ (assignInOrder [fun v=>bindName X.env y v,fun v=>bindName X.env x v] [u2,u1] >>= fun _=>pure Flow.next) _ _ _
 refine wpAny_bind (assignInOrder_cons (wpAny_bindName (kP I3 hN hj (.inl hy) rw' (fun s2 I4=>?_) (.inr hy))))
 refine assignInOrder_cons (wpAny_bindName (kP I4 hN hi (.inl hx) rv (fun s3 I5=>assignInOrder_nil (wpAny_pure ?_)) (.inr hx)))
 rw [List.set_comm _ _ (Ne.symm hij)] at I5
 exact ⟨_,H1,I5,q1⟩
noncomputable def Hi (i:Nat)(te:TE)(ti:TIp):TS:=fun D σ H=>∃ x,σ[i]?=some (some x)/\te σ H fun y H1=>ti x y H1 fun z H2=>D.nx (σ.set i (some z)) H2
theorem Di {i:Nat}{x:Str}{e:Expr}{te:TE}{op:Operator}{ti:TIp}{pos':Pos}(hN:X.N.Nodup)(hi:X.N[i]?=some x)(hx:Loc X.env.scope x)(he:PE X e te)(ho:PIp X op ti)(hf:X.fn x=true \/ X.env.scope.names.lookup x=some .local:=by first | exact .inl rfl | exact .inr rfl | assumption) :
  PS X (.AugAssign (.Name x pos') op e pos) (Hi i te ti):=by
 intro pins s σ H D I h
 obtain ⟨v,e1,h⟩:=h
 obtain ⟨m,hn,hl⟩:=I.loc
 have vis:Vis X.env.scope x:=by rcases hx with k | k;exact .inl k;exact .inr (.inl k)
 obtain ⟨u,r,l⟩:=hl i x v hi e1 vis
 refine wpAny_AugAssign_Name ?_
 have go:wpAny (model X.prog X.w) X.A (eval e X.env) (fun w s₂=>wpAny (model X.prog X.w) X.A (inplaceOp op u w) (fun r s₃=>wpAny (model X.prog X.w) X.A (storeName X.env x r) (fun _=>SP X pins D .next) X.xe s₃) X.xe s₂) X.xe s:=by
  refine thn (he pins s σ H _ I h) fun w s1 ⟨y,H1,I1,r1,q1⟩=>?_
  refine thn (ho pins s1 σ H1 v y u w _ I1 r r1 q1) fun z s2 ⟨zv,H2,I2,r2,q2⟩=>?_
  exact kP I2 hN hi hx r2 (fun s3 I3=>⟨_,H2,I3,q2⟩) hf
 rcases l with ⟨hk,hm⟩ | ⟨hk,c,hc,hcell⟩
 ·exact wpAny_loadName_local I.ok.kind hk hn hm go
 ·rcases hk with hk | hk
  ·exact wpAny_loadName_cell I.ok.kind hk hc hcell go
  ·rcases hx with k | k
   ·have:X.env.scope.names.lookup x=some .free:=hk
    rw [k] at this;cases this
   ·have:X.env.scope.names.lookup x=some .free:=hk
    rw [k] at this;cases this
noncomputable def ipI (f:Int->Int->Int):TIp:=fun x y H Q=>∃ i j,x=.int i/\y=.int j/\Q (.int (f i j)) H
theorem Ik:PIp X .Add (ipI fun i j=>i+j):=by
 intro pins s σ H x y v u Q I r1 r2 h
 obtain ⟨i,j,e1,e2,q⟩:=h
 subst e1;subst e2
 obtain ⟨t,rfl⟩:=r1
 obtain ⟨t',rfl⟩:=r2
 exact iadd_int ⟨.int _,H,I.tok _,⟨_,rfl⟩,q⟩
end
section
variable {X:Cx}{pos:Pos}
noncomputable def KS (c:TT)(tb:TS):TS:=fun D σ H=>∃ W:Nat->St->Hp->Prop,(∃ m,W m σ H)/\∀ m σ H,W m σ H ->
 c σ H fun b H1=>if b=true then ∃ N:St->Hp->Prop,(∀ σ' H',N σ' H'->∃ m',m'<m/\W m' σ' H')/\tb { D with nx:=N,ct:=N,bk:=D.nx } σ H1 else D.nx σ H1
theorem xa {c:Expr}{body:List Stmt}{tc:TT}{tb:TS}(hp:PassesOwn (model X.prog X.w) X.A X.env X.xe)(hc:PT X c tc)(hb:PSs X body tb):PS X (.While c body [] pos) (KS tc tb):=by
 intro pins s σ H D I h
 obtain ⟨W,⟨m0,w0⟩,turn⟩:=h
 refine wpAny_While (codeAny_whileLoop (fun n s'=>∃ σ' H',Inv X pins σ' H' s'/\W n σ' H') ?_ m0 ⟨σ,H,I,w0⟩)
 rintro n s1 ⟨σ1,H1,I1,w1⟩
 refine wpAny_passesOwn hp (thn (hc pins s1 σ1 H1 _ I1 (turn n σ1 H1 w1)) fun b s2 ⟨H2,I2,q2⟩=>?_)
 cases b with
 | true=>
  obtain ⟨N,hN,q2⟩:=q2
  rw [if_pos rfl]
  refine wpAny_passesOwn hp (thn (hb pins s2 σ1 H2 _ I2 q2) fun f s3 q3=>?_)
  cases f with
  | next=>
   obtain ⟨σ3,H3,I3,n3⟩:=q3
   obtain ⟨m',hm,w3⟩:=hN σ3 H3 n3
   exact ⟨m',hm,σ3,H3,I3,w3⟩
  | cont=>
   obtain ⟨σ3,H3,I3,n3⟩:=q3
   obtain ⟨m',hm,w3⟩:=hN σ3 H3 n3
   exact ⟨m',hm,σ3,H3,I3,w3⟩
  | brk=>exact q3
  | ret v=>exact q3
 | false=>
  rw [if_neg Bool.false_ne_true]
  exact wpAny_execs_nil ⟨σ1,H2,I2,q2⟩
end
structure It where
 go:Nat->Hp->Prop
 yld:Nat->Hp->V->Hp->Prop
 stop:Nat->Hp->Prop
noncomputable def y8 (X:Cx)(pins:List (Addr × Obj))(H:Hp)(b:Addr):Prop:=
 H b=none/\b ≠ X.env.locals/\b ∉ X.fs/\(b ∈ X.ex \/ X.s₀.heap.objs.size<=b)/\(∀ x c,X.env.cells.lookup x=some c->c ≠ b)/\∀ p ∈ X.pn ++ pins,p.1 ≠ b
theorem Inv.fpOk {X:Cx}{pins:List (Addr × Obj)}{σ:St}{H H':Hp}{s:Shared}{b:Addr}(I:Inv X pins σ H s)(hb:s.heap.objs.size<=b)(hn:H' b=none):y8 X pins H' b:=by
 refine ⟨hn,Nat.ne_of_gt (Nat.lt_of_lt_of_le I.lt hb),I.nofs hb,.inr (Nat.le_trans I.sz hb),fun x c e z=>?_,fun p hp z=>?_⟩
 ·obtain ⟨v,q⟩:=I.cell x c e
  exact absurd (Nat.lt_of_lt_of_le q.lt (by rw [z];exact hb)) (Nat.lt_irrefl _)
 ·exact absurd (Nat.lt_of_lt_of_le (Heap.lt_size (I.pin p hp).1) (by rw [z];exact hb)) (Nat.lt_irrefl _)
structure KP (P:Program)(w:World)(K:PySem.W.Frag)(tg:Expr)(J:It)(fp:List Addr)(it:Addr)(tn:Nat->Heap->Prop):Prop where
 mem:it ∈ fp
 obj:∀ i h,tn i h->∀ b ∈ fp,∃ o,h.get? b=some o/\∀ v,o.data ≠ .cell v
 keep:∀ i h h',tn i h->(∀ b ∈ fp,∀ o,h.get? b=some o->h'.get? b=some o)->tn i h'
 item:∀ (X:Cx),X.prog=P->X.w=w->X.K=K->X.calm=true->∀ (i:Nat) (pins:List (Addr × Obj)) (s:Shared) (σ:St) (H:Hp) (E:Value->Shared->Prop),Inv X pins σ H s->(∀ b ∈ fp,y8 X pins H b)->tn i s.heap->J.go i H ->
  wpAny (model P w) X.A (pyNext (.ref it)) (fun r s1=>∃ u,r=some u /\
   wpAny (model P w) X.A (letOwnedTupleGo tg (.ref it) u) (fun _ s2=>∃ x H',Inv X pins σ H' s2/\zH x u/\J.yld i H x H'/\tn (i+1) s2.heap/\∀ b ∈ fp,H' b=none) E s1) E s
 done:∀ (X:Cx),X.prog=P->X.w=w->X.K=K->X.calm=true->∀ (i:Nat) (pins:List (Addr × Obj)) (s:Shared) (σ:St) (H:Hp) (E:Value->Shared->Prop),Inv X pins σ H s->(∀ b ∈ fp,y8 X pins H b)->tn i s.heap->J.stop i H ->
  wpAny (model P w) X.A (pyNext (.ref it)) (fun r s1=>r=none/\Inv X pins σ H s1) E s
 self:∀ (A:Around) (i:Nat) (s:Shared) (Q:Value->Shared->Prop) (E:Value->Shared->Prop),tn i s.heap->Q (.ref it) s->wpAny (model P w) A (pyIter (.ref it)) Q E s
noncomputable abbrev TI:=St->Hp->(It->Hp->Prop)->Prop
noncomputable def PIE (X:Cx)(pins:List (Addr × Obj))(σ:St)(tg:Expr)(R:It->Hp->Prop)(itv:Value)(s2:Shared):Prop:=
 ∃ (it:Addr) (fp:List Addr) (tn:Nat->Heap->Prop) (J:It) (H':Hp),itv=.ref it/\Inv X pins σ H' s2/\KP X.prog X.w X.K tg J fp it tn/\tn 0 s2.heap/\(∀ b ∈ fp,y8 X pins H' b)/\R J H'
noncomputable def PI (X:Cx)(tg iter:Expr)(wi:TI):Prop:=
 ∀ (pins:List (Addr × Obj)) (s:Shared) (σ:St) (H:Hp) (R:It->Hp->Prop),Inv X pins σ H s->wi σ H R ->
  wpAny (model X.prog X.w) X.A (eval iter X.env) (fun v s1=>wpAny (model X.prog X.w) X.A (pyIter v) (PIE X pins σ tg R) X.xe s1) X.xe s
theorem Ay {M : Model}{A : Around}{E : Value -> Shared -> Prop}{s : Shared}{tg : Expr}{it : Addr}{u : Value}{o : Obj}{n : String}{vs : Array Value}{Q : Unit -> Shared -> Prop}(ho : s.heap.get? it = some o)(hc : o.cls = .type n)(hd : o.data = .fields vs)
    (hn:["enumerate","zip","dict_itemiterator","dict_reverseitemiterator","odict_iterator","itertools.zip_longest","itertools.pairwise"].contains n=false) (hQ:Q () s):wpAny M A (letOwnedTupleGo tg (.ref it) u) Q E s:=by
  unfold letOwnedTupleGo
  cases tg <;> first
    | exact wpAny_pure hQ
    | (cases u <;> first
        | exact wpAny_pure hQ
        | (refine wpAny_bind (wpAny_load ho ?_)
           rw [hc,hd]
           show wpAny M A (if (["enumerate","zip","dict_itemiterator","dict_reverseitemiterator","odict_iterator","itertools.zip_longest","itertools.pairwise"].contains n && vs[0]? == some (rawInt _))=true then _ else _) Q E s
           rw [if_neg (by intro h;rw [hn,Bool.false_and] at h;cases h)]
           exact wpAny_pure hQ))
noncomputable def Itl (K:PySem.W.Frag)(a:Addr):It:=
 ⟨fun i H=>∃ xs x,SqL K H a xs/\xs[i]?=some x,fun i H x H'=>H'=H/\∀ xs,SqL K H a xs->xs[i]?=some x,fun i H=>∃ xs,SqL K H a xs/\xs.length<=i⟩
noncomputable def Itt (K:PySem.W.Frag)(a:Addr):It:=
 ⟨fun i H=>∃ xs x,SqT K H a xs/\xs[i]?=some x,fun i H x H'=>H'=H/\∀ xs,SqT K H a xs->xs[i]?=some x,fun i H=>∃ xs,SqT K H a xs/\xs.length<=i⟩
noncomputable def Itr (lo:Int)(n:Nat):It:=⟨fun i _=>i<n,fun i H x H'=>H'=H/\x=.int (lo+i),fun i _=>n<=i⟩
theorem Zi {P:Program}{w:World}{K:PySem.W.Frag}{tg:Expr}(a it:Addr):KP P w K tg (Itl K a) [it] it (fun i h=>h.IsListIter it a i) where
 mem:=by simp
 obj:=fun i h st b hb=>by
  have e:b=it:=by simpa using hb
  subst e
  obtain ⟨o,e,c,d⟩:=st
  exact ⟨o,e,fun v z=>by rw [d] at z;cases z⟩
 keep:=fun i h h' st k=>st.at fun o e=>k it (by simp) o e
 item:=by
  intro X hP hw hK hc i pins s σ H E I hf st hg
  subst hP hw hK
  obtain ⟨xs,x,hq,hx⟩:=hg
  obtain ⟨its,rv,p,hz⟩:=I.list hq
  obtain ⟨u,hu,ru⟩:=rv.get hx
  obtain ⟨f0,f1,f2,f3,f4,f5⟩:=hf it (by simp)
  refine wpAny_pyNext_list_item st p.isList (x:=u) (by simpa using hu) fun h' st' sb=>?_
  have I1:Inv X pins σ H { s with heap:=h' }:=I.turned (t':=s.toks) (fun b o hb e=>(sb.2 b hb).trans e) f0 f1 f3 f4 f5
  obtain ⟨o,e,c,d⟩:=id st'
  exact ⟨u,rfl,Ay (s:={ s with heap:=h' }) e c d (by decide) ⟨x,H,I1,ru,⟨rfl,fun ys hy=>by rw [I.list_inj hy hq];exact hx⟩,st',fun b hb=>(hf b hb).1⟩⟩
 done:=by
  intro X hP hw hK hc i pins s σ H E I hf st hg
  subst hP hw hK
  obtain ⟨xs,hq,hx⟩:=hg
  obtain ⟨its,rv,p,hz⟩:=I.list hq
  obtain ⟨f0,f1,f2,f3,f4,f5⟩:=hf it (by simp)
  have hl:=rv.length
  exact wpAny_pyNext_list_end (I.ok.hd hc) st p.isList (by simp;walk_at "o") fun h' eb=>⟨rfl,I.turned (t':=s.toks) (fun b o hb e=>eb b o hb e) f0 f1 f3 f4 f5⟩
 self:=fun _ _ _ _ _ st h=>wpAny_pyIter_listiter st h
theorem K6 {P:Program}{w:World}{K:PySem.W.Frag}{tg:Expr}(a it:Addr):KP P w K tg (Itt K a) [it] it (fun i h=>h.IsTupleIter it a i) where
 mem:=by simp
 obj:=fun i h st b hb=>by
  have e:b=it:=by simpa using hb
  subst e
  obtain ⟨o,e,c,d⟩:=st
  exact ⟨o,e,fun v z=>by rw [d] at z;cases z⟩
 keep:=fun i h h' st k=>st.at fun o e=>k it (by simp) o e
 item:=by
  intro X hP hw hK hc i pins s σ H E I hf st hg
  subst hP hw hK
  obtain ⟨xs,x,hq,hx⟩:=hg
  obtain ⟨its,rv,p,hz⟩:=I.tuple hq
  obtain ⟨u,hu,ru⟩:=rv.get hx
  obtain ⟨f0,f1,f2,f3,f4,f5⟩:=hf it (by simp)
  refine wpAny_pyNext_tuple_item st (show s.heap.IsTuple a its.toArray from p) (x:=u) (by simpa using hu) fun h' st' sb=>?_
  have I1:Inv X pins σ H { s with heap:=h' }:=I.turned (t':=s.toks) (fun b o hb e=>(sb.2 b hb).trans e) f0 f1 f3 f4 f5
  obtain ⟨o,e,c,d⟩:=id st'
  exact ⟨u,rfl,Ay (s:={ s with heap:=h' }) e c d (by decide) ⟨x,H,I1,ru,⟨rfl,fun ys hy=>by rw [I.tuple_inj hy hq];exact hx⟩,st',fun b hb=>(hf b hb).1⟩⟩
 done:=by
  intro X hP hw hK hc i pins s σ H E I hf st hg
  subst hP hw hK
  obtain ⟨xs,hq,hx⟩:=hg
  obtain ⟨its,rv,p,hz⟩:=I.tuple hq
  obtain ⟨f0,f1,f2,f3,f4,f5⟩:=hf it (by simp)
  have hl:=rv.length
  exact wpAny_pyNext_tuple_end (I.ok.hd hc) st (show s.heap.IsTuple a its.toArray from p) (by simp;walk_at "o") fun h' eb=>⟨rfl,I.turned (t':=s.toks) (fun b o hb e=>eb b o hb e) f0 f1 f3 f4 f5⟩
 self:=fun _ _ _ _ _ st h=>wpAny_pyIter_tupleiter st h
theorem KL {P:Program}{w:World}{K:PySem.W.Frag}{tg:Expr}(it:Addr)(lo:Int)(n:Nat):KP P w K tg (Itr lo n) [it] it (fun i h=>IsRangeIter h it (lo+(i:Nat) * 1) ((n:Int) - (i:Nat)) 1) where
 mem:=by simp
 obj:=fun i h st b hb=>by
  have e:b=it:=by simpa using hb
  subst e
  exact ⟨_,st,fun v z=>by
   have z':Data.fields _=Data.cell v:=z
   cases z'⟩
 keep:=fun i h h' st k=>k it (by simp) _ st
 item:=by
  intro X hP hw hK hc i pins s σ H E I hf st hg
  subst hP hw hK
  obtain ⟨f0,f1,f2,f3,f4,f5⟩:=hf it (by simp)
  have W:=Walks.range (prog:=X.prog) (w:=X.w) (I.ok.hd hc) it lo 1 n
  refine W.item i s _ _ hg st fun v h' tk hv st' kk=>?_
  obtain ⟨t,rfl⟩:=hv
  have I1:Inv X pins σ H { s with heap:=h',toks:=tk }:=I.turned (fun b o hb e=>kk b o (by simpa using hb) e) f0 f1 f3 f4 f5
  refine ⟨_,rfl,Ay (s:={ s with heap:=h',toks:=tk }) (n:="range_iterator") st' rfl rfl (by decide) ⟨.int (lo+i),H,I1,⟨t,?_⟩,⟨rfl,rfl⟩,st',fun b hb=>(hf b hb).1⟩⟩
  rw [Int.mul_one]
 done:=by
  intro X hP hw hK hc i pins s σ H E I hf st hg
  subst hP hw hK
  obtain ⟨f0,f1,f2,f3,f4,f5⟩:=hf it (by simp)
  exact wpAny_pyNext_range_end (I.ok.hd hc) st (by have:n<=i:=hg;walk_at "o") fun h' eb=>⟨rfl,I.turned (t':=s.toks) (fun b o hb e=>eb b o hb e) f0 f1 f3 f4 f5⟩
 self:=fun _ _ _ _ _ st h=>wpAny_pyIter_rangeiter st h
section
variable {X:Cx}{tg:Expr}
noncomputable def FF (K:PySem.W.Frag)(tl:TE):TI:=fun σ H R=>tl σ H fun x H1=>∃ a,x=.ref a/\(∃ xs,SqL K H1 a xs)/\R (Itl K a) H1
theorem X7 {l:Expr}{tl:TE}(hl:PE X l tl):PI X tg l (FF X.K tl):=by
 intro pins s σ H R I h
 refine thn (hl pins s σ H _ I h) fun v s1 ⟨x,H1,I1,r1,q1⟩=>?_
 obtain ⟨a,e,⟨xs,hq⟩,q⟩:=q1
 subst e
 cases r1
 obtain ⟨its,rv,p,hz⟩:=I1.list hq
 refine wpAny_pyIter_list p.isList ?_
 refine ⟨s1.heap.objs.size,[s1.heap.objs.size],_,_,H1,rfl,I1.kept (t':=s1.toks) fun b o e=>Heap.get?_push_of_some _ e,Zi a _,⟨_,Heap.get?_push_size _ rfl,rfl,rfl⟩,fun b hb=>?_,q⟩
 have e:b=s1.heap.objs.size:=by simpa using hb
 subst e
 exact I1.fpOk (Nat.le_refl _) (I1.hok.fresh (Nat.le_refl _))
theorem JP {pins:List (Addr × Obj)}{σ:St}{H:Hp}{s:Shared}{R:It->Hp->Prop}{E:Value->Shared->Prop}{lo hi:Int}{t u v:Tok}{tk:Nat}(I:Inv X pins σ H s)(h1:-(2 ^ 62)<=lo)(h2:lo<2 ^ 62)(h3:-(2 ^ 62)<=hi)(h4:hi<2 ^ 62)
  (q:R (Itr lo (hi - lo).toNat) H):wpAny (model X.prog X.w) X.A (pyIter (.ref s.heap.objs.size)) (PIE X pins σ tg R) E { s with heap:=s.heap.push { cls:=.type "range",data:=.fields #[.int lo t,.int hi u,.int 1 v] },toks:=tk }:=by
 refine wpAny_pyIter_range (IsRange.new ..) (small_one h1 h2 h3 h4) ?_
 have I1:Inv X pins σ H { s with heap:=s.heap.push { cls:=.type "range",data:=.fields #[.int lo t,.int hi u,.int 1 v] },toks:=tk }:=I.kept fun b o e=>Heap.get?_push_of_some _ e
 refine ⟨(s.heap.push { cls:=.type "range",data:=.fields #[.int lo t,.int hi u,.int 1 v] }).objs.size,[(s.heap.push { cls:=.type "range",data:=.fields #[.int lo t,.int hi u,.int 1 v] }).objs.size],_,_,H,rfl,
  I1.kept (t':=tk) fun b o e=>Heap.get?_push_of_some _ e,KL _ lo (hi - lo).toNat,?_,fun b hb=>?_,q⟩
 ·have e1:lo+((0:Nat):Int) * 1=lo:=by simp
  have e2:(((hi - lo).toNat:Nat):Int) - ((0:Nat):Int)=Builtin.Range.rangeSize lo hi 1:=by rw [rangeSize_one];split <;> walk_at "o"
  show IsRangeIter _ _ (lo+((0:Nat):Int) * 1) ((((hi - lo).toNat:Nat):Int) - ((0:Nat):Int)) 1
  rw [e1,e2]
  exact Heap.get?_push_size _ rfl
 ·have e:b=(s.heap.push { cls:=.type "range",data:=.fields #[.int lo t,.int hi u,.int 1 v] }).objs.size:=by simpa using hb
  subst e
  exact I1.fpOk (Nat.le_refl _) (I1.hok.fresh (Nat.le_refl _))
noncomputable def B1 (ta:TA):TI:=fun σ H R=>ta σ H fun vs H1=>∃ j:Int,vs=[.int j]/\-(2 ^ 62)<=j/\j<2 ^ 62/\R (Itr 0 j.toNat) H1
noncomputable def FP (ta:TA):TI:=fun σ H R=>ta σ H fun vs H1=>∃ i j:Int,vs=[.int i,.int j]/\(-(2 ^ 62)<=i/\i<2 ^ 62/\-(2 ^ 62)<=j/\j<2 ^ 62)/\R (Itr i (j - i).toNat) H1
theorem qu {a:Expr}{ta:TA}{p pos:Pos}(hg:Gl X "range")(hm:X.mg "range"=none)(ha:PA X [a] ta)(hs:starEach [a] X.env=[(false,eval a X.env)]:=by rfl):PI X tg (.Call (.Name "range" p) [a] [] pos) (B1 ta):=by
 intro pins s σ H R I h
 refine Call_ (kL I hg hm boot_range (PyProof.Rows.callWith_type1 (thn (ha pos pins s σ H _ I h) fun us s1 ⟨vs,H1,I1,r1,q1⟩=>?_) hs rfl))
 obtain ⟨j,e,q1,q2,q⟩:=q1
 subst e
 cases r1 with
 | cons r rr=>
  cases rr
  obtain ⟨t,rfl⟩:=r
  exact call_range_1 (JP I1 (by walk_at "o") (by walk_at "o") q1 q2 (by simpa using q))
theorem wY {a b:Expr}{ta:TA}{p pos:Pos}(hg:Gl X "range")(hm:X.mg "range"=none)(ha:PA X [a,b] ta)(hs:starEach [a,b] X.env=[(false,eval a X.env),(false,eval b X.env)]:=by rfl)(hs2:starEach [b] X.env=[(false,eval b X.env)]:=by rfl) :
  PI X tg (.Call (.Name "range" p) [a,b] [] pos) (FP ta):=by
 intro pins s σ H R I h
 refine Call_ (kL I hg hm boot_range (PyProof.Rows.callWith_type1 (thn (ha pos pins s σ H _ I h) fun us s1 ⟨vs,H1,I1,r1,q1⟩=>?_) (by rw [hs,hs2]) (by rw [hs2];rfl)))
 obtain ⟨i,j,e,⟨q1,q2,q3,q4⟩,q⟩:=q1
 subst e
 cases r1 with
 | cons r rr=>
  cases rr with
  | cons r' rr=>
   cases rr
   obtain ⟨t,rfl⟩:=r
   obtain ⟨t',rfl⟩:=r'
   exact call_range_2 (JP I1 q1 q2 q3 q4 q)
noncomputable def DM (wi:TI)(g:TG)(tb:TS):TS:=fun D σ H=>wi σ H fun J H1=>∃ W:Nat->Nat->St->Hp->Prop,(∃ m,W 0 m σ H1)/\∀ i m σ H,W i m σ H ->
 (J.stop i H/\D.nx σ H) \/ (J.go i H/\∃ N:St->Hp->Prop,(∀ σ' H',N σ' H'->∃ m',m'<m/\W (i+1) m' σ' H')/\∀ x H',J.yld i H x H'->g x σ H' fun σ2 H2=>tb { D with nx:=N,ct:=N,bk:=D.nx } σ2 H2)
noncomputable def vV (fp:List Addr)(h:Heap):List (Addr × Obj):=fp.filterMap fun b=>(h.get? b).map fun o=>(b,o)
theorem kr {fp:List Addr}{h:Heap}{b:Addr}{o:Obj}(hb:b ∈ fp)(e:h.get? b=some o):(b,o) ∈ vV fp h:=List.mem_filterMap.mpr ⟨b,hb,by rw [e];rfl⟩
theorem Y9 {fp:List Addr}{h:Heap}{p:Addr × Obj}(hp:p ∈ vV fp h):p.1 ∈ fp/\h.get? p.1=some p.2:=by
 obtain ⟨b,hb,e⟩:=List.mem_filterMap.mp hp
 cases q:h.get? b with
 | none=>rw [q] at e;cases e
 | some o=>
  rw [q] at e
  have e':(b,o)=p:=Option.some.inj e
  subst e'
  exact ⟨hb,q⟩
theorem Inv.pinned {pins:List (Addr × Obj)}{σ:St}{H:Hp}{s:Shared}{fp:List Addr}(I:Inv X pins σ H s)(hf:∀ b ∈ fp,y8 X pins H b)(ho:∀ b ∈ fp,∃ o,s.heap.get? b=some o/\∀ v,o.data ≠ .cell v):Inv X (pins ++ vV fp s.heap) σ H s:=
 I.pins_of fun p hp=>(List.mem_append.mp hp).elim (fun z=>I.pin p (List.mem_append_right _ z)) fun z=>by
  obtain ⟨hb,e⟩:=Y9 z
  obtain ⟨f0,f1,f2,_⟩:=hf p.1 hb
  obtain ⟨o,e',d⟩:=ho p.1 hb
  rw [e] at e';cases e'
  exact ⟨e,f0,f1,f2,d⟩
theorem Inv.unpinned {pins pl:List (Addr × Obj)}{σ:St}{H:Hp}{s:Shared}(I:Inv X (pins ++ pl) σ H s):Inv X pins σ H s:=I.pins_of fun p hp=>I.pin p (List.mem_append_right _ (List.mem_append_left _ hp))
theorem qi {iter:Expr}{body:List Stmt}{wi:TI}{g:TG}{tb:TS}{pos:Pos}(hp:PassesOwn (model X.prog X.w) X.A X.env X.xe)(hc:X.calm=true)(hi:PI X tg iter wi)(hg:PG X tg g)(hb:PSs X body tb)
  (hs:∀ x,foldedSetIterable iter X.env x=pure x:=by intro _;rfl):PS X (.For tg iter body [] pos) (DM wi g tb):=by
 intro pins s σ H D I h
 refine wpAny_For (thn (hi pins s σ H _ I h) fun v s1 h1=>thn h1 fun itv s2 h2=>?_) hs
 obtain ⟨it,fp,tn,J,H2,e,I2,T,st2,f2,W,⟨m0,w0⟩,turn⟩:=h2
 subst e
 have stat:∀ {H':Hp},(∀ b ∈ fp,H' b=none)->∀ b ∈ fp,y8 X pins H' b:=fun hn b hb=>⟨hn b hb,(f2 b hb).2⟩
 refine codeAny_forLoop_any (fun n s'=>∃ i σ' H',Inv X pins σ' H' s'/\tn i s'.heap/\(∀ b ∈ fp,H' b=none)/\W i n σ' H') ?_ m0 ⟨0,σ,H2,I2,st2,fun b hb=>(f2 b hb).1,w0⟩
 rintro n s3 ⟨i,σ3,H3,I3,st3,fr3,w3⟩
 rcases turn i n σ3 H3 w3 with ⟨stop,qn⟩ | ⟨go,N,hN,step⟩
 ·refine wpAny_passesOwn hp (thn (T.done X rfl rfl rfl hc i pins s3 σ3 H3 X.xe I3 (stat fr3) st3 stop) fun r s4 ⟨hr,I4⟩=>?_)
  subst hr
  exact wpAny_execs_nil ⟨σ3,H3,I4,qn⟩
 ·refine wpAny_passesOwn hp (thn (T.item X rfl rfl rfl hc i pins s3 σ3 H3 X.xe I3 (stat fr3) st3 go) fun r s4 ⟨u,hr,h4⟩=>?_)
  subst hr
  refine wpAny_passesOwn hp (thn h4 fun _ s5 ⟨x,H5,I5,r5,y5,st5,fr5⟩=>?_)
  have I5':=I5.pinned (stat fr5) (T.obj _ _ st5)
  refine wpAny_passesOwn hp (thn (hg _ s5 σ3 H5 x u _ I5' r5 (step x H5 y5)) fun _ s6 ⟨σ6,H6,I6,q6⟩=>?_)
  refine wpAny_passesOwn hp (thn (hb _ s6 σ6 H6 _ I6 q6) fun f s7 q7=>?_)
  have again:∀ {σ7:St} {H7:Hp},Inv X (pins ++ vV fp s5.heap) σ7 H7 s7->N σ7 H7->∃ m,m<n/\∃ i σ' H',Inv X pins σ' H' s7/\tn i s7.heap/\(∀ b ∈ fp,H' b=none)/\W i m σ' H':=fun {σ7 H7} I7 n7=>by
   obtain ⟨m',hm,w7⟩:=hN σ7 H7 n7
   refine ⟨m',hm,i+1,σ7,H7,I7.unpinned,T.keep _ _ _ st5 fun b hb o e=>(I7.pin (b,o) (List.mem_append_right _ (List.mem_append_right _ (kr hb e)))).1,fun b hb=>?_,w7⟩
   obtain ⟨o,e,d⟩:=T.obj _ _ st5 b hb
   exact (I7.pin (b,o) (List.mem_append_right _ (List.mem_append_right _ (kr hb e)))).2.1
  cases f with
  | next=>obtain ⟨σ7,H7,I7,n7⟩:=q7;exact again I7 n7
  | cont=>obtain ⟨σ7,H7,I7,n7⟩:=q7;exact again I7 n7
  | brk=>obtain ⟨σ7,H7,I7,q7⟩:=q7;exact ⟨σ7,H7,I7.unpinned,q7⟩
  | ret v=>obtain ⟨x7,σ7,H7,I7,r7,q7⟩:=q7;exact ⟨x7,σ7,H7,I7.unpinned,r7,q7⟩
end
theorem Wg {K:PySem.W.Frag}{a:Addr}{xs:List V}{g:TG}{tb:TS}{D:kq}{σ:St}{H:Hp}(Pv:Nat->St->Hp->Prop)(h0:Pv 0 σ H)(hl:∀ i σ H,i<=xs.length->Pv i σ H->SqL K H a xs)
  (hs:∀ i x σ H,xs[i]?=some x->Pv i σ H->g x σ H fun σ2 H2=>tb { D with nx:=Pv (i+1),ct:=Pv (i+1),bk:=D.nx } σ2 H2) (hd:∀ σ H,Pv xs.length σ H->D.nx σ H) :
  ∃ W:Nat->Nat->St->Hp->Prop,(∃ m,W 0 m σ H)/\∀ i m σ H,W i m σ H ->
   ((Itl K a).stop i H/\D.nx σ H) \/ ((Itl K a).go i H/\∃ N:St->Hp->Prop,(∀ σ' H',N σ' H'->∃ m',m'<m/\W (i+1) m' σ' H')/\∀ x H',(Itl K a).yld i H x H'->g x σ H' fun σ2 H2=>tb { D with nx:=N,ct:=N,bk:=D.nx } σ2 H2):=by
 refine ⟨fun i m σ H=>m=xs.length - i/\i<=xs.length/\Pv i σ H,⟨xs.length,by simp,Nat.zero_le _,h0⟩,?_⟩
 rintro i m σ H ⟨rfl,hi,p⟩
 have q:=hl i σ H hi p
 by_cases hlt:i<xs.length
 ·refine .inr ⟨⟨xs,xs[i],q,by simp [hlt]⟩,Pv (i+1),fun σ' H' p'=>⟨xs.length - (i+1),by walk_at "o",rfl,hlt,p'⟩,fun x H' y=>?_⟩
  obtain ⟨e,y⟩:=y
  subst e
  exact hs i x σ _ (y xs q) p
 ·have e:i=xs.length:=by walk_at "o"
  subst e
  exact .inl ⟨⟨xs,q,Nat.le_refl _⟩,hd σ H p⟩
theorem Vt {lo:Int}{n:Nat}{g:TG}{tb:TS}{D:kq}{σ:St}{H:Hp}(Pv:Nat->St->Hp->Prop)(h0:Pv 0 σ H)
  (hs:∀ i σ H,i<n->Pv i σ H->g (.int (lo+i)) σ H fun σ2 H2=>tb { D with nx:=Pv (i+1),ct:=Pv (i+1),bk:=D.nx } σ2 H2) (hd:∀ σ H,Pv n σ H->D.nx σ H) :
  ∃ W:Nat->Nat->St->Hp->Prop,(∃ m,W 0 m σ H)/\∀ i m σ H,W i m σ H ->
   ((Itr lo n).stop i H/\D.nx σ H) \/ ((Itr lo n).go i H/\∃ N:St->Hp->Prop,(∀ σ' H',N σ' H'->∃ m',m'<m/\W (i+1) m' σ' H')/\∀ x H',(Itr lo n).yld i H x H'->g x σ H' fun σ2 H2=>tb { D with nx:=N,ct:=N,bk:=D.nx } σ2 H2):=by
 refine ⟨fun i m σ H=>m=n - i/\i<=n/\Pv i σ H,⟨n,by simp,Nat.zero_le _,h0⟩,?_⟩
 rintro i m σ H ⟨rfl,hi,p⟩
 by_cases hlt:i<n
 ·refine .inr ⟨hlt,Pv (i+1),fun σ' H' p'=>⟨n - (i+1),by walk_at "o",rfl,hlt,p'⟩,fun x H' y=>?_⟩
  obtain ⟨e,y⟩:=y
  subst e y
  exact hs i σ _ hlt p
 ·have e:i=n:=by walk_at "o"
  subst e
  exact .inl ⟨Nat.le_refl _,hd σ H p⟩
theorem Ju {c:TT}{tb:TS}{D:kq}{σ:St}{H:Hp}(Pv:St->Hp->Prop)(μ:St->Hp->Nat)(h0:Pv σ H)
  (hs:∀ σ H,Pv σ H->c σ H fun b H1=>if b=true then tb { D with nx:=fun σ' H'=>Pv σ' H'/\μ σ' H'<μ σ H,ct:=fun σ' H'=>Pv σ' H'/\μ σ' H'<μ σ H,bk:=D.nx } σ H1 else D.nx σ H1)
  (mono:∀ σ H Q Q',(∀ b H1,Q b H1->Q' b H1)->c σ H Q->c σ H Q'):KS c tb D σ H:=by
 refine ⟨fun m σ H=>m=μ σ H/\Pv σ H,⟨_,rfl,h0⟩,?_⟩
 rintro m σ H ⟨rfl,p⟩
 refine mono σ H _ _ (fun b H1 q=>?_) (hs σ H p)
 cases b with
 | true=>exact ⟨_,fun σ' H' ⟨p',l⟩=>⟨_,l,rfl,p'⟩,q⟩
 | false=>exact q
noncomputable abbrev R2:=V->V->Hp->VK->Prop
noncomputable def OpR (X:Cx)(f:Value->Value->Sem Value)(r:R2):Prop:=
 ∀ (pins:List (Addr × Obj)) (s:Shared) (σ:St) (H:Hp) (x y:V) (v u:Value) (Q:VK),Inv X pins σ H s->zH x v->zH y u->r x y H Q ->
  wpAny (model X.prog X.w) X.A (f v u) (EP X pins σ Q) X.xe s
noncomputable def UnR (X:Cx)(f:Value->Sem Value)(r:V->Hp->VK->Prop):Prop:=
 ∀ (pins:List (Addr × Obj)) (s:Shared) (σ:St) (H:Hp) (x:V) (v:Value) (Q:VK),Inv X pins σ H s->zH x v->r x H Q ->
  wpAny (model X.prog X.w) X.A (f v) (EP X pins σ Q) X.xe s
noncomputable def qH (X:Cx)(f:Value)(r:List V->Hp->VK->Prop):Prop:=
 ∀ (pins:List (Addr × Obj)) (s:Shared) (σ:St) (H:Hp) (xs:List V) (us:List Value) (Q:VK),Inv X pins σ H s->zE xs us->r xs H Q ->
  wpAny (model X.prog X.w) X.A (call f us) (EP X pins σ Q) X.xe s
noncomputable def tOp (r:R2)(ta tb:TE):TE:=fun σ H Q=>ta σ H fun x H1=>tb σ H1 fun y H2=>r x y H2 Q
noncomputable def tUn (r:V->Hp->VK->Prop)(ta:TE):TE:=fun σ H Q=>ta σ H fun x H1=>r x H1 Q
noncomputable def rI (C:Int->Int->Prop)(g:Int->Int->V):R2:=fun x y H Q=>∃ i j,x=.int i/\y=.int j/\C i j/\Q (g i j) H
noncomputable def rI0 (g:Int->Int->V):R2:=fun x y H Q=>∃ i j,x=.int i/\y=.int j/\Q (g i j) H
noncomputable def rU (g:Int->V):V->Hp->VK->Prop:=fun x H Q=>∃ i,x=.int i/\Q (g i) H
section
variable {X:Cx}{a b c:Expr}{ta tb tc:TE}{pos:Pos}
theorem GN (ha:PE X a ta)(hb:PE X b tb){pins:List (Addr × Obj)}{s:Shared}{σ:St}{H:Hp}{R:V->V->Hp->Prop}(I:Inv X pins σ H s)
  (h:ta σ H fun x H1=>tb σ H1 fun y H2=>R x y H2) {Q:Value->Shared->Prop} {f:Value->Value->Sem Value}
  (hf:∀ v u s2 x y H2,Inv X pins σ H2 s2->zH x v->zH y u->R x y H2->wpAny (model X.prog X.w) X.A (f v u) Q X.xe s2) :
  wpAny (model X.prog X.w) X.A (eval a X.env) (fun v s₁=>wpAny (model X.prog X.w) X.A (eval b X.env) (fun u s₂=>wpAny (model X.prog X.w) X.A (f v u) Q X.xe s₂) X.xe s₁) X.xe s:=by
 refine thn (ha pins s σ H _ I h) fun v s1 ⟨x,H1,I1,r1,q1⟩=>?_
 refine thn (hb pins s1 σ H1 _ I1 q1) fun u s2 ⟨y,H2,I2,r2,q2⟩=>?_
 exact hf v u s2 x y H2 I2 r1 r2 q2
theorem zp {op:Operator}{r:R2}(ho:OpR X (binaryOp op) r)(ha:PE X a ta)(hb:PE X b tb):PE X (.BinOp a op b pos) (tOp r ta tb):=by
 intro pins s σ H Q I h
 exact wpAny_BinOp (GN ha hb I h fun v u s2 x y H2 I2 rx ry q=>ho pins s2 σ H2 x y v u Q I2 rx ry q)
theorem Ft {op:UnaryOp}{r:V->Hp->VK->Prop}(ho:UnR X (unaryOp op) r)(ha:PE X a ta):PE X (.UnaryOp op a pos) (tUn r ta):=by
 intro pins s σ H Q I h
 exact UnaryOp_ (thn (ha pins s σ H _ I h) fun v s1 ⟨x,H1,I1,r1,q1⟩=>ho pins s1 σ H1 x v Q I1 r1 q1)
theorem opI {f:Value->Value->Sem Value}{C:Int->Int->Prop}{g:Int->Int->Int}
  (rule:∀ (i j:Int) (t u:Tok) (s:Shared) (Q:Value->Shared->Prop) (E:Value->Shared->Prop),C i j->Q (.int (g i j) s.toks) { s with toks:=s.toks+1 }->wpAny (model X.prog X.w) X.A (f (.int i t) (.int j u)) Q E s) :
  OpR X f (rI C fun i j=>.int (g i j)):=by
 intro pins s σ H x y v u Q I rx ry h
 obtain ⟨i,j,rfl,rfl,hc,q⟩:=h
 obtain ⟨t,rfl⟩:=rx
 obtain ⟨t',rfl⟩:=ry
 exact rule i j t t' s _ _ hc ⟨.int (g i j),H,I.tok _,⟨_,rfl⟩,q⟩
theorem IN {f:Value->Value->Sem Value}{g:Int->Int->Int}
  (rule:∀ (i j:Int) (t u:Tok) (s:Shared) (Q:Value->Shared->Prop) (E:Value->Shared->Prop),Q (.int (g i j) s.toks) { s with toks:=s.toks+1 }->wpAny (model X.prog X.w) X.A (f (.int i t) (.int j u)) Q E s) :
  OpR X f (rI0 fun i j=>.int (g i j)):=by
 intro pins s σ H x y v u Q I rx ry h
 obtain ⟨i,j,rfl,rfl,q⟩:=h
 obtain ⟨t,rfl⟩:=rx
 obtain ⟨t',rfl⟩:=ry
 exact rule i j t t' s _ _ ⟨.int (g i j),H,I.tok _,⟨_,rfl⟩,q⟩
theorem DL {f:Value->Value->Sem Value}{g:Int->Int->Bool}
  (rule:∀ (i j:Int) (t u:Tok) (s:Shared) (Q:Value->Shared->Prop) (E:Value->Shared->Prop),Q (.bool (g i j)) s->wpAny (model X.prog X.w) X.A (f (.int i t) (.int j u)) Q E s) :
  OpR X f (rI0 fun i j=>.bl (g i j)):=by
 intro pins s σ H x y v u Q I rx ry h
 obtain ⟨i,j,rfl,rfl,q⟩:=h
 obtain ⟨t,rfl⟩:=rx
 obtain ⟨t',rfl⟩:=ry
 exact rule i j t t' s _ _ ⟨.bl (g i j),H,I,rfl,q⟩
noncomputable def B7 (i j:Int):Prop:=0<j/\j<1073741824
noncomputable def LJ (i j:Int):Prop:=0<=j/\j<=1000000/\i.natAbs<2 ^ 64
noncomputable def W9 (i j:Int):Prop:=(-(2 ^ 64)<i/\i<2 ^ 64) \/ (-(2 ^ 64)<j/\j<2 ^ 64)
theorem W9.ok {i j:Int}(h:W9 i j):IntMulOk i j:=by
 rcases h with ⟨h1,h2⟩ | ⟨h1,h2⟩
 ·exact .of_left (intBits_le_64 h1 h2)
 ·exact .of_right (intBits_le_64 h1 h2)
theorem zS:OpR X (binaryOp .Add) (rI0 fun i j=>.int (i+j)):=IN fun _ _ _ _ _ _ _ q=>add_int q
theorem xO:OpR X (binaryOp .Sub) (rI0 fun i j=>.int (i - j)):=IN fun _ _ _ _ _ _ _ q=>sub_int q
theorem jn:OpR X (binaryOp .Mult) (rI W9 fun i j=>.int (i * j)):=opI fun _ _ _ _ _ _ _ hc q=>mul_int q hc.ok
theorem xj:OpR X (binaryOp .FloorDiv) (rI B7 fun i j=>.int (i / j)):=opI fun i j _ _ _ _ _ hc q=>by
 have h1:(0:Int)<j:=hc.1
 have h2:j<1073741824:=hc.2
 exact floordiv_int (by walk_at "o") (by rw [Int.fdiv_eq_ediv_of_nonneg i (by walk_at "o")];exact q) (.inl (PyProof.noPylong_small (by walk_at "o")))
theorem qD:OpR X (binaryOp .Mod) (rI (fun _ j=>0<j) fun i j=>.int (i % j)):=opI fun i j _ _ _ _ _ hc q=>by
 have h1:(0:Int)<j:=hc
 exact mod_int' (by walk_at "o") (by rw [Int.fmod_eq_emod_of_nonneg i (by walk_at "o")];exact q)
theorem Gv:OpR X (binaryOp .Pow) (rI LJ fun i j=>.int (i ^ j.toNat)):=opI fun _ _ _ _ _ _ _ hc q=>pow_int_small hc.1 hc.2.1 hc.2.2 q
theorem Az:OpR X (inplaceOp .FloorDiv) (rI B7 fun i j=>.int (i / j)):=opI fun i j _ _ _ _ _ hc q=>by
 have h1:(0:Int)<j:=hc.1
 have h2:j<1073741824:=hc.2
 exact ifloordiv_int (by walk_at "o") (by rw [Int.fdiv_eq_ediv_of_nonneg i (by walk_at "o")];exact q) (.inl (PyProof.noPylong_small (by walk_at "o")))
theorem unI {f:Value->Sem Value}{g:Int->Int}
  (rule:∀ (i:Int) (t:Tok) (s:Shared) (Q:Value->Shared->Prop) (E:Value->Shared->Prop),Q (.int (g i) s.toks) { s with toks:=s.toks+1 }->wpAny (model X.prog X.w) X.A (f (.int i t)) Q E s) :
  UnR X f (rU fun i=>.int (g i)):=by
 intro pins s σ H x v Q I rx h
 obtain ⟨i,rfl,q⟩:=h
 obtain ⟨t,rfl⟩:=rx
 exact rule i t s _ _ ⟨.int (g i),H,I.tok _,⟨_,rfl⟩,q⟩
theorem Dp:UnR X (unaryOp .USub) (rU fun i=>.int (-i)):=unI fun _ _ _ _ _ q=>neg_int q
end
noncomputable def Lo:V->V->Bool
 | .non,.non=>true | .non,.int _=>true | .int _,.non=>true | .non,.bl _=>true | .bl _,.non=>true | .non,.str _=>true | .str _,.non=>true
 | .int _,.int _=>true | .bl _,.bl _=>true | .str _,.str _=>true | .byt _,.byt _=>true
 | .int _,.str _=>true | .str _,.int _=>true | .bl _,.str _=>true | .str _,.bl _=>true
 | _,_=>false
noncomputable def rEq:R2:=fun x y H Q=>Lo x y=true/\Q (.bl (decide (x=y))) H
noncomputable def rNe:R2:=fun x y H Q=>Lo x y=true/\Q (.bl (!decide (x=y))) H
theorem Yp {i j:Int}:decide (V.int i=V.int j)=(i == j):=by
 rw [Bool.eq_iff_iff]
 simp
theorem AQ {i j:Bool}:decide (V.bl i=V.bl j)=(i == j):=by
 rw [Bool.eq_iff_iff]
 simp
theorem Yj {i j:Str}:decide (V.str i=V.str j)=(i == j):=by
 rw [Bool.eq_iff_iff]
 simp
theorem XC {i j:Array UInt8}:decide (V.byt i=V.byt j)=(i.toList == j.toList):=by
 rw [Bool.eq_iff_iff]
 cases i
 cases j
 simp
section
variable {X:Cx}{a b c:Expr}{ta tb tc:TE}{pos:Pos}
theorem zO {pins:List (Addr × Obj)}{σ:St}{H:Hp}{s:Shared}{Q:VK}{k k':Bool}(I:Inv X pins σ H s)(q:Q (.bl k) H)(e:k=k'):EP X pins σ Q (.bool k') s:=by
 subst e
 exact ⟨.bl k,H,I,rfl,q⟩
theorem xE:OpR X (compareOp .Eq) rEq:=by
 intro pins s σ H x y v u Q I rx ry h
 obtain ⟨hs,q⟩:=h
 cases x with
 | non=>
  cases rx
  cases y with
  | non=>cases ry;exact PySem.EqNone.eq_none_none (zO I q (by simp))
  | bl j=>cases ry;exact PySem.EqNone.eq_none_bool (zO I q (by simp))
  | int j=>obtain ⟨t',rfl⟩:=ry;exact PySem.EqNone.eq_none_int (zO I q (by simp))
  | str j=>obtain ⟨t',rfl⟩:=ry;exact PySem.EqNone.eq_none_str (zO I q (by simp))
  | _=>exact absurd (show false=true from hs) Bool.false_ne_true
 | bl i=>
  cases rx
  cases y with
  | non=>cases ry;exact PySem.EqNone.eq_bool_none (zO I q (by simp))
  | bl j=>cases ry;exact eq_bool (zO I q AQ)
  | str j=>obtain ⟨t',rfl⟩:=ry;exact PySem.EqMixed.eq_bool_str (zO I q (by simp))
  | _=>exact absurd (show false=true from hs) Bool.false_ne_true
 | int i=>
  obtain ⟨t,rfl⟩:=rx
  cases y with
  | non=>cases ry;exact PySem.EqNone.eq_int_none (zO I q (by simp))
  | int j=>obtain ⟨t',rfl⟩:=ry;exact eq_int (zO I q Yp)
  | str j=>obtain ⟨t',rfl⟩:=ry;exact PySem.EqMixed.eq_int_str (zO I q (by simp))
  | _=>exact absurd (show false=true from hs) Bool.false_ne_true
 | str i=>
  obtain ⟨t,rfl⟩:=rx
  cases y with
  | non=>cases ry;exact PySem.EqNone.eq_str_none (zO I q (by simp))
  | bl j=>cases ry;exact PySem.EqMixed.eq_str_bool (zO I q (by simp))
  | int j=>obtain ⟨t',rfl⟩:=ry;exact PySem.EqMixed.eq_str_int (zO I q (by simp))
  | str j=>obtain ⟨t',rfl⟩:=ry;exact eq_str (zO I q Yj)
  | _=>exact absurd (show false=true from hs) Bool.false_ne_true
 | byt i=>
  obtain ⟨t,rfl⟩:=rx
  cases y with
  | byt j=>obtain ⟨t',rfl⟩:=ry;exact PySem.W.eq_bytes (zO I q XC)
  | _=>exact absurd (show false=true from hs) Bool.false_ne_true
 | _=>cases y <;> exact absurd (show false=true from hs) Bool.false_ne_true
theorem FI:OpR X (compareOp .NotEq) rNe:=by
 intro pins s σ H x y v u Q I rx ry h
 obtain ⟨hs,q⟩:=h
 cases x with
 | non=>
  cases rx
  cases y with
  | non=>cases ry;exact PySem.EqNone.ne_none_none (zO I q (by simp))
  | bl j=>cases ry;exact PySem.EqNone.ne_none_bool (zO I q (by simp))
  | int j=>obtain ⟨t',rfl⟩:=ry;exact PySem.EqNone.ne_none_int (zO I q (by simp))
  | str j=>obtain ⟨t',rfl⟩:=ry;exact PySem.EqNone.ne_none_str (zO I q (by simp))
  | _=>exact absurd (show false=true from hs) Bool.false_ne_true
 | bl i=>
  cases rx
  cases y with
  | non=>cases ry;exact PySem.EqNone.ne_bool_none (zO I q (by simp))
  | bl j=>cases ry;exact ne_bool (zO I q (congrArg not AQ))
  | str j=>obtain ⟨t',rfl⟩:=ry;exact PySem.EqMixed.ne_bool_str (zO I q (by simp))
  | _=>exact absurd (show false=true from hs) Bool.false_ne_true
 | int i=>
  obtain ⟨t,rfl⟩:=rx
  cases y with
  | non=>cases ry;exact PySem.EqNone.ne_int_none (zO I q (by simp))
  | int j=>obtain ⟨t',rfl⟩:=ry;exact ne_int (zO I q (congrArg not Yp))
  | str j=>obtain ⟨t',rfl⟩:=ry;exact PySem.EqMixed.ne_int_str (zO I q (by simp))
  | _=>exact absurd (show false=true from hs) Bool.false_ne_true
 | str i=>
  obtain ⟨t,rfl⟩:=rx
  cases y with
  | non=>cases ry;exact PySem.EqNone.ne_str_none (zO I q (by simp))
  | bl j=>cases ry;exact PySem.EqMixed.ne_str_bool (zO I q (by simp))
  | int j=>obtain ⟨t',rfl⟩:=ry;exact PySem.EqMixed.ne_str_int (zO I q (by simp))
  | str j=>obtain ⟨t',rfl⟩:=ry;exact ne_str (zO I q (congrArg not Yj))
  | _=>exact absurd (show false=true from hs) Bool.false_ne_true
 | byt i=>
  obtain ⟨t,rfl⟩:=rx
  cases y with
  | byt j=>obtain ⟨t',rfl⟩:=ry;exact PySem.W.ne_bytes (zO I q (congrArg not XC))
  | _=>exact absurd (show false=true from hs) Bool.false_ne_true
 | _=>cases y <;> exact absurd (show false=true from hs) Bool.false_ne_true
theorem wJ:OpR X (compareOp .Lt) (rI0 fun i j=>.bl (decide (i<j))):=DL fun _ _ _ _ _ _ _ q=>lt_int q
theorem FX:OpR X (compareOp .LtE) (rI0 fun i j=>.bl (decide (i<=j))):=DL fun _ _ _ _ _ _ _ q=>le_int q
theorem QC:OpR X (compareOp .Gt) (rI0 fun i j=>.bl (decide (j<i))):=DL fun _ _ _ _ _ _ _ q=>gt_int q
theorem FE:OpR X (compareOp .GtE) (rI0 fun i j=>.bl (decide (j<=i))):=DL fun _ _ _ _ _ _ _ q=>ge_int q
theorem zD (b:Expr){op:CmpOp}(h:op ≠ .In:=by decide)(h2:op ≠ .NotIn:=by decide):behindInMarks op b=false:=by
 have e1:(op == CmpOp.In)=false:=by cases op <;> first | rfl | exact absurd rfl h
 have e2:(op == CmpOp.NotIn)=false:=by cases op <;> first | rfl | exact absurd rfl h2
 cases b <;> simp [behindInMarks,e1,e2]
theorem xt {op:CmpOp}{r:R2}(ho:OpR X (compareOp op) r)(ha:PE X a ta)(hb:PE X b tb)(hm:behindInMarks op b=false):PE X (.Compare a [op] [b] pos) (tOp r ta tb):=by
 intro pins s σ H Q I h
 exact wpAny_Compare1 (GN ha hb I h fun v u s2 x y H2 I2 rx ry q=>ho pins s2 σ H2 x y v u Q I2 rx ry q) hm
noncomputable def wU (t:TE):TT:=fun σ H Q=>t σ H fun x H'=>∃ k,x=.bl k/\Q k H'
theorem zB {op:CmpOp}{r:R2}(ho:OpR X (compareOp op) r)(ha:PE X a ta)(hb:PE X b tb)(hm:behindInMarks op b=false):PT X (.Compare a [op] [b] pos) (wU (tOp r ta tb)):=by
 intro pins s σ H Q I h
 refine wpAny_isTrue_Compare1 (thn (ha pins s σ H _ I h) fun v s1 ⟨x,H1,I1,r1,q1⟩=>thn (hb pins s1 σ H1 _ I1 q1) fun u s2 ⟨y,H2,I2,r2,q2⟩=>
  thn (ho pins s2 σ H2 x y v u _ I2 r1 r2 q2) fun c s3 ⟨z,H3,I3,r3,k,e,q3⟩=>?_) hm
 subst e
 cases r3
 exact wpAny_truthy_bool ⟨H3,I3,q3⟩
noncomputable def BK (r r':R2)(ta tb tc:TE):TE:=fun σ H Q=>ta σ H fun x H1=>tb σ H1 fun y H2=>r x y H2 fun z H3=>∃ k,z=.bl k /\
 (if k=true then tc σ H3 fun w' H4=>r' y w' H4 Q else Q (.bl false) H3)
theorem WB {op op':CmpOp}{r r':R2}(ho:OpR X (compareOp op) r)(ho':OpR X (compareOp op') r')(ha:PE X a ta)(hb:PE X b tb)(hc:PE X c tc)
  (hm:lastMarks [op,op'] [b,c]=false:=by with_unfolding_all rfl):PE X (.Compare a [op,op'] [b,c] pos) (BK r r' ta tb tc):=by
 intro pins s σ H Q I h
 refine Compare_chain (thn (ha pins s σ H _ I h) fun v s1 ⟨x,H1,I1,r1,q1⟩=>chain_link (thn (hb pins s1 σ H1 _ I1 q1) fun u s2 ⟨y,H2,I2,r2,q2⟩=>
  thn (ho pins s2 σ H2 x y v u _ I2 r1 r2 q2) fun d s3 ⟨z,H3,I3,r3,k,e,q3⟩=>?_)) hm
 subst e
 cases r3
 refine wpAny_truthy_bool ?_
 cases k with
 | false=>exact ite_ff ⟨.bl false,H3,I3,rfl,q3⟩
 | true=>exact ite_tt (chain_last (thn (hc pins s3 σ H3 _ I3 q3) fun w' s4 ⟨z',H4,I4,r4,q4⟩=>ho' pins s4 σ H4 y z' u w' Q I4 r2 r4 q4))
theorem vH:(sizeLine:Nat)<2 ^ 63:=by rw [sizeLine_eq];decide
theorem jF {x:V}{us:List Value}(r:zE [x] us):∃ u,us=[u]/\zH x u:=by
 cases r with
 | cons r1 r2=>cases r2;exact ⟨_,rfl,r1⟩
theorem J8 {x y:V}{us:List Value}(r:zE [x,y] us):∃ u w',us=[u,w']/\zH x u/\zH y w':=by
 cases r with
 | cons r1 r2=>
  cases r2 with
  | cons r3 r4=>cases r4;exact ⟨_,_,rfl,r1,r3⟩
theorem wt:qH X (.builtin "abs") (fun xs H Q=>∃ i,xs=[.int i]/\Q (.int (if i<0 then -i else i)) H):=by
 intro pins s σ H xs us Q I r h
 obtain ⟨i,rfl,q⟩:=h
 obtain ⟨u,rfl,t,rfl⟩:=jF r
 exact call_abs_int fun u tk=>⟨.int (if i<0 then -i else i),H,I.tok _,⟨_,rfl⟩,q⟩
theorem wK (hc:X.calm=true):qH X (.builtin "max") (fun xs H Q=>∃ i j,xs=[.int i,.int j]/\Q (.int (if j > i then j else i)) H):=by
 intro pins s σ H xs us Q I r h
 obtain ⟨i,j,rfl,q⟩:=h
 obtain ⟨u,w',rfl,⟨t,rfl⟩,⟨t',rfl⟩⟩:=J8 r
 refine max_two_ints (I.ok.hd hc) fun h' tk k=>⟨_,H,I.kept k,?_,q⟩
 by_cases hj:j > i
 ·rw [if_pos hj,if_pos hj];exact ⟨_,rfl⟩
 ·rw [if_neg hj,if_neg hj];exact ⟨_,rfl⟩
theorem Y7:qH X (.type "int") (fun xs H Q=>(∃ i,xs=[.int i]/\Q (.int i) H) \/ ∃ k,xs=[.bl k]/\Q (.int (if k then 1 else 0)) H):=by
 intro pins s σ H xs us Q I r h
 rcases h with ⟨i,rfl,q⟩ | ⟨k,rfl,q⟩
 ·obtain ⟨u,rfl,t,rfl⟩:=jF r
  exact call_int_int ⟨.int i,H,I,⟨_,rfl⟩,q⟩
 ·obtain ⟨u,rfl,r1⟩:=jF r
  cases r1
  exact call_int_bool ⟨.int (if k then 1 else 0),H,I.tok _,⟨_,rfl⟩,q⟩
theorem Jv:qH X (.builtin "divmod") (fun xs H Q=>∃ i j,xs=[.int i,.int j]/\B7 i j/\∀ p,H p=none->Q (.ref p) (upd H p (.tup [.int (i / j),.int (i % j)]))):=by
 intro pins s σ H xs us Q I r h
 obtain ⟨i,j,rfl,⟨h1,h2⟩,q⟩:=h
 obtain ⟨u,w',rfl,⟨t,rfl⟩,⟨t',rfl⟩⟩:=J8 r
 refine divmod_int (by walk_at "o") ?_ (.inl (PyProof.noPylong_small (by walk_at "o")))
 rw [Int.fdiv_eq_ediv_of_nonneg i (by walk_at "o"),Int.fmod_eq_emod_of_nonneg i (by walk_at "o")]
 have hn:H s.heap.objs.size=none:=I.hok.fresh (Nat.le_refl _)
 refine ⟨.ref s.heap.objs.size,_,?_,rfl,q _ hn⟩
 refine I.laid (fun b o e=>Heap.get?_push_of_some _ e) (Nat.le_refl _) ⟨by simp only [List.length_cons,List.length_nil];rw [sizeLine_eq];decide,[.int (i / j) s.toks,.int (i % j) (s.toks+1)],.cons ⟨_,rfl⟩ (.cons ⟨_,rfl⟩ .nil),?_⟩
 exact ⟨_,Heap.get?_push_size s.heap rfl,rfl,⟨0,rfl⟩,rfl⟩
end
structure B8 (h:Heap)(x dx C:Addr)(mA:Str->Option Value):Prop where
 obj:h.get? x=some (PySem.W.instObj C dx)
 ns:h.Ns1 dx mA
 ne:dx ≠ x
theorem Y0 {h:Heap}{dx:Addr}{mA:Str->Option Value}(n:h.Ns1 dx mA):∃ od,h.get? dx=some od/\∀ name,PySem.W.lookIn name od=some (mA name):=by
 obtain ⟨o,es,ep,ho,hd,hk,_,hm⟩:=n
 refine ⟨o,ho,fun name=>?_⟩
 have e:=hm name
 unfold nsFind findBy at e
 rw [<- Array.find?_toList] at e
 unfold PySem.W.lookIn
 rw [hd]
 dsimp only
 split
 ·rename_i y q
  rw [q] at e
  exact congrArg some e
 ·rename_i q
  rw [q] at e
  have a:es.toList.any (·.refKey)=false:=by
   rw [List.any_eq_false]
   intro y hy
   obtain ⟨z,t,hkey⟩:=hk y (Array.mem_toList_iff.mp hy)
   simp [DictEntry.refKey,hkey]
  have a':¬ es.toList.any (·.refKey)=true:=by rw [a];exact Bool.false_ne_true
  rw [if_neg a']
  exact congrArg some e
theorem B8.look {h:Heap}{x dx C:Addr}{mA:Str->Option Value}(I:B8 h x dx C mA):∃ od,PySem.W.InstAt h x (PySem.W.instObj C dx) C (some od)/\∀ name,PySem.W.lookIn name od=some (mA name):=
 let ⟨od,ho,hl⟩:=Y0 I.ns
 ⟨od,⟨I.obj,rfl,rfl,ho⟩,hl⟩
section
variable {prog:Program}{w:World}{A:Around}{E:Value->Shared->Prop}{s:Shared}{K:PySem.W.Frag}{x dx C f:Addr}{mA:Str->Option Value}{name:Str}{v:Value}
theorem xS {ns:List Str}{Q:Unit->Shared->Prop}(X:K.In s.heap)(I:B8 s.heap x dx C mA)
  (hs:PySem.W.findIn K (.ref C) "__setattr__"=some (some (.builtin "object.__setattr__"))) (hp:PySem.W.plainOver K C=true) (ht:PySem.W.takerIn K C name=some none) (hh:PySem.W.hasDictIn K C=true)
  (hw:PySem.Within mA ns) (hsz:ns.length<=sizeLine)
  (h:∀ h',B8 h' x dx C (fun y=>if y=name then some v else mA y)->Heap.SameBut dx s.heap h'->Q () { s with heap:=h',toks:=s.toks+2 }) :
  wpAny (model prog w) A (setAttr (.ref x) name v) Q E s:=by
 obtain ⟨od,J,hl⟩:=I.look
 refine PySem.W.set_plain X J hs (PySem.W.osa_open (s:={ s with toks:=s.toks+1 }) (r:=none) X J hp ht fun b=>?_)
 obtain ⟨cd,hc,hd'⟩:=PySem.W.any_some hh
 have hx:s.heap.get? x=some ⟨.ref C,some dx,.plain,#[]⟩:=I.obj
 refine wpAny_bind (wpAny_pure (wpAny_bind (wpAny_bind (wpAny_loadPart hx (wpAny_bind (PySem.W.Looks.here (s:={ s with toks:=s.toks+1 }) (PySem.W.looks_clsIn X hc) ?_))))))
 rw [hd']
 refine wpAny_pure (a:=some dx) (wpAny_bind (wpAny_pure (wpAny_bind ?_)))
 refine wpAny_nsSet1 (s:={ s with toks:=s.toks+1 }) I.ns fun h' hn2 hs2=>?_
 obtain ⟨oD,esD,epD,hoD,hdD,hcD⟩:=hn2.count (PySem.Within.cons name v hw)
 refine wpAny_bind (wpAny_lookBehind hoD (by rw [hdD];exact pastItsLine_dict (Nat.le_trans hcD (by rw [List.length_cons];walk_at "o"))) ?_)
 exact wpAny_pure (h _ ⟨(hs2.2 _ (Ne.symm I.ne)).trans I.obj,hn2,I.ne⟩ hs2)
end
section
variable {P:Program}{w:World}{H H':Hp}{h h':Heap}{a C dx:Addr}{fs fs':List (Str × V)}
theorem DU (hok:HOk P w H h)(e:H a=some (.ins C dx fs)):∃ mA,B8 h a dx C mA/\(∀ f,Hs (fs.lookup f) (mA f))/\PySem.Within mA (fs.map (·.1))/\fs.length<=1000/\H dx=some (.own a):=by
 obtain ⟨d,z,ne,ob,mA,n,r,q⟩:=(show zX P w H h a (.ins C dx fs) from hok a _ e)
 exact ⟨mA,⟨ob,n,ne⟩,r,q,z,d⟩
end
structure Cls (K:PySem.W.Frag)(C:Addr):Prop where
 pg:PySem.W.plainGet K C Str.empty=true
 hd:PySem.W.hasDictIn K C=true
 po:PySem.W.plainOver K C=true
 sa:PySem.W.findIn K (.ref C) "__setattr__"=some (some (.builtin "object.__setattr__"))
theorem Cls.get {K:PySem.W.Frag}{C:Addr}(c:Cls K C)(f:Str):PySem.W.plainGet K C f=true:=c.pg
structure Con (K:PySem.W.Frag)(C:Addr)(f:Str)(v:V)(u:Value):Prop where
 at_:PySem.W.findIn K (.ref C) f=some (some u)
 rel:zH v u
 get:PySem.W.specialIn K u "__get__"=some none
 cp:PySem.W.copiedNames.contains f=false
structure LC (K:PySem.W.Frag)(C:Addr)(m:Str)(f:Addr):Prop where
 at_:PySem.W.findIn K (.ref C) m=some (some (.ref f))
 fn:PySem.W.isFn K (.ref f)=true
 kp:PySem.W.keepIn K (.ref f)=true
section
variable {X:Cx}{pins:List (Addr × Obj)}{σ:St}{H:Hp}{s:Shared}{a C dx:Addr}{fs:List (Str × V)}{f:Str}{v:V}{A:Around}{E:Value->Shared->Prop}
end
section
variable {X:Cx}{o e value:Expr}{f:Str}{pos pos' tpos:Pos}{ta tv:TE}
end
section
variable {X:Cx}{pins:List (Addr × Obj)}{σ:St}{H:Hp}{s:Shared}{A:Around}{E:Value->Shared->Prop}{Q:Value->Shared->Prop}{c:Value}{b:Bool}
inductive kJ (K:PySem.W.Frag) (H:Hp):V->Value->Prop where
  | non:kJ K H .non (.type "NoneType")
  | bl (x:Bool):kJ K H (.bl x) (.type "bool")
  | int (i:Int):kJ K H (.int i) (.type "int")
  | str (x:Str):kJ K H (.str x) (.type "str")
  | flt (x:UInt64):kJ K H (.flt x) (.type "float")
  | lst {a:Addr} {xs:List V} (e:H a=some (.lst xs)):kJ K H (.ref a) (.type "list")
  | frz {a:Addr} {o:Obj} {xs:List V} (e:H a=some (.frz o (.lst xs))):kJ K H (.ref a) (.type "list")
  | tup {a:Addr} {xs:List V} (e:H a=some (.tup xs)):kJ K H (.ref a) (.type "tuple")
  | dK {a:Addr} {kvs:List (Key × V)} (e:H a=some (.dK kvs)):kJ K H (.ref a) (.type "dict")
  | dT {a:Addr} {kvs:List (List Key × V)} (e:H a=some (.dT kvs)):kJ K H (.ref a) (.type "dict")
  | ins {a C dx : Addr} {fs : List (Str × V)} (e : H a = some (.ins C dx fs)) (cl : Cls K C) (ha : PySem.W.findIn K (.ref C) "__class__" = some (some (.builtin "object.__class__")))
      (hn:PySem.W.specialIn K (.builtin "object.__class__") "__get__"=some (some (.builtin "getset_descriptor.__get__"))) (htk:PySem.W.takesIn K (.builtin "object.__class__")=some true)
      (hm:PySem.W.mroIn K C (.type "object")=some true):kJ K H (.ref a) (.ref C)
theorem YV {x:V}{u t:Value}(I:Inv X pins σ H s)(rx:zH x u)(ty:kJ X.K H x t)(e:PySem.W.kitOne X.K t c=some b)(h:∀ tk,Q (.bool b) { s with toks:=tk }) :
  wpAny (model X.prog X.w) A (call (.builtin "isinstance") [u,c]) Q E s:=by
 cases ty with
 | non=>cases (show u=Value.none from rx);exact PySem.W.kia_one PySem.W.kitx_none I.kIn True.intro e (fun z=>nomatch z) h
 | bl y=>cases (show u=Value.bool y from rx);exact PySem.W.kia_one PySem.W.kitx_bool I.kIn True.intro e (fun z=>nomatch z) h
 | int i=>obtain ⟨t,q⟩:=(show ∃ t,u=Value.int i t from rx);cases q;exact PySem.W.kia_one PySem.W.kitx_int I.kIn True.intro e (fun z=>nomatch z) h
 | str y=>obtain ⟨t,q⟩:=(show ∃ t,u=Value.str y t from rx);cases q;exact PySem.W.kia_one PySem.W.kitx_str I.kIn True.intro e (fun z=>nomatch z) h
 | flt y=>obtain ⟨t,q⟩:=(show ∃ t,u=Value.float y t from rx);cases q;exact PySem.W.kia_one PySem.W.kitx_float I.kIn True.intro e (fun z=>nomatch z) h
 | @lst a xs ea=>
  cases (show u=Value.ref a from rx)
  obtain ⟨_,_,n,_,h1⟩:=(show zX X.prog X.w H s.heap a (.lst xs) from I.hok a _ ea)
  exact PySem.W.kia_one PySem.W.kitx_list I.kIn ⟨_,h1,rfl⟩ e (fun z=>nomatch z) h
 | @frz a ob xs ea=>
  cases (show u=Value.ref a from rx)
  obtain ⟨_,_,_,n,_,h1⟩:=(show zX X.prog X.w H s.heap a (.frz ob (.lst xs)) from I.hok a _ ea)
  exact PySem.W.kia_one PySem.W.kitx_list I.kIn ⟨_,h1,rfl⟩ e (fun z=>nomatch z) h
 | @tup a xs ea=>
  cases (show u=Value.ref a from rx)
  obtain ⟨_,_,_,p⟩:=(show zX X.prog X.w H s.heap a (.tup xs) from I.hok a _ ea)
  obtain ⟨o,h1,h2,_⟩:=p
  exact PySem.W.kia_one PySem.W.kitx_tuple I.kIn ⟨o,h1,h2⟩ e (fun z=>nomatch z) h
 | @dK a kvs ea=>
  cases (show u=Value.ref a from rx)
  obtain ⟨_,_,vs,_,p⟩:=(show zX X.prog X.w H s.heap a (.dK kvs) from I.hok a _ ea)
  obtain ⟨o,es,ep,h1,h2,_⟩:=p
  exact PySem.W.kia_one PySem.W.kitx_dict I.kIn ⟨o,h1,h2.1⟩ e (fun z=>nomatch z) h
 | @dT a kvs ea=>
  cases (show u=Value.ref a from rx)
  obtain ⟨_,_,xs,_,o,es,ep,h1,h2,_⟩:=(show zX X.prog X.w H s.heap a (.dT kvs) from I.hok a _ ea)
  exact PySem.W.kia_one PySem.W.kitx_dict I.kIn ⟨o,h1,h2.1⟩ e (fun z=>nomatch z) h
 | @ins a C dx fs ea cl ha hn htk hm=>
  cases (show u=Value.ref a from rx)
  obtain ⟨mA,O,_⟩:=DU I.hok ea
  obtain ⟨od,J,_⟩:=O.look
  exact PySem.W.kia_one (PySem.W.kitx_own (cl.get _) cl.hd ha hn htk hm) I.kIn J e (fun z=>nomatch z) h
end
structure jr (k:Nat)(A:Around):Prop where
 hd:A.handled=none
 gd:A.guards=some []
 dp:A.depth+3 * k+5<recursionLimit
 un:A.units+16 * k+200<cLine
theorem jr.mono {j k:Nat}{A:Around}(r:jr k A)(h:j<=k):jr j A:=⟨r.hd,r.gd,by have:=r.dp;walk_at "o",by have:=r.un;walk_at "o"⟩
theorem jr.deeper {k:Nat}{A:Around}(r:jr (k+1) A)(env:Env):jr k (A.deeper env):=
 ⟨r.hd,r.gd,by have:=r.dp;show A.depth+1+3 * k+5<_;walk_at "o",by have:=r.un;show A.units+3+16 * k+200<_;walk_at "o"⟩
theorem jr.depth {k:Nat}{A:Around}(r:jr k A):A.depth<recursionLimit:=by have:=r.dp;walk_at "o"
theorem jr.units {k:Nat}{A:Around}(r:jr k A):A.units+64<cLine:=by have:=r.un;walk_at "o"
noncomputable def Ip:TA:=fun _ H Q=>Q [] H
noncomputable def AD (ta:TE)(tr:TA):TA:=fun σ H Q=>ta σ H fun x H1=>tr σ H1 fun xs H2=>Q (x :: xs) H2
section
variable {X:Cx}{e:Expr}{es:List Expr}{te:TE}{t:TA}{pos:Pos}
theorem zb:PA X [] Ip:=fun _ _ _ _ H Q I h=>Calls.spliced_nil ⟨[],H,I,.nil,h⟩
theorem za (ha:PE X e te)(hr:PA X es t)(hs:starEach (e :: es) X.env=(false,eval e X.env) :: starEach es X.env:=by rfl):PA X (e :: es) (AD te t):=by
 intro pos pins s σ H Q I h
 rw [hs]
 show wpAny _ _ (spliced ((false,eval e X.env) :: backTo pos (starEach es X.env))) _ _ s
 refine Calls.spliced_cons (thn (ha pins s σ H _ I h) fun u s1 ⟨x,H1,I1,r1,q1⟩=>?_)
 exact thn (hr pos pins s1 σ H1 _ I1 q1) fun us s2 ⟨xs,H2,I2,r2,q2⟩=>⟨x :: xs,H2,I2,.cons r1 r2,q2⟩
noncomputable def GB (t:TA):TE:=fun σ H Q=>t σ H fun xs H1=>xs.length<=sizeLine/\∀ p,H1 p=none->Q (.ref p) (upd H1 p (.tup xs))
noncomputable def Ic (t:TA):TE:=fun σ H Q=>t σ H fun xs H1=>xs.length<=sizeLine/\∀ p,H1 p=none->Q (.ref p) (upd H1 p (.lst xs))
theorem kj {x1}(h:PA X es t):PE X (.Tuple es x1 pos) (GB t):=by
 intro pins s σ H Q I hq
 refine wpAny_Tuple_spliced (thn (h pos pins s σ H _ I hq) fun us s1 ⟨xs,H1,I1,r,z,q⟩=>⟨by rw [<- r.length];exact z,?_⟩)
 have hf:H1 s1.heap.objs.size=none:=I1.hok.fresh (Nat.le_refl _)
 refine ⟨.ref s1.heap.objs.size,upd H1 s1.heap.objs.size (.tup xs),I1.laid (t':=s1.toks) (fun b u e=>Heap.get?_push_of_some _ e) (Nat.le_refl _) ?_,rfl,q _ hf⟩
 exact ⟨z,us,r,⟨_,Heap.get?_push_size _ rfl,rfl,⟨_,rfl⟩,rfl⟩⟩
theorem qk (h:PA X es t):PE X (.List es pos) (Ic t):=by
 intro pins s σ H Q I hq
 refine wpAny_List_spliced (thn (h pos pins s σ H _ I hq) fun us s1 ⟨xs,H1,I1,r,z,q⟩=>⟨by rw [<- r.length];exact z,?_⟩)
 have hf:H1 s1.heap.objs.size=none:=I1.hok.fresh (Nat.le_refl _)
 refine ⟨.ref s1.heap.objs.size,upd H1 s1.heap.objs.size (.lst xs),I1.laid (t':=s1.toks) (fun b u e=>Heap.get?_push_of_some _ e) (Nat.le_refl _) ?_,rfl,q _ hf⟩
 exact ⟨z,us,0,r,Heap.get?_push_size _ rfl⟩
end
noncomputable abbrev Sp:=List V->Hp->VK->XK->Prop
noncomputable abbrev CXT:=List Env->Hp->Shared->XK->Value->Shared->Prop
structure Ea (P:Program)(w:World)(K:PySem.W.Frag)(mg:Str->Option Value)(base:Heap)(A:Around)(outer:List Env)(s:Shared)(H:Hp):Prop where
 frames:A.frames=some outer
 mod:Mod K mg base
 bs:∀ b o,base.get? b=some o->s.heap.get? b=some o/\H b=none
 bsz:base.objs.size<=s.heap.objs.size
 funs:s.heap.FunFrames base outer
 frf:∀ b ∈ frs outer,H b=none
 hok:HOk P w H s.heap
 bare:AllBare s.gens
noncomputable def CE (outer:List Env)(P:Program)(w:World)(H:Hp)(s:Shared)(Q:VK)(u:Value)(s':Shared):Prop:=
 ∃ v H',s'.os=s.os/\AllBare s'.gens/\Un (frs outer) [] H H' s.heap s'.heap/\HOk P w H' s'.heap/\zH v u/\Q v H'
noncomputable def CR (CX:CXT)(outer:List Env)(P:Program)(w:World)(H:Hp)(s:Shared)(Q:VK)(E:XK)(r:Result)(s':Shared):Prop:=
 match r with
 | .ok (.ret u)=>CE outer P w H s Q u s'
 | .ok _=>False
 | .error e=>CX outer H s E e s'
structure kz (P:Program)(w:World)(K:PySem.W.Frag)(mg:Str->Option Value)(base:Heap)(CX:CXT)(k:Nat)(f:Addr)(fd:FuncData)(ps:List Str)(sp:Sp):Prop where
 len:∀ vs H Q E,sp vs H Q E->vs.length=ps.length
 run:∀ (A:Around) (outer:List Env) (s:Shared) (H:Hp) (args:Args) (us:List Value) (vs:List V) (Q:VK) (E:XK),jr k A->Ea P w K mg base A outer s H->BindsTo s fd args (ps.zip us)->zE vs us->sp vs H Q E ->
  codeAny (model P w) A (.call (.ref f) args) (CR CX outer P w H s Q E) s
theorem kz.mono {P:Program}{w:World}{K:PySem.W.Frag}{mg:Str->Option Value}{base:Heap}{CX:CXT}{j k:Nat}{f:Addr}{fd:FuncData}{ps:List Str}{sp:Sp}(F:kz P w K mg base CX j f fd ps sp)(h:j<=k) :
  kz P w K mg base CX k f fd ps sp:=⟨F.len,fun A outer s H args us vs Q E hr=>F.run A outer s H args us vs Q E (hr.mono h)⟩
theorem kz.imp {P:Program}{w:World}{K:PySem.W.Frag}{mg:Str->Option Value}{base:Heap}{CX:CXT}{k:Nat}{f:Addr}{fd:FuncData}{ps:List Str}{sp sp':Sp}(F:kz P w K mg base CX k f fd ps sp)
  (h:∀ vs H Q E,sp' vs H Q E->sp vs H Q E):kz P w K mg base CX k f fd ps sp':=
 ⟨fun vs H Q E q=>F.len vs H Q E (h _ _ _ _ q),fun A outer s H args us vs Q E hr he hb hv hs=>F.run A outer s H args us vs Q E hr he hb hv (h _ _ _ _ hs)⟩
section
variable {X:Cx}{pins:List (Addr × Obj)}{σ:St}{H:Hp}{s s':Shared}
theorem Inv.env0 (I:Inv X pins σ H s):Ea X.prog X.w X.K X.mg X.base X.A X.stack s H:=
 ⟨I.ok.frames,I.ok.mod,I.bs,Nat.le_trans I.ok.bsz I.sz,I.stack,I.stkFree,I.hok,I.bare⟩
theorem Inv.after {Q:VK}{u:Value}(I:Inv X pins σ H s)(h:CE X.stack X.prog X.w H s Q u s'):EP X pins σ Q u s':=by
 obtain ⟨v,H',os,bare,un,hok,r,q⟩:=h
 obtain ⟨hh,g,d,t,os'⟩:=s'
 obtain rfl:os'=s.os:=os
 exact ⟨v,H',I.call (h':=hh) (g':=g) (d':=d) (t':=t) (ch:=[]) un hok bare (fun b z=>absurd z (by simp)),r,q⟩
end
noncomputable def YB (sp:Sp)(dvs:List V)(E:XK)(t:TA):TE:=fun σ H Q=>t σ H fun vs H1=>sp (vs ++ dvs) H1 Q E
noncomputable def yS (K:PySem.W.Frag)(fd:FuncData)(ps:List Str)(ds:List Value):Prop:=
 ∀ (s:Shared) (us:List Value),K.In s.heap->(us ++ ds).length=ps.length->BindsTo s fd ⟨us,[]⟩ (ps.zip (us ++ ds))
theorem yS.all {K:PySem.W.Frag}{fd:FuncData}{ps:List Str}(h:∀ us:List Value,us.length=ps.length->bindArgs fd ⟨us,[]⟩=pure (ps.zip us)):yS K fd ps []:=fun s us _ hl=>by
 rw [List.append_nil] at hl ⊢
 exact .of_eq (h us hl)
noncomputable def Qs (CX:CXT)(X:Cx)(E:XK):Prop:=∀ (pins:List (Addr × Obj)) (σ:St) (H:Hp) (s:Shared) (e:Value) (s':Shared),Inv X pins σ H s->CX X.stack H s E e s'->X.xe e s'
section
variable {X:Cx}{CX:CXT}{k:Nat}{f C:Addr}{fd:FuncData}{ps:List Str}{sp:Sp}{dvs:List V}{ds:List Value}{E:XK}{x m:Str}{p pos apos:Pos}{e o:Expr}{es:List Expr}{ta:TE}{t:TA}
theorem GO {pins:List (Addr × Obj)}{σ:St}{H:Hp}{s:Shared}{Q:VK}{us:List Value}{vs:List V}(F:kz X.prog X.w X.K X.mg X.base CX k f fd ps sp)(hr:jr k X.A)(hb:yS X.K fd ps ds)(hd:zE dvs ds)(hx:Qs CX X E)
  (I:Inv X pins σ H s) (r:zE vs us) (h:sp (vs ++ dvs) H Q E):wpAny (model X.prog X.w) X.A (call (.ref f) us) (EP X pins σ Q) X.xe s:=by
 have r2:zE (vs ++ dvs) (us ++ ds):=r.append hd
 have hl:(us ++ ds).length=ps.length:=by rw [<- r2.length];exact F.len _ _ _ _ h
 refine wpAny_call (codeAny_mono (F.run X.A X.stack s H ⟨us,[]⟩ (us ++ ds) (vs ++ dvs) Q E hr I.env0 (hb s us I.kIn hl) r2 h) fun r s' hq=>?_)
 cases r with
 | error e=>exact hx pins σ H s e s' I hq
 | ok fl=>
  cases fl with
  | ret u=>exact I.after hq
  | next=>exact False.elim hq
  | brk=>exact False.elim hq
  | cont=>exact False.elim hq
theorem El (F:kz X.prog X.w X.K X.mg X.base CX k f fd ps sp)(hr:jr k X.A)(hg:Gl X x)(hm:X.mg x=some (.ref f))(hk:PySem.W.keepIn X.K (.ref f)=true)(hb:yS X.K fd ps ds)(hd:zE dvs ds)(hx:Qs CX X E)
  (ha:PA X (e :: es) t) (hdb:(x == ("__debug__":Str))=false:=by decide) (he:starEach (e :: es) X.env=(false,eval e X.env) :: starEach es X.env:=by rfl) (hpl:(backTo pos (starEach es X.env)).any (·.1)=false:=by rfl) :
  PE X (.Call (.Name x p) (e :: es) [] pos) (YB sp dvs E t):=by
 intro pins s σ H Q I h
 refine wpAny_Call_Name_kw (ZI I hg hm ?_ hdb)
 refine PySem.W.callWith_K (h₀:=X.base) I.ok.mod.kin hk (thn (ha pos pins s σ H _ I h) fun us s1 ⟨vs,H1,I1,r,q⟩=>⟨I1.kIn,?_⟩) he hpl
 exact GO F hr hb hd hx I1 r q
structure Mk (K:PySem.W.Frag)(C f:Addr):Prop where
 makes:PySem.W.makesIn K C=true
 init:PySem.W.findIn K (.ref C) "__init__"=some (some (.ref f))
 fn:PySem.W.isFn K (.ref f)=true
 kp:PySem.W.keepIn K (.ref C)=true
end
section
variable {X:Cx}{CX:CXT}{k:Nat}{f C:Addr}{fd:FuncData}{ps ks:List Str}{sp:Sp}{E:XK}{x m:Str}{p pos apos kpos:Pos}{e o:Expr}{es:List Expr}{kws:List Keyword}{te ta:TE}{t tk:TA}{nm:Option Str}
structure Lv (K:PySem.W.Frag)(fd:FuncData)(ps ks:List Str)(g:List Value->List Value->List Value)(gV:List V->List V->List V):Prop where
 to:∀ (s:Shared) (us ws:List Value),K.In s.heap->(g us ws).length=ps.length->BindsTo s fd ⟨us,ks.zip ws⟩ (ps.zip (g us ws))
 rel:∀ {vs:List V} {us:List Value} {zs:List V} {ws:List Value},zE vs us->zE zs ws->zE (gV vs zs) (g us ws)
variable {g:List Value->List Value->List Value}{gV:List V->List V->List V}
end
structure zw (N P:List Str)(sc:Scope):Prop where
 kind:sc.kind=.function
 co:sc.isCoroutine=false
 gen:sc.isGenerator=false
 nd:N.Nodup
 pre:N.take P.length=P
 par:∀ x ∈ P,sc.names.lookup x=some .local \/ sc.names.lookup x=some .cell
 nofree:∀ y ∈ sc.names,y.2 ≠ .free
theorem Zu {kindOf:Str->Option NameKind}{x:Str}:∀ {binds:List (Str × Value)} {m:Str->Option Value},(∀ v,(x,v) ∉ binds)->bindL kindOf binds m x=m x
 | [],_,_=>rfl
 | (n,v) :: r,m,h=>by
  unfold bindL
  rw [Zu fun w hw=>h w (List.mem_cons_of_mem _ hw)]
  split
  ·have:x ≠ n:=by rintro rfl;exact h v List.mem_cons_self
   simp [this]
  ·rfl
theorem wO {kindOf:Str->Option NameKind}{x:Str}:∀ {binds:List (Str × Value)} {m:Str->Option Value},(∀ v,(x,v) ∉ binds)->bindC kindOf binds m x=m x
 | [],_,_=>rfl
 | (n,v) :: r,m,h=>by
  unfold bindC
  rw [wO fun w hw=>h w (List.mem_cons_of_mem _ hw)]
  split
  ·rfl
  ·have:x ≠ n:=by rintro rfl;exact h v List.mem_cons_self
   simp [this]
theorem wM {kindOf:Str->Option NameKind}{x:Str}{v:Value}:∀ {P:List Str} {vs:List Value} {i:Nat} {m:Str->Option Value},P.Nodup->P[i]?=some x->vs[i]?=some v->kindOf x=some .local ->
  bindL kindOf (P.zip vs) m x=some v
 | [],_,_,_,_,h,_,_=>by simp at h
 | _ :: _,[],_,_,_,_,h,_=>by simp at h
 | p :: P,w :: vs,0,m,nd,h1,h2,hk=>by
  simp at h1 h2;subst h1;subst h2
  show bindL kindOf ((p,w) :: P.zip vs) m p=_
  unfold bindL
  rw [Zu fun v hv=>(List.nodup_cons.mp nd).1 (List.of_mem_zip hv).1,if_pos hk]
  simp
 | p :: P,w :: vs,i+1,m,nd,h1,h2,hk=>by
  show bindL kindOf ((p,w) :: P.zip vs) m x=_
  unfold bindL
  exact wM (i:=i) (List.nodup_cons.mp nd).2 (by simpa using h1) (by simpa using h2) hk
theorem wW {kindOf:Str->Option NameKind}{x:Str}{v:Value}:∀ {P:List Str} {vs:List Value} {i:Nat} {m:Str->Option Value},P.Nodup->P[i]?=some x->vs[i]?=some v->kindOf x ≠ some .local ->
  bindC kindOf (P.zip vs) m x=some v
 | [],_,_,_,_,h,_,_=>by simp at h
 | _ :: _,[],_,_,_,_,h,_=>by simp at h
 | p :: P,w :: vs,0,m,nd,h1,h2,hk=>by
  simp at h1 h2;subst h1;subst h2
  show bindC kindOf ((p,w) :: P.zip vs) m p=_
  unfold bindC
  rw [wO fun v hv=>(List.nodup_cons.mp nd).1 (List.of_mem_zip hv).1,if_neg hk]
  simp
 | p :: P,w :: vs,i+1,m,nd,h1,h2,hk=>by
  show bindC kindOf ((p,w) :: P.zip vs) m x=_
  unfold bindC
  exact wW (i:=i) (List.nodup_cons.mp nd).2 (by simpa using h1) (by simpa using h2) hk
noncomputable def start (N:List Str)(vs:List V):St:=vs.map some ++ List.replicate (N.length - vs.length) none
noncomputable def yC (CX:CXT)(P:Program)(w:World)(K:PySem.W.Frag)(mg:Str->Option Value)(base:Heap)(N:List Str)(qual:Str)(scope:Scope)(f:Addr)(cd:Value)(A:Around)(outer:List Env)(s:Shared)(H:Hp)(E:XK):Cx where
 prog:=P
 w:=w
 K:=K
 mg:=mg
 base:=base
 A:=A.deeper (envOfC qual scope s.heap.objs.size f cd)
 N:=N
 s₀:=s
 H₀:=H
 env:=envOfC qual scope s.heap.objs.size f cd
 outer:=outer
 stack:=envOfC qual scope s.heap.objs.size f cd :: outer
 ex:=[]
 calm:=true
 fn:=fun _=>true
 pn:=[]
 xe:=fun e s'=>wpAny (model P w) (A.deeper (envOfC qual scope s.heap.objs.size f cd)) (leaving (envOfC qual scope s.heap.objs.size f cd) e) (fun _ s''=>CX outer H s E e s'') (fun e' s''=>CX outer H s E e' s'') s'
theorem QT {sc:Scope}{n:Nat}{x:Str}(h:sc.names.lookup x=some .cell):∃ c,(cellsFrom n sc.names []).lookup x=some c:=by
 have q:=PySem.W.cellsFrom_some sc.names n [] (.inl h)
 exact Option.isSome_iff_exists.mp q
theorem Ve {CX : CXT}{P : Program}{w : World}{K : PySem.W.Frag}{mg : Str -> Option Value}{base : Heap}{N ps : List Str}{qual : Str}{scope : Scope}{f : Addr}{cd : Value}{A : Around}{outer : List Env}{s s1 : Shared}{H : Hp}{E : XK}{us : List Value}{vs : List V}
    (S:zw N ps scope) (hd:A.handled=none) (e0:Ea P w K mg base A outer s H) (hl:vs.length=ps.length) (r:zE vs us)
    (x:InCallC s s.heap.objs.size (bindL (envOfC qual scope s.heap.objs.size f cd).kindOf (ps.zip us) fun _=>none) (cellsFrom (s.heap.objs.size+1) scope.names []) (bindC (envOfC qual scope s.heap.objs.size f cd).kindOf (ps.zip us) fun _=>none) s1) :
    Inv (yC CX P w K mg base N qual scope f cd A outer s H E) [] (start N vs) H s1:=by
  have hpl:ps.length<=N.length:=by have:=congrArg List.length S.pre;rw [List.length_take] at this;walk_at "o"
  obtain ⟨h1,tk,rfl,hk⟩:=x.done
  have noA:∀ b:Addr,b ∉ (yC CX P w K mg base N qual scope f cd A outer s H E).ex:=fun b z=>absurd (show b ∈ ([]:List Addr) from z) (by simp)
  refine ⟨⟨e0.mod,S.kind,rfl,rfl,Nat.le_refl _,fun y z c h1 h2=>?_,fun y hy=>?_,fun y c _ h=>?_,fun _=>hd,Around.frames_deeper e0.frames,.inr ⟨rfl,rfl⟩,fun b z=>absurd z (noA b),e0.bs,e0.bsz,fun b _ _=>noA b,fun b z=>absurd z (noA b),e0.funs,e0.frf⟩,
    rfl,e0.bare,Un.kept hk,⟨_,x.toInCall.ns,fun i y v h1 h2 h3=>?_⟩,fun y c h=>⟨_,x.cell y c h⟩,e0.hok.fresh (Nat.le_refl _),fun y c h=>?_,fun p hp=>absurd (show p ∈ ([]:List (Addr × Obj)) from hp) (by simp),e0.hok.kept hk,?_⟩
  · exact name_of_addr x.apart (PySem.mem_of_lookup h1) (PySem.mem_of_lookup h2)
  · have hy:scope.names.lookup y=some .cell \/ scope.names.lookup y=some .free:=hy
    rcases hy with hy | hy
    · exact QT hy
    · exact absurd rfl (S.nofree _ (PySem.mem_of_lookup hy))
  · exact Nat.le_of_lt (x.above y c (PySem.mem_of_lookup h))
  · have hi : i < vs.length := by
      unfold start at h2
      by_cases hi:i<vs.length
      · exact hi
      · rw [List.getElem?_append_right (by simpa using hi)] at h2
        rw [List.getElem?_replicate] at h2
        split at h2 <;> cases h2
    have ha:vs[i]?=some v:=by
      unfold start at h2
      rw [List.getElem?_append_left (by simpa using hi),List.getElem?_map] at h2
      cases e:vs[i]? with
      | none=>rw [e] at h2;cases h2
      | some a=>rw [e] at h2;cases h2;rfl
    obtain ⟨u,hu,rv⟩:=r.get ha
    have hp:ps[i]?=some y:=by
      rw [<- S.pre,List.getElem?_take_of_lt (by walk_at "o")];exact h1
    have ndP:ps.Nodup:=by rw [<- S.pre];exact S.nd.sublist (List.take_sublist _ _)
    refine ⟨u,rv,?_⟩
    rcases S.par y (List.mem_of_getElem? hp) with k | k
    · exact .inl ⟨k,wM ndP hp hu k⟩
    · obtain ⟨c,e⟩:=QT (n:=s.heap.objs.size+1) k
      refine .inr ⟨.inl k,c,e,?_⟩
      have q:=x.cell y c e
      rw [wW ndP hp hu (by show scope.names.lookup y ≠ _;rw [k];decide)] at q
      exact q
  · exact e0.hok.fresh (Nat.le_of_lt (x.above y c (PySem.mem_of_lookup h)))
  · unfold start
    show _=N.length
    rw [List.length_append,List.length_map,List.length_replicate]
    walk_at "o"
theorem FS {CX:CXT}{P:Program}{w:World}{K:PySem.W.Frag}{mg:Str->Option Value}{base:Heap}{k:Nat}{f:Addr}{name qual:Str}{params:Arguments}{body:List Stmt}{scope:Scope}{dV kV doc pm cdv ct oc:Value}{an od:Option Addr}
  {osl:Array (Option Value)} {N ps:List Str} {sp:Sp} (lk:K.lookup f=some ⟨oc,od,.func (PySem.W.fnOf name qual params body scope dV kV doc pm an cdv ct),osl⟩) (hcd:PySem.W.codeIn K cdv qual=true) (S:zw N ps scope)
  (len:∀ vs H Q E,sp vs H Q E->vs.length=ps.length)
  (hbody:∀ (A:Around) (outer:List Env) (s:Shared) (H:Hp) (vs:List V) (Q:VK) (E:XK),jr k (A.deeper (envOfC qual scope s.heap.objs.size f cdv))->sp vs H Q E ->
   ∃ t,PSs (yC CX P w K mg base N qual scope f cdv A outer s H E) body t/\t { nx:=fun _ H'=>Q .non H',rt:=Q } (start N vs) H) :
  kz P w K mg base CX (k+1) f (PySem.W.fnOf name qual params body scope dV kV doc pm an cdv ct) ps sp:=by
 refine ⟨len,fun A outer s H args us vs Q E hr e0 hb r hsp=>?_⟩
 have hl:=len _ _ _ _ hsp
 have KX:K.In s.heap:=e0.mod.kin.keeps fun b o e=>(e0.bs b o e).1
 have lim:s.heap.NoLimit:=e0.mod.nolimit.keeps fun b o e=>(e0.bs b o e).1
 have hkind:∀ y ∈ ps.zip us,scope.names.lookup y.1=some .local \/ (scope.names.lookup y.1=some .cell/\((cellsFrom (s.heap.objs.size+1) scope.names []).lookup y.1).isSome=true):=fun ⟨n,v⟩ hy=>by
  rcases S.par n (List.of_mem_zip hy).1 with q | q
  ·exact .inl q
  ·exact .inr ⟨q,PySem.W.cellsFrom_some _ _ _ (.inl q)⟩
 refine codeAny_call_function hr.depth (KX _ _ lk) rfl S.co S.gen rfl (PySem.W.codeRec_of KX hcd) (hb _ _ _ _ ?_)
 refine wpAny_newFunctionEnv_cells S.kind hkind fun env he s1 x=>?_
 subst he
 refine ⟨lim.keeps x.toInCall.keep,codeAny_func ?_⟩
 obtain ⟨t,ht,hq⟩:=hbody A outer s H vs Q E (hr.deeper _) hsp
 have I:Inv (yC CX P w K mg base N qual scope f cdv A outer s H E) [] (start N vs) H s1:=Ve S hr.hd e0 hl r x
 refine wpAny_mono (ht [] s1 (start N vs) H _ I hq) (fun fl s' hs=>?_) fun e s' hs=>hs
 have fin:∀ {σ':St} {H':Hp} {v:V} {u:Value},Inv (yC CX P w K mg base N qual scope f cdv A outer s H E) [] σ' H' s'->zH v u->Q v H'->CE outer P w H s Q u s':=
  fun {σ' H' v u} J rv q=>⟨v,H',J.os,J.bare,J.base,J.hok,rv,q⟩
 cases fl with
 | ret u=>
  obtain ⟨v,σ',H',J,rv,q⟩:=hs
  exact fin J rv q
 | next=>
  obtain ⟨σ',H',J,q⟩:=hs
  exact fin (v:=V.non) (u:=Value.none) J rfl q
 | brk=>
  obtain ⟨_,_,_,q⟩:=hs
  exact False.elim q
 | cont=>
  obtain ⟨_,_,_,q⟩:=hs
  exact False.elim q
section
variable {X:Cx}{x:Str}{p pos:Pos}{e:Expr}{es:List Expr}{t:TA}{id T:String}{r:List V->Hp->VK->Prop}
noncomputable def tCB (r:List V->Hp->VK->Prop)(t:TA):TE:=fun σ H Q=>t σ H fun vs H1=>r vs H1 Q
theorem zn (hc:qH X (.builtin id) r)(hg:Gl X x)(hm:X.mg x=none)(hv:bootBuiltins x=some (.builtin id))(ha:PA X (e :: es) t)(hn:x ≠ "__name__":=by decide)(hdb:(x == ("__debug__":Str))=false:=by decide)
  (he:starEach (e :: es) X.env=(false,eval e X.env) :: starEach es X.env:=by rfl) (hpl:(backTo pos (starEach es X.env)).any (·.1)=false:=by rfl):PE X (.Call (.Name x p) (e :: es) [] pos) (tCB r t):=by
 intro pins s σ H Q I h
 refine wpAny_Call_Name_kw (kL I hg hm hv ?_ hn hdb)
 exact PyProof.Rows.callWith_builtin1 (thn (ha pos pins s σ H _ I h) fun us s1 ⟨vs,H1,I1,r1,q1⟩=>hc pins s1 σ H1 vs us Q I1 r1 q1) he hpl
theorem zR (hc:qH X (.type T) r)(hg:Gl X x)(hm:X.mg x=none)(hv:bootBuiltins x=some (.type T))(ha:PA X (e :: es) t)(hn:x ≠ "__name__":=by decide)(hdb:(x == ("__debug__":Str))=false:=by decide)
  (he:starEach (e :: es) X.env=(false,eval e X.env) :: starEach es X.env:=by rfl) (hpl:(backTo pos (starEach es X.env)).any (·.1)=false:=by rfl):PE X (.Call (.Name x p) (e :: es) [] pos) (tCB r t):=by
 intro pins s σ H Q I h
 refine wpAny_Call_Name_kw (kL I hg hm hv ?_ hn hdb)
 exact PyProof.Rows.callWith_type1 (thn (ha pos pins s σ H _ I h) fun us s1 ⟨vs,H1,I1,r1,q1⟩=>hc pins s1 σ H1 vs us Q I1 r1 q1) he hpl
end
end L2
namespace HT
open PySem PyProof.Rows
section
open PySem.SeqAt
open PySem.AutoSeq1 (wpAny_loadPart')
open PySem.MeetsSeq PySem.MeetsSeq2 PySem.MeetsSeq3
end
section
variable {prog:Program}{w:World}{A:Around}{E:Value->Shared->Prop}{s:Shared}
noncomputable def sIx (n d:Nat):Option Int->Nat
 | none=>d
 | some v=>if v<0 then (v+(n:Int)).toNat else min v.toNat n
theorem sIx_none (n d:Nat):sIx n d none=d:=rfl
theorem sIx_nat (n d k:Nat):sIx n d (some (k:Int))=min k n:=by
 show (if (k:Int)<0 then ((k:Int)+(n:Int)).toNat else min (k:Int).toNat n)=min k n
 rw [if_neg (by walk_at "o"),Int.toNat_natCast]
end
end HT
namespace L2
open PySem PySem.Spec PyProof.Rows
noncomputable abbrev TO:=St->Hp->(Option Int->Hp->Prop)->Prop
noncomputable def PO (X:Cx)(e:Option Expr)(t:TO):Prop:=
 ∀ (pins:List (Addr × Obj)) (s:Shared) (σ:St) (H:Hp) (Q:Option Int->Hp->Prop),Inv X pins σ H s->t σ H Q ->
  wpAny (model X.prog X.w) X.A (evalPart e X.env) (fun u s'=>∃ o H',Inv X pins σ H' s'/\IsPart u o/\Q o H') X.xe s
noncomputable def ZG:TO:=fun _ H Q=>Q none H
noncomputable def BO (t:TE):TO:=fun σ H Q=>t σ H fun x H1=>∃ i,x=.int i/\Q (some i) H1
theorem xI {ns:List Int}:∀ {us:List Value},zE (ns.map V.int) us->IntsAre us ns:=by
 induction ns with
 | nil=>intro us r;rw [List.map_nil] at r;cases r;exact .nil
 | cons n ns ih=>
  intro us r
  rw [List.map_cons] at r
  cases r with
  | cons r1 r2=>
   obtain ⟨t,e⟩:=r1
   subst e
   exact .cons n t (ih r2)
section
variable {X:Cx}{e:Expr}{te:TE}{lo hi:Option Expr}{tl th:TO}{pos p2:Pos}
theorem yh:PO X none ZG:=by
 intro pins s σ H Q I h
 rw [evalPart_none]
 exact wpAny_pure ⟨none,H,I,.none,h⟩
theorem jD (h:PE X e te):PO X (some e) (BO te):=by
 intro pins s σ H Q I hw
 rw [evalPart_some]
 refine thn (h pins s σ H _ I hw) fun u s1 ⟨x,H1,I1,r1,q1⟩=>?_
 obtain ⟨i,rfl,q⟩:=q1
 obtain ⟨t,rfl⟩:=r1
 exact ⟨some i,H1,I1,.int i t,q⟩
noncomputable def SlR (X:Cx)(r:V->Option Int->Option Int->Hp->VK->Prop):Prop:=
 ∀ (pins:List (Addr × Obj)) (s:Shared) (σ:St) (H:Hp) (x:V) (v vl vu:Value) (lo hi:Option Int) (sl:Addr) (Q:VK),Inv X pins σ H s->zH x v->s.heap.IsSliceOf sl vl vu .none->IsPart vl lo->IsPart vu hi->r x lo hi H Q ->
  ∃ T id,typeLookup (.type T) "__getitem__"=pure (some (.builtin id))/\s.TypeIs v T/\wpAny (model X.prog X.w) X.A (getItem v (.ref sl)) (EP X pins σ Q) X.xe s
noncomputable def tSl (r:V->Option Int->Option Int->Hp->VK->Prop)(te:TE)(tl th:TO):TE:=fun σ H Q=>te σ H fun x H1=>tl σ H1 fun l H2=>th σ H2 fun u H3=>r x l u H3 Q
theorem kS {r:V->Option Int->Option Int->Hp->VK->Prop}(hr:SlR X r)(he:PE X e te)(hl:PO X lo tl)(hu:PO X hi th):PE X (.Subscript e (.Slice lo hi none p2) pos) (tSl r te tl th):=by
 intro pins s σ H Q I h
 refine Subscript_ (thn (he pins s σ H _ I h) fun v s1 ⟨x,H1,I1,r1,q1⟩=>?_)
 refine wpAny_Slice (thn (hl pins s1 σ H1 _ I1 q1) fun vl s2 ⟨l,H2,I2,pl,q2⟩=>thn (hu pins s2 σ H2 _ I2 q2) fun vu s3 ⟨u,H3,I3,pu,q3⟩=>?_)
 rw [evalPart_none]
 refine wpAny_pure ?_
 have I4:Inv X pins σ H3 { s3 with heap:=s3.heap.push { cls:=.type "slice",data:=.fields #[vl,vu,.none] } }:=I3.kept (t':=s3.toks) fun b ob q=>Heap.get?_push_of_some _ q
 obtain ⟨T,id,hT,ht,hg⟩:=hr pins { s3 with heap:=s3.heap.push { cls:=.type "slice",data:=.fields #[vl,vu,.none] } } σ H3 x v vl vu l u s3.heap.objs.size Q I4 r1 (Heap.IsSliceOf.new ..) pl pu q3
 show wpAny (model X.prog X.w) X.A (subscriptTail e (.Slice lo hi none p2) v (.ref s3.heap.objs.size)) (EP X pins σ Q) X.xe { s3 with heap:=s3.heap.push { cls:=.type "slice",data:=.fields #[vl,vu,.none] } }
 exact tail_any (ops:=[.ref s3.heap.objs.size,v]) ht hT hg (by with_unfolding_all rfl)
noncomputable def ZD (xs:List V)(lo hi:Option Int):List V:=(xs.drop (HT.sIx xs.length 0 lo)).take (HT.sIx xs.length xs.length hi - HT.sIx xs.length 0 lo)
theorem QV (xs:List V)(lo hi:Option Int):(ZD xs lo hi).length<=xs.length:=by
 unfold ZD
 rw [List.length_take,List.length_drop]
 walk_at "o"
end
noncomputable def ixN (n:Nat)(i:Int):Option Nat:=if 0<=i then (if i<n then some i.toNat else none) else if -(n:Int)<=i then some (i+n).toNat else none
noncomputable def atI {α:Type}(xs:List α)(i:Int):Option α:=(ixN xs.length i).bind fun j=>xs[j]?
theorem Yu {n:Nat}{i:Int}{j:Nat}(h:ixN n i=some j):seqIndex? i n=some j/\j<n/\-(n:Int)<=i/\i<n:=by
 unfold ixN at h
 by_cases h0:0<=i
 ·rw [if_pos h0] at h
  by_cases h1:i<n
  ·rw [if_pos h1] at h
   have e:i.toNat=j:=Option.some.inj h
   exact ⟨by rw [seqIndex_of h0 h1,e],by walk_at "o",by walk_at "o",h1⟩
  ·rw [if_neg h1] at h;cases h
 ·rw [if_neg h0] at h
  by_cases h1:-(n:Int)<=i
  ·rw [if_pos h1] at h
   have e:(i+n).toNat=j:=Option.some.inj h
   exact ⟨by rw [seqIndex_neg (by walk_at "o") h1,e],by walk_at "o",h1,by walk_at "o"⟩
  ·rw [if_neg h1] at h;cases h
theorem Yw {α:Type}{xs:List α}{i:Int}{v:α}(h:atI xs i=some v):∃ j,seqIndex? i xs.length=some j/\xs[j]?=some v/\j<xs.length/\-(xs.length:Int)<=i/\i<xs.length:=by
 unfold atI at h
 cases e:ixN xs.length i with
 | none=>rw [e] at h;cases h
 | some j=>
  rw [e] at h
  obtain ⟨h1,h2,h3,h4⟩:=Yu e
  exact ⟨j,h1,h,h2,h3,h4⟩
theorem EZ {α:Type}{xs:List α}{j:Nat}{v:α}(h:xs[j]?=some v):atI xs (j:Int)=some v:=by
 have hj:j<xs.length:=(List.getElem?_eq_some_iff.mp h).1
 have e:ixN xs.length (j:Int)=some j:=by
  unfold ixN
  rw [if_pos (by walk_at "o"),if_pos (by walk_at "o")];simp
 unfold atI;rw [e];exact h
noncomputable def Fb (b:Expr):Prop:=∀ o i,subscripted b false o i=operate [o,i] (getItem o i)
noncomputable def IxR (X:Cx)(r:R2):Prop:=
 ∀ (value slice:Expr) (pins:List (Addr × Obj)) (s:Shared) (σ:St) (H:Hp) (x y:V) (v u:Value) (Q:VK),Inv X pins σ H s->zH x v->zH y u->r x y H Q ->
  subscripted slice false v u=operate [v,u] (getItem v u)->wpAny (model X.prog X.w) X.A (subscriptTail value slice v u) (EP X pins σ Q) X.xe s
noncomputable def MtR (X:Cx)(id:String)(r:V->List V->Hp->VK->Prop):Prop:=
 ∀ (pins:List (Addr × Obj)) (s:Shared) (σ:St) (H:Hp) (x:V) (xs:List V) (v:Value) (us:List Value) (Q:VK),Inv X pins σ H s->zH x v->zE xs us->r x xs H Q ->
  wpAny (model X.prog X.w) X.A (call (.builtin id) (v :: us)) (EP X pins σ Q) X.xe s
section
variable {X:Cx}{a b:Expr}{ta tb:TE}{pos:Pos}
theorem zJ {r:R2}(hr:IxR X r)(ha:PE X a ta)(hb:PE X b tb)(hs:Fb b):PE X (.Subscript a b pos) (tOp r ta tb):=by
 intro pins s σ H Q I h
 exact Subscript_ (GN ha hb I h fun v u s2 x y H2 I2 rx ry q=>hr a b pins s2 σ H2 x y v u Q I2 rx ry q (hs _ _))
noncomputable def IY (K:PySem.W.Frag):R2:=fun x y H Q=>∃ p xs i v,x=.ref p/\y=.int i/\SqL K H p xs/\atI xs i=some v/\Q v H
noncomputable def Iz (K:PySem.W.Frag):R2:=fun x y H Q=>∃ p xs i v,x=.ref p/\y=.int i/\SqT K H p xs/\atI xs i=some v/\Q v H
theorem zU:IxR X (IY X.K):=by
  intro value slice pins s σ H x y v u Q I rx ry h hs
  obtain ⟨p,xs,i,z,rfl,rfl,hq,he,q⟩:=h
  cases rx
  obtain ⟨t,rfl⟩:=ry
  obtain ⟨its,r,pl,hz⟩:=I.list hq
  obtain ⟨j,h1,h2,h3,h4,h5⟩:=Yw he
  obtain ⟨w,ew,rw'⟩:=r.get h2
  have hl:=r.length
  have hn:=vH
  have fin:EP X pins σ Q w s:=⟨z,H,I,rw',q⟩
  by_cases h0:0<=i
  · have hj : i.toNat = j := by
      rw [seqIndex_of h0 h5] at h1
      exact Option.some.inj h1
    exact item_listR pl.isList h0 (by walk_at "o") (by rw [hj];simpa using ew) fin hs
  · have hj : (i + (its.toArray.size : Int)).toNat = j := by
      rw [seqIndex_neg (by walk_at "o") h4] at h1
      rw [List.size_toArray,<- hl]
      exact Option.some.inj h1
    exact subscriptTail_builtinR (x:=w) pl.isList.typeIs slot_list_getitem.lookup
      (wpAny_getItem_list_neg (Q:=fun r s'=>r=w/\EP X pins σ Q r s') pl.isList (by walk_at "o") (by rw [List.size_toArray] <;> walk_at "o") (by walk_at "o") (by rw [hj];simpa using ew) ⟨rfl,fin⟩) hs
theorem Km:IxR X (Iz X.K):=by
 intro value slice pins s σ H x y v u Q I rx ry h hs
 obtain ⟨p,xs,i,z,rfl,rfl,hq,he,q⟩:=h
 cases rx
 obtain ⟨t,rfl⟩:=ry
 obtain ⟨its,r,pl,hz⟩:=I.tuple hq
 obtain ⟨j,h1,h2,h3,h4,h5⟩:=Yw he
 obtain ⟨w,ew,rw'⟩:=r.get h2
 have hl:=r.length
 have hn:=vH
 have fin:EP X pins σ Q w s:=⟨z,H,I,rw',q⟩
 exact subscriptTail_builtinR (x:=w) pl.typeIs slot_tuple_getitem.lookup
  (getItem_tuple (j:=j) (Q:=fun r s'=>r=w/\EP X pins σ Q r s') pl (by walk_at "o") (by walk_at "o") (by rw [List.size_toArray,<- hl];exact h1) (by simpa using ew) ⟨rfl,fin⟩) hs
theorem Ki (its:List Value)(n j:Nat)(u:Value):Obj.mapSeq (·.setIfInBounds j u) { cls:=.type "list",data:=.seq its.toArray n }={ cls:=.type "list",data:=.seq (its.set j u).toArray n }:=by
 simp [Obj.mapSeq]
theorem Inv.lst {pins:List (Addr × Obj)}{σ:St}{H:Hp}{s:Shared}{p:Addr}{xs:List V}(I:Inv X pins σ H s)(h:H p=some (.lst xs)) :
  ∃ (its:List Value) (n:Nat),zE xs its/\s.heap.get? p=some { cls:=.type "list",data:=.seq its.toArray n }/\xs.length<=sizeLine:=by
 obtain ⟨z,its,n,r,e⟩:=I.hok p _ h
 exact ⟨its,n,r,e,z⟩
theorem Inv.lstUpd {pins:List (Addr × Obj)}{σ:St}{H:Hp}{s:Shared}{p:Addr}{xs ys:List V}{its its':List Value}{n n':Nat}{f:Obj->Obj}(I:Inv X pins σ H s)(h:H p=some (.lst xs))
  (ho:s.heap.get? p=some { cls:=.type "list",data:=.seq its.toArray n }) (hf:f { cls:=.type "list",data:=.seq its.toArray n }={ cls:=.type "list",data:=.seq its'.toArray n' }) (r:zE ys its') (hz:ys.length<=sizeLine) (t:Nat) :
  Inv X pins σ (upd H p (.lst ys)) { s with heap:=s.heap.update p f,toks:=t }:=by
 have e:(s.heap.update p f).get? p=some { cls:=.type "list",data:=.seq its'.toArray n' }:=by
  rw [Heap.get?_update_self f ho (by rw [hf] <;> rfl),hf]
 refine I.write (x:=p) (e:=p) (by rw [h];trivial) (.inl rfl) (fun b u hb q=>(Heap.get?_update_other _ _ (Ne.symm hb)).trans q) ⟨_,e⟩ ?_
 exact ⟨hz,its',n',r,e⟩
noncomputable def FB:V->V->V->Hp->(Hp->Prop)->Prop:=fun o i v H Q=>∃ p xs k j,o=.ref p/\i=.int k/\H p=some (.lst xs)/\ixN xs.length k=some j/\Q (upd H p (.lst (xs.set j v)))
theorem A9:Gf X FB:=by
  intro pins s σ H o i v ov iv u Q I ro ri rv h
  obtain ⟨p,xs,k,j,rfl,rfl,hp,hj,q⟩:=h
  cases ro
  obtain ⟨t,rfl⟩:=ri
  obtain ⟨its,n,r,ho,hz⟩:=I.lst hp
  obtain ⟨h1,h2,h3,h4⟩:=Yu hj
  have hl:=r.length
  have hn:=vH
  have I':Inv X pins σ (upd H p (.lst (xs.set j v))) { s with heap:=s.heap.update p (Obj.mapSeq (·.setIfInBounds j u)) }:=
    I.lstUpd hp ho (Ki its n j u) (r.set rv j) (by rw [List.length_set];exact hz) s.toks
  by_cases h0:0<=k
  · have hk : k.toNat = j := by
      rw [seqIndex_of h0 h4] at h1
      exact Option.some.inj h1
    exact PySem.W.ki_setAt ho h0 (by walk_at "o") (by rw [List.size_toArray,<- hl];exact h4) (by rw [hk];exact ⟨_,I',q⟩)
  · have hk : (k + (its.toArray.size : Int)).toNat = j := by
      rw [seqIndex_neg (by walk_at "o") h3] at h1
      rw [List.size_toArray,<- hl]
      exact Option.some.inj h1
    exact PySem.W.ki_setBack ho (by walk_at "o") (by rw [List.size_toArray,<- hl];exact h3) (by walk_at "o") (by rw [hk];exact ⟨_,I',q⟩)
theorem ZN (lo hi:Option Int)(n:Nat):(sliceBounds lo hi none n).1=((HT.sIx n 0 lo:Nat):Int)/\(sliceBounds lo hi none n).2.1=((HT.sIx n n hi:Nat):Int)/\(sliceBounds lo hi none n).2.2=1:=by
 refine ⟨?_,?_,rfl⟩
 ·cases lo with
  | none=>simp [sliceBounds,HT.sIx]
  | some i=>
   simp only [sliceBounds,HT.sIx,Option.getD_none,show (1:Int) > 0 by decide,if_true]
   by_cases h:i<0
   ·simp only [h,if_true] <;> walk_at "o"
   ·simp only [h,if_false] <;> walk_at "o"
 ·cases hi with
  | none=>simp [sliceBounds,HT.sIx]
  | some i=>
   simp only [sliceBounds,HT.sIx,Option.getD_none,show (1:Int) > 0 by decide,if_true]
   by_cases h:i<0
   ·simp only [h,if_true] <;> walk_at "o"
   ·simp only [h,if_false] <;> walk_at "o"
theorem wA (its:List Value)(lo hi:Option Int):slicePick its.toArray lo hi none=((its.drop (HT.sIx its.length 0 lo)).take (HT.sIx its.length its.length hi - HT.sIx its.length 0 lo)).toArray:=by
 obtain ⟨h1,h2,h3⟩:=ZN lo hi its.toArray.size
 unfold slicePick
 rw [h1,h2,h3]
 simp only [sliceRange_one,pick_run,List.size_toArray] <;> rfl
noncomputable def GK (K:PySem.W.Frag):V->Option Int->Option Int->Hp->VK->Prop:=fun x lo hi H Q=>∃ a xs,x=.ref a/\SqL K H a xs/\∀ p,H p=none->Q (.ref p) (upd H p (.lst (ZD xs lo hi)))
theorem xU:SlR X (GK X.K):=by
 intro pins s σ H x v vl vu lo hi sl Q I rx hs pl pu h
 obtain ⟨a,xs,rfl,hx,q⟩:=h
 cases rx
 obtain ⟨its,r,ht,hz⟩:=I.list hx
 have hlen:=r.length
 refine ⟨"list",_,slot_list_getitem.lookup,ht.isList.typeIs,?_⟩
 refine wpAny_getItem_list_slice ht.isList hs pl pu .none (by simp) ?_ (by rw [List.size_toArray] <;> walk_at "o")
 rw [wA,<- hlen]
 refine ⟨.ref s.heap.objs.size,_,I.laid (t':=s.toks) (o:=.lst (ZD xs lo hi)) (fun b ob q=>Heap.get?_push_of_some _ q) (Nat.le_refl _) ?_,rfl,q _ (I.hok.fresh (Nat.le_refl _))⟩
 exact ⟨Nat.le_trans (QV xs lo hi) hz,_,0,(r.drop (HT.sIx xs.length 0 lo)).take (HT.sIx xs.length xs.length hi - HT.sIx xs.length 0 lo),Heap.get?_push_size _ rfl⟩
noncomputable def xF:V->Bool
 | .non=>true
 | .bl _=>true
 | .int _=>true
 | .str _=>true
 | _=>false
noncomputable def eqV:V->V->Bool
 | .non,.non=>true
 | .bl a,.bl b=>a == b
 | .bl a,.int b=>(if a then 1 else 0) == b
 | .int a,.bl b=>a == (if b then 1 else 0)
 | .int a,.int b=>a == b
 | .str a,.str b=>a == b
 | _,_=>false
theorem Iv {A:Around}{s:Shared}{y x:V}{u v:Value}(ry:zH y u)(rx:zH x v)(fy:xF y=true)(fx:xF x=true):SeqAt.EqAt A s u v (eqV y x):=by
 cases y with
 | non=>
  cases ry
  cases x with
  | non=>cases rx;exact SeqAt.EqAt.same _
  | bl b=>cases rx;exact SeqAt.EqAt.none_bool b
  | int b=>obtain ⟨t,rfl⟩:=rx;exact SeqAt.EqAt.none_int b t
  | str b=>obtain ⟨t,rfl⟩:=rx;exact SeqAt.EqAt.none_str b t
  | _=>exact absurd (show false=true from fx) Bool.false_ne_true
 | bl a=>
  cases ry
  cases x with
  | non=>cases rx;exact SeqAt.EqAt.bool_none a
  | bl b=>cases rx;exact SeqAt.EqAt.bool_bool a b
  | int b=>obtain ⟨t,rfl⟩:=rx;exact SeqAt.EqAt.bool_int a b t
  | str b=>obtain ⟨t,rfl⟩:=rx;exact SeqAt.EqAt.bool_str a b t
  | _=>exact absurd (show false=true from fx) Bool.false_ne_true
 | int a=>
  obtain ⟨t',rfl⟩:=ry
  cases x with
  | non=>cases rx;exact SeqAt.EqAt.int_none a t'
  | bl b=>cases rx;exact SeqAt.EqAt.int_bool a t' b
  | int b=>obtain ⟨t,rfl⟩:=rx;exact SeqAt.EqAt.int_int a t' b t
  | str b=>obtain ⟨t,rfl⟩:=rx;exact SeqAt.EqAt.int_str a t' b t
  | _=>exact absurd (show false=true from fx) Bool.false_ne_true
 | str a=>
  obtain ⟨t',rfl⟩:=ry
  cases x with
  | non=>cases rx;exact SeqAt.EqAt.str_none a t'
  | bl b=>cases rx;exact SeqAt.EqAt.str_bool a t' b
  | int b=>obtain ⟨t,rfl⟩:=rx;exact SeqAt.EqAt.str_int a t' b t
  | str b=>obtain ⟨t,rfl⟩:=rx;exact SeqAt.EqAt.str_str a t' b t
  | _=>exact absurd (show false=true from fx) Bool.false_ne_true
 | _=>exact absurd (show false=true from fy) Bool.false_ne_true
noncomputable def eqU (x:V)(u:Value):Bool:=match u with
 | .none=>eqV .non x
 | .bool b=>eqV (.bl b) x
 | .int i _=>eqV (.int i) x
 | .str z _=>eqV (.str z) x
 | _=>false
theorem Bi {x y:V}{u:Value}(r:zH y u)(f:xF y=true):eqU x u=eqV y x:=by
 cases y with
 | non=>cases r;rfl
 | bl b=>cases r;rfl
 | int i=>obtain ⟨t,rfl⟩:=r;rfl
 | str z=>obtain ⟨t,rfl⟩:=r;rfl
 | _=>exact absurd (show false=true from f) Bool.false_ne_true
theorem JM {A:Around}{s:Shared}{x:V}{v:Value}(rx:zH x v)(fx:xF x=true):∀ {xs:List V} {us:List Value},zE xs us->xs.all xF=true->∀ u ∈ us,SeqAt.EqAt A s u v (eqU x u)
 | _,_,.nil,_=>fun u hu=>by cases hu
 | y :: xs,u :: us,.cons r t,f=>fun u' hu=>by
  rw [List.all_cons,Bool.and_eq_true] at f
  rcases List.mem_cons.mp hu with rfl | hu
  ·rw [Bi r f.1];exact Iv r rx f.1 fx
  ·exact JM rx fx t f.2 u' hu
theorem zl:qH X (.builtin "len") (fun xs H Q=>∃ p ys,xs=[.ref p]/\(SqL X.K H p ys \/ SqT X.K H p ys)/\Q (.int ys.length) H):=by
 intro pins s σ H xs us Q I r h
 obtain ⟨p,ys,rfl,hq,q⟩:=h
 obtain ⟨u,rfl,rx⟩:=jF r
 cases rx
 have hn:=vH
 rcases hq with hq | hq
 ·obtain ⟨its,r',pl,hz⟩:=I.list hq
  have hlen:=r'.length
  exact Calls.call_len_list pl.isList (by simp only [List.size_toArray] <;> walk_at "o") ⟨.int ys.length,H,I.tok _,⟨s.toks+1,by rw [List.size_toArray,hlen]⟩,q⟩
 ·obtain ⟨its,r',pl,hz⟩:=I.tuple hq
  have hlen:=r'.length
  exact len_tuple pl (by simp only [List.size_toArray] <;> walk_at "o") ⟨.int ys.length,H,I.tok _,⟨s.toks+1,by rw [List.size_toArray,hlen]⟩,q⟩
theorem yf:qH X (.type "list") (fun xs H Q=>∃ p ys,xs=[.ref p]/\(SqL X.K H p ys \/ SqT X.K H p ys)/\∀ l,H l=none->Q (.ref l) (upd H l (.lst ys))):=by
 intro pins s σ H xs us Q I r h
 obtain ⟨p,ys,rfl,hq,q⟩:=h
 obtain ⟨u,rfl,rx⟩:=jF r
 cases rx
 have fin:∀ (its:List Value),zE ys its->ys.length<=sizeLine->∀ (h':Heap) (c':Nat),(∀ b o',s.heap.get? b=some o'->h'.get? b=some o') ->
   h'.get? s.heap.objs.size=some { cls:=.type "list",dict:=none,data:=.seq its.toArray c',slots:=#[] }->EP X pins σ Q (.ref s.heap.objs.size) { s with heap:=h' }:=fun its r' hz h' c' kp e=>
  ⟨.ref s.heap.objs.size,_,I.laid (t':=s.toks) kp (Nat.le_refl _) (show zX X.prog X.w _ h' _ (.lst ys) from ⟨hz,its,c',r',e⟩),rfl,q _ (I.hok.fresh (Nat.le_refl _))⟩
 rcases hq with hq | hq
 ·obtain ⟨its,r',pl,hz⟩:=I.list hq
  have hlen:=r'.length
  obtain ⟨o,ho,hc,n,hd⟩:=pl.isList
  exact call_list_seq p (.inl rfl) ho hc hd (fun h' c' kp e=>fin its r' hz h' c' kp e) (by simp only [List.size_toArray] <;> walk_at "o")
 ·obtain ⟨its,r',pl,hz⟩:=I.tuple hq
  have hlen:=r'.length
  obtain ⟨o,ho,hc,n,hd⟩:=pl
  exact call_list_seq p (.inr rfl) ho hc hd (fun h' c' kp e=>fin its r' hz h' c' kp e) (by simp only [List.size_toArray] <;> walk_at "o")
noncomputable def tyV (K:PySem.W.Frag)(T:String)(x:V)(H:Hp):Prop:=match x with
  | .str _=>T="str"
  | .int _=>T="int"
  | .ref p => (T = "list" /\ ∃ xs, SqL K H p xs) \/ (T = "tuple" /\ ((∃ xs, Rd H p (.tup xs)) \/ ∃ o, K.lookup p = some o /\ o.cls = .type "tuple" /\ o.dict = none)) \/
      (T="dict"/\((∃ kvs,H p=some (.dK kvs)) \/ ∃ kvs,H p=some (.dT kvs))) \/ (T="set"/\∃ S n,H p=some (.set S n))
  | _=>False
theorem Gy {pins : List (Addr × Obj)}{σ : St}{H : Hp}{s : Shared}{T : String}{x : V}{v : Value}(I : Inv X pins σ H s)(r : zH x v)(ty : tyV X.K T x H) :
    s.TypeIs v T/\∀ a,v=.ref a->∃ ob,s.heap.get? a=some ob/\ob.dict=none:=by
  cases x with
  | str z=>
    obtain ⟨t,rfl⟩:=r
    cases (show T="str" from ty)
    exact ⟨typeIs_str s z t,fun _ e=>nomatch e⟩
  | int i=>
    obtain ⟨t,rfl⟩:=r
    cases (show T="int" from ty)
    exact ⟨typeIs_int s i t,fun _ e=>nomatch e⟩
  | ref p=>
    cases r
    rcases ty with ⟨rfl,xs,hq⟩ | ⟨rfl,⟨xs,hx⟩ | ⟨o,hk,hc,hd⟩⟩ | ⟨rfl,hk⟩ | ⟨rfl,S,n,hk⟩
    · obtain ⟨its,_,pl,_⟩:=I.list hq
      refine ⟨pl.isList.typeIs,fun a e=>?_⟩
      cases e
      obtain ⟨o,n,e,c,hd,_⟩:=pl
      exact ⟨o,e,hd⟩
    · obtain ⟨_,its,_,o,e,c,_,hd⟩:=hx.ok I.hok
      refine ⟨⟨o,e,c⟩,fun a e2=>?_⟩
      cases e2
      exact ⟨o,e,hd⟩
    · refine ⟨⟨o,I.kIn p o hk,hc⟩,fun a e=>?_⟩
      cases e
      exact ⟨o,I.kIn _ o hk,hd⟩
    · have z : ∃ o, s.heap.get? p = some o /\ o.ExactDict := by
        rcases hk with ⟨kvs,hk⟩ | ⟨kvs,hk⟩
        · obtain ⟨_,_,_,_,o,_,_,e,ex,_⟩:=I.hok p _ hk
          exact ⟨o,e,ex⟩
        · obtain ⟨_,_,_,_,o,_,_,e,ex,_⟩:=I.hok p _ hk
          exact ⟨o,e,ex⟩
      obtain ⟨o,e,ex⟩:=z
      refine ⟨⟨o,e,ex.1⟩,fun a e2=>?_⟩
      cases e2
      exact ⟨o,e,ex.2.1⟩
    · obtain ⟨o,_,_,_,e,ex,_⟩:=I.hok p _ hk
      refine ⟨⟨o,e,ex.1⟩,fun a e2=>?_⟩
      cases e2
      exact ⟨o,e,ex.2.1⟩
  | _=>exact False.elim ty
noncomputable def tBM (K:PySem.W.Frag)(T:String)(r:V->List V->Hp->VK->Prop)(to:TE)(t:TA):TE:=fun σ H Q=>to σ H fun x H1=>tyV K T x H1/\t σ H1 fun xs H2=>r x xs H2 Q
variable {o e:Expr}{es:List Expr}{to:TE}{t:TA}{name:Str}{apos cpos:Pos}{T id:String}{r:V->List V->Hp->VK->Prop}
theorem ky (pa:PlainAttrs T)(slot:Slot T name id)(hty:typeOf (.builtin id)=pure (.type "method_descriptor"))(hm:MtR X id r)(ho:PE X o to)(ha:PA X (e :: es) t)
  (hbase:attributeBase o name X.env (eval o X.env)=eval o X.env:=by rfl)
  (hfew:((backTo cpos (starEach (e :: es) X.env)).all (fun x=>!x.1) && (backToKw cpos (keywordEach [] X.env)).all (fun x=>x.1.isSome)
   && decide ((e :: es).length+([]:List Keyword).length+(if ([]:List Keyword).isEmpty then 0 else 1)<30))=true:=by rfl)
  (hline:(apos.endLine == cpos.line)=true:=by rfl) (hs:starEach (e :: es) X.env=(false,eval e X.env) :: starEach es X.env:=by rfl) (hplain:(backTo cpos (starEach es X.env)).any (·.1)=false:=by rfl) :
  PE X (.Call (.Attribute o name apos) (e :: es) [] cpos) (tBM X.K T r to t):=by
 intro pins s σ H Q I h
 refine wpAny_Call_method_late hbase hfew hline rfl (thn (ho pins s σ H _ I h) fun v s1 ⟨x,H1,I1,r1,ty,q1⟩=>?_)
 obtain ⟨h1,h2⟩:=Gy I1 r1 ty
 refine ⟨T,id,pa,slot,hty,h1,h2,?_⟩
 have hA:=ha cpos pins s1 σ H1 _ I1 q1
 rw [hs] at hA ⊢
 refine Calls.callWith_builtin (by show (false || (backTo cpos (starEach es X.env)).any (·.1))=false;rw [hplain] <;> rfl) (Calls.evalArgs_plain ?_)
 exact thn hA fun us s2 ⟨vs,H2,I2,r2,q2⟩=>hm pins s2 σ H2 x vs v us Q I2 r1 r2 q2
/- xs.append(e),list.index on a module's tuple .. are MtR facts of 06m -/
end
noncomputable def MtM (X:Cx)(id:String)(r:V->List V->Hp->VK->Prop):Prop:=
 ∀ (pins:List (Addr × Obj)) (s:Shared) (σ:St) (H:Hp) (x:V) (xs:List V) (v:Value) (us:List Value) (Q:VK),Inv X pins σ H s->zH x v->zE xs us->r x xs H Q ->
  wpAny (model X.prog X.w) X.A (call (.builtin id) (v :: us)) (EP X pins σ Q) X.xe s
theorem zE.one:∀ {x:V} {us:List Value},zE [x] us->∃ u,us=[u]/\zH x u
 | _,_,.cons r .nil=>⟨_,rfl,r⟩
theorem zE.two:∀ {x y:V} {us:List Value},zE [x,y] us->∃ u v,us=[u,v]/\zH x u/\zH y v
 | _,_,_,.cons r (.cons q .nil)=>⟨_,_,rfl,r,q⟩
theorem zE.dropLast {xs:List V}{us:List Value}(h:zE xs us):zE xs.dropLast us.dropLast:=by
 induction h with
 | nil=>exact .nil
 | cons r t ih=>
  cases t with
  | nil=>exact .nil
  | cons q t'=>exact .cons r ih
theorem zE.rep {xs:List V}{us:List Value}(h:zE xs us):∀ k:Nat,zE (List.replicate k xs).flatten (List.replicate k us).flatten
 | 0=>.nil
 | k+1=>by
  rw [List.replicate_succ,List.replicate_succ,List.flatten_cons,List.flatten_cons]
  exact zE.append h (zE.rep h k)
theorem Zv (its:List Value):∀ (k:Nat) (acc:List Value),
  List.foldl (fun x1 x2=>x1 ++ x2) acc.toArray (List.replicate k its.toArray)=(acc ++ (List.replicate k its).flatten).toArray
 | 0,acc=>by simp
 | k+1,acc=>by
  have e:acc.toArray ++ its.toArray=(acc ++ its).toArray:=by simp
  have e2:(acc ++ its) ++ (List.replicate k its).flatten=acc ++ (List.replicate (k+1) its).flatten:=by
   rw [List.replicate_succ,List.flatten_cons,List.append_assoc]
  rw [<- e2,<- Zv its k (acc ++ its),<- e,List.replicate_succ,List.foldl_cons]
section
variable {X:Cx}{pins:List (Addr × Obj)}{σ:St}{H:Hp}{s:Shared}{l b:Addr}{xs ys zs:List V}
theorem Inv.lset {its its':List Value}{n:Nat}{f:Array Value->Array Value}{t':Nat}(I:Inv X pins σ H s)(hH:H l=some (.lst xs))
  (e:s.heap.get? l=some { cls:=.type "list",data:=.seq its.toArray n }) (hf:f its.toArray=its'.toArray) (hv:zE ys its') (hz:ys.length<=sizeLine) :
  Inv X pins σ (upd H l (.lst ys)) { s with heap:=s.heap.update l (Obj.mapSeq f),toks:=t' }:=by
 have q:=PySem.IsL.update e f
 rw [hf] at q
 refine I.write (x:=l) (e:=l) (by rw [hH];exact trivial) (.inl rfl) (fun b' u hb hu=>(Heap.get?_update_other s.heap (Obj.mapSeq f) (Ne.symm hb)).trans hu) ⟨_,q⟩ ?_
 exact ⟨hz,its',_,hv,q⟩
theorem Inv.lnew {its:List Value}{t':Nat}(I:Inv X pins σ H s)(hv:zE ys its)(hz:ys.length<=sizeLine) :
  Inv X pins σ (upd H s.heap.objs.size (.lst ys)) { s with heap:=s.heap.push { cls:=.type "list",data:=.seq its.toArray },toks:=t' }:=
 I.laid (fun _ _ q=>Heap.get?_push_of_some _ q) (Nat.le_refl _) ⟨hz,its,0,hv,Heap.get?_push_size _ rfl⟩
theorem Inv.fresh (I:Inv X pins σ H s):H s.heap.objs.size=none:=I.hok.fresh (Nat.le_refl _)
theorem Inv.lstM (I:Inv X pins σ H s)(hH:H l=some (.lst xs)):xs.length<=sizeLine/\∃ (its:List Value) (n:Nat),zE xs its/\xs.length=its.length/\s.heap.get? l=some { cls:=.type "list",data:=.seq its.toArray n }:=by
 obtain ⟨z,its,n,r,e⟩:=I.hok l _ hH
 exact ⟨z,its,n,r,r.length,e⟩
theorem Ka {n:Nat}(h:n<=sizeLine):Builtin.List.listTooLong n=false:=by
 unfold Builtin.List.listTooLong
 exact decide_eq_false (by walk_at "o")
end
section
variable {X:Cx}
noncomputable def vd:V->List V->Hp->VK->Prop:=fun x vs H Q=>∃ l xs y,x=.ref l/\vs=[y]/\H l=some (.lst xs)/\xs.length<sizeLine/\Q .non (upd H l (.lst (xs ++ [y])))
theorem Zl:MtM X "list.append" vd:=by
 intro pins s σ H x vs v us Q I rx rv h
 obtain ⟨l,xs,y,rfl,rfl,hH,hz,q⟩:=h
 cases rx
 obtain ⟨u,rfl,ru⟩:=rv.one
 obtain ⟨z,its,n,r,hl,e⟩:=I.lstM hH
 refine call_meets F.slot_list_append ⟨_,e,rfl⟩ F.entry_list_append (F.args_list_append_2 _ _) (PySem.list_append l its.toArray n u (by rw [List.size_toArray];walk_at "o")) ⟨e,?_⟩
 refine ⟨.non,_,I.lset (its':=its ++ [u]) hH e (by simp) (r.append (.cons ru .nil)) ?_,rfl,q⟩
 rw [List.length_append,List.length_singleton]
 walk_at "o"
noncomputable def vq:V->List V->Hp->VK->Prop:=fun x vs H Q=>∃ l b xs zs,x=.ref l/\vs=[.ref b]/\H l=some (.lst xs)/\H b=some (.lst zs)/\xs.length+zs.length<=sizeLine/\Q .non (upd H l (.lst (xs ++ zs)))
theorem VG:MtM X "list.extend" vq:=by
 intro pins s σ H x vs v us Q I rx rv h
 obtain ⟨l,b,xs,zs,rfl,rfl,hH,hB,hz,q⟩:=h
 cases rx
 obtain ⟨u,rfl,ru⟩:=rv.one
 cases ru
 obtain ⟨z,its,n,r,hl,e⟩:=I.lstM hH
 obtain ⟨z2,its2,n2,r2,hl2,e2⟩:=I.lstM hB
 have hsz:its.toArray.size+its2.toArray.size<=sizeLine:=by rw [List.size_toArray,List.size_toArray];walk_at "o"
 have hlong:¬ (!its.toArray.isEmpty && Builtin.List.listTooLong (its.toArray.size+its2.toArray.size))=true:=by
  rw [Ka hsz,Bool.and_false]
  exact Bool.false_ne_true
 refine call_meets F.slot_list_extend ⟨_,e,rfl⟩ F.entry_list_extend (F.args_list_extend_2 _ _)
  (AutoSeq1.list_extend_list_list_0 l its.toArray n b its2.toArray n2 hlong (by rw [List.size_toArray];walk_at "o") (by walk_at "o")) ⟨e,e2,?_⟩
 refine ⟨.non,_,I.lset (its':=its ++ its2) hH e (by simp) (r.append r2) ?_,rfl,q⟩
 rw [List.length_append]
 walk_at "o"
noncomputable def Fh:R2:=fun x y H Q=>∃ l b xs zs,x=.ref l/\y=.ref b/\H l=some (.lst xs)/\H b=some (.lst zs)/\xs.length+zs.length<=sizeLine/\∀ p,H p=none->Q (.ref p) (upd H p (.lst (xs ++ zs)))
theorem xH:OpR X (binaryOp .Add) Fh:=by
 intro pins s σ H x y v u Q I rx ry h
 obtain ⟨l,b,xs,zs,rfl,rfl,hH,hB,hz,q⟩:=h
 cases rx
 cases ry
 obtain ⟨z,its,n,r,hl,e⟩:=I.lstM hH
 obtain ⟨z2,its2,n2,r2,hl2,e2⟩:=I.lstM hB
 refine PySem.P.add_list e e2 ?_ (by rw [List.size_toArray,List.size_toArray];walk_at "o")
 have ea:its.toArray ++ its2.toArray=(its ++ its2).toArray:=by simp
 rw [ea]
 exact ⟨.ref _,_,I.lnew (t':=s.toks) (r.append r2) (by rw [List.length_append];walk_at "o"),rfl,q _ I.fresh⟩
noncomputable def G7:R2:=fun x y H Q=>∃ l k xs,x=.ref l/\y=.int k/\H l=some (.lst xs)/\-(2 ^ 63)<=k/\k<2 ^ 63/\xs.length * k.toNat<=sizeLine /\
 ∀ p,H p=none->Q (.ref p) (upd H p (.lst (List.replicate k.toNat xs).flatten))
theorem D7 {α:Type}(xs:List α)(k:Nat):(List.replicate k xs).flatten.length=k * xs.length:=by
 induction k with
 | zero=>simp
 | succ k ih=>rw [List.replicate_succ,List.flatten_cons,List.length_append,ih,Nat.succ_mul,Nat.add_comm]
theorem yz:OpR X (binaryOp .Mult) G7:=by
 intro pins s σ H x y v u Q I rx ry h
 obtain ⟨l,k,xs,rfl,rfl,hH,h1,h2,hz,q⟩:=h
 cases rx
 obtain ⟨t,rfl⟩:=ry
 obtain ⟨z,its,n,r,hl,e⟩:=I.lstM hH
 have hlen:its.toArray.size * k.toNat<=sizeLine:=by rw [List.size_toArray,<- hl];exact hz
 have hcap:¬ its.toArray.size * k.toNat > (2 ^ 63 - 1) / 8:=by
  have:(sizeLine:Nat)<=(2 ^ 63 - 1) / 8:=by decide
  walk_at "o"
 have hfit:¬ (!Builtin.List.listFitsIndex k)=true:=by
  rw [fitsIndex_both h1 h2]
  exact Bool.false_ne_true
 have hlong:¬ Builtin.List.listTooLong (its.toArray.size * k.toNat)=true:=by
  rw [Ka hlen]
  exact Bool.false_ne_true
 have hnew:List.foldl (fun x1 x2=>x1 ++ x2) #[] (List.replicate (if its.toArray.isEmpty=true then 0 else k.toNat) its.toArray)=(List.replicate k.toNat its).flatten.toArray:=by
  have f0:∀ m:Nat,List.foldl (fun x1 x2=>x1 ++ x2) #[] (List.replicate m its.toArray)=(List.replicate m its).flatten.toArray:=fun m=>by
   have:=Zv its m []
   rw [List.nil_append] at this
   exact this
  rw [f0]
  cases its with
  | nil=>simp
  | cons a r'=>rw [if_neg (by simp)]
 refine wpAny_binaryOp_repeat_ref (T:="list") (U:="int") (by decide) ⟨_,e,rfl⟩ (fun s'=>typeIs_int s' k t) noFill_list_mul F.fills_int_mul F.slot_int_rmul repeat_list F.slot_int_index.lookup
  (call_meets F.slot_int_rmul (typeIs_int s k t) F.entry_int_rmul (F.args_int_rmul_2 _ _) (int___rmul___int_list k t l its.toArray n)
   ⟨e,rfl,⟨_,e,rfl⟩,call_meets F.slot_list_mul ⟨_,e,rfl⟩ F.entry_list_mul (F.args_list_mul_2 _ _) (AutoListH.list___mul___list_int_3 l its.toArray n k t hfit hcap hlong) ⟨e,?_⟩⟩)
 rw [hnew]
 exact ⟨.ref _,_,I.lnew (t':=s.toks) (r.rep k.toNat) (by rw [D7,Nat.mul_comm];exact hz),rfl,q _ I.fresh⟩
end
section
variable {prog:Program}{w:World}{A:Around}{E:Value->Shared->Prop}{s:Shared}
end
section
variable {X:Cx}
end
end L2
namespace Att
open PySem PySem.W PySem.Calls PyProof.Rows
theorem y9 {P:Params}{h:Heap}:∀ (ns:List Int) (vs:List Value),WellAll P h vs (ns.map WData.int)->IntsAre vs ns:=by
 intro ns
 induction ns with
 | nil=>
  intro vs w
  rw [List.map_nil] at w
  cases w
  exact .nil
 | cons n ns ih=>
  intro vs w
  rw [List.map_cons] at w
  cases w with
  | cons a b=>
   cases a
   exact .cons _ _ (ih _ b)
theorem Y2 {l:OpenLaw}{n:Nat}(hn:l.most=some n){P:Params}{h:Heap}{args:List WData}{vals:List Value}
  (hpre:l.row.toRowW.claim.pre args=true) (hwl:WellAll P h vals args) :
  ∃ a vs ns,vals=[Value.ref a]/\args=[WData.list (ns.map WData.int)]/\h.get? a=some { cls:=.type "list",data:=.seq vs.toArray }/\IntsAre vs ns/\ns.length<=n:=by
 have hsh:WShape.hasAll [] args [.list .int]=true:=(pre_splitW hpre).1
 have hc:l.pre.holds [] { args:=args }=true:=(pre_splitW hpre).2
 obtain ⟨d,r,rfl,h1,h2⟩:=hasAllW_cons hsh
 obtain rfl:=hasAllW_nil h2
 obtain ⟨xs,rfl,h3⟩:=hasW_list h1
 obtain ⟨ns,rfl⟩:=items_int h3
 have hlen:ns.length<=n:=by
  unfold OpenLaw.pre at hc
  have h4:(WTm.not (.lt (.lit (.int (n:Int))) (.len (.arg 0)))).holds [] { args:=[.list (ns.map .int)] }=true:=by
   have h4:=(holds_andW hc).1
   rw [hn] at h4
   exact h4
  have h5:=condW_of h4 (w_not (w_lt w_lit (w_len_list (w_arg rfl))))
  rw [List.length_map] at h5
  refine Nat.le_of_not_lt fun q=>?_
  have q':(n:Int)<((ns.length:Nat):Int):=by walk_at "o"
  first
   | (rw [decide_eq_true q'] at h5;exact absurd h5 (by decide))
   | (simp at h5;walk_at "o")
 cases hwl with
 | cons w1 w2=>
  cases w2
  cases w1 with
  | list ho hall=>exact ⟨_,_,ns,rfl,rfl,ho,y9 ns _ hall,hlen⟩
theorem Va (l:OpenLaw)(args:List WData):l.row.toRowW.claim.post args (.bool true) args=true:=
 postW_of (r:=l.row.toRowW) (X:=(true == true))
  (show WShape.has [] (.bool true) .bool=true by first | rfl | decide | simp [WShape.has,WShape.arms,WShape.armsAll])
  (show (WTm.eq .res (.lit (.bool true))).value [] { args:=args,res:=some (.bool true),after:=args }=some (.bool (true == true)) from w_eq_bool (w_res rfl) w_lit) rfl
theorem attach_call {l:OpenLaw}{n:Nat}{q:Program}{loose:List Str}{XP:(Str->Option Value)->Heap->Prop}{YP:World->Heap->Prop}{d:DefRec}
  (hn:l.most=some n) (hdf:d.params.defaults=[])
  (call:∀ (w:World) (s₀ s₁:Shared) (mg mb:Str->Option Value) (fa:Addr) (o:Obj) (pm cd doc:Value) (a:Addr) (vs:List Value) (ns:List Int),
   Ground q loose [] XP w s₀ mg mb s₁.heap->YP w s₁.heap ->
   s₁.heap.get? fa=some o->o.data=.func (docDef d.name d.params d.body d.scope pm cd doc)->s₁.heap.CodeRec cd d.name->mg d.name=some (.ref fa) ->
   s₁.heap.get? a=some { cls:=.type "list",data:=.seq vs.toArray }->IntsAre vs ns->ns.length<=n->s₁.gens=#[] ->
   codeAny (model l.prog w) callerA (.call (.ref fa) ⟨[.ref a],[]⟩) (fun r s'=>r=.ok (.ret (.bool true))/\OldK s₁.heap s'.heap/\s'.os=s₁.os/\AllBare s'.gens) s₁) :
  WalkO q loose XP YP l.row.toRowW d [] (fun f vs=>PySem.call f vs):=by
 intro w s₀ s₁ mg mb G Y fa o pm cd doc dV kV ho hd hcd hD hmg hg args vals as hpre hlay hrd hwl hlo
 obtain rfl:dV=.none:=Dflts.none hD hdf
 obtain rfl:kV=.none:=Dflts.noKw hD
 obtain ⟨a,vs,ns,rfl,rfl,hobj,hints,hlen⟩:=Y2 hn hpre hwl
 refine enter_call (codeAny_mono (call w s₀ s₁ mg mb fa o pm cd doc a vs ns G Y ho (fd_plain hd) hcd hmg hobj hints hlen hg) fun r s' hq=>?_)
 obtain ⟨rfl,h2,h3,h4⟩:=hq
 exact ⟨.inl ⟨.bool true,.bool true,[],rfl,fun _=>rfl,.bool true,Va l _,fun _=>⟨List.Pairwise.nil,fun _ hm=>(nomatch hm)⟩⟩,h2,h3,h4⟩
section
variable {prog:Program}{w:World}{A:Around}{E:Value->Shared->Prop}{s:Shared}{K:Frag}
noncomputable def LD (h:Heap)(L d:Addr):List (Addr × Obj):=(List.range h.objs.size).filterMap fun a=>if a=L \/ a=d then none else (h.get? a).map fun o=>(a,o)
end
end Att
namespace L2
open PySem PySem.Spec PyProof.Rows
theorem jS:∀ {vs:List Value} {ns:List Int},IntsAre vs ns->zE (ns.map V.int) vs
 | _,_,.nil=>.nil
 | _,_,.cons n t h=>.cons ⟨t,rfl⟩ (jS h)
noncomputable def Hm (H:Hp):Prop:=∀ b,H b=none \/ ∃ o xs,H b=some (.frz o (.lst xs))
theorem Ww {P:Program}{w:World}{K:PySem.W.Frag}{mg mb:Str->Option Value}{CX:CXT}{k:Nat}{fa a:Addr}{fd:FuncData}{x:Str}{sp:Sp}{s₁:Shared}{vs:List Value}{ns:List Int}
  (KX:K.In s₁.heap) (hns:s₁.heap.Ns mainGlobals mg) (hb:s₁.heap.Ns builtinsNs mb) (hbb:∀ x:Str,x ≠ "__name__"->mb x=bootBuiltins x) (hlim:s₁.heap.NoLimit) (hg:s₁.gens=#[])
  (ha:s₁.heap.get? a=some { cls:=.type "list",data:=.seq vs.toArray }) (hi:IntsAre vs ns) (hl:ns.length<=sizeLine) (hr:jr k callerA)
  (F:∀ base:Heap,K.In base->base.Ns mainGlobals mg->kz P w K mg base CX k fa fd [x] sp) (hbind:∀ (s:Shared) (u:Value),BindsTo s fd ⟨[u],[]⟩ [(x,u)])
  (hsp:∀ H:Hp,Hm H->SqL K H a (ns.map V.int)->sp [.ref a] H (fun v _=>v=.bl true) fun _ _ _=>False)
  (hCX:∀ H e s',CX [] H s₁ (fun _ _ _=>False) e s'->False) :
  codeAny (model P w) callerA (.call (.ref fa) ⟨[.ref a],[]⟩) (fun r s'=>r=.ok (.ret (.bool true))/\OldK s₁.heap s'.heap/\s'.os=s₁.os/\AllBare s'.gens) s₁:=by
 have rv:=jS hi
 have lenV:=hi.length
 have core:∀ H:Hp,Hm H->SqL K H a (ns.map V.int)->HOk P w H s₁.heap->(∀ b,H b ≠ none->b=a)->(H a ≠ none->K.lookup a=none) ->
   codeAny (model P w) callerA (.call (.ref fa) ⟨[.ref a],[]⟩) (fun r s'=>r=.ok (.ret (.bool true))/\OldK s₁.heap s'.heap/\s'.os=s₁.os/\AllBare s'.gens) s₁:=by
  intro H hO hS hok hA hK
  have base_of:∀ {b:Addr} {o:Obj},s₁.heap.get? b=some o->H b=none->(Z2 s₁.heap H).get? b=some o:=fun e n=>BU e n
  have noA:∀ {b:Addr} {o:Obj} {es:Array DictEntry} {ep:Nat},s₁.heap.get? b=some o->o.data=.dict es ep->H b=none:=fun {b o es ep} e d=>by
   cases q:H b with
   | none=>rfl
   | some u=>
    have e':b=a:=hA b (by rw [q];simp)
    subst e'
    rw [ha] at e;cases e
    have d':Data.seq vs.toArray _=Data.dict es ep:=d
    cases d'
  have nsK:∀ {b:Addr} {m:Str->Option Value},s₁.heap.Ns b m->(Z2 s₁.heap H).Ns b m:=fun {b m} ⟨o,es,ep,e,d,r⟩=>⟨o,es,ep,base_of e (noA e d),d,r⟩
  have hKb:K.In (Z2 s₁.heap H):=fun b o e=>base_of (KX b o e) (by
   cases q:H b with
   | none=>rfl
   | some u=>
    have e':b=a:=hA b (by rw [q];simp)
    subst e'
    rw [hK (by rw [q];simp)] at e;cases e)
  have hM:Mod K mg (Z2 s₁.heap H):=⟨hKb,nsK hns,⟨mb,nsK hb,hbb⟩,let ⟨mc,h1,h2⟩:=hlim;⟨mc,nsK h1,h2⟩⟩
  have e0:Ea P w K mg (Z2 s₁.heap H) callerA [] s₁ H:=⟨rfl,hM,fun b o e=>DG e,Nat.le_of_eq (V5 _ _),trivial,fun b hb=>absurd (show b ∈ ([]:List Addr) from hb) (by simp),hok,.of_eq hg⟩
  refine codeAny_mono ((F _ hKb (nsK hns)).run callerA [] s₁ H ⟨[.ref a],[]⟩ [.ref a] [.ref a] _ _ hr e0 (hbind s₁ (.ref a)) (.cons rfl .nil) (hsp H hO hS)) fun r s' h=>?_
  cases r with
  | error e=>exact (hCX H e s' h).elim
  | ok fl=>
   cases fl with
   | next=>exact False.elim h
   | brk=>exact False.elim h
   | cont=>exact False.elim h
   | ret u=>
    obtain ⟨v,H',os,bare,un,hok',r',q⟩:=h
    have q':v=.bl true:=q
    subst q'
    obtain rfl:u=Value.bool true:=r'
    refine ⟨rfl,OldK.of_keep fun b o e=>?_,os,bare⟩
    cases q:H b with
    | none=>exact un.keep b o e q (by intro z;exact absurd (show b ∈ ([]:List Addr) from z) (by simp)) (by simp)
    | some u=>
     rcases hO b with z | ⟨ob,xs,z⟩
     ·rw [q] at z;cases z
     ·have z2:=un.frzs b ob _ z
      obtain ⟨e1,_⟩:=hok b _ z
      obtain ⟨e2,_⟩:=hok' b _ z2
      rw [e] at e1;cases e1
      exact e2
 cases hk:K.lookup a with
 | some o=>
  have e:=KX a o hk
  rw [ha] at e
  cases e
  refine core (fun _=>none) (fun _=>.inl rfl) (.inr ⟨_,vs.toArray,_,hk,rfl,rfl,rfl,by rw [List.size_toArray,lenV];exact hl,by simpa using rv⟩) (fun b u z=>by have z':(none:Option HO)=some u:=z;cases z') (fun b z=>absurd rfl z) fun z=>absurd rfl z
 | none=>
  refine core (fun b=>if b=a then some (.frz { cls:=.type "list",data:=.seq vs.toArray } (.lst (ns.map V.int))) else none) (fun b=>?_) (.inl (.inr ⟨{ cls:=.type "list",data:=.seq vs.toArray },if_pos rfl⟩)) (fun b u z=>?_) (fun b z=>?_) fun _=>hk
  ·by_cases hb:b=a
   ·exact .inr ⟨_,_,if_pos hb⟩
   ·exact .inl (if_neg hb)
  ·by_cases hb:b=a
   ·have z':=(if_pos hb).symm.trans z
    cases z'
    subst hb
    exact ⟨ha,by rw [List.length_map];exact hl,vs,_,rv,ha⟩
   ·have z':=(if_neg hb).symm.trans z
    cases z'
  ·by_cases hb:b=a
   ·exact hb
   ·exact absurd (if_neg hb) z
noncomputable abbrev KOf {K:PySem.W.Frag}{h:Heap}(_:K.In h):PySem.W.Frag:=K
theorem walk_of {l:PySem.W.OpenLaw}{n k:Nat}{q:Program}{loose:List Str}{XP:(Str->Option Value)->Heap->Prop}{YP:World->Heap->Prop}{d:DefRec}{K:Params->PySem.W.Frag}{CX:World->CXT}{sp:World->Sp}{x:Str}
  (hn:l.most=some n) (hn2:n<=sizeLine) (hdf:d.params.defaults=[]) (hr:jr k callerA)
  (hY:∀ (w:World) (h:Heap),YP w h->(K w.params).In h)
  (F:∀ (w:World) (mg:Str->Option Value) (fa:Addr) (h:Heap),(K w.params).In h->h.Ns mainGlobals mg->mg d.name=some (.ref fa) ->
   ∃ fd:FuncData,(∀ (s:Shared) (u:Value),BindsTo s fd ⟨[u],[]⟩ [(x,u)]) /\
    ∀ base:Heap,(K w.params).In base->base.Ns mainGlobals mg->kz l.prog w (K w.params) mg base (CX w) k fa fd [x] (sp w))
  (hsp:∀ (w:World) (H:Hp) (a:Addr) (ns:List Int),ns.length<=n->Hm H->SqL (K w.params) H a (ns.map V.int)->sp w [.ref a] H (fun v _=>v=.bl true) fun _ _ _=>False)
  (hCX:∀ (w:World) (H:Hp) (s:Shared) (e:Value) (s':Shared),CX w [] H s (fun _ _ _=>False) e s'->False) :
  PySem.W.WalkO q loose XP YP l.row.toRowW d [] (fun f vs=>PySem.call f vs):=by
 refine Att.attach_call hn hdf fun w s₀ s₁ mg mb fa o pm cd doc a vs ns G Y ho hd hcd hmg hobj hints hlen hg=>?_
 have KX:=hY w _ Y
 obtain ⟨fd,hb,hF⟩:=F w mg fa _ KX G.T.g hmg
 exact Ww KX G.T.g G.T.b G.T.builtins G.T.nolimit hg hobj hints (Nat.le_trans hlen hn2) hr hF hb (fun H hO hS=>hsp w H a ns hlen hO hS) fun H e s'=>hCX w H s₁ e s'
end L2
/- THE LAST THEOREM (shape;LID,My.* are yours):
   My.Adr: a structure of the addresses that your layer names (classes,functions);My.Txt K t: a structure (Prop) of the equations over K;
   My.txt_mk:{K} {implicit addresses ..} (e1:nsIn K mainGlobals "law"=some (some (.ref f))) (e2:K.lookup f=some ⟨oc,od,.func (fnOf "law" "law" params body scope dV kV doc pm an cdv ct),sl⟩) (e3:codeIn K cdv "law"=true) ..:∃ t,My.Txt K t
set_option maxRecDepth 100000 in
set_option maxHeartbeats 0 in
theorem PySem.Challenge.cw_LID_holds:PySem.Challenge.rw_LID.Holds:=by
 w_on;o_law;k_head;(case hw=>w_witness2)
 k_fill
 refine L2.walk_of (l:=PySem.Challenge.rw_LID) (n:=63) (k:=40) (x:="script") (CX:=fun w=>..) (sp:=fun _=>My.sp_law) rfl (by decide) rfl ⟨rfl,by decide,by decide⟩ (fun w h Y=>PySem.W.kIn_of Y) ?F ?S ?C
 case F=>
  intro w mg fa h KX G hmg
  have T:∃ t,My.Txt (L2.KOf KX) t:=by
   dsimp only [L2.KOf]                          -- K must stand as «<heap const> w.params» for k_is
   refine' My.txt_mk ?e1 ?e2 ?e3 ..
   (case e1=>PySem.W.k_is)                    -- in the order: a name->its address->its object->its parts
   (case e2=>PySem.W.k_is)
   ..
  obtain ⟨t,T⟩:=T
  have e0:=hmg.symm.trans (PySem.W.mg_of KX G T.law)
  cases e0                                       -- fa is the law's own address
  exact ⟨_,fun s u=>.of_eq rfl,fun base kb nb=>My.law_fn T kb nb⟩     -- if «.of_eq rfl» comes too early: refine' ⟨_,?b,fun base kb nb=>My.law_fn T kb nb⟩;exact fun s u=>.of_eq rfl
 case S=>exact fun w H a ns hl hO hS=>..
 case C=>exact ..
(the tactic k_is has no namespace: write k_is) -/
namespace L2
open PySem PySem.Spec PyProof.Rows
noncomputable def jc (s:Stmt):Arguments:=match s with
 | .FunctionDef _ a _ _ _ _ _ _ _ _=>a
 | _=>{ posonlyargs:=[],args:=[],vararg:=none,kwonlyargs:=[],kw_defaults:=[],kwarg:=none,defaults:=[] }
noncomputable def qp (s:Stmt):List Stmt:=match s with
 | .FunctionDef _ _ b _ _ _ _ _ _ _=>b
 | _=>[]
noncomputable def zi (s:Stmt):Scope:=match s with
 | .FunctionDef _ _ _ _ _ _ sc _ _ _=>sc
 | _=>{ kind:=.function,names:=[],isGenerator:=false,isCoroutine:=false }
noncomputable abbrev CX0:CXT:=fun _ _ _ _ _ _=>False
noncomputable abbrev E0:XK:=fun _ _ _=>False
theorem IH {X:Cx}:Qs CX0 X E0:=fun _ _ _ _ _ _ _ h=>h.elim
structure Fun (K:PySem.W.Frag)(x qual:Str)(st:Stmt)(f:Addr)(fd:FuncData):Prop where
 ex:∃ (oc:Value) (od:Option Addr) (kV doc pm:Value) (an:Option Addr) (cdv ct:Value) (osl:Array (Option Value)),
  fd=PySem.W.fnOf x qual (jc st) (qp st) (zi st) .none kV doc pm an cdv ct/\K.lookup f=some ⟨oc,od,.func fd,osl⟩/\PySem.W.codeIn K cdv qual=true
 kp:PySem.W.keepIn K (.ref f)=true
section
variable {P:Program}{w:World}{K:PySem.W.Frag}{mg:Str->Option Value}{base:Heap}
theorem Fun.ok {x qual:Str}{st:Stmt}{f:Addr}{fd:FuncData}{N ps:List Str}{k:Nat}{sp:Sp}(F:Fun K x qual st f fd)(S:zw N ps (zi st))(len:∀ vs H Q E,sp vs H Q E->vs.length=ps.length)
  (hbody:∀ (cdv:Value) (A:Around) (outer:List Env) (s:Shared) (H:Hp) (vs:List V) (Q:VK) (E:XK),jr k (A.deeper (envOfC qual (zi st) s.heap.objs.size f cdv))->sp vs H Q E ->
   ∃ t,PSs (yC CX0 P w K mg base N qual (zi st) f cdv A outer s H E).nox (qp st) t/\t { nx:=fun _ H'=>Q .non H',rt:=Q } (start N vs) H):kz P w K mg base CX0 (k+1) f fd ps sp:=by
 obtain ⟨oc,od,kV,doc,pm,an,cdv,ct,osl,rfl,lk,hcd⟩:=F.ex
 refine FS lk hcd S len fun A outer s H vs Q E hr hsp=>?_
 obtain ⟨t,h,q⟩:=hbody cdv A outer s H vs Q E hr hsp
 exact ⟨t,h.nox,q⟩
theorem Fun.binds {x qual:Str}{st:Stmt}{f:Addr}{fd:FuncData}{ps:List Str}(F:Fun K x qual st f fd)
  (h:∀ (kV doc pm:Value) (an:Option Addr) (cdv ct:Value) (us:List Value),us.length=ps.length->bindArgs (PySem.W.fnOf x qual (jc st) (qp st) (zi st) .none kV doc pm an cdv ct) ⟨us,[]⟩=pure (ps.zip us)):yS K fd ps []:=by
 obtain ⟨oc,od,kV,doc,pm,an,cdv,ct,osl,rfl,lk,hcd⟩:=F.ex
 exact .all (h kV doc pm an cdv ct)
theorem Bs {x qual:Str}{st:Stmt}{f:Addr}{oc:Value}{od an:Option Addr}{osl:Array (Option Value)}{kV doc pm cdv ct:Value}(l:K.lookup f=some ⟨oc,od,.func (PySem.W.fnOf x qual (jc st) (qp st) (zi st) .none kV doc pm an cdv ct),osl⟩)
  (c:PySem.W.codeIn K cdv qual=true) (k:PySem.W.keepIn K (.ref f)=true):Fun K x qual st f (PySem.W.fnOf x qual (jc st) (qp st) (zi st) .none kV doc pm an cdv ct):=⟨⟨oc,od,kV,doc,pm,an,cdv,ct,osl,rfl,l,c⟩,k⟩
end
theorem VH {n:Nat}(h:n<=1000):n<sizeLine:=Nat.lt_of_le_of_lt h (by decide)
section
variable {X:Cx}
theorem pv (i:Nat){x:Str}{pos:Pos}(hN:X.N[i]?=some x:=by rfl)(hv:Vis X.env.scope x:=by first | exact Or.inl rfl | exact Or.inr (Or.inl rfl) | exact Or.inr (Or.inr rfl))(hd:(x == ("__debug__":Str))=false:=by decide)
  (hcd:(x == ("__classdict__":Str))=false:=by decide):PE X (.Name x pos) (Qg i):=GY hN hv hd hcd
end
theorem kl {c A B:Prop}[Decidable c](h1:c->A)(h2:¬ c->B):if c then A else B:=by
 by_cases h:c
 ·rw [if_pos h]
  exact h1 h
 ·rw [if_neg h]
  exact h2 h
section
variable {κ:Type}[DecidableEq κ]
end
section
variable {P:Program}{w:World}{H:Hp}{h:Heap}{a:Addr}
end
section
variable {X:Cx}{pins:List (Addr × Obj)}{σ:St}{H:Hp}{s:Shared}{a:Addr}{y v:V}{u r:Value}{o:Option V}{A:Around}{E:Value->Shared->Prop}
end
section
variable {X:Cx}{pins:List (Addr × Obj)}{σ:St}{H:Hp}{s:Shared}{a:Addr}{kvs:List (Key × V)}{k:Key}{u:Value}{A:Around}{E:Value->Shared->Prop}
end
section
variable {X:Cx}{o i e value:Expr}{pos pos' tpos:Pos}{td ty tv:TE}
end
section
variable {X:Cx}{pos:Pos}
end
structure M1 (X:Cx)(o:Expr)(m:Str)(apos:Pos)(e:Expr)(cpos:Pos):Prop where
 base:attributeBase o m X.env (eval o X.env)=eval o X.env
 few:((backTo cpos (starEach [e] X.env)).all (fun x=>!x.1) && (backToKw cpos (keywordEach [] X.env)).all (fun x=>x.1.isSome)
  && decide (([e]:List Expr).length+([]:List Keyword).length+(if ([]:List Keyword).isEmpty then 0 else 1)<30))=true
 line:(apos.endLine == cpos.line)=true
 trees:backTo cpos (starEach [e] X.env)=[(false,eval e X.env)]
structure M2 (X:Cx)(o:Expr)(m:Str)(apos:Pos)(e f:Expr)(cpos:Pos):Prop where
 base:attributeBase o m X.env (eval o X.env)=eval o X.env
 few:((backTo cpos (starEach [e,f] X.env)).all (fun x=>!x.1) && (backToKw cpos (keywordEach [] X.env)).all (fun x=>x.1.isSome)
  && decide (([e,f]:List Expr).length+([]:List Keyword).length+(if ([]:List Keyword).isEmpty then 0 else 1)<30))=true
 line:(apos.endLine == cpos.line)=true
 trees:backTo cpos (starEach [e,f] X.env)=[(false,eval e X.env),(false,eval f X.env)]
section
variable {X:Cx}{pins:List (Addr × Obj)}{σ:St}{H:Hp}{s:Shared}{a:Addr}{y d:V}{u r:Value}{o:Option V}{A:Around}{E:Value->Shared->Prop}
end
section
variable {X:Cx}{o e f:Expr}{apos cpos:Pos}{td ty tx:TE}
end
section
variable {X:Cx}{pins:List (Addr × Obj)}{σ:St}{H:Hp}{s:Shared}{a:Addr}{kvs:List (Key × V)}{A:Around}{E:Value->Shared->Prop}
end
section
variable {X:Cx}{pins:List (Addr × Obj)}{σ:St}{H:Hp}{s:Shared}{a:Addr}{y:V}{u:Value}{A:Around}{E:Value->Shared->Prop}
end
section
variable {κ:Type}[DecidableEq κ]
end
end L2
set_option Elab.async false
set_option linter.all false
set_option maxRecDepth 100000
set_option maxHeartbeats 4000000
namespace L2
open PySem PySem.Spec PyProof.Rows
noncomputable def WO (N:List Str)(ts:List Nat)(sc:Scope)(kind:Str->Option NameKind):Bool:=
 sc.kind == .function && sc.names.all (fun y=>y.2 != .cell && (y.2 != .local || sc.names.lookup y.1 == some .local) && (y.2 != .free || kind y.1 == some .cell || kind y.1 == some .free)) &&
  N.zipIdx.all (fun p=>sc.names.lookup p.1 != some .local || ts.contains p.2)
noncomputable def qO (cells:List (Str × Addr)):List (Str × NameKind)->List (Str × Addr)->List (Str × Addr)
 | [],acc=>acc
 | (n,k) :: r,acc=>qO cells r (if k=.free then (n,(cells.lookup n).getD 0) :: acc else acc)
theorem Qf {env:Env}:∀ (names:List (Str × NameKind)) (acc:List (Str × Addr)),(∀ y ∈ names,y.2=.free->∃ c,env.cells.lookup y.1=some c) ->
  (forIn names acc fun (x:Str × NameKind) (cs:List (Str × Addr))=>(match x with | (name,kind)=>if (kind == NameKind.free)=true then (do let c <- cellOf env name;pure (ForInStep.yield ((name,c) :: cs))) else pure (ForInStep.yield cs):Sem (ForInStep (List (Str × Addr)))))=pure (qO env.cells names acc)
 | [],acc,_=>rfl
 | (n,k) :: r,acc,h=>by
  rw [List.forIn_cons]
  by_cases hk:k=.free
  ·subst hk
   obtain ⟨c,hc⟩:=h (n,.free) List.mem_cons_self rfl
   have e1:cellOf env n=pure c:=by unfold cellOf;rw [hc]
   simp only [beq_self_eq_true,if_true,e1,pure_bind]
   rw [Qf r _ fun y hy=>h y (List.mem_cons_of_mem _ hy)]
   show _=pure (qO env.cells r (if NameKind.free=.free then _ else _))
   rw [if_pos rfl,hc];rfl
  ·have hb:(k == NameKind.free)=false:=by simpa using hk
   simp only [hb,Bool.false_eq_true,if_false,pure_bind]
   rw [Qf r _ fun y hy=>h y (List.mem_cons_of_mem _ hy)]
   show _=pure (qO env.cells r (if k=.free then _ else _))
   rw [if_neg hk]
theorem yt {cells : List (Str × Addr)} : ∀ (names : List (Str × NameKind)) (acc : List (Str × Addr)), (∀ y ∈ names, y.2 = .free -> ∃ c, cells.lookup y.1 = some c) -> (∀ x c, acc.lookup x = some c -> cells.lookup x = some c) ->
    (∀ x c,(qO cells names acc).lookup x=some c->cells.lookup x=some c)/\(∀ x c,acc.lookup x=some c->∃ c',(qO cells names acc).lookup x=some c')/\∀ y ∈ names,y.2=.free->∃ c,(qO cells names acc).lookup y.1=some c
  | [],acc,_,h2=>⟨h2,fun x c e=>⟨c,e⟩,fun y hy=>nomatch hy⟩
  | (n,k) :: r,acc,h1,h2=>by
    by_cases hk:k=.free
    · subst hk
      obtain ⟨c,hc⟩:=h1 (n,.free) List.mem_cons_self rfl
      have hc:cells.lookup n=some c:=hc
      have e:qO cells ((n,.free) :: r) acc=qO cells r ((n,c) :: acc):=by
        show qO cells r (if NameKind.free=.free then _ else _)=_
        rw [if_pos rfl,hc];rfl
      rw [e]
      obtain ⟨q1,q2,q3⟩:=yt (cells:=cells) r ((n,c) :: acc) (fun y hy=>h1 y (List.mem_cons_of_mem _ hy)) (fun x c' e'=>by
        rw [List.lookup_cons] at e'
        cases hx:x == n with
        | true => rw [hx] at e'; have : x = n := by simpa using hx
                  subst this;cases e';exact hc
        | false=>rw [hx] at e';exact h2 x c' e')
      refine ⟨q1,fun x c' e'=>?_,fun y hy hf=>?_⟩
      · cases hx:x == n with
        | true=>exact q2 x c (by rw [List.lookup_cons,hx])
        | false=>exact q2 x c' (by rw [List.lookup_cons,hx];exact e')
      · rcases List.mem_cons.mp hy with rfl | hy
        · exact q2 n c (by rw [List.lookup_cons,beq_self_eq_true])
        · exact q3 y hy hf
    · have e : qO cells ((n, k) :: r) acc = qO cells r acc := by
        show qO cells r (if k=.free then _ else _)=_
        rw [if_neg hk]
      rw [e]
      obtain ⟨q1,q2,q3⟩:=yt (cells:=cells) r acc (fun y hy=>h1 y (List.mem_cons_of_mem _ hy)) h2
      refine ⟨q1,q2,fun y hy hf=>?_⟩
      rcases List.mem_cons.mp hy with rfl | hy
      · exact absurd hf hk
      · exact q3 y hy hf
theorem Kt {scope:Scope}{env:Env}(h:∀ y ∈ scope.names,y.2=.free->∃ c,env.cells.lookup y.1=some c) :
  ∃ cl,closureFor scope env=pure cl/\(∀ x c,cl.lookup x=some c->env.cells.lookup x=some c)/\∀ y ∈ scope.names,y.2=.free->∃ c,cl.lookup y.1=some c:=by
 obtain ⟨q1,_,q3⟩:=yt (cells:=env.cells) scope.names [] h (fun x c e=>nomatch e)
 refine ⟨qO env.cells scope.names [],?_,q1,q3⟩
 unfold closureFor
 have:=Qf (env:=env) scope.names [] h
 first
  | exact this
  | (simp only [bind_pure];exact this)
  | (refine Eq.trans ?_ this;simp)
theorem ye {env:Env}:∀ {names:List (Str × NameKind)} {x:Str},(names.map fun (n,k)=>if (k == NameKind.free && env.scope.kind == .function && env.kindOf n == some .cell) then (n,NameKind.cell) else (n,k)).lookup x =
  (names.lookup x).map fun k=>if (k == NameKind.free && env.scope.kind == .function && env.kindOf x == some .cell) then NameKind.cell else k
 | [],_=>rfl
 | (n,k) :: r,x=>by
  have ih:=@ye env r x
  rw [List.map_cons]
  cases hx:x == n with
  | true=>
   have e:x=n:=by simpa using hx
   subst e
   rw [List.lookup_cons (as:=r),beq_self_eq_true]
   show List.lookup x ((if (k == NameKind.free && env.scope.kind == .function && env.kindOf x == some .cell)=true then (x,NameKind.cell) else (x,k)) :: _)=some _
   by_cases hc:(k == NameKind.free && env.scope.kind == .function && env.kindOf x == some .cell)=true
   ·rw [if_pos hc,List.lookup_cons,beq_self_eq_true];dsimp only;rw [if_pos hc]
   ·rw [if_neg hc,List.lookup_cons,beq_self_eq_true];dsimp only;rw [if_neg hc]
  | false=>
   rw [List.lookup_cons (as:=r),hx]
   show List.lookup x ((if (k == NameKind.free && env.scope.kind == .function && env.kindOf n == some .cell)=true then (n,NameKind.cell) else (n,k)) :: _)=_
   by_cases hc:(k == NameKind.free && env.scope.kind == .function && env.kindOf n == some .cell)=true
   ·rw [if_pos hc,List.lookup_cons,hx];exact ih
   ·rw [if_neg hc,List.lookup_cons,hx];exact ih
noncomputable abbrev cxC (X:Cx)(scope:Scope)(cl:List (Str × Addr))(s:Shared)(H:Hp)(fp:List Addr):Cx:=
 { X with s₀:=s,H₀:=H,env:=compEnvC scope cl s.heap.objs.size X.env,outer:=X.stack,ex:=fp,fn:=fun _=>false,pn:=[],xe:=fun _ _=>False }
noncomputable def clr:List Nat->St->St
 | [],σ=>σ
 | j :: r,σ=>clr r (σ.set j none)
theorem YD:∀ (ts:List Nat) (σ:St),(clr ts σ).length=σ.length
 | [],_=>rfl
 | j :: r,σ=>by show (clr r (σ.set j none)).length=_;rw [YD r];simp
theorem QA:∀ (ts:List Nat) (σ:St) (i:Nat) (v:V),(clr ts σ)[i]?=some (some v)->i ∉ ts/\σ[i]?=some (some v)
 | [],_,_,_,h=>⟨by simp,h⟩
 | j :: r,σ,i,v,h=>by
  obtain ⟨h1,h2⟩:=QA r (σ.set j none) i v h
  by_cases e:j=i
  ·subst e
   rw [List.getElem?_set] at h2
   simp at h2
  ·rw [List.getElem?_set_ne e] at h2
   exact ⟨by simp [h1,Ne.symm e],h2⟩
structure ScF (X:Cx)(ts:List Nat)(scope:Scope):Prop where
 kind:scope.kind=.function
 cell:∀ y ∈ scope.names,y.2 ≠ .cell
 loc:∀ y ∈ scope.names,y.2=.local->scope.names.lookup y.1=some .local
 free:∀ y ∈ scope.names,y.2=.free->X.env.kindOf y.1=some .cell \/ X.env.kindOf y.1=some .free
 ts:∀ (i:Nat) x,X.N[i]?=some x->scope.names.lookup x=some .local->i ∈ ts
theorem HK {X:Cx}{ts:List Nat}{scope:Scope}(h:WO X.N ts scope X.env.kindOf=true):ScF X ts scope:=by
  unfold WO at h
  simp only [Bool.and_eq_true,List.all_eq_true,bne_iff_ne,ne_eq,Bool.or_eq_true,beq_iff_eq] at h
  obtain ⟨⟨h1,h2⟩,h3⟩:=h
  refine ⟨h1,fun y hy=>(h2 y hy).1.1,fun y hy e=>?_,fun y hy e=>?_,fun i x e1 e2=>?_⟩
  · rcases (h2 y hy).1.2 with z | z
    · exact absurd e z
    · exact z
  · rcases (h2 y hy).2 with (z | z) | z
    · exact absurd e z
    · exact .inl z
    · exact .inr z
  · have hm : (x, i) ∈ X.N.zipIdx := by
      rw [List.mem_zipIdx_iff_getElem?];exact e1
    rcases h3 _ hm with z | z
    · exact absurd e2 z
    · simpa using z
section
variable {X:Cx}{ts:List Nat}{scope:Scope}{pins:List (Addr × Obj)}{σ:St}{H:Hp}{s:Shared}{fp:List Addr}
theorem Ky (I:Inv X pins σ H s)(S:ScF X ts scope)(hf:∀ b ∈ fp,y8 X pins H b)(hfl:∀ b ∈ fp,b<s.heap.objs.size){cl:List (Str × Addr)}(c1:∀ x c,cl.lookup x=some c->X.env.cells.lookup x=some c)
  (c2:∀ y ∈ scope.names,y.2=.free->∃ c,cl.lookup y.1=some c) {h1:Heap} {t1:Nat} (hns:h1.Ns s.heap.objs.size (fun x=>([]:List (Str × Value)).reverse.lookup x))
  (hk:∀ b o,s.heap.get? b=some o->h1.get? b=some o):Inv (cxC X scope cl s H fp) [] (clr ts σ) H { s with heap:=h1,toks:=t1 }:=by
 have hlk:∀ x,(relabel scope X.env).names.lookup x=(scope.names.lookup x).map fun k=>if (k == NameKind.free && X.env.scope.kind == .function && X.env.kindOf x == some .cell) then NameKind.cell else k:=fun x=>ye
 have cfree:∀ x,((relabel scope X.env).names.lookup x=some .cell \/ (relabel scope X.env).names.lookup x=some .free)->(x,NameKind.free) ∈ scope.names:=fun x hx=>by
  rw [hlk] at hx
  cases e:scope.names.lookup x with
  | none=>rw [e] at hx;rcases hx with hx | hx <;> cases hx
  | some k=>
   have hm:=mem_of_lookup_some e
   cases k with
   | free=>exact hm
   | cell=>exact absurd rfl (S.cell _ hm)
   | «local»=>rw [e] at hx;rcases hx with hx | hx <;> cases hx
   | globalExplicit=>rw [e] at hx;rcases hx with hx | hx <;> cases hx
   | globalImplicit=>rw [e] at hx;rcases hx with hx | hx <;> cases hx
 have ccell:∀ x c,cl.lookup x=some c->∃ v,s.heap.IsCell c v:=fun x c e=>I.cell x c (c1 x c e)
 have fpne:∀ b ∈ fp,b ∉ frs X.stack:=fun b hb z=>by
  obtain ⟨_,f1,f2,_⟩:=hf b hb
  rcases List.mem_cons.mp (I.stkSub b z) with e | e
  ·exact f1 e
  ·exact f2 e
 refine ⟨⟨I.ok.mod,S.kind,I.ok.glob,I.ok.blt,Nat.le_refl _,fun x y c e1 e2=>I.ok.inj x y c (c1 x c e1) (c1 y c e2),fun x hx=>c2 (x,.free) (cfree x hx) rfl,(fun x c hx=>nomatch hx),I.ok.hd,I.ok.frames,.inl rfl,fun b hb=>⟨Nat.ne_of_lt (hfl b hb),fun x c e=>(hf b hb).2.2.2.2.1 x c (c1 x c e)⟩,
  I.bs,Nat.le_trans I.ok.bsz I.sz,fun b o e hb=>?_,fpne,I.stack,I.stkFree⟩,rfl,I.bare,Un.kept hk,⟨_,hns,fun i x v e1 e2 e3=>?_⟩,fun x c e=>?_,I.hok.fresh (Nat.le_refl _),fun x c e=>I.freeC x c (c1 x c e),fun p hp=>absurd hp (by simp),I.hok.kept hk,by rw [YD];exact I.len⟩
 ·rcases (hf b hb).2.2.2.1 with z | z
  ·exact I.ok.noex b o e z
  ·exact absurd (Nat.lt_of_lt_of_le (Heap.lt_size e) (Nat.le_trans I.ok.bsz z)) (Nat.lt_irrefl _)
 ·obtain ⟨nt,e2⟩:=QA ts σ i v e2
  have e3':(relabel scope X.env).names.lookup x=some .local \/ (relabel scope X.env).names.lookup x=some .cell \/ (relabel scope X.env).names.lookup x=some .free:=e3
  rcases e3' with z | z
  ·rw [hlk] at z
   cases e:scope.names.lookup x with
   | none=>rw [e] at z;cases z
   | some k=>
    rw [e] at z
    have z':(if (k == NameKind.free && X.env.scope.kind == .function && X.env.kindOf x == some .cell)=true then NameKind.cell else k)=.local:=Option.some.inj z
    split at z'
    ·cases z'
    ·subst z'
     exact absurd (S.ts i x e1 e) nt
  ·have hm:=cfree x z
   obtain ⟨c,hc⟩:=c2 _ hm rfl
   obtain ⟨m,hn,hl⟩:=I.loc
   have vis:Vis X.env.scope x:=by
    rcases S.free _ hm rfl with q | q
    ·exact .inr (.inl q)
    ·exact .inr (.inr q)
   obtain ⟨u,r,l⟩:=hl i x v e1 e2 vis
   refine ⟨u,r,.inr ⟨z,c,hc,?_⟩⟩
   rcases l with ⟨q,_⟩ | ⟨_,c',hc',hcell⟩
   ·rcases S.free _ hm rfl with q' | q'
    ·rw [q'] at q;cases q
    ·rw [q'] at q;cases q
   ·rw [c1 x c hc] at hc'
    cases hc'
    obtain ⟨o,ho,hd⟩:=hcell
    exact ⟨o,hk _ _ ho,hd⟩
 ·obtain ⟨v,o,ho,hd⟩:=ccell x c e
  exact ⟨v,o,hk _ _ ho,hd⟩
end
section
variable {prog:Program}{w:World}{A:Around}{R:Result->Shared->Prop}{s:Shared}
theorem xx {elt target iter : Expr}{ifs : List Expr}{scope : Scope}{pos : Pos}{it acc : Value}{env : Env}(I : Nat -> Shared -> Prop)
    (turn:∀ n s,I n s->wpAny (model prog w) A (pyNext it) (fun r s₁=>match r with
      | none=>R (.ok .next) s₁
      | some v => wpAny (model prog w) A (letOwnedTupleGo target it v) (fun _ s₀ => wpAny (model prog w) A (assign target env v) (fun _ s₂ =>
          wpAny (model prog w) A (forIn ifs true fun c r=>if r=true then do let ok <- isTrue c env (eval c env);pure (ForInStep.yield ok) else pure (ForInStep.yield r)) (fun ok s₃=>
            if ok=true then wpAny (model prog w) A (eval elt env) (fun x s₄=>
              wpAny (model prog w) A (call (.builtin "list.append") [acc,x]) (fun _ s₅=>∃ m,m<n/\I m s₅) (fun _ _=>False) s₄) (fun _ _=>False) s₃
            else ∃ m,m<n/\I m s₃) (fun _ _=>False) s₂) (fun _ _=>False) s₀) (fun _ _=>False) s₁) (fun _ _=>False) s)
    (n:Nat) (h:I n s) :
    codeAny (model prog w) A (.compLoop (.ListComp elt [⟨target,iter,ifs,0⟩] scope pos) 0 it acc env) R s:=by
  refine codeAny_loop rfl I (fun n s hI=>?_) n h
  show wpAny _ A ((compTurn (.ListComp elt [⟨target,iter,ifs,0⟩] scope pos) 0 it acc env).onRaise (fun x=>do noteFrame x env;theTreesLotGoes x)) _ _ s
  refine wpAny_noted ?_
  rw [compTurn_list]
  refine wpAny_bind (wpAny_standAt (wpAny_bind (wpAny_mono (turn n s hI) (fun r s₁ h₁=>?_) fun _ _ h'=>h'.elim)))
  cases r with
  | none=>exact wpAny_pure h₁
  | some v=>
    refine wpAny_bind (wpAny_mono h₁ (fun _ s₀ h₀=>?_) fun _ _ h'=>h'.elim)
    refine wpAny_bind (wpAny_mono h₀ (fun _ s₂ h₂=>wpAny_bind (wpAny_mono h₂ (fun ok s₃ h₃=>?_) fun _ _ h'=>h'.elim)) fun _ _ h'=>h'.elim)
    cases ok with
    | false=>exact wpAny_pure ⟨rfl,h₃⟩
    | true=>
      exact wpAny_bind (wpAny_bind (wpAny_mono h₃ (fun x s₄ h₄=>wpAny_bind (wpAny_mono h₄ (fun _ s₅ h₅=>wpAny_pure (wpAny_pure ⟨rfl,h₅⟩)) fun _ _ h'=>h'.elim)) fun _ _ h'=>h'.elim))
end
noncomputable def AX:TT:=fun _ H Q=>Q true H
noncomputable def PIf (X:Cx)(ifs:List Expr)(t:TT):Prop:=
 ∀ (pins:List (Addr × Obj)) (s:Shared) (σ:St) (H:Hp) (Q:Bool->Hp->Prop),Inv X pins σ H s->t σ H Q ->
  wpAny (model X.prog X.w) X.A (forIn ifs true fun c r=>if r=true then do let ok <- isTrue c X.env (eval c X.env);pure (ForInStep.yield ok) else pure (ForInStep.yield r)) (TP X pins σ Q) X.xe s
theorem jb {X:Cx}:PIf X [] AX:=fun _ _ _ H _ I h=>wpAny_tests_nil ⟨H,I,h⟩
theorem yl {X:Cx}{c:Expr}{t:TT}(h:PT X c t):PIf X [c] t:=fun pins s σ H Q I hq=>wpAny_tests_one (h pins s σ H Q I hq)
noncomputable def JW (ts:List Nat)(wi:TI)(g:TG)(tt:TT)(te:TE):TE:=fun σ H Q=>wi σ H fun J H1=>∀ D,H1 D=none->∃ W:Nat->Nat->St->Hp->Prop,(∃ m,W 0 m (clr ts σ) (upd H1 D (.lst [])))/\∀ i m τ H2,W i m τ H2 ->
 (J.stop i H2/\Q (.ref D) H2) \/ (J.go i H2/\∃ N:St->Hp->Prop,(∀ τ' H',N τ' H'->∃ m',m'<m/\W (i+1) m' τ' H')/\∀ x H',J.yld i H2 x H'->g x τ H' fun τ2 H3=>tt τ2 H3 fun b H4=>
  if b=true then te τ2 H4 fun v H5=>∃ ys,H5 D=some (.lst ys)/\ys.length<sizeLine/\N τ2 (upd H5 D (.lst (ys ++ [v]))) else N τ2 H4)
section
variable {X:Cx}{ts:List Nat}{scope:Scope}{tg iter elt:Expr}{ifs:List Expr}{wi:TI}{g:TG}{tt:TT}{te:TE}{pos:Pos}
theorem Q8 (hc:X.calm=true)(hsc:WO X.N ts scope X.env.kindOf=true)(hi:PI X tg iter wi)(hg:∀ cl s H fp,PG (cxC X scope cl s H fp) tg g)(ht:∀ cl s H fp,PIf (cxC X scope cl s H fp) ifs tt)(he:∀ cl s H fp,PE (cxC X scope cl s H fp) elt te)
  {pins:List (Addr × Obj)} {s:Shared} {σ:St} {H:Hp} {Q:VK} (I:Inv X pins σ H s) (h:JW ts wi g tt te σ H Q) {use:Option (Value->Sem Unit)} {Q':Value->Shared->Prop}
  (fin:∀ (D C:Addr) (H':Hp) (s':Shared),Inv X pins σ H' s'->(∃ m,s'.heap.Ns C m)->H' C=none->C ≠ X.env.locals->(∀ x c,X.env.cells.lookup x=some c->c ≠ C)->X.s₀.heap.objs.size<=C->(∀ p ∈ X.pn ++ pins,p.1 ≠ C)->C ∉ X.fs->Q (.ref D) H' ->
   compPost (model X.prog X.w) X.A X.xe use Q' (.ref D) C (.ok .next) s')
  (hs:∀ x,foldedSetIterable iter X.env x=pure x) :
  wpAny (model X.prog X.w) X.A (comprehension (.ListComp elt [⟨tg,iter,ifs,0⟩] scope pos) scope X.env (firstIterPos [⟨tg,iter,ifs,0⟩] pos) (newList []) false (eval iter X.env) use) Q' X.xe s:=by
 have S:=HK hsc
 obtain ⟨cl,hcl,c1,c2⟩:=Kt (scope:=scope) (env:=X.env) fun y hy e=>I.ok.has y.1 (S.free y hy e)
 refine wpAny_comprehension_free (use:=use) rfl hs hcl S.kind S.loc ?_
 refine wpAny_mono (hi pins s σ H _ I h) (fun v s1 h1=>wpAny_mono h1 (fun itv s2 h2=>?_) fun _ _ e=>e) fun _ _ e=>e
 obtain ⟨it,fp,tn,J,H2,e,I2,T,st2,f2,q2⟩:=h2
 subst e
 have hD:H2 s2.heap.objs.size=none:=I2.hok.fresh (Nat.le_refl _)
 obtain ⟨W,⟨m0,w0⟩,turn⟩:=q2 _ hD
 refine wpAny_newObj_type (wpAny_newFunctionEnv S.cell (by intro y hy;simp at hy) (fun h₁ hns₁ hsb₁=>?_) S.kind)
 dsimp only at hns₁ hsb₁ ⊢
 generalize hh3:s2.heap.push { cls:=.type "list",dict:=none,data:=.seq ([]:List Value).toArray }=g3 at hns₁ hsb₁ ⊢
 have I3:Inv X pins σ (upd H2 s2.heap.objs.size (.lst [])) { s2 with heap:=g3 }:=by
  rw [<- hh3]
  exact I2.laid (t':=s2.toks) (fun b u e=>Heap.get?_push_of_some _ e) (Nat.le_refl _) ⟨Nat.zero_le _,[],_,.nil,Heap.get?_push_size _ rfl⟩
 have st3:tn 0 g3:=T.keep _ _ _ st2 fun b _ o e=>by rw [<- hh3];exact Heap.get?_push_of_some _ e
 have lt2:∀ b ∈ fp,b<s2.heap.objs.size:=fun b hb=>by obtain ⟨o,e,_⟩:=T.obj _ _ st2 b hb;exact Heap.lt_size e
 have hsz3:g3.objs.size=s2.heap.objs.size+1:=by rw [<- hh3,Heap.size_push]
 have f3:∀ b ∈ fp,y8 X pins (upd H2 s2.heap.objs.size (.lst [])) b:=fun b hb=>⟨by rw [zq (Nat.ne_of_lt (lt2 b hb))];exact (f2 b hb).1,(f2 b hb).2⟩
 have lt3:∀ b ∈ fp,b<g3.objs.size:=fun b hb=>by rw [hsz3];exact Nat.lt_succ_of_lt (lt2 b hb)
 have old:∀ b o,g3.get? b=some o->h₁.get? b=some o:=fun b o e=>hsb₁.extBut b o (Nat.ne_of_lt (Heap.lt_size e)) (Heap.get?_push_of_some _ e)
 have hns:h₁.Ns g3.objs.size (fun x=>([]:List (Str × Value)).reverse.lookup x):=hns₁
 have I4:∀ t,Inv (cxC X scope cl { s2 with heap:=g3 } (upd H2 s2.heap.objs.size (.lst [])) fp) [] (clr ts σ) (upd H2 s2.heap.objs.size (.lst [])) { s2 with heap:=h₁,toks:=t }:=fun t=>Ky I3 S f3 lt3 c1 c2 hns old
 have fpne:∀ b ∈ fp,b ∉ frs X.stack:=fun b hb z=>by
  obtain ⟨_,f1,f2,_⟩:=f3 b hb
  rcases List.mem_cons.mp (I3.stkSub b z) with e | e
  ·exact f1 e
  ·exact f2 e
 have stat:∀ {H':Hp},(∀ b ∈ fp,H' b=none)->∀ b ∈ fp,y8 (cxC X scope cl { s2 with heap:=g3 } (upd H2 s2.heap.objs.size (.lst [])) fp) [] H' b:=fun hn b hb=>
  ⟨hn b hb,Nat.ne_of_lt (lt3 b hb),fpne b hb,.inl hb,fun x c e=>(f2 b hb).2.2.2.2.1 x c (c1 x c e),fun p hp=>absurd hp (by simp)⟩
 have loop:∀ t,codeAny (model X.prog X.w) X.A (.compLoop (.ListComp elt [⟨tg,iter,ifs,0⟩] scope pos) 0 (.ref it) (.ref s2.heap.objs.size) (compEnvC scope cl g3.objs.size X.env))
   (compPost (model X.prog X.w) X.A X.xe use Q' (.ref s2.heap.objs.size) g3.objs.size) { s2 with heap:=h₁,toks:=t }:=by
  intro t
  refine xx (fun n s'=>∃ i τ H',Inv (cxC X scope cl { s2 with heap:=g3 } (upd H2 s2.heap.objs.size (.lst [])) fp) [] τ H' s'/\tn i s'.heap/\(∀ b ∈ fp,H' b=none)/\W i n τ H') ?_ m0
   ⟨0,clr ts σ,_,I4 t,T.keep _ _ _ st3 fun b _ o e=>old b o e,fun b hb=>(f3 b hb).1,w0⟩
  rintro n s5 ⟨i,τ,H5,I5,st5,fr5,w5⟩
  rcases turn i n τ H5 w5 with ⟨stop,qn⟩ | ⟨go,N,hN,step⟩
  ·refine thn (T.done (cxC X scope cl { s2 with heap:=g3 } (upd H2 s2.heap.objs.size (.lst [])) fp) rfl rfl rfl hc i [] s5 τ H5 _ I5 (stat fr5) st5 stop) fun r s6 ⟨hr,I6⟩=>?_
   subst hr
   have base:Un (frs X.stack) fp (upd H2 s2.heap.objs.size (.lst [])) H5 g3 s6.heap:=I6.base
   have J6:Inv X pins σ H5 s6:=I3.call' (ch:=fp) I6.os base I6.hok I6.bare fun b hb=>⟨(f3 b hb).2.2.2.1,(f3 b hb).2.1,(f3 b hb).2.2.2.2.1,(f3 b hb).2.2.2.2.2⟩
   obtain ⟨m6,n6,_⟩:=I6.loc
   have hC:g3.get? g3.objs.size=none:=Heap.get?_none_of_le (Nat.le_refl _)
   refine fin _ g3.objs.size H5 s6 J6 ⟨m6,n6⟩ I6.free (Nat.ne_of_gt I3.lt) (fun x c e z=>?_) I3.sz (fun p hp z=>?_) (I3.nofs (Nat.le_refl _)) qn
   ·obtain ⟨v,q⟩:=I3.cell x c e
    exact absurd q.lt (by rw [z];exact Nat.lt_irrefl _)
   ·exact absurd (Heap.lt_size (I3.pin p hp).1) (by rw [z];exact Nat.lt_irrefl _)
  ·refine thn (T.item (cxC X scope cl { s2 with heap:=g3 } (upd H2 s2.heap.objs.size (.lst [])) fp) rfl rfl rfl hc i [] s5 τ H5 _ I5 (stat fr5) st5 go) fun r s6 ⟨u,hr,h6⟩=>?_
   subst hr
   refine thn h6 fun _ s7 ⟨x,H7,I7,r7,y7,st7,fr7⟩=>?_
   have I7':=I7.pinned (stat fr7) (T.obj _ _ st7)
   refine thn (hg cl { s2 with heap:=g3 } _ fp _ s7 τ H7 x u _ I7' r7 (step x H7 y7)) fun _ s8 ⟨τ8,H8,I8,q8⟩=>?_
   refine thn (ht cl { s2 with heap:=g3 } _ fp _ s8 τ8 H8 _ I8 q8) fun b s9 ⟨H9,I9,q9⟩=>?_
   have again:∀ {τ9:St} {H9:Hp} {s9:Shared},Inv (cxC X scope cl { s2 with heap:=g3 } (upd H2 s2.heap.objs.size (.lst [])) fp) ([] ++ vV fp s7.heap) τ9 H9 s9->N τ9 H9 ->
     ∃ m,m<n/\∃ i τ H',Inv (cxC X scope cl { s2 with heap:=g3 } (upd H2 s2.heap.objs.size (.lst [])) fp) [] τ H' s9/\tn i s9.heap/\(∀ b ∈ fp,H' b=none)/\W i m τ H':=fun {τ9 H9 s9} I9 n9=>by
    obtain ⟨m',hm,w9⟩:=hN _ _ n9
    refine ⟨m',hm,i+1,τ9,H9,I9.unpinned,T.keep _ _ _ st7 fun b hb o e=>(I9.pin (b,o) (List.mem_append_right _ (List.mem_append_right _ (kr hb e)))).1,fun b hb=>?_,w9⟩
    obtain ⟨o,e,d⟩:=T.obj _ _ st7 b hb
    exact (I9.pin (b,o) (List.mem_append_right _ (List.mem_append_right _ (kr hb e)))).2.1
   cases b with
   | false=>
    rw [if_neg Bool.false_ne_true] at q9 ⊢
    exact again I9 q9
   | true=>
    rw [if_pos rfl] at q9 ⊢
    refine thn (he cl { s2 with heap:=g3 } _ fp _ s9 τ8 H9 _ I9 q9) fun y s10 ⟨v,H10,I10,r10,ys,hys,hlen,n10⟩=>?_
    exact thn (Zl (X:=cxC X scope cl { s2 with heap:=g3 } (upd H2 s2.heap.objs.size (.lst [])) fp) _ s10 τ8 H10 (.ref s2.heap.objs.size) [v] (.ref s2.heap.objs.size) [y] (fun _ H11=>N τ8 H11) I10 rfl (.cons r10 .nil) ⟨_,ys,v,rfl,rfl,hys,hlen,n10⟩) fun _ s11 ⟨_,H11,I11,_,n11⟩=>again I11 n11
 have LW:=loop (s2.toks+([]:List (Str × Value)).length)
 exact codeAny_compStart_list LW (T.self _ 0 _ _ _ (T.keep _ _ _ st3 fun b _ o e=>old b o e) LW)
end
section
variable {X:Cx}{ts:List Nat}{scope:Scope}{tg iter elt:Expr}{ifs:List Expr}{wi:TI}{g:TG}{tt:TT}{te:TE}{pos:Pos}
theorem qQ (hc:X.calm=true)(hsc:WO X.N ts scope X.env.kindOf=true)(hi:PI X tg iter wi)(hg:∀ cl s H fp,PG (cxC X scope cl s H fp) tg g)(ht:∀ cl s H fp,PIf (cxC X scope cl s H fp) ifs tt)(he:∀ cl s H fp,PE (cxC X scope cl s H fp) elt te)
  (hs:∀ x,foldedSetIterable iter X.env x=pure x:=by intro _;rfl):PE X (.ListComp elt [⟨tg,iter,ifs,0⟩] scope pos) (JW ts wi g tt te):=by
 intro pins s σ H Q I h
 rw [eval_ListComp]
 refine Q8 hc hsc hi hg ht he I h (use:=none) (fun D C H' s' I' ⟨m,hn⟩ hC hL hce hsz hp hfs q=>⟨m,hn,fun h' hs'=>?_⟩) hs
 exact ⟨.ref D,H',I'.turned (t':=s'.toks) (it:=C) (fun b o hb e=>(hs'.2 b hb).trans e) hC hL (.inr hsz) hce hp,rfl,q⟩
theorem vj {j:Nat}{y:Str}{py spos:Pos}(hc:X.calm=true)(hN:X.N.Nodup)(hj:X.N[j]?=some y)(hy:Loc X.env.scope y)(hsc:WO X.N ts scope X.env.kindOf=true)(hi:PI X tg iter wi)(hg:∀ cl s H fp,PG (cxC X scope cl s H fp) tg g)(ht:∀ cl s H fp,PIf (cxC X scope cl s H fp) ifs tt)(he:∀ cl s H fp,PE (cxC X scope cl s H fp) elt te)
  (hsw:swapsWith (.ListComp elt [⟨tg,iter,ifs,0⟩] scope pos) (some (.Name y py)) spos.line X.env=pure true:=by rfl)
  (hs:∀ x,foldedSetIterable iter X.env x=pure x:=by intro _;rfl) (hf:X.fn y=true \/ X.env.scope.names.lookup y=some .local:=by first | exact .inl rfl | exact .inr rfl | assumption) :
  PS X (.Assign [.Name y py] (.ListComp elt [⟨tg,iter,ifs,0⟩] scope pos) spos) (BB (JW ts wi g tt te) (Q2 j)):=by
 intro pins s σ H D I h
 rw [exec_Assign_Name_used _ _ _ _ hsw]
 refine wpAny_bind (wpAny_standAt (wpAny_bind ?_))
 show wpAny _ _ (do let _ <- comprehension (.ListComp elt [⟨tg,iter,ifs,0⟩] scope pos) scope X.env _ (newList []) false (eval iter X.env) (some (assign (.Name y py) X.env))) _ _ s
 refine wpAny_bind (wpAny_mono (Q8 hc hsc hi hg ht he I h (use:=some (assign (.Name y py) X.env)) (Q':=fun _ s'=>SP X pins D .next s') (fun D' C H' s' I' ⟨m,hn⟩ hC hL hce hsz hp hfs q=>?_) hs) (fun _ s' hq=>wpAny_pure (wpAny_pure hq)) fun _ _ e=>e)
 show wpAny _ _ (assign (.Name y py) X.env (.ref D')) _ _ _
 refine wpAny_assign_Name (wR (v:=.ref D') I' hN hj hy rfl (fun s2 I2 ⟨a,hsb,ha⟩=>?_) hf)
 have hCa:C ≠ a:=by
  rcases ha with rfl | ha
  ·exact hL
  ·exact Ne.symm (hce y a ha)
 refine ⟨m,hn.sameBut hsb hCa,fun h' hs'=>?_⟩
 exact ⟨_,H',I2.turned (t':=s2.toks) (it:=C) (fun b o hb e=>(hs'.2 b hb).trans e) hC hL (.inr hsz) hce hp,q⟩
end
noncomputable def Ite (K:PySem.W.Frag)(a:Addr):It:=
 ⟨fun i H=>∃ xs x,SqL K H a xs/\xs[i]?=some x,fun i H y H'=>∃ p x,H p=none/\y=.ref p/\(∀ xs,SqL K H a xs->xs[i]?=some x)/\H'=upd H p (.tup [.int i,x]),fun i H=>∃ xs,SqL K H a xs/\xs.length<=i⟩
theorem Zg {P:Program}{w:World}{K:PySem.W.Frag}{es:List Expr}{kt:Nat}{tp:Pos}(a e it:Addr)(hei:e ≠ it):KP P w K (.Tuple es kt tp) (Ite K a) [e,it] e (fun i h=>(∃ old,IsEnum h e it (i:Nat) old)/\h.IsListIter it a i) where
 mem:=by simp
 obj:=fun i h st b hb=>by
  obtain ⟨⟨old,he⟩,⟨o,e1,c,d⟩⟩:=st
  rcases List.mem_cons.mp hb with rfl | hb
  ·exact ⟨_,he,fun v z=>by have z':Data.fields _=Data.cell v:=z;cases z'⟩
  ·have e2:b=it:=by simpa using hb
   subst e2
   exact ⟨o,e1,fun v z=>by rw [d] at z;cases z⟩
 keep:=fun i h h' st k=>by
  obtain ⟨⟨old,he⟩,st⟩:=st
  exact ⟨⟨old,k e (by simp) _ he⟩,st.at fun o e=>k it (by simp) o e⟩
 item:=by
  intro X hP hw hK hc i pins s σ H E I hf st hg
  subst hP hw hK
  obtain ⟨⟨old,he⟩,st⟩:=st
  obtain ⟨xs,x,hq,hx⟩:=hg
  obtain ⟨its,rv,p,hz⟩:=I.list hq
  obtain ⟨u,hu,ru⟩:=rv.get hx
  have fe:=hf e (by simp)
  have fi:=hf it (by simp)
  refine wpAny_pyNext_enum_item he st p.isList (x:=u) (by simpa using hu) hei fun h1 heo hit1 ht1 hz1 hk1=>?_
  refine ⟨.ref s.heap.objs.size,rfl,wpAny_letOwnedTupleGo_enum heo fun h2 he2 hs2=>?_⟩
  replace hs2:Heap.SameBut e h1 h2:=hs2
  have elt:e<s.heap.objs.size:=Heap.lt_size he
  have hfr:H s.heap.objs.size=none:=I.hok.fresh (Nat.le_refl _)
  have ht2:h2.get? s.heap.objs.size=some { cls:=.type "tuple",data:=.seq #[.int i s.toks,u] }:=(hs2.2 _ (Nat.ne_of_gt elt)).trans ht1
  have kk:∀ b o,b ∉ [e,it]->s.heap.get? b=some o->h2.get? b=some o:=fun b o hc q=>by
   have n1:b ≠ e:=fun z=>hc (by simp [z])
   have n2:b ≠ it:=fun z=>hc (by simp [z])
   exact (hs2.2 b n1).trans (hk1 b o n1 n2 q)
  have nb:∀ c v,H c=some v->c ∉ [e,it]:=fun c v z hm=>by
   rcases List.mem_cons.mp hm with z' | z'
   ·rw [z',fe.1] at z;cases z
   ·have e2:c=it:=by simpa using z'
    rw [e2,fi.1] at z;cases z
  have I2:Inv X pins σ (upd H s.heap.objs.size (.tup [.int i,x])) { s with heap:=h2,toks:=s.toks+1 }:=by
   refine I.step (g':=s.gens) (d':=s.drawn) (ch:=[e,it]) (fun b hb=>?_) (fun b o _ _ hc q _=>kk b o hc q) (fun b o _ _ hc q _=>⟨o.slots,kk b o hc q⟩) (fun b o _ q n=>by rw [zq (Nat.ne_of_lt (Heap.lt_size q))];exact n) (fun b o hc q=>⟨o,kk b o hc q⟩)
    (fun b xs q=>by rw [zq (zj q hfr)];exact q) (fun b o u q=>by rw [zq (zj q hfr)];exact q) (fun b ps q=>⟨#[],by rw [zq (zj q hfr),q];simp⟩) (fun m hm=>?_) (fun b v q=>?_) I.bare
   ·rcases List.mem_cons.mp hb with z | hb
    ·rw [z];exact ⟨fe.2.2.2.1,fe.2.1,fe.2.2.2.2.1,fe.2.2.2.2.2⟩
    ·have e2:b=it:=by simpa using hb
     rw [e2];exact ⟨fi.2.2.2.1,fi.2.1,fi.2.2.2.2.1,fi.2.2.2.2.2⟩
   ·obtain ⟨o,es,ep,ho,r⟩:=hm
    exact ⟨o,es,ep,kk _ o (by simp [Ne.symm fe.2.1,Ne.symm fi.2.1]) ho,r⟩
   ·by_cases hb:b=s.heap.objs.size
    ·subst hb
     rw [zf] at q
     cases q
     exact ⟨by show 2<=sizeLine;decide,[.int i s.toks,u],.cons ⟨_,rfl⟩ (.cons ru .nil),_,ht2,rfl,⟨_,rfl⟩,rfl⟩
    ·rw [zq hb] at q
     refine (I.hok b v q).stay (fun c o hc q'=>kk c o ?_ q') (fun c z=>by rw [zq (zj z hfr)];exact z) fun c xs z=>by rw [zq (zj z hfr)];exact z
     rcases hc with z | z
     ·rw [z];exact nb b v q
     ·exact nb c _ z
  refine ⟨.ref s.heap.objs.size,_,I2,rfl,⟨s.heap.objs.size,x,hfr,rfl,fun ys hy=>by rw [I.list_inj hy hq];exact hx,rfl⟩,⟨⟨_,by simpa using he2⟩,hit1.extBut hs2.extBut (Ne.symm hei)⟩,fun b hb=>?_⟩
  have hlt:b<s.heap.objs.size:=by
   rcases List.mem_cons.mp hb with rfl | hb
   ·exact elt
   ·have e2:b=it:=by simpa using hb
    subst e2
    obtain ⟨o,e1,_⟩:=st
    exact Heap.lt_size e1
  rw [zq (Nat.ne_of_lt hlt)]
  exact (hf b hb).1
 done:=by
  intro X hP hw hK hc i pins s σ H E I hf st hg
  subst hP hw hK
  obtain ⟨⟨old,he⟩,st⟩:=st
  obtain ⟨xs,hq,hx⟩:=hg
  obtain ⟨its,rv,p,hz⟩:=I.list hq
  obtain ⟨f0,f1,f2,f3,f4,f5⟩:=hf it (by simp)
  have hl:=rv.length
  exact wpAny_pyNext_enum_end (I.ok.hd hc) he st p.isList (by simp;walk_at "o") fun h' eb=>⟨rfl,I.turned (t':=s.toks) (fun b o hb e=>eb b o hb e) f0 f1 f3 f4 f5⟩
 self:=fun _ _ _ _ _ st h=>by
  obtain ⟨⟨old,he⟩,_⟩:=st
  exact wpAny_pyIter_enum he h
section
variable {X:Cx}{pins:List (Addr × Obj)}{σ:St}{H:Hp}{s:Shared}
theorem Inv.yieldTup {ch:List Addr}{h2:Heap}{tk:Nat}{T:Addr}{xs:List V}{us:List Value}(I:Inv X pins σ H s)(hf:∀ b ∈ ch,y8 X pins H b)(kk:∀ b o,b ∉ ch->s.heap.get? b=some o->h2.get? b=some o)(hT:s.heap.objs.size<=T)
  (ht2:h2.get? T=some { cls:=.type "tuple",data:=.seq us.toArray }) (rv:zE xs us) (hz:xs.length<=sizeLine):Inv X pins σ (upd H T (.tup xs)) { s with heap:=h2,toks:=tk }:=by
 have hfr:H T=none:=I.hok.fresh hT
 have nb:∀ c v,H c=some v->c ∉ ch:=fun c v z hm=>by rw [(hf c hm).1] at z;cases z
 refine I.step (g':=s.gens) (d':=s.drawn) (ch:=ch) (fun b hb=>⟨(hf b hb).2.2.2.1,(hf b hb).2.1,(hf b hb).2.2.2.2.1,(hf b hb).2.2.2.2.2⟩) (fun b o _ _ hc q _=>kk b o hc q) (fun b o _ _ hc q _=>⟨o.slots,kk b o hc q⟩)
  (fun b o _ q n=>by rw [zq (Nat.ne_of_lt (Nat.lt_of_lt_of_le (Heap.lt_size q) hT))];exact n) (fun b o hc q=>⟨o,kk b o hc q⟩)
  (fun b xs q=>by rw [zq (zj q hfr)];exact q) (fun b o u q=>by rw [zq (zj q hfr)];exact q) (fun b ps q=>⟨#[],by rw [zq (zj q hfr),q];simp⟩) (fun m hm=>?_) (fun b v q=>?_) I.bare
 ·obtain ⟨o,es,ep,ho,r⟩:=hm
  exact ⟨o,es,ep,kk _ o (fun z=>(hf _ z).2.1 rfl) ho,r⟩
 ·by_cases hb:b=T
  ·subst hb
   rw [zf] at q
   cases q
   exact ⟨hz,us,rv,_,ht2,rfl,⟨_,rfl⟩,rfl⟩
  ·rw [zq hb] at q
   refine (I.hok b v q).stay (fun c o hc q'=>kk c o ?_ q') (fun c z=>by rw [zq (zj z hfr)];exact z) fun c xs z=>by rw [zq (zj z hfr)];exact z
   rcases hc with z | z
   ·rw [z];exact nb b v q
   ·exact nb c _ z
theorem Inv.turnedL {ch:List Addr}{h2:Heap}{tk:Nat}(I:Inv X pins σ H s)(hf:∀ b ∈ ch,y8 X pins H b)(kk:∀ b o,b ∉ ch->s.heap.get? b=some o->h2.get? b=some o):Inv X pins σ H { s with heap:=h2,toks:=tk }:=by
 have nb:∀ c v,H c=some v->c ∉ ch:=fun c v z hm=>by rw [(hf c hm).1] at z;cases z
 refine I.step (g':=s.gens) (d':=s.drawn) (ch:=ch) (fun b hb=>⟨(hf b hb).2.2.2.1,(hf b hb).2.1,(hf b hb).2.2.2.2.1,(hf b hb).2.2.2.2.2⟩) (fun b o _ _ hc q _=>kk b o hc q) (fun b o _ _ hc q _=>⟨o.slots,kk b o hc q⟩)
  (fun b o _ q n=>n) (fun b o hc q=>⟨o,kk b o hc q⟩) (fun b xs q=>q) (fun b o u q=>q) (fun b ps q=>⟨#[],by rw [q];simp⟩) (fun m hm=>?_) (fun b v q=>?_) I.bare
 ·obtain ⟨o,es,ep,ho,r⟩:=hm
  exact ⟨o,es,ep,kk _ o (fun z=>(hf _ z).2.1 rfl) ho,r⟩
 ·refine (I.hok b v q).stay (fun c o hc q'=>kk c o ?_ q') (fun c z=>z) fun c xs z=>z
  rcases hc with z | z
  ·rw [z];exact nb b v q
  ·exact nb c _ z
end
noncomputable def Itz (K:PySem.W.Frag)(a b:Addr):It:=
 ⟨fun i H=>∃ xs ys x y,SqL K H a xs/\SqL K H b ys/\xs[i]?=some x/\ys[i]?=some y,fun i H z H'=>∃ p x y,H p=none/\z=.ref p/\(∀ xs,SqL K H a xs->xs[i]?=some x)/\(∀ ys,SqL K H b ys->ys[i]?=some y)/\H'=upd H p (.tup [x,y]),
  fun i H=>∃ xs ys,SqL K H a xs/\SqL K H b ys/\(xs.length<=i \/ ys.length<=i)⟩
theorem WI {P:Program}{w:World}{K:PySem.W.Frag}{es:List Expr}{kt:Nat}{tp:Pos}(l1 l2 z TI TO i1 i2:Addr)(D:ZipApart z TI TO i1 i2 l1 l2) :
  KP P w K (.Tuple es kt tp) (Itz K l1 l2) [z,TI,TO,i1,i2] z (fun i h=>IsZip h z TI TO .none/\IsPair h TI (.ref i1) (.ref i2)/\(∃ a b,IsPair h TO a b)/\h.IsListIter i1 l1 i/\h.IsListIter i2 l2 i) where
 mem:=by simp
 obj:=fun i h st b hb=>by
  obtain ⟨hz,hTI,⟨a,c,hTO⟩,⟨o1,e1,c1,d1⟩,⟨o2,e2,c2,d2⟩⟩:=st
  simp only [List.mem_cons,List.not_mem_nil,or_false] at hb
  rcases hb with rfl | rfl | rfl | rfl | rfl
  ·exact ⟨_,hz,fun v q=>by have q':Data.fields _=Data.cell v:=q;cases q'⟩
  ·exact ⟨_,hTI,fun v q=>by have q':Data.seq _ _=Data.cell v:=q;cases q'⟩
  ·exact ⟨_,hTO,fun v q=>by have q':Data.seq _ _=Data.cell v:=q;cases q'⟩
  ·exact ⟨o1,e1,fun v q=>by rw [d1] at q;cases q⟩
  ·exact ⟨o2,e2,fun v q=>by rw [d2] at q;cases q⟩
 keep:=fun i h h' st k=>by
  obtain ⟨hz,hTI,⟨a,c,hTO⟩,h1,h2⟩:=st
  exact ⟨k _ (by simp) _ hz,k _ (by simp) _ hTI,⟨a,c,k _ (by simp) _ hTO⟩,h1.at fun o e=>k _ (by simp) o e,h2.at fun o e=>k _ (by simp) o e⟩
 item:=by
  intro X hP hw hK hc i pins s σ H E I hf st hg
  subst hP hw hK
  obtain ⟨hz,hTI,⟨a,c,hTO⟩,h1,h2⟩:=st
  obtain ⟨xs,ys,x,y,hq1,hq2,hx,hy⟩:=hg
  obtain ⟨its1,rv1,p1,hz1⟩:=I.list hq1
  obtain ⟨its2,rv2,p2,hz2⟩:=I.list hq2
  obtain ⟨u,hu,ru⟩:=rv1.get hx
  obtain ⟨v,hv,rvv⟩:=rv2.get hy
  refine wpAny_pyNext_zip_item D hz hTI hTO h1 h2 p1.isList p2.isList (x:=u) (y:=v) (by simpa using hu) (by simpa using hv) fun g1 b1 b2 b3 b4 b5 b6 hk=>?_
  refine ⟨.ref s.heap.objs.size,rfl,wpAny_letOwnedTupleGo_zip b1 fun g2 hz2' hs2=>?_⟩
  replace hs2:Heap.SameBut z g1 g2:=hs2
  have zlt:z<s.heap.objs.size:=Heap.lt_size hz
  have I2:Inv X pins σ (upd H s.heap.objs.size (.tup [x,y])) { s with heap:=g2,toks:=s.toks }:=by
   refine I.yieldTup (us:=[u,v]) hf (fun b o hb e=>?_) (Nat.le_refl _) ((hs2.2 _ (Nat.ne_of_gt zlt)).trans b5) (.cons ru (.cons rvv .nil)) (by show 2<=sizeLine;decide)
   simp only [List.mem_cons,List.not_mem_nil,or_false,not_or] at hb
   exact (hs2.2 b hb.1).trans (hk b o hb.1 hb.2.2.1 hb.2.2.2.1 hb.2.2.2.2 e)
  refine ⟨.ref s.heap.objs.size,_,I2,rfl,⟨s.heap.objs.size,x,y,I.hok.fresh (Nat.le_refl _),rfl,fun xs' h'=>by rw [I.list_inj h' hq1];exact hx,fun ys' h'=>by rw [I.list_inj h' hq2];exact hy,rfl⟩,
   ⟨hz2',(hs2.2 _ D.TIz).trans (hk _ _ D.TIz D.TITO D.TIi1 D.TIi2 hTI),⟨_,_,(hs2.2 _ D.TOz).trans b2⟩,b3.extBut hs2.extBut D.i1z,b4.extBut hs2.extBut D.i2z⟩,fun b hb=>?_⟩
  have hlt:b<s.heap.objs.size:=by
   simp only [List.mem_cons,List.not_mem_nil,or_false] at hb
   rcases hb with rfl | rfl | rfl | rfl | rfl
   ·exact zlt
   ·exact Heap.lt_size hTI
   ·exact Heap.lt_size hTO
   ·obtain ⟨o,e,_⟩:=h1;exact Heap.lt_size e
   ·obtain ⟨o,e,_⟩:=h2;exact Heap.lt_size e
  rw [zq (Nat.ne_of_lt hlt)]
  exact (hf b hb).1
 done:=by
  intro X hP hw hK hc i pins s σ H E I hf st hg
  subst hP hw hK
  obtain ⟨hz,hTI,⟨a,c,hTO⟩,h1,h2⟩:=st
  obtain ⟨xs,ys,hq1,hq2,hend⟩:=hg
  obtain ⟨its1,rv1,p1,hz1⟩:=I.list hq1
  obtain ⟨its2,rv2,p2,hz2⟩:=I.list hq2
  have l1:=rv1.length
  have l2:=rv2.length
  refine wpAny_pyNext_zip_end (I.ok.hd hc) D hz hTI hTO h1 h2 p1.isList p2.isList (by simp;walk_at "o") fun h' hk=>⟨rfl,I.turnedL (tk:=s.toks) hf fun b o hb e=>?_⟩
  simp only [List.mem_cons,List.not_mem_nil,or_false,not_or] at hb
  exact hk b o hb.1 hb.2.2.1 hb.2.2.2.1 hb.2.2.2.2 e
 self:=fun _ _ _ _ _ st h=>wpAny_pyIter_zip st.1 h
theorem vS:bootBuiltins "enumerate"=some (.type "enumerate"):=by decide +kernel
theorem Y5:bootBuiltins "zip"=some (.type "zip"):=by decide +kernel
section
variable {X:Cx}{es:List Expr}{kt:Nat}{tp:Pos}
noncomputable def FU (K:PySem.W.Frag)(ta:TA):TI:=fun σ H R=>ta σ H fun vs H1=>∃ a,vs=[.ref a]/\(∃ xs,SqL K H1 a xs)/\R (Ite K a) H1
theorem D4 {e:Expr}{ta:TA}{p pos:Pos}(hg:Gl X "enumerate")(hm:X.mg "enumerate"=none)(ha:PA X [e] ta)(hs:starEach [e] X.env=[(false,eval e X.env)]:=by rfl) :
  PI X (.Tuple es kt tp) (.Call (.Name "enumerate" p) [e] [] pos) (FU X.K ta):=by
 intro pins s σ H R I h
 refine Call_ (kL I hg hm (vS) (PyProof.Rows.callWith_type1 (thn (ha pos pins s σ H _ I h) fun us s1 ⟨vs,H1,I1,r1,q1⟩=>?_) hs rfl))
 obtain ⟨a,e,⟨xs,hq⟩,q⟩:=q1
 subst e
 obtain ⟨u,rfl,ru⟩:=jF r1
 cases ru
 obtain ⟨its,rv,pl,hz⟩:=I1.list hq
 refine call_enumerate_list pl.isList fun h' he hit hsz hk=>wpAny_pyIter_enum he ?_
 have I2:Inv X pins σ H1 { s1 with heap:=h' }:=I1.kept (t':=s1.toks) hk
 refine ⟨s1.heap.objs.size+1,[s1.heap.objs.size+1,s1.heap.objs.size],_,_,H1,rfl,I2,Zg a _ _ (Nat.succ_ne_self _),⟨⟨_,he⟩,hit⟩,fun b hb=>?_,q⟩
 have hb':s1.heap.objs.size<=b:=by
  simp only [List.mem_cons,List.not_mem_nil,or_false] at hb
  rcases hb with rfl | rfl
  ·exact Nat.le_succ _
  ·exact Nat.le_refl _
 exact I1.fpOk hb' (I1.hok.fresh hb')
noncomputable def Lp (K:PySem.W.Frag)(ta:TA):TI:=fun σ H R=>ta σ H fun vs H1=>∃ a b,vs=[.ref a,.ref b]/\(∃ xs,SqL K H1 a xs)/\(∃ ys,SqL K H1 b ys)/\R (Itz K a b) H1
theorem GD {e1 e2:Expr}{ta:TA}{p pos:Pos}(hg:Gl X "zip")(hm:X.mg "zip"=none)(ha:PA X [e1,e2] ta)(hs:starEach [e1,e2] X.env=[(false,eval e1 X.env),(false,eval e2 X.env)]:=by rfl)(hs2:starEach [e2] X.env=[(false,eval e2 X.env)]:=by rfl) :
  PI X (.Tuple es kt tp) (.Call (.Name "zip" p) [e1,e2] [] pos) (Lp X.K ta):=by
 intro pins s σ H R I h
 refine Call_ (kL I hg hm Y5 (PyProof.Rows.callWith_type1 (thn (ha pos pins s σ H _ I h) fun us s1 ⟨vs,H1,I1,r1,q1⟩=>?_) (by rw [hs,hs2]) (by rw [hs2];rfl)))
 obtain ⟨a,b,e,⟨xs,hq1⟩,⟨ys,hq2⟩,q⟩:=q1
 subst e
 obtain ⟨u,v,rfl,ru,rv⟩:=J8 r1
 cases ru
 cases rv
 obtain ⟨its1,rv1,p1,hz1⟩:=I1.list hq1
 obtain ⟨its2,rv2,p2,hz2⟩:=I1.list hq2
 have la:a<s1.heap.objs.size:=by obtain ⟨o,e,_⟩:=p1.isList;exact Heap.lt_size e
 have lb:b<s1.heap.objs.size:=by obtain ⟨o,e,_⟩:=p2.isList;exact Heap.lt_size e
 refine call_zip_2 p1.isList p2.isList fun h' b1 b2 b3 b4 b5 hsz hk=>wpAny_pyIter_zip b1 ?_
 have I2:Inv X pins σ H1 { s1 with heap:=h' }:=I1.kept (t':=s1.toks) hk
 refine ⟨s1.heap.objs.size+4,[s1.heap.objs.size+4,s1.heap.objs.size+2,s1.heap.objs.size+3,s1.heap.objs.size,s1.heap.objs.size+1],_,_,H1,rfl,I2,WI a b _ _ _ _ _ (zipApart_new la lb),⟨b1,b2,⟨_,_,b3⟩,b4,b5⟩,fun c hb=>?_,q⟩
 have hb':s1.heap.objs.size<=c:=by
  simp only [List.mem_cons,List.not_mem_nil,or_false] at hb
  rcases hb with rfl | rfl | rfl | rfl | rfl <;> first | exact Nat.le_refl _ | exact Nat.le_add_right _ _
 exact I1.fpOk hb' (I1.hok.fresh hb')
end
theorem Bm {K:PySem.W.Frag}{a:Addr}{xs:List V}{g:TG}{tb:TS}{D:kq}{σ:St}{H:Hp}(Pv:Nat->St->Hp->Prop)(h0:Pv 0 σ H)(hl:∀ i σ H,i<=xs.length->Pv i σ H->SqL K H a xs)
  (hs:∀ i x p σ H,xs[i]?=some x->H p=none->Pv i σ H->g (.ref p) σ (upd H p (.tup [.int i,x])) fun σ2 H2=>tb { D with nx:=Pv (i+1),ct:=Pv (i+1),bk:=D.nx } σ2 H2) (hd:∀ σ H,Pv xs.length σ H->D.nx σ H) :
  ∃ W:Nat->Nat->St->Hp->Prop,(∃ m,W 0 m σ H)/\∀ i m σ H,W i m σ H ->
   ((Ite K a).stop i H/\D.nx σ H) \/ ((Ite K a).go i H/\∃ N:St->Hp->Prop,(∀ σ' H',N σ' H'->∃ m',m'<m/\W (i+1) m' σ' H')/\∀ x H',(Ite K a).yld i H x H'->g x σ H' fun σ2 H2=>tb { D with nx:=N,ct:=N,bk:=D.nx } σ2 H2):=by
 refine ⟨fun i m σ H=>m=xs.length - i/\i<=xs.length/\Pv i σ H,⟨xs.length,by simp,Nat.zero_le _,h0⟩,?_⟩
 rintro i m σ H ⟨rfl,hi,p⟩
 have q:=hl i σ H hi p
 by_cases hlt:i<xs.length
 ·refine .inr ⟨⟨xs,xs[i],q,by simp [hlt]⟩,Pv (i+1),fun σ' H' p'=>⟨xs.length - (i+1),by walk_at "o",rfl,hlt,p'⟩,fun x H' y=>?_⟩
  obtain ⟨pp,x',hp,rfl,y,rfl⟩:=y
  exact hs i x' pp σ _ (y xs q) hp p
 ·have e:i=xs.length:=by walk_at "o"
  subst e
  exact .inl ⟨⟨xs,q,Nat.le_refl _⟩,hd σ H p⟩
noncomputable def j7 (p:Addr)(a b c:Int):HO:=.ext fun h=>∃ t u v,h.get? p=some { cls:=.type "range",data:=.fields #[.int a t,.int b u,.int c v] }
theorem Wk {P:Program}{w:World}{H:Hp}{h:Heap}{p:Addr}{a b c:Int}{t u v:Tok}(e:h.get? p=some { cls:=.type "range",data:=.fields #[.int a t,.int b u,.int c v] }):zX P w H h p (j7 p a b c):=
 ⟨⟨t,u,v,e⟩,⟨_,e⟩,fun h1 h2 ⟨t,u,v,q⟩ k=>⟨t,u,v,k _ q⟩⟩
noncomputable def zW (a c:Int)(n:Nat):List Int:=(List.range n).map fun (i:Nat)=>a+(i:Int) * c
theorem zC (a c:Int)(n:Nat):(zW a c n).length=n:=by simp [zW]
theorem Xw {a c:Int}:∀ {n:Nat} {acc:Array Value},ItemsOf (fun (i:Nat) (v:Value)=>∃ t,v=Value.int (a+(i:Int) * c) t) acc n->zE ((zW a c n).map V.int) acc.toList:=by
 intro n acc ⟨hs,hi⟩
 have key:∀ (k:Nat) (l:List Value),l.length=k->(∀ (j:Nat) v,l[j]?=some v->∃ t,v=Value.int (a+(j:Int) * c) t)->zE ((zW a c k).map V.int) l:=by
  intro k
  induction k with
  | zero=>intro l hl _;cases l with
   | nil=>exact .nil
   | cons=>simp at hl
  | succ k ih=>
   intro l hl hv
   obtain ⟨l',x,rfl⟩:∃ l' x,l=l' ++ [x]:=⟨l.dropLast,l.getLast (by intro e;rw [e] at hl;simp at hl),(List.dropLast_concat_getLast _).symm⟩
   have hl':l'.length=k:=by simpa using hl
   have e:(zW a c (k+1)).map V.int=(zW a c k).map V.int ++ [.int (a+(k:Int) * c)]:=by simp [zW,List.range_succ]
   rw [e]
   refine (ih l' hl' fun j v hj=>hv j v ?_).append (.cons ?_ .nil)
   ·rw [List.getElem?_append_left (List.getElem?_eq_some_iff.mp hj).1];exact hj
   ·obtain ⟨t,rfl⟩:=hv k x (by rw [List.getElem?_append_right (by walk_at "o"),hl'];simp)
    exact ⟨t,rfl⟩
 exact key n acc.toList (by simpa using hs) fun j v hj=>hi j v (by simpa using hj)
section
variable {X:Cx}
theorem jf:qH X (.type "range") (fun xs H Q=>∃ b:Int,xs=[.int b]/\∀ p,H p=none->Q (.ref p) (upd H p (j7 p 0 b 1))):=by
 intro pins s σ H xs us Q I r h
 obtain ⟨b,rfl,q⟩:=h
 obtain ⟨u,rfl,t,rfl⟩:=jF r
 refine call_range_1 ⟨.ref s.heap.objs.size,_,I.laid (fun b o e=>Heap.get?_push_of_some _ e) (Nat.le_refl _) ?_,rfl,q _ (I.hok.fresh (Nat.le_refl _))⟩
 exact Wk (Heap.get?_push_size _ rfl)
theorem JX:qH X (.type "range") (fun xs H Q=>∃ a b c:Int,xs=[.int a,.int b,.int c]/\c ≠ 0/\c.natAbs<1073741824/\∀ p,H p=none->Q (.ref p) (upd H p (j7 p a b c))):=by
 intro pins s σ H xs us Q I r h
 obtain ⟨a,b,c,rfl,hc,hb,q⟩:=h
 cases r with
 | cons r1 r=>cases r with
  | cons r2 r=>cases r with
   | cons r3 r=>
    cases r
    obtain ⟨t1,rfl⟩:=r1
    obtain ⟨t2,rfl⟩:=r2
    obtain ⟨t3,rfl⟩:=r3
    refine call_range_3 hc ⟨.ref s.heap.objs.size,_,I.laid (t':=s.toks) (fun b o e=>Heap.get?_push_of_some _ e) (Nat.le_refl _) ?_,rfl,q _ (I.hok.fresh (Nat.le_refl _))⟩ (.inl (PyProof.noPylong_small (by walk_at "o")))
    exact Wk (Heap.get?_push_size _ rfl)
theorem qt (hc:X.calm=true):qH X (.type "list") (fun xs H Q=>∃ p a b c n,xs=[.ref p]/\H p=some (j7 p a b c)/\Builtin.Range.small a b c=true/\Builtin.Range.rangeSize a b c=((n:Nat):Int)/\n<=100000/\∀ l,H l=none->Q (.ref l) (upd H l (.lst ((zW a c n).map V.int)))):=by
 intro pins s σ H xs us Q I r h
 obtain ⟨p,a,b,c,n,rfl,hp,hs,hn,hz,q⟩:=h
 obtain ⟨u,rfl,rx⟩:=jF r
 cases rx
 obtain ⟨⟨t,u,v,e⟩,_⟩:=(show zX X.prog X.w H s.heap p (j7 p a b c) from I.hok _ _ hp)
 refine call_list_range (I.ok.hd hc) e hs hn (Nat.le_trans hz (by decide)) fun h' tk acc c' hk he hi=>?_
 refine ⟨.ref s.heap.objs.size,_,I.laid hk (Nat.le_refl _) (show zX X.prog X.w _ h' _ (.lst ((zW a c n).map V.int)) from ⟨?_,acc.toList,c',Xw hi,by simpa using he⟩),rfl,q _ (I.hok.fresh (Nat.le_refl _))⟩
 rw [List.length_map,zC]
 exact Nat.le_trans hz (by decide)
theorem Fl {i:Int}(h0:0<=i)(h1:i<2 ^ 62):¬(!Builtin.List.listFitsIndex i)=true:=by
 unfold Builtin.List.listFitsIndex
 simp
 walk_at "o"
noncomputable def vk:V->List V->Hp->VK->Prop:=fun x vs H Q=>∃ l xs i y,x=.ref l/\vs=[.int i,y]/\H l=some (.lst xs)/\0<=i/\i<=xs.length/\xs.length<sizeLine/\Q .non (upd H l (.lst (xs.take i.toNat ++ y :: xs.drop i.toNat)))
theorem zE.insert {xs:List V}{us:List Value}{y:V}{u:Value}(r:zE xs us)(ry:zH y u)(k:Nat):zE (xs.take k ++ y :: xs.drop k) (us.take k ++ u :: us.drop k):=(r.take k).append (.cons ry (r.drop k))
theorem Vd:MtM X "list.insert" vk:=by
 intro pins s σ H x vs v us Q I rx rv h
 obtain ⟨l,xs,i,y,rfl,rfl,hH,h0,h1,hz,q⟩:=h
 cases rx
 obtain ⟨u,w,rfl,⟨t,rfl⟩,rw'⟩:=rv.two
 obtain ⟨z,its,n,r,hl,e⟩:=I.lstM hH
 have l63:=vH
 have hb:i<2 ^ 62:=by
  have:sizeLine<2 ^ 62:=by rw [sizeLine_eq];decide
  walk_at "o"
 refine call_meets F.slot_list_insert ⟨_,e,rfl⟩ F.entry_list_insert (F.args_list_insert_3 _ _ _) (PySem.AutoSeq1.list_insert_list_int_val_1 l its.toArray n i t w (Fl h0 hb) (by rw [List.size_toArray];walk_at "o")) ⟨e,?_⟩
 refine ⟨.non,_,I.lset (its':=its.take i.toNat ++ w :: its.drop i.toNat) hH e ?_ (r.insert rw' i.toNat) ?_,rfl,q⟩
 ·dsimp only
  rw [if_neg (by walk_at "o")]
  have hm:min i.toNat its.toArray.size=i.toNat:=by rw [List.size_toArray];walk_at "o"
  rw [hm]
  apply Array.ext'
  simp
  first | done | walk_at "o" | (rw [List.take_of_length_le (by simp)])
 ·rw [List.length_append,List.length_cons,List.length_take,List.length_drop];walk_at "o"
theorem ZF:qH X (.builtin "sorted") (fun xs H Q=>∃ p ns,xs=[.ref p]/\SqL X.K H p (List.map V.int ns)/\ns.length<64/\∀ l ns',H l=none->ns'.Perm ns->ns'.Pairwise (·<=·)->Q (.ref l) (upd H l (.lst (List.map V.int ns')))):=by
 intro pins s σ H xs us Q I r h
 obtain ⟨p,ns,rfl,hq,h64,q⟩:=h
 obtain ⟨u,rfl,rx⟩:=jF r
 cases rx
 obtain ⟨its,rv,pl,hz⟩:=I.list hq
 have hlen:=rv.length
 rw [List.length_map] at hlen
 refine sorted_ints pl.isList (xI rv) (by walk_at "o") fun out ns' a1 a2 a3=>?_
 obtain ⟨k,he⟩:=sortedAll_at s.heap its out
 refine ⟨.ref (s.heap.objs.size+1),_,I.laid (t':=s.toks) (fun _ _=>sortedAll_old) (Nat.le_succ _) (show zX X.prog X.w _ _ _ (.lst (List.map V.int ns')) from ⟨?_,out.toList,k,jS a1,by simpa [seqObj] using he⟩),rfl,q _ _ (I.hok.fresh (Nat.le_succ _)) a2 a3⟩
 rw [List.length_map,a2.length_eq]
 exact Nat.le_of_lt (VH (by walk_at "o"))
end
section
variable {X:Cx}
noncomputable def isT (t c:String):Option Bool:=if (Value.type t == Value.type c)=true then some true else if PySem.W.kitMeta c=true then (fastBuiltinMro t).map (·.contains (Value.type c)) else none
theorem Yk (K:PySem.W.Frag)(t c:String):PySem.W.kitOne K (.type t) (.type c)=isT t c:=rfl
noncomputable def va (t:String):List String->Option Bool
 | []=>some false
 | c :: r=>match isT t c with
  | some true=>some true
  | some false=>va t r
  | none=>none
theorem Qy (K:PySem.W.Frag)(t:String):∀ cs:List String,PySem.W.kitAny K (.type t) (cs.map Value.type)=va t cs
 | []=>rfl
 | c :: r=>by
  show (match PySem.W.kitOne K (.type t) (.type c) with | some true=>some true | some false=>PySem.W.kitAny K (.type t) (r.map Value.type) | none=>none)=_
  rw [Yk,Qy K t r];rfl
theorem QD:qH X (.builtin "isinstance") (fun xs H Q=>∃ x t c b,xs=[x,.ty c]/\kJ X.K H x (.type t)/\isT t c=some b/\Q (.bl b) H):=by
 intro pins s σ H xs us Q I r h
 obtain ⟨x,t,c,b,rfl,ty,e,q⟩:=h
 obtain ⟨u,v,rfl,ru,rv⟩:=J8 r
 cases rv
 exact YV I ru ty (by rw [Yk];exact e) fun tk=>⟨.bl b,H,I.tok _,rfl,q⟩
theorem QF:∀ {cs:List String} {us:List Value},zE (cs.map V.ty) us->us=cs.map Value.type
 | [],_,.nil=>rfl
 | c :: cs,_,.cons r t=>by rw [QF t];cases r;rfl
theorem Zo:qH X (.builtin "isinstance") (fun xs H Q=>∃ x t p cs b,xs=[x,.ref p]/\H p=some (.tup (List.map V.ty cs))/\kJ X.K H x (.type t)/\va t cs=some b/\Q (.bl b) H):=by
 intro pins s σ H xs us Q I r h
 obtain ⟨x,t,p,cs,b,rfl,hp,ty,e,q⟩:=h
 obtain ⟨u,v,rfl,rx,rv⟩:=J8 r
 cases rv
 obtain ⟨_,its,rt,o,ho,hc,⟨n,hd⟩,_⟩:=(show zX X.prog X.w H s.heap p (.tup (List.map V.ty cs)) from I.hok _ _ hp)
 obtain ⟨oc,od,odt,osl⟩:=o
 simp only at hc hd
 subst hc hd
 have e':PySem.W.kitAny X.K (.type t) its=some b:=by rw [QF rt,Qy];exact e
 have fin:∀ tk,EP X pins σ Q (.bool b) { s with toks:=tk }:=fun tk=>⟨.bl b,H,I.tok _,rfl,q⟩
 cases ty with
 | non=>cases (show u=Value.none from rx);exact PySem.W.kia_tup PySem.W.kitx_none I.kIn True.intro ho e' (fun z=>nomatch z) fin
 | bl y=>cases (show u=Value.bool y from rx);exact PySem.W.kia_tup PySem.W.kitx_bool I.kIn True.intro ho e' (fun z=>nomatch z) fin
 | int i=>obtain ⟨t,q⟩:=(show ∃ t,u=Value.int i t from rx);cases q;exact PySem.W.kia_tup PySem.W.kitx_int I.kIn True.intro ho e' (fun z=>nomatch z) fin
 | str y=>obtain ⟨t,q⟩:=(show ∃ t,u=Value.str y t from rx);cases q;exact PySem.W.kia_tup PySem.W.kitx_str I.kIn True.intro ho e' (fun z=>nomatch z) fin
 | flt y=>obtain ⟨t,q⟩:=(show ∃ t,u=Value.float y t from rx);cases q;exact PySem.W.kia_tup PySem.W.kitx_float I.kIn True.intro ho e' (fun z=>nomatch z) fin
 | @lst a xs ea=>
  cases (show u=Value.ref a from rx)
  obtain ⟨_,_,n,_,h1⟩:=(show zX X.prog X.w H s.heap a (.lst xs) from I.hok a _ ea)
  exact PySem.W.kia_tup PySem.W.kitx_list I.kIn ⟨_,h1,rfl⟩ ho e' (fun z=>nomatch z) fin
 | @frz a ob xs ea=>
  cases (show u=Value.ref a from rx)
  obtain ⟨_,_,_,n,_,h1⟩:=(show zX X.prog X.w H s.heap a (.frz ob (.lst xs)) from I.hok a _ ea)
  exact PySem.W.kia_tup PySem.W.kitx_list I.kIn ⟨_,h1,rfl⟩ ho e' (fun z=>nomatch z) fin
 | @tup a xs ea=>
  cases (show u=Value.ref a from rx)
  obtain ⟨_,_,_,p⟩:=(show zX X.prog X.w H s.heap a (.tup xs) from I.hok a _ ea)
  obtain ⟨o,h1,h2,_⟩:=p
  exact PySem.W.kia_tup PySem.W.kitx_tuple I.kIn ⟨o,h1,h2⟩ ho e' (fun z=>nomatch z) fin
 | @dK a kvs ea=>
  cases (show u=Value.ref a from rx)
  obtain ⟨_,_,vs,_,p⟩:=(show zX X.prog X.w H s.heap a (.dK kvs) from I.hok a _ ea)
  obtain ⟨o,es,ep,h1,h2,_⟩:=p
  exact PySem.W.kia_tup PySem.W.kitx_dict I.kIn ⟨o,h1,h2.1⟩ ho e' (fun z=>nomatch z) fin
 | @dT a kvs ea=>
  cases (show u=Value.ref a from rx)
  obtain ⟨_,_,xs,_,o,es,ep,h1,h2,_⟩:=(show zX X.prog X.w H s.heap a (.dT kvs) from I.hok a _ ea)
  exact PySem.W.kia_tup PySem.W.kitx_dict I.kIn ⟨o,h1,h2.1⟩ ho e' (fun z=>nomatch z) fin
theorem KM {lo:Int}{n:Nat}{g:TG}{tt:TT}{te:TE}{Q:VK}{τ:St}{H1:Hp}{D:Addr}(Pv:Nat->St->Hp->Prop)(h0:Pv 0 τ (upd H1 D (.lst [])))
  (hs:∀ i τ H,i<n->Pv i τ H->g (.int (lo+i)) τ H fun τ2 H3=>tt τ2 H3 fun b H4=>if b=true then te τ2 H4 fun v H5=>∃ ys,H5 D=some (.lst ys)/\ys.length<sizeLine/\Pv (i+1) τ2 (upd H5 D (.lst (ys ++ [v]))) else Pv (i+1) τ2 H4)
  (hd:∀ τ H,Pv n τ H->Q (.ref D) H) :
  ∃ W:Nat->Nat->St->Hp->Prop,(∃ m,W 0 m τ (upd H1 D (.lst [])))/\∀ i m τ H2,W i m τ H2 ->
   ((Itr lo n).stop i H2/\Q (.ref D) H2) \/ ((Itr lo n).go i H2/\∃ N:St->Hp->Prop,(∀ τ' H',N τ' H'->∃ m',m'<m/\W (i+1) m' τ' H')/\∀ x H',(Itr lo n).yld i H2 x H'->g x τ H' fun τ2 H3=>tt τ2 H3 fun b H4=>
    if b=true then te τ2 H4 fun v H5=>∃ ys,H5 D=some (.lst ys)/\ys.length<sizeLine/\N τ2 (upd H5 D (.lst (ys ++ [v]))) else N τ2 H4):=by
 refine ⟨fun i m τ H=>m=n - i/\i<=n/\Pv i τ H,⟨n,by simp,Nat.zero_le _,h0⟩,?_⟩
 rintro i m τ H ⟨rfl,hi,p⟩
 by_cases hlt:i<n
 ·refine .inr ⟨hlt,Pv (i+1),fun σ' H' p'=>⟨n - (i+1),by walk_at "o",rfl,hlt,p'⟩,fun x H' y=>?_⟩
  obtain ⟨e,y⟩:=y
  subst e y
  exact hs i τ _ hlt p
 ·have e:i=n:=by walk_at "o"
  subst e
  exact .inl ⟨Nat.le_refl _,hd τ H p⟩
theorem Iy {K:PySem.W.Frag}{a:Addr}{xs:List V}{g:TG}{tt:TT}{te:TE}{Q:VK}{τ:St}{H1:Hp}{D:Addr}(Pv:Nat->St->Hp->Prop)(h0:Pv 0 τ (upd H1 D (.lst [])))(hl:∀ i τ H,i<=xs.length->Pv i τ H->SqL K H a xs)
  (hs:∀ i x τ H,xs[i]?=some x->Pv i τ H->g x τ H fun τ2 H3=>tt τ2 H3 fun b H4=>if b=true then te τ2 H4 fun v H5=>∃ ys,H5 D=some (.lst ys)/\ys.length<sizeLine/\Pv (i+1) τ2 (upd H5 D (.lst (ys ++ [v]))) else Pv (i+1) τ2 H4)
  (hd:∀ τ H,Pv xs.length τ H->Q (.ref D) H) :
  ∃ W:Nat->Nat->St->Hp->Prop,(∃ m,W 0 m τ (upd H1 D (.lst [])))/\∀ i m τ H2,W i m τ H2 ->
   ((Itl K a).stop i H2/\Q (.ref D) H2) \/ ((Itl K a).go i H2/\∃ N:St->Hp->Prop,(∀ τ' H',N τ' H'->∃ m',m'<m/\W (i+1) m' τ' H')/\∀ x H',(Itl K a).yld i H2 x H'->g x τ H' fun τ2 H3=>tt τ2 H3 fun b H4=>
    if b=true then te τ2 H4 fun v H5=>∃ ys,H5 D=some (.lst ys)/\ys.length<sizeLine/\N τ2 (upd H5 D (.lst (ys ++ [v]))) else N τ2 H4):=by
 refine ⟨fun i m τ H=>m=xs.length - i/\i<=xs.length/\Pv i τ H,⟨xs.length,by simp,Nat.zero_le _,h0⟩,?_⟩
 rintro i m τ H ⟨rfl,hi,p⟩
 have q:=hl i τ H hi p
 by_cases hlt:i<xs.length
 ·refine .inr ⟨⟨xs,xs[i],q,by simp [hlt]⟩,Pv (i+1),fun σ' H' p'=>⟨xs.length - (i+1),by walk_at "o",rfl,hlt,p'⟩,fun x H' y=>?_⟩
  obtain ⟨e,y⟩:=y
  subst e
  exact hs i x τ _ (y xs q) p
 ·have e:i=xs.length:=by walk_at "o"
  subst e
  exact .inl ⟨⟨xs,q,Nat.le_refl _⟩,hd τ H p⟩
theorem VP {K:PySem.W.Frag}{a:Addr}{xs:List V}{g:TG}{tt:TT}{te:TE}{Q:VK}{τ:St}{H1:Hp}{D:Addr}(Pv:Nat->St->Hp->Prop)(h0:Pv 0 τ (upd H1 D (.lst [])))(hl:∀ i τ H,i<=xs.length->Pv i τ H->SqL K H a xs)
  (hs:∀ i x p τ H,xs[i]?=some x->H p=none->Pv i τ H->g (.ref p) τ (upd H p (.tup [.int i,x])) fun τ2 H3=>tt τ2 H3 fun b H4=>if b=true then te τ2 H4 fun v H5=>∃ ys,H5 D=some (.lst ys)/\ys.length<sizeLine/\Pv (i+1) τ2 (upd H5 D (.lst (ys ++ [v]))) else Pv (i+1) τ2 H4)
  (hd:∀ τ H,Pv xs.length τ H->Q (.ref D) H) :
  ∃ W:Nat->Nat->St->Hp->Prop,(∃ m,W 0 m τ (upd H1 D (.lst [])))/\∀ i m τ H2,W i m τ H2 ->
   ((Ite K a).stop i H2/\Q (.ref D) H2) \/ ((Ite K a).go i H2/\∃ N:St->Hp->Prop,(∀ τ' H',N τ' H'->∃ m',m'<m/\W (i+1) m' τ' H')/\∀ x H',(Ite K a).yld i H2 x H'->g x τ H' fun τ2 H3=>tt τ2 H3 fun b H4=>
    if b=true then te τ2 H4 fun v H5=>∃ ys,H5 D=some (.lst ys)/\ys.length<sizeLine/\N τ2 (upd H5 D (.lst (ys ++ [v]))) else N τ2 H4):=by
 refine ⟨fun i m τ H=>m=xs.length - i/\i<=xs.length/\Pv i τ H,⟨xs.length,by simp,Nat.zero_le _,h0⟩,?_⟩
 rintro i m τ H ⟨rfl,hi,p⟩
 have q:=hl i τ H hi p
 by_cases hlt:i<xs.length
 ·refine .inr ⟨⟨xs,xs[i],q,by simp [hlt]⟩,Pv (i+1),fun σ' H' p'=>⟨xs.length - (i+1),by walk_at "o",rfl,hlt,p'⟩,fun x H' y=>?_⟩
  obtain ⟨pp,x',hp,rfl,y,rfl⟩:=y
  exact hs i x' pp τ _ (y xs q) hp p
 ·have e:i=xs.length:=by walk_at "o"
  subst e
  exact .inl ⟨⟨xs,q,Nat.le_refl _⟩,hd τ H p⟩
end
noncomputable def At (K:PySem.W.Frag)(mg:Str->Option Value)(x:Str)(st:Stmt):Prop:=∃ f fd,Fun K x x st f fd/\mg x=some (.ref f)
noncomputable def Df (P:Program)(w:World)(K:PySem.W.Frag)(mg:Str->Option Value)(base:Heap)(x:Str)(ps:List Str)(k:Nat)(sp:Sp):Prop:=
 ∃ f fd,kz P w K mg base CX0 k f fd ps sp/\yS K fd ps []/\PySem.W.keepIn K (.ref f)=true/\mg x=some (.ref f)/\∃ oc od osl,K.lookup f=some ⟨oc,od,.func fd,osl⟩
theorem Df.mono {P:Program}{w:World}{K:PySem.W.Frag}{mg:Str->Option Value}{base:Heap}{x:Str}{ps:List Str}{j k:Nat}{sp:Sp}(D:Df P w K mg base x ps j sp)(h:j<=k):Df P w K mg base x ps k sp:=
 let ⟨f,fd,F,r⟩:=D
 ⟨f,fd,F.mono h,r⟩
section
variable {X:Cx}{k:Nat}{x:Str}{ps:List Str}{sp:Sp}{p pos:Pos}{e:Expr}{es:List Expr}{t:TA}
theorem zu (D:Df X.prog X.w X.K X.mg X.base x ps k sp)(hr:jr k X.A)(hg:Gl X x)(ha:PA X (e :: es) t)(hdb:(x == ("__debug__":Str))=false:=by decide)
  (he:starEach (e :: es) X.env=(false,eval e X.env) :: starEach es X.env:=by rfl) (hpl:(backTo pos (starEach es X.env)).any (·.1)=false:=by rfl):PE X (.Call (.Name x p) (e :: es) [] pos) (YB sp [] E0 t):=by
 obtain ⟨f,fd,F,b,kp,m,_⟩:=D
 exact El F hr hg m kp b .nil IH ha hdb he hpl
end
theorem qS {P:Program}{w:World}{K:PySem.W.Frag}{mg:Str->Option Value}{base:Heap}{x:Str}{st:Stmt}{N ps:List Str}{k:Nat}{sp:Sp}(a:At K mg x st)(S:zw N ps (zi st))
  (hb:∀ (kV doc pm:Value) (an:Option Addr) (cdv ct:Value) (us:List Value),us.length=ps.length->bindArgs (PySem.W.fnOf x x (jc st) (qp st) (zi st) .none kV doc pm an cdv ct) ⟨us,[]⟩=pure (ps.zip us))
  (len:∀ vs H Q E,sp vs H Q E->vs.length=ps.length)
  (hbody:∀ (f:Addr) (cdv:Value) (A:Around) (outer:List Env) (s:Shared) (H:Hp) (vs:List V) (Q:VK) (E:XK),jr k (A.deeper (envOfC x (zi st) s.heap.objs.size f cdv))->sp vs H Q E ->
   ∃ t,PSs (yC CX0 P w K mg base N x (zi st) f cdv A outer s H E).nox (qp st) t/\t { nx:=fun _ H'=>Q .non H',rt:=Q } (start N vs) H):Df P w K mg base x ps (k+1) sp:=by
 obtain ⟨f,fd,F,m⟩:=a
 obtain ⟨oc,od,kV,doc,pm,an,cdv,ct,osl,_,lk,_⟩:=id F.ex
 exact ⟨f,fd,F.ok S len fun cdv A outer s H vs Q E=>hbody f cdv A outer s H vs Q E,F.binds hb,F.kp,m,oc,od,osl,lk⟩
theorem at_mk {K:PySem.W.Frag}{mg:Str->Option Value}{h:Heap}{x:Str}{st:Stmt}{f:Addr}{oc:Value}{od an:Option Addr}{osl:Array (Option Value)}{kV doc pm cdv ct:Value}(X:K.In h)(G:h.Ns mainGlobals mg)(a:PySem.W.nsIn K mainGlobals x=some (some (.ref f)))
  (l:K.lookup f=some ⟨oc,od,.func (PySem.W.fnOf x x (jc st) (qp st) (zi st) .none kV doc pm an cdv ct),osl⟩) (c:PySem.W.codeIn K cdv x=true) (k:PySem.W.keepIn K (.ref f)=true):At K mg x st:=⟨f,_,Bs l c k,PySem.W.mg_of X G a⟩
theorem Df.fn {P:Program}{w:World}{K:PySem.W.Frag}{mg:Str->Option Value}{base:Heap}{x:Str}{ps:List Str}{k:Nat}{sp:Sp}{f:Addr}{fd:FuncData}{oc:Value}{od:Option Addr}{osl:Array (Option Value)}(D:Df P w K mg base x ps k sp)(m:mg x=some (.ref f))(l:K.lookup f=some ⟨oc,od,.func fd,osl⟩):kz P w K mg base CX0 k f fd ps sp:=by
 obtain ⟨f',fd',F,_,_,m',oc',od',osl',l'⟩:=D
 rw [m] at m'
 cases m'
 rw [l] at l'
 cases l'
 exact F
structure Blt (mg:Str->Option Value):Prop where
 len:mg "len"=none
 range:mg "range"=none
 list:mg "list"=none
 tuple:mg "tuple"=none
 int:mg "int"=none
 bool:mg "bool"=none
 str:mg "str"=none
 abs:mg "abs"=none
 divmod:mg "divmod"=none
 enumerate:mg "enumerate"=none
 zip:mg "zip"=none
 sorted:mg "sorted"=none
 max:mg "max"=none
 min:mg "min"=none
 isinstance:mg "isinstance"=none
 all:mg "all"=none
theorem blt_mk {K:PySem.W.Frag}{mg:Str->Option Value}{h:Heap}(X:K.In h)(G:h.Ns mainGlobals mg)(z1:PySem.W.nsIn K mainGlobals "len"=some none)(z2:PySem.W.nsIn K mainGlobals "range"=some none)(z3:PySem.W.nsIn K mainGlobals "list"=some none)(z4:PySem.W.nsIn K mainGlobals "tuple"=some none)(z5:PySem.W.nsIn K mainGlobals "int"=some none)(z6:PySem.W.nsIn K mainGlobals "bool"=some none)(z7:PySem.W.nsIn K mainGlobals "str"=some none)(z8:PySem.W.nsIn K mainGlobals "abs"=some none)
  (z9:PySem.W.nsIn K mainGlobals "divmod"=some none) (z10:PySem.W.nsIn K mainGlobals "enumerate"=some none) (z11:PySem.W.nsIn K mainGlobals "zip"=some none) (z12:PySem.W.nsIn K mainGlobals "sorted"=some none) (z13:PySem.W.nsIn K mainGlobals "max"=some none) (z14:PySem.W.nsIn K mainGlobals "min"=some none) (z15:PySem.W.nsIn K mainGlobals "isinstance"=some none) (z16:PySem.W.nsIn K mainGlobals "all"=some none):Blt mg:=
 ⟨PySem.W.mg_none_of X G z1,PySem.W.mg_none_of X G z2,PySem.W.mg_none_of X G z3,PySem.W.mg_none_of X G z4,PySem.W.mg_none_of X G z5,PySem.W.mg_none_of X G z6,PySem.W.mg_none_of X G z7,PySem.W.mg_none_of X G z8,PySem.W.mg_none_of X G z9,PySem.W.mg_none_of X G z10,PySem.W.mg_none_of X G z11,PySem.W.mg_none_of X G z12,PySem.W.mg_none_of X G z13,PySem.W.mg_none_of X G z14,PySem.W.mg_none_of X G z15,PySem.W.mg_none_of X G z16⟩
theorem qY:bootBuiltins "isinstance"=some (.builtin "isinstance"):=by decide +kernel
theorem Zf:bootBuiltins "sorted"=some (.builtin "sorted"):=by decide +kernel
theorem KR:bootBuiltins "abs"=some (.builtin "abs"):=by decide +kernel
theorem VW:bootBuiltins "divmod"=some (.builtin "divmod"):=by decide +kernel
theorem WC:bootBuiltins "max"=some (.builtin "max"):=by decide +kernel
theorem zM:bootBuiltins "len"=some (.builtin "len"):=by decide +kernel
theorem qZ:bootBuiltins "list"=some (.type "list"):=by decide +kernel
theorem QY:bootBuiltins "tuple"=some (.type "tuple"):=by decide +kernel
theorem K4:bootBuiltins "int"=some (.type "int"):=by decide +kernel
theorem DE:bootBuiltins "bool"=some (.type "bool"):=by decide +kernel
theorem jT:bootBuiltins "range"=some (.type "range"):=by decide +kernel
noncomputable def Kp (bs:List Addr)(H H':Hp):Prop:=∀ c o,c ∉ bs->H c=some o->H' c=some o
theorem Kp.refl {bs:List Addr}{H:Hp}:Kp bs H H:=fun _ _ _ h=>h
theorem Kp.trans {bs:List Addr}{H H1 H2:Hp}(a:Kp bs H H1)(b:Kp bs H1 H2):Kp bs H H2:=fun c o n h=>b c o n (a c o n h)
theorem Kp.new {bs:List Addr}{H:Hp}{p:Addr}(o:HO)(h:H p=none):Kp bs H (upd H p o):=fun c u _ q=>by rw [zq (zj q h)];exact q
theorem Kp.set {bs:List Addr}{H:Hp}{p:Addr}(o:HO)(h:p ∈ bs):Kp bs H (upd H p o):=fun c u n q=>by have hne:c ≠ p:=(fun e=>n (by rw [e];exact h));rw [zq hne];exact q
theorem Kp.mono {bs bs':List Addr}{H H':Hp}(a:Kp bs H H')(h:∀ b ∈ bs,b ∈ bs'):Kp bs' H H':=fun c o n q=>a c o (fun z=>n (h c z)) q
theorem Kp.free {H H':Hp}(e:Kp [] H H'){l:Addr}(h:H' l=Option.none):H l=Option.none:=by
 cases q:H l with
 | none=>rfl
 | some o=>rw [e l o (by simp) q] at h;cases h
noncomputable def Bx (H:Hp)(b:Addr)(N:Nat):Prop:=∃ x y z:Int,H b=some (.lst [.int x,.int y,.int z])/\0<=x/\0<=y/\y<2147483648/\0<=z/\z<=N
noncomputable abbrev il (ns:List Int):HO:=.lst (ns.map V.int)
theorem cxK {CX:CXT}{P:Program}{w:World}{K:PySem.W.Frag}{mg:Str->Option Value}{base:Heap}{N:List Str}{qual:Str}{scope:Scope}{f:Addr}{cd:Value}{A:Around}{outer:List Env}{s:Shared}{H:Hp}{E:XK} :
  (yC CX P w K mg base N qual scope f cd A outer s H E).K=K:=rfl
noncomputable def WX (J:It)(g:TG)(tb:TS)(D:kq)(σ:St)(H:Hp):Prop:=∃ W:Nat->Nat->St->Hp->Prop,(∃ m,W 0 m σ H)/\∀ i m σ H,W i m σ H ->
 (J.stop i H/\D.nx σ H) \/ (J.go i H/\∃ N:St->Hp->Prop,(∀ σ' H',N σ' H'->∃ m',m'<m/\W (i+1) m' σ' H')/\∀ x H',J.yld i H x H'->g x σ H' fun σ2 H2=>tb { D with nx:=N,ct:=N,bk:=D.nx } σ2 H2)
theorem Ql {wi:TI}{g:TG}{tb:TS}{D:kq}{σ:St}{H:Hp}:DM wi g tb D σ H=wi σ H (fun J H1=>WX J g tb D σ H1):=rfl
noncomputable def J5 (J:It)(g:TG)(tt:TT)(te:TE)(D:Addr)(Q:VK)(τ:St)(H:Hp):Prop:=∃ W:Nat->Nat->St->Hp->Prop,(∃ m,W 0 m τ H)/\∀ i m τ H2,W i m τ H2 ->
 (J.stop i H2/\Q (.ref D) H2) \/ (J.go i H2/\∃ N:St->Hp->Prop,(∀ τ' H',N τ' H'->∃ m',m'<m/\W (i+1) m' τ' H')/\∀ x H',J.yld i H2 x H'->g x τ H' fun τ2 H3=>tt τ2 H3 fun b H4=>
  if b=true then te τ2 H4 fun v H5=>∃ ys,H5 D=some (.lst ys)/\ys.length<sizeLine/\N τ2 (upd H5 D (.lst (ys ++ [v]))) else N τ2 H4)
theorem Bo {ts:List Nat}{wi:TI}{g:TG}{tt:TT}{te:TE}{σ:St}{H:Hp}{Q:VK} :
  JW ts wi g tt te σ H Q=wi σ H (fun J H1=>∀ D,H1 D=none->J5 J g tt te D Q (clr ts σ) (upd H1 D (.lst []))):=rfl
theorem kN {lo:Int}{n:Nat}{g:TG}{tb:TS}{D:kq}{σ:St}{H:Hp}(Pv:Nat->St->Hp->Prop)(h0:Pv 0 σ H)
  (hs:∀ i σ H,i<n->Pv i σ H->g (.int (lo+i)) σ H fun σ2 H2=>tb { D with nx:=Pv (i+1),ct:=Pv (i+1),bk:=D.nx } σ2 H2) (hd:∀ σ H,Pv n σ H->D.nx σ H):WX (Itr lo n) g tb D σ H:=Vt Pv h0 hs hd
theorem Yh {K:PySem.W.Frag}{a:Addr}{xs:List V}{g:TG}{tb:TS}{D:kq}{σ:St}{H:Hp}(Pv:Nat->St->Hp->Prop)(h0:Pv 0 σ H)(hl:∀ i σ H,i<=xs.length->Pv i σ H->SqL K H a xs)
  (hs:∀ i x σ H,xs[i]?=some x->Pv i σ H->g x σ H fun σ2 H2=>tb { D with nx:=Pv (i+1),ct:=Pv (i+1),bk:=D.nx } σ2 H2) (hd:∀ σ H,Pv xs.length σ H->D.nx σ H):WX (Itl K a) g tb D σ H:=Wg Pv h0 hl hs hd
theorem Ey {K:PySem.W.Frag}{a:Addr}{xs:List V}{g:TG}{tb:TS}{D:kq}{σ:St}{H:Hp}(Pv:Nat->St->Hp->Prop)(h0:Pv 0 σ H)(hl:∀ i σ H,i<=xs.length->Pv i σ H->SqL K H a xs)
  (hs:∀ i x p σ H,xs[i]?=some x->H p=none->Pv i σ H->g (.ref p) σ (upd H p (.tup [.int i,x])) fun σ2 H2=>tb { D with nx:=Pv (i+1),ct:=Pv (i+1),bk:=D.nx } σ2 H2) (hd:∀ σ H,Pv xs.length σ H->D.nx σ H):WX (Ite K a) g tb D σ H:=Bm Pv h0 hl hs hd
theorem E8 {K:PySem.W.Frag}{a b:Addr}{xs ys:List V}{g:TG}{tb:TS}{D:kq}{σ:St}{H:Hp}(Pv:Nat->St->Hp->Prop)(hlen:ys.length<=xs.length)(h0:Pv 0 σ H)(hl:∀ i σ H,i<=ys.length->Pv i σ H->SqL K H a xs/\SqL K H b ys)
  (hs:∀ i x y p σ H,xs[i]?=some x->ys[i]?=some y->H p=none->Pv i σ H->g (.ref p) σ (upd H p (.tup [x,y])) fun σ2 H2=>tb { D with nx:=Pv (i+1),ct:=Pv (i+1),bk:=D.nx } σ2 H2) (hd:∀ σ H,Pv ys.length σ H->D.nx σ H):WX (Itz K a b) g tb D σ H:=by
 refine ⟨fun i m σ H=>m=ys.length - i/\i<=ys.length/\Pv i σ H,⟨ys.length,by simp,Nat.zero_le _,h0⟩,?_⟩
 rintro i m σ H ⟨rfl,hi,p⟩
 obtain ⟨q,q'⟩:=hl i σ H hi p
 by_cases hlt:i<ys.length
 ·refine .inr ⟨⟨xs,ys,xs[i]'(by walk_at "o"),ys[i],q,q',by first | (simp;done) | (simp;walk_at "o"),by simp [hlt]⟩,Pv (i+1),fun σ' H' p'=>⟨ys.length - (i+1),by walk_at "o",rfl,hlt,p'⟩,fun x H' y=>?_⟩
  obtain ⟨pp,x',y',hp,rfl,y1,y2,rfl⟩:=y
  exact hs i x' y' pp σ _ (y1 xs q) (y2 ys q') hp p
 ·have e:i=ys.length:=by walk_at "o"
  subst e
  exact .inl ⟨⟨xs,ys,q,q',.inr (Nat.le_refl _)⟩,hd σ H p⟩
theorem kQ {lo:Int}{n:Nat}{g:TG}{tt:TT}{te:TE}{Q:VK}{τ:St}{H1:Hp}{D:Addr}(Pv:Nat->St->Hp->Prop)(h0:Pv 0 τ (upd H1 D (.lst [])))
  (hs:∀ i τ H,i<n->Pv i τ H->g (.int (lo+i)) τ H fun τ2 H3=>tt τ2 H3 fun b H4=>if b=true then te τ2 H4 fun v H5=>∃ ys,H5 D=some (.lst ys)/\ys.length<sizeLine/\Pv (i+1) τ2 (upd H5 D (.lst (ys ++ [v]))) else Pv (i+1) τ2 H4)
  (hd:∀ τ H,Pv n τ H->Q (.ref D) H):J5 (Itr lo n) g tt te D Q τ (upd H1 D (.lst [])):=KM Pv h0 hs hd
theorem En {K:PySem.W.Frag}{a:Addr}{xs:List V}{g:TG}{tt:TT}{te:TE}{Q:VK}{τ:St}{H1:Hp}{D:Addr}(Pv:Nat->St->Hp->Prop)(h0:Pv 0 τ (upd H1 D (.lst [])))(hl:∀ i τ H,i<=xs.length->Pv i τ H->SqL K H a xs)
  (hs:∀ i x p τ H,xs[i]?=some x->H p=none->Pv i τ H->g (.ref p) τ (upd H p (.tup [.int i,x])) fun τ2 H3=>tt τ2 H3 fun b H4=>if b=true then te τ2 H4 fun v H5=>∃ ys,H5 D=some (.lst ys)/\ys.length<sizeLine/\Pv (i+1) τ2 (upd H5 D (.lst (ys ++ [v]))) else Pv (i+1) τ2 H4)
  (hd:∀ τ H,Pv xs.length τ H->Q (.ref D) H):J5 (Ite K a) g tt te D Q τ (upd H1 D (.lst [])):=VP Pv h0 hl hs hd
theorem Pn1_ {α:Type}{p:List α->Prop}(f:∀ a,p [a]):∀ us:List α,us.length=1->p us
 | [_],_=>f _
theorem Pn2_ {α:Type}{p:List α->Prop}(f:∀ a b,p [a,b]):∀ us:List α,us.length=2->p us
 | [_,_],_=>f _ _
theorem Pn3_ {α:Type}{p:List α->Prop}(f:∀ a b c,p [a,b,c]):∀ us:List α,us.length=3->p us
 | [_,_,_],_=>f _ _ _
theorem Pn4_ {α:Type}{p:List α->Prop}(f:∀ a b c d,p [a,b,c,d]):∀ us:List α,us.length=4->p us
 | [_,_,_,_],_=>f _ _ _ _
noncomputable def Jj_:Expr->Option Int
 | .Constant (.int i) _ _=>some i
 | _=>none
noncomputable def Kv:List Expr->Option (List Int)
 | []=>some []
 | e :: r=>match Jj_ e with
  | some i=>(Kv r).map (i :: ·)
  | none=>none
noncomputable def FQ (is:List Int):TA:=fun _ H Q=>Q (is.map V.int) H
theorem XU {X:Cx}:∀ {es:List Expr} {is:List Int},Kv es=some is->PA X es (FQ is)
 | [],is,h=>by
  cases (show some []=some is from h)
  exact zb
 | e :: r,is,h=>by
  unfold Kv at h
  split at h
  ·rename_i i hi
   obtain ⟨js,e',rfl⟩:=Option.map_eq_some_iff.mp h
   unfold Jj_ at hi
   split at hi
   ·cases hi;exact za (te:=tC (.int i)) zg (XU e')
   ·cases hi
  ·cases h
theorem wH {X:Cx}:qH X (.type "int") (fun xs H Q=>∃ k,xs=[.bl k]/\Q (.int (if k then 1 else 0)) H):=by
 intro pins s σ H xs us Q I r h
 exact Y7 pins s σ H xs us Q I r (.inr h)
theorem Bx.mono {H:Hp}{b:Addr}{N M:Nat}(h:Bx H b N)(le:N<=M):Bx H b M:=let ⟨x,y,z,h1,h2,h3,h4,h5,h6⟩:=h;⟨x,y,z,h1,h2,h3,h4,h5,by walk_at "o"⟩
theorem Bx.new {H:Hp}{b p:Addr}{N:Nat}{o:HO}(h:Bx H b N)(hp:H p=none):Bx (upd H p o) b N:=let ⟨x,y,z,h1,r⟩:=h;⟨x,y,z,(zq (zj h1 hp)).trans h1,r⟩
theorem Bx.kp {H H':Hp}{b:Addr}{N:Nat}(h:Bx H b N)(k:Kp [] H H'):Bx H' b N:=let ⟨x,y,z,h1,r⟩:=h;⟨x,y,z,k _ _ (by simp) h1,r⟩
theorem ER {X:Cx}:PIp X .FloorDiv (rI B7 fun i j=>.int (i / j)):=Az
noncomputable def zd (n:Nat)(ns:List Int):Prop:=ns.length=n/\ns.Nodup/\∀ x ∈ ns,0<=x/\x<(n:Int)
theorem zd.nil:zd 0 []:=⟨rfl,List.nodup_nil,fun x h=>nomatch h⟩
theorem J7 {α:Type}(xs:List α)(i:Nat)(y:α):(xs.take i ++ y :: xs.drop i).Perm (y :: xs):=by
 refine (List.perm_middle).trans ?_
 rw [List.take_append_drop]
theorem zd.insert {k:Nat}{ns:List Int}(h:zd k ns)(i:Nat):zd (k+1) (ns.take i ++ (k:Int) :: ns.drop i):=by
 obtain ⟨h1,h2,h3⟩:=h
 have pm:=J7 ns i (k:Int)
 refine ⟨by rw [pm.length_eq,List.length_cons,h1],?_,fun x hx=>?_⟩
 ·refine pm.nodup_iff.mpr (List.nodup_cons.mpr ⟨fun hm=>?_,h2⟩)
  have:=(h3 _ hm).2
  walk_at "o"
 ·rcases List.mem_cons.mp (pm.mem_iff.mp hx) with rfl | hx
  ·walk_at "o"
  ·have:=h3 x hx;walk_at "o"
theorem vJ:∀ (n:Nat) (l:List Int),l.Nodup->(∀ x ∈ l,0<=x/\x<(n:Int))->l.length<=n
 | 0,l,_,h=>by
  cases l with
  | nil=>exact Nat.le_refl _
  | cons x r=>have:=h x List.mem_cons_self;walk_at "o"
 | n+1,l,hn,h=>by
  have ih:=vJ n (l.erase (n:Int)) (hn.erase _) (fun x hx=>by
   have h1:=h x (List.mem_of_mem_erase hx)
   have h2:x ≠ (n:Int):=fun e=>by
    subst e
    exact (hn.not_mem_erase) hx
   walk_at "o")
  by_cases hm:(n:Int) ∈ l
  ·rw [List.length_erase_of_mem hm] at ih;walk_at "o"
  ·rw [List.erase_of_not_mem hm] at ih;walk_at "o"
theorem zd.surj {n:Nat}{ns:List Int}(h:zd n ns){x:Int}(h0:0<=x)(h1:x<n):x ∈ ns:=by
 obtain ⟨l,d,b⟩:=h
 refine Classical.byContradiction fun hm=>?_
 have:=vJ n (x :: ns) (List.nodup_cons.mpr ⟨hm,d⟩) (fun y hy=>by
  rcases List.mem_cons.mp hy with rfl | hy
  ·exact ⟨h0,h1⟩
  ·exact b y hy)
 rw [List.length_cons,l] at this
 walk_at "o"
theorem zd.getD {n:Nat}{ns:List Int}(h:zd n ns){i:Nat}(hi:i<n):0<=ns.getD i 0/\ns.getD i 0<n:=by
 obtain ⟨l,d,b⟩:=h
 have hi':i<ns.length:=by walk_at "o"
 have e:ns.getD i 0=ns[i]:=by rw [List.getD_eq_getElem?_getD,List.getElem?_eq_getElem hi'];rfl
 rw [e]
 exact b _ (List.getElem_mem hi')
theorem zN {ns:List Int}{i:Nat}(h:i<ns.length):ns.getD i 0=ns[i]:=by rw [List.getD_eq_getElem?_getD,List.getElem?_eq_getElem h];rfl
theorem zd.inj {n:Nat}{ns:List Int}(h:zd n ns){i j:Nat}(hi:i<n)(hj:j<n)(e:ns.getD i 0=ns.getD j 0):i=j:=by
 obtain ⟨l,d,b⟩:=h
 rw [zN (by walk_at "o"),zN (by walk_at "o")] at e
 exact (List.getElem_inj d).mp e
theorem jd {n:Nat}{ns:List Int}(l:ns.length=n)(b:∀ i,i<n->0<=ns.getD i 0/\ns.getD i 0<n)(j:∀ i k,i<n->k<n->ns.getD i 0=ns.getD k 0->i=k):zd n ns:=by
 refine ⟨l,?_,fun x hx=>?_⟩
 ·rw [List.nodup_iff_pairwise_ne,List.pairwise_iff_getElem]
  intro i k hi hk hik e
  have:=j i k (by walk_at "o") (by walk_at "o") (by rw [zN hi,zN hk];exact e)
  walk_at "o"
 ·obtain ⟨i,hi,rfl⟩:=List.mem_iff_getElem.mp hx
  have:=b i (by walk_at "o")
  rwa [zN hi] at this
theorem zd.ex {n:Nat}{ns:List Int}(h:zd n ns){j:Nat}(hj:j<n):∃ i,i<n/\ns.getD i 0=(j:Int):=by
 have hm:=h.surj (x:=(j:Int)) (by walk_at "o") (by walk_at "o")
 obtain ⟨i,hi,e⟩:=List.mem_iff_getElem.mp hm
 exact ⟨i,by rw [<- h.1];exact hi,by rw [zN hi];exact e⟩
theorem qa (n:Nat){i:Nat}(h:i<n):(zW 0 1 n).getD i 0=(i:Int):=by
 rw [zN (by rw [zC];exact h)]
 simp [zW]
theorem zd.rng (n:Nat):zd n (zW 0 1 n):=by
 refine jd (zC 0 1 n) (fun i hi=>?_) (fun i k hi hk e=>?_)
 ·rw [qa n hi];walk_at "o"
 ·rw [qa n hi,qa n hk] at e;walk_at "o"
theorem Kp.drop1 {bs:List Addr}{H H':Hp}{p:Addr}{o:HO}(hp:H p=none)(k:Kp (p :: bs) (upd H p o) H'):Kp bs H H':=fun c u n h=>by
 have hne:c ≠ p:=zj h hp
 refine k c u ?_ ((zq hne).trans h)
 intro hm
 rcases List.mem_cons.mp hm with e | e
 ·exact hne e
 ·exact n e
theorem Bx.ne {H:Hp}{b p:Addr}{N:Nat}(h:Bx H b N)(hp:H p=none):b ≠ p:=let ⟨_,_,_,h1,_⟩:=h;zj h1 hp
theorem Bx.there {H:Hp}{b:Addr}{N:Nat}(h:Bx H b N):∃ o,H b=some o:=let ⟨_,_,_,h1,_⟩:=h;⟨_,h1⟩
theorem Bx.keep {H H':Hp}{b:Addr}{N:Nat}{bs:List Addr}(h:Bx H b N)(k:Kp bs H H')(hb:b ∉ bs):Bx H' b N:=let ⟨x,y,z,h1,r⟩:=h;⟨x,y,z,k _ _ hb h1,r⟩
theorem jW {ns:List Int}{i j:Nat}{v:Int}(h:i<ns.length):(ns.set i v).getD j 0=if j=i then v else ns.getD j 0:=by
 rw [List.getD_eq_getElem?_getD,List.getElem?_set]
 by_cases e:i=j
 ·subst e;simp [h]
 ·rw [if_neg e,if_neg (Ne.symm e),List.getD_eq_getElem?_getD]
theorem kR {xs ys:List Int}(l:xs.length=ys.length)(h:∀ i,i<xs.length->xs.getD i 0=ys.getD i 0):xs=ys:=by
 refine List.ext_getElem l fun i h1 h2=>?_
 have:=h i h1
 rwa [zN h1,zN h2] at this
noncomputable def Kg:V->V->V->Hp->(Hp->Prop)->Prop:=fun o i v H Q=>∃ k,i=.int k/\∃ p,o=.ref p/\∃ xs,H p=some (.lst xs)/\∃ j,ixN xs.length k=some j/\Q (upd H p (.lst (xs.set j v)))
section
variable {X:Cx}
theorem qL:MtR X "list.append" vd:=Zl
theorem Zt:MtR X "list.insert" vk:=Vd
theorem jG {es:List Expr}{k:Nat}{t:TGs}{pos:Pos}{K:PySem.W.Frag}(n:Nat)(h:X.K=K)(hc:X.calm=true)(hs:PGs X es t)(hn:(assignEach es X.env).length=n:=by rfl)(hst:(assignEach es X.env).findIdx? (·.1)=none:=by rfl):PG X (.Tuple es k pos) (Ed K n t):=h ▸ GS hc hs hn hst
theorem qb:Gf X Kg:=by
 intro pins s σ H o i v ov iv u Q I ro ri rv h
 obtain ⟨k,e1,p,e2,xs,h1,j,h2,q⟩:=h
 exact A9 pins s σ H o i v ov iv u Q I ro ri rv ⟨p,xs,k,j,e2,e1,h1,h2,q⟩
theorem jL {K:PySem.W.Frag}(h:X.K=K):qH X (.builtin "len") (fun xs H Q=>∃ p ys,xs=[.ref p]/\(SqL K H p ys \/ SqT K H p ys)/\Q (.int ys.length) H):=h ▸ zl
end
noncomputable def aft (one other:List Int):List Int:=one.map fun x=>other.getD x.toNat 0
theorem zQ (a b:List Int):(aft a b).length=a.length:=List.length_map _
theorem qr {a:List Int}(b:List Int){i:Nat}(h:i<a.length):(aft a b).getD i 0=b.getD (a.getD i 0).toNat 0:=by
 rw [zN (by rw [zQ];exact h),zN h]
 exact List.getElem_map _
theorem zd.aft {n:Nat}{a b:List Int}(ha:zd n a)(hb:zd n b):zd n (aft a b):=by
 refine jd (by rw [zQ,ha.1]) (fun i hi=>?_) (fun i k hi hk e=>?_)
 ·rw [qr b (by rw [ha.1];exact hi)]
  have:=ha.getD hi
  exact hb.getD (by walk_at "o")
 ·rw [qr b (by rw [ha.1];exact hi),qr b (by rw [ha.1];exact hk)] at e
  have h1:=ha.getD hi
  have h2:=ha.getD hk
  have:=hb.inj (by walk_at "o") (by walk_at "o") e
  exact ha.inj hi hk (by walk_at "o")
theorem Zb {n:Nat}{a b c:List Int}(ha:zd n a)(hb:b.length=n):aft (aft a b) c=aft a (aft b c):=by
 refine kR (by rw [zQ,zQ,zQ]) fun i hi=>?_
 rw [zQ,zQ,ha.1] at hi
 have h1:=ha.getD hi
 rw [qr c (by rw [zQ,ha.1];exact hi),qr b (by rw [ha.1];exact hi),qr _ (by rw [ha.1];exact hi),qr c (by walk_at "o")]
theorem ka {n:Nat}{b:List Int}(hb:b.length=n):aft (zW 0 1 n) b=b:=by
 refine kR (by rw [zQ,zC,hb]) fun i hi=>?_
 rw [zQ,zC] at hi
 rw [qr b (by rw [zC];exact hi),qa n hi,Int.toNat_natCast]
theorem xB {n:Nat}{a:List Int}(ha:zd n a):aft a (zW 0 1 n)=a:=by
 refine kR (by rw [zQ]) fun i hi=>?_
 rw [zQ,ha.1] at hi
 have h1:=ha.getD hi
 rw [qr _ (by rw [ha.1];exact hi),qa n (by walk_at "o")]
 walk_at "o"
noncomputable def zV (os bs:List Int):Prop:=bs.length=os.length/\∀ i,i<os.length->bs.getD (os.getD i 0).toNat 0=(i:Int)
theorem zV.at {n:Nat}{os bs:List Int}(ho:zd n os)(h:zV os bs){j:Nat}(hj:j<n):∃ i:Nat,i<n/\os.getD i 0=(j:Int)/\bs.getD j 0=(i:Int):=by
 obtain ⟨i,hi,e⟩:=ho.ex hj
 refine ⟨i,hi,e,?_⟩
 have:=h.2 i (by rw [ho.1];exact hi)
 rw [e,Int.toNat_natCast] at this
 exact this
theorem zV.ord {n:Nat}{os bs:List Int}(ho:zd n os)(h:zV os bs):zd n bs:=by
 refine jd (by rw [h.1,ho.1]) (fun j hj=>?_) (fun j k hj hk e=>?_)
 ·obtain ⟨i,hi,_,e⟩:=h.at ho hj
  rw [e];walk_at "o"
 ·obtain ⟨i,hi,e1,e2⟩:=h.at ho hj
  obtain ⟨i',hi',e1',e2'⟩:=h.at ho hk
  have:i=i':=by walk_at "o"
  subst this
  walk_at "o"
theorem zV.right {n:Nat}{os bs:List Int}(ho:zd n os)(h:zV os bs):aft os bs=zW 0 1 n:=by
 refine kR (by rw [zQ,zC,ho.1]) fun i hi=>?_
 rw [zQ] at hi
 rw [qr bs hi,h.2 i hi,qa n (by rw [<- ho.1];exact hi)]
theorem zV.unique {n:Nat}{os bs cs:List Int}(ho:zd n os)(h:zV os bs)(hc:cs.length=n)(e:aft os cs=zW 0 1 n):cs=bs:=by
 refine kR (by rw [hc,h.1,ho.1]) fun j hj=>?_
 obtain ⟨i,hi,e1,e2⟩:=h.at ho (by walk_at "o":j<n)
 have:=congrArg (fun l=>l.getD i 0) e
 rw [qr cs (by rw [ho.1];exact hi),e1,Int.toNat_natCast,qa n hi] at this
 rw [this,e2]
noncomputable def xv (os:List Int)(k:Nat):Nat:=((List.range k).filter fun (i:Nat)=>!decide (os.getD i 0=(i:Int))).length
noncomputable def pwl (n:Nat)(b:List Int):Nat->List Int
 | 0=>zW 0 1 n
 | k+1=>aft (pwl n b k) b
theorem jJ {n:Nat}{b:List Int}(hb:zd n b):∀ k,zd n (pwl n b k)
 | 0=>zd.rng n
 | k+1=>(jJ hb k).aft hb
theorem Qo {n:Nat}{b:List Int}(hb:zd n b)(j:Nat):∀ k,aft (pwl n b j) (pwl n b k)=pwl n b (j+k)
 | 0=>xB (jJ hb j)
 | k+1=>by
  show aft (pwl n b j) (aft (pwl n b k) b)=aft (pwl n b (j+k)) b
  rw [<- Zb (jJ hb j) (jJ hb k).1,Qo hb j k]
theorem Fm {n:Nat}{b:List Int}(hb:zd n b):pwl n b 1=b:=ka hb.1
theorem Yr {n:Nat}{b:List Int}(hb:zd n b):∀ k,pwl n (aft b b) k=pwl n b (2 * k)
 | 0=>rfl
 | k+1=>by
  show aft (pwl n (aft b b) k) (aft b b)=_
  have e:aft b b=pwl n b 2:=by
   show aft b b=aft (aft (zW 0 1 n) b) b
   rw [ka hb.1]
  rw [Yr hb k,e,Qo hb]
  rfl
section
variable {X:Cx}
noncomputable def X4 (K:PySem.W.Frag):R2:=fun x y H Q=>∃ p xs i v,x=.ref p/\y=.int i/\(SqL K H p xs \/ SqT K H p xs)/\atI xs i=some v/\Q v H
theorem qU:IxR X (X4 X.K):=by
 intro value slice pins s σ H x y v u Q I rx ry h hs
 obtain ⟨p,xs,i,z,e1,e2,hq | hq,he,q⟩:=h
 ·exact zU value slice pins s σ H x y v u Q I rx ry ⟨p,xs,i,z,e1,e2,hq,he,q⟩ hs
 ·exact Km value slice pins s σ H x y v u Q I rx ry ⟨p,xs,i,z,e1,e2,hq,he,q⟩ hs
theorem yN {K:PySem.W.Frag}(h:X.K=K):IxR X (X4 K):=h ▸ qU
theorem G9:bootBuiltins "all"=some (.builtin "all"):=by decide +kernel
theorem vP:∀ {bs:List Bool} {us:List Value},zE (bs.map V.bl) us->us=bs.map Value.bool
 | [],_,h=>by cases h;rfl
 | b :: bs,_,h=>by
  cases h with
  | cons r rs=>cases r;rw [vP rs];rfl
theorem KC (bs:List Bool):((List.range bs.length).all fun i=>(bs[i]?).getD true)=bs.all id:=by
 rw [Bool.eq_iff_iff,List.all_eq_true,List.all_eq_true]
 constructor
 ·intro h x hx
  obtain ⟨i,hi,rfl⟩:=List.getElem_of_mem hx
  have:=h i (by simpa using hi)
  simpa [List.getElem?_eq_getElem hi] using this
 ·intro h i hi
  have hi':i<bs.length:=by simpa using hi
  simpa [List.getElem?_eq_getElem hi'] using h bs[i] (List.getElem_mem hi')
theorem VO (hc:X.calm=true):qH X (.builtin "all") (fun xs H Q=>∃ p bs,xs=[.ref p]/\SqL X.K H p (List.map V.bl bs)/\Q (.bl (bs.all id)) H):=by
  intro pins s σ H xs us Q I r h
  obtain ⟨p,bs,rfl,hq,q⟩:=h
  obtain ⟨u,rfl,rx⟩:=jF r
  cases rx
  obtain ⟨its,rv,pl,hz⟩:=I.list hq
  have hu:=vP rv
  subst hu
  have hlt:p<s.heap.objs.size:=by obtain ⟨_,e,_⟩:=pl.isList;exact Heap.lt_size e
  refine call_all_walk (wpAny_pyIter_list pl.isList ?_)
  refine ⟨s.heap.objs.size,[s.heap.objs.size,p],[s.heap.objs.size],(bs.map Value.bool).toArray.size,_,_,fun i=>(bs[i]?).getD true,rfl,Walks.list (A:=X.A.in1) (I.ok.hd hc) _ p (Nat.ne_of_lt hlt) (bs.map Value.bool).toArray,
    ⟨⟨_,Heap.get?_push_size _ rfl,rfl,rfl⟩,pl.isList.push _⟩,fun i v s' Q' E' hP hQ=>?_,fun h' tk hk=>?_⟩
  · have hP':(bs.map Value.bool)[i]?=some v:=by simpa using hP
    rw [List.getElem?_map] at hP'
    cases e:bs[i]? with
    | none=>rw [e] at hP';cases hP'
    | some b=>
      rw [e] at hP'
      cases hP'
      simp only [e,Option.getD_some] at hQ
      exact wpAny_truthy_bool hQ
  · have e : ((List.range (bs.map Value.bool).toArray.size).all fun i => (bs[i]?).getD true) = bs.all id := by
      rw [List.size_toArray,List.length_map];exact KC bs
    rw [e]
    refine ⟨.bl (bs.all id),H,I.turnedL (ch:=[]) (tk:=tk) (fun b hb=>nomatch hb) (fun b o _ eb=>?_),rfl,q⟩
    exact hk b o (fun hm=>by rw [List.mem_singleton.mp hm] at eb;exact Nat.lt_irrefl _ (Heap.lt_size eb)) (Heap.get?_push_of_some _ eb)
end
noncomputable def nxt (os:List Int)(p:Int):Int:=os.getD p.toNat 0
noncomputable def itn (os:List Int):Nat->Int->Int
 | 0,p=>p
 | k+1,p=>nxt os (itn os k p)
theorem qc {n:Nat}{os:List Int}(h:zd n os){p:Int}(p0:0<=p)(p1:p<n):∀ k,0<=itn os k p/\itn os k p<n
 | 0=>⟨p0,p1⟩
 | k+1=>by
  have:=qc h p0 p1 k
  exact h.getD (by walk_at "o")
theorem jK (os:List Int)(p:Int)(b:Nat):∀ a,itn os (a+b) p=itn os a (itn os b p)
 | 0=>by rw [Nat.zero_add];rfl
 | a+1=>by
  rw [show a+1+b=(a+b)+1 by walk_at "o"]
  show nxt os (itn os (a+b) p)=nxt os (itn os a (itn os b p))
  rw [jK os p b a]
theorem DH {n:Nat}{os:List Int}(h:zd n os){x y:Int}(x0:0<=x)(x1:x<n)(y0:0<=y)(y1:y<n)(e:nxt os x=nxt os y):x=y:=by
 have:=h.inj (i:=x.toNat) (j:=y.toNat) (by walk_at "o") (by walk_at "o") e
 walk_at "o"
theorem Qk {n:Nat}{os:List Int}(h:zd n os){x y:Int}(x0:0<=x)(x1:x<n)(y0:0<=y)(y1:y<n):∀ k,itn os k x=itn os k y->x=y
 | 0,e=>e
 | k+1,e=>by
  have bx:=qc h x0 x1 k
  have by':=qc h y0 y1 k
  exact Qk h x0 x1 y0 y1 k (DH h bx.1 bx.2 by'.1 by'.2 e)
theorem vf {n:Nat}{os:List Int}(h:zd n os){p:Int}(p0:0<=p)(p1:p<n):∃ M,1<=M/\M<=n/\itn os M p=p:=by
 apply Classical.byContradiction
 intro hno
 have hp:((List.range (n+1)).map fun i=>itn os i p).Nodup:=by
  rw [List.Nodup,List.pairwise_map]
  refine List.Pairwise.imp_of_mem (R:=fun a b=>a<b) ?_ List.pairwise_lt_range
  intro a b ha hb hlt e
  have hb':b<n+1:=by simpa using hb
  refine hno ⟨b - a,by walk_at "o",by walk_at "o",?_⟩
  have bb:=qc h p0 p1 (b - a)
  refine (Qk h p0 p1 bb.1 bb.2 a ?_).symm
  rw [<- jK,show a+(b - a)=b by walk_at "o"]
  exact e
 have:=vJ n _ hp (fun x hx=>by
  obtain ⟨i,_,rfl⟩:=List.mem_map.mp hx
  exact qc h p0 p1 i)
 rw [List.length_map,List.length_range] at this
 walk_at "o"
noncomputable def qF (os:List Int)(p:Int)(m:Nat)(e:Int):Prop:=1<=m/\e=itn os m p/\e<=p/\∀ j,1<=j->j<m->p<itn os j p
theorem qF.uniq {os:List Int}{p:Int}{m m':Nat}{e e':Int}(h:qF os p m e)(h':qF os p m' e'):m=m'/\e=e':=by
 obtain ⟨a1,a2,a3,a4⟩:=h
 obtain ⟨b1,b2,b3,b4⟩:=h'
 have:m=m':=by
  rcases Nat.lt_trichotomy m m' with z | z | z
  ·have:=b4 m a1 z;walk_at "o"
  ·exact z
  ·have:=a4 m' b1 z;walk_at "o"
 subst this
 exact ⟨rfl,a2.trans b2.symm⟩
open Classical in
noncomputable def wkM (os:List Int)(p:Int):Nat:=if h:∃ m,∃ e,qF os p m e then Classical.choose h else 0
open Classical in
noncomputable def wkE (os:List Int)(p:Int):Int:=itn os (wkM os p) p
theorem qF.wkM {os:List Int}{p:Int}{m:Nat}{e:Int}(h:qF os p m e):wkM os p=m:=by
 have hx:∃ m,∃ e,qF os p m e:=⟨m,e,h⟩
 obtain ⟨e',h'⟩:=Classical.choose_spec hx
 unfold L2.wkM
 rw [dif_pos hx]
 exact (h'.uniq h).1
theorem qF.wkE {os:List Int}{p:Int}{m:Nat}{e:Int}(h:qF os p m e):wkE os p=e:=by
 unfold L2.wkE
 rw [h.wkM]
 exact h.2.1.symm
section
variable {P:Program}{w:World}{A:Around}{E:Value->Shared->Prop}{s:Shared}{j t:Addr}{i:Nat}{its:Array Value}{Q:Value->Shared->Prop}
theorem ZX {x:Value}(hj:s.heap.IsTupleIter j t i)(ht:s.heap.IsTuple t its)(hx:its[i]?=some x)(hQ:∀ h',h'.IsTupleIter j t (i+1)->Heap.SameBut j s.heap h'->Q x { s with heap:=h' }):wpAny (model P w) A (Builtin.SmallTypes.nextOf (.ref j)) Q E s:=by
 obtain ⟨o,ho,hc,hd⟩:=id hj
 obtain ⟨ot,hot,_,nt,hdt⟩:=ht
 unfold Builtin.SmallTypes.nextOf
 refine wpAny_bind (wpAny_callSpecial?_slot (name:=Str.ofString "__next__") hj.typeIs F.slot_tuple_iterator_next (wpAny_call_entry F.slot_tuple_iterator_next hj.typeIs F.entry_tuple_iterator_next ?_ (F.args_tuple_iterator_next_1 _)))
 refine wpAny_bind (m:=field (.ref j) 0) (wpAny_field ho hd (x:=.ref t) rfl ?_);show wpAny _ _ (if (Value.ref t == Value.none)=true then _ else _) _ _ s;rw [if_neg (show ¬ ((Value.ref t == Value.none)=true) from Bool.false_ne_true)]
 refine wpAny_bind (m:=field (.ref j) 1) (wpAny_field ho hd (x:=.int i 0) rfl ?_);refine wpAny_bind (m:=seqItems? (.ref t)) (wpAny_seqItems hot hdt ?_);simp only [Int.toNat_natCast,hx]
 refine wpAny_bind (wpAny_setField ho hd (by simp) (wpAny_pure ⟨x,rfl,wpAny_pure (hQ _ ⟨_,Heap.get?_update_self _ ho (Obj.isFreed_of_fields (Obj.data_mapFields hd _)),(Obj.cls_mapFields ..).trans hc,by rw [Obj.data_mapFields hd];simp [rawInt]⟩ (Heap.SameBut.update ..))⟩))
theorem yU (hh:A.handled=none)(hj:s.heap.IsTupleIter j t i)(ht:s.heap.IsTuple t its)(hx:its[i]?=none)(hE:∀ h' e,Heap.ExtBut j s.heap h'->(∃ o,h'.get? e=some o/\o.cls=.type "StopIteration")->E (.ref e) { s with heap:=h' }):wpAny (model P w) A (Builtin.SmallTypes.nextOf (.ref j)) Q E s:=by
 obtain ⟨o,ho,hc,hd⟩:=id hj
 obtain ⟨ot,hot,_,nt,hdt⟩:=ht
 unfold Builtin.SmallTypes.nextOf
 refine wpAny_bind (wpAny_callSpecial?_slot (name:=Str.ofString "__next__") hj.typeIs F.slot_tuple_iterator_next (wpAny_call_entry F.slot_tuple_iterator_next hj.typeIs F.entry_tuple_iterator_next ?_ (F.args_tuple_iterator_next_1 _)))
 refine wpAny_bind (m:=field (.ref j) 0) (wpAny_field ho hd (x:=.ref t) rfl ?_);show wpAny _ _ (if (Value.ref t == Value.none)=true then _ else _) _ _ s;rw [if_neg (show ¬ ((Value.ref t == Value.none)=true) from Bool.false_ne_true)]
 refine wpAny_bind (m:=field (.ref j) 1) (wpAny_field ho hd (x:=.int i 0) rfl ?_);refine wpAny_bind (m:=seqItems? (.ref t)) (wpAny_seqItems hot hdt ?_);simp only [Int.toNat_natCast,hx]
 refine wpAny_bind (wpAny_rule (wpAny_bind (wpAny_setField ho hd (by simp) ?_)));refine wpAny_bind (m:=newExc (.type "StopIteration") []) ?_;simp only [newExc,newTuple];refine wpAny_bind (wpAny_newObj_type ?_ (by size_fits));refine wpAny_bind (m:=firstArgMember _ _) (wpAny_of_eq (a:=Value.none) (by first | rfl | (simp only [firstArgMember];rfl)) ?_);refine wpAny_newObj_type ?_ (by size_fits);simp only [raiseNew];refine wpAny_bind (wpAny_handled ?_)
 (first | rw [show A.in1.handled=none from hh] | rw [hh]);refine wpAny_bind (wpAny_pure (wpAny_throw ?_));exact hE _ _ (((Heap.SameBut.update ..).extBut.push _).push _) ⟨_,Heap.get?_push_size _ rfl,rfl⟩
end
theorem VI {P:Program}{w:World}{A:Around}(hh:A.handled=none)(j t:Addr)(hne:t ≠ j)(its:Array Value) :
  Draws P w A j [j,t] its.size (fun i v=>its[i]?=some v) (fun i h=>h.IsTupleIter j t i/\h.IsTuple t its) where
 live:=fun _ _ st=>let ⟨o,ho,_⟩:=st.1;⟨o,ho⟩
 frame:=fun _ _ _ st hk=>⟨st.1.at fun o e=>hk j (by simp) o e,let ⟨o,ho,r⟩:=st.2;⟨o,hk t (by simp) o ho,r⟩⟩
 item:=fun i s Q E hi st hQ=>by
  refine ZX st.1 st.2 (x:=its[i]) (by simp [hi]) fun h' hit' hs'=>?_
  exact hQ _ h' s.toks (by simp [hi]) ⟨hit',let ⟨o,ho,r⟩:=st.2;⟨o,(hs'.2 t hne).trans ho,r⟩⟩ hs'
 done:=fun s Q E st hE=>yU hh st.1 st.2 (by simp) hE
open AutoSeq1 (wpAny_loadPart') in
theorem V3 (l:Addr)(its:Array Value)(n:Nat)(dct:Option Addr)(sl:Array (Option Value)) :
  Meets (Builtin.«enumerate.__new__» ⟨[.type "enumerate",.ref l],[]⟩) (fun _ R s=>s.heap.get? l=some { cls:=.type "tuple",dict:=dct,data:=.seq its n,slots:=sl }/\R (.ok (.ret (.ref (s.heap.push { cls:=.type "tuple_iterator",data:=.fields #[.ref l,.int 0 0] }).objs.size))) { s with heap:=(s.heap.push { cls:=.type "tuple_iterator",data:=.fields #[.ref l,.int 0 0] }).push { cls:=.type "enumerate",data:=.fields #[.none,.bool false,.ref s.heap.objs.size,rawInt 0,.none,.none] } }):=
 .of_wp fun prog w A R s h=>by
  obtain ⟨hp,g,d,tk,os⟩:=s
  obtain ⟨hl,h⟩:=h
  have hsub:=sub_enumerate
  have hT:Heap.IsTuple (Shared.heap ⟨hp,g,d,tk,os⟩) l its:=⟨_,hl,rfl,n,rfl⟩
  wp_walk using wpAny_loadPart' hl
  refine wpAny_stack_any fun st=>wpAny_pure ?_
  split
  ·rename_i c _ _ _ _ _
   cases (c == Value.type "enumerate")
   ·wp_walk using wpAny_loadPart' hl,wpAny_pyIter_tuple hT;exact ⟨_,rfl,h⟩
   ·wp_walk using wpAny_loadPart' hl,wpAny_pyIter_tuple hT;exact ⟨_,rfl,h⟩
  ·wp_walk using wpAny_loadPart' hl,wpAny_pyIter_tuple hT;exact ⟨_,rfl,h⟩
theorem Kw {P:Program}{w:World}{A:Around}{E:Value->Shared->Prop}{s:Shared}{l:Addr}{its:Array Value}{Q:Value->Shared->Prop}(hT:s.heap.IsTuple l its)
  (h:∀ h',IsEnum h' (s.heap.objs.size+1) s.heap.objs.size 0 .none->h'.IsTupleIter s.heap.objs.size l 0->(∀ b o,s.heap.get? b=some o->h'.get? b=some o)->Q (.ref (s.heap.objs.size+1)) { s with heap:=h' }) :
  wpAny (model P w) A (call (.type "enumerate") [.ref l]) Q E s:=by
 obtain ⟨⟨c,dct,dt,sl⟩,hl,hc,n,hd⟩:=hT
 replace hc:c=.type "tuple":=hc
 replace hd:dt=.seq its n:=hd
 subst hc hd
 refine callType_new F.called_enumerate (by decide) (F.typeCall_enumerate_1 _) (F.newCall_enumerate_1 _) (fun obj=>F.args_object_init_2 obj _) F.entry_enumerate_new (V3 l its n dct sl) ⟨hl,?_⟩
 have hz:(s.heap.push { cls:=.type "tuple_iterator",data:=.fields #[.ref l,.int 0 0] }).objs.size=s.heap.objs.size+1:=Heap.size_push ..
 show _/\_
 rw [hz]
 have he:IsEnum ((s.heap.push { cls:=.type "tuple_iterator",data:=.fields #[.ref l,.int 0 0] }).push { cls:=.type "enumerate",data:=.fields #[.none,.bool false,.ref s.heap.objs.size,rawInt 0,.none,.none] }) (s.heap.objs.size+1) s.heap.objs.size 0 .none:=by
  have hg:=Heap.get?_push_size (s.heap.push { cls:=.type "tuple_iterator",data:=.fields #[.ref l,.int 0 0] }) (o:={ cls:=.type "enumerate",data:=.fields #[.none,.bool false,.ref s.heap.objs.size,rawInt 0,.none,.none] }) rfl
  rw [hz] at hg;exact hg
 exact ⟨⟨_,he,rfl⟩,h _ he ⟨_,Heap.get?_push_of_some _ (Heap.get?_push_size _ rfl),rfl,rfl⟩ fun b o x=>Heap.get?_push_of_some _ (Heap.get?_push_of_some _ x)⟩
theorem Vo {P:Program}{w:World}{A:Around}{E:Value->Shared->Prop}{s:Shared}{e j t:Addr}{i:Nat}{its:Array Value}{old:Value}{Q:Option Value->Shared->Prop}(hh:A.handled=none)
  (he:IsEnum s.heap e j i old) (hj:s.heap.IsTupleIter j t i) (ht:s.heap.IsTuple t its) (hx:its[i]?=none) (hQ:∀ h',Heap.ExtBut j s.heap h'->Q none { s with heap:=h' }):wpAny (model P w) A (pyNext (.ref e)) Q E s:=by
 have hT:s.TypeIs (.ref e) "enumerate":=⟨_,he,rfl⟩
 unfold pyNext
 refine wpAny_bind (wpAny_attempt (wpAny_callSpecial?_slot (name:=Str.ofString "__next__") hT F.slot_enumerate_next (wpAny_call_entry F.slot_enumerate_next hT F.entry_enumerate_next ?_ (F.args_enumerate_next_1 _))))
 refine wpAny_bind (m:=field (.ref e) 2) (wpAny_field he rfl (x:=.ref j) rfl ?_);refine wpAny_bind (yU hh hj ht hx fun h' x he' hx'=>?_)
 obtain ⟨o,ho,hc⟩:=hx'
 refine wpAny_bind (wpAny_isInstance (T:="StopIteration") (b:=true) ⟨o,ho,hc⟩ isSubtype_stop ?_);exact wpAny_pure (hQ _ he')
noncomputable def D0 (K:PySem.W.Frag)(a:Addr):It:=
 ⟨fun i H=>∃ xs x,SqT K H a xs/\xs[i]?=some x,fun i H y H'=>∃ p x,H p=none/\y=.ref p/\(∀ xs,SqT K H a xs->xs[i]?=some x)/\H'=upd H p (.tup [.int i,x]),fun i H=>∃ xs,SqT K H a xs/\xs.length<=i⟩
theorem KZ {P:Program}{w:World}{K:PySem.W.Frag}{es:List Expr}{kt:Nat}{tp:Pos}(a e it:Addr)(hei:e ≠ it)(hea:e ≠ a)(hai:a ≠ it):KP P w K (.Tuple es kt tp) (D0 K a) [e,it] e (fun i h=>(∃ old,IsEnum h e it (i:Nat) old)/\h.IsTupleIter it a i) where
 mem:=by simp
 obj:=fun i h st b hb=>by
  obtain ⟨⟨old,he⟩,⟨o,e1,c,d⟩⟩:=st
  rcases List.mem_cons.mp hb with rfl | hb
  ·exact ⟨_,he,fun v z=>by have z':Data.fields _=Data.cell v:=z;cases z'⟩
  ·have e2:b=it:=by simpa using hb
   subst e2
   exact ⟨o,e1,fun v z=>by rw [d] at z;cases z⟩
 keep:=fun i h h' st k=>by
  obtain ⟨⟨old,he⟩,st⟩:=st
  exact ⟨⟨old,k e (by simp) _ he⟩,st.at fun o e=>k it (by simp) o e⟩
 item:=by
  intro X hP hw hK hc i pins s σ H E I hf st hg
  subst hP hw hK
  obtain ⟨⟨old,he⟩,st⟩:=st
  obtain ⟨xs,x,hq,hx⟩:=hg
  obtain ⟨its,rv,p,hz⟩:=I.tuple hq
  obtain ⟨u,hu,ru⟩:=rv.get hx
  have hlt:i<its.toArray.size:=by
   have:=(List.getElem?_eq_some_iff.mp hu).1
   simpa using this
  refine wpAny_pyNext_enum_itemD (VI (A:=X.A.in1) (I.ok.hd hc) it a hai its.toArray) he ⟨st,p⟩ hlt hei (by simp [hei,hea]) fun x' h1 tk hP heo hit1 ht1 hz1 hk1=>?_
  have hxu:x'=u:=by
   have h1':its[i]?=some x':=by simpa using hP
   rw [hu] at h1';cases h1';rfl
  subst hxu
  refine ⟨.ref s.heap.objs.size,rfl,wpAny_letOwnedTupleGo_enum heo fun h2 he2 hs2=>?_⟩
  replace hs2:Heap.SameBut e h1 h2:=hs2
  have elt:e<s.heap.objs.size:=Heap.lt_size he
  have ht2:=(hs2.2 _ (Nat.ne_of_gt elt)).trans ht1
  have I2:Inv X pins σ (upd H s.heap.objs.size (.tup [.int i,x])) { s with heap:=h2,toks:=tk+1 }:=by
   refine I.yieldTup (us:=[.int i tk,x']) hf (fun b o hb q=>?_) (Nat.le_refl _) ht2 (.cons ⟨_,rfl⟩ (.cons ru .nil)) (by show 2<=sizeLine;decide)
   have n1:b ≠ e:=fun z=>hb (by simp [z])
   have n2:b ≠ it:=fun z=>hb (by simp [z])
   exact (hs2.2 b n1).trans (hk1 b o n1 n2 q)
  refine ⟨.ref s.heap.objs.size,_,I2,rfl,⟨s.heap.objs.size,x,I.hok.fresh (Nat.le_refl _),rfl,fun ys hy=>by rw [I.tuple_inj hy hq];exact hx,rfl⟩,⟨⟨_,by simpa using he2⟩,hit1.1.extBut hs2.extBut (Ne.symm hei)⟩,fun b hb=>?_⟩
  have hlt:b<s.heap.objs.size:=by
   rcases List.mem_cons.mp hb with rfl | hb
   ·exact elt
   ·have e2:b=it:=by simpa using hb
    subst e2
    obtain ⟨o,e1,_⟩:=st
    exact Heap.lt_size e1
  rw [zq (Nat.ne_of_lt hlt)]
  exact (hf b hb).1
 done:=by
  intro X hP hw hK hc i pins s σ H E I hf st hg
  subst hP hw hK
  obtain ⟨⟨old,he⟩,st⟩:=st
  obtain ⟨xs,hq,hx⟩:=hg
  obtain ⟨its,rv,p,hz⟩:=I.tuple hq
  obtain ⟨f0,f1,f2,f3,f4,f5⟩:=hf it (by simp)
  have hl:=rv.length
  exact Vo (I.ok.hd hc) he st p (by simp;walk_at "o") fun h' eb=>⟨rfl,I.turned (t':=s.toks) (fun b o hb e=>eb b o hb e) f0 f1 f3 f4 f5⟩
 self:=fun _ _ _ _ _ st h=>by
  obtain ⟨⟨old,he⟩,_⟩:=st
  exact wpAny_pyIter_enum he h
section
variable {X:Cx}{es:List Expr}{kt:Nat}{tp:Pos}
noncomputable def Qd (K:PySem.W.Frag)(ta:TA):TI:=fun σ H R=>ta σ H fun vs H1=>∃ a,vs=[.ref a]/\(((∃ xs,SqL K H1 a xs)/\R (Ite K a) H1) \/ ((∃ xs,SqT K H1 a xs)/\R (D0 K a) H1))
theorem xi {e:Expr}{ta:TA}{p pos:Pos}(hg:Gl X "enumerate")(hm:X.mg "enumerate"=none)(ha:PA X [e] ta)(hs:starEach [e] X.env=[(false,eval e X.env)]:=by rfl) :
  PI X (.Tuple es kt tp) (.Call (.Name "enumerate" p) [e] [] pos) (Qd X.K ta):=by
 intro pins s σ H R I h
 refine Call_ (kL I hg hm (vS) (PyProof.Rows.callWith_type1 (thn (ha pos pins s σ H _ I h) fun us s1 ⟨vs,H1,I1,r1,q1⟩=>?_) hs rfl))
 obtain ⟨a,e,q⟩:=q1
 subst e
 obtain ⟨u,rfl,ru⟩:=jF r1
 cases ru
 have hb':∀ b ∈ [s1.heap.objs.size+1,s1.heap.objs.size],s1.heap.objs.size<=b:=by
  intro b hb
  simp only [List.mem_cons,List.not_mem_nil,or_false] at hb
  walk_at "o"
 rcases q with ⟨⟨xs,hq⟩,q⟩ | ⟨⟨xs,hq⟩,q⟩
 ·obtain ⟨its,rv,pl,hz⟩:=I1.list hq
  refine call_enumerate_list pl.isList fun h' he hit hsz hk=>wpAny_pyIter_enum he ?_
  have I2:Inv X pins σ H1 { s1 with heap:=h' }:=I1.kept (t':=s1.toks) hk
  exact ⟨s1.heap.objs.size+1,[s1.heap.objs.size+1,s1.heap.objs.size],_,_,H1,rfl,I2,Zg a _ _ (Nat.succ_ne_self _),⟨⟨_,he⟩,hit⟩,fun b hb=>I1.fpOk (hb' b hb) (I1.hok.fresh (hb' b hb)),q⟩
 ·obtain ⟨its,rv,pl,hz⟩:=I1.tuple hq
  have alt:a<s1.heap.objs.size:=by obtain ⟨o,e,_⟩:=pl;exact Heap.lt_size e
  refine Kw pl fun h' he hit hk=>wpAny_pyIter_enum he ?_
  have I2:Inv X pins σ H1 { s1 with heap:=h' }:=I1.kept (t':=s1.toks) hk
  exact ⟨s1.heap.objs.size+1,[s1.heap.objs.size+1,s1.heap.objs.size],_,_,H1,rfl,I2,KZ a (s1.heap.objs.size+1) s1.heap.objs.size (Nat.succ_ne_self _) (Nat.ne_of_gt (Nat.lt_succ_of_lt alt)) (Nat.ne_of_lt alt),⟨⟨_,he⟩,hit⟩,fun b hb=>I1.fpOk (hb' b hb) (I1.hok.fresh (hb' b hb)),q⟩
end
theorem WN {K:PySem.W.Frag}{H H':Hp}{a:Addr}{xs:List V}(h:SqT K H a xs)(e:Kp [] H H'):SqT K H' a xs:=by
 rcases h with (h | ⟨o,h⟩) | h
 ·exact .inl (.inl (e _ _ (by simp) h))
 ·exact .inl (.inr ⟨o,e _ _ (by simp) h⟩)
 ·exact .inr h
theorem A5 {K:PySem.W.Frag}{H H':Hp}{a:Addr}{xs:List V}(h:SqL K H a xs)(e:Kp [] H H'):SqL K H' a xs:=by
 rcases h with (h | ⟨o,h⟩) | h
 ·exact .inl (.inl (e _ _ (by simp) h))
 ·exact .inl (.inr ⟨o,e _ _ (by simp) h⟩)
 ·exact .inr h
theorem zV.same {n:Nat}{os bs cs:List Int}(ho:zd n os)(h:zV os bs)(h':zV os cs):cs=bs:=zV.unique ho h (h'.ord ho).1 (h'.right ho)
noncomputable def ME (t:TE):Prop:=∀ σ H Q Q',(∀ v H1,Q v H1->Q' v H1)->t σ H Q->t σ H Q'
noncomputable def MT (t:TT):Prop:=∀ σ H Q Q',(∀ v H1,Q v H1->Q' v H1)->t σ H Q->t σ H Q'
noncomputable def MR (r:R2):Prop:=∀ x y H Q Q',(∀ z H1,Q z H1->Q' z H1)->r x y H Q->r x y H Q'
theorem A4 {i:Nat}:ME (Qg i):=fun _ _ _ _ hq ⟨v,e,h⟩=>⟨v,e,hq _ _ h⟩
theorem Lf {r:R2}{ta tb:TE}(hr:MR r)(ha:ME ta)(hb:ME tb):ME (tOp r ta tb):=fun _ _ _ _ hq h=>ha _ _ _ _ (fun _ _ h1=>hb _ _ _ _ (fun _ _ h2=>hr _ _ _ _ _ hq h2) h1) h
theorem Es {t:TE}(h:ME t):MT (wU t):=fun _ _ _ _ hq q=>h _ _ _ _ (fun _ _ ⟨k,e,z⟩=>⟨k,e,hq _ _ z⟩) q
theorem xZ {p:Nat->Prop}:∀ n,p n->∃ m,p m/\∀ j,j<m->¬ p j:=by
 intro n
 induction n using Nat.strongRecOn with
 | _ n ih=>
  intro h
  by_cases hx:∃ j,j<n/\p j
  ·obtain ⟨j,hj,pj⟩:=hx
   exact ih j hj pj
  ·exact ⟨n,h,fun j hj pj=>hx ⟨j,hj,pj⟩⟩
noncomputable def jw (os:List Int)(p:Int)(m:Nat):Prop:=1<=m/\itn os m p=p/\∀ j,1<=j->j<m->itn os j p ≠ p
theorem jw.uniq {os:List Int}{p:Int}{m m':Nat}(h:jw os p m)(h':jw os p m'):m=m':=by
 obtain ⟨a1,a3,a4⟩:=h
 obtain ⟨b1,b3,b4⟩:=h'
 rcases Nat.lt_trichotomy m m' with z | z | z
 ·exact absurd a3 (b4 m a1 z)
 ·exact z
 ·exact absurd b3 (a4 m' b1 z)
theorem qT {n:Nat}{os:List Int}(h:zd n os){p:Int}(p0:0<=p)(p1:p<n):∃ m,jw os p m/\m<=n:=by
 obtain ⟨M,h1,h2,h3⟩:=vf h p0 p1
 obtain ⟨m,⟨m1,m2⟩,m3⟩:=xZ (p:=fun k=>1<=k/\itn os k p=p) M ⟨h1,h3⟩
 refine ⟨m,⟨m1,m2,fun j j1 jm e=>m3 j jm ⟨j1,e⟩⟩,?_⟩
 rcases Nat.lt_or_ge M m with z | z
 ·exact absurd ⟨h1,h3⟩ (m3 M z)
 ·walk_at "o"
open Classical in
noncomputable def per (os:List Int)(p:Int):Nat:=if h:∃ m,jw os p m then Classical.choose h else 0
theorem jw.per {os:List Int}{p:Int}{m:Nat}(h:jw os p m):per os p=m:=by
 have hx:∃ m,jw os p m:=⟨m,h⟩
 unfold L2.per
 rw [dif_pos hx]
 exact (Classical.choose_spec hx).uniq h
noncomputable def itl (os:List Int)(p:Int)(k:Nat):List Int:=(List.range k).map fun i=>itn os i p
theorem W0 (os:List Int)(p:Int)(k:Nat):itl os p (k+1)=itl os p k ++ [itn os k p]:=by
 unfold itl;rw [List.range_succ,List.map_append];rfl
theorem qj (os:List Int)(p:Int)(k:Nat):(itl os p k).length=k:=by simp [itl]
theorem qM {os:List Int}{p:Int}{k:Nat}{x:Int}:x ∈ itl os p k ↔ ∃ i,i<k/\itn os i p=x:=by
 unfold itl
 rw [List.mem_map]
 constructor
 ·rintro ⟨i,hi,e⟩
  exact ⟨i,by simpa using hi,e⟩
 ·rintro ⟨i,hi,e⟩
  exact ⟨i,by simpa using hi,e⟩
noncomputable def zt (os:List Int)(p:Int):List Int:=itl os p (per os p)
noncomputable def Rch (os:List Int)(q x:Int):Prop:=∃ k,itn os k q=x
theorem Rch.refl {os:List Int}{p:Int}:Rch os p p:=⟨0,rfl⟩
theorem Rch.trans {os:List Int}{p q r:Int}(a:Rch os p q)(b:Rch os q r):Rch os p r:=by
 obtain ⟨i,rfl⟩:=a
 obtain ⟨j,rfl⟩:=b
 exact ⟨j+i,jK os p i j⟩
theorem vm {os:List Int}{p:Int}{m:Nat}(h:itn os m p=p):∀ k,itn os (k * m) p=p
 | 0=>by rw [Nat.zero_mul];rfl
 | k+1=>by rw [Nat.succ_mul,Nat.add_comm,jK,vm h k,h]
theorem Ym {os:List Int}{p:Int}{m:Nat}(h:itn os m p=p)(k:Nat):itn os k p=itn os (k % m) p:=by
 have e:k=k % m+(k / m) * m:=by rw [Nat.mul_comm];exact (Nat.mod_add_div k m).symm
 conv=>lhs;rw [e]
 rw [jK,vm h]
theorem Rch.symm {n:Nat}{os:List Int}(h:zd n os){p q:Int}(p0:0<=p)(p1:p<n)(a:Rch os p q):Rch os q p:=by
 obtain ⟨k,rfl⟩:=a
 obtain ⟨M,h1,_,h3⟩:=vf h p0 p1
 refine ⟨(k+1) * M - k,?_⟩
 have hle:k<=(k+1) * M:=Nat.le_trans (Nat.le_succ k) (Nat.le_mul_of_pos_right _ h1)
 rw [<- jK,Nat.sub_add_cancel hle,vm h3]
theorem Rch.mem_ring {os:List Int}{p x:Int}{m:Nat}(h:jw os p m):Rch os p x ↔ x ∈ itl os p m:=by
 rw [qM]
 constructor
 ·rintro ⟨k,rfl⟩
  exact ⟨k % m,Nat.mod_lt _ h.1,(Ym h.2.1 k).symm⟩
 ·rintro ⟨i,_,e⟩
  exact ⟨i,e⟩
noncomputable def qN (os:List Int)(p:Nat):Prop:=∀ q:Nat,q<p->¬ Rch os (q:Int) (p:Int)
open Classical in
noncomputable def zh (os:List Int):Nat->List (List Int)
 | 0=>[]
 | i+1=>zh os i ++ if qN os i/\1<per os (i:Int) then [zt os (i:Int)] else []
noncomputable def qx (os:List Int)(i:Nat)(x:Int):Prop:=∃ q:Nat,q<i/\Rch os (q:Int) x
theorem qx.succ {os:List Int}{i:Nat}{x:Int}:qx os (i+1) x ↔ qx os i x \/ Rch os (i:Int) x:=by
 constructor
 ·rintro ⟨q,hq,r⟩
  by_cases e:q=i
  ·subst e;exact .inr r
  ·exact .inl ⟨q,by walk_at "o",r⟩
 ·rintro (⟨q,hq,r⟩ | r)
  ·exact ⟨q,by walk_at "o",r⟩
  ·exact ⟨i,by walk_at "o",r⟩
theorem jz {os:List Int}{i:Nat}:qN os i ↔ ¬ qx os i (i:Int):=by
 constructor
 ·rintro h ⟨q,hq,r⟩;exact h q hq r
 ·intro h q hq r;exact h ⟨q,hq,r⟩
theorem qx.step {n:Nat}{os:List Int}(h:zd n os){i:Nat}(hi:i<n)(hs:qx os i (i:Int)){x:Int}:qx os (i+1) x ↔ qx os i x:=by
 rw [qx.succ]
 constructor
 ·rintro (z | z)
  ·exact z
  ·obtain ⟨q,hq,r⟩:=hs
   exact ⟨q,hq,r.trans z⟩
 ·exact .inl
theorem qx.apart {n:Nat}{os:List Int}(h:zd n os){i:Nat}(hi:i<n)(hs:¬ qx os i (i:Int)){x:Int}(r:Rch os (i:Int) x):¬ qx os i x:=by
 rintro ⟨q,hq,rq⟩
 exact hs ⟨q,hq,rq.trans (r.symm h (by walk_at "o") (by walk_at "o"))⟩
theorem qz (os:List Int):∀ i,(zh os i).length<=i
 | 0=>Nat.le_refl _
 | i+1=>by
  unfold zh
  rw [List.length_append]
  have:=qz os i
  split <;> simp <;> walk_at "o"
theorem qX {n:Nat}{os:List Int}(h:zd n os){r:List Int}:∀ {i:Nat},i<=n->r ∈ zh os i->1<r.length/\r.length<=n
 | 0,_,hr=>by simp [zh] at hr
 | i+1,hi,hr=>by
  unfold zh at hr
  rcases List.mem_append.mp hr with z | z
  ·exact qX h (by walk_at "o") z
  ·by_cases c:qN os i/\1<per os (i:Int)
   ·rw [if_pos c] at z
    rw [List.mem_singleton.mp z]
    obtain ⟨m,hm,hle⟩:=qT h (p:=(i:Int)) (by walk_at "o") (by walk_at "o")
    unfold zt
    rw [qj]
    have:=hm.per
    walk_at "o"
   ·rw [if_neg c] at z;cases z
noncomputable def Mkd (os:List Int)(mk:Nat):Nat->Int->Prop
 | 0,_=>False
 | i+1,x=>Mkd os mk i x \/ (¬ Mkd os mk i (i:Int)/\wkE os (i:Int)=(i:Int)/\Rch os (i:Int) x/\x<(mk:Int))
theorem Mkd.lt {os:List Int}{mk:Nat}{x:Int}:∀ {i:Nat},Mkd os mk i x->x<(mk:Int)
 | 0,h=>h.elim
 | i+1,h=>by
  rcases h with h | h
  ·exact Mkd.lt h
  ·exact h.2.2.2
open Classical in
noncomputable def cnt (os:List Int)(mk:Nat)(i:Nat):Int:=if Mkd os mk i (i:Int) then 0 else ((wkM os (i:Int):Nat):Int)
noncomputable def xw (os:List Int)(mk k:Nat):List Int:=(List.range k).map fun (i:Nat)=>cnt os mk i
theorem yo (os:List Int)(mk k:Nat):xw os mk (k+1)=xw os mk k ++ [cnt os mk k]:=by
 unfold xw;rw [List.range_succ,List.map_append];rfl
theorem wg (os:List Int)(mk k:Nat):(xw os mk k).length=k:=by simp [xw]
theorem vg {n:Nat}{os:List Int}(h:zd n os){p:Int}(p0:0<=p)(p1:p<n):∃ m e,qF os p m e/\m<=n:=by
 obtain ⟨M,h1,h2,h3⟩:=vf h p0 p1
 obtain ⟨m,⟨m1,m2⟩,m3⟩:=xZ (p:=fun k=>1<=k/\itn os k p<=p) M ⟨h1,by walk_at "o"⟩
 refine ⟨m,_,⟨m1,rfl,m2,fun j j1 jm=>?_⟩,?_⟩
 ·have:=m3 j jm
  rcases (show p<itn os j p \/ itn os j p<=p by walk_at "o") with z | z
  ·exact z
  ·exact absurd ⟨j1,z⟩ this
 ·rcases Nat.lt_or_ge M m with z | z
  ·exact absurd ⟨h1,by walk_at "o"⟩ (m3 M z)
  ·walk_at "o"
theorem qF.per {os:List Int}{p:Int}{m:Nat}{e:Int}(h:qF os p m e)(he:e=p):jw os p m:=
 ⟨h.1,by rw [<- h.2.1];exact he,fun j j1 jm z=>by have:=h.2.2.2 j j1 jm;walk_at "o"⟩
noncomputable def iLT (K:PySem.W.Frag)(tl:TE):TI:=fun σ H R=>tl σ H fun x H1=>∃ a,x=.ref a/\(((∃ xs,SqL K H1 a xs)/\R (Itl K a) H1) \/ ((∃ xs,SqT K H1 a xs)/\R (Itt K a) H1))
theorem jq {X:Cx}{tg:Expr}{l:Expr}{tl:TE}(hl:PE X l tl):PI X tg l (iLT X.K tl):=by
 intro pins s σ H R I h
 refine thn (hl pins s σ H _ I h) fun v s1 ⟨x,H1,I1,r1,q1⟩=>?_
 obtain ⟨a,e,q⟩:=q1
 subst e
 cases r1
 have fo:∀ b ∈ [s1.heap.objs.size],y8 X pins H1 b:=fun b hb=>by
  have e:b=s1.heap.objs.size:=by simpa using hb
  subst e
  exact I1.fpOk (Nat.le_refl _) (I1.hok.fresh (Nat.le_refl _))
 rcases q with ⟨⟨xs,hq⟩,q⟩ | ⟨⟨xs,hq⟩,q⟩
 ·obtain ⟨its,rv,p,hz⟩:=I1.list hq
  refine wpAny_pyIter_list p.isList ?_
  exact ⟨s1.heap.objs.size,[s1.heap.objs.size],_,_,H1,rfl,I1.kept (t':=s1.toks) fun b o e=>Heap.get?_push_of_some _ e,Zi a _,⟨_,Heap.get?_push_size _ rfl,rfl,rfl⟩,fo,q⟩
 ·obtain ⟨its,rv,p,hz⟩:=I1.tuple hq
  refine wpAny_pyIter_tuple (show s1.heap.IsTuple a its.toArray from p) ?_
  exact ⟨s1.heap.objs.size,[s1.heap.objs.size],_,_,H1,rfl,I1.kept (t':=s1.toks) fun b o e=>Heap.get?_push_of_some _ e,K6 a _,⟨_,Heap.get?_push_size _ rfl,rfl,rfl⟩,fo,q⟩
theorem XI {n:Nat}{b:List Int}(hb:zd n b){i:Nat}(hi:i<n):∀ k,(pwl n b k).getD i 0=itn b k (i:Int)
 | 0=>qa n hi
 | k+1=>by
  show (aft (pwl n b k) b).getD i 0=nxt b (itn b k (i:Int))
  rw [qr b (by rw [(jJ hb k).1];exact hi),XI hb hi k]
  rfl
noncomputable def IR (n:Nat)(os:List Int)(many:Int)(rs:List Int):Prop:=∃ bs,zd n bs/\(0<=many->bs=os)/\(many<0->zV os bs)/\rs=pwl n bs many.natAbs
theorem QS {n:Nat}{os bs:List Int}(ho:zd n os)(h:zV os bs){x:Int}(x0:0<=x)(x1:x<n):nxt os (nxt bs x)=x:=by
 obtain ⟨i,hi,e1,e2⟩:=zV.at ho h (j:=x.toNat) (by walk_at "o")
 show os.getD (bs.getD x.toNat 0).toNat 0=x
 rw [e2,Int.toNat_natCast,e1]
 walk_at "o"
theorem JJ {n:Nat}{os bs:List Int}(ho:zd n os)(h:zV os bs){x:Int}(x0:0<=x)(x1:x<n):∀ m,itn os m (itn bs m x)=x
 | 0=>rfl
 | m+1=>by
  have hb:=qc (h.ord ho) x0 x1 m
  rw [jK os _ 1 m]
  show itn os m (nxt os (nxt bs (itn bs m x)))=x
  rw [QS ho h hb.1 hb.2]
  exact JJ ho h x0 x1 m
theorem vG {os:List Int}{q:Nat}(hq:qN os q)(hp:1<per os (q:Int)):∀ {i:Nat},q<i->zt os (q:Int) ∈ zh os i
 | 0,h=>by walk_at "o"
 | i+1,h=>by
  unfold zh
  by_cases e:q=i
  ·subst e
   rw [if_pos ⟨hq,hp⟩]
   simp
  ·exact List.mem_append_left _ (vG hq hp (by walk_at "o"))
theorem ZA {n:Nat}{os:List Int}(h:zd n os){x:Nat}(hx:x<n):(∃ r ∈ zh os n,(x:Int) ∈ r) \/ jw os (x:Int) 1:=by
 obtain ⟨q,⟨q1,q2⟩,q3⟩:=xZ (p:=fun q=>q<n/\Rch os (q:Int) (x:Int)) x ⟨hx,Rch.refl⟩
 have hL:qN os q:=fun q' hq' r=>q3 q' hq' ⟨by walk_at "o",r.trans q2⟩
 obtain ⟨m,hm,_⟩:=qT h (p:=(q:Int)) (by walk_at "o") (by walk_at "o")
 by_cases c:1<m
 ·refine .inl ⟨_,vG hL (by rw [hm.per];exact c) q1,?_⟩
  unfold zt
  rw [hm.per]
  exact (Rch.mem_ring hm).mp q2
 ·have hm1:m=1:=by have:=hm.1;walk_at "o"
  subst hm1
  obtain ⟨i,hi,e⟩:=qM.mp ((Rch.mem_ring hm).mp q2)
  have:i=0:=by walk_at "o"
  subst this
  have e':(q:Int)=(x:Int):=e
  rw [<- e']
  exact .inr hm
section
variable {X:Cx}
theorem Aj:bootBuiltins "sum"=some (.builtin "sum"):=by decide +kernel
theorem vM:∀ {ns:List Int} {us:List Value},zE (ns.map V.int) us->∃ ps:List (Int × Tok),us=ps.map (fun p=>Value.int p.1 p.2)/\ps.map (·.1)=ns
 | [],_,h=>by cases h;exact ⟨[],rfl,rfl⟩
 | n :: ns,_,h=>by
  cases h with
  | cons r rs=>
   obtain ⟨ps,e1,e2⟩:=vM rs
   obtain ⟨t,rfl⟩:=r
   exact ⟨(n,t) :: ps,by rw [e1];rfl,by rw [<- e2];rfl⟩
theorem B9 {ps:List (Int × Tok)}{i:Nat}(h:i<ps.length):numAt ps.toArray i=(ps.map (·.1)).getD i 0:=by
 unfold numAt
 rw [List.getD_eq_getElem?_getD,List.getElem?_map,List.getElem?_toArray]
theorem Z6 {ps:List (Int × Tok)}:∀ k,k<=ps.length->preSum (numAt ps.toArray) k=((ps.map (·.1)).take k).sum
 | 0,_=>rfl
 | k+1,h=>by
  show preSum (numAt ps.toArray) k+numAt ps.toArray k=_
  rw [Z6 k (by walk_at "o"),B9 (by walk_at "o")]
  have hk:k<(ps.map (·.1)).length:=by rw [List.length_map];walk_at "o"
  rw [zN hk,<- List.take_append_getElem hk,List.sum_append]
  simp
theorem Ba:∀ {ns:List Int},(∀ x ∈ ns,0<=x/\x<=(1000000:Int))->0<=ns.sum/\ns.sum<=1000000 * (ns.length:Int)
 | [],_=>by simp
 | n :: ns,h=>by
  have h1:=h n (by simp)
  have h2:=Ba (ns:=ns) fun x hx=>h x (by simp [hx])
  rw [List.sum_cons,List.length_cons]
  walk_at "o"
theorem Zj (hc:X.calm=true):qH X (.builtin "sum") (fun xs H Q=>∃ p ns,xs=[.ref p]/\SqL X.K H p (List.map V.int ns)/\(∀ x ∈ ns,0<=x/\x<=(1000000:Int))/\ns.length<=100000/\Q (.int ns.sum) H):=by
  intro pins s σ H xs us Q I r h
  obtain ⟨p,ns,rfl,hq,hb,hl,q⟩:=h
  obtain ⟨u,rfl,rx⟩:=jF r
  cases rx
  obtain ⟨its,rv,pl,hz⟩:=I.list hq
  obtain ⟨ps,rfl,rfl⟩:=vM rv
  rw [List.length_map] at hl
  have hL:s.heap.IsList p (intItems ps.toArray):=by
    have:=pl.isList
    unfold intItems
    simpa using this
  refine sum_intList (I.ok.hd hc) hL (fun j hj=>?_) fun h' tk t' hk=>?_
  · have hj':j<ps.length:=by simpa using hj
    rw [B9 hj',Z6 (j+1) (by walk_at "o")]
    have hjm:j<(ps.map (·.1)).length:=by rw [List.length_map];exact hj'
    have b1:=hb ((ps.map (·.1)).getD j 0) (by rw [zN hjm];exact List.getElem_mem hjm)
    have b2:=Ba (ns:=(ps.map (·.1)).take (j+1)) fun x hx=>hb x (List.mem_of_mem_take hx)
    rw [List.length_take,List.length_map] at b2
    constructor
    · constructor <;> walk_at "o"
    · constructor <;> walk_at "o"
  · have es : preSum (numAt ps.toArray) ps.toArray.size = (ps.map (·.1)).sum := by
      rw [List.size_toArray,Z6 _ (Nat.le_refl _),List.take_of_length_le (by rw [List.length_map];exact Nat.le_refl _)]
    rw [es]
    exact ⟨.int (ps.map (·.1)).sum,H,I.turnedL (ch:=[]) (tk:=tk) (fun b hb=>nomatch hb) (fun b o _ eb=>hk b o eb),⟨t',rfl⟩,q⟩
end
theorem Fk {K:PySem.W.Frag}{a:Addr}{xs:List V}{g:TG}{tt:TT}{te:TE}{Q:VK}{τ:St}{H1:Hp}(hq:SqL K H1 a xs \/ SqT K H1 a xs)
  (h:∀ D,H1 D=none->∃ Pv:Nat->St->Hp->Prop,Pv 0 τ (upd H1 D (.lst []))/\(∀ i τ H',Pv i τ H'->Kp [] H1 H') /\
   (∀ i x p τ H,xs[i]?=some x->H p=none->Pv i τ H->g (.ref p) τ (upd H p (.tup [.int i,x])) fun τ2 H3=>tt τ2 H3 fun b H4=>if b=true then te τ2 H4 fun v H5=>∃ ys,H5 D=some (.lst ys)/\ys.length<sizeLine/\Pv (i+1) τ2 (upd H5 D (.lst (ys ++ [v]))) else Pv (i+1) τ2 H4) /\
   (∀ τ H,Pv xs.length τ H->Q (.ref D) H)) :
  ((∃ xs,SqL K H1 a xs)/\∀ D,H1 D=none->J5 (Ite K a) g tt te D Q τ (upd H1 D (.lst []))) \/ ((∃ xs,SqT K H1 a xs)/\∀ D,H1 D=none->J5 (D0 K a) g tt te D Q τ (upd H1 D (.lst []))):=by
 rcases hq with hq | hq
 ·refine .inl ⟨⟨_,hq⟩,fun D hD=>?_⟩
  obtain ⟨Pv,h0,hl,hs,hd⟩:=h D hD
  exact En Pv h0 (fun i τ H' _ p=>A5 hq (hl i τ H' p)) hs hd
 ·refine .inr ⟨⟨_,hq⟩,fun D hD=>?_⟩
  obtain ⟨Pv,h0,hl,hs,hd⟩:=h D hD
  refine ⟨fun i m τ H=>m=xs.length - i/\i<=xs.length/\Pv i τ H,⟨xs.length,by simp,Nat.zero_le _,h0⟩,?_⟩
  rintro i m τ H ⟨rfl,hi,p⟩
  have q:=WN hq (hl i τ H p)
  by_cases hlt:i<xs.length
  ·refine .inr ⟨⟨xs,xs[i],q,by simp [hlt]⟩,Pv (i+1),fun σ' H' p'=>⟨xs.length - (i+1),by walk_at "o",rfl,hlt,p'⟩,fun x H' y=>?_⟩
   obtain ⟨pp,x',hp,rfl,y,rfl⟩:=y
   exact hs i x' pp τ _ (y xs q) hp p
  ·have e:i=xs.length:=by walk_at "o"
   subst e
   exact .inl ⟨⟨xs,q,Nat.le_refl _⟩,hd τ H p⟩
section
variable {X:Cx}
end
theorem VS {X:Cx}:MtR X "list.extend" vq:=VG
section
variable {prog:Program}{w:World}{A:Around}{R:Result->Shared->Prop}{s:Shared}
end
noncomputable def CL (J:It)(g:TG)(tt:TT)(tr:St->Hp->(St->Hp->Prop)->Prop)(N:St->Hp->Prop)(σ:St)(H:Hp):Prop:=∃ W:Nat->Nat->St->Hp->Prop,(∃ m,W 0 m σ H)/\∀ i m τ H2,W i m τ H2 ->
 (J.stop i H2/\N τ H2) \/ (J.go i H2/\∃ N1:St->Hp->Prop,(∀ τ' H',N1 τ' H'->∃ m',m'<m/\W (i+1) m' τ' H')/\∀ x H',J.yld i H2 x H'->g x τ H' fun τ2 H3=>tt τ2 H3 fun b H4=>
  if b=true then tr τ2 H4 N1 else N1 τ2 H4)
noncomputable abbrev TR:=St->Hp->(St->Hp->Prop)->Prop
noncomputable def Xn (te:TE)(D:Addr):TR:=fun σ H N=>te σ H fun v H5=>∃ ys,H5 D=some (.lst ys)/\ys.length<sizeLine/\N σ (upd H5 D (.lst (ys ++ [v])))
noncomputable def Gn (wi:TI)(g:TG)(tt:TT)(tr:Addr->TR)(D:Addr):TR:=fun σ H N=>wi σ H fun J H1=>CL J g tt (tr D) N σ H1
section
variable {C:Cx}{elt tg iter:Expr}{ifs:List Expr}{gens:List Comprehension}{scope:Scope}{pos:Pos}{d:Nat}{D:Addr}{g:TG}{tt:TT}{te:TE}{tr:TR}
end
noncomputable def Dy (ts:List Nat)(wi:TI)(g:TG)(tt:TT)(tr:Addr->TR):TE:=fun σ H Q=>wi σ H fun J H1=>∀ D,H1 D=none->CL J g tt (tr D) (fun _ H2=>Q (.ref D) H2) (clr ts σ) (upd H1 D (.lst []))
section
variable {X:Cx}{ts:List Nat}{scope:Scope}{tg iter elt:Expr}{ifs:List Expr}{zF:List Comprehension}{wi:TI}{g:TG}{tt:TT}{tr:Addr->TR}{pos:Pos}
end
theorem V1 {ts:List Nat}{wi:TI}{g:TG}{tt:TT}{tr:Addr->TR}{σ:St}{H:Hp}{Q:VK} :
  Dy ts wi g tt tr σ H Q=wi σ H (fun J H1=>∀ D,H1 D=none->CL J g tt (tr D) (fun _ H2=>Q (.ref D) H2) (clr ts σ) (upd H1 D (.lst []))):=rfl
theorem Vy {wi:TI}{g:TG}{tt:TT}{tr:Addr->TR}{D:Addr}{σ:St}{H:Hp}{N:St->Hp->Prop}:Gn wi g tt tr D σ H N=wi σ H (fun J H1=>CL J g tt (tr D) N σ H1):=rfl
theorem Vc {te:TE}{D:Addr}{σ:St}{H:Hp}{N:St->Hp->Prop}:Xn te D σ H N=te σ H (fun v H5=>∃ ys,H5 D=some (.lst ys)/\ys.length<sizeLine/\N σ (upd H5 D (.lst (ys ++ [v])))):=rfl
section
variable {P:Program}{w:World}{A:Around}{E:Value->Shared->Prop}{it l:Addr}{items:Array Value}
end
section
variable {X:Cx}{pos:Pos}
end
noncomputable def rep (o:Nat)(G:List Int):List Int:=(List.range (o * G.length)).map fun (i:Nat)=>((i / G.length * G.length:Nat):Int)+G.getD (i % G.length) 0
section
variable {P:Program}{w:World}{A:Around}{E:Value->Shared->Prop}{s:Shared}{z TI TO i1 i2 l1 l2:Addr}{k:Nat}{xs ys:Array Value}{x y a b:Value}{Q:Option Value->Shared->Prop}
end
open AutoSeq1 (wpAny_loadPart') in
section
variable {X:Cx}{es:List Expr}{kt:Nat}{tp:Pos}
end
noncomputable def slV (xs:List V)(lo hi st:Option Int):List V:=(sliceRange (sliceBounds lo hi st xs.length).1 (sliceBounds lo hi st xs.length).2.1 (sliceBounds lo hi st xs.length).2.2).filterMap fun k=>xs[k]?
theorem wN {xs:List V}{us:List Value}(r:zE xs us):∀ ks:List Nat,zE (ks.filterMap fun k=>xs[k]?) (ks.filterMap fun k=>us[k]?)
 | []=>.nil
 | k :: ks=>by
  have ih:=wN r ks
  have hl:=r.length
  by_cases h:k<xs.length
  ·have e1:xs[k]?=some xs[k]:=List.getElem?_eq_getElem h
   obtain ⟨u,hu,ru⟩:=r.get e1
   rw [List.filterMap_cons_some e1,List.filterMap_cons_some hu]
   exact .cons ru ih
  ·have e1:xs[k]?=none:=List.getElem?_eq_none (by walk_at "o")
   have e2:us[k]?=none:=List.getElem?_eq_none (by walk_at "o")
   rw [List.filterMap_cons_none e1,List.filterMap_cons_none e2]
   exact ih
noncomputable def Lb (K:PySem.W.Frag):V->Option Int->Option Int->Option Int->Hp->VK->Prop:=fun x lo hi st H Q=>∃ a xs,x=.ref a/\SqL K H a xs/\st ≠ some 0/\∀ p,H p=none->Q (.ref p) (upd H p (.lst (slV xs lo hi st)))
noncomputable def F6 (K:PySem.W.Frag)(te:TE)(tl th ts:TO):TE:=fun σ H Q=>te σ H fun x H1=>tl σ H1 fun l H2=>th σ H2 fun u H3=>ts σ H3 fun z H4=>Lb K x l u z H4 Q
section
variable {X:Cx}{e st:Expr}{te:TE}{lo hi:Option Expr}{tl th ts:TO}{p2 pos:Pos}
theorem VX (he:PE X e te)(hl:PO X lo tl)(hu:PO X hi th)(hst:PO X (some st) ts):PE X (.Subscript e (.Slice lo hi (some st) p2) pos) (F6 X.K te tl th ts):=by
 intro pins s σ H Q I h
 refine Subscript_ (thn (he pins s σ H _ I h) fun v s1 ⟨x,H1,I1,r1,q1⟩=>?_)
 refine wpAny_Slice (thn (hl pins s1 σ H1 _ I1 q1) fun vl s2 ⟨l,H2,I2,pl,q2⟩=>thn (hu pins s2 σ H2 _ I2 q2) fun vu s3 ⟨u,H3,I3,pu,q3⟩=>thn (hst pins s3 σ H3 _ I3 q3) fun vs s4 ⟨z,H4,I4,pz,q4⟩=>?_)
 have I5:Inv X pins σ H4 { s4 with heap:=s4.heap.push { cls:=.type "slice",data:=.fields #[vl,vu,vs] } }:=I4.kept (t':=s4.toks) fun b ob q=>Heap.get?_push_of_some _ q
 obtain ⟨a,xs,rfl,hx,hz0,q⟩:=q4
 cases r1
 obtain ⟨its,r,ht,hz⟩:=I5.list hx
 have hlen:=r.length
 show wpAny (model X.prog X.w) X.A (subscriptTail e (.Slice lo hi (some st) p2) (.ref a) (.ref s4.heap.objs.size)) (EP X pins σ Q) X.xe { s4 with heap:=s4.heap.push { cls:=.type "slice",data:=.fields #[vl,vu,vs] } }
 refine tail_any (ops:=[.ref a,.ref s4.heap.objs.size]) ht.isList.typeIs slot_list_getitem.lookup ?_ rfl
 refine wpAny_getItem_list_slice ht.isList (Heap.IsSliceOf.new ..) pl pu pz hz0 ?_ (by rw [List.size_toArray];walk_at "o")
 have e1:slicePick its.toArray l u z=(List.filterMap (fun x=>its[x]?) (sliceRange (sliceBounds l u z xs.length).1 (sliceBounds l u z xs.length).2.1 (sliceBounds l u z xs.length).2.2)).toArray:=by
  unfold slicePick
  rw [List.size_toArray,<- hlen]
  simp only [List.getElem?_toArray]
 have hsz:=slicePick_size_le its.toArray l u z
 rw [e1] at hsz ⊢
 have rr:=wN r (sliceRange (sliceBounds l u z xs.length).1 (sliceBounds l u z xs.length).2.1 (sliceBounds l u z xs.length).2.2)
 have hl2:=rr.length
 refine ⟨.ref _,_,I5.laid (t':=s4.toks) (o:=.lst (slV xs l u z)) (fun b ob q=>Heap.get?_push_of_some _ q) (Nat.le_refl _) ?_,rfl,q _ (I5.hok.fresh (Nat.le_refl _))⟩
 refine ⟨?_,_,0,rr,Heap.get?_push_size _ rfl⟩
 rw [List.size_toArray,List.size_toArray] at hsz
 show (slV xs l u z).length<=_
 unfold slV
 walk_at "o"
end
theorem Ws (xs:List V):slV xs none (some 0) (some (-1))=(xs.drop 1).reverse:=by
 have hb:sliceBounds none (some 0) (some (-1)) xs.length=((xs.length:Int) - 1,max (-1) (min 0 ((xs.length:Int) - 1)),-1):=rfl
 unfold slV
 rw [hb]
 have key:∀ n,n=xs.length->sliceRange ((n:Int) - 1) (max (-1) (min 0 ((n:Int) - 1))) (-1)=(List.range (n - 1)).map fun k=>n - 1 - k:=by
  intro n _
  unfold sliceRange
  dsimp only
  rw [if_neg (by decide)]
  have hc:((if (n:Int) - 1 > max (-1) (min 0 ((n:Int) - 1)) then ((n:Int) - 1 - max (-1) (min 0 ((n:Int) - 1)) - -1 - 1) / - -1 else 0).toNat)=n - 1:=by
   rcases Nat.eq_zero_or_pos n with z | z
   ·subst z;decide
   ·have e:max (-1) (min 0 ((n:Int) - 1))=0:=by walk_at "o"
    rw [e]
    split
    ·rw [show - -(1:Int)=1 from rfl,Int.ediv_one];walk_at "o"
    ·walk_at "o"
  rw [hc]
  refine List.map_congr_left fun k hk=>?_
  have:k<n - 1:=by simpa using hk
  walk_at "o"
 show List.filterMap (fun k=>xs[k]?) (sliceRange ((xs.length:Int) - 1) (max (-1) (min 0 ((xs.length:Int) - 1))) (-1))=_
 rw [key xs.length rfl,List.filterMap_map]
 refine List.ext_getElem? fun i=>?_
 have hall:∀ k,k<xs.length - 1->((fun k=>xs[k]?) ∘ fun k=>xs.length - 1 - k) k=some (xs.getD (xs.length - 1 - k) .non):=fun k hk=>by
  show xs[xs.length - 1 - k]?=_
  rw [List.getD_eq_getElem?_getD,List.getElem?_eq_getElem (by walk_at "o")];rfl
 have hfm:List.filterMap ((fun k=>xs[k]?) ∘ fun k=>xs.length - 1 - k) (List.range (xs.length - 1))=(List.range (xs.length - 1)).map fun k=>xs.getD (xs.length - 1 - k) .non:=by
  have go:∀ (ks:List Nat),(∀ k ∈ ks,k<xs.length - 1)->List.filterMap ((fun k=>xs[k]?) ∘ fun k=>xs.length - 1 - k) ks=ks.map fun k=>xs.getD (xs.length - 1 - k) .non:=by
   intro ks
   induction ks with
   | nil=>intro _;rfl
   | cons k ks ih=>
    intro hk
    rw [List.filterMap_cons_some (hall k (hk k (by simp))),ih fun j hj=>hk j (by simp [hj])];rfl
  exact go _ fun k hk=>by simpa using hk
 rw [hfm,List.getElem?_map]
 by_cases h:i<xs.length - 1
 ·rw [List.getElem?_range h,List.getElem?_reverse (by rw [List.length_drop];walk_at "o"),List.getElem?_drop,List.length_drop]
  show some (xs.getD (xs.length - 1 - i) .non)=xs[1+(xs.length - 1 - 1 - i)]?
  rw [List.getD_eq_getElem?_getD,show 1+(xs.length - 1 - 1 - i)=xs.length - 1 - i by walk_at "o",List.getElem?_eq_getElem (by walk_at "o")];rfl
 ·rw [List.getElem?_eq_none (by rw [List.length_range];walk_at "o"),List.getElem?_eq_none (by rw [List.length_reverse,List.length_drop];walk_at "o")];rfl
theorem kF {α:Type}(p q:α->Bool):∀ (l:List α),(∀ x ∈ l,¬ (p x=true/\q x=true))->l.countP (fun x=>p x || q x)=l.countP p+l.countP q
 | [],_=>rfl
 | x :: l,h=>by
  have ih:=kF p q l fun y hy=>h y (by simp [hy])
  have hx:=h x (by simp)
  rw [List.countP_cons,List.countP_cons,List.countP_cons,ih]
  cases hp:p x <;> cases hq:q x
  ·simp
  ·simp;walk_at "o"
  ·simp;walk_at "o"
  ·exact absurd ⟨hp,hq⟩ hx
theorem K1 (n y:Nat)(h:y<n):(List.range n).countP (fun x=>decide (x=y))=1:=by
 induction n with
 | zero=>walk_at "o"
 | succ n ih=>
  rw [List.range_succ,List.countP_append]
  by_cases e:y=n
  ·subst e
   have:(List.range y).countP (fun x=>decide (x=y))=0:=by
    rw [List.countP_eq_zero]
    intro x hx
    have:x<y:=by simpa using hx
    simp;walk_at "o"
   rw [this];simp
  ·rw [ih (by walk_at "o")]
   have:¬ n=y:=fun z=>e z.symm
   simp [this]
theorem wl (n:Nat):∀ (R:List Nat),R.Nodup->(∀ x ∈ R,x<n)->(List.range n).countP (fun x=>decide (x ∈ R))=R.length
 | [],_,_=>by simp
 | y :: R,nd,hb=>by
  have hy:=List.nodup_cons.mp nd
  have e:(fun x=>decide (x ∈ y :: R))=fun x=>decide (x=y) || decide (x ∈ R):=by
   funext x
   rw [Bool.eq_iff_iff]
   simp
  rw [e,kF,K1 n y (hb y (by simp)),wl n R hy.2 fun x hx=>hb x (by simp [hx]),List.length_cons,Nat.add_comm]
  intro x _ ⟨h1,h2⟩
  have h1':x=y:=by simpa using h1
  subst h1'
  exact hy.1 (by simpa using h2)
theorem ZC {n:Nat}{os:List Int}(h:zd n os){i:Nat}(hi:i<n):1<per os (i:Int) ↔ ¬ os.getD i 0=(i:Int):=by
 obtain ⟨M,hM,hMn⟩:=qT h (p:=(i:Int)) (by walk_at "o") (by walk_at "o")
 rw [hM.per]
 have e1:itn os 1 (i:Int)=os.getD i 0:=by
  show os.getD ((i:Int)).toNat 0=_
  rw [Int.toNat_natCast]
 constructor
 ·intro z e
  exact hM.2.2 1 (Nat.le_refl _) z (by rw [e1,e])
 ·intro z
  rcases Nat.lt_or_ge 1 M with y | y
  ·exact y
  ·have:M=1:=by have:=hM.1;walk_at "o"
   rw [this] at hM
   exact absurd (by rw [<- e1,hM.2.1]) z
theorem Zw {n:Nat}{os:List Int}(h:zd n os){p:Int}(p0:0<=p)(p1:p<n){M:Nat}(hM:jw os p M):(itl os p M).Nodup:=by
 rw [List.nodup_iff_pairwise_ne,List.pairwise_iff_getElem]
 intro i j hi hj hij e
 rw [qj] at hi hj
 have e':itn os i p=itn os j p:=by
  have e1:(itl os p M)[i]'(by rw [qj];exact hi)=itn os i p:=by simp [itl]
  have e2:(itl os p M)[j]'(by rw [qj];exact hj)=itn os j p:=by simp [itl]
  rw [<- e1,<- e2];exact e
 have b:=qc h p0 p1 (j - i)
 have e2:itn os (j - i) p=p:=by
  refine (Qk h p0 p1 b.1 b.2 i ?_).symm
  rw [<- jK,show i+(j - i)=j by walk_at "o"]
  exact e'
 exact hM.2.2 (j - i) (by walk_at "o") (by walk_at "o") e2
theorem K9 {n:Nat}{os:List Int}(h:zd n os){i x:Nat}(hi:i<n)(hx:x<n)(hp:1<per os (i:Int))(r:Rch os (i:Int) (x:Int)):¬ os.getD x 0=(x:Int):=by
 intro e
 have r2:=r.symm h (by walk_at "o") (by walk_at "o")
 obtain ⟨k,hk⟩:=r2
 have hfix:∀ k,itn os k (x:Int)=(x:Int):=by
  intro k
  induction k with
  | zero=>rfl
  | succ k ih=>
   show nxt os (itn os k (x:Int))=_
   rw [ih]
   show os.getD ((x:Int)).toNat 0=_
   rw [Int.toNat_natCast,e]
 rw [hfix k] at hk
 have:x=i:=by walk_at "o"
 subst this
 exact (ZC h hi).mp hp e
open Classical in
noncomputable def wD (os:List Int)(n i:Nat):Nat:=(List.range n).countP fun (x:Nat)=>decide (qx os i (x:Int)/\¬ os.getD x 0=(x:Int))
noncomputable def kC (rs:List (List Int)):Nat:=(rs.map List.length).sum
theorem Jp (a b:List (List Int)):kC (a ++ b)=kC a+kC b:=by unfold kC;rw [List.map_append,List.sum_append]
open Classical in
theorem we {n:Nat}{os:List Int}(h:zd n os):∀ i,i<=n->kC (zh os i)=wD os n i
 | 0,_=>by
  unfold wD
  have:(List.range n).countP (fun (x:Nat)=>decide (qx os 0 (x:Int)/\¬ os.getD x 0=(x:Int)))=0:=by
   rw [List.countP_eq_zero]
   intro x _ hx
   have:=(of_decide_eq_true hx).1
   obtain ⟨q,hq,_⟩:=this
   walk_at "o"
  rw [this];rfl
 | i+1,hi=>by
  have ih:=we h i (by walk_at "o")
  show kC (zh os i ++ _)=_
  rw [Jp,ih]
  obtain ⟨M,hM,hMn⟩:=qT h (p:=(i:Int)) (by walk_at "o") (by walk_at "o")
  by_cases hL:qN os i
  ·have hns:=jz.mp hL
   by_cases hp:1<per os (i:Int)
   ·rw [if_pos ⟨hL,hp⟩]
    have e:(fun x:Nat=>decide (qx os (i+1) (x:Int)/\¬ os.getD x 0=(x:Int)))=fun x:Nat=>decide (qx os i (x:Int)/\¬ os.getD x 0=(x:Int)) || decide (Rch os (i:Int) (x:Int)/\¬ os.getD x 0=(x:Int)):=by
     funext x
     rw [Bool.eq_iff_iff,Bool.or_eq_true,decide_eq_true_eq,decide_eq_true_eq,decide_eq_true_eq,qx.succ]
     constructor
     ·rintro ⟨a | a,b⟩
      ·exact .inl ⟨a,b⟩
      ·exact .inr ⟨a,b⟩
     ·rintro (⟨a,b⟩ | ⟨a,b⟩)
      ·exact ⟨.inl a,b⟩
      ·exact ⟨.inr a,b⟩
    unfold wD
    rw [e,kF]
    ·congr 1
     have e2:(List.range n).countP (fun x:Nat=>decide (Rch os (i:Int) (x:Int)/\¬ os.getD x 0=(x:Int)))=(List.range n).countP (fun x:Nat=>decide (x ∈ (itl os (i:Int) M).map Int.toNat)):=by
      refine List.countP_congr fun x hx=>?_
      have hx':x<n:=by simpa using hx
      rw [decide_eq_true_eq,decide_eq_true_eq,List.mem_map]
      constructor
      ·rintro ⟨r,_⟩
       exact ⟨(x:Int),(Rch.mem_ring hM).mp r,by simp⟩
      ·rintro ⟨y,hy,e⟩
       obtain ⟨k,hk,ek⟩:=qM.mp hy
       have b:=qc h (p:=(i:Int)) (by walk_at "o") (by walk_at "o") k
       have hyx:y=(x:Int):=by walk_at "o"
       rw [hyx] at hy
       have r:=(Rch.mem_ring hM).mpr hy
       exact ⟨r,K9 h (by walk_at "o") hx' hp r⟩
     have hnd:=Zw h (p:=(i:Int)) (by walk_at "o") (by walk_at "o") hM
     rw [e2,wl]
     ·rw [List.length_map,qj]
      unfold kC zt
      rw [hM.per]
      simp [qj]
     ·rw [List.nodup_iff_pairwise_ne,List.pairwise_map]
      refine List.Pairwise.imp_of_mem (fun {a b} ha hb hab e=>?_) (List.nodup_iff_pairwise_ne.mp hnd)
      obtain ⟨k1,_,e1⟩:=qM.mp ha
      obtain ⟨k2,_,e2⟩:=qM.mp hb
      have b1:=qc h (p:=(i:Int)) (by walk_at "o") (by walk_at "o") k1
      have b2:=qc h (p:=(i:Int)) (by walk_at "o") (by walk_at "o") k2
      exact hab (by walk_at "o")
     ·intro x hx
      obtain ⟨y,hy,e⟩:=List.mem_map.mp hx
      obtain ⟨k,hk,ek⟩:=qM.mp hy
      have b:=qc h (p:=(i:Int)) (by walk_at "o") (by walk_at "o") k
      walk_at "o"
    ·intro x _ ⟨h1,h2⟩
     exact qx.apart h (by walk_at "o") hns (of_decide_eq_true h2).1 (of_decide_eq_true h1).1
   ·rw [if_neg (fun z=>hp z.2)]
    have e:wD os n (i+1)=wD os n i:=by
     unfold wD
     refine List.countP_congr fun x hx=>?_
     have hx':x<n:=by simpa using hx
     rw [decide_eq_true_eq,decide_eq_true_eq,qx.succ]
     have hfix:os.getD i 0=(i:Int):=Classical.byContradiction fun z=>hp ((ZC h (by walk_at "o")).mpr z)
     constructor
     ·rintro ⟨a | a,b⟩
      ·exact ⟨a,b⟩
      ·exfalso
       obtain ⟨k,hk⟩:=a
       have hstay:∀ k,itn os k (i:Int)=(i:Int):=by
        intro k
        induction k with
        | zero=>rfl
        | succ k ih=>
         show nxt os (itn os k (i:Int))=_
         rw [ih]
         show os.getD ((i:Int)).toNat 0=_
         rw [Int.toNat_natCast,hfix]
       rw [hstay k] at hk
       have:i=x:=by walk_at "o"
       subst this
       exact b hfix
     ·rintro ⟨a,b⟩
      exact ⟨.inl a,b⟩
    rw [e]
    rfl
  ·rw [if_neg (fun z=>hL z.1)]
   have hs:qx os i (i:Int):=Classical.byContradiction fun z=>hL (jz.mpr z)
   have e:wD os n (i+1)=wD os n i:=by
    unfold wD
    refine List.countP_congr fun x hx=>?_
    rw [decide_eq_true_eq,decide_eq_true_eq,qx.step h (by walk_at "o") hs]
   rw [e]
   rfl
open Classical in
theorem Kb {n:Nat}{os:List Int}(h:zd n os):kC (zh os n)=xv os n:=by
 rw [we h n (Nat.le_refl n)]
 unfold wD xv
 rw [List.countP_eq_length_filter]
 congr 1
 refine List.filter_congr fun x hx=>?_
 have hx':x<n:=by simpa using hx
 rw [Bool.eq_iff_iff]
 constructor
 ·intro z
  have:=(of_decide_eq_true z).2
  simpa using this
 ·intro z
  have z':¬ os.getD x 0=(x:Int):=by simpa using z
  exact decide_eq_true ⟨⟨x,hx',Rch.refl⟩,z'⟩
theorem zV.symm {n:Nat}{os bs:List Int}(ho:zd n os)(h:zV os bs):zV bs os:=by
 refine ⟨h.1.symm,fun j hj=>?_⟩
 rw [h.1,ho.1] at hj
 have:=QS ho h (x:=(j:Int)) (by walk_at "o") (by walk_at "o")
 have e:nxt os (nxt bs (j:Int))=os.getD (bs.getD ((j:Int)).toNat 0).toNat 0:=rfl
 rw [e,Int.toNat_natCast] at this
 exact this
theorem Ja {n:Nat}{os bs:List Int}(ho:zd n os)(h:zV os bs){p x:Int}(p0:0<=p)(p1:p<n)(r:Rch bs p x):Rch os p x:=by
 obtain ⟨k,rfl⟩:=r
 have b:=qc (h.ord ho) p0 p1 k
 have r2:Rch os (itn bs k p) p:=⟨k,JJ ho h p0 p1 k⟩
 exact r2.symm ho b.1 b.2
theorem Vu {n:Nat}{os bs:List Int}(ho:zd n os)(h:zV os bs){i:Nat}(hi:i<n):qN bs i ↔ qN os i:=by
 have hb:=h.ord ho
 have hs:=h.symm ho
 constructor
 ·intro z q hq r
  exact z q hq (Ja hb hs (by walk_at "o") (by walk_at "o") r)
 ·intro z q hq r
  exact z q hq (Ja ho h (by walk_at "o") (by walk_at "o") r)
theorem WG {n:Nat}{os bs:List Int}(ho:zd n os)(h:zV os bs){i:Nat}(hi:i<n):bs.getD i 0=(i:Int) ↔ os.getD i 0=(i:Int):=by
 have h1:=h.2 i (by rw [ho.1];exact hi)
 have h2:=(h.symm ho).2 i (by rw [h.1,ho.1];exact hi)
 constructor
 ·intro e;rw [e,Int.toNat_natCast] at h2;exact h2
 ·intro e;rw [e,Int.toNat_natCast] at h1;exact h1
section
variable {X:Cx}
variable {o e:Expr}{es:List Expr}{to:TE}{t:TA}{name:Str}{apos cpos:Pos}{T id:String}{r:V->List V->Hp->VK->Prop}{K:PySem.W.Frag}
end
section
variable {X:Cx}{tg:Expr}
end
inductive Dd where
 | take (p:Nat) | move (p g:Nat) | lay (g:Nat)
noncomputable abbrev RS:=List (Option Int) × Option Int × List Int
noncomputable def inc (mv:List Int)(x:Int):List Int:=mv.set x.toNat (mv.getD x.toNat 0+1)
inductive Do:Dd->RS->RS->Prop
 | take {p:Nat} {row:List (Option Int)} {mv:List Int} {x:Int}:row[p]?=some (some x)->Do (.take p) (row,none,mv) (row.set p none,some x,inc mv x)
 | move {p g:Nat} {row:List (Option Int)} {h:Option Int} {mv:List Int} {x:Int}:row[p]?=some (some x)->row[g]?=some none->Do (.move p g) (row,h,mv) ((row.set p none).set g (some x),h,inc mv x)
 | lay {g:Nat} {row:List (Option Int)} {mv:List Int} {x:Int}:row[g]?=some none->Do (.lay g) (row,some x,mv) (row.set g (some x),none,inc mv x)
inductive Dos:List Dd->RS->RS->Prop
 | nil {s:RS}:Dos [] s s
 | cons {d:Dd} {l:List Dd} {s t u:RS}:Do d s t->Dos l t u->Dos (d :: l) s u
noncomputable def mvP:Nat->List Nat->List Dd
 | _,[]=>[]
 | g,p :: ps=>.move p g :: mvP p ps
noncomputable def jo (c:List Nat):List Dd:=.take (c.getD 0 0) :: mvP (c.getD 0 0) (c.drop 1).reverse ++ [.lay ((c.drop 1).reverse.getLastD (c.getD 0 0))]
noncomputable def jx (os:List Int)(i:Nat):List Dd:=((zh os i).map fun r=>jo (r.map Int.toNat)).flatten
section
variable {X:Cx}{K:PySem.W.Frag}
end
section
variable {X:Cx}
end
section
variable {X:Cx}
end
section
variable {X:Cx}{e st:Expr}{te:TE}{ts:TO}{p2 pos:Pos}
end
section
variable {X:Cx}
end
noncomputable def AtM (K:PySem.W.Frag)(C:Addr)(m qual:Str)(st:Stmt):Prop:=∃ f fd,Fun K m qual st f fd/\LC K C m f
section
variable {X:Cx}{k:Nat}{C:Addr}{m x:Str}{ps:List Str}{sp:Sp}{p pos apos:Pos}{o e:Expr}{es:List Expr}{t:TA}{to:TE}
end
structure KD (K:PySem.W.Frag)(w:World)(a:Addr)(kvs:List (Key × V)):Prop where
 ex:∃ es ep,K.lookup a=some ⟨.type "dict",none,.dict es ep,#[]⟩/\∀ P:Program,PySem.KeysOf (vi P w) es/\∃ vs,KV kvs vs/\Pairs (vi P w) es.toList vs/\(vs.map (·.1)).Nodup
 ns:(a == sysModules)=false
section
variable {X:Cx}{e:Expr}{ty:TE}{p apos cpos:Pos}{x:Str}{a:Addr}{kvs:List (Key × V)}
end
section
variable {X:Cx}
end
theorem Lx {K:PySem.W.Frag}{C f:Addr}{m qual:Str}{st:Stmt}{oc kV dc pm cd ct:Value}{od an:Option Addr}{sl:Array (Option Value)}(a1:PySem.W.findIn K (.ref C) m=some (some (.ref f)))(i1:PySem.W.isFn K (.ref f)=true)
  (l1:K.lookup f=some ⟨oc,od,.func (PySem.W.fnOf m qual (jc st) (qp st) (zi st) .none kV dc pm an cd ct),sl⟩) (c1:PySem.W.codeIn K cd qual=true) (k1:PySem.W.keepIn K (.ref f)=true):AtM K C m qual st:=⟨f,_,Bs l1 c1 k1,⟨a1,i1,k1⟩⟩
section
variable {X:Cx}
noncomputable def Xs:V->List V->Hp->VK->Prop:=fun x vs H Q=>∃ l xs v,x=.ref l/\vs=[v]/\H l=some (.lst xs)/\xs.all xF=true/\xF v=true/\Q (.int ((xs.countP fun y=>eqV y v:Nat))) H
theorem wQ {x:V}:∀ {xs:List V} {us:List Value},zE xs us->xs.all xF=true->us.countP (eqU x)=xs.countP fun y=>eqV y x
 | _,_,.nil,_=>rfl
 | y :: xs,u :: us,.cons r t,f=>by
  rw [List.all_cons,Bool.and_eq_true] at f
  rw [List.countP_cons,List.countP_cons,wQ t f.2,Bi r f.1]
theorem AY:MtR X "list.count" Xs:=by
 intro pins s σ H x vs v us Q I rx rv h
 obtain ⟨l,xs,i,rfl,rfl,hH,hf,hi,q⟩:=h
 cases rx
 obtain ⟨u,rfl,ru⟩:=rv.one
 obtain ⟨z,its,n,r,hl,e⟩:=I.lstM hH
 refine call_meets F.slot_list_count ⟨_,e,rfl⟩ F.entry_list_count (F.args_list_count_2 _ _) (SeqAt.list_countAt l its.toArray n none _ u (eqU i)) ⟨e,?_,?_⟩
 ·intro y hy
  exact JM ru hi r hf y (by simpa using hy)
 ·refine ⟨.int ((xs.countP fun y=>eqV y i:Nat)),H,I.kept (t':=s.toks+1) fun b o e=>e,⟨s.toks,?_⟩,q⟩
  show Value.int ((its.countP (eqU i):Nat):Int) s.toks=_
  rw [wQ r hf]
end
structure ScG (X:Cx)(ts:List Nat)(scope:Scope):Prop where
 kind:scope.kind=.function
 cell:∀ y ∈ scope.names,y.2=.cell->scope.names.lookup y.1=some .cell
 loc:∀ y ∈ scope.names,y.2=.local->scope.names.lookup y.1=some .local
 free:∀ y ∈ scope.names,y.2=.free->X.env.kindOf y.1=some .cell \/ X.env.kindOf y.1=some .free
 ts:∀ (i:Nat) x,X.N[i]?=some x->scope.names.lookup x=some .local \/ scope.names.lookup x=some .cell->i ∈ ts
section
variable {X:Cx}{ts:List Nat}{scope:Scope}{pins:List (Addr × Obj)}{σ:St}{H:Hp}{s:Shared}{fp:List Addr}
end
section
variable {X:Cx}{ts:List Nat}{scope:Scope}{tg iter elt:Expr}{ifs:List Expr}{wi:TI}{g:TG}{tt:TT}{te:TE}{pos:Pos}
end
section
variable {X:Cx}
end
inductive Dat where
 | non | bl (b:Bool) | int (i:Int) | str (x:Str) | ty (n:String) | lst (l:List Dat) | tup (l:List Dat) | rng (lo hi c:Int) | scr (K:PySem.W.Frag) (l:List Int)
inductive AV where
 | d (x:Dat) | ref (a:Addr)
inductive MO where
 | lst (l:List AV) | dK (kvs:List (Key × AV)) | ins (C:Addr) (fs:List (Str × AV)) | exc (C:Addr) (fs:List (Str × V))
noncomputable def LI (a C:Addr)(d:Option Addr):HO:=.ext fun h=>∃ o,h.get? a=some o/\o.cls=.ref C/\o.dict=d/\∃ vs,o.data=.fields vs
noncomputable abbrev MH:=Addr->Option MO
noncomputable abbrev ASt:=List (Option AV)
noncomputable def mup (M:MH)(a:Addr)(o:MO):MH:=fun b=>if b=a then some o else M b
noncomputable def mdel (M:MH)(a:Addr):MH:=fun b=>if b=a then none else M b
theorem zm {M:MH}{a:Addr}{o:MO}:mup M a o a=some o:=if_pos rfl
theorem zI {M:MH}{a b:Addr}{o:MO}(h:b ≠ a):mup M a o b=M b:=if_neg h
theorem yw {M:MH}{a:Addr}:mdel M a a=none:=if_pos rfl
theorem ja {M:MH}{a b:Addr}(h:b ≠ a):mdel M a b=M b:=if_neg h
theorem vo {M:MH}{a:Addr}{o u:MO}:mup (mup M a o) a u=mup M a u:=by
 funext b;unfold mup;split <;> rfl
noncomputable abbrev Own:=Addr->Prop
inductive Rep (H:Hp) (O:Own):V->Dat->Prop
 | non:Rep H O .non .non
 | bl {b:Bool}:Rep H O (.bl b) (.bl b)
 | int {i:Int}:Rep H O (.int i) (.int i)
 | str {x:Str}:Rep H O (.str x) (.str x)
 | ty {n:String}:Rep H O (.ty n) (.ty n)
 | lst {a:Addr} {xs:List V} {l:List Dat}:¬ O a->H a=some (.lst xs)->xs.length=l.length->(∀ (i:Nat) x d,xs[i]?=some x->l[i]?=some d->Rep H O x d)->Rep H O (.ref a) (.lst l)
 | tup {a:Addr} {xs:List V} {l:List Dat}:¬ O a->H a=some (.tup xs)->xs.length=l.length->(∀ (i:Nat) x d,xs[i]?=some x->l[i]?=some d->Rep H O x d)->Rep H O (.ref a) (.tup l)
 | rng {a:Addr} {lo hi c:Int}:¬ O a->H a=some (j7 a lo hi c)->Rep H O (.ref a) (.rng lo hi c)
 | scr {a:Addr} {K:PySem.W.Frag} {l:List Int}:¬ O a->Rd H a (.lst (l.map V.int))->Rep H O (.ref a) (.scr K l)
 | scrK {a:Addr} {K:PySem.W.Frag} {l:List Int}:SqL K (fun _=>none) a (l.map V.int)->Rep H O (.ref a) (.scr K l)
noncomputable def Vb (H:Hp)(O:Own)(xs:List V)(l:List Dat):Prop:=xs.length=l.length/\∀ (i:Nat) x d,xs[i]?=some x->l[i]?=some d->Rep H O x d
noncomputable def zA (H:Hp)(O:Own)(M:MH)(v:V):AV->Prop
 | .d x=>Rep H O v x
 | .ref a=>v=.ref a/\M a ≠ none
noncomputable def zk (H:Hp)(O:Own)(M:MH)(xs:List V)(l:List AV):Prop:=xs.length=l.length/\∀ (i:Nat) x d,xs[i]?=some x->l[i]?=some d->zA H O M x d
noncomputable def JO {κ:Type}(H:Hp)(O:Own)(M:MH)(xs:List (κ × V))(l:List (κ × AV)):Prop:=xs.map (·.1)=l.map (·.1)/\zk H O M (xs.map (·.2)) (l.map (·.2))
noncomputable def jp (H:Hp)(O:Own)(M:MH)(a:Addr):MO->Prop
 | .lst l=>∃ xs,H a=some (.lst xs)/\zk H O M xs l
 | .dK kvs=>∃ xs,H a=some (.dK xs)/\JO H O M xs kvs
 | .ins C fs=>∃ dx xs,H a=some (.ins C dx xs)/\JO H O M xs fs/\O dx/\M dx=none/\H dx=some (.own a)
 | .exc C fs=>∃ d,H a=some (LI a C d)/\(d=none/\fs=[] \/ ∃ dx,d=some dx/\H dx=some (.xd fs)/\O dx/\M dx=none)
structure Wf (H:Hp)(O:Own)(M:MH):Prop where
 mo:∀ a o,M a=some o->jp H O M a o
 own:∀ a,M a ≠ none->O a
 al:∀ a,O a->∃ o,H a=some o/\∀ xs,o ≠ .tup xs
theorem Wf.ne {H:Hp}{O:Own}{M:MH}(w:Wf H O M)(a:Addr)(h:O a):H a ≠ none:=by obtain ⟨o,e,_⟩:=w.al a h;rw [e];exact fun z=>nomatch z
structure Ext (H:Hp)(O:Own)(M:MH)(H':Hp)(O':Own)(M':MH):Prop where
 fix:∀ a o,¬ O a->H a=some o->H' a=some o/\¬ O' a
 prv:∀ a,O a->M a=none->H' a=H a/\O' a/\M' a=none
 mst:∀ a,M a ≠ none->M' a ≠ none
theorem Ext.refl {H:Hp}{O:Own}{M:MH}:Ext H O M H O M:=⟨fun _ _ h e=>⟨e,h⟩,fun _ h e=>⟨rfl,h,e⟩,fun _ h=>h⟩
theorem Ext.trans {H H1 H2:Hp}{O O1 O2:Own}{M M1 M2:MH}(a:Ext H O M H1 O1 M1)(b:Ext H1 O1 M1 H2 O2 M2):Ext H O M H2 O2 M2:=
 ⟨fun x o h e=>let ⟨e1,h1⟩:=a.fix x o h e;b.fix x o h1 e1,fun x h e=>by
  obtain ⟨e1,h1,n1⟩:=a.prv x h e
  obtain ⟨e2,h2,n2⟩:=b.prv x h1 n1
  exact ⟨e2.trans e1,h2,n2⟩,fun x h=>b.mst x (a.mst x h)⟩
theorem Rep.imp {H H':Hp}{O O':Own}(k:∀ a o,¬ O a->H a=some o->H' a=some o/\¬ O' a){v:V}{d:Dat}(r:Rep H O v d):Rep H' O' v d:=by
 induction r with
 | non=>exact .non
 | bl=>exact .bl
 | int=>exact .int
 | str=>exact .str
 | ty=>exact .ty
 | lst h e l _ ih=>exact .lst (k _ _ h e).2 (k _ _ h e).1 l ih
 | tup h e l _ ih=>exact .tup (k _ _ h e).2 (k _ _ h e).1 l ih
 | rng h e=>exact .rng (k _ _ h e).2 (k _ _ h e).1
 | scr h e=>
  rcases e with e | ⟨o,e⟩
  ·exact .scr (k _ _ h e).2 (.inl (k _ _ h e).1)
  ·exact .scr (k _ _ h e).2 (.inr ⟨o,(k _ _ h e).1⟩)
 | scrK h=>exact .scrK h
theorem EC {H:Hp}{O:Own}{K:PySem.W.Frag}{v:V}{l:List Int}(r:Rep H O v (.scr K l)):∃ a,v=.ref a/\SqL K H a (l.map V.int):=by
 cases r with
 | @scr a _ _ _ h=>exact ⟨a,rfl,.inl h⟩
 | @scrK a _ _ h=>
  rcases h with (h | ⟨o,h⟩) | h
  ·cases h
  ·cases h
  ·exact ⟨a,rfl,.inr h⟩
theorem Eg {H:Hp}{O:Own}{K:PySem.W.Frag}{a:Addr}{l:List Int}(ho:∀ a,¬ O a)(h:SqL K H a (l.map V.int)):Rep H O (.ref a) (.scr K l):=by
 rcases h with h | h
 ·exact .scr (ho a) h
 ·exact .scrK (.inr h)
theorem Rep.ext {H H':Hp}{O O':Own}{M M':MH}(k:Ext H O M H' O' M'){v:V}{d:Dat}(r:Rep H O v d):Rep H' O' v d:=r.imp k.fix
theorem zA.ext {H H':Hp}{O O':Own}{M M':MH}(k:Ext H O M H' O' M'){v:V}{x:AV}(r:zA H O M v x):zA H' O' M' v x:=by
 cases x with
 | d x=>exact Rep.ext k r
 | ref a=>exact ⟨r.1,k.mst a r.2⟩
theorem zk.ext {H H':Hp}{O O':Own}{M M':MH}(k:Ext H O M H' O' M'){xs:List V}{l:List AV}(r:zk H O M xs l):zk H' O' M' xs l:=⟨r.1,fun i x d e1 e2=>(r.2 i x d e1 e2).ext k⟩
theorem JO.ext {κ:Type}{H H':Hp}{O O':Own}{M M':MH}(k:Ext H O M H' O' M'){xs:List (κ × V)}{l:List (κ × AV)}(r:JO H O M xs l):JO H' O' M' xs l:=⟨r.1,r.2.ext k⟩
theorem zk.nil {H:Hp}{O:Own}{M:MH}:zk H O M [] []:=⟨rfl,fun i x d e=>by simp at e⟩
theorem zk.cons {H:Hp}{O:Own}{M:MH}{x:V}{d:AV}{xs:List V}{l:List AV}(h:zA H O M x d)(r:zk H O M xs l):zk H O M (x :: xs) (d :: l):=
 ⟨by simp [r.1],fun i y e h1 h2=>by
  cases i with
  | zero=>simp at h1 h2;subst h1 h2;exact h
  | succ i=>simp at h1 h2;exact r.2 i y e h1 h2⟩
theorem zk.head {H:Hp}{O:Own}{M:MH}{x:V}{d:AV}{xs:List V}{l:List AV}(r:zk H O M (x :: xs) (d :: l)):zA H O M x d/\zk H O M xs l:=
 ⟨r.2 0 x d rfl rfl,by have:=r.1;simpa using this,fun i y e h1 h2=>r.2 (i+1) y e (by simpa using h1) (by simpa using h2)⟩
theorem zk.nil_inv {H:Hp}{O:Own}{M:MH}{xs:List V}(r:zk H O M xs []):xs=[]:=List.length_eq_zero_iff.mp r.1
theorem zk.cons_inv {H:Hp}{O:Own}{M:MH}{xs:List V}{d:AV}{l:List AV}(r:zk H O M xs (d :: l)):∃ x r',xs=x :: r'/\zA H O M x d/\zk H O M r' l:=by
 cases xs with
 | nil=>have:=r.1;simp at this
 | cons x r'=>exact ⟨x,r',rfl,r.head⟩
theorem zk.append {H:Hp}{O:Own}{M:MH}{xs ys:List V}{l m:List AV}(a:zk H O M xs l)(b:zk H O M ys m):zk H O M (xs ++ ys) (l ++ m):=
 ⟨by rw [List.length_append,List.length_append,a.1,b.1],fun i x d h1 h2=>by
  by_cases c:i<xs.length
  ·rw [List.getElem?_append_left c] at h1
   rw [List.getElem?_append_left (by rw [<- a.1];exact c)] at h2
   exact a.2 i x d h1 h2
  ·rw [List.getElem?_append_right (by walk_at "o")] at h1
   rw [List.getElem?_append_right (by rw [<- a.1];walk_at "o"),<- a.1] at h2
   exact b.2 _ x d h1 h2⟩
theorem zk.snoc {H:Hp}{O:Own}{M:MH}{xs:List V}{l:List AV}{x:V}{d:AV}(a:zk H O M xs l)(b:zA H O M x d):zk H O M (xs ++ [x]) (l ++ [d]):=a.append (.cons b .nil)
theorem zk.set {H:Hp}{O:Own}{M:MH}{xs:List V}{l:List AV}{x:V}{d:AV}(a:zk H O M xs l)(b:zA H O M x d)(j:Nat):zk H O M (xs.set j x) (l.set j d):=
 ⟨by rw [List.length_set,List.length_set,a.1],fun i y e h1 h2=>by
  rw [List.getElem?_set] at h1 h2
  by_cases c:j=i
  ·rw [if_pos c] at h1 h2
   split at h1
   ·split at h2
    ·cases h1;cases h2;exact b
    ·cases h2
   ·cases h1
  ·rw [if_neg c] at h1 h2
   exact a.2 i y e h1 h2⟩
theorem zk.get {H:Hp}{O:Own}{M:MH}{xs:List V}{l:List AV}(a:zk H O M xs l){i:Nat}{d:AV}(h:l[i]?=some d):∃ x,xs[i]?=some x/\zA H O M x d:=by
 have hi:=(List.getElem?_eq_some_iff.mp h).1
 have hx:i<xs.length:=by rw [a.1];exact hi
 exact ⟨xs[i],by simp [hx],a.2 i _ _ (by simp [hx]) h⟩
theorem zk.get' {H:Hp}{O:Own}{M:MH}{xs:List V}{l:List AV}(a:zk H O M xs l){i:Nat}{x:V}(h:xs[i]?=some x):∃ d,l[i]?=some d/\zA H O M x d:=by
 have hi:=(List.getElem?_eq_some_iff.mp h).1
 have hx:i<l.length:=by rw [<- a.1];exact hi
 exact ⟨l[i],by simp [hx],a.2 i _ _ h (by simp [hx])⟩
theorem zk.drop {H:Hp}{O:Own}{M:MH}{xs:List V}{l:List AV}(a:zk H O M xs l)(k:Nat):zk H O M (xs.drop k) (l.drop k):=
 ⟨by rw [List.length_drop,List.length_drop,a.1],fun i x d h1 h2=>by rw [List.getElem?_drop] at h1 h2;exact a.2 _ x d h1 h2⟩
theorem zk.take {H:Hp}{O:Own}{M:MH}{xs:List V}{l:List AV}(a:zk H O M xs l)(k:Nat):zk H O M (xs.take k) (l.take k):=
 ⟨by rw [List.length_take,List.length_take,a.1],fun i x d h1 h2=>by
  rw [List.getElem?_take] at h1 h2
  by_cases c:i<k
  ·rw [if_pos c] at h1 h2
   exact a.2 _ x d h1 h2
  ·rw [if_neg c] at h1
   cases h1⟩
theorem Vb.av {H:Hp}{O:Own}{M:MH}{xs:List V}{l:List Dat}(r:Vb H O xs l):zk H O M xs (l.map .d):=
 ⟨by rw [List.length_map];exact r.1,fun i x d h1 h2=>by
  rw [List.getElem?_map] at h2
  cases e:l[i]? with
  | none=>rw [e] at h2;cases h2
  | some y=>rw [e] at h2;cases h2;exact r.2 i x y h1 e⟩
theorem zk.pure {H:Hp}{O:Own}{M:MH}{xs:List V}{l:List Dat}(r:zk H O M xs (l.map .d)):Vb H O xs l:=
 ⟨by have:=r.1;rwa [List.length_map] at this,fun i x d h1 h2=>r.2 i x (.d d) h1 (by rw [List.getElem?_map,h2];rfl)⟩
theorem Wf.fresh {H:Hp}{O:Own}{M:MH}(w:Wf H O M){p:Addr}(h:H p=none):¬ O p/\M p=none:=by
 have:¬ O p:=fun z=>w.ne p z h
 exact ⟨this,by
  cases e:M p with
  | none=>rfl
  | some o=>exact absurd (w.own p (by rw [e];exact fun z=>nomatch z)) this⟩
theorem jp.ext {H H':Hp}{O O':Own}{M M':MH}(k:Ext H O M H' O' M'){a:Addr}{o:MO}(e:H' a=H a)(r:jp H O M a o):jp H' O' M' a o:=by
 cases o with
 | lst l=>obtain ⟨xs,h,r⟩:=r;exact ⟨xs,e.trans h,r.ext k⟩
 | dK l=>obtain ⟨xs,h,r⟩:=r;exact ⟨xs,e.trans h,r.ext k⟩
 | ins C fs=>obtain ⟨dx,xs,h,r,q1,q2,q3⟩:=r;obtain ⟨x1,x2,x3⟩:=k.prv dx q1 q2;exact ⟨dx,xs,e.trans h,r.ext k,x2,x3,x1.trans q3⟩
 | exc C fs=>
  obtain ⟨d,h,r⟩:=r
  refine ⟨d,e.trans h,?_⟩
  rcases r with r | ⟨dx,e1,h1,h2,h3⟩
  ·exact .inl r
  ·obtain ⟨x1,x2,x3⟩:=k.prv dx h2 h3;exact .inr ⟨dx,e1,x1.trans h1,x2,x3⟩
theorem kh {H:Hp}{O:Own}{M:MH}(w:Wf H O M){p:Addr}(h:H p=none)(o:HO):Ext H O M (upd H p o) O M:=
 ⟨fun a u ha e=>⟨by rw [zq (zj e h)];exact e,ha⟩,fun a ha e=>⟨zq (fun z=>w.ne a ha (by rw [z];exact h)),ha,e⟩,fun _ h=>h⟩
theorem Xb {H:Hp}{O:Own}{M:MH}(w:Wf H O M){p:Addr}(h:H p=none)(o:HO):Wf (upd H p o) O M:=
 ⟨fun a mo e=>jp.ext (kh w h o) (zq (fun z=>by rw [z,(w.fresh h).2] at e;cases e)) (w.mo a mo e),w.own,fun a ha=>by
  have:a ≠ p:=fun z=>w.ne a ha (by rw [z];exact h)
  rw [zq this];exact w.al a ha⟩
noncomputable def Vm (O:Own)(p:Addr):Own:=fun a=>a=p \/ O a
noncomputable def ZM (O:Own)(p:Addr):Own:=fun a=>a ≠ p/\O a
theorem xY {H:Hp}{O:Own}{M:MH}(w:Wf H O M){p:Addr}(h:M p ≠ none)(o:HO)(mo:MO):Ext H O M (upd H p o) O (mup M p mo):=
 ⟨fun a u ha e=>⟨by rw [zq (fun z=>ha (by rw [z];exact w.own p h))];exact e,ha⟩,fun a ha e=>by
  have hne:a ≠ p:=fun z=>h (by rw [<- z];exact e)
  exact ⟨zq hne,ha,by rw [zI hne];exact e⟩,fun a ha=>by
  by_cases e:a=p
  ·rw [e,zm];exact fun z=>nomatch z
  ·rw [zI e];exact ha⟩
theorem Wn {H:Hp}{O:Own}{M:MH}(w:Wf H O M){p:Addr}(h:M p ≠ none){o:HO}{mo:MO}(ho:∀ xs,o ≠ .tup xs)(r:jp (upd H p o) O (mup M p mo) p mo):Wf (upd H p o) O (mup M p mo):=by
 refine ⟨fun a u e=>?_,fun a ha=>?_,fun a ha=>?_⟩
 ·by_cases c:a=p
  ·subst c;rw [zm] at e;cases e;exact r
  ·rw [zI c] at e
   exact jp.ext (xY w h o mo) (zq c) (w.mo a u e)
 ·by_cases c:a=p
  ·subst c;exact w.own a h
  ·rw [zI c] at ha;exact w.own a ha
 ·by_cases c:a=p
  ·rw [c,zf];exact ⟨o,rfl,ho⟩
  ·rw [zq c];exact w.al a ha
theorem qK {H:Hp}{O:Own}{M:MH}(w:Wf H O M){p:Addr}(h:H p=none)(o:HO):Ext H O M (upd H p o) (Vm O p) M:=
 ⟨fun a u ha e=>⟨by rw [zq (zj e h)];exact e,fun z=>z.elim (zj e h) ha⟩,fun a ha e=>by
  have hne:a ≠ p:=fun z=>w.ne a ha (by rw [z];exact h)
  exact ⟨zq hne,.inr ha,e⟩,fun _ h=>h⟩
theorem yq {H:Hp}{O:Own}{M:MH}(w:Wf H O M){p:Addr}(h:H p=none)(o:HO)(ho:∀ xs,o ≠ .tup xs):Wf (upd H p o) (Vm O p) M:=
 ⟨fun a mo e=>jp.ext (qK w h o) (zq (fun z=>by rw [z,(w.fresh h).2] at e;cases e)) (w.mo a mo e),fun a ha=>.inr (w.own a ha),fun a ha=>by
  by_cases c:a=p
  ·rw [c,zf];exact ⟨o,rfl,ho⟩
  ·rw [zq c];exact w.al a (ha.resolve_left c)⟩
theorem vc {H:Hp}{O:Own}{p:Addr}(hO:O p)(o:HO):∀ a u,¬ O a->H a=some u->upd H p o a=some u/\¬ O a:=fun a u ha e=>⟨by rw [zq (fun z=>ha (by rw [z];exact hO))];exact e,ha⟩
theorem zA.imp {H H':Hp}{O O':Own}{M M':MH}(k:∀ a o,¬ O a->H a=some o->H' a=some o/\¬ O' a)(hm:∀ a,M a ≠ none->M' a ≠ none){v:V}{x:AV}(r:zA H O M v x):zA H' O' M' v x:=by
 cases x with
 | d x=>exact Rep.imp k r
 | ref a=>exact ⟨r.1,hm a r.2⟩
theorem zk.imp {H H':Hp}{O O':Own}{M M':MH}(k:∀ a o,¬ O a->H a=some o->H' a=some o/\¬ O' a)(hm:∀ a,M a ≠ none->M' a ≠ none){xs:List V}{l:List AV}(r:zk H O M xs l):zk H' O' M' xs l:=⟨r.1,fun i x d e1 e2=>(r.2 i x d e1 e2).imp k hm⟩
theorem jp.imp {H H':Hp}{O O':Own}{M:MH}(k:∀ a o,¬ O a->H a=some o->H' a=some o/\¬ O' a){a:Addr}{o:MO}(e:H' a=H a)(hd:∀ dx x,O dx->M dx=none->H dx=some x->((∃ b,x=.own b) \/ ∃ fs,x=.xd fs)->H' dx=some x/\O' dx)(r:jp H O M a o):jp H' O' M a o:=by
 cases o with
 | lst l=>obtain ⟨xs,h,r⟩:=r;exact ⟨xs,e.trans h,r.imp k fun _ z=>z⟩
 | dK l=>obtain ⟨xs,h,r⟩:=r;exact ⟨xs,e.trans h,r.1,r.2.imp k fun _ z=>z⟩
 | ins C fs=>obtain ⟨dx,xs,h,r,q1,q2,q3⟩:=r;exact ⟨dx,xs,e.trans h,⟨r.1,r.2.imp k fun _ z=>z⟩,(hd dx _ q1 q2 q3 (.inl ⟨_,rfl⟩)).2,q2,(hd dx _ q1 q2 q3 (.inl ⟨_,rfl⟩)).1⟩
 | exc C fs=>
  obtain ⟨d,h,r⟩:=r
  refine ⟨d,e.trans h,?_⟩
  rcases r with r | ⟨dx,e1,h1,h2,h3⟩
  ·exact .inl r
  ·obtain ⟨x1,x2⟩:=hd dx _ h2 h3 h1 (.inr ⟨_,rfl⟩);exact .inr ⟨dx,e1,x1,x2,h3⟩
theorem Xp {H:Hp}{O:Own}{M:MH}(w:Wf H O M){p:Addr}(hO:O p)(hM:M p=none){xs:List V}(hp:H p=some (.lst xs))(o:HO)(ho:∀ xs,o ≠ .tup xs):Wf (upd H p o) O M:=
 ⟨fun a mo e=>jp.imp (vc hO o) (zq (fun z=>by rw [z,hM] at e;cases e)) (fun dx x h1 _ h3 h4=>⟨by rw [zq (QU h3 hp (by rcases h4 with ⟨_,rfl⟩ | ⟨_,rfl⟩ <;> exact fun z=>nomatch z))];exact h3,h1⟩) (w.mo a mo e),w.own,fun a ha=>by
  by_cases c:a=p
  ·rw [c,zf];exact ⟨o,rfl,ho⟩
  ·rw [zq c];exact w.al a ha⟩
theorem xo {H:Hp}{O:Own}(p:Addr):∀ a u,¬ O a->H a=some u->H a=some u/\¬ ZM O p a:=fun a u ha e=>⟨e,fun z=>ha z.2⟩
theorem Bd {H:Hp}{O:Own}{M:MH}(w:Wf H O M){p:Addr}(hM:M p=none){xs:List V}(hp:H p=some (.lst xs)):Wf H (ZM O p) M:=
 ⟨fun a mo e=>jp.imp (xo p) rfl (fun dx x h1 _ h3 h4=>⟨h3,⟨QU h3 hp (by rcases h4 with ⟨_,rfl⟩ | ⟨_,rfl⟩ <;> exact fun z=>nomatch z),h1⟩⟩) (w.mo a mo e),fun a ha=>⟨fun z=>ha (by rw [z];exact hM),w.own a ha⟩,fun a ha=>w.al a ha.2⟩
noncomputable abbrev AK:=AV->MH->Prop
noncomputable abbrev AE:=ASt->MH->AK->Prop
noncomputable abbrev AT:=ASt->MH->(Bool->MH->Prop)->Prop
noncomputable abbrev AA:=ASt->MH->(List AV->MH->Prop)->Prop
structure yQ where
 nx:ASt->MH->Prop
 rt:AK
 bk:ASt->MH->Prop:=fun _ _=>False
 ct:ASt->MH->Prop:=fun _ _=>False
noncomputable abbrev AS:=MH->yQ->ASt->MH->Prop
noncomputable abbrev AG:=AV->ASt->MH->(ASt->MH->Prop)->Prop
noncomputable abbrev AGs:=List AV->ASt->MH->(ASt->MH->Prop)->Prop
noncomputable abbrev AI:=ASt->MH->(List AV->(MH->Prop)->MH->Prop)->Prop
structure Er (H:Hp)(O:Own)(M:MH)(σ:St)(ρ:ASt):Prop where
 len:σ.length=ρ.length
 get:∀ (i:Nat) x,ρ[i]?=some (some x)->∃ v,σ[i]?=some (some v)/\zA H O M v x
theorem Er.ext {H H':Hp}{O O':Own}{M M':MH}{σ:St}{ρ:ASt}(e:Er H O M σ ρ)(k:Ext H O M H' O' M'):Er H' O' M' σ ρ:=⟨e.len,fun i x h=>let ⟨v,h1,h2⟩:=e.get i x h;⟨v,h1,h2.ext k⟩⟩
theorem Er.set {H:Hp}{O:Own}{M:MH}{σ:St}{ρ:ASt}(e:Er H O M σ ρ){v:V}{x:AV}(r:zA H O M v x)(j:Nat):Er H O M (σ.set j (some v)) (ρ.set j (some x)):=
 ⟨by rw [List.length_set,List.length_set,e.len],fun i y h=>by
  rw [List.getElem?_set] at h ⊢
  by_cases c:j=i
  ·rw [if_pos c] at h ⊢
   by_cases c2:j<ρ.length
   ·rw [if_pos c2] at h;rw [if_pos (by rw [e.len];exact c2)];cases h;exact ⟨v,rfl,r⟩
   ·rw [if_neg c2] at h;cases h
  ·rw [if_neg c] at h ⊢;exact e.get i y h⟩
noncomputable def Ex:List Nat->ASt->ASt
 | [],σ=>σ
 | j :: r,σ=>Ex r (σ.set j none)
theorem Er.clr {H:Hp}{O:Own}{M:MH}:∀ (ts:List Nat) {σ:St} {ρ:ASt},Er H O M σ ρ->Er H O M (clr ts σ) (Ex ts ρ)
  | [],_,_,e=>e
  | j :: r, σ, ρ, e => Er.clr r ⟨by rw [List.length_set, List.length_set, e.len], fun i y h => by
      rw [List.getElem?_set] at h ⊢
      by_cases c:j=i
      · rw [if_pos c] at h
        split at h <;> cases h
      · rw [if_neg c] at h ⊢;exact e.get i y h⟩
structure zY (t:TE)(a:AE):Prop where
 go:∀ {σ:St} {H:Hp} {O:Own} {ρ:ASt} {M:MH} {Q:VK} {Q':AK},Wf H O M->Er H O M σ ρ->a ρ M Q'->(∀ x M' v H' O',Q' x M'->Ext H O M H' O' M'->Wf H' O' M'->zA H' O' M' v x->Q v H')->t σ H Q
structure kA (t:TT)(a:AT):Prop where
 go:∀ {σ:St} {H:Hp} {O:Own} {ρ:ASt} {M:MH} {Q:Bool->Hp->Prop} {Q':Bool->MH->Prop},Wf H O M->Er H O M σ ρ->a ρ M Q'->(∀ b M' H' O',Q' b M'->Ext H O M H' O' M'->Wf H' O' M'->Q b H')->t σ H Q
structure kB (t:TA)(a:AA):Prop where
 go:∀ {σ:St} {H:Hp} {O:Own} {ρ:ASt} {M:MH} {Q:List V->Hp->Prop} {Q':List AV->MH->Prop},Wf H O M->Er H O M σ ρ->a ρ M Q'->(∀ x M' v H' O',Q' x M'->Ext H O M H' O' M'->Wf H' O' M'->zk H' O' M' v x->Q v H')->t σ H Q
structure Zz (t:TE)(a:ASt->MH->(List AV->MH->Prop)->Prop):Prop where
 go:∀ {σ:St} {H:Hp} {O:Own} {ρ:ASt} {M:MH} {Q:VK} {Q':List AV->MH->Prop},Wf H O M->Er H O M σ ρ->a ρ M Q' ->
  (∀ l M' p xs H' O',Q' l M'->Ext H O M H' O' M'->Wf H' O' M'->O' p->M' p=none->H p=none->H' p=some (.lst xs)->zk H' O' M' xs l->Q (.ref p) H')->t σ H Q
noncomputable abbrev AR2:=AV->AV->MH->AK->Prop
structure JT (r:R2)(a:AR2):Prop where
 go:∀ {x y:V} {dx dy:AV} {H:Hp} {O:Own} {M:MH} {Q:VK} {Q':AK},Wf H O M->zA H O M x dx->zA H O M y dy->a dx dy M Q'->(∀ x M' v H' O',Q' x M'->Ext H O M H' O' M'->Wf H' O' M'->zA H' O' M' v x->Q v H')->r x y H Q
structure IA (r:V->Hp->VK->Prop)(a:AV->MH->AK->Prop):Prop where
 go:∀ {x:V} {dx:AV} {H:Hp} {O:Own} {M:MH} {Q:VK} {Q':AK},Wf H O M->zA H O M x dx->a dx M Q'->(∀ x M' v H' O',Q' x M'->Ext H O M H' O' M'->Wf H' O' M'->zA H' O' M' v x->Q v H')->r x H Q
structure ZP (r:List V->Hp->VK->Prop)(a:List AV->MH->AK->Prop):Prop where
 go:∀ {vs:List V} {xs:List AV} {H:Hp} {O:Own} {M:MH} {Q:VK} {Q':AK},Wf H O M->zk H O M vs xs->a xs M Q'->(∀ x M' v H' O',Q' x M'->Ext H O M H' O' M'->Wf H' O' M'->zA H' O' M' v x->Q v H')->r vs H Q
noncomputable def Jh (i:Nat):AE:=fun ρ M Q=>∃ x,ρ[i]?=some (some x)/\Q x M
noncomputable def aC (d:Dat):AE:=fun _ M Q=>Q (.d d) M
theorem Ez {i:Nat}:zY (Qg i) (Jh i):=⟨fun w e ⟨x,h,q⟩ k=>let ⟨v,h1,h2⟩:=e.get i x h;⟨v,h1,k _ _ _ _ _ q .refl w h2⟩⟩
theorem Iw {i:Int}:zY (tC (.int i)) (aC (.int i)):=⟨fun w _ q k=>k _ _ _ _ _ q .refl w .int⟩
theorem Gd {i:Bool}:zY (tC (.bl i)) (aC (.bl i)):=⟨fun w _ q k=>k _ _ _ _ _ q .refl w .bl⟩
theorem Im {i:Str}:zY (tC (.str i)) (aC (.str i)):=⟨fun w _ q k=>k _ _ _ _ _ q .refl w .str⟩
theorem GH {i:String}:zY (tC (.ty i)) (aC (.ty i)):=⟨fun w _ q k=>k _ _ _ _ _ q .refl w .ty⟩
noncomputable def aOp (r:AR2)(a b:AE):AE:=fun ρ M Q=>a ρ M fun x M1=>b ρ M1 fun y M2=>r x y M2 Q
theorem HR {r:R2}{ra:AR2}{t u:TE}{a b:AE}(hr:JT r ra)(h1:zY t a)(h2:zY u b):zY (tOp r t u) (aOp ra a b):=
 ⟨fun w e q k=>h1.go w e q fun x M1 v H1 O1 q1 k1 w1 r1=>h2.go w1 (e.ext k1) q1 fun y M2 u H2 O2 q2 k2 w2 r2=>hr.go w2 (r1.ext k2) r2 q2 fun z M3 v3 H3 O3 q3 k3 w3 r3=>k z M3 v3 H3 O3 q3 ((k1.trans k2).trans k3) w3 r3⟩
noncomputable def aUn (r:AV->MH->AK->Prop)(a:AE):AE:=fun ρ M Q=>a ρ M fun x M1=>r x M1 Q
theorem G6 {r:V->Hp->VK->Prop}{ra:AV->MH->AK->Prop}{t:TE}{a:AE}(hr:IA r ra)(h1:zY t a):zY (tUn r t) (aUn ra a):=
 ⟨fun w e q k=>h1.go w e q fun x M1 v H1 O1 q1 k1 w1 r1=>hr.go w1 r1 q1 fun z M3 v3 H3 O3 q3 k3 w3 r3=>k z M3 v3 H3 O3 q3 (k1.trans k3) w3 r3⟩
noncomputable def DB:AA:=fun _ M Q=>Q [] M
noncomputable def JH (a:AE)(b:AA):AA:=fun ρ M Q=>a ρ M fun x M1=>b ρ M1 fun xs M2=>Q (x :: xs) M2
theorem EK:kB Ip DB:=⟨fun w _ q k=>k _ _ _ _ _ q .refl w .nil⟩
theorem Bk {t:TE}{u:TA}{a:AE}{b:AA}(h1:zY t a)(h2:kB u b):kB (AD t u) (JH a b):=
 ⟨fun w e q k=>h1.go w e q fun x M1 v H1 O1 q1 k1 w1 r1=>h2.go w1 (e.ext k1) q1 fun y M2 u H2 O2 q2 k2 w2 r2=>k _ _ _ _ _ q2 (k1.trans k2) w2 (.cons (r1.ext k2) r2)⟩
theorem Qb {H:Hp}{O:Own}{M:MH}(is:List Int):zk H O M (is.map V.int) (is.map fun i=>.d (.int i)):=by
 induction is with
 | nil=>exact .nil
 | cons i r ih=>exact .cons .int ih
noncomputable def aCB (r:List AV->MH->AK->Prop)(b:AA):AE:=fun ρ M Q=>b ρ M fun xs M1=>r xs M1 Q
theorem Hk {r:List V->Hp->VK->Prop}{ra:List AV->MH->AK->Prop}{u:TA}{b:AA}(hr:ZP r ra)(h2:kB u b):zY (tCB r u) (aCB ra b):=
 ⟨fun w e q k=>h2.go w e q fun x M1 v H1 O1 q1 k1 w1 r1=>hr.go w1 r1 q1 fun z M3 v3 H3 O3 q3 k3 w3 r3=>k z M3 v3 H3 O3 q3 (k1.trans k3) w3 r3⟩
noncomputable abbrev ASp:=List AV->MH->AK->Prop
noncomputable def cSp (a:ASp):Sp:=fun vs H Q _=>∃ xs M O Q',Wf H O M/\zk H O M vs xs/\a xs M Q'/\∀ x M' v H' O',Q' x M'->Ext H O M H' O' M'->Wf H' O' M'->zA H' O' M' v x->Q v H'
noncomputable def Ds (sp:ASp)(b:AA):AE:=fun ρ M Q=>b ρ M fun xs M1=>sp xs M1 Q
theorem Wl {sp:ASp}{u:TA}{b:AA}(h:kB u b):zY (YB (cSp sp) [] E0 u) (Ds sp b):=
 ⟨fun w e q k=>h.go w e q fun x M1 v H1 O1 q1 k1 w1 r1=>⟨x,M1,O1,_,w1,by rw [List.append_nil];exact r1,q1,fun z M3 v3 H3 O3 q3 k3 w3 r3=>k z M3 v3 H3 O3 q3 (k1.trans k3) w3 r3⟩⟩
noncomputable def pur:List AV->Option (List Dat)
 | []=>some []
 | .d x :: r=>match pur r with | some l=>some (x :: l) | none=>none
 | .ref _ :: _=>none
theorem EF:pur []=some []:=rfl
theorem Dc {x:Dat}{r:List AV}{l:List Dat}(h:pur r=some l):pur (.d x :: r)=some (x :: l):=by unfold pur;rw [h]
theorem qf (l:List Dat):pur (l.map .d)=some l:=by
 induction l with
 | nil=>rfl
 | cons x r ih=>exact Dc ih
theorem j5:∀ {xs:List AV} {l:List Dat},pur xs=some l->xs=l.map .d
 | [],l,h=>by cases h;rfl
 | .d x :: r,l,h=>by
  unfold pur at h
  cases e:pur r with
  | none=>rw [e] at h;cases h
  | some m=>rw [e] at h;cases h;rw [j5 e];rfl
 | .ref _ :: _,_,h=>by cases h
theorem Ext.shown {H H':Hp}{O O':Own}{M M':MH}{p:Addr}(w:Wf H O M)(k:Ext H O M H' O' M')(h:H p=none):Ext H O M H' (ZM O' p) M':=
 ⟨fun a o ha e=>⟨(k.fix a o ha e).1,fun z=>(k.fix a o ha e).2 z.2⟩,fun a ha e=>⟨(k.prv a ha e).1,⟨fun z=>w.ne a ha (by rw [z];exact h),(k.prv a ha e).2.1⟩,(k.prv a ha e).2.2⟩,k.mst⟩
theorem Ext.owned {H H':Hp}{O O':Own}{M M':MH}{p:Addr}(w:Wf H O M)(k:Ext H O M H' O' M')(h:H p=none)(mo:MO):Ext H O M H' O' (mup M' p mo):=
 ⟨k.fix,fun a ha e=>⟨(k.prv a ha e).1,(k.prv a ha e).2.1,by rw [zI (fun z=>w.ne a ha (by rw [z];exact h))];exact (k.prv a ha e).2.2⟩,fun a ha=>by
  by_cases e:a=p
  ·rw [e,zm];exact fun z=>nomatch z
  ·rw [zI e];exact k.mst a ha⟩
theorem Jw {H:Hp}{O:Own}{M:MH}{p:Addr}(w:Wf H O M)(hO:O p)(hM:M p=none){xs:List V}{l:List AV}(hp:H p=some (.lst xs))(r:zk H O M xs l):Wf H O (mup M p (.lst l)):=by
 have km:∀ a,M a ≠ none->mup M p (.lst l) a ≠ none:=fun a ha=>by
  by_cases e:a=p
  ·rw [e,zm];exact fun z=>nomatch z
  ·rw [zI e];exact ha
 refine ⟨fun a u e=>?_,fun a ha=>?_,w.al⟩
 ·by_cases c:a=p
  ·subst c;rw [zm] at e;cases e;exact ⟨xs,hp,r.imp (fun _ _ z h=>⟨h,z⟩) km⟩
  ·rw [zI c] at e
   have:=w.mo a u e
   cases u with
   | lst m=>obtain ⟨ys,h1,h2⟩:=this;exact ⟨ys,h1,h2.imp (fun _ _ z h=>⟨h,z⟩) km⟩
   | dK m=>obtain ⟨ys,h1,h2⟩:=this;exact ⟨ys,h1,h2.1,h2.2.imp (fun _ _ z h=>⟨h,z⟩) km⟩
   | ins C fs=>
    obtain ⟨dx,ys,h1,h2,h3,h4,h5⟩:=this
    exact ⟨dx,ys,h1,⟨h2.1,h2.2.imp (fun _ _ z h=>⟨h,z⟩) km⟩,h3,by rw [zI (QU h5 hp (fun z=>nomatch z))];exact h4,h5⟩
   | exc C fs=>
    obtain ⟨d,h1,h2⟩:=this
    refine ⟨d,h1,?_⟩
    rcases h2 with h2 | ⟨dx,e1,h2,h3,h4⟩
    ·exact .inl h2
    ·exact .inr ⟨dx,e1,h2,h3,by rw [zI (QU h2 hp (fun z=>nomatch z))];exact h4⟩
 ·by_cases c:a=p
  ·rw [c];exact hO
  ·rw [zI c] at ha;exact w.own a ha
noncomputable abbrev AF:=ASt->MH->(List AV->MH->Prop)->Prop
noncomputable def aFz (a:AF):AE:=fun ρ M Q=>a ρ M fun l M'=>∃ ds,pur l=some ds/\Q (.d (.lst ds)) M'
noncomputable def aOw (a:AF):AE:=fun ρ M Q=>a ρ M fun l M'=>∀ p,M p=none->M' p=none->Q (.ref p) (mup M' p (.lst l))
noncomputable def IL (t:TE):TE:=t
theorem j8 {X:Cx}{e:Expr}{t:TE}(h:PE X e t):PE X e (IL t):=h
theorem vt {t:TE}{a:AF}(h:Zz t a):zY t (aFz a):=
 ⟨fun w e q k=>h.go w e q fun l M' p xs H' O' q1 k1 w1 o1 m1 hp hx r1=>by
  obtain ⟨ds,e1,q2⟩:=q1
  rw [j5 e1] at r1
  have r2:=r1.pure
  exact k _ _ _ _ _ q2 (k1.shown w hp) (Bd w1 m1 hx) (Rep.lst (fun z=>z.1 rfl) hx r2.1 fun i x d e1 e2=>(r2.2 i x d e1 e2).imp (xo p))⟩
theorem E2 {t:TE}{a:AF}(h:Zz t a):zY (IL t) (aOw a):=
 ⟨fun w e q k=>h.go w e q fun l M' p xs H' O' q1 k1 w1 o1 m1 hp hx r1=>k _ _ _ _ _ (q1 p (w.fresh hp).2 m1) (k1.owned w hp _) (Jw w1 o1 m1 hx r1) ⟨rfl,by rw [zm];exact fun z=>nomatch z⟩⟩
noncomputable def ID (b:AA):AF:=fun ρ M Q=>b ρ M fun xs M1=>xs.length<=sizeLine/\Q xs M1
theorem Aa {u:TA}{b:AA}(h:kB u b):Zz (Ic u) (ID b):=
 ⟨fun w e q k=>h.go w e q fun x M1 v H1 O1 q1 k1 w1 r1=>⟨by rw [r1.1];exact q1.1,fun p hp=>
  k x M1 p v _ _ q1.2 (k1.trans (qK w1 hp _)) (yq w1 hp _ (fun _ z=>nomatch z)) (.inl rfl) (w1.fresh hp).2 (by
   cases e0:(_:Hp) p with
   | none=>exact e0
   | some o=>
    exfalso
    rename_i H0 O0 _ M0 _ _
    by_cases c:O0 p
    ·by_cases c2:M0 p=none
     ·exact w1.ne p (k1.prv p c c2).2.1 hp
     ·exact w1.ne p (w1.own p (k1.mst p c2)) hp
    ·rw [(k1.fix p o c e0).1] at hp;cases hp) zf (r1.ext (qK w1 hp _))⟩⟩
noncomputable def IT (b:AA):AE:=fun ρ M Q=>b ρ M fun xs M1=>xs.length<=sizeLine/\∃ ds,pur xs=some ds/\Q (.d (.tup ds)) M1
theorem EY {u:TA}{b:AA}(h:kB u b):zY (GB u) (IT b):=
 ⟨fun w e q k=>h.go w e q fun x M1 v H1 O1 q1 k1 w1 r1=>⟨by rw [r1.1];exact q1.1,fun p hp=>by
  obtain ⟨_,ds,e1,q2⟩:=q1
  rw [j5 e1] at r1
  have r2:=r1.pure
  exact k _ _ _ _ _ q2 (k1.trans (kh w1 hp _)) (Xb w1 hp _) (Rep.tup (w1.fresh hp).1 zf r2.1 fun i x d e1 e2=>(r2.2 i x d e1 e2).ext (kh w1 hp _))⟩⟩
noncomputable def aB (a:AE):AT:=fun ρ M Q=>a ρ M fun x M1=>∃ b,x=.d (.bl b)/\Q b M1
theorem yM {H:Hp}{O:Own}{v:V}{b:Bool}(r:Rep H O v (.bl b)):v=.bl b:=by cases r;rfl
theorem zL {H:Hp}{O:Own}{v:V}{b:Int}(r:Rep H O v (.int b)):v=.int b:=by cases r;rfl
theorem WH {H:Hp}{O:Own}{v:V}{b:String}(r:Rep H O v (.ty b)):v=.ty b:=by cases r;rfl
theorem IX {t:TE}{a:AE}(h:zY t a):kA (tB t) (aB a):=⟨fun w e q k=>h.go w e q fun x M1 v H1 O1 ⟨b,e1,q1⟩ k1 w1 r1=>by
 subst e1;exact ⟨b,yM r1,k _ _ _ _ q1 k1 w1⟩⟩
theorem Bl {t:TE}{a:AE}(h:zY t a):kA (wU t) (aB a):=⟨fun w e q k=>h.go w e q fun x M1 v H1 O1 ⟨b,e1,q1⟩ k1 w1 r1=>by
 subst e1;exact ⟨b,yM r1,k _ _ _ _ q1 k1 w1⟩⟩
noncomputable def XM:AT:=fun _ M Q=>Q true M
theorem AH:kA AX XM:=⟨fun w _ q k=>k _ _ _ _ q .refl w⟩
noncomputable def Li (a b:AT):AT:=fun ρ M Q=>a ρ M fun c M1=>if c=true then b ρ M1 Q else Q false M1
noncomputable def aOr (a b:AT):AT:=fun ρ M Q=>a ρ M fun c M1=>if c=true then Q true M1 else b ρ M1 Q
noncomputable def GF (a:AT):AT:=fun ρ M Q=>a ρ M fun c M1=>Q (!c) M1
theorem EQ {t u:TT}{a b:AT}(h1:kA t a)(h2:kA u b):kA (F8 t u) (Li a b):=⟨fun w e q k=>h1.go w e q fun c M1 H1 O1 q1 k1 w1=>by
 cases c with
 | true=>exact h2.go w1 (e.ext k1) q1 fun c M2 H2 O2 q2 k2 w2=>k _ _ _ _ q2 (k1.trans k2) w2
 | false=>exact k _ _ _ _ q1 k1 w1⟩
theorem F4 {t u:TT}{a b:AT}(h1:kA t a)(h2:kA u b):kA (tOr t u) (aOr a b):=⟨fun w e q k=>h1.go w e q fun c M1 H1 O1 q1 k1 w1=>by
 cases c with
 | false=>exact h2.go w1 (e.ext k1) q1 fun c M2 H2 O2 q2 k2 w2=>k _ _ _ _ q2 (k1.trans k2) w2
 | true=>exact k _ _ _ _ q1 k1 w1⟩
theorem Ei {t:TT}{a:AT}(h1:kA t a):kA (HL t) (GF a):=⟨fun w e q k=>h1.go w e q fun c M1 H1 O1 q1 k1 w1=>k _ _ _ _ q1 k1 w1⟩
noncomputable def FC (a b:AE):AE:=fun ρ M Q=>a ρ M fun x M1=>∃ c,x=.d (.bl c)/\if c=true then b ρ M1 Q else Q (.d (.bl false)) M1
theorem Ad {t u:TE}{a b:AE}(h1:zY t a)(h2:zY u b):zY (AR t u) (FC a b):=⟨fun w e q k=>h1.go w e q fun x M1 v H1 O1 ⟨c,e1,q1⟩ k1 w1 r1=>by
 subst e1
 refine ⟨c,yM r1,?_⟩
 cases c with
 | true=>exact h2.go w1 (e.ext k1) q1 fun c M2 v2 H2 O2 q2 k2 w2 r2=>k _ _ _ _ _ q2 (k1.trans k2) w2 r2
 | false=>exact k _ _ _ _ _ q1 k1 w1 .bl⟩
noncomputable def aIf (c:AT)(a b:AE):AE:=fun ρ M Q=>c ρ M fun c M1=>if c=true then a ρ M1 Q else b ρ M1 Q
theorem F0 {c:TT}{t u:TE}{ac:AT}{a b:AE}(hc:kA c ac)(h1:zY t a)(h2:zY u b):zY (tIf c t u) (aIf ac a b):=⟨fun w e q k=>hc.go w e q fun c M1 H1 O1 q1 k1 w1=>by
 cases c with
 | true=>exact h1.go w1 (e.ext k1) q1 fun c M2 v2 H2 O2 q2 k2 w2 r2=>k _ _ _ _ _ q2 (k1.trans k2) w2 r2
 | false=>exact h2.go w1 (e.ext k1) q1 fun c M2 v2 H2 O2 q2 k2 w2 r2=>k _ _ _ _ _ q2 (k1.trans k2) w2 r2⟩
noncomputable def Al (r r':AR2)(a b c:AE):AE:=fun ρ M Q=>a ρ M fun x M1=>b ρ M1 fun y M2=>r x y M2 fun z M3=>∃ k,z=.d (.bl k)/\if k=true then c ρ M3 fun u M4=>r' y u M4 Q else Q (.d (.bl false)) M3
theorem VL {r r':R2}{ar ar':AR2}{t u v:TE}{a b c:AE}(hr:JT r ar)(hr':JT r' ar')(h1:zY t a)(h2:zY u b)(h3:zY v c):zY (BK r r' t u v) (Al ar ar' a b c):=
 ⟨fun w e q k=>h1.go w e q fun x M1 v H1 O1 q1 k1 w1 r1=>h2.go w1 (e.ext k1) q1 fun y M2 u H2 O2 q2 k2 w2 r2=>hr.go w2 (r1.ext k2) r2 q2 fun z M3 v3 H3 O3 ⟨c,e3,q3⟩ k3 w3 r3=>by
  subst e3
  refine ⟨c,yM r3,?_⟩
  have k13:=(k1.trans k2).trans k3
  cases c with
  | false=>exact k _ _ _ _ _ q3 k13 w3 .bl
  | true=>exact h3.go w3 (e.ext k13) q3 fun z4 M4 v4 H4 O4 q4 k4 w4 r4=>hr'.go w4 ((r2.ext k3).ext k4) r4 q4 fun z5 M5 v5 H5 O5 q5 k5 w5 r5=>k _ _ _ _ _ q5 ((k13.trans k4).trans k5) w5 r5⟩
structure ED (H0:Hp)(O0:Own)(M0:MH)(D:kq)(D':yQ):Prop where
 nx:∀ σ H O ρ M,Wf H O M->Er H O M σ ρ->Ext H0 O0 M0 H O M->D'.nx ρ M->D.nx σ H
 rt:∀ v x H O M,Wf H O M->Ext H0 O0 M0 H O M->zA H O M v x->D'.rt x M->D.rt v H
 bk:∀ σ H O ρ M,Wf H O M->Er H O M σ ρ->Ext H0 O0 M0 H O M->D'.bk ρ M->D.bk σ H
 ct:∀ σ H O ρ M,Wf H O M->Er H O M σ ρ->Ext H0 O0 M0 H O M->D'.ct ρ M->D.ct σ H
theorem ED.tr {H0 H1:Hp}{O0 O1:Own}{M0 M1:MH}{D:kq}{D':yQ}(E:ED H0 O0 M0 D D')(k:Ext H0 O0 M0 H1 O1 M1):ED H1 O1 M1 D D':=
 ⟨fun σ H O ρ M w e x q=>E.nx σ H O ρ M w e (k.trans x) q,fun v y H O M w x r q=>E.rt v y H O M w (k.trans x) r q,fun σ H O ρ M w e x q=>E.bk σ H O ρ M w e (k.trans x) q,fun σ H O ρ M w e x q=>E.ct σ H O ρ M w e (k.trans x) q⟩
structure jB (t:TS)(a:AS):Prop where
 go:∀ {H0:Hp} {O0:Own} {M0:MH} {D:kq} {D':yQ} {σ:St} {H:Hp} {O:Own} {ρ:ASt} {M:MH},Wf H0 O0 M0->Wf H O M->Er H O M σ ρ->Ext H0 O0 M0 H O M->a M0 D' ρ M->ED H0 O0 M0 D D'->t D σ H
noncomputable def XB:AS:=fun _ D ρ M=>D.nx ρ M
theorem Dk:jB Dg XB:=⟨fun _ w e x q E=>E.nx _ _ _ _ _ w e x q⟩
noncomputable def kZ (a b:AS):AS:=fun B D ρ M=>a B { D with nx:=b B D } ρ M
theorem Fp {t u:TS}{a b:AS}(h1:jB t a)(h2:jB u b):jB (DY t u) (kZ a b):=
 ⟨fun w0 w e x q E=>h1.go w0 w e x q ⟨fun σ H O ρ M w e x q=>h2.go w0 w e x q E,E.rt,E.bk,E.ct⟩⟩
noncomputable def Am (a:AE):AS:=fun _ D ρ M=>a ρ M fun _ M1=>D.nx ρ M1
theorem WL {t:TE}{a:AE}(h:zY t a):jB (Yt t) (Am a):=⟨fun _ w e x q E=>h.go w e q fun y M1 v H1 O1 q1 k1 w1 r1=>E.nx _ _ _ _ _ w1 (e.ext k1) (x.trans k1) q1⟩
noncomputable def HG (a:AE):AS:=fun _ D ρ M=>a ρ M D.rt
theorem DO {t:TE}{a:AE}(h:zY t a):jB (HE t) (HG a):=⟨fun _ w e x q E=>h.go w e q fun y M1 v H1 O1 q1 k1 w1 r1=>E.rt _ _ _ _ _ w1 (x.trans k1) r1 q1⟩
noncomputable def Ep (c:AT)(a b:AS):AS:=fun B D ρ M=>c ρ M fun k M1=>if k=true then a B D ρ M1 else b B D ρ M1
theorem DW {c:TT}{t u:TS}{ac:AT}{a b:AS}(hc:kA c ac)(h1:jB t a)(h2:jB u b):jB (E3 c t u) (Ep ac a b):=
 ⟨fun w0 w e x q E=>hc.go w e q fun k M1 H1 O1 q1 k1 w1=>by
  cases k with
  | true=>exact h1.go w0 w1 (e.ext k1) (x.trans k1) q1 E
  | false=>exact h2.go w0 w1 (e.ext k1) (x.trans k1) q1 E⟩
noncomputable def BI:AS:=fun _ _ _ _=>False
theorem Vi:jB Xh BI:=⟨fun _ _ _ _ q _=>q.elim⟩
structure wG (g:TG)(a:AG):Prop where
 go:∀ {v:V} {x:AV} {σ:St} {H:Hp} {O:Own} {ρ:ASt} {M:MH} {Q:St->Hp->Prop} {Q':ASt->MH->Prop},Wf H O M->Er H O M σ ρ->zA H O M v x->a x ρ M Q' ->
  (∀ σ' H' O' ρ' M',Q' ρ' M'->Ext H O M H' O' M'->Wf H' O' M'->Er H' O' M' σ' ρ'->Q σ' H')->g v σ H Q
structure XO (g:TGs)(a:AGs):Prop where
 go:∀ {v:List V} {x:List AV} {σ:St} {H:Hp} {O:Own} {ρ:ASt} {M:MH} {Q:St->Hp->Prop} {Q':ASt->MH->Prop},Wf H O M->Er H O M σ ρ->zk H O M v x->a x ρ M Q' ->
  (∀ σ' H' O' ρ' M',Q' ρ' M'->Ext H O M H' O' M'->Wf H' O' M'->Er H' O' M' σ' ρ'->Q σ' H')->g v σ H Q
noncomputable def jj (i:Nat):AG:=fun x ρ M Q=>Q (ρ.set i (some x)) M
theorem V6 {i:Nat}:wG (Q2 i) (jj i):=⟨fun w e r q k=>k _ _ _ _ _ q .refl w (e.set r i)⟩
noncomputable def FH:AGs:=fun xs ρ M Q=>xs=[]/\Q ρ M
noncomputable def W3 (a:AG)(b:AGs):AGs:=fun xs ρ M Q=>∃ x r,xs=x :: r/\a x ρ M fun ρ' M'=>b r ρ' M' Q
theorem Bz:XO GX FH:=⟨fun w e r q k=>by obtain ⟨e1,q⟩:=q;subst e1;exact ⟨r.nil_inv,k _ _ _ _ _ q .refl w e⟩⟩
theorem VE {g:TG}{u:TGs}{a:AG}{b:AGs}(h1:wG g a)(h2:XO u b):XO (BV g u) (W3 a b):=⟨fun w e r q k=>by
 obtain ⟨x,r',e1,q⟩:=q;subst e1
 obtain ⟨v,vr,e2,rv,rr⟩:=r.cons_inv
 subst e2
 exact ⟨v,vr,rfl,h1.go w e rv q fun σ' H' O' ρ' M' q1 k1 w1 e1=>h2.go w1 e1 (rr.ext k1) q1 fun σ2 H2 O2 ρ2 M2 q2 k2 w2 e2=>k _ _ _ _ _ q2 (k1.trans k2) w2 e2⟩⟩
noncomputable def FL (n:Nat)(b:AGs):AG:=fun x ρ M Q=>∃ l,x=.d (.tup l)/\l.length=n/\b (l.map .d) ρ M Q
theorem WY {K:PySem.W.Frag}{n:Nat}{u:TGs}{b:AGs}(h:XO u b):wG (Ed K n u) (FL n b):=⟨fun {v x σ H O ρ M Q Q'} w e r q k=>by
 obtain ⟨l,e1,ln,q⟩:=q;subst e1
 cases (show Rep H O v (.tup l) from r) with
 | @tup a xs _ o1 h1 l1 r1=>exact ⟨a,xs,rfl,SqT.of h1,l1.trans ln,h.go w e (Vb.av ⟨l1,r1⟩) q k⟩⟩
noncomputable def qR (x:AV)(M:MH):Option (List AV):=match x with
 | .d (.lst l)=>some (l.map .d)
 | .ref a=>match M a with
  | some (.lst l)=>some l
  | _=>none
 | _=>none
noncomputable def Hn (x:AV):Option (List AV):=match x with
 | .d (.tup l)=>some (l.map .d)
 | _=>none
noncomputable def qm (x:AV)(M:MH):Option (List AV):=match x with
 | .d (.lst l)=>some (l.map .d)
 | .d (.tup l)=>some (l.map .d)
 | .ref a=>match M a with
  | some (.lst l)=>some l
  | _=>none
 | _=>none
theorem W7 (l:List Dat)(M:MH):qR (.d (.lst l)) M=some (l.map .d):=rfl
theorem Gp (l:List Dat):Hn (.d (.tup l))=some (l.map .d):=rfl
theorem Ig (l:List Dat)(M:MH):qm (.d (.lst l)) M=some (l.map .d):=rfl
theorem Hg (l:List Dat)(M:MH):qm (.d (.tup l)) M=some (l.map .d):=rfl
theorem je {a:Addr}{M:MH}{l:List AV}(h:M a=some (.lst l)):qR (.ref a) M=some l:=by unfold qR;dsimp only;rw [h]
theorem jR {a:Addr}{M:MH}{l:List AV}(h:M a=some (.lst l)):qm (.ref a) M=some l:=by unfold qm;dsimp only;rw [h]
theorem vX {x:AV}{M:MH}{l:List AV}(h:qR x M=some l):(∃ m,x=.d (.lst m)/\l=m.map .d) \/ ∃ a,x=.ref a/\M a=some (.lst l):=by
 cases x with
 | d x=>
  cases x with
  | lst m=>cases h;exact .inl ⟨m,rfl,rfl⟩
  | _=>cases h
 | ref a=>
  unfold qR at h
  dsimp only at h
  cases e:M a with
  | none=>rw [e] at h;cases h
  | some o=>
   rw [e] at h
   cases o with
   | lst m=>cases h;exact .inr ⟨a,rfl,e⟩
   | _=>cases h
theorem jU {x:AV}{M:MH}{l:List AV}(h:qm x M=some l):qR x M=some l \/ ∃ m,x=.d (.tup m)/\l=m.map .d:=by
 cases x with
 | d x=>
  cases x with
  | lst m=>cases h;exact .inl rfl
  | tup m=>cases h;exact .inr ⟨m,rfl,rfl⟩
  | _=>cases h
 | ref a=>exact .inl h
theorem qG {H:Hp}{O:Own}{M:MH}{v:V}{x:AV}{l:List AV}(w:Wf H O M)(r:zA H O M v x)(h:qR x M=some l):∃ a xs,v=.ref a/\H a=some (.lst xs)/\zk H O M xs l:=by
 rcases vX h with ⟨m,rfl,rfl⟩ | ⟨a,rfl,e⟩
 ·cases (show Rep H O v (.lst m) from r) with
  | @lst a xs _ o1 h1 l1 r1=>exact ⟨a,xs,rfl,h1,Vb.av ⟨l1,r1⟩⟩
 ·obtain ⟨xs,h1,r1⟩:=w.mo a _ e
  exact ⟨a,xs,r.1,h1,r1⟩
theorem yv {H:Hp}{O:Own}{M:MH}{v:V}{x:AV}{l:List AV}(r:zA H O M v x)(h:Hn x=some l):∃ a xs,v=.ref a/\H a=some (.tup xs)/\zk H O M xs l:=by
 cases x with
 | ref a=>cases h
 | d x=>
  cases x with
  | tup m=>
   cases h
   cases (show Rep H O v (.tup m) from r) with
   | @tup a xs _ o1 h1 l1 r1=>exact ⟨a,xs,rfl,h1,Vb.av ⟨l1,r1⟩⟩
  | _=>cases h
theorem wr {H:Hp}{O:Own}{M:MH}{v:V}{x:AV}{l:List AV}(w:Wf H O M)(r:zA H O M v x)(h:qm x M=some l):∃ a xs,v=.ref a/\(H a=some (.lst xs) \/ H a=some (.tup xs))/\zk H O M xs l:=by
 rcases jU h with e | ⟨m,rfl,rfl⟩
 ·obtain ⟨a,xs,h1,h2,h3⟩:=qG w r e;exact ⟨a,xs,h1,.inl h2,h3⟩
 ·obtain ⟨a,xs,h1,h2,h3⟩:=yv (l:=m.map .d) r rfl;exact ⟨a,xs,h1,.inr h2,h3⟩
structure We (t:BS)(a:AV->AV->AV->MH->(MH->Prop)->Prop):Prop where
 go:∀ {o i v:V} {ao ai av:AV} {H:Hp} {O:Own} {M:MH} {Q:Hp->Prop} {Q':MH->Prop},Wf H O M->zA H O M o ao->zA H O M i ai->zA H O M v av->a ao ai av M Q'->(∀ M' H' O',Q' M'->Ext H O M H' O' M'->Wf H' O' M'->Q H')->t o i v H Q
noncomputable def B3 (a b:AE)(s:AV->AV->AV->MH->(MH->Prop)->Prop):AG:=fun x ρ M Q=>a ρ M fun o M1=>b ρ M1 fun i M2=>s o i x M2 fun M3=>Q ρ M3
theorem AW {to ti:TE}{t:BS}{a b:AE}{s:AV->AV->AV->MH->(MH->Prop)->Prop}(h1:zY to a)(h2:zY ti b)(h3:We t s):wG (Iu to ti t) (B3 a b s):=⟨fun w e r q k=>
 h1.go w e q fun x M1 v H1 O1 q1 k1 w1 r1=>h2.go w1 (e.ext k1) q1 fun y M2 u H2 O2 q2 k2 w2 r2=>h3.go w2 (r1.ext k2) r2 (r.ext (k1.trans k2)) q2 fun M3 H3 O3 q3 k3 w3=>k _ _ _ _ _ q3 ((k1.trans k2).trans k3) w3 (e.ext ((k1.trans k2).trans k3))⟩
theorem jI {M:MH}{p:Addr}{o:MO}(h:M p=some o):M p ≠ none:=by rw [h];exact fun z=>nomatch z
noncomputable def asL:AV->AV->AV->MH->(MH->Prop)->Prop:=fun o i v M Q=>∃ p l k j,o=.ref p/\i=.d (.int k)/\M p=some (.lst l)/\ixN l.length k=some j/\Q (mup M p (.lst (l.set j v)))
theorem WA:We Kg asL:=⟨fun w ro ri rv q k=>by
 obtain ⟨p,l,n,j,rfl,rfl,hm,hj,q⟩:=q
 obtain ⟨xs,hx,rx⟩:=w.mo p _ hm
 have np:=jI hm
 refine ⟨n,zL ri,p,ro.1,xs,hx,j,by rw [rx.1];exact hj,k _ _ _ q (xY w np _ _) (Wn w np (fun _ z=>nomatch z) ⟨_,zf,(rx.set rv j).ext (xY w np _ _)⟩)⟩⟩
noncomputable def HJ (a:AE)(g:AG):AS:=fun _ D ρ M=>a ρ M fun x M1=>g x ρ M1 D.nx
theorem Fi {t:TE}{g:TG}{a:AE}{ag:AG}(h:zY t a)(hg:wG g ag):jB (BB t g) (HJ a ag):=⟨fun _ w e x q E=>h.go w e q fun y M1 v H1 O1 q1 k1 w1 r1=>hg.go w1 (e.ext k1) r1 q1 fun σ2 H2 O2 ρ2 M2 q2 k2 w2 e2=>E.nx _ _ _ _ _ w2 e2 ((x.trans k1).trans k2) q2⟩
noncomputable def Lc (i j:Nat)(a:AA):AS:=fun _ D ρ M=>a ρ M fun xs M1=>∃ x y,xs=[x,y]/\D.nx ((ρ.set i (some x)).set j (some y)) M1
theorem EI {i j:Nat}{t:TA}{a:AA}(h:kB t a):jB (Ii i j t) (Lc i j a):=⟨fun _ w e x q E=>h.go w e q fun ys M1 vs H1 O1 q1 k1 w1 r1=>by
 obtain ⟨y,z,rfl,q2⟩:=q1
 obtain ⟨v1,r',rfl,a1,r2⟩:=r1.cons_inv
 obtain ⟨v2,r',rfl,a2,r3⟩:=r2.cons_inv
 rw [r3.nil_inv]
 exact ⟨v1,v2,rfl,E.nx _ _ _ _ _ w1 (((e.ext k1).set a1 i).set a2 j) (x.trans k1) q2⟩⟩
structure FM (t:TIp)(a:AR2):Prop where
 go:∀ {x y:V} {dx dy:AV} {H:Hp} {O:Own} {M:MH} {Q:VK} {Q':AK},Wf H O M->zA H O M x dx->zA H O M y dy->a dx dy M Q'->(∀ x M' v H' O',Q' x M'->Ext H O M H' O' M'->Wf H' O' M'->zA H' O' M' v x->Q v H')->t x y H Q
noncomputable def IF (i:Nat)(a:AE)(r:AR2):AS:=fun _ D ρ M=>∃ x,ρ[i]?=some (some x)/\a ρ M fun y M1=>r x y M1 fun z M2=>D.nx (ρ.set i (some z)) M2
theorem DD {i:Nat}{t:TE}{ti:TIp}{a:AE}{r:AR2}(h:zY t a)(hi:FM ti r):jB (Hi i t ti) (IF i a r):=⟨fun _ w e x q E=>by
 obtain ⟨y,hy,q⟩:=q
 obtain ⟨v,hv,rv⟩:=e.get i y hy
 exact ⟨v,hv,h.go w e q fun z M1 u H1 O1 q1 k1 w1 r1=>hi.go w1 (rv.ext k1) r1 q1 fun z2 M2 v2 H2 O2 q2 k2 w2 r2=>E.nx _ _ _ _ _ w2 ((e.ext (k1.trans k2)).set r2 i) (x.trans (k1.trans k2)) q2⟩⟩
noncomputable def HF (c:AT)(b:AS):AS:=fun B D ρ M=>∃ W:Nat->ASt->MH->Prop,(∃ m,W m ρ M)/\∀ m ρ M,W m ρ M->c ρ M fun k M1=>if k=true then b B { D with nx:=fun ρ' M'=>∃ m',m'<m/\W m' ρ' M',ct:=fun ρ' M'=>∃ m',m'<m/\W m' ρ' M',bk:=D.nx } ρ M1 else D.nx ρ M1
theorem Vg {c:TT}{t:TS}{ac:AT}{a:AS}(hc:kA c ac)(h:jB t a):jB (KS c t) (HF ac a):=⟨fun {H0 O0 M0 D D' σ H O ρ M} w0 w e x q E=>by
 obtain ⟨W,⟨m,h0⟩,st⟩:=q
 refine ⟨fun m σ H=>∃ O ρ M,Wf H O M/\Er H O M σ ρ/\Ext H0 O0 M0 H O M/\W m ρ M,⟨m,O,ρ,M,w,e,x,h0⟩,?_⟩
 rintro m σ H ⟨O,ρ,M,w,e,x,hw⟩
 refine hc.go w e (st m ρ M hw) fun k M1 H1 O1 q1 k1 w1=>?_
 cases k with
 | false=>exact E.nx _ _ _ _ _ w1 (e.ext k1) (x.trans k1) q1
 | true=>exact ⟨fun σ' H'=>∃ m',m'<m/\∃ O ρ M,Wf H' O M/\Er H' O M σ' ρ/\Ext H0 O0 M0 H' O M/\W m' ρ M,fun σ' H' z=>z,h.go w0 w1 (e.ext k1) (x.trans k1) q1 ⟨fun σ H O ρ M w e x ⟨m',hm,hw⟩=>⟨m',hm,O,ρ,M,w,e,x,hw⟩,E.rt,E.nx,fun σ H O ρ M w e x ⟨m',hm,hw⟩=>⟨m',hm,O,ρ,M,w,e,x,hw⟩⟩⟩⟩
noncomputable def wc (J:It)(H:Hp)(O:Own)(M:MH)(l:List AV)(G:MH->Prop):Prop:=
 ∀ (H':Hp) (O':Own) (M':MH),(∀ a o,¬ O a->H a=some o->H' a=some o/\¬ O' a)->(∀ a,M a ≠ none->M' a ≠ none)->Wf H' O' M'->G M'->∀ i:Nat,(i=l.length->J.stop i H') /\
  ∀ y,l[i]?=some y->J.go i H'/\∀ x H'',J.yld i H' x H''->Ext H' O' M' H'' O' M'/\Wf H'' O' M'/\zA H'' O' M' x y
structure Kn (wi:TI)(ai:AI):Prop where
 go:∀ {σ:St} {H:Hp} {O:Own} {ρ:ASt} {M:MH} {R:It->Hp->Prop} {R':List AV->(MH->Prop)->MH->Prop},Wf H O M->Er H O M σ ρ->ai ρ M R'->(∀ l G M' J H' O',R' l G M'->Ext H O M H' O' M'->Wf H' O' M'->wc J H' O' M' l G->R J H')->wi σ H R
noncomputable def FV (ag:AG)(ab:AS)(B:MH)(D:yQ)(G:MH->Prop)(l:List AV)(ρ:ASt)(M:MH):Prop:=
 ∃ Pv:Nat->ASt->MH->Prop,Pv 0 ρ M/\(∀ i x ρ M,l[i]?=some x->Pv i ρ M->G M/\ag x ρ M fun ρ' M'=>ab B { D with nx:=Pv (i+1),ct:=Pv (i+1),bk:=D.nx } ρ' M')/\∀ ρ M,Pv l.length ρ M->G M/\D.nx ρ M
noncomputable def G4 (ai:AI)(ag:AG)(ab:AS):AS:=fun _ D ρ M=>ai ρ M fun l G M1=>FV ag ab M1 D G l ρ M1
theorem EM {wi:TI}{g:TG}{t:TS}{ai:AI}{ag:AG}{ab:AS}(hi:Kn wi ai)(hg:wG g ag)(hb:jB t ab):jB (DM wi g t) (G4 ai ag ab):=⟨fun {H0 O0 M0 D D' σ H O ρ M} w0 w e x q E=>by
 rw [Ql]
 refine hi.go w e q fun l G M1 J H1 O1 q1 k1 w1 hj=>?_
 have E1:=E.tr (x.trans k1)
 obtain ⟨Pv,p0,ps,pd⟩:=q1
 refine ⟨fun i m σ H=>m=l.length - i/\i<=l.length/\∃ O ρ M,Wf H O M/\Er H O M σ ρ/\Ext H1 O1 M1 H O M/\Pv i ρ M,⟨l.length,by simp,Nat.zero_le _,O1,ρ,M1,w1,e.ext k1,.refl,p0⟩,?_⟩
 rintro i m σ H ⟨rfl,hi,O,ρ,M,w,e,x,hf⟩
 by_cases hil:i<l.length
 ·have hy:l[i]?=some l[i]:=List.getElem?_eq_getElem hil
  obtain ⟨hG,q2⟩:=ps i l[i] ρ M hy hf
  obtain ⟨j1,j2⟩:=(hj H O M x.fix x.mst w hG i).2 l[i] hy
  refine .inr ⟨j1,fun σ' H'=>∃ O ρ M,Wf H' O M/\Er H' O M σ' ρ/\Ext H1 O1 M1 H' O M/\Pv (i+1) ρ M,fun σ' H' z=>⟨l.length - (i+1),by walk_at "o",rfl,hil,z⟩,fun v H' hv=>?_⟩
  obtain ⟨k2,w2,r2⟩:=j2 v H' hv
  refine hg.go w2 (e.ext k2) r2 q2 fun σ3 H3 O3 ρ3 M3 q3 k3 w3 e3=>?_
  exact hb.go w1 w3 e3 ((x.trans k2).trans k3) q3 ⟨fun σ H O ρ M w e x q=>⟨O,ρ,M,w,e,x,q⟩,E1.rt,E1.nx,fun σ H O ρ M w e x q=>⟨O,ρ,M,w,e,x,q⟩⟩
 ·have e0:i=l.length:=by walk_at "o"
  subst e0
  obtain ⟨hG,q2⟩:=pd ρ M hf
  exact .inl ⟨(hj H O M x.fix x.mst w hG l.length).1 rfl,E1.nx _ _ _ _ _ w e x q2⟩⟩
theorem xc {H H1:Hp}{O O1:Own}{M M1:MH}(w1:Wf H1 O1 M1)(k1:Ext H O M H1 O1 M1){p:Addr}(hp:H1 p=none):H p=none:=by
 cases e0:H p with
 | none=>rfl
 | some o=>
  exfalso
  by_cases c:O p
  ·by_cases c2:M p=none
   ·exact w1.ne p (k1.prv p c c2).2.1 hp
   ·exact w1.ne p (w1.own p (k1.mst p c2)) hp
  ·rw [(k1.fix p o c e0).1] at hp;cases hp
theorem VY {K:PySem.W.Frag}{H:Hp}{O:Own}{M:MH}{a:Addr}{x:AV}{l:List AV}(r:zA H O M (.ref a) x)(h:qR x M=some l):wc (Itl K a) H O M l (fun M'=>qR x M'=some l):=by
 intro H' O' M' fix mst w' hG i
 obtain ⟨a',xs,e,h1,r1⟩:=qG w' (r.imp fix mst) hG
 cases e
 refine ⟨fun e=>⟨xs,SqL.of h1,by rw [r1.1];walk_at "o"⟩,fun y hy=>?_⟩
 obtain ⟨v,hv,rv⟩:=r1.get hy
 refine ⟨⟨xs,v,SqL.of h1,hv⟩,fun z H'' hz=>?_⟩
 obtain ⟨e1,e2⟩:=hz
 subst e1
 have:=e2 xs (SqL.of h1)
 rw [hv] at this;cases this
 exact ⟨.refl,w',rv⟩
theorem WT {K:PySem.W.Frag}{H:Hp}{O:Own}{M:MH}{a:Addr}{x:AV}{l:List AV}(r:zA H O M (.ref a) x)(h:Hn x=some l):wc (Itt K a) H O M l (fun _=>True):=by
 intro H' O' M' fix mst w' hG i
 obtain ⟨a',xs,e,h1,r1⟩:=yv (r.imp fix mst) h
 cases e
 refine ⟨fun e=>⟨xs,SqT.of h1,by rw [r1.1];walk_at "o"⟩,fun y hy=>?_⟩
 obtain ⟨v,hv,rv⟩:=r1.get hy
 refine ⟨⟨xs,v,SqT.of h1,hv⟩,fun z H'' hz=>?_⟩
 obtain ⟨e1,e2⟩:=hz
 subst e1
 have:=e2 xs (SqT.of h1)
 rw [hv] at this;cases this
 exact ⟨.refl,w',rv⟩
noncomputable def aiS (a:AE):AI:=fun ρ M R=>a ρ M fun x M1=>∃ l,qm x M1=some l/\R l (fun M'=>qm x M'=some l) M1
theorem wc.mono {J:It}{H:Hp}{O:Own}{M:MH}{l:List AV}{G G':MH->Prop}(h:wc J H O M l G)(k:∀ M,G' M->G M):wc J H O M l G':=fun H' O' M' fix mst w' hG=>h H' O' M' fix mst w' (k _ hG)
theorem Hr {K:PySem.W.Frag}{t:TE}{a:AE}(h:zY t a):Kn (iLT K t) (aiS a):=⟨fun w e q k=>h.go w e q fun x M1 v H1 O1 ⟨l,hl,q1⟩ k1 w1 r1=>by
 rcases jU hl with hl' | ⟨m,rfl,rfl⟩
 ·obtain ⟨a,xs,rfl,h1,_⟩:=qG w1 r1 hl'
  refine ⟨a,rfl,.inl ⟨⟨xs,SqL.of h1⟩,k _ _ _ _ _ _ q1 k1 w1 ((VY r1 hl').mono fun M hM=>?_)⟩⟩
  rcases jU hM with z | ⟨m,rfl,rfl⟩
  ·exact z
  ·cases hl'
 ·obtain ⟨a,xs,rfl,h1,_⟩:=yv (l:=m.map .d) r1 rfl
  exact ⟨a,rfl,.inr ⟨⟨xs,SqT.of h1⟩,k _ _ _ _ _ _ q1 k1 w1 ((WT r1 rfl).mono fun _ _=>trivial)⟩⟩⟩
noncomputable def Qh (lo c:Int)(n:Nat):List AV:=(List.range n).map fun (k:Nat)=>.d (.int (lo+(k:Int) * c))
theorem JF (lo c:Int)(n:Nat):(Qh lo c n).length=n:=by simp [Qh]
theorem Kc {lo c:Int}{n i:Nat}{y:AV}(h:(Qh lo c n)[i]?=some y):i<n/\y=.d (.int (lo+(i:Int) * c)):=by
 have hi:=(List.getElem?_eq_some_iff.mp h).1
 rw [JF] at hi
 unfold Qh at h
 rw [List.getElem?_map,List.getElem?_range hi] at h
 cases h
 exact ⟨hi,rfl⟩
theorem W5 {H:Hp}{O:Own}{M:MH}(lo:Int)(n:Nat):wc (Itr lo n) H O M (Qh lo 1 n) (fun _=>True):=by
 intro H' O' M' fix mst w' hG i
 refine ⟨fun e=>by rw [JF] at e;exact Nat.le_of_eq e.symm,fun y hy=>?_⟩
 obtain ⟨hi,rfl⟩:=Kc hy
 refine ⟨hi,fun z H'' hz=>?_⟩
 obtain ⟨rfl,rfl⟩:=hz
 rw [Int.mul_one]
 exact ⟨.refl,w',.int⟩
noncomputable def Lm (a:AA):AI:=fun ρ M R=>a ρ M fun xs M1=>∃ j:Int,xs=[.d (.int j)]/\-(2 ^ 62)<=j/\j<2 ^ 62/\R (Qh 0 1 j.toNat) (fun _=>True) M1
theorem DR {t:TA}{a:AA}(h:kB t a):Kn (B1 t) (Lm a):=⟨fun w e q k=>h.go w e q fun x M1 v H1 O1 ⟨j,e1,j1,j2,q1⟩ k1 w1 r1=>by
 subst e1
 obtain ⟨v1,r',rfl,a1,r2⟩:=r1.cons_inv
 rw [r2.nil_inv,zL a1]
 exact ⟨j,rfl,j1,j2,k _ _ _ _ _ _ q1 k1 w1 (W5 _ _)⟩⟩
noncomputable def wn (m:List Dat):List AV:=(List.range m.length).map fun (i:Nat)=>.d (.tup [.int (i:Int),m.getD i .non])
theorem jt (m:List Dat):(wn m).length=m.length:=by simp [wn]
theorem jV {m:List Dat}{i:Nat}{y:AV}(h:(wn m)[i]?=some y):∃ d,m[i]?=some d/\y=.d (.tup [.int (i:Int),d]):=by
 have hi:=(List.getElem?_eq_some_iff.mp h).1
 rw [jt] at hi
 unfold wn at h
 rw [List.getElem?_map,List.getElem?_range hi] at h
 cases h
 exact ⟨m[i],List.getElem?_eq_getElem hi,by dsimp only;rw [List.getD_eq_getElem?_getD,List.getElem?_eq_getElem hi];rfl⟩
theorem JL {H:Hp}{O:Own}{M:MH}(w:Wf H O M){p:Addr}(hp:H p=none){x y:V}{d e:Dat}(r1:Rep H O x d)(r2:Rep H O y e):Ext H O M (upd H p (.tup [x,y])) O M/\Wf (upd H p (.tup [x,y])) O M/\zA (upd H p (.tup [x,y])) O M (.ref p) (.d (.tup [d,e])):=
 ⟨kh w hp _,Xb w hp _,Rep.tup (w.fresh hp).1 zf rfl fun i z f h1 h2=>by
  match i,h1,h2 with
  | 0,h1,h2=>cases h1;cases h2;exact r1.ext (kh w hp _)
  | 1,h1,h2=>cases h1;cases h2;exact r2.ext (kh w hp _)
  | (i+2),h1,_=>cases h1⟩
theorem Vj {K:PySem.W.Frag}{H:Hp}{O:Own}{M:MH}{a:Addr}{x:AV}{m:List Dat}(r:zA H O M (.ref a) x)(h:qR x M=some (m.map .d)):wc (Ite K a) H O M (wn m) (fun M'=>qR x M'=some (m.map .d)):=by
 intro H' O' M' fix mst w' hG i
 obtain ⟨a',xs,e,h1,r1⟩:=qG w' (r.imp fix mst) hG
 cases e
 have l1:=r1.1
 rw [List.length_map] at l1
 refine ⟨fun e=>⟨xs,SqL.of h1,by rw [jt] at e;walk_at "o"⟩,fun y hy=>?_⟩
 obtain ⟨d,hd,rfl⟩:=jV hy
 obtain ⟨v,hv,rv⟩:=r1.get (i:=i) (d:=.d d) (by rw [List.getElem?_map,hd];rfl)
 refine ⟨⟨xs,v,SqL.of h1,hv⟩,fun z H'' hz=>?_⟩
 obtain ⟨p,x',hp,rfl,e2,rfl⟩:=hz
 have:=e2 xs (SqL.of h1)
 rw [hv] at this;cases this
 exact JL w' hp .int rv
theorem Xj {K:PySem.W.Frag}{H:Hp}{O:Own}{M:MH}{a:Addr}{m:List Dat}(r:zA H O M (.ref a) (.d (.tup m))):wc (D0 K a) H O M (wn m) (fun _=>True):=by
 intro H' O' M' fix mst w' hG i
 obtain ⟨a',xs,e,h1,r1⟩:=yv (l:=m.map .d) (r.imp fix mst) rfl
 cases e
 have l1:=r1.1
 rw [List.length_map] at l1
 refine ⟨fun e=>⟨xs,SqT.of h1,by rw [jt] at e;walk_at "o"⟩,fun y hy=>?_⟩
 obtain ⟨d,hd,rfl⟩:=jV hy
 obtain ⟨v,hv,rv⟩:=r1.get (i:=i) (d:=.d d) (by rw [List.getElem?_map,hd];rfl)
 refine ⟨⟨xs,v,SqT.of h1,hv⟩,fun z H'' hz=>?_⟩
 obtain ⟨p,x',hp,rfl,e2,rfl⟩:=hz
 have:=e2 xs (SqT.of h1)
 rw [hv] at this;cases this
 exact JL w' hp .int rv
noncomputable def aiE (a:AA):AI:=fun ρ M R=>a ρ M fun xs M1=>∃ x l m,xs=[x]/\qm x M1=some l/\pur l=some m/\R (wn m) (fun M'=>qm x M'=some l) M1
theorem Xf {x:AV}{M M':MH}{l l':List AV}(h:qR x M=some l)(h':qm x M'=some l'):qR x M'=some l':=by
 rcases jU h' with z | ⟨m,rfl,rfl⟩
 ·exact z
 ·cases h
theorem Gw {K:PySem.W.Frag}{t:TA}{a:AA}(h:kB t a):Kn (Qd K t) (aiE a):=⟨fun w e q k=>h.go w e q fun xs M1 v H1 O1 ⟨x,l,m,e1,hl,hm,q1⟩ k1 w1 r1=>by
 subst e1
 obtain ⟨v1,r',rfl,a1,r2⟩:=r1.cons_inv
 rw [r2.nil_inv]
 rw [j5 hm] at hl q1
 rcases jU hl with hl' | ⟨m',rfl,e2⟩
 ·obtain ⟨a,xs,rfl,h1,_⟩:=qG w1 a1 hl'
  exact ⟨a,rfl,.inl ⟨⟨xs,SqL.of h1⟩,k _ _ _ _ _ _ q1 k1 w1 ((Vj a1 hl').mono fun M hM=>Xf hl' hM)⟩⟩
 ·obtain rfl:m=m':=by have:=congrArg pur e2;rw [qf,qf] at this;cases this;rfl
  obtain ⟨a,xs,rfl,h1,_⟩:=yv (l:=m.map .d) a1 rfl
  exact ⟨a,rfl,.inr ⟨⟨xs,SqT.of h1⟩,k _ _ _ _ _ _ q1 k1 w1 ((Xj a1).mono fun _ _=>trivial)⟩⟩⟩
structure y6 (D:Addr)(H:Hp)(O:Own)(M:MH)(H':Hp)(O':Own)(M':MH):Prop where
 fix:∀ a o,¬ O a->H a=some o->H' a=some o/\¬ O' a
 prv:∀ a,a ≠ D->O a->M a=none->H' a=H a/\O' a/\M' a=none
 mst:∀ a,M a ≠ none->M' a ≠ none
theorem Ext.x {D:Addr}{H H':Hp}{O O':Own}{M M':MH}(k:Ext H O M H' O' M'):y6 D H O M H' O' M':=⟨k.fix,fun a _=>k.prv a,k.mst⟩
theorem y6.trans {D:Addr}{H H1 H2:Hp}{O O1 O2:Own}{M M1 M2:MH}(a:y6 D H O M H1 O1 M1)(b:y6 D H1 O1 M1 H2 O2 M2):y6 D H O M H2 O2 M2:=
 ⟨fun x o h e=>let ⟨e1,h1⟩:=a.fix x o h e;b.fix x o h1 e1,fun x hx h e=>by
  obtain ⟨e1,h1,n1⟩:=a.prv x hx h e
  obtain ⟨e2,h2,n2⟩:=b.prv x hx h1 n1
  exact ⟨e2.trans e1,h2,n2⟩,fun x h=>b.mst x (a.mst x h)⟩
theorem y6.set {D:Addr}{H:Hp}{O:Own}{M:MH}(hO:O D)(o:HO):y6 D H O M (upd H D o) O M:=⟨vc hO o,fun a ha h e=>⟨zq ha,h,e⟩,fun _ h=>h⟩
theorem Er.imp {H H':Hp}{O O':Own}{M M':MH}{σ:St}{ρ:ASt}(e:Er H O M σ ρ)(k:∀ a o,¬ O a->H a=some o->H' a=some o/\¬ O' a)(hm:∀ a,M a ≠ none->M' a ≠ none):Er H' O' M' σ ρ:=⟨e.len,fun i x h=>let ⟨v,h1,h2⟩:=e.get i x h;⟨v,h1,h2.imp k hm⟩⟩
noncomputable abbrev ATR:=List AV->ASt->MH->(List AV->ASt->MH->Prop)->Prop
structure Ya (D:Addr)(tr:TR)(a:ATR):Prop where
 go:∀ {σ:St} {H:Hp} {O:Own} {ρ:ASt} {M:MH} {acc:List AV} {ys:List V} {N:St->Hp->Prop} {N':List AV->ASt->MH->Prop},Wf H O M->Er H O M σ ρ->O D->M D=none->H D=some (.lst ys)->zk H O M ys acc->a acc ρ M N' ->
  (∀ acc' ρ' M' σ' H' O' ys',N' acc' ρ' M'->y6 D H O M H' O' M'->Wf H' O' M'->Er H' O' M' σ' ρ'->O' D->M' D=none->H' D=some (.lst ys')->zk H' O' M' ys' acc'->N σ' H')->tr σ H N
noncomputable def wV (a:AE):ATR:=fun acc ρ M N=>a ρ M fun x M1=>acc.length<sizeLine/\N (acc ++ [x]) ρ M1
theorem JZ {D:Addr}{t:TE}{a:AE}(h:zY t a):Ya D (Xn t D) (wV a):=⟨fun {σ H O ρ M acc ys N N'} w e o m hd r q k=>h.go w e q fun x M1 v H1 O1 ⟨q0,q1⟩ k1 w1 r1=>by
 obtain ⟨e1,o1,m1⟩:=k1.prv D o m
 have r':=r.ext k1
 refine ⟨ys,e1.trans hd,by rw [r.1];exact q0,k _ _ _ _ _ _ (ys ++ [v]) q1 (k1.x.trans (y6.set o1 _)) (Xp w1 o1 m1 (e1.trans hd) _ (fun _ z=>nomatch z)) ((e.ext k1).imp (vc o1 _) (fun _ z=>z)) o1 m1 zf ((r'.snoc r1).imp (vc o1 _) (fun _ z=>z))⟩⟩
noncomputable def WD (ag:AG)(at_:AT)(tr:ATR)(G:MH->Prop)(N:List AV->ASt->MH->Prop)(l acc:List AV)(ρ:ASt)(M:MH):Prop:=
 ∃ Pv:Nat->List AV->ASt->MH->Prop,Pv 0 acc ρ M/\(∀ i x acc ρ M,l[i]?=some x->Pv i acc ρ M->G M/\ag x ρ M fun ρ2 M2=>at_ ρ2 M2 fun b M3=>if b=true then tr acc ρ2 M3 (Pv (i+1)) else Pv (i+1) acc ρ2 M3)/\∀ acc ρ M,Pv l.length acc ρ M->G M/\N acc ρ M
theorem Hl {D:Addr}{g:TG}{tt:TT}{tr:TR}{ag:AG}{at_:AT}{atr:ATR}(hg:wG g ag)(ht:kA tt at_)(hr:Ya D tr atr){J:It}{H1:Hp}{O1:Own}{M1:MH}{l:List AV}{G:MH->Prop}(hj:wc J H1 O1 M1 l G){N':List AV->ASt->MH->Prop}{N:St->Hp->Prop}
  {σ:St} {ρ:ASt} {acc:List AV} {ys:List V} (w:Wf H1 O1 M1) (e:Er H1 O1 M1 σ ρ) (o:O1 D) (m:M1 D=none) (hd:H1 D=some (.lst ys)) (r:zk H1 O1 M1 ys acc) (q:WD ag at_ atr G N' l acc ρ M1)
  (k:∀ acc' ρ' M' σ' H' O' ys',N' acc' ρ' M'->y6 D H1 O1 M1 H' O' M'->Wf H' O' M'->Er H' O' M' σ' ρ'->O' D->M' D=none->H' D=some (.lst ys')->zk H' O' M' ys' acc'->N σ' H'):CL J g tt tr N σ H1:=by
 obtain ⟨Pv,p0,ps,pd⟩:=q
 refine ⟨fun i n σ H=>n=l.length - i/\i<=l.length/\∃ O ρ M acc ys,Wf H O M/\Er H O M σ ρ/\y6 D H1 O1 M1 H O M/\O D/\M D=none/\H D=some (.lst ys)/\zk H O M ys acc/\Pv i acc ρ M,
  ⟨l.length,by simp,Nat.zero_le _,O1,ρ,M1,acc,ys,w,e,Ext.refl.x,o,m,hd,r,p0⟩,?_⟩
 rintro i n σ H ⟨rfl,hi,O,ρ,M,acc,ys,w,e,x,o,m,hd,r,hf⟩
 by_cases hil:i<l.length
 ·have hy:l[i]?=some l[i]:=List.getElem?_eq_getElem hil
  obtain ⟨hG,q2⟩:=ps i l[i] acc ρ M hy hf
  obtain ⟨j1,j2⟩:=(hj H O M x.fix x.mst w hG i).2 l[i] hy
  refine .inr ⟨j1,fun σ' H'=>∃ O ρ M acc ys,Wf H' O M/\Er H' O M σ' ρ/\y6 D H1 O1 M1 H' O M/\O D/\M D=none/\H' D=some (.lst ys)/\zk H' O M ys acc/\Pv (i+1) acc ρ M,fun σ' H' z=>⟨l.length - (i+1),by walk_at "o",rfl,hil,z⟩,fun v H' hv=>?_⟩
  obtain ⟨k2,w2,r2⟩:=j2 v H' hv
  refine hg.go w2 (e.ext k2) r2 q2 fun σ3 H3 O3 ρ3 M3 q3 k3 w3 e3=>?_
  refine ht.go w3 e3 q3 fun b M4 H4 O4 q4 k4 w4=>?_
  have k24:=(k2.trans k3).trans k4
  obtain ⟨d4,o4,m4⟩:=k24.prv D o m
  have r4:=r.ext k24
  cases b with
  | true=>
   exact hr.go w4 (e3.ext k4) o4 m4 (d4.trans hd) r4 q4 fun acc' ρ' M' σ' H' O' ys' q5 k5 w5 e5 o5 m5 d5 r5=>⟨O',ρ',M',acc',ys',w5,e5,(x.trans k24.x).trans k5,o5,m5,d5,r5,q5⟩
  | false=>
   exact ⟨O4,ρ3,M4,acc,ys,w4,e3.ext k4,x.trans k24.x,o4,m4,d4.trans hd,r4,q4⟩
 ·have e0:i=l.length:=by walk_at "o"
  subst e0
  obtain ⟨hG,q2⟩:=pd acc ρ M hf
  exact .inl ⟨(hj H O M x.fix x.mst w hG l.length).1 rfl,k _ _ _ _ _ _ _ q2 x w e o m hd r⟩
noncomputable def BN (ts:List Nat)(ai:AI)(ag:AG)(at_:AT)(atr:ATR):AF:=fun ρ M Q=>ai ρ M fun l G M1=>WD ag at_ atr G (fun acc _ M'=>Q acc M') l [] (Ex ts ρ) M1
theorem Kz {ts:List Nat}{wi:TI}{g:TG}{tt:TT}{tr:Addr->TR}{ai:AI}{ag:AG}{at_:AT}{atr:ATR}(hi:Kn wi ai)(hg:wG g ag)(ht:kA tt at_)(hr:∀ D,Ya D (tr D) atr):Zz (Dy ts wi g tt tr) (BN ts ai ag at_ atr):=⟨fun {σ H O ρ M Q Q'} w e q k=>by
 refine hi.go w e q fun l G M1 J H1 O1 q1 k1 w1 hj D hD=>?_
 have kp:=qK w1 hD (.lst [])
 have hj':wc J (upd H1 D (.lst [])) (Vm O1 D) M1 l G:=fun H' O' M' fix mst w' hG=>hj H' O' M' (fun a o ha ho=>fix a o (kp.fix a o ha ho).2 (kp.fix a o ha ho).1) mst w' hG
 refine Hl hg ht (hr D) hj' (yq w1 hD _ (fun _ z=>nomatch z)) (((e.ext k1).clr ts).ext kp) (.inl rfl) (w1.fresh hD).2 zf .nil q1 fun acc' ρ' M' σ' H' O' ys' q5 k5 w5 e5 o5 m5 d5 r5=>?_
 have hH:=xc w1 k1 hD
 refine k _ _ _ _ _ _ q5 ⟨fun a o ha ho=>?_,fun a ha hm=>?_,fun a hm=>k5.mst a (k1.mst a hm)⟩ w5 o5 m5 hH d5 r5
 ·obtain ⟨x1,x2⟩:=(k1.trans kp).fix a o ha ho
  exact k5.fix a o x2 x1
 ·obtain ⟨x1,x2,x3⟩:=(k1.trans kp).prv a ha hm
  obtain ⟨y1,y2,y3⟩:=k5.prv a (fun z=>w.ne a ha (by rw [z];exact hH)) x2 x3
  exact ⟨y1.trans x1,y2,y3⟩⟩
theorem VQ {ts:List Nat}{wi:TI}{g:TG}{tt:TT}{te:TE}{ai:AI}{ag:AG}{at_:AT}{ae:AE}(hi:Kn wi ai)(hg:wG g ag)(ht:kA tt at_)(he:zY te ae):Zz (JW ts wi g tt te) (BN ts ai ag at_ (wV ae)):=
 ⟨fun w e q k=>(Kz (ts:=ts) (tr:=Xn te) hi hg ht fun D=>JZ he).go w e q k⟩
noncomputable def aI (C:Int->Int->Prop)(g:Int->Int->Dat):AR2:=fun x y M Q=>∃ i j,x=.d (.int i)/\y=.d (.int j)/\C i j/\Q (.d (g i j)) M
noncomputable def aI0 (g:Int->Int->Dat):AR2:=fun x y M Q=>∃ i j,x=.d (.int i)/\y=.d (.int j)/\Q (.d (g i j)) M
theorem Hd {C:Int->Int->Prop}{f:Int->Int->Int}:JT (rI C fun i j=>.int (f i j)) (aI C fun i j=>.int (f i j)):=⟨fun w r1 r2 ⟨i,j,e1,e2,c,q⟩ k=>by
 subst e1 e2;exact ⟨i,j,zL r1,zL r2,c,k _ _ _ _ _ q .refl w .int⟩⟩
theorem D9 {f:Int->Int->Int}:JT (rI0 fun i j=>.int (f i j)) (aI0 fun i j=>.int (f i j)):=⟨fun w r1 r2 ⟨i,j,e1,e2,q⟩ k=>by
 subst e1 e2;exact ⟨i,j,zL r1,zL r2,k _ _ _ _ _ q .refl w .int⟩⟩
theorem As {f:Int->Int->Bool}:JT (rI0 fun i j=>.bl (f i j)) (aI0 fun i j=>.bl (f i j)):=⟨fun w r1 r2 ⟨i,j,e1,e2,q⟩ k=>by
 subst e1 e2;exact ⟨i,j,zL r1,zL r2,k _ _ _ _ _ q .refl w .bl⟩⟩
theorem Ef {C:Int->Int->Prop}{f:Int->Int->Int}:FM (rI C fun i j=>.int (f i j)) (aI C fun i j=>.int (f i j)):=⟨fun w r1 r2 ⟨i,j,e1,e2,c,q⟩ k=>by
 subst e1 e2;exact ⟨i,j,zL r1,zL r2,c,k _ _ _ _ _ q .refl w .int⟩⟩
noncomputable def aU (g:Int->Dat):AV->MH->AK->Prop:=fun x M Q=>∃ i,x=.d (.int i)/\Q (.d (g i)) M
theorem FY {f:Int->Int}:IA (rU fun i=>.int (f i)) (aU fun i=>.int (f i)):=⟨fun w r1 ⟨i,e1,q⟩ k=>by
 subst e1;exact ⟨i,zL r1,k _ _ _ _ _ q .refl w .int⟩⟩
noncomputable def eqS:Dat->Dat->Option Bool
 | .non,.non=>some true | .non,.int _=>some false | .int _,.non=>some false | .non,.bl _=>some false | .bl _,.non=>some false | .non,.str _=>some false | .str _,.non=>some false
 | .int i,.int j=>some (decide (i=j)) | .bl a,.bl b=>some (decide (a=b)) | .str a,.str b=>some (decide (a=b))
 | .int _,.str _=>some false | .str _,.int _=>some false | .bl _,.str _=>some false | .str _,.bl _=>some false
 | _,_=>none
noncomputable def yV:AV->Bool
 | .d .non=>true
 | _=>false
theorem D5 {H:Hp}{O:Own}{M:MH}{xs:List V}{l:List AV}(r:zk H O M xs l){i:Int}{x:AV}(h:atI l i=some x):∃ v,atI xs i=some v/\zA H O M v x:=by
 unfold atI at h ⊢
 rw [r.1]
 cases e:ixN l.length i with
 | none=>rw [e] at h;cases h
 | some j=>rw [e] at h;exact r.get h
noncomputable def aIx (s:AV->MH->Option (List AV)):AR2:=fun x y M Q=>∃ l i z,s x M=some l/\y=.d (.int i)/\atI l i=some z/\Q z M
theorem Wo {K:PySem.W.Frag}:JT (X4 K) (aIx qm):=⟨fun w r1 r2 ⟨l,i,z,h,e,hz,q⟩ k=>by
 subst e
 obtain ⟨a,xs,rfl,h1,r⟩:=wr w r1 h
 obtain ⟨v,hv,rv⟩:=D5 r hz
 exact ⟨a,xs,i,v,rfl,zL r2,h1.elim (fun h=>.inl (SqL.of h)) (fun h=>.inr (SqT.of h)),hv,k _ _ _ _ _ q .refl w rv⟩⟩
structure Bp (r:R2)(a:AV->AV->MH->(List AV->Prop)->Prop):Prop where
 go:∀ {x y:V} {dx dy:AV} {H:Hp} {O:Own} {M:MH} {Q:VK} {Q':List AV->Prop},Wf H O M->zA H O M x dx->zA H O M y dy->a dx dy M Q'->(∀ l ys,Q' l->zk H O M ys l->∀ p,H p=none->Q (.ref p) (upd H p (.lst ys)))->r x y H Q
noncomputable def fOp (r:AV->AV->MH->(List AV->Prop)->Prop)(a b:AE):AF:=fun ρ M Q=>a ρ M fun x M1=>b ρ M1 fun y M2=>r x y M2 fun l=>Q l M2
theorem Yq {r:R2}{ra:AV->AV->MH->(List AV->Prop)->Prop}{t u:TE}{a b:AE}(hr:Bp r ra)(h1:zY t a)(h2:zY u b):Zz (tOp r t u) (fOp ra a b):=
 ⟨fun w e q k=>h1.go w e q fun x M1 v H1 O1 q1 k1 w1 r1=>h2.go w1 (e.ext k1) q1 fun y M2 u H2 O2 q2 k2 w2 r2=>hr.go w2 (r1.ext k2) r2 q2 fun l ys q3 r3 p hp=>
  k l M2 p ys _ _ q3 ((k1.trans k2).trans (qK w2 hp _)) (yq w2 hp _ (fun _ z=>nomatch z)) (.inl rfl) (w2.fresh hp).2 (xc w2 (k1.trans k2) hp) zf (r3.ext (qK w2 hp _))⟩
noncomputable def Gh:AV->AV->MH->(List AV->Prop)->Prop:=fun x y M Q=>∃ l m,qR x M=some l/\qR y M=some m/\l.length+m.length<=sizeLine/\Q (l ++ m)
theorem JR:Bp Fh Gh:=⟨fun w r1 r2 ⟨l,m,h1,h2,hs,q⟩ k=>by
 obtain ⟨a,xs,rfl,e1,p1⟩:=qG w r1 h1
 obtain ⟨b,ys,rfl,e2,p2⟩:=qG w r2 h2
 exact ⟨a,b,xs,ys,rfl,rfl,e1,e2,by rw [p1.1,p2.1];exact hs,k _ _ q (p1.append p2)⟩⟩
theorem zk.rep {H:Hp}{O:Own}{M:MH}{xs:List V}{l:List AV}(a:zk H O M xs l):∀ k:Nat,zk H O M (List.replicate k xs).flatten (List.replicate k l).flatten
 | 0=>.nil
 | k+1=>by rw [List.replicate_succ,List.replicate_succ,List.flatten_cons,List.flatten_cons];exact a.append (zk.rep a k)
noncomputable def Lk:AV->AV->MH->(List AV->Prop)->Prop:=fun x y M Q=>∃ l k,qR x M=some l/\y=.d (.int k)/\-(2 ^ 63)<=k/\k<2 ^ 63/\l.length * k.toNat<=sizeLine/\Q (List.replicate k.toNat l).flatten
theorem Bu:Bp G7 Lk:=⟨fun w r1 r2 ⟨l,n,h1,e,b1,b2,hs,q⟩ k=>by
 subst e
 obtain ⟨a,xs,rfl,e1,p1⟩:=qG w r1 h1
 exact ⟨a,n,xs,rfl,zL r2,e1,b1,b2,by rw [p1.1];exact hs,k _ _ q (p1.rep _)⟩⟩
noncomputable abbrev AO:=ASt->MH->(Option Int->MH->Prop)->Prop
structure Xe (t:TO)(a:AO):Prop where
 go:∀ {σ:St} {H:Hp} {O:Own} {ρ:ASt} {M:MH} {Q:Option Int->Hp->Prop} {Q':Option Int->MH->Prop},Wf H O M->Er H O M σ ρ->a ρ M Q'->(∀ x M' H' O',Q' x M'->Ext H O M H' O' M'->Wf H' O' M'->Q x H')->t σ H Q
noncomputable def IW:AO:=fun _ M Q=>Q none M
noncomputable def FO (a:AE):AO:=fun ρ M Q=>a ρ M fun x M1=>∃ i,x=.d (.int i)/\Q (some i) M1
theorem Eh:Xe ZG IW:=⟨fun w _ q k=>k _ _ _ _ q .refl w⟩
theorem Ae {t:TE}{a:AE}(h:zY t a):Xe (BO t) (FO a):=⟨fun w e q k=>h.go w e q fun x M1 v H1 O1 ⟨i,e1,q1⟩ k1 w1 r1=>by
 subst e1;exact ⟨i,zL r1,k _ _ _ _ q1 k1 w1⟩⟩
noncomputable def yZ {α:Type}(xs:List α)(lo hi:Option Int):List α:=(xs.drop (HT.sIx xs.length 0 lo)).take (HT.sIx xs.length xs.length hi - HT.sIx xs.length 0 lo)
theorem zk.cut {H:Hp}{O:Own}{M:MH}{xs:List V}{l:List AV}(a:zk H O M xs l)(lo hi:Option Int):zk H O M (ZD xs lo hi) (yZ l lo hi):=by
 unfold ZD yZ
 rw [a.1]
 exact (a.drop _).take _
theorem Jf {α β:Type}(f:α->β)(l:List α)(lo hi:Option Int):yZ (l.map f) lo hi=(yZ l lo hi).map f:=by
 unfold yZ
 rw [List.length_map,<- List.map_drop,<- List.map_take]
noncomputable def fSl (a:AE)(lo hi:AO):AF:=fun ρ M Q=>a ρ M fun x M1=>lo ρ M1 fun i M2=>hi ρ M2 fun j M3=>∃ l,qR x M3=some l/\Q (yZ l i j) M3
theorem E5 {K:PySem.W.Frag}{t:TE}{tl th:TO}{a:AE}{lo hi:AO}(h1:zY t a)(h2:Xe tl lo)(h3:Xe th hi):Zz (tSl (GK K) t tl th) (fSl a lo hi):=
 ⟨fun w e q k=>h1.go w e q fun x M1 v H1 O1 q1 k1 w1 r1=>h2.go w1 (e.ext k1) q1 fun i M2 H2 O2 q2 k2 w2=>h3.go w2 (e.ext (k1.trans k2)) q2 fun j M3 H3 O3 ⟨l,hl,q3⟩ k3 w3=>by
  obtain ⟨a,xs,rfl,e1,p1⟩:=qG w3 (r1.ext (k2.trans k3)) hl
  exact ⟨a,xs,rfl,SqL.of e1,fun p hp=>k _ _ p _ _ _ q3 (((k1.trans k2).trans k3).trans (qK w3 hp _)) (yq w3 hp _ (fun _ z=>nomatch z)) (.inl rfl) (w3.fresh hp).2 (xc w3 ((k1.trans k2).trans k3) hp) zf ((p1.cut i j).ext (qK w3 hp _))⟩⟩
theorem zk.sl {H:Hp}{O:Own}{M:MH}:∀ (ks:List Nat) {xs:List V} {l:List AV},zk H O M xs l->zk H O M (ks.filterMap fun k=>xs[k]?) (ks.filterMap fun k=>l[k]?)
 | [],_,_,_=>.nil
 | k :: r,xs,l,a=>by
  rw [List.filterMap_cons,List.filterMap_cons]
  cases e:xs[k]? with
  | none=>
   have:l[k]?=none:=by
    rw [List.getElem?_eq_none_iff,<- a.1]
    exact List.getElem?_eq_none_iff.mp e
   rw [this]
   exact zk.sl r a
  | some v=>
   obtain ⟨d,hd,rd⟩:=a.get' e
   rw [hd]
   exact .cons rd (zk.sl r a)
noncomputable def slA {α:Type}(xs:List α)(lo hi st:Option Int):List α:=(sliceRange (sliceBounds lo hi st xs.length).1 (sliceBounds lo hi st xs.length).2.1 (sliceBounds lo hi st xs.length).2.2).filterMap fun k=>xs[k]?
noncomputable def IE (a:AE)(lo hi st:AO):AF:=fun ρ M Q=>a ρ M fun x M1=>lo ρ M1 fun i M2=>hi ρ M2 fun j M3=>st ρ M3 fun z M4=>∃ l,qR x M4=some l/\z ≠ some 0/\Q (slA l i j z) M4
theorem WM {K:PySem.W.Frag}{t:TE}{tl th ts:TO}{a:AE}{lo hi st:AO}(h1:zY t a)(h2:Xe tl lo)(h3:Xe th hi)(h4:Xe ts st):Zz (F6 K t tl th ts) (IE a lo hi st):=
 ⟨fun w e q k=>h1.go w e q fun x M1 v H1 O1 q1 k1 w1 r1=>h2.go w1 (e.ext k1) q1 fun i M2 H2 O2 q2 k2 w2=>h3.go w2 (e.ext (k1.trans k2)) q2 fun j M3 H3 O3 q3 k3 w3=>h4.go w3 (e.ext ((k1.trans k2).trans k3)) q3 fun z M4 H4 O4 ⟨l,hl,hz,q4⟩ k4 w4=>by
  obtain ⟨a,xs,rfl,e1,p1⟩:=qG w4 (r1.ext ((k2.trans k3).trans k4)) hl
  have k14:=((k1.trans k2).trans k3).trans k4
  have p2:zk H4 O4 M4 (slV xs i j z) (slA l i j z):=by unfold slV slA;rw [p1.1];exact zk.sl _ p1
  exact ⟨a,xs,rfl,SqL.of e1,hz,fun p hp=>k _ _ p _ _ _ q4 (k14.trans (qK w4 hp _)) (yq w4 hp _ (fun _ z=>nomatch z)) (.inl rfl) (w4.fresh hp).2 (xc w4 k14 hp) zf (p2.ext (qK w4 hp _))⟩⟩
mutual
noncomputable def eqD:Dat->Dat->Bool
 | .non,.non=>true
 | .bl a,.bl b=>a == b
 | .bl a,.int b=>(if a then 1 else 0) == b
 | .int a,.bl b=>a == (if b then 1 else 0)
 | .int a,.int b=>a == b
 | .str a,.str b=>a == b
 | .lst a,.lst b=>xA a b
 | .tup a,.tup b=>xA a b
 | _,_=>false
noncomputable def xA:List Dat->List Dat->Bool
 | [],[]=>true
 | a :: r,b :: r'=>eqD a b && xA r r'
 | _,_=>false
end
mutual
noncomputable def dp:Dat->Nat
 | .lst l=>dps l+1
 | .tup l=>dps l+1
 | .rng _ _ _=>1000
 | .scr _ _=>1000
 | .ty _=>1000
 | _=>0
noncomputable def dps:List Dat->Nat
 | []=>0
 | a :: r=>max (dp a) (dps r)
end
theorem yp {l:List Dat}{n:Nat}(h:∀ d ∈ l,dp d<=n):dps l<=n:=by
 induction l with
 | nil=>exact Nat.zero_le _
 | cons a r ih=>rw [dps];exact Nat.max_le.mpr ⟨h a (by simp),ih fun d hd=>h d (by simp [hd])⟩
theorem qw {l:List Dat}{d:Dat}(h:d ∈ l):dp d<=dps l:=by
 induction l with
 | nil=>cases h
 | cons a r ih=>
  rw [dps]
  rcases List.mem_cons.mp h with rfl | h
  ·exact Nat.le_max_left _ _
  ·exact Nat.le_trans (ih h) (Nat.le_max_right _ _)
theorem kT:∀ (l m:List Dat),l.length=m.length->xA l m=(List.range l.length).all fun j=>eqD (l.getD j .non) (m.getD j .non)
 | [],[],_=>rfl
 | a :: r,b :: r',h=>by
  rw [xA,kT r r' (by simpa using h),List.length_cons,List.range_succ_eq_map,List.all_cons,List.all_map];rfl
 | [],_ :: _,h=>by simp at h
 | _ :: _,[],h=>by simp at h
theorem kY:∀ (l m:List Dat),l.length ≠ m.length->xA l m=false
 | [],[],h=>absurd rfl h
 | a :: r,b :: r',h=>by rw [xA,kY r r' (fun z=>h (by simp [z])),Bool.and_false]
 | [],_ :: _,h=>by simp [xA]
 | _ :: _,[],h=>by simp [xA]
theorem Wp (l m:List Dat):eqD (.lst l) (.tup m)=false:=by simp [eqD]
theorem Ar (l m:List Dat):eqD (.tup l) (.lst m)=false:=by simp [eqD]
theorem Fa {p:Dat->Prop}(h:∀ a,(∀ b,dp b<dp a->p b)->p a)(a:Dat):p a:=by
 have:∀ n a,dp a<=n->p a:=fun n=>by
  induction n with
  | zero=>intro a ha;exact h a fun b hb=>absurd hb (by walk_at "o")
  | succ n ih=>intro a ha;exact h a fun b hb=>ih b (by walk_at "o")
 exact this (dp a) a (Nat.le_refl _)
theorem w8 {l:List Dat}(h:∀ d ∈ l,eqD d d=true):xA l l=true:=by
 induction l with
 | nil=>rfl
 | cons a r ih=>rw [xA,h a (by simp),ih fun d hd=>h d (by simp [hd])];rfl
theorem jy {a:Dat}:dp a<1000->eqD a a=true:=by
 refine Fa (p:=fun a=>dp a<1000->eqD a a=true) (fun a ih ha=>?_) a
 cases a with
 | non=>rfl
 | bl b=>rw [eqD];simp
 | int i=>rw [eqD];simp
 | str x=>rw [eqD];simp
 | lst l=>
  rw [eqD]
  rw [dp] at ha ih
  exact w8 fun d hd=>ih d (by have:=qw hd;walk_at "o") (by have:=qw hd;walk_at "o")
 | tup l=>
  rw [eqD]
  rw [dp] at ha ih
  exact w8 fun d hd=>ih d (by have:=qw hd;walk_at "o") (by have:=qw hd;walk_at "o")
 | rng a b c=>rw [dp] at ha;walk_at "o"
 | scr _ l=>rw [dp] at ha;walk_at "o"
 | ty l=>rw [dp] at ha;walk_at "o"
theorem Rep.fn {H:Hp}{O O':Own}{v:V}{a b:Dat}(r:Rep H O v a):Rep H O' v b->dp a<1000->dp b<1000->a=b:=by
 induction r generalizing b with
 | non=>intro r' _ _;cases r';rfl
 | bl=>intro r' _ _;cases r';rfl
 | int=>intro r' _ _;cases r';rfl
 | str=>intro r' _ _;cases r';rfl
 | ty=>intro r' h _;rw [dp] at h;walk_at "o"
 | rng _ _=>intro r' h _;rw [dp] at h;walk_at "o"
 | scr _ _=>intro r' h _;rw [dp] at h;walk_at "o"
 | scrK _=>intro r' h _;rw [dp] at h;walk_at "o"
 | @lst a xs l o1 h1 l1 r1 ih=>
  intro r' ha hb
  cases r' with
  | @lst _ ys m o2 h2 l2 r2=>
   rw [h1] at h2;cases h2
   congr 1
   refine List.ext_getElem (l1.symm.trans l2) fun i i1 i2=>?_
   have i0:i<xs.length:=by walk_at "o"
   rw [dp] at ha hb
   refine ih i xs[i] l[i] (by simp [i0]) (by simp [i1]) (r2 i xs[i] m[i] (by simp [i0]) (by simp [i2])) ?_ ?_
   ·have:=qw (List.getElem_mem i1);walk_at "o"
   ·have:=qw (List.getElem_mem i2);walk_at "o"
  | @tup _ ys m o2 h2=>rw [h1] at h2;cases h2
  | rng o2 h2=>rw [dp] at hb;walk_at "o"
  | scr o2 h2=>rw [dp] at hb;walk_at "o"
  | scrK _=>rw [dp] at hb;walk_at "o"
 | @tup a xs l o1 h1 l1 r1 ih=>
  intro r' ha hb
  cases r' with
  | @tup _ ys m o2 h2 l2 r2=>
   rw [h1] at h2;cases h2
   congr 1
   refine List.ext_getElem (l1.symm.trans l2) fun i i1 i2=>?_
   have i0:i<xs.length:=by walk_at "o"
   rw [dp] at ha hb
   refine ih i xs[i] l[i] (by simp [i0]) (by simp [i1]) (r2 i xs[i] m[i] (by simp [i0]) (by simp [i2])) ?_ ?_
   ·have:=qw (List.getElem_mem i1);walk_at "o"
   ·have:=qw (List.getElem_mem i2);walk_at "o"
  | @lst _ ys m o2 h2=>rw [h1] at h2;cases h2
  | rng o2 h2=>rw [dp] at hb;walk_at "o"
  | scr o2 h2=>rw [dp] at hb;walk_at "o"
  | scrK _=>rw [dp] at hb;walk_at "o"
section
variable {X:Cx}{pins:List (Addr × Obj)}{s:Shared}{σ:St}{H:Hp}
theorem kM {xs:List V}{us:List Value}(r:zE xs us){j:Nat}(h:j<us.toArray.size):∃ x,xs[j]?=some x/\zH x us.toArray[j]:=by
 have h':j<us.length:=by simpa using h
 have hx:j<xs.length:=by rw [r.length];exact h'
 obtain ⟨u,hu,ru⟩:=r.get (i:=j) (List.getElem?_eq_getElem hx)
 have e:us.toArray[j]=u:=by
  have:=(List.getElem?_eq_some_iff.mp hu).2
  simpa using this
 exact ⟨xs[j],List.getElem?_eq_getElem hx,by rw [e];exact ru⟩
theorem Dv (I : Inv X pins σ H s){A : Around}{p q : Addr}{O O' : Own}{a b : Dat}(ih : ∀ (c d : Dat) (v u : V) (v' u' : Value), dp c < dp a -> Rep H O v c -> Rep H O' u d -> dp d < 1000 -> zH v v' -> zH u u' -> SeqAt.EqAt A.in1 s v' u' (eqD c d))
    (ra:Rep H O (.ref p) a) (rb:Rep H O' (.ref q) b) (ha:dp a<1000) (hb:dp b<1000) (hu:A.units<cLine):SeqAt.RcAt A s (.ref p) (.ref q) (eqD a b):=by
  cases ra with
  | @lst _ xs l o1 h1 l1 r1=>
    obtain ⟨us,u1,p1,z1⟩:=I.list (SqL.of h1)
    cases rb with
    | @lst _ ys m o2 h2 l2 r2=>
      obtain ⟨ws,u2,p2,z2⟩:=I.list (SqL.of h2)
      have s1:us.toArray.size=l.length:=by rw [List.size_toArray,<- u1.length,l1]
      have s2:ws.toArray.size=m.length:=by rw [List.size_toArray,<- u2.length,l2]
      by_cases e:l.length=m.length
      · have h := SeqAt.RcAt.lists (A := A) (e := fun j => eqD (l.getD j .non) (m.getD j .non)) p1.isList p2.isList (by rw [s1, s2, e]) hu (fun j j1 j2 => by
          obtain ⟨x,hx,rx⟩:=kM u1 j1
          obtain ⟨y,hy,ry⟩:=kM u2 j2
          have k1:j<l.length:=by rw [<- s1];exact j1
          have k2:j<m.length:=by rw [<- s2];exact j2
          rw [dp] at ha hb ih
          refine ih _ _ x y _ _ ?_ (r1 j x _ hx ?_) (r2 j y _ hy ?_) ?_ rx ry
          · rw [List.getD_eq_getElem?_getD,List.getElem?_eq_getElem k1]
            have:=qw (List.getElem_mem k1);show dp l[j]<_;walk_at "o"
          · rw [List.getD_eq_getElem?_getD,List.getElem?_eq_getElem k1];rfl
          · rw [List.getD_eq_getElem?_getD,List.getElem?_eq_getElem k2];rfl
          · rw [List.getD_eq_getElem?_getD,List.getElem?_eq_getElem k2]
            have:=qw (List.getElem_mem k2);show dp m[j]<_;walk_at "o")
        rw [s1,<- kT l m e] at h
        rw [eqD];exact h
      · rw [eqD,kY l m e]
        exact SeqAt.RcAt.lists_lengths p1.isList p2.isList (by rw [s1,s2];simpa using e) hu
    | @tup _ ys m o2 h2 l2 r2=>
      obtain ⟨ws,u2,p2,z2⟩:=I.tuple (SqT.of h2)
      rw [Wp]
      exact SeqAt.RcAt.list_tuple p1.isList p2 hu
    | rng o2 h2=>rw [dp] at hb;walk_at "o"
    | scr o2 h2=>rw [dp] at hb;walk_at "o"
    | scrK _=>rw [dp] at hb;walk_at "o"
  | @tup _ xs l o1 h1 l1 r1=>
    obtain ⟨us,u1,p1,z1⟩:=I.tuple (SqT.of h1)
    cases rb with
    | @tup _ ys m o2 h2 l2 r2=>
      obtain ⟨ws,u2,p2,z2⟩:=I.tuple (SqT.of h2)
      have s1:us.toArray.size=l.length:=by rw [List.size_toArray,<- u1.length,l1]
      have s2:ws.toArray.size=m.length:=by rw [List.size_toArray,<- u2.length,l2]
      have h := SeqAt.RcAt.tuples (A := A) (e := fun j => eqD (l.getD j .non) (m.getD j .non)) (show s.heap.IsTuple p us.toArray from p1) (show s.heap.IsTuple q ws.toArray from p2) hu (fun j j1 j2 => by
          obtain ⟨x,hx,rx⟩:=kM u1 j1
          obtain ⟨y,hy,ry⟩:=kM u2 j2
          have k1:j<l.length:=by rw [<- s1];exact j1
          have k2:j<m.length:=by rw [<- s2];exact j2
          rw [dp] at ha hb ih
          refine ih _ _ x y _ _ ?_ (r1 j x _ hx ?_) (r2 j y _ hy ?_) ?_ rx ry
          · rw [List.getD_eq_getElem?_getD,List.getElem?_eq_getElem k1]
            have:=qw (List.getElem_mem k1);show dp l[j]<_;walk_at "o"
          · rw [List.getD_eq_getElem?_getD,List.getElem?_eq_getElem k1];rfl
          · rw [List.getD_eq_getElem?_getD,List.getElem?_eq_getElem k2];rfl
          · rw [List.getD_eq_getElem?_getD,List.getElem?_eq_getElem k2]
            have:=qw (List.getElem_mem k2);show dp m[j]<_;walk_at "o")
      rw [s1,s2] at h
      rw [eqD]
      by_cases e:l.length=m.length
      · rw [<- e,Nat.min_self,beq_self_eq_true,Bool.and_true,<- kT l m e] at h
        exact h
      · rw [kY l m e]
        rw [show (l.length == m.length)=false by simpa using e,Bool.and_false] at h
        exact h
    | @lst _ ys m o2 h2 l2 r2=>
      obtain ⟨ws,u2,p2,z2⟩:=I.list (SqL.of h2)
      rw [Ar]
      exact SeqAt.RcAt.tuple_list p1 p2.isList hu
    | rng o2 h2=>rw [dp] at hb;walk_at "o"
    | scr o2 h2=>rw [dp] at hb;walk_at "o"
    | scrK _=>rw [dp] at hb;walk_at "o"
  | rng o2 h2=>rw [dp] at ha;walk_at "o"
  | scr o2 h2=>rw [dp] at ha;walk_at "o"
  | scrK _=>rw [dp] at ha;walk_at "o"
theorem Ly (I:Inv X pins σ H s){a:Addr}{xs:List V}(h:H a=some (.lst xs)):∃ us,s.heap.IsList a us:=let ⟨_,_,p,_⟩:=I.list (SqL.of h);⟨_,p.isList⟩
theorem LF (I:Inv X pins σ H s){a:Addr}{xs:List V}(h:H a=some (.tup xs)):∃ us,s.heap.IsTuple a us:=let ⟨_,_,p,_⟩:=I.tuple (SqT.of h);⟨_,p⟩
local macro_rules | `(tactic| walk_at "sc")=>`(tactic| first
 | with_reducible exact .same _ | with_reducible exact .none_none | with_reducible exact .none_bool _ | with_reducible exact .none_int _ _ | with_reducible exact .none_str _ _ | with_reducible exact .bool_none _ | with_reducible exact .bool_bool _ _ | with_reducible exact .bool_int _ _ _ | with_reducible exact .bool_str _ _ _ | with_reducible exact .int_none _ _ | with_reducible exact .int_bool _ _ _ | with_reducible exact .int_int _ _ _ _ | with_reducible exact .int_str _ _ _ _ | with_reducible exact .str_none _ _ | with_reducible exact .str_bool _ _ _ | with_reducible exact .str_int _ _ _ _ | with_reducible exact .str_str _ _ _ _)
theorem ls_ (I:Inv X pins σ H s){a:Addr}{xs:List V}(h:H a=some (.lst xs)):s.heap.IsList a (Classical.choose (Ly I h)):=Classical.choose_spec _
theorem ts_ (I:Inv X pins σ H s){a:Addr}{xs:List V}(h:H a=some (.tup xs)):s.heap.IsTuple a (Classical.choose (LF I h)):=Classical.choose_spec _
local macro_rules | `(tactic| walk_at "sq")=>`(tactic| first
 | with_reducible exact .none_list (ls_ (by assumption) (by assumption)) (by assumption) | with_reducible exact .bool_list _ (ls_ (by assumption) (by assumption)) (by assumption) | with_reducible exact .int_list _ _ (ls_ (by assumption) (by assumption)) (by assumption) | with_reducible exact .str_list _ _ (ls_ (by assumption) (by assumption)) (by assumption) | with_reducible exact .list_none (ls_ (by assumption) (by assumption)) (by assumption) | with_reducible exact .list_bool _ (ls_ (by assumption) (by assumption)) (by assumption) | with_reducible exact .list_int _ _ (ls_ (by assumption) (by assumption)) (by assumption) | with_reducible exact .list_str _ _ (ls_ (by assumption) (by assumption)) (by assumption)
 | with_reducible exact .none_tuple (ts_ (by assumption) (by assumption)) (by assumption) | with_reducible exact .bool_tuple _ (ts_ (by assumption) (by assumption)) (by assumption) | with_reducible exact .int_tuple _ _ (ts_ (by assumption) (by assumption)) (by assumption) | with_reducible exact .str_tuple _ _ (ts_ (by assumption) (by assumption)) (by assumption) | with_reducible exact .tuple_none (ts_ (by assumption) (by assumption)) (by assumption) | with_reducible exact .tuple_bool _ (ts_ (by assumption) (by assumption)) (by assumption) | with_reducible exact .tuple_int _ _ (ts_ (by assumption) (by assumption)) (by assumption) | with_reducible exact .tuple_str _ _ (ts_ (by assumption) (by assumption)) (by assumption))
theorem XS (I : Inv X pins σ H s){O O' : Own}(A : Around)(hu : A.units < cLine)(a b : Dat)(v u : V)(v' u' : Value)(ha : dp a < 1000)(ra : Rep H O v a)(rb : Rep H O' u b)(hb : dp b < 1000)(rv : zH v v')(ru : zH u u')
    (ih:∀ (c d:Dat) (v u:V) (v' u':Value),dp c<dp a->Rep H O v c->Rep H O' u d->dp d<1000->zH v v'->zH u u'->SeqAt.EqAt A.in1 s v' u' (eqD c d)):SeqAt.EqAt A s v' u' (eqD a b):=by
  by_cases hr:∃ p q,v=.ref p/\u=.ref q
  · obtain ⟨p,q,rfl,rfl⟩:=hr
    cases rv
    cases ru
    by_cases e:p=q
    · subst e
      rw [<- ra.fn rb ha hb,jy ha]
      exact .same _
    · exact .of_refs e (Dv I ih ra rb ha hb hu)
  · cases ra <;> cases rb <;> first
      | with_reducible exact absurd ⟨_,_,rfl,rfl⟩ hr
      | (rw [dp] at ha;walk_at "o")
      | (rw [dp] at hb;walk_at "o")
      | ((first | (obtain ⟨t0,rfl⟩:=rv) | cases rv);(first | (obtain ⟨t1,rfl⟩:=ru) | cases ru);simp only [eqD,Bool.not_false,Bool.not_true];first | walk_at "sc" | walk_at "sq")
theorem Bg (I:Inv X pins σ H s){O O':Own}:∀ (n:Nat) (A:Around),A.units+n<cLine->∀ (a b:Dat) (v u:V) (v' u':Value),dp a<=n->n<1000->Rep H O v a->Rep H O' u b->dp b<1000->zH v v'->zH u u'->SeqAt.EqAt A s v' u' (eqD a b):=by
 intro n
 induction n with
 | zero=>
  intro A hu a b v u v' u' ha _ ra rb hb rv ru
  exact XS I A (by walk_at "o") a b v u v' u' (by walk_at "o") ra rb hb rv ru fun _ _ _ _ _ _ h=>absurd h (by walk_at "o")
 | succ n ih=>
  intro A hu a b v u v' u' ha hn ra rb hb rv ru
  exact XS I A (by walk_at "o") a b v u v' u' (by walk_at "o") ra rb hb rv ru fun c d x y x' y' hc rc rd hd rx ry=>ih A.in1 (by show A.units+1+n<_;walk_at "o") c d x y x' y' (by walk_at "o") (by walk_at "o") rc rd hd rx ry
noncomputable def Gz (f:Bool->Bool):R2:=fun x y H Q=>∃ O O' a b,Rep H O x a/\Rep H O' y b/\dp a<=40/\dp b<=40/\Q (.bl (f (eqD a b))) H
theorem GV (I:Inv X pins σ H s){O O':Own}(A:Around)(hu:A.units+41<cLine)(a b:Dat)(v u:V)(v' u':Value)(ha:dp a<=40)(ra:Rep H O v a)(rb:Rep H O' u b)(hb:dp b<=40)(rv:zH v v')(ru:zH u u'):SeqAt.RcAt A s v' u' (eqD a b):=by
  have ih:∀ (c d:Dat) (v u:V) (v' u':Value),dp c<dp a->Rep H O v c->Rep H O' u d->dp d<1000->zH v v'->zH u u'->SeqAt.EqAt A.in1 s v' u' (eqD c d):=fun c d v u v' u' hc rc rd hd rv ru=>Bg I 40 A.in1 (by show A.units+1+40<_;walk_at "o") c d v u v' u' (by walk_at "o") (by walk_at "o") rc rd hd rv ru
  replace hu:A.units<cLine:=by walk_at "o"
  by_cases hr:∃ p q,v=.ref p/\u=.ref q
  · obtain ⟨p,q,rfl,rfl⟩:=hr
    cases rv
    cases ru
    exact Dv I ih ra rb (by walk_at "o") (by walk_at "o") hu
  · cases ra <;> cases rb <;> first
      | with_reducible exact absurd ⟨_,_,rfl,rfl⟩ hr
      | (rw [dp] at ha;walk_at "o")
      | (rw [dp] at hb;walk_at "o")
      | ((first | (obtain ⟨t0,rfl⟩:=rv) | cases rv);(first | (obtain ⟨t1,rfl⟩:=ru) | cases ru);simp only [eqD,Bool.not_false,Bool.not_true];first | walk_at "sc" | walk_at "sq")
theorem AN (I : Inv X pins σ H s){A : Around}{p q : Addr}{O O' : Own}{a b : Dat}(ih : ∀ (c d : Dat) (v u : V) (v' u' : Value), dp c < dp a -> Rep H O v c -> Rep H O' u d -> dp d < 1000 -> zH v v' -> zH u u' -> SeqAt.EqAt A.in1 s v' u' (eqD c d))
    (ra:Rep H O (.ref p) a) (rb:Rep H O' (.ref q) b) (ha:dp a<1000) (hb:dp b<1000) (hu:A.units<cLine):SeqAt.RcNeAt A s (.ref p) (.ref q) (!(eqD a b)):=by
  cases ra with
  | @lst _ xs l o1 h1 l1 r1=>
    obtain ⟨us,u1,p1,z1⟩:=I.list (SqL.of h1)
    cases rb with
    | @lst _ ys m o2 h2 l2 r2=>
      obtain ⟨ws,u2,p2,z2⟩:=I.list (SqL.of h2)
      have s1:us.toArray.size=l.length:=by rw [List.size_toArray,<- u1.length,l1]
      have s2:ws.toArray.size=m.length:=by rw [List.size_toArray,<- u2.length,l2]
      by_cases e:l.length=m.length
      · have h := SeqAt.RcNeAt.lists (A := A) (e := fun j => eqD (l.getD j .non) (m.getD j .non)) p1.isList p2.isList (by rw [s1, s2, e]) hu (fun j j1 j2 => by
          obtain ⟨x,hx,rx⟩:=kM u1 j1
          obtain ⟨y,hy,ry⟩:=kM u2 j2
          have k1:j<l.length:=by rw [<- s1];exact j1
          have k2:j<m.length:=by rw [<- s2];exact j2
          rw [dp] at ha hb ih
          refine ih _ _ x y _ _ ?_ (r1 j x _ hx ?_) (r2 j y _ hy ?_) ?_ rx ry
          · rw [List.getD_eq_getElem?_getD,List.getElem?_eq_getElem k1]
            have:=qw (List.getElem_mem k1);show dp l[j]<_;walk_at "o"
          · rw [List.getD_eq_getElem?_getD,List.getElem?_eq_getElem k1];rfl
          · rw [List.getD_eq_getElem?_getD,List.getElem?_eq_getElem k2];rfl
          · rw [List.getD_eq_getElem?_getD,List.getElem?_eq_getElem k2]
            have:=qw (List.getElem_mem k2);show dp m[j]<_;walk_at "o")
        rw [s1,<- kT l m e] at h
        rw [eqD];exact h
      · rw [eqD,kY l m e]
        exact SeqAt.RcNeAt.lists_lengths p1.isList p2.isList (by rw [s1,s2];simpa using e) hu
    | @tup _ ys m o2 h2 l2 r2=>
      obtain ⟨ws,u2,p2,z2⟩:=I.tuple (SqT.of h2)
      rw [Wp]
      exact SeqAt.RcNeAt.list_tuple p1.isList p2 hu
    | rng o2 h2=>rw [dp] at hb;walk_at "o"
    | scr o2 h2=>rw [dp] at hb;walk_at "o"
    | scrK _=>rw [dp] at hb;walk_at "o"
  | @tup _ xs l o1 h1 l1 r1=>
    obtain ⟨us,u1,p1,z1⟩:=I.tuple (SqT.of h1)
    cases rb with
    | @tup _ ys m o2 h2 l2 r2=>
      obtain ⟨ws,u2,p2,z2⟩:=I.tuple (SqT.of h2)
      have s1:us.toArray.size=l.length:=by rw [List.size_toArray,<- u1.length,l1]
      have s2:ws.toArray.size=m.length:=by rw [List.size_toArray,<- u2.length,l2]
      have h := SeqAt.RcNeAt.tuples (A := A) (e := fun j => eqD (l.getD j .non) (m.getD j .non)) (show s.heap.IsTuple p us.toArray from p1) (show s.heap.IsTuple q ws.toArray from p2) hu (fun j j1 j2 => by
          obtain ⟨x,hx,rx⟩:=kM u1 j1
          obtain ⟨y,hy,ry⟩:=kM u2 j2
          have k1:j<l.length:=by rw [<- s1];exact j1
          have k2:j<m.length:=by rw [<- s2];exact j2
          rw [dp] at ha hb ih
          refine ih _ _ x y _ _ ?_ (r1 j x _ hx ?_) (r2 j y _ hy ?_) ?_ rx ry
          · rw [List.getD_eq_getElem?_getD,List.getElem?_eq_getElem k1]
            have:=qw (List.getElem_mem k1);show dp l[j]<_;walk_at "o"
          · rw [List.getD_eq_getElem?_getD,List.getElem?_eq_getElem k1];rfl
          · rw [List.getD_eq_getElem?_getD,List.getElem?_eq_getElem k2];rfl
          · rw [List.getD_eq_getElem?_getD,List.getElem?_eq_getElem k2]
            have:=qw (List.getElem_mem k2);show dp m[j]<_;walk_at "o")
      rw [s1,s2] at h
      rw [eqD]
      by_cases e:l.length=m.length
      · rw [<- e,Nat.min_self,beq_self_eq_true,Bool.and_true,<- kT l m e] at h
        exact h
      · rw [kY l m e]
        rw [show (l.length == m.length)=false by simpa using e,Bool.and_false] at h
        exact h
    | @lst _ ys m o2 h2 l2 r2=>
      obtain ⟨ws,u2,p2,z2⟩:=I.list (SqL.of h2)
      rw [Ar]
      exact SeqAt.RcNeAt.tuple_list p1 p2.isList hu
    | rng o2 h2=>rw [dp] at hb;walk_at "o"
    | scr o2 h2=>rw [dp] at hb;walk_at "o"
    | scrK _=>rw [dp] at hb;walk_at "o"
  | rng o2 h2=>rw [dp] at ha;walk_at "o"
  | scr o2 h2=>rw [dp] at ha;walk_at "o"
  | scrK _=>rw [dp] at ha;walk_at "o"
theorem Wx (I:Inv X pins σ H s){O O':Own}(A:Around)(hu:A.units+41<cLine)(a b:Dat)(v u:V)(v' u':Value)(ha:dp a<=40)(ra:Rep H O v a)(rb:Rep H O' u b)(hb:dp b<=40)(rv:zH v v')(ru:zH u u'):SeqAt.RcNeAt A s v' u' (!(eqD a b)):=by
  have ih:∀ (c d:Dat) (v u:V) (v' u':Value),dp c<dp a->Rep H O v c->Rep H O' u d->dp d<1000->zH v v'->zH u u'->SeqAt.EqAt A.in1 s v' u' (eqD c d):=fun c d v u v' u' hc rc rd hd rv ru=>Bg I 40 A.in1 (by show A.units+1+40<_;walk_at "o") c d v u v' u' (by walk_at "o") (by walk_at "o") rc rd hd rv ru
  replace hu:A.units<cLine:=by walk_at "o"
  by_cases hr:∃ p q,v=.ref p/\u=.ref q
  · obtain ⟨p,q,rfl,rfl⟩:=hr
    cases rv
    cases ru
    exact AN I ih ra rb (by walk_at "o") (by walk_at "o") hu
  · cases ra <;> cases rb <;> first
      | with_reducible exact absurd ⟨_,_,rfl,rfl⟩ hr
      | (rw [dp] at ha;walk_at "o")
      | (rw [dp] at hb;walk_at "o")
      | ((first | (obtain ⟨t0,rfl⟩:=rv) | cases rv);(first | (obtain ⟨t1,rfl⟩:=ru) | cases ru);simp only [eqD,Bool.not_false,Bool.not_true];first | walk_at "sc" | walk_at "sq")
theorem v9 (hu:X.A.units+64<cLine):OpR X (compareOp .Eq) (Gz id):=by
 intro pins s σ H x y v u Q I rx ry h
 obtain ⟨O,O',a,b,ra,rb,ha,hb,k⟩:=h
 exact GV I X.A (by walk_at "o") a b x y v u ha ra rb hb rx ry _ _ _ _ ⟨.bl _,H,I,rfl,k⟩
theorem qW (hu:X.A.units+64<cLine):OpR X (compareOp .NotEq) (Gz not):=by
 intro pins s σ H x y v u Q I rx ry h
 obtain ⟨O,O',a,b,ra,rb,ha,hb,k⟩:=h
 exact Wx I X.A (by walk_at "o") a b x y v u ha ra rb hb rx ry _ _ _ _ ⟨.bl _,H,I,rfl,k⟩
end
noncomputable def yn (x:AV)(M:MH):Option Dat:=match x with
 | .d x=>some x
 | .ref a=>match M a with
  | some (.lst l)=>(pur l).map .lst
  | _=>none
theorem Hj (x:Dat)(M:MH):yn (.d x) M=some x:=rfl
theorem V9 {a:Addr}{M:MH}{l:List AV}{ds:List Dat}(h:M a=some (.lst l))(hp:pur l=some ds):yn (.ref a) M=some (.lst ds):=by unfold yn;dsimp only;rw [h];dsimp only;rw [hp];rfl
theorem Jo {H:Hp}{O:Own}{M:MH}{v:V}{x:AV}{d:Dat}(w:Wf H O M)(r:zA H O M v x)(h:yn x M=some d):∃ O',Rep H O' v d:=by
 cases x with
 | d x=>cases h;exact ⟨O,r⟩
 | ref a=>
  unfold yn at h
  dsimp only at h
  cases e:M a with
  | none=>rw [e] at h;cases h
  | some o=>
   rw [e] at h
   cases o with
   | lst l=>
    dsimp only at h
    cases ep:pur l with
    | none=>rw [ep] at h;cases h
    | some ds=>
     rw [ep] at h
     cases h
     obtain ⟨xs,hx,rx⟩:=w.mo a _ e
     rw [j5 ep] at rx
     have rp:=rx.pure
     refine ⟨ZM O a,?_⟩
     rw [r.1]
     exact Rep.lst (fun z=>z.1 rfl) hx rp.1 fun i x d e1 e2=>(rp.2 i x d e1 e2).imp (xo a)
   | _=>cases h
noncomputable def IS (f:Bool->Bool):AR2:=fun x y M Q=>∃ a b,yn x M=some a/\yn y M=some b/\dp a<=40/\dp b<=40/\Q (.d (.bl (f (eqD a b)))) M
theorem D2 {f:Bool->Bool}:JT (Gz f) (IS f):=⟨fun w r1 r2 ⟨a,b,e1,e2,h1,h2,q⟩ k=>by
 obtain ⟨O1,p1⟩:=Jo w r1 e1
 obtain ⟨O2,p2⟩:=Jo w r2 e2
 exact ⟨O1,O2,a,b,p1,p2,h1,h2,k _ _ _ _ _ q .refl w .bl⟩⟩
theorem yE (i:Int):dp (.int i)=0:=by simp [dp]
theorem dp_ints (ns:List Int):dp (.lst (ns.map .int))<=1:=by
 rw [dp]
 have:dps (ns.map Dat.int)<=0:=yp fun d hd=>by
  obtain ⟨i,_,rfl⟩:=List.mem_map.mp hd
  rw [yE];exact Nat.le_refl _
 walk_at "o"
theorem Zq:∀ (ns ms:List Int),xA (ns.map .int) (ms.map .int)=decide (ns=ms)
 | [],[]=>by simp [xA]
 | [],_ :: _=>by simp [xA]
 | _ :: _,[]=>by simp [xA]
 | a :: r,b :: r'=>by
  rw [List.map_cons,List.map_cons,xA,Zq r r',show eqD (.int a) (.int b)=(a == b) by simp [eqD]]
  by_cases h:a=b <;> simp [h]
theorem QL (ns ms:List Int):eqD (.lst (ns.map .int)) (.lst (ms.map .int))=decide (ns=ms):=by rw [eqD,Zq]
theorem qP {H:Hp}{O:Own}{M:MH}{vs:List V}{x:AV}(r:zk H O M vs [x]):∃ v,vs=[v]/\zA H O M v x:=by
 obtain ⟨v1,r',rfl,a1,r2⟩:=r.cons_inv
 rw [r2.nil_inv];exact ⟨v1,rfl,a1⟩
theorem jP {H:Hp}{O:Own}{M:MH}{vs:List V}{x y:AV}(r:zk H O M vs [x,y]):∃ v u,vs=[v,u]/\zA H O M v x/\zA H O M u y:=by
 obtain ⟨v1,r',rfl,a1,r2⟩:=r.cons_inv
 obtain ⟨v2,rfl,a2⟩:=qP r2
 exact ⟨v1,v2,rfl,a1,a2⟩
noncomputable def HH:List AV->MH->AK->Prop:=fun xs M Q=>∃ x l,xs=[x]/\qm x M=some l/\Q (.d (.int (l.length:Nat))) M
theorem Eo {K:PySem.W.Frag}:ZP (fun xs H Q=>∃ p ys,xs=[V.ref p]/\(SqL K H p ys \/ SqT K H p ys)/\Q (V.int ys.length) H) HH:=⟨fun w r ⟨x,l,e,h,q⟩ k=>by
 subst e
 obtain ⟨v,rfl,rv⟩:=qP r
 obtain ⟨a,xs,rfl,h1,r1⟩:=wr w rv h
 exact ⟨a,xs,rfl,h1.elim (fun h=>.inl (SqL.of h)) (fun h=>.inr (SqT.of h)),by rw [r1.1];exact k _ _ _ _ _ q .refl w .int⟩⟩
noncomputable def bI1 (f:Int->Int):List AV->MH->AK->Prop:=fun xs M Q=>∃ i,xs=[.d (.int i)]/\Q (.d (.int (f i))) M
theorem Eb:ZP (fun xs H Q=>∃ i,xs=[V.int i]/\Q (V.int (if i<0 then -i else i)) H) (bI1 fun i=>if i<0 then -i else i):=⟨fun w r ⟨i,e,q⟩ k=>by
 subst e
 obtain ⟨v,rfl,rv⟩:=qP r
 exact ⟨i,by rw [zL rv],k _ _ _ _ _ q .refl w .int⟩⟩
noncomputable def bI2 (f:Int->Int->Int):List AV->MH->AK->Prop:=fun xs M Q=>∃ i j,xs=[.d (.int i),.d (.int j)]/\Q (.d (.int (f i j))) M
theorem Ij {f:Int->Int->Int}:ZP (fun xs H Q=>∃ i j,xs=[V.int i,V.int j]/\Q (V.int (f i j)) H) (bI2 f):=⟨fun w r ⟨i,j,e,q⟩ k=>by
 subst e
 obtain ⟨v,u,rfl,rv,ru⟩:=jP r
 exact ⟨i,j,by rw [zL rv,zL ru],k _ _ _ _ _ q .refl w .int⟩⟩
structure X8 (r:List V->Hp->VK->Prop)(a:List AV->MH->(List AV->Prop)->Prop):Prop where
 go:∀ {vs:List V} {xs:List AV} {H:Hp} {O:Own} {M:MH} {Q:VK} {Q':List AV->Prop},Wf H O M->zk H O M vs xs->a xs M Q'->(∀ l ys,Q' l->zk H O M ys l->∀ p,H p=none->Q (.ref p) (upd H p (.lst ys)))->r vs H Q
noncomputable def fCB (r:List AV->MH->(List AV->Prop)->Prop)(b:AA):AF:=fun ρ M Q=>b ρ M fun xs M1=>r xs M1 fun l=>Q l M1
theorem Z3 {r:List V->Hp->VK->Prop}{ra:List AV->MH->(List AV->Prop)->Prop}{u:TA}{b:AA}(hr:X8 r ra)(h:kB u b):Zz (tCB r u) (fCB ra b):=
 ⟨fun w e q k=>h.go w e q fun x M1 v H1 O1 q1 k1 w1 r1=>hr.go w1 r1 q1 fun l ys q3 r3 p hp=>
  k l M1 p ys _ _ q3 (k1.trans (qK w1 hp _)) (yq w1 hp _ (fun _ z=>nomatch z)) (.inl rfl) (w1.fresh hp).2 (xc w1 k1 hp) zf (r3.ext (qK w1 hp _))⟩
noncomputable def Wq:List AV->MH->(List AV->Prop)->Prop:=fun xs M Q=>∃ x l,xs=[x]/\qm x M=some l/\Q l
theorem Zr {K:PySem.W.Frag}:X8 (fun xs H Q=>∃ p ys,xs=[V.ref p]/\(SqL K H p ys \/ SqT K H p ys)/\∀ l,H l=none->Q (V.ref l) (upd H l (HO.lst ys))) Wq:=⟨fun w r ⟨x,l,e,h,q⟩ k=>by
 subst e
 obtain ⟨v,rfl,rv⟩:=qP r
 obtain ⟨a,xs,rfl,h1,r1⟩:=wr w rv h
 exact ⟨a,xs,rfl,h1.elim (fun h=>.inl (SqL.of h)) (fun h=>.inr (SqT.of h)),k _ _ q r1⟩⟩
theorem jX {H:Hp}{O:Own}{M:MH}:∀ {ns:List Int} {xs:List V},zk H O M xs (ns.map fun i=>AV.d (.int i))->xs=ns.map V.int
 | [],xs,r=>r.nil_inv
 | i :: ns,xs,r=>by
  obtain ⟨v,r',rfl,a1,r2⟩:=r.cons_inv
  rw [zL a1,jX r2];rfl
noncomputable def tyA (x:AV)(M:MH):Option String:=match x with
 | .d .non=>some "NoneType"
 | .d (.bl _)=>some "bool"
 | .d (.int _)=>some "int"
 | .d (.str _)=>some "str"
 | .d (.lst _)=>some "list"
 | .d (.tup _)=>some "tuple"
 | .ref a=>match M a with
  | some (.lst _)=>some "list"
  | some (.dK _)=>some "dict"
  | _=>none
 | _=>none
theorem Ai {K:PySem.W.Frag}{H:Hp}{O:Own}{M:MH}{v:V}{x:AV}{t:String}(w:Wf H O M)(r:zA H O M v x)(h:tyA x M=some t):kJ K H v (.type t):=by
 cases x with
 | d x=>
  cases (show Rep H O v x from r) with
  | non=>cases h;exact .non
  | bl=>cases h;exact .bl _
  | int=>cases h;exact .int _
  | str=>cases h;exact .str _
  | lst o e=>cases h;exact .lst e
  | tup o e=>cases h;exact .tup e
  | ty=>cases h
  | rng _ _=>cases h
  | scr _ _=>cases h
  | scrK _=>cases h
 | ref a=>
  unfold tyA at h
  dsimp only at h
  rw [r.1]
  cases e:M a with
  | none=>rw [e] at h;cases h
  | some o=>
   rw [e] at h
   have:=w.mo a o e
   cases o with
   | lst l=>cases h;obtain ⟨xs,hx,_⟩:=this;exact .lst hx
   | dK l=>cases h;obtain ⟨xs,hx,_⟩:=this;exact .dK hx
   | ins C fs=>cases h
   | exc C fs=>cases h
noncomputable def Lg:List AV->MH->AK->Prop:=fun xs M Q=>∃ x t c b,xs=[x,.d (.ty c)]/\tyA x M=some t/\isT t c=some b/\Q (.d (.bl b)) M
theorem EE {K:PySem.W.Frag}:ZP (fun xs H Q=>∃ x t c b,xs=[x,V.ty c]/\kJ K H x (Value.type t)/\isT t c=some b/\Q (V.bl b) H) Lg:=⟨fun w r ⟨x,t,c,b,e,h,hb,q⟩ k=>by
 subst e
 obtain ⟨v,u,rfl,rv,ru⟩:=jP r
 exact ⟨v,t,c,b,by rw [WH ru],Ai w rv h,hb,k _ _ _ _ _ q .refl w .bl⟩⟩
theorem YS {H:Hp}{O:Own}{M:MH}:∀ {ns:List String} {xs:List V},zk H O M xs ((ns.map Dat.ty).map .d)->xs=ns.map V.ty
 | [],xs,r=>r.nil_inv
 | i :: ns,xs,r=>by
  obtain ⟨v,r',rfl,a1,r2⟩:=r.cons_inv
  rw [WH a1,YS r2];rfl
noncomputable def JN:List Dat->Option (List String)
 | []=>some []
 | .ty n :: r=>(JN r).map (n :: ·)
 | _=>none
theorem XE:∀ {l:List Dat} {cs:List String},JN l=some cs->l=cs.map Dat.ty
 | [],cs,h=>by cases h;rfl
 | .ty n :: r,cs,h=>by
  unfold JN at h
  cases e:JN r with
  | none=>rw [e] at h;cases h
  | some m=>rw [e] at h;cases h;rw [XE e];rfl
 | .non :: _,_,h=>by cases h
 | .bl _ :: _,_,h=>by cases h
 | .int _ :: _,_,h=>by cases h
 | .str _ :: _,_,h=>by cases h
 | .lst _ :: _,_,h=>by cases h
 | .tup _ :: _,_,h=>by cases h
 | .rng _ _ _ :: _,_,h=>by cases h
 | .scr _ _ :: _,_,h=>by cases h
noncomputable def Fx:List AV->MH->AK->Prop:=fun xs M Q=>∃ x t l cs b,xs=[x,.d (.tup l)]/\JN l=some cs/\tyA x M=some t/\va t cs=some b/\Q (.d (.bl b)) M
theorem BJ {K:PySem.W.Frag}:ZP (fun xs H Q=>∃ x t p cs b,xs=[x,V.ref p]/\H p=some (HO.tup (List.map V.ty cs))/\kJ K H x (Value.type t)/\va t cs=some b/\Q (V.bl b) H) Fx:=⟨fun w r ⟨x,t,l,cs,b,e,hc,h,hb,q⟩ k=>by
 subst e
 obtain ⟨v,u,rfl,rv,ru⟩:=jP r
 rw [XE hc] at ru
 obtain ⟨a,xs,rfl,h1,r1⟩:=yv (l:=(cs.map Dat.ty).map .d) ru rfl
 rw [YS r1] at h1
 exact ⟨v,t,a,cs,b,rfl,h1,Ai w rv h,hb,k _ _ _ _ _ q .refl w .bl⟩⟩
noncomputable def FK:List AV->MH->AK->Prop:=fun xs M Q=>∃ x ns,xs=[x]/\qR x M=some (List.map (fun i=>AV.d (.int i)) ns)/\(∀ (x:Int),x ∈ ns->0<=x/\x<=1000000)/\ns.length<=100000/\Q (.d (.int ns.sum)) M
theorem Aq {K:PySem.W.Frag}:ZP (fun xs H Q=>∃ p ns,xs=[V.ref p]/\SqL K H p (List.map V.int ns)/\(∀ (x:Int),x ∈ ns->0<=x/\x<=1000000)/\ns.length<=100000/\Q (V.int ns.sum) H) FK:=⟨fun w r ⟨x,ns,e,h,h2,h3,q⟩ k=>by
 subst e
 obtain ⟨v,rfl,rv⟩:=qP r
 obtain ⟨a,xs,rfl,h1,r1⟩:=qG w rv h
 rw [jX r1] at h1
 exact ⟨a,ns,rfl,SqL.of h1,h2,h3,k _ _ _ _ _ q .refl w .int⟩⟩
theorem YU {H:Hp}{O:Own}{M:MH}:∀ {ns:List Bool} {xs:List V},zk H O M xs (ns.map fun i=>AV.d (.bl i))->xs=ns.map V.bl
 | [],xs,r=>r.nil_inv
 | i :: ns,xs,r=>by
  obtain ⟨v,r',rfl,a1,r2⟩:=r.cons_inv
  rw [yM a1,YU r2];rfl
noncomputable def IQ (f:List Bool->Bool):List AV->MH->AK->Prop:=fun xs M Q=>∃ x bs,xs=[x]/\qR x M=some (List.map (fun b=>AV.d (.bl b)) bs)/\Q (.d (.bl (f bs))) M
theorem Ff {K:PySem.W.Frag}{f:List Bool->Bool}:ZP (fun xs H Q=>∃ p bs,xs=[V.ref p]/\SqL K H p (List.map V.bl bs)/\Q (V.bl (f bs)) H) (IQ f):=⟨fun w r ⟨x,bs,e,h,q⟩ k=>by
 subst e
 obtain ⟨v,rfl,rv⟩:=qP r
 obtain ⟨a,xs,rfl,h1,r1⟩:=qG w rv h
 rw [YU r1] at h1
 exact ⟨a,bs,rfl,SqL.of h1,k _ _ _ _ _ q .refl w .bl⟩⟩
noncomputable def Fs:List AV->MH->AK->Prop:=fun xs M Q=>∃ b,xs=[.d (.int b)]/\Q (.d (.rng 0 b 1)) M
theorem B6:ZP (fun xs H Q=>∃ b,xs=[V.int b]/\∀ (p:Addr),H p=none->Q (V.ref p) (upd H p (j7 p 0 b 1))) Fs:=⟨fun w r ⟨b,e,q⟩ k=>by
 subst e
 obtain ⟨v,rfl,rv⟩:=qP r
 exact ⟨b,by rw [zL rv],fun p hp=>k _ _ _ _ _ q (kh w hp _) (Xb w hp _) (Rep.rng (w.fresh hp).1 zf)⟩⟩
noncomputable def FW:List AV->MH->(List AV->Prop)->Prop:=fun xs M Q=>∃ a b c n,xs=[.d (.rng a b c)]/\Builtin.Range.small a b c=true/\Builtin.Range.rangeSize a b c=((n:Nat):Int)/\n<=100000/\Q ((zW a c n).map fun i=>AV.d (.int i))
theorem YY:X8 (fun xs H Q=>∃ p a b c n,xs=[.ref p]/\H p=some (j7 p a b c)/\Builtin.Range.small a b c=true/\Builtin.Range.rangeSize a b c=((n:Nat):Int)/\n<=100000/\∀ l,H l=none->Q (.ref l) (upd H l (.lst ((zW a c n).map V.int)))) FW:=⟨fun {vs xs H O M Q Q'} w r ⟨a,b,c,n,e,h1,h2,h3,q⟩ k=>by
 subst e
 obtain ⟨v,rfl,rv⟩:=qP r
 cases (show Rep H O v (.rng a b c) from rv) with
 | rng o h=>exact ⟨_,a,b,c,n,rfl,h,h1,h2,h3,k _ _ q (Qb _)⟩⟩
noncomputable def flD:Dat->Option V
 | .non=>some .non
 | .bl b=>some (.bl b)
 | .int i=>some (.int i)
 | .str s=>some (.str s)
 | _=>none
noncomputable def KG:List AV->Option (List V)
 | []=>some []
 | .d x :: r=>match flD x,KG r with
  | some v,some l=>some (v :: l)
  | _,_=>none
 | _=>none
theorem WQ {H:Hp}{O:Own}{v x:V}{d:Dat}(r:Rep H O v d)(h:flD d=some x):v=x/\xF v=true:=by
 cases r <;> cases h <;> exact ⟨rfl,rfl⟩
theorem YL {H:Hp}{O:Own}{M:MH}:∀ {l:List AV} {xs vs:List V},zk H O M xs l->KG l=some vs->xs=vs/\xs.all xF=true
 | [],xs,vs,r,h=>by cases h;rw [r.nil_inv];exact ⟨rfl,rfl⟩
 | .d d :: l,xs,vs,r,h=>by
  obtain ⟨v,r',rfl,a1,r2⟩:=r.cons_inv
  unfold KG at h
  cases e1:flD d with
  | none=>rw [e1] at h;cases h
  | some z=>
   cases e2:KG l with
   | none=>rw [e1,e2] at h;cases h
   | some zs=>
    rw [e1,e2] at h
    cases h
    obtain ⟨h1,h2⟩:=WQ a1 e1
    obtain ⟨h3,h4⟩:=YL r2 e2
    subst h1 h3
    exact ⟨rfl,by rw [List.all_cons,h2,h4];rfl⟩
 | .ref a :: l,xs,vs,r,h=>by cases h
structure WE (r:V->List V->Hp->VK->Prop)(a:AV->List AV->MH->AK->Prop):Prop where
 go:∀ {x:V} {dx:AV} {vs:List V} {xs:List AV} {H:Hp} {O:Own} {M:MH} {Q:VK} {Q':AK},Wf H O M->zA H O M x dx->zk H O M vs xs->a dx xs M Q'->(∀ x M' v H' O',Q' x M'->Ext H O M H' O' M'->Wf H' O' M'->zA H' O' M' v x->Q v H')->r x vs H Q
noncomputable def aBM (r:AV->List AV->MH->AK->Prop)(a:AE)(b:AA):AE:=fun ρ M Q=>a ρ M fun x M1=>(∃ l,qR x M1=some l)/\b ρ M1 fun xs M2=>r x xs M2 Q
theorem GI {K:PySem.W.Frag}{r:V->List V->Hp->VK->Prop}{ra:AV->List AV->MH->AK->Prop}{t:TE}{u:TA}{a:AE}{b:AA}(hr:WE r ra)(h1:zY t a)(h2:kB u b):zY (tBM K "list" r t u) (aBM ra a b):=
 ⟨fun w e q k=>h1.go w e q fun x M1 v H1 O1 ⟨⟨l,hl⟩,q1⟩ k1 w1 r1=>⟨by
  obtain ⟨a,xs,rfl,hx,_⟩:=qG w1 r1 hl
  exact .inl ⟨rfl,xs,SqL.of hx⟩,h2.go w1 (e.ext k1) q1 fun y M2 u H2 O2 q2 k2 w2 r2=>hr.go w2 (r1.ext k2) r2 q2 fun z M3 v3 H3 O3 q3 k3 w3 r3=>k z M3 v3 H3 O3 q3 ((k1.trans k2).trans k3) w3 r3⟩⟩
theorem vy {H:Hp}{O:Own}{M:MH}{p:Addr}{l l':List AV}{xs':List V}(w:Wf H O M)(hm:M p=some (.lst l))(r:zk H O M xs' l'):Ext H O M (upd H p (.lst xs')) O (mup M p (.lst l'))/\Wf (upd H p (.lst xs')) O (mup M p (.lst l')):=
 have np:=jI hm
 ⟨xY w np _ _,Wn w np (fun _ z=>nomatch z) ⟨_,zf,r.ext (xY w np _ _)⟩⟩
noncomputable def Yo:AV->List AV->MH->AK->Prop:=fun x xs M Q=>∃ p l y,x=.ref p/\xs=[y]/\M p=some (.lst l)/\l.length<sizeLine/\Q (.d .non) (mup M p (.lst (l ++ [y])))
theorem Kq:WE vd Yo:=⟨fun w r1 r2 ⟨p,l,y,e1,e2,hm,hs,q⟩ k=>by
 subst e1 e2
 obtain ⟨v,rfl,rv⟩:=qP r2
 obtain ⟨xs,hx,rx⟩:=w.mo p _ hm
 obtain ⟨k1,w1⟩:=vy w hm (rx.snoc rv)
 exact ⟨p,xs,v,r1.1,rfl,hx,by rw [rx.1];exact hs,k _ _ _ _ _ q k1 w1 .non⟩⟩
noncomputable def XD:AV->List AV->MH->AK->Prop:=fun x xs M Q=>∃ p l i y,x=.ref p/\xs=[.d (.int i),y]/\M p=some (.lst l)/\0<=i/\i<=l.length/\l.length<sizeLine/\Q (.d .non) (mup M p (.lst (l.take i.toNat ++ y :: l.drop i.toNat)))
theorem Ko:WE vk XD:=⟨fun w r1 r2 ⟨p,l,i,y,e1,e2,hm,h0,h1,hs,q⟩ k=>by
 subst e1 e2
 obtain ⟨v,u,rfl,rv,ru⟩:=jP r2
 obtain ⟨xs,hx,rx⟩:=w.mo p _ hm
 obtain ⟨k1,w1⟩:=vy w hm ((rx.take i.toNat).append (.cons ru (rx.drop i.toNat)))
 exact ⟨p,xs,i,u,r1.1,by rw [zL rv],hx,h0,by rw [rx.1];exact h1,by rw [rx.1];exact hs,k _ _ _ _ _ q k1 w1 .non⟩⟩
noncomputable def XH:AV->List AV->MH->AK->Prop:=fun x xs M Q=>∃ p l y m,x=.ref p/\xs=[y]/\M p=some (.lst l)/\qR y M=some m/\l.length+m.length<=sizeLine/\Q (.d .non) (mup M p (.lst (l ++ m)))
theorem Xk:WE vq XH:=⟨fun w r1 r2 ⟨p,l,y,m,e1,e2,hm,hy,hs,q⟩ k=>by
 subst e1 e2
 obtain ⟨v,rfl,rv⟩:=qP r2
 obtain ⟨xs,hx,rx⟩:=w.mo p _ hm
 obtain ⟨b,ys,rfl,hb,rb⟩:=qG w rv hy
 obtain ⟨k1,w1⟩:=vy w hm (rx.append rb)
 exact ⟨p,b,xs,ys,r1.1,rfl,hx,hb,by rw [rx.1,rb.1];exact hs,k _ _ _ _ _ q k1 w1 .non⟩⟩
noncomputable def Wm:AV->List AV->MH->AK->Prop:=fun x xs M Q=>∃ l vs d v,qR x M=some l/\xs=[.d d]/\KG l=some vs/\flD d=some v/\Q (.d (.int ((vs.countP fun y=>eqV y v:Nat)))) M
theorem VV:WE Xs Wm:=⟨fun w r1 r2 ⟨l,vs,d,v,hl,e,hs,hv,q⟩ k=>by
 subst e
 obtain ⟨u,rfl,ru⟩:=qP r2
 obtain ⟨a,xs,rfl,h1,p1⟩:=qG w r1 hl
 obtain ⟨rfl,f1⟩:=WQ ru hv
 obtain ⟨rfl,f2⟩:=YL p1 hs
 exact ⟨a,xs,u,rfl,rfl,h1,f2,f1,k _ _ _ _ _ q .refl w .int⟩⟩
noncomputable def vF (r:Addr):MO->Prop
 | .lst l=>AV.ref r ∈ l
 | .dK kvs=>AV.ref r ∈ kvs.map (·.2)
 | .ins _ fs=>AV.ref r ∈ fs.map (·.2)
 | .exc _ _=>False
inductive Dee (M M2:MH):AV->Dat->Prop
 | d {x:Dat}:Dee M M2 (.d x) x
 | lst {p:Addr} {l:List AV} {ds:List Dat}:M p=some (.lst l)->M2 p=none->l.length=ds.length->(∀ (i:Nat) a b,l[i]?=some a->ds[i]?=some b->Dee M M2 a b)->Dee M M2 (.ref p) (.lst ds)
structure ZR (M0 M':MH)(x x':AV)(M'':MH):Prop where
 sub:∀ q,M'' q=M' q \/ (M0 q=none/\M'' q=none)
 cl:∀ q o,M'' q=some o->M0 q=some o \/ ∀ r,vF r o->M'' r ≠ none
 res:(x'=x/\∀ p,x=.ref p->M'' p ≠ none) \/ (∃ p l ds,x=.ref p/\M' p=some (.lst l)/\pur l=some ds/\M'' p=none/\x'=.d (.lst ds)) \/ ∃ d,Dee M' M'' x d/\x'=.d d
theorem Dee.rep {H:Hp}{O:Own}{M M2:MH}(w:Wf H O M){x:AV}{d:Dat}(h:Dee M M2 x d):∀ {v:V},zA H O M v x->Rep H (fun a=>O a/\¬ (M a ≠ none/\M2 a=none)) v d:=by
 induction h with
 | d=>exact fun r=>Rep.imp (fun a u h e=>⟨e,fun z=>h z.1⟩) r
 | @lst p l ds hm hn hl _ ih=>
  intro v r
  obtain ⟨xs,hx,rx⟩:=w.mo p _ hm
  rw [r.1]
  refine Rep.lst (fun z=>z.2 ⟨jI hm,hn⟩) hx (rx.1.trans hl) fun i x d e1 e2=>?_
  have hi:=(List.getElem?_eq_some_iff.mp e2).1
  have ha:l[i]?=some (l[i]'(by walk_at "o")):=List.getElem?_eq_getElem (by walk_at "o")
  exact ih i _ d ha e2 (rx.2 i x _ e1 ha)
theorem YJ {H0 H : Hp}{O0 O : Own}{M0 M' M'' : MH}{x x' : AV}{v : V}(w0 : Wf H0 O0 M0)(w : Wf H O M')(k : Ext H0 O0 M0 H O M')(r : zA H O M' v x)(f : ZR M0 M' x x' M'') :
    ∃ O'',Wf H O'' M''/\Ext H0 O0 M0 H O'' M''/\zA H O'' M'' v x'/\∀ a,O a->M' a=none->O'' a/\M'' a=none:=by
  have ks:∀ a u,¬ O a->H a=some u->H a=some u/\¬ (O a/\¬ (M' a ≠ none/\M'' a=none)):=fun a u h e=>⟨e,fun z=>h z.1⟩
  have k0:∀ a,M0 a ≠ none->M'' a=M' a:=fun a h=>(f.sub a).elim (fun z=>z) (fun z=>absurd z.1 h)
  have m0:∀ a,M0 a ≠ none->M'' a ≠ none:=fun a h=>by rw [k0 a h];exact k.mst a h
  have avs:∀ {xs:List V} {l:List AV},zk H O M' xs l->(∀ r,AV.ref r ∈ l->M'' r ≠ none)->zk H (fun a=>O a/\¬ (M' a ≠ none/\M'' a=none)) M'' xs l:=fun {xs l} rr hr=>⟨rr.1,fun i y d e1 e2=>by
    have:=rr.2 i y d e1 e2
    cases d with
    | d d=>exact Rep.imp ks this
    | ref a=>exact ⟨this.1,hr a (List.mem_of_getElem? e2)⟩⟩
  have refs0:∀ q o,M0 q=some o->∀ r,vF r o->M0 r ≠ none:=fun q o e r hr=>by
    have:=w0.mo q o e
    cases o with
    | lst l=>
      obtain ⟨xs,_,rr⟩:=this
      obtain ⟨i,hi⟩:=List.getElem?_of_mem hr
      obtain ⟨y,_,ry⟩:=rr.get hi
      exact ry.2
    | dK l=>
      obtain ⟨xs,_,rr⟩:=this
      obtain ⟨i,hi⟩:=List.getElem?_of_mem hr
      obtain ⟨y,_,ry⟩:=rr.2.get hi
      exact ry.2
    | ins C l=>
      obtain ⟨dx,xs,_,rr,_⟩:=this
      obtain ⟨i,hi⟩:=List.getElem?_of_mem hr
      obtain ⟨y,_,ry⟩:=rr.2.get hi
      exact ry.2
    | exc C l=>exact hr.elim
  refine ⟨fun a=>O a/\¬ (M' a ≠ none/\M'' a=none),⟨fun q o e=>?_,fun a h=>?_,fun a h=>w.al a h.1⟩,⟨fun a u h e=>?_,fun a h e=>?_,m0⟩,?_,fun a h e=>⟨⟨h,fun z=>z.1 e⟩,(f.sub a).elim (fun z=>z.trans e) (fun z=>z.2)⟩⟩
  · have e' : M' q = some o := by
      rcases f.sub q with z | z
      · rw [<- z];exact e
      · rw [z.2] at e;cases e
    have hr:∀ r,vF r o->M'' r ≠ none:=by
      rcases f.cl q o e with z | z
      · exact fun r hr=>m0 r (refs0 q o z r hr)
      · exact z
    have:=w.mo q o e'
    cases o with
    | lst l=>obtain ⟨xs,h1,rr⟩:=this;exact ⟨xs,h1,avs rr hr⟩
    | dK l=>obtain ⟨xs,h1,rr⟩:=this;exact ⟨xs,h1,rr.1,avs rr.2 hr⟩
    | ins C l=>
      obtain ⟨dx,xs,h1,rr,h2,h3,h4⟩:=this
      refine ⟨dx,xs,h1,⟨rr.1,avs rr.2 hr⟩,⟨h2,fun z=>z.1 h3⟩,?_,h4⟩
      rcases f.sub dx with z | z
      · rw [z];exact h3
      · exact z.2
    | exc C l=>
      obtain ⟨d,h1,h2⟩:=this
      refine ⟨d,h1,?_⟩
      rcases h2 with h2 | ⟨dx,e1,h2,h3,h4⟩
      · exact .inl h2
      · refine .inr ⟨dx,e1,h2,⟨h3,fun z=>z.1 h4⟩,?_⟩
        rcases f.sub dx with z | z
        · rw [z];exact h4
        · exact z.2
  · refine ⟨w.own a ?_,fun z=>h z.2⟩
    rcases f.sub a with z | z
    · rw [<- z];exact h
    · exact absurd z.2 h
  · obtain ⟨x1,x2⟩:=k.fix a u h e
    exact ⟨x1,fun z=>x2 z.1⟩
  · obtain ⟨x1,x2,x3⟩:=k.prv a h e
    refine ⟨x1,⟨x2,fun z=>z.1 x3⟩,?_⟩
    rcases f.sub a with z | z
    · rw [z];exact x3
    · exact z.2
  · rcases f.res with ⟨rfl,hp⟩ | ⟨p,l,ds,rfl,hm,hp,hn,rfl⟩ | ⟨d,hd,rfl⟩
    · cases x' with
      | d d=>exact Rep.imp ks r
      | ref a=>exact ⟨r.1,hp a rfl⟩
    · obtain ⟨xs,hx,rx⟩:=w.mo p _ hm
      rw [j5 hp] at rx
      have rp:=rx.pure
      rw [r.1]
      exact Rep.lst (fun z=>z.2 ⟨jI hm,hn⟩) hx rp.1 fun i x d e1 e2=>(rp.2 i x d e1 e2).imp ks
    · exact hd.rep w r
theorem wj {H0 H:Hp}{O0 O:Own}{M0 M' M'':MH}{x x':AV}{v:V}(w0:Wf H0 O0 M0)(w:Wf H O M')(k:Ext H0 O0 M0 H O M')(r:zA H O M' v x)(f:ZR M0 M' x x' M'') :
  ∃ O'',Wf H O'' M''/\Ext H0 O0 M0 H O'' M''/\zA H O'' M'' v x':=let ⟨O2,a,b,c,_⟩:=YJ w0 w k r f;⟨O2,a,b,c⟩
noncomputable def Fr (M0 M:MH):Prop:=∀ q,M0 q ≠ none->M q=M0 q
theorem Fr.refl {M:MH}:Fr M M:=fun _ _=>rfl
theorem Fr.mup {M0 M:MH}(f:Fr M0 M){p:Addr}(h:M0 p=none)(o:MO):Fr M0 (mup M p o):=fun q hq=>by rw [zI (fun z=>hq (by rw [z];exact h))];exact f q hq
theorem Fr.sub {M0 M:MH}(f:Fr M0 M)(q:Addr):M0 q=M q \/ (M0 q=none/\M0 q=none):=by
 cases e:M0 q with
 | none=>exact .inr ⟨rfl,rfl⟩
 | some o=>exact .inl (by rw [f q (by rw [e];exact fun z=>nomatch z),e])
theorem J9 {M0 M:MH}(f:Fr M0 M)(d:Dat):ZR M0 M (.d d) (.d d) M0:=⟨f.sub,fun q o e=>.inl e,.inl ⟨rfl,fun p z=>nomatch z⟩⟩
theorem xV {M0 M:MH}(f:Fr M0 M){p:Addr}{l:List AV}{ds:List Dat}(h0:M0 p=none)(h:M p=some (.lst l))(hp:pur l=some ds):ZR M0 M (.ref p) (.d (.lst ds)) M0:=⟨f.sub,fun q o e=>.inl e,.inr (.inl ⟨p,l,ds,rfl,h,hp,h0,rfl⟩)⟩
theorem vp {l:List AV}{ds:List Dat}(h:pur l=some ds)(r:Addr):AV.ref r ∉ l:=by
 rw [j5 h];intro z
 obtain ⟨d,_,e⟩:=List.mem_map.mp z
 cases e
theorem DS {M0 M:MH}(f:Fr M0 M){p:Addr}{l:List AV}{ds:List Dat}(h0:M0 p=none)(h:M p=some (.lst l))(hp:pur l=some ds):ZR M0 M (.ref p) (.ref p) (mup M0 p (.lst l)):=by
 refine ⟨fun q=>?_,fun q o e=>?_,.inl ⟨rfl,fun q z=>by cases z;rw [zm];exact fun z=>nomatch z⟩⟩
 ·by_cases c:q=p
  ·rw [c,zm,h];exact .inl rfl
  ·rw [zI c];exact f.sub q
 ·by_cases c:q=p
  ·rw [c,zm] at e
   cases e
   exact .inr fun r hr=>absurd hr (vp hp r)
  ·rw [zI c] at e;exact .inl e
noncomputable def qd (N:List Str)(xs:List AV):ASt:=xs.map some ++ List.replicate (N.length - xs.length) none
theorem QH {H:Hp}{O:Own}{M:MH}{vs:List V}{xs:List AV}(r:zk H O M vs xs)(N:List Str):Er H O M (start N vs) (qd N xs):=by
 unfold start qd
 refine ⟨by simp [r.1],fun i x h=>?_⟩
 by_cases c:i<xs.length
 ·rw [List.getElem?_append_left (by simpa using c),List.getElem?_map] at h
  cases e:xs[i]? with
  | none=>rw [e] at h;cases h
  | some y=>
   rw [e] at h
   cases h
   obtain ⟨v,hv,rv⟩:=r.get e
   exact ⟨v,by rw [List.getElem?_append_left (by rw [List.length_map,r.1];exact c),List.getElem?_map,hv];rfl,rv⟩
 ·rw [List.getElem?_append_right (by simp;walk_at "o"),List.getElem?_replicate] at h
  split at h <;> cases h
noncomputable def rtA (M0:MH)(Q:AK):AK:=fun x M'=>∃ x' M'',ZR M0 M' x x' M''/\Q x' M''
theorem dfA {P:Program}{w:World}{K:PySem.W.Frag}{mg:Str->Option Value}{base:Heap}{x:Str}{st:Stmt}{N ps:List Str}{k:Nat}{a:ASp}(at_:At K mg x st)(S:zw N ps (zi st))
  (hb:∀ (kV doc pm:Value) (an:Option Addr) (cdv ct:Value) (us:List Value),us.length=ps.length->bindArgs (PySem.W.fnOf x x (jc st) (qp st) (zi st) .none kV doc pm an cdv ct) ⟨us,[]⟩=pure (ps.zip us))
  (len:∀ xs M Q,a xs M Q->xs.length=ps.length)
  (hbody:∀ (f:Addr) (cdv:Value) (A:Around) (outer:List Env) (s:Shared) (H:Hp) (E:XK),jr k (A.deeper (envOfC x (zi st) s.heap.objs.size f cdv)) ->
   ∃ t,PSs (yC CX0 P w K mg base N x (zi st) f cdv A outer s H E).nox (qp st) t/\∃ b,jB t b/\∀ xs M Q,a xs M Q->b M { nx:=fun _ M'=>rtA M Q (.d .non) M',rt:=rtA M Q } (qd N xs) M):Df P w K mg base x ps (k+1) (cSp a):=by
 refine qS at_ S hb (fun vs H Q E h=>?_) (fun f cdv A outer s H vs Q E hr h=>?_)
 ·obtain ⟨xs,M,O,Q',w,r,q,_⟩:=h
  rw [r.1];exact len xs M Q' q
 ·obtain ⟨t,ht,b,hb,hq⟩:=hbody f cdv A outer s H E hr
  refine ⟨t,ht,?_⟩
  obtain ⟨xs,M,O,Q',w,r,q,kk⟩:=h
  refine hb.go w w (QH r N) .refl (hq xs M Q' q) ⟨fun σ H' O' ρ M' w' e' x' q'=>?_,fun v y H' O' M' w' x' r' q'=>?_,fun _ _ _ _ _ _ _ _ z=>z.elim,fun _ _ _ _ _ _ _ _ z=>z.elim⟩
  ·obtain ⟨y',M'',f,q2⟩:=q'
   obtain ⟨O'',w2,k2,r2⟩:=wj w w' x' (show zA H' O' M' .non (.d .non) from .non) f
   exact kk _ _ _ _ _ q2 k2 w2 r2
  ·obtain ⟨y',M'',f,q2⟩:=q'
   obtain ⟨O'',w2,k2,r2⟩:=wj w w' x' r' f
   exact kk _ _ _ _ _ q2 k2 w2 r2
structure LB (tr:Addr->TR)(a:ATR):Prop where
 go:∀ D,Ya D (tr D) a
theorem Dh {t u:TE}{a b:AE}(h1:zY t a)(h2:zY u b):zY (tOp Fh t u) (aFz (fOp Gh a b)):=vt (Yq JR h1 h2)
theorem YX {K:PySem.W.Frag}{u:TA}{b:AA}(h:kB u b):zY (tCB (fun xs H Q=>∃ p ys,xs=[V.ref p]/\(SqL K H p ys \/ SqT K H p ys)/\∀ l,H l=none->Q (V.ref l) (upd H l (HO.lst ys))) u) (aFz (fCB Wq b)):=vt (Z3 Zr h)
theorem ex2 {t:TS}{q:AS->Prop}{b:AS}(h:jB t b)(k:q b):∃ b,jB t b/\q b:=⟨b,h,k⟩
section
variable {X:Cx}{K:PySem.W.Frag}
end
theorem Xq {τ:Type}(R:τ->ASt)(f:AV->AV){ag:AG}{ae:AE}{G:MH->Prop}{N:List AV->ASt->MH->Prop}{l:List AV}{ρ:ASt}{M:MH}(h0:∃ o,ρ=R o)(hG:G M)(hl:l.length<=100000)
  (hs:∀ (o:τ) (x:AV) (Q:AV->ASt->MH->Prop),x ∈ l->(∀ o',Q (f x) (R o') M)->ag x (R o) M fun ρ2 M2=>ae ρ2 M2 fun y M3=>Q y ρ2 M3) (hN:∀ o,N (l.map f) (R o) M):WD ag XM (wV ae) G N l [] ρ M:=by
 have hsl:100000<sizeLine:=by rw [sizeLine_eq];decide
 refine ⟨fun i acc ρ' M'=>i<=l.length/\acc=(l.take i).map f/\M'=M/\∃ o,ρ'=R o,⟨Nat.zero_le _,rfl,rfl,h0⟩,?_,?_⟩
 ·rintro i x acc ρ' M' hx ⟨hi,rfl,rfl,o,rfl⟩
  have hil:=(List.getElem?_eq_some_iff.mp hx).1
  refine ⟨hG,?_⟩
  refine hs o x (fun y ρ2 M3=>((l.take i).map f).length<sizeLine/\(i+1<=l.length/\(l.take i).map f ++ [y]=(l.take (i+1)).map f/\M3=M'/\∃ o,ρ2=R o)) (List.mem_of_getElem? hx) fun o'=>⟨by rw [List.length_map,List.length_take];walk_at "o",hil,?_,rfl,o',rfl⟩
  rw [List.take_add_one,hx,List.map_append];rfl
 ·rintro acc ρ' M' ⟨_,rfl,rfl,o,rfl⟩
  rw [List.take_length]
  exact ⟨hG,hN o⟩
theorem FZ:isT "int" "int"=some true:=by decide +kernel
theorem GA:isT "int" "bool"=some false:=by decide +kernel
theorem Ha:isT "int" "str"=some false:=by decide +kernel
theorem GM:isT "int" "list"=some false:=by decide +kernel
theorem Hv:isT "int" "tuple"=some false:=by decide +kernel
theorem HU:isT "bool" "int"=some true:=by decide +kernel
theorem HP:isT "bool" "bool"=some true:=by decide +kernel
theorem Gm:isT "bool" "str"=some false:=by decide +kernel
theorem Hb:isT "bool" "list"=some false:=by decide +kernel
theorem GU:isT "bool" "tuple"=some false:=by decide +kernel
theorem HD:isT "str" "int"=some false:=by decide +kernel
theorem Io:isT "str" "bool"=some false:=by decide +kernel
theorem G5:isT "str" "str"=some true:=by decide +kernel
theorem GC:isT "str" "list"=some false:=by decide +kernel
theorem Gb:isT "str" "tuple"=some false:=by decide +kernel
theorem HM:isT "NoneType" "int"=some false:=by decide +kernel
theorem Hh:isT "NoneType" "bool"=some false:=by decide +kernel
theorem HZ:isT "NoneType" "str"=some false:=by decide +kernel
theorem Il:isT "NoneType" "list"=some false:=by decide +kernel
theorem HC:isT "NoneType" "tuple"=some false:=by decide +kernel
theorem GT:isT "list" "int"=some false:=by decide +kernel
theorem GG:isT "list" "bool"=some false:=by decide +kernel
theorem Gx:isT "list" "str"=some false:=by decide +kernel
theorem HQ:isT "list" "list"=some true:=by decide +kernel
theorem Gk:isT "list" "tuple"=some false:=by decide +kernel
theorem Ga:isT "tuple" "int"=some false:=by decide +kernel
theorem F5:isT "tuple" "bool"=some false:=by decide +kernel
theorem Gj:isT "tuple" "str"=some false:=by decide +kernel
theorem GE:isT "tuple" "list"=some false:=by decide +kernel
theorem G0:isT "tuple" "tuple"=some true:=by decide +kernel
theorem By:va "int" ["list","tuple"]=some false:=by decide +kernel
theorem B4:va "bool" ["list","tuple"]=some false:=by decide +kernel
theorem Ab:va "str" ["list","tuple"]=some false:=by decide +kernel
theorem B5:va "NoneType" ["list","tuple"]=some false:=by decide +kernel
theorem KH:va "list" ["list","tuple"]=some true:=by decide +kernel
theorem Xa:va "tuple" ["list","tuple"]=some true:=by decide +kernel
theorem WU:JN []=some []:=rfl
theorem Vv {n:String}{r:List Dat}:JN (.ty n :: r)=(JN r).map (n :: ·):=rfl
theorem IZ (M:MH):tyA (.d .non) M=some "NoneType":=rfl
theorem Lj (b:Bool)(M:MH):tyA (.d (.bl b)) M=some "bool":=rfl
theorem Ln (i:Int)(M:MH):tyA (.d (.int i)) M=some "int":=rfl
theorem Ld (s:Str)(M:MH):tyA (.d (.str s)) M=some "str":=rfl
theorem Lh (l:List Dat)(M:MH):tyA (.d (.lst l)) M=some "list":=rfl
theorem IK (l:List Dat)(M:MH):tyA (.d (.tup l)) M=some "tuple":=rfl
theorem V8 (x:Dat)(r:List AV):pur (.d x :: r)=match pur r with | some l=>some (x :: l) | none=>none:=rfl
theorem Hy (i j:Int):eqS (.int i) (.int j)=some (decide (i=j)):=rfl
theorem HY (i j:Bool):eqS (.bl i) (.bl j)=some (decide (i=j)):=rfl
theorem HW (i j:Str):eqS (.str i) (.str j)=some (decide (i=j)):=rfl
theorem D8:yV (.d .non)=true:=rfl
theorem ET (i:Int):yV (.d (.int i))=false:=rfl
theorem DT (i:List Dat):yV (.d (.lst i))=false:=rfl
theorem D1 (i:List Dat):yV (.d (.tup i))=false:=rfl
theorem D3 (i:Addr):yV (.ref i)=false:=rfl
theorem Et (i:Str):yV (.d (.str i))=false:=rfl
theorem Ej (i:Bool):yV (.d (.bl i))=false:=rfl
theorem vR {H H':Hp}{O:Own}{M:MH}(w:Wf H O M)(k:Kp [] H H'):Ext H O M H' O M/\Wf H' O M:=by
 have e:Ext H O M H' O M:=⟨fun a o h e=>⟨k a o (by simp) e,h⟩,fun a h e=>⟨by
  obtain ⟨o,ho,_⟩:=w.al a h
  rw [ho];exact k a o (by simp) ho,h,e⟩,fun _ h=>h⟩
 refine ⟨e,⟨fun a o h=>jp.ext e ?_ (w.mo a o h),w.own,fun a h=>?_⟩⟩
 ·obtain ⟨u,hu,_⟩:=w.al a (w.own a (by rw [h];exact fun z=>nomatch z))
  rw [hu];exact k a u (by simp) hu
 ·obtain ⟨o,ho,hn⟩:=w.al a h
  exact ⟨o,k a o (by simp) ho,hn⟩
theorem Ht {H H':Hp}{O:Own}{M:MH}(w:Wf H O M){b:Addr}{l:List AV}(hb:M b=some (.lst l))(k:Kp [b] H H'){ns:List Int}(h:H' b=some (.lst (ns.map V.int))) :
  Ext H O M H' O (mup M b (.lst (ns.map fun i=>.d (.int i))))/\Wf H' O (mup M b (.lst (ns.map fun i=>.d (.int i)))):=by
 have hOb:=w.own b (jI hb)
 have kk:∀ a o,a ≠ b->H a=some o->H' a=some o:=fun a o ha e=>k a o (by simpa using ha) e
 have e:Ext H O M H' O (mup M b (.lst (ns.map fun i=>.d (.int i)))):=⟨fun a o h e=>⟨kk a o (fun z=>h (by rw [z];exact hOb)) e,h⟩,fun a ha e=>by
  have hne:a ≠ b:=fun z=>by rw [z,hb] at e;cases e
  obtain ⟨o,ho,_⟩:=w.al a ha
  exact ⟨by rw [ho];exact kk a o hne ho,ha,by rw [zI hne];exact e⟩,fun a ha=>by
  by_cases c:a=b
  ·rw [c,zm];exact fun z=>nomatch z
  ·rw [zI c];exact ha⟩
 refine ⟨e,⟨fun a o ho=>?_,fun a ha=>?_,fun a ha=>?_⟩⟩
 ·by_cases c:a=b
  ·subst c;rw [zm] at ho;cases ho;exact ⟨_,h,Qb ns⟩
  ·rw [zI c] at ho
   refine jp.ext e ?_ (w.mo a o ho)
   obtain ⟨u,hu,_⟩:=w.al a (w.own a (jI ho))
   rw [hu];exact kk a u c hu
 ·by_cases c:a=b
  ·rw [c];exact hOb
  ·rw [zI c] at ha;exact w.own a ha
 ·by_cases c:a=b
  ·rw [c];exact ⟨_,h,fun xs z=>nomatch z⟩
  ·obtain ⟨o,ho,hn⟩:=w.al a ha
   exact ⟨o,kk a o c ho,hn⟩
theorem kE {H:Hp}{O:Own}{p:Addr}{ns:List Int}(ho:¬ O p)(h:H p=some (.lst (ns.map V.int))):Rep H O (.ref p) (.lst (ns.map .int)):=
 Rep.lst ho h (by simp) fun i x d e1 e2=>by
  rw [List.getElem?_map] at e1 e2
  cases e:ns[i]? with
  | none=>rw [e] at e1;cases e1
  | some n=>rw [e] at e1 e2;cases e1;cases e2;exact .int
theorem v6 {H:Hp}{O:Own}{M:MH}{v:V}{x:AV}{ns:List Int}(w:Wf H O M)(r:zA H O M v x)(h:qm x M=some (ns.map fun i=>.d (.int i))):∃ a,v=.ref a/\(H a=some (.lst (ns.map V.int)) \/ H a=some (.tup (ns.map V.int))):=by
 obtain ⟨a,xs,rfl,h1,r1⟩:=wr w r h
 rw [jX r1] at h1
 exact ⟨a,rfl,h1⟩
theorem BA {H:Hp}{O:Own}{M:MH}{v:V}{x:AV}{ns:List Int}(w:Wf H O M)(r:zA H O M v x)(h:qR x M=some (ns.map fun i=>.d (.int i))):∃ a,v=.ref a/\H a=some (.lst (ns.map V.int)):=by
 obtain ⟨a,xs,rfl,h1,r1⟩:=qG w r h
 rw [jX r1] at h1
 exact ⟨a,rfl,h1⟩
theorem Df.imp' {P:Program}{w:World}{K:PySem.W.Frag}{mg:Str->Option Value}{base:Heap}{x:Str}{ps:List Str}{sp sp':Sp}{k:Nat}(D:Df P w K mg base x ps k sp)(h:∀ vs H Q E,sp' vs H Q E->sp vs H Q E):Df P w K mg base x ps k sp':=
 let ⟨f,fd,F,r⟩:=D
 ⟨f,fd,F.imp h,r⟩
mutual
noncomputable def wdt:Dat->Nat
 | .lst l=>max l.length (Xd l)
 | .tup l=>max l.length (Xd l)
 | _=>0
noncomputable def Xd:List Dat->Nat
 | []=>0
 | a :: r=>max (wdt a) (Xd r)
end
theorem Yy {l:List Dat}{n:Nat}(h:∀ d ∈ l,wdt d<=n):Xd l<=n:=by
 induction l with
 | nil=>exact Nat.zero_le _
 | cons a r ih=>rw [Xd];exact Nat.max_le.mpr ⟨h a (by simp),ih fun d hd=>h d (by simp [hd])⟩
theorem YA {l:List Dat}{d:Dat}(h:d ∈ l):wdt d<=Xd l:=by
 induction l with
 | nil=>cases h
 | cons a r ih=>
  rw [Xd]
  rcases List.mem_cons.mp h with rfl | h
  ·exact Nat.le_max_left _ _
  ·exact Nat.le_trans (ih h) (Nat.le_max_right _ _)
noncomputable def jO (n:Nat)(d:Dat):Prop:=dp d<=n/\wdt d<=100000
theorem jO.mono {n m:Nat}{d:Dat}(h:jO n d)(k:n<=m):jO m d:=⟨Nat.le_trans h.1 k,h.2⟩
theorem BL {n:Nat}{l:List Dat}(hl:l.length<=100000)(h:∀ d ∈ l,jO n d):jO (n+1) (.lst l):=⟨by rw [dp];exact Nat.succ_le_succ (yp fun d hd=>(h d hd).1),by rw [wdt];exact Nat.max_le.mpr ⟨hl,Yy fun d hd=>(h d hd).2⟩⟩
theorem Bq {n:Nat}{l:List Dat}(hl:l.length<=100000)(h:∀ d ∈ l,jO n d):jO (n+1) (.tup l):=⟨by rw [dp];exact Nat.succ_le_succ (yp fun d hd=>(h d hd).1),by rw [wdt];exact Nat.max_le.mpr ⟨hl,Yy fun d hd=>(h d hd).2⟩⟩
theorem QO (n:Nat)(i:Int):jO n (.int i):=⟨by simp [dp],by simp [wdt]⟩
theorem xr {ns:List Int}(h:ns.length<=100000):jO 1 (.lst (ns.map .int)):=BL (by simpa using h) fun d hd=>by obtain ⟨i,_,rfl⟩:=List.mem_map.mp hd;exact QO 0 i
theorem KA {ns:List Int}(h:ns.length<=100000):jO 1 (.tup (ns.map .int)):=Bq (by simpa using h) fun d hd=>by obtain ⟨i,_,rfl⟩:=List.mem_map.mp hd;exact QO 0 i
theorem jO.lst {n:Nat}{l:List Dat}(h:jO (n+1) (.lst l)):l.length<=100000/\∀ d ∈ l,jO n d:=by
 obtain ⟨h1,h2⟩:=h
 rw [dp] at h1
 rw [wdt] at h2
 exact ⟨(Nat.max_le.mp h2).1,fun d hd=>⟨by have:=qw hd;walk_at "o",Nat.le_trans (YA hd) (Nat.max_le.mp h2).2⟩⟩
theorem jO.tup {n:Nat}{l:List Dat}(h:jO (n+1) (.tup l)):l.length<=100000/\∀ d ∈ l,jO n d:=by
 obtain ⟨h1,h2⟩:=h
 rw [dp] at h1
 rw [wdt] at h2
 exact ⟨(Nat.max_le.mp h2).1,fun d hd=>⟨by have:=qw hd;walk_at "o",Nat.le_trans (YA hd) (Nat.max_le.mp h2).2⟩⟩
theorem Q1 {x:AV}{M:MH}{l:List Dat}(h:yn x M=some (.lst l)):qR x M=some (l.map .d)/\qm x M=some (l.map .d)/\tyA x M=some "list"/\yV x=false:=by
 cases x with
 | d x=>cases h;exact ⟨rfl,rfl,rfl,rfl⟩
 | ref a=>
  unfold yn at h
  dsimp only at h
  cases e:M a with
  | none=>rw [e] at h;cases h
  | some o=>
   rw [e] at h
   cases o with
   | lst m=>
    dsimp only at h
    cases ep:pur m with
    | none=>rw [ep] at h;cases h
    | some ds=>
     rw [ep] at h
     cases h
     rw [j5 ep] at e
     exact ⟨je e,jR e,by unfold tyA;dsimp only;rw [e],rfl⟩
   | _=>cases h
theorem qv {x:AV}{M:MH}{d:Dat}(h:yn x M=some d)(hd:∀ l,d ≠ .lst l):x=.d d:=by
 cases x with
 | d x=>cases h;rfl
 | ref a=>
  unfold yn at h
  dsimp only at h
  cases e:M a with
  | none=>rw [e] at h;cases h
  | some o=>
   rw [e] at h
   cases o with
   | lst m=>
    dsimp only at h
    cases ep:pur m with
    | none=>rw [ep] at h;cases h
    | some ds=>rw [ep] at h;cases h;exact absurd rfl (hd ds)
   | _=>cases h
theorem IB (b:Bool):dp (.bl b)=0:=by simp [dp]
theorem Dt (b:Str):dp (.str b)=0:=by simp [dp]
theorem GJ:dp .non=0:=by simp [dp]
theorem HS (a b:Bool):eqD (.bl a) (.bl b)=decide (a=b):=by rw [eqD];cases a <;> cases b <;> rfl
theorem Kl (a b:Int):eqD (.int a) (.int b)=decide (a=b):=by rw [eqD];by_cases h:a=b <;> simp [h]
theorem WK (a b:Str):eqD (.str a) (.str b)=decide (a=b):=by rw [eqD];by_cases h:a=b <;> simp [h]
theorem Gi:eqD .non .non=true:=by simp [eqD]
theorem Hx (i:Int):eqD .non (.int i)=false:=by simp [eqD]
theorem GR (i:Int):eqD (.int i) .non=false:=by simp [eqD]
theorem HN (i:Int)(s:Str):eqD (.int i) (.str s)=false:=by simp [eqD]
theorem F9 (i:Int)(s:Str):eqD (.str s) (.int i)=false:=by simp [eqD]
theorem He (s:Str):eqD (.str s) .non=false:=by simp [eqD]
theorem GW (s:Str):eqD .non (.str s)=false:=by simp [eqD]
theorem WZ {x:AV}{M:MH}{l:List AV}(h:qR x M=some l){p:Addr}(hp:M p=none)(o:MO):qR x (mup M p o)=some l:=by
 rcases vX h with ⟨m,rfl,rfl⟩ | ⟨a,rfl,e⟩
 ·rfl
 ·exact je (by rw [zI (fun z=>by rw [z,hp] at e;cases e)];exact e)
theorem xT {x:AV}{M:MH}{l:List AV}(h:qm x M=some l){p:Addr}(hp:M p=none)(o:MO):qm x (mup M p o)=some l:=by
 rcases jU h with h' | ⟨m,rfl,rfl⟩
 ·have:=WZ h' hp o
  rcases vX h' with ⟨m,rfl,rfl⟩ | ⟨a,rfl,e⟩
  ·rfl
  ·exact this
 ·rfl
theorem jH (ns:List Int):List.map AV.d (List.map Dat.int ns)=List.map (fun i=>AV.d (.int i)) ns:=by rw [List.map_map];rfl
theorem WR (ns:List Bool):List.map AV.d (List.map Dat.bl ns)=List.map (fun i=>AV.d (.bl i)) ns:=by rw [List.map_map];rfl
theorem zT (ns:List Int):pur (List.map (fun i=>AV.d (.int i)) ns)=some (ns.map Dat.int):=by rw [<- jH,qf]
theorem EB (ns:List Bool):pur (List.map (fun i=>AV.d (.bl i)) ns)=some (ns.map Dat.bl):=by rw [<- WR,qf]
theorem XX {α β:Type}(f:α->β)(l:List α)(i:Int):atI (l.map f) i=(atI l i).map f:=by
 unfold atI
 rw [List.length_map]
 cases ixN l.length i with
 | none=>rfl
 | some j=>exact List.getElem?_map ..
theorem xK {n:Nat}{i:Int}(h0:0<=i)(h1:i<n):ixN n i=some i.toNat:=by unfold ixN;rw [if_pos h0,if_pos h1]
theorem Af {α:Type}{l:List α}{i:Int}(h0:0<=i)(h1:i<l.length)(d:α):atI l i=some (l.getD i.toNat d):=by
 unfold atI
 rw [xK h0 h1]
 show l[i.toNat]?=_
 rw [List.getD_eq_getElem?_getD,List.getElem?_eq_getElem (by walk_at "o")];rfl
theorem xg {ns:List Int}{i:Int}(h0:0<=i)(h1:i<ns.length):atI (ns.map fun i=>AV.d (.int i)) i=some (.d (.int (ns.getD i.toNat 0))):=by rw [XX,Af h0 h1 0];rfl
theorem YO {α β:Type}(f:α->β)(xs:List α)(lo hi st:Option Int):slA (xs.map f) lo hi st=(slA xs lo hi st).map f:=by
 unfold slA
 rw [List.length_map]
 generalize sliceRange _ _ _=ks
 induction ks with
 | nil=>rfl
 | cons k r ih=>
  rw [List.filterMap_cons,List.filterMap_cons,List.getElem?_map]
  cases xs[k]? with
  | none=>exact ih
  | some v=>exact congrArg _ ih
theorem A6 (xs:List V):slA xs none (some 0) (some (-1))=(xs.drop 1).reverse:=Ws xs
theorem YW (ns:List Int):slA ns none (some 0) (some (-1))=(ns.drop 1).reverse:=by
 have h:=A6 (ns.map V.int)
 rw [YO,<- List.map_drop,<- List.map_reverse] at h
 exact (List.map_inj_right (fun _ _ z=>V.int.inj z)).mp h
theorem Vp {α:Type}(xs:List α)(k:Nat):yZ xs (some (k:Int)) none=xs.drop k:=by
 unfold yZ
 rw [HT.sIx_nat,HT.sIx_none,List.take_of_length_le (by rw [List.length_drop];walk_at "o")]
 by_cases h:k<=xs.length
 ·rw [Nat.min_eq_left h]
 ·rw [Nat.min_eq_right (by walk_at "o"),List.drop_length,List.drop_of_length_le (by walk_at "o")]
theorem E4 {α:Type}(xs:List α)(k:Nat):yZ xs none (some (k:Int))=xs.take k:=by
 unfold yZ
 rw [HT.sIx_nat,HT.sIx_none,List.drop_zero,Nat.sub_zero]
 by_cases h:k<=xs.length
 ·rw [Nat.min_eq_left h]
 ·rw [Nat.min_eq_right (by walk_at "o"),List.take_of_length_le (Nat.le_refl _),List.take_of_length_le (by walk_at "o")]
theorem zo {a zF:AS}{B:MH}{D:yQ}{ρ:ASt}{M:MH}(h:∀ r,r=zF->kZ a r B D ρ M):kZ a zF B D ρ M:=h zF rfl
theorem Fr.non {M M':MH}(f:Fr M M'){p:Addr}(h:M' p=none):M p=none:=by
 cases e:M p with
 | none=>rfl
 | some o=>rw [f p (by rw [e];exact fun z=>nomatch z),e] at h;cases h
noncomputable abbrev ilD (os:List Int):Dat:=.lst (os.map .int)
theorem Yn (ns:List Int)(M:MH):qR (.d (ilD ns)) M=some (ns.map fun i=>.d (.int i)):=by rw [W7,jH]
noncomputable def BxM (M:MH)(b:Addr)(N:Nat):Prop:=∃ x y z:Int,M b=some (.lst [.d (.int x),.d (.int y),.d (.int z)])/\0<=x/\0<=y/\y<2147483648/\0<=z/\z<=N
theorem BxM.mono {M:MH}{b:Addr}{N N':Nat}(h:BxM M b N)(hn:N<=N'):BxM M b N':=by
 obtain ⟨x,y,z,h1,h2,h3,h4,h5,h6⟩:=h
 exact ⟨x,y,z,h1,h2,h3,h4,h5,by walk_at "o"⟩
theorem BxM.ne {M:MH}{b:Addr}{N:Nat}(h:BxM M b N):M b ≠ none:=by obtain ⟨x,y,z,h1,_⟩:=h;exact jI h1
theorem BxM.bx {H:Hp}{O:Own}{M:MH}{b:Addr}{N:Nat}(w:Wf H O M)(h:BxM M b N):Bx H b N:=by
 obtain ⟨x,y,z,h1,h2⟩:=h
 obtain ⟨xs,hx,rx⟩:=w.mo b _ h1
 rw [jX (ns:=[x,y,z]) rx] at hx
 exact ⟨x,y,z,hx,h2⟩
noncomputable def BxS (M M':MH)(b:Addr)(N:Nat):Prop:=BxM M' b N/\∃ o,M'=mup M b o
theorem BxS.at {M M':MH}{b:Addr}{N:Nat}(h:BxS M M' b N){q:Addr}(hq:q ≠ b):M' q=M q:=by
 obtain ⟨_,o,rfl⟩:=h
 exact zI hq
theorem K7 {H H':Hp}{O:Own}{M:MH}(w:Wf H O M){b:Addr}{N N':Nat}(hb:BxM M b N)(k:Kp [b] H H')(h:Bx H' b N'):∃ M',BxS M M' b N'/\Ext H O M H' O M'/\Wf H' O M':=by
 obtain ⟨x,y,z,h1,_⟩:=hb
 obtain ⟨x',y',z',g1,g2⟩:=h
 obtain ⟨e1,e2⟩:=Ht w h1 k (ns:=[x',y',z']) g1
 exact ⟨_,⟨⟨x',y',z',zm,g2⟩,_,rfl⟩,e1,e2⟩
mutual
noncomputable def pdD:Dat->PyData
 | .bl b=>.bool b
 | .int i=>.int i
 | .str x=>.str x
 | .lst l=>.list (Qm l)
 | .tup l=>.tuple (Qm l)
 | _=>.none
noncomputable def Qm:List Dat->List PyData
 | []=>[]
 | a :: r=>pdD a :: Qm r
end
section
variable {X:Cx}{pins:List (Addr × Obj)}{s:Shared}{σ:St}{H:Hp}{O:Own}
mutual
theorem Hw:∀ d:Dat,(pdD d).hasDict=false
 | .non=>by simp [pdD,PyData.hasDict]
 | .bl _=>by simp [pdD,PyData.hasDict]
 | .int _=>by simp [pdD,PyData.hasDict]
 | .str _=>by simp [pdD,PyData.hasDict]
 | .ty _=>by simp [pdD,PyData.hasDict]
 | .rng _ _ _=>by simp [pdD,PyData.hasDict]
 | .scr _ _=>by simp [pdD,PyData.hasDict]
 | .lst l=>by rw [pdD,PyData.hasDict];exact ZU l
 | .tup l=>by rw [pdD,PyData.hasDict];exact ZU l
theorem ZU:∀ l:List Dat,PyData.hasDictAll (Qm l)=false
 | []=>by simp [Qm,PyData.hasDictAll]
 | a :: r=>by rw [Qm,PyData.hasDictAll,Hw a,ZU r];rfl
end
mutual
theorem Bv:∀ d:Dat,(pdD d).depth<=dp d
 | .non=>by simp [pdD,PyData.depth]
 | .bl _=>by simp [pdD,PyData.depth]
 | .int _=>by simp [pdD,PyData.depth]
 | .str _=>by simp [pdD,PyData.depth]
 | .ty _=>by simp [pdD,PyData.depth]
 | .rng _ _ _=>by simp [pdD,PyData.depth]
 | .scr _ _=>by simp [pdD,PyData.depth]
 | .lst l=>by rw [pdD,PyData.depth,dp];exact Nat.succ_le_succ (yL l)
 | .tup l=>by rw [pdD,PyData.depth,dp];exact Nat.succ_le_succ (yL l)
theorem yL:∀ l:List Dat,PyData.depthAll (Qm l)<=dps l
 | []=>by simp [Qm,PyData.depthAll]
 | a :: r=>by rw [Qm,PyData.depthAll,dps];exact Nat.max_le.mpr ⟨Nat.le_trans (Bv a) (Nat.le_max_left _ _),Nat.le_trans (yL r) (Nat.le_max_right _ _)⟩
end
end
section
variable {X:Cx}
end
structure Sh (b:Nat)(d:Dat):Prop where
 s:(pdD d).showable=true
 l:(pdD d).shown.length<=b
noncomputable def IJ (i:Nat)(t:TS):TS:=t
theorem Yc {X:Cx}{ss:List Stmt}{t:TS}(i:Nat)(h:PSs X ss t):PSs X ss (IJ i t):=h
noncomputable def IU (i:Nat)(a:AS):AS:=fun B D ρ M=>∃ p l ds,ρ[i]?=some (some (.ref p))/\M p=some (.lst l)/\pur l=some ds/\B p=none/\(∀ j:Nat,j ≠ i->ρ[j]? ≠ some (some (.ref p)))/\(∀ q o,q ≠ p->M q=some o->B q=some o \/ ¬ vF p o)/\a B D (ρ.set i (some (.d (.lst ds)))) (mdel M p)
theorem WW {i:Nat}{t:TS}{a:AS}(h:jB t a):jB (IJ i t) (IU i a):=⟨fun {H0 O0 M0 D D' σ H O ρ M} w0 w e x q E=>by
 obtain ⟨p,l,ds,hi,hm,hp,hb,ho,hr,q⟩:=q
 obtain ⟨xs,hx,rx⟩:=w.mo p _ hm
 have rx0:=rx
 rw [j5 hp] at rx
 have rp:=rx.pure
 have ks:=xo (H:=H) (O:=O) p
 have refs0:∀ q o,M0 q=some o->¬ vF p o:=fun q o eq hr'=>by
  have:=w0.mo q o eq
  cases o with
  | lst l=>obtain ⟨xs,_,rr⟩:=this;obtain ⟨i,hi⟩:=List.getElem?_of_mem hr';obtain ⟨y,_,ry⟩:=rr.get hi;exact ry.2 hb
  | dK l=>obtain ⟨xs,_,rr⟩:=this;obtain ⟨i,hi⟩:=List.getElem?_of_mem hr';obtain ⟨y,_,ry⟩:=rr.2.get hi;exact ry.2 hb
  | ins C l=>obtain ⟨dx,xs,_,rr,_⟩:=this;obtain ⟨i,hi⟩:=List.getElem?_of_mem hr';obtain ⟨y,_,ry⟩:=rr.2.get hi;exact ry.2 hb
  | exc C l=>exact hr'.elim
 have av:∀ {v:V} {y:AV},zA H O M v y->y ≠ .ref p->zA H (ZM O p) (mdel M p) v y:=fun {v y} r hy=>by
  cases y with
  | d y=>exact Rep.imp ks r
  | ref a=>exact ⟨r.1,by rw [ja (fun z=>hy (by rw [z]))];exact r.2⟩
 have avs:∀ {vs:List V} {ys:List AV},zk H O M vs ys->AV.ref p ∉ ys->zk H (ZM O p) (mdel M p) vs ys:=fun r hy=>⟨r.1,fun i v y e1 e2=>av (r.2 i v y e1 e2) fun z=>hy (by rw [<- z];exact List.mem_of_getElem? e2)⟩
 have hOd:∀ dx b,O dx->M dx=none->H dx=some b->(∀ xs,b ≠ .lst xs)->ZM O p dx/\mdel M p dx=none:=fun dx b h1 h2 h3 h4=>⟨⟨QU h3 hx (h4 _),h1⟩,by unfold mdel;split;rfl;exact h2⟩
 refine h.go w0 ⟨fun q o eq=>?_,fun a ha=>?_,fun a (ha:ZM O p a)=>w.al a ha.2⟩ ⟨?_,fun j y hj=>?_⟩ ⟨fun a o ha eo=>⟨(x.fix a o ha eo).1,fun (z:ZM O p a)=>(x.fix a o ha eo).2 z.2⟩,fun a ha eo=>?_,fun a ha=>?_⟩ q E
 ·have hq:q ≠ p:=fun z=>by rw [z,yw] at eq;cases eq
  rw [ja hq] at eq
  have hno:¬ vF p o:=(hr q o hq eq).elim (fun z=>refs0 q o z) (fun z=>z)
  have:=w.mo q o eq
  cases o with
  | lst l=>obtain ⟨xs,h1,rr⟩:=this;exact ⟨xs,h1,avs rr hno⟩
  | dK l=>obtain ⟨xs,h1,rr⟩:=this;exact ⟨xs,h1,rr.1,avs rr.2 hno⟩
  | ins C l=>obtain ⟨dx,xs,h1,rr,h2,h3,h4⟩:=this;exact ⟨dx,xs,h1,⟨rr.1,avs rr.2 hno⟩,(hOd dx _ h2 h3 h4 (fun _ z=>nomatch z)).1,(hOd dx _ h2 h3 h4 (fun _ z=>nomatch z)).2,h4⟩
  | exc C l=>
   obtain ⟨d,h1,h2⟩:=this
   refine ⟨d,h1,?_⟩
   rcases h2 with h2 | ⟨dx,e1,h2,h3,h4⟩
   ·exact .inl h2
   ·exact .inr ⟨dx,e1,h2,(hOd dx _ h3 h4 h2 (fun _ z=>nomatch z)).1,(hOd dx _ h3 h4 h2 (fun _ z=>nomatch z)).2⟩
 ·have hq:a ≠ p:=fun z=>ha (by rw [z,yw])
  rw [ja hq] at ha
  exact ⟨hq,w.own a ha⟩
 ·rw [List.length_set];exact e.len
 ·rw [List.getElem?_set] at hj
  by_cases c:i=j
  ·rw [if_pos c] at hj
   split at hj
   ·cases hj
    obtain ⟨v,hv,rv⟩:=e.get i _ hi
    rw [<- c]
    exact ⟨v,hv,by rw [rv.1];exact Rep.lst (fun z=>z.1 rfl) hx rp.1 fun i x d e1 e2=>(rp.2 i x d e1 e2).imp ks⟩
   ·cases hj
  ·rw [if_neg c] at hj
   obtain ⟨v,hv,rv⟩:=e.get j y hj
   exact ⟨v,hv,av rv fun z=>ho j (fun z'=>c z'.symm) (by rw [<- z];exact hj)⟩
 ·obtain ⟨x1,x2,x3⟩:=x.prv a ha eo
  have hne:a ≠ p:=fun z=>by rw [z,hm] at x3;cases x3
  exact ⟨x1,⟨hne,x2⟩,by rw [ja hne];exact x3⟩
 ·have hq:a ≠ p:=fun z=>ha (by rw [z];exact hb)
  rw [ja hq];exact x.mst a ha⟩
theorem Fd {a b:ASp}(h:∀ xs M Q,b xs M Q->a xs M (rtA M Q))(vs:List V)(H:Hp)(Q:VK)(E:XK)(q:cSp b vs H Q E):cSp a vs H Q E:=by
 obtain ⟨xs,M,O,Q',w,r,q,k⟩:=q
 refine ⟨xs,M,O,_,w,r,h xs M Q' q,fun x M' v H' O' q' e' w' r'=>?_⟩
 obtain ⟨y',M'',f,q2⟩:=q'
 obtain ⟨O'',w2,k2,r2⟩:=wj w w' e' r' f
 exact k _ _ _ _ _ q2 k2 w2 r2
structure SB (M0 M:MH)(b:Addr)(N:Nat):Prop where
 bx:BxM M b N
 fr:∀ q,M0 q ≠ none->q ≠ b->M q=M0 q
 b0:M0 b ≠ none
theorem SB.refl {M:MH}{b:Addr}{N:Nat}(h:BxM M b N):SB M M b N:=⟨h,fun _ _ _=>rfl,h.ne⟩
theorem SB.go {M0 M M':MH}{b:Addr}{N N':Nat}(s:SB M0 M b N)(t:BxS M M' b N'):SB M0 M' b N':=⟨t.1,fun q hq hb=>(t.at hb).trans (s.fr q hq hb),s.b0⟩
theorem SB.mono {M0 M:MH}{b:Addr}{N N':Nat}(s:SB M0 M b N)(h:N<=N'):SB M0 M b N':=⟨s.bx.mono h,s.fr,s.b0⟩
theorem BxM.put {M:MH}{b p:Addr}{N:Nat}(h:BxM M b N)(n:b ≠ p)(o:MO):BxM (mup M p o) b N:=by
 obtain ⟨x,y,z,h1,h2⟩:=h
 exact ⟨x,y,z,by rw [zI n];exact h1,h2⟩
theorem SB.new {M0 M:MH}{b p:Addr}{N:Nat}(s:SB M0 M b N)(hp:M p=none):M0 p=none/\p ≠ b:=by
 have hb:p ≠ b:=fun z=>s.bx.ne (by rw [<- z];exact hp)
 refine ⟨?_,hb⟩
 cases e:M0 p with
 | none=>rfl
 | some o=>rw [s.fr p (by rw [e];exact fun z=>nomatch z) hb,e] at hp;cases hp
theorem SB.put {M0 M:MH}{b p:Addr}{N:Nat}(s:SB M0 M b N)(h0:M0 p=none)(hb:p ≠ b)(o:MO):SB M0 (mup M p o) b N:=
 ⟨s.bx.put (Ne.symm hb) o,fun q hq hqb=>by rw [zI (fun z=>hq (by rw [z];exact h0))];exact s.fr q hq hqb,s.b0⟩
theorem SB.fin {M0 M:MH}{b:Addr}{N:Nat}(s:SB M0 M b N)(d:Dat):∃ M'',ZR M0 M (.d d) (.d d) M''/\BxS M0 M'' b N:=by
 obtain ⟨x,y,z,h1,h2⟩:=s.bx
 refine ⟨mup M0 b (.lst [.d (.int x),.d (.int y),.d (.int z)]),⟨fun q=>?_,fun q o e=>?_,.inl ⟨rfl,fun p z=>nomatch z⟩⟩,⟨x,y,z,zm,h2⟩,_,rfl⟩
 ·by_cases c:q=b
  ·rw [c,zm,h1];exact .inl rfl
  ·rw [zI c]
   cases e:M0 q with
   | none=>exact .inr ⟨rfl,rfl⟩
   | some o=>exact .inl (by rw [s.fr q (by rw [e];exact fun z=>nomatch z) c,e])
 ·by_cases c:q=b
  ·rw [c,zm] at e
   cases e
   exact .inr fun r hr=>absurd hr (vp (ds:=[.int x,.int y,.int z]) rfl r)
  ·rw [zI c] at e;exact .inl e
theorem SB.rt {M0 M:MH}{b:Addr}{N:Nat}{Q:AK}{d:Dat}(s:SB M0 M b N)(q:∀ M',BxS M0 M' b N->Q (.d d) M'):rtA M0 Q (.d d) M:=by
 obtain ⟨M'',f,t⟩:=s.fin d
 exact ⟨_,_,f,q M'' t⟩
theorem wy {M0 M:MH}{Q:AK}{d:Dat}(f:Fr M0 M)(q:Q (.d d) M0):rtA M0 Q (.d d) M:=⟨_,_,J9 f d,q⟩
theorem SB.frm {M M2 M':MH}{b:Addr}{N:Nat}(f:Fr M M2)(hb:M b=none)(s:SB M2 M' b N):Fr M M':=fun q hq=>by
 have h1:q ≠ b:=fun z=>hq (by rw [z];exact hb)
 rw [s.fr q (by rw [f q hq];exact hq) h1,f q hq]
theorem Ew (l m:List Dat):pur (l.map AV.d ++ m.map AV.d)=some (l ++ m):=by rw [<- List.map_append,qf]
theorem E6 (ns:List Int)(k:Nat):pur (yZ (ns.map fun i=>AV.d (.int i)) none (some (k:Int)))=some ((ns.take k).map .int):=by rw [Jf,E4,zT]
theorem Vz (ns:List Int)(k:Nat):pur (yZ (ns.map fun i=>AV.d (.int i)) (some (k:Int)) none)=some ((ns.drop k).map .int):=by rw [Jf,Vp,zT]
section
variable {X:Cx}
end
section
open PySem.SeqAt
open PySem.AutoSeq1 (wpAny_loadPart')
open PySem.MeetsSeq PySem.MeetsSeq2 PySem.MeetsSeq3 PySem.SeqRoads2
end
section
variable {X:Cx}
end
section
variable {X:Cx}{pins:List (Addr × Obj)}{σ:St}{H:Hp}{s:Shared}{a b:Addr}{kvs:List (List Key × V)}{k:List Key}{v:V}{r:Value}{A:Around}{E:Value->Shared->Prop}
end
section
variable {prog:Program}{w:World}{A:Around}{E:Value->Shared->Prop}{s:Shared}
theorem Q9 {l:Addr}{vs:List Value}{Q:List Value->Shared->Prop}(hl:IsTup s.heap l vs.toArray)
  (h:Q vs { s with heap:=(s.heap.push (seqObj "list" #[] 0)).update s.heap.objs.size (Obj.mapSeq (· ++ vs.toArray)) }) (hsz:vs.length<=sizeLine:=by size_fits) :
  wpAny (model prog w) A (collect (.ref l)) Q E s:=by
 obtain ⟨o,ho,hc,n,hd⟩:=id hl
 unfold collect
 refine wpAny_bind (wpAny_runValue (codeAny_builtin entry_proto_collect' ?_))
 show wpAny _ _ (do again (.builtin "list.__iadd__" ⟨[<- newList [],.ref l],[]⟩)) _ _ s
 refine wpAny_bind (wpAny_newList (wpAny_pure ⟨Code.quiet_builtin _ (by decide +kernel),codeAny_builtin entry_list_iadd' ?_⟩))
 show wpAny _ _ (Builtin.List.listExtendWith (.ref s.heap.objs.size) (.ref l) (.ref s.heap.objs.size)) _ _ { s with heap:=s.heap.push (seqObj "list" #[] 0) }
 unfold Builtin.List.listExtendWith
 have ho':(s.heap.push (seqObj "list" #[] 0)).get? l=some o:=Heap.get?_push_of_some _ ho
 refine wpAny_bind (wpAny_typeOf (T:="tuple") ⟨o,ho',hc⟩ ?_)
 have ht:(Value.type "tuple" == Value.type "tuple")=true:=by rfl
 rw [if_pos (by rw [ht];simp)]
 refine wpAny_bind (listItems_at ho' hd ?_)
 refine wpAny_bind (listItems_at (xs:=#[]) (n:=0) (Heap.get?_push_size _ rfl) rfl ?_)
 rw [if_neg (by simp)]
 refine wpAny_bind (listUpdate_at (xs:=#[]) (n:=0) (Heap.get?_push_size _ rfl) rfl ?_ (Nat.zero_le _) (by show (#[] ++ vs.toArray).size<=sizeLine+1;simp only [Array.size_append,List.size_toArray,List.length_nil];walk_at "o"))
 refine wpAny_pure ?_
 show wpAny (model prog w) A (do
   let o <- load s.heap.objs.size
   match o.data with
   | .seq xs _=>pure xs.toList
   | _=>unsupported "internal:collect") Q E { s with heap:=(s.heap.push (seqObj "list" #[] 0)).update s.heap.objs.size (Obj.mapSeq (· ++ vs.toArray)) }
 refine wpAny_bind (wpAny_load (get?_update_seq (Heap.get?_push_size _ rfl) _) ?_)
 show wpAny _ _ (pure ((#[]:Array Value) ++ vs.toArray).toList) Q E _
 rw [show ((#[]:Array Value) ++ vs.toArray).toList=vs by simp]
 exact wpAny_pure h
end
section
variable {X:Cx}
end
theorem Zx {α τ:Type}(R:τ->ASt)(g f:α->AV)(xs:List α){ag:AG}{ae:AE}{G:MH->Prop}{N:List AV->ASt->MH->Prop}{ρ:ASt}{M:MH}(h0:∃ o,ρ=R o)(hG:G M)(hl:xs.length<=100000)
  (hs:∀ (o:τ) (x:α) (Q:AV->ASt->MH->Prop),x ∈ xs->(∀ o',Q (f x) (R o') M)->ag (g x) (R o) M fun ρ2 M2=>ae ρ2 M2 fun y M3=>Q y ρ2 M3) (hN:∀ o,N (xs.map f) (R o) M):WD ag XM (wV ae) G N (xs.map g) [] ρ M:=by
 have hsl:100000<sizeLine:=by rw [sizeLine_eq];decide
 refine ⟨fun i acc ρ' M'=>i<=xs.length/\acc=(xs.take i).map f/\M'=M/\∃ o,ρ'=R o,⟨Nat.zero_le _,rfl,rfl,h0⟩,?_,?_⟩
 ·rintro i x acc ρ' M' hx ⟨hi,rfl,rfl,o,rfl⟩
  rw [List.getElem?_map] at hx
  cases e:xs[i]? with
  | none=>rw [e] at hx;cases hx
  | some y=>
   rw [e] at hx
   cases hx
   have hil:=(List.getElem?_eq_some_iff.mp e).1
   refine ⟨hG,?_⟩
   refine hs o y (fun z ρ2 M3=>((xs.take i).map f).length<sizeLine/\(i+1<=xs.length/\(xs.take i).map f ++ [z]=(xs.take (i+1)).map f/\M3=M'/\∃ o,ρ2=R o)) (List.mem_of_getElem? e) fun o'=>⟨by rw [List.length_map,List.length_take];walk_at "o",hil,?_,rfl,o',rfl⟩
   rw [List.take_add_one,e,List.map_append];rfl
 ·rintro acc ρ' M' ⟨_,rfl,rfl,o,rfl⟩
  rw [List.length_map,List.take_length]
  exact ⟨hG,hN o⟩
noncomputable def fl2 (o:Obj):Option Value:=match o.data with
 | .fields vs=>vs[2]?
 | _=>none
noncomputable def SmD (h h':Heap):Prop:=∀ b o,h.get? b=some o->∃ o',h'.get? b=some o'/\o'.dict=o.dict/\fl2 o'=fl2 o
theorem SmD.refl (h:Heap):SmD h h:=fun _ o e=>⟨o,e,rfl,rfl⟩
theorem SmD.trans {h h1 h2:Heap}(a:SmD h h1)(b:SmD h1 h2):SmD h h2:=fun c o e=>
 let ⟨_,e1,d1,f1⟩:=a c o e
 let ⟨o2,e2,d2,f2⟩:=b c _ e1
 ⟨o2,e2,d2.trans d1,f2.trans f1⟩
theorem SmD.push (h:Heap)(o:Obj):SmD h (h.push o):=fun _ u e=>⟨u,Heap.get?_push_of_some _ e,rfl,rfl⟩
theorem SmD.up {h:Heap}{a:Addr}{f:Obj->Obj}(k:∀ o,(f o).dict=o.dict/\fl2 (f o)=fl2 o/\(o.isFreed=false->(f o).isFreed=false)):SmD h (h.update a f):=fun b o e=>by
 by_cases c:a=b
 ·subst c
  exact ⟨_,Heap.get?_update_self f e ((k o).2.2 (Heap.get?_some_iff.mp e).2),(k o).1,(k o).2.1⟩
 ·exact ⟨o,(Heap.get?_update_other _ _ c).trans e,rfl,rfl⟩
structure Kd {α:Type}(t:Sem α):Prop where
 out:∀ (M:Model) (G:PySem.Ctx) (R:α->Pos->Shared->Prop) (Ee:Value->Pos->Shared->Prop) (p:Pos) (s:Shared),Sem.wp M G t R Ee p s->Sem.wp M G t (fun a p' s'=>R a p' s'/\SmD s.heap s'.heap) Ee p s
section
variable {α β:Type}
theorem ZY (a:α):Kd (Pure.pure a:Sem α):=⟨fun _ _ _ _ _ s h=>⟨h,SmD.refl _⟩⟩
theorem Hu (x:String):Kd (unsupported x:Sem α):=⟨fun _ _ _ _ _ _ h=>h⟩
theorem XZ {m:Sem α}{f:α->Sem β}(hm:Kd m)(hf:∀ a,Kd (f a)):Kd (m >>= f):=⟨fun M G R Ee p s h=>by
 rw [Sem.wp_bind'] at h ⊢
 refine Sem.wp_mono M G m (fun a p1 s1 h1=>?_) (fun _ _ _ z=>z) p s (hm.out M G _ Ee p s h)
 refine Sem.wp_mono M G (f a) (fun b p2 s2 h2=>⟨h2.1,h1.2.trans h2.2⟩) (fun _ _ _ z=>z) p1 s1 ((hf a).out M G R Ee p1 s1 h1.1)⟩
theorem F7 {c:Prop}[Decidable c]{t u:Sem α}(ht:Kd t)(hu:Kd u):Kd (if c then t else u):=by split <;> assumption
theorem D6 (a:Addr):Kd (PySem.load a):=⟨fun _ _ R _ p s h=>by
 unfold PySem.load at h ⊢
 rw [Sem.wp_load] at h ⊢
 obtain ⟨o,e,h⟩:=h
 exact ⟨o,e,h,SmD.refl _⟩⟩
theorem VB {a:Addr}{f:Obj->Obj}(k:∀ o,(f o).dict=o.dict/\fl2 (f o)=fl2 o/\(o.isFreed=false->(f o).isFreed=false)):Kd (PySem.update a f):=⟨fun _ _ R _ p s h=>by
 unfold PySem.update at h ⊢
 rw [Sem.wp_update] at h ⊢
 exact ⟨h.1,h.2,SmD.up k⟩⟩
theorem Ao:Kd PySem.stack:=⟨fun M G R Ee p s h=>by
 unfold PySem.stack at h ⊢
 rw [Sem.wp_stack] at h ⊢
 exact ⟨h,SmD.refl _⟩⟩
theorem Bh (o:Obj):Kd (PySem.alloc o):=⟨fun _ _ R _ p s h=>by
 unfold PySem.alloc at h ⊢
 rw [Sem.wp_alloc] at h ⊢
 exact ⟨h,SmD.push _ _⟩⟩
theorem WV (v:Value)(i:Nat):Kd (PySem.field v i):=⟨fun _ G R Ee p s h=>by
 obtain ⟨a,o,vs,x,e1,e2,e3,e4,q⟩:=(wp_field_iff G v i R Ee p s).mp h
 exact (wp_field_iff G v i _ Ee p s).mpr ⟨a,o,vs,x,e1,e2,e3,e4,q,SmD.refl _⟩⟩
theorem VN {i:Nat}(hi:i ≠ 2)(x:Value)(o:Obj):(Obj.mapFields (·.setIfInBounds i x) o).dict=o.dict/\fl2 (Obj.mapFields (·.setIfInBounds i x) o)=fl2 o/\(o.isFreed=false->(Obj.mapFields (·.setIfInBounds i x) o).isFreed=false):=by
 obtain ⟨c,d,dt,sl⟩:=o
 cases dt
 case fields vs=>exact ⟨rfl,Array.getElem?_setIfInBounds_ne hi,fun h=>h⟩
 all_goals exact ⟨rfl,rfl,fun h=>h⟩
theorem QX (v:Value)(i:Nat)(x:Value)(hi:i ≠ 2):Kd (PySem.setField v i x):=⟨fun _ G R Ee p s h=>by
 obtain ⟨a,o,vs,e1,e2,e3,e4,q⟩:=(wp_setField_iff G v i x R Ee p s).mp h
 exact (wp_setField_iff G v i x _ Ee p s).mpr ⟨a,o,vs,e1,e2,e3,e4,q,SmD.up (VN hi x)⟩⟩
end
local macro_rules | `(tactic| walk_at "kd")=>`(tactic| repeat' with_reducible first
  | assumption
  | exact ZY _
  | exact Hu _
  | exact WV _ _
  | exact QX _ _ _ (by decide)
  | exact D6 _
  | exact Ao
  | exact Bh _
  | apply F7
  | apply XZ
  | intro _
  | split)
theorem Vk (env:Env)(outer:List Env):Kd (behindIsImport env outer):=by
 unfold behindIsImport
 walk_at "kd"
theorem Vx:Kd underTheClaimsCaller:=by
 unfold underTheClaimsCaller
 walk_at "kd"
theorem DF (env:Env)(i:Bool)(l:List Env):Kd (keptBack env i l):=by
 have:=Vx
 cases l <;> unfold keptBack <;> walk_at "kd"
theorem JU:∀ l:List Env,Kd (readyFrames l)
 | []=>ZY _
 | env :: outer=>by
  have ih:=JU outer
  have h1:=Vk env outer
  have h2:=fun i=>DF env i outer
  unfold readyFrames
  walk_at "kd"
  all_goals first | exact h2 _ | exact VB fun o=>⟨rfl,rfl,fun z=>by obtain ⟨c,d,dt,sl⟩:=o;cases dt <;> exact z⟩ | skip
theorem Qz (l:List Env):Kd (frameObject l):=by
 cases l with
 | nil=>exact ZY _
 | cons env outer=>
  have:=JU (env :: outer)
  unfold frameObject
  walk_at "kd"
theorem Z1:Kd frameEnvs:=by
 unfold frameEnvs
 walk_at "kd"
theorem KF (env:Env):Kd (PySem.frameOf env):=by
 have h1:=Z1
 have h2:=Qz
 unfold PySem.frameOf
 walk_at "kd"
 all_goals first | exact h2 _ | skip
theorem WJ (f:Addr)(b:Bool):Kd (entryPlaceOf f b):=by
 unfold entryPlaceOf
 walk_at "kd"
theorem Br (a b c d e:Value)(l:List Value):Kd (EntryCells.newEntry a b c d e l):=by
 unfold EntryCells.newEntry newFields newObj newObjAsIs
 walk_at "kd"
theorem DV (e:Value)(env:Env):Kd (noteFrame e env):=by
 have h1:=KF env
 have h2:=WJ
 have h3:=Br
 unfold noteFrame
 walk_at "kd"
 all_goals first | exact h2 _ _ | exact h3 _ _ _ _ _ _ | skip
theorem Vq (e:Value)(f:Option Addr):Kd (setFlight e f):=by
 unfold setFlight
 walk_at "kd"
theorem vw (env:Env)(e:Value):Kd (leaving env e):=XZ (DV e env) fun _=>Vq e none
theorem Kd.any {α:Type}{t:Sem α}(k:Kd t){M:Model}{A:Around}{Q:α->Shared->Prop}{E:Value->Shared->Prop}{s:Shared}(h:wpAny M A t Q E s):wpAny M A t (fun a s'=>Q a s'/\SmD s.heap s'.heap) E s:=
 fun G p hG=>k.out M G _ _ p s (h G p hG)
theorem zX.here {P:Program}{w:World}{H:Hp}{h:Heap}{a:Addr}{o:HO}(x:zX P w H h a o):∃ u,h.get? a=some u:=by
 cases o with
 | lst xs=>obtain ⟨_,_,_,_,e⟩:=x;exact ⟨_,e⟩
 | tup xs=>obtain ⟨_,_,_,o,e,_⟩:=x;exact ⟨_,e⟩
 | dK kvs=>obtain ⟨_,_,_,_,o,_,_,e,_⟩:=x;exact ⟨_,e⟩
 | dT kvs=>obtain ⟨_,_,_,_,o,_,_,e,_⟩:=x;exact ⟨_,e⟩
 | set S n=>obtain ⟨o,_,_,_,e,_⟩:=x;exact ⟨_,e⟩
 | ins C dx fs=>obtain ⟨_,_,_,e,_⟩:=x;exact ⟨_,e⟩
 | own y=>exact x
 | xd fs=>obtain ⟨_,⟨_,_,_,e,_⟩,_⟩:=x;exact ⟨_,e⟩
 | rng lo hi=>obtain ⟨_,_,_,e⟩:=x;exact ⟨_,e⟩
 | frz ob u=>obtain ⟨e,_⟩:=x;exact ⟨_,e⟩
 | tbl ps=>exact ⟨_,x⟩
 | met f y=>exact ⟨_,x⟩
 | ext φ=>exact x.2.1
structure JI (P:Program)(w:World)(outer:List Env)(H:Hp)(s:Shared)(B:Heap)(H':Hp)(s':Shared):Prop where
 os:s'.os=s.os
 bare:AllBare s'.gens
 stay:B.StaysIn s'.heap
 cov:∀ b o,s.heap.get? b=some o->b ∉ frs outer->∃ o',B.get? b=some o'/\(H b=none->o'=o)
 slot:∀ b o,s.heap.get? b=some o->b ∈ frs outer->∃ sl,s'.heap.get? b=some { o with slots:=sl }
 frf:∀ b ∈ frs outer,H b=none
 free:∀ b o,s.heap.get? b=some o->H b=none->H' b=none
 tups:∀ b xs,H b=some (.tup xs)->H' b=some (.tup xs)
 frzs:∀ b o u,H b=some (.frz o u)->H' b=some (.frz o u)
 tbls:∀ b ps,H b=some (.tbl ps)->∃ more,H' b=some (.tbl (ps ++ more))
 hok:HOk P w H' B
section
variable {P:Program}{w:World}{outer:List Env}{H H':Hp}{s s':Shared}{B h':Heap}
theorem JI.step (a:JI P w outer H s B H' s'){B0:Heap}(fr:s'.heap.FunFrames B0 outer)(k:B.StaysIn h')(u:s'.heap.UpToSlots h'):JI P w outer H s B H' { s' with heap:=h' }:=
 ⟨a.os,a.bare,k,a.cov,fun b o e hb=>by
  obtain ⟨sl,z⟩:=a.slot b o e hb
  obtain ⟨_,o2,e2,nf⟩:=fr.mem hb
  rw [z] at e2;cases e2
  obtain ⟨sl2,z2⟩:=u b _ z nf
  exact ⟨sl2,z2⟩,a.frf,a.free,a.tups,a.frzs,a.tbls,a.hok⟩
end
section
variable {X:Cx}{pins:List (Addr × Obj)}{σ:St}{H H':Hp}{s s':Shared}{B h':Heap}
theorem Inv.ltS (I:Inv X pins σ H s){b:Addr}{o:Obj}(e:X.s₀.heap.get? b=some o):b ≠ X.env.locals:=fun z=>by
 have h:=Nat.lt_of_lt_of_le (Heap.lt_size e) I.ok.above
 rw [z] at h
 exact Nat.lt_irrefl _ h
theorem Inv.notStk (I:Inv X pins σ H s){b:Addr}{o:Obj}(e:X.s₀.heap.get? b=some o)(hb:b ∉ frs X.outer):b ∉ frs X.stack:=fun z=>(List.mem_cons.mp (I.stkSub b z)).elim (I.ltS e) hb
theorem Za {X:Cx}(hs:X.stack=X.env :: X.outer){b:Addr}(hb:b ∈ frs X.outer):b ∈ frs X.stack:=by
 rw [hs];unfold frs;rw [List.filterMap_cons]
 cases X.env.frame with
 | none=>exact hb
 | some f=>exact List.mem_cons_of_mem _ hb
theorem JI.out (I:Inv X pins σ H s)(hs:X.stack=X.env :: X.outer)(hex:X.ex=[])(a:JI X.prog X.w X.stack H s B H' s'):JI X.prog X.w X.outer X.H₀ X.s₀ B H' s':=by
 have nx:∀ b,b ∉ X.ex:=fun b=>by rw [hex];simp
 refine ⟨a.os.trans I.os,a.bare,a.stay,fun b o e hb=>?_,fun b o e hb=>?_,I.ok.frf,fun b o e n=>?_,fun b xs e=>a.tups b xs (I.base.tups b xs e),fun b o u e=>a.frzs b o u (I.base.frzs b o u e),fun b ps e=>?_,a.hok⟩
 ·obtain ⟨o1,e1⟩:=I.base.there b o e (nx b)
  obtain ⟨o',e2,e3⟩:=a.cov b o1 e1 (I.notStk e hb)
  refine ⟨o',e2,fun n=>?_⟩
  have:=I.base.keep b o e n hb (nx b)
  rw [e1] at this;cases this
  exact e3 (I.base.free b o e n (nx b))
 ·obtain ⟨sl,e1⟩:=I.base.slot b o e (I.ok.frf b hb) hb (nx b)
  obtain ⟨sl2,e2⟩:=a.slot b _ e1 (Za hs hb)
  exact ⟨sl2,e2⟩
 ·obtain ⟨o1,e1⟩:=I.base.there b o e (nx b)
  exact a.free b o1 e1 (I.base.free b o e n (nx b))
 ·obtain ⟨m1,e1⟩:=I.base.tbls b ps e
  obtain ⟨m2,e2⟩:=a.tbls b _ e1
  exact ⟨m1 ++ m2,by rw [e2,Array.append_assoc]⟩
noncomputable def y4 (X:Cx)(s:Shared)(x:Addr):Heap:=PySem.W.hideAll s.heap (x :: frs X.stack)
theorem E7 (I:Inv X pins σ H s){x:Addr}(hx:H x=none):HOk X.prog X.w H (y4 X s x):=fun a o e=>by
 refine (I.hok a o e).stay (fun b u hb q=>PySem.W.hideAll_get _ q fun z=>?_) (fun _ q=>q) fun _ _ q=>q
 have:H b=none:=by
  rcases List.mem_cons.mp z with rfl | z
  ·exact hx
  ·exact I.stkFree b z
 rcases hb with rfl | hb
 ·rw [e] at this;cases this
 ·rw [hb] at this;cases this
theorem XA (I:Inv X pins σ H s)(hs:X.stack=X.env :: X.outer)(hex:X.ex=[]){x:Addr}(hx0:X.s₀.heap.get? x=none)(hx:H x=none)(st:(y4 X s x).StaysIn h')(us:s.heap.UpToSlots h') :
  JI X.prog X.w X.outer X.H₀ X.s₀ (y4 X s x) H { s with heap:=h' }:=by
 have nx:∀ b,b ∉ X.ex:=fun b=>by rw [hex];simp
 have hid:∀ b o o',X.s₀.heap.get? b=some o->b ∉ frs X.outer->s.heap.get? b=some o'->(y4 X s x).get? b=some o':=fun b o o' e hb e1=>PySem.W.hideAll_get _ e1 fun z=>by
  rcases List.mem_cons.mp z with rfl | z
  ·rw [hx0] at e;cases e
  ·exact I.notStk e hb z
 refine ⟨I.os,I.bare,st,fun b o e hb=>?_,fun b o e hb=>?_,I.ok.frf,fun b o e n=>I.base.free b o e n (nx b),I.base.tups,I.base.frzs,I.base.tbls,E7 I hx⟩
 ·obtain ⟨o1,e1⟩:=I.base.there b o e (nx b)
  refine ⟨o1,hid b o o1 e hb e1,fun n=>?_⟩
  have:=I.base.keep b o e n hb (nx b)
  rw [e1] at this;cases this;rfl
 ·obtain ⟨sl,e1⟩:=I.base.slot b o e (I.ok.frf b hb) hb (nx b)
  obtain ⟨_,o2,e2,nf⟩:=I.stack.mem (Za hs hb)
  rw [e1] at e2;cases e2
  obtain ⟨sl2,e3⟩:=us b _ e1 nf
  exact ⟨sl2,e3⟩
end
noncomputable def Two (d:Option Addr)(H:Hp):Prop:=∃ dx fs,d=some dx/\H dx=some (.xd fs)/\2<=fs.length
structure Air (P:Program)(w:World)(outer:List Env)(H:Hp)(s:Shared)(x C:Addr)(d:Option Addr)(H':Hp)(s':Shared):Prop where
 ex:∃ B a0,JI P w outer H s B H' s'/\Heap.FlyingW B outer x (.ref C) a0 s'.heap
 dct:∃ o,s'.heap.get? x=some o/\o.dict=d/\(fl2 o=some .none \/ Two d H')
noncomputable def CX1 (P:Program)(w:World):CXT:=fun outer H s E e s'=>∃ x C d H',e=.ref x/\Air P w outer H s x C d H' s'/\E (.ref C) d H'
theorem CX1.imp {P:Program}{w:World}{outer:List Env}{H:Hp}{s s':Shared}{E E':XK}{e:Value}(h:CX1 P w outer H s E e s')(k:∀ c d H',E c d H'->E' c d H'):CX1 P w outer H s E' e s':=
 let ⟨x,C,d,H',e1,a,q⟩:=h
 ⟨x,C,d,H',e1,a,k _ _ _ q⟩
structure DX (X:Cx)(E:XK):Prop where
 stk:X.stack=X.env :: X.outer
 ex:X.ex=[]
 fr:X.env.frame=some X.env.locals
 xe:X.xe=fun e s'=>wpAny (model X.prog X.w) X.A (leaving X.env e) (fun _ s''=>CX1 X.prog X.w X.outer X.H₀ X.s₀ E e s'') (fun e' s''=>CX1 X.prog X.w X.outer X.H₀ X.s₀ E e' s'') s'
section
variable {X:Cx}{E:XK}{pins:List (Addr × Obj)}{σ:St}{H H':Hp}{s s':Shared}
theorem DX.pass (D:DX X E):Qs (CX1 X.prog X.w) X E:=by
 intro pins σ H s e s' I h
 obtain ⟨x,C,d,H',rfl,⟨⟨B,a0,a,fl⟩,o,ho,hd,h2⟩,q⟩:=h
 rw [D.xe]
 have hs:=D.stk
 rw [hs] at fl
 refine wpAny_mono ((vw X.env (.ref x)).any (wpAny_leaves_onW (E:=fun _ _=>False) (Q:=fun _ s2=>∃ h',s2={ s' with heap:=h' }/\Heap.FlyingW B X.outer x (.ref C) a0 h'/\s'.heap.UpToSlots h') (by rw [<- hs];exact I.ok.frames) D.fr fl fun h' f1 us=>⟨h',rfl,f1,us⟩)) (fun _ s2 h2=>?_) fun _ _ z=>z.elim
 obtain ⟨⟨h',rfl,f1,us⟩,sd⟩:=h2
 obtain ⟨o',ho',hd',hf'⟩:=sd x o ho
 exact ⟨x,C,d,H',rfl,⟨⟨B,a0,(a.out I hs D.ex).step (B0:=B) (by
  obtain ⟨_,_,f3,_⟩:=fl
  exact f3.2.2) f1.1 us,f1⟩,o',ho',hd'.trans hd,h2.imp (fun z=>hf'.trans z) id⟩,q⟩
theorem DX.raise (D:DX X E)(I:Inv X pins σ H s){x C:Addr}{d:Option Addr}{oe:Obj}{vs:Array Value}{a0:Value}{h1:Heap}(k:∀ b o,b ≠ x->s.heap.get? b=some o->h1.get? b=some o)(kx:∀ o,s.heap.get? x=some o->∃ vs,o.data=.fields vs)
  (he:h1.get? x=some oe) (hc:oe.cls=.ref C) (hd:oe.dict=d) (hf:oe.data=.fields vs) (hv1:vs[1]?=some .none) (hv0:vs[0]?=some a0) (hv2:vs[2]?=some .none \/ Two d H) (hx0:X.s₀.heap.get? x=none) (hx:H x=none) (q:E (.ref C) d H):X.xe (.ref x) { s with heap:=h1 }:=by
 rw [D.xe]
 have hs:=D.stk
 have st1:(y4 X s x).StaysIn h1:=fun b o e=>k b o (fun z=>by rw [z,y4,PySem.W.hideAll_none _ (List.mem_cons_self)] at e;cases e) (PySem.W.of_hideAll _ e)
 have us1:s.heap.UpToSlots h1:=fun b o e nf=>by
  by_cases c:b=x
  ·rw [c] at e
   obtain ⟨vs,z⟩:=kx o e
   exact absurd z (nf vs)
  ·exact ⟨o.slots,k b o c e⟩
 have fr0:s.heap.FunFrames (y4 X s x) (X.env :: X.outer):=by
  have:=I.stack
  rw [hs] at this
  exact PySem.W.funFrames_hide this fun env he b hb=>List.mem_cons_of_mem _ (by rw [hs];exact List.mem_filterMap.mpr ⟨env,he,hb⟩)
 have fr1:h1.FunFrames (y4 X s x) (X.env :: X.outer):=fr0.of_keeps fun b o e nf=>by
  obtain ⟨sl,z⟩:=us1 b o e nf
  exact ⟨_,z,rfl⟩
 have xn:(y4 X s x).get? x=none:=PySem.W.hideAll_none _ List.mem_cons_self
 refine wpAny_mono ((vw X.env (.ref x)).any (wpAny_leaving_firstW (s:={ s with heap:=h1 }) (E:=fun _ _=>False) (base:=y4 X s x) (Q:=fun _ s2=>∃ h',s2={ s with heap:=h' }/\Heap.LeftW (y4 X s x) (X.env :: X.outer) x oe.cls a0 h1 h') (by rw [<- hs];exact I.ok.frames) fr1 D.fr he st1 xn hf hv1 hv0 fun h' hl=>⟨h',rfl,hl⟩)) (fun _ s2 h2=>?_) fun _ _ z=>z.elim
 obtain ⟨⟨h',rfl,l1,l2,l3,l4⟩,sd⟩:=h2
 obtain ⟨o',ho',hd',hf'⟩:=sd x oe he
 have hff:fl2 oe=vs[2]?:=by unfold fl2;rw [hf]
 rw [hc] at l3
 exact ⟨x,C,d,H,rfl,⟨⟨y4 X s x,a0,XA I hs D.ex hx0 hx l1 (us1.trans l4),l1,xn,l2.2.2,l3⟩,o',ho',hd'.trans hd,hv2.imp (fun z=>(hf'.trans hff).trans z) id⟩,q⟩
end
noncomputable def X0 (CX:CXT)(X:Cx)(E:St->XK):Prop:=∀ (pins:List (Addr × Obj)) (σ:St) (H:Hp) (s:Shared) (e:Value) (s':Shared),Inv X pins σ H s->CX X.stack H s (E σ) e s'->X.xe e s'
noncomputable def Qa (sp:Sp)(E:St->XK)(t:TA):TE:=fun σ H Q=>t σ H fun vs H1=>sp vs H1 Q (E σ)
noncomputable def DfX (P:Program)(w:World)(K:PySem.W.Frag)(mg:Str->Option Value)(base:Heap)(x:Str)(ps:List Str)(k:Nat)(sp:Sp):Prop:=
 ∃ f fd,kz P w K mg base (CX1 P w) k f fd ps sp/\yS K fd ps []/\PySem.W.keepIn K (.ref f)=true/\mg x=some (.ref f)
theorem DfX.mono {P:Program}{w:World}{K:PySem.W.Frag}{mg:Str->Option Value}{base:Heap}{x:Str}{ps:List Str}{j k:Nat}{sp:Sp}(D:DfX P w K mg base x ps j sp)(h:j<=k):DfX P w K mg base x ps k sp:=
 let ⟨f,fd,F,r⟩:=D
 ⟨f,fd,F.mono h,r⟩
section
variable {X:Cx}{k:Nat}{x:Str}{ps:List Str}{sp:Sp}{E:St->XK}{p pos:Pos}{e:Expr}{es:List Expr}{t:TA}
theorem DZ {CX:CXT}{f:Addr}{fd:FuncData}{pins:List (Addr × Obj)}{σ:St}{H:Hp}{s:Shared}{Q:VK}{us:List Value}{vs:List V}(F:kz X.prog X.w X.K X.mg X.base CX k f fd ps sp)(hr:jr k X.A)(hb:yS X.K fd ps [])(hx:X0 CX X E)
  (I:Inv X pins σ H s) (r:zE vs us) (h:sp vs H Q (E σ)):wpAny (model X.prog X.w) X.A (call (.ref f) us) (EP X pins σ Q) X.xe s:=by
 have hl:(us ++ []).length=ps.length:=by rw [List.append_nil,<- r.length];exact F.len _ _ _ _ h
 have b1:=hb s us I.kIn hl
 rw [List.append_nil] at b1
 refine wpAny_call (codeAny_mono (F.run X.A X.stack s H ⟨us,[]⟩ us vs Q (E σ) hr I.env0 b1 r h) fun r s' hq=>?_)
 cases r with
 | error e=>exact hx pins σ H s e s' I hq
 | ok fl=>
  cases fl with
  | ret u=>exact I.after hq
  | next=>exact False.elim hq
  | brk=>exact False.elim hq
  | cont=>exact False.elim hq
theorem Fz (D:DfX X.prog X.w X.K X.mg X.base x ps k sp)(hr:jr k X.A)(hg:Gl X x)(hx:X0 (CX1 X.prog X.w) X E)(ha:PA X (e :: es) t)(hdb:(x == ("__debug__":Str))=false:=by decide)
  (he:starEach (e :: es) X.env=(false,eval e X.env) :: starEach es X.env:=by rfl) (hpl:(backTo pos (starEach es X.env)).any (·.1)=false:=by rfl):PE X (.Call (.Name x p) (e :: es) [] pos) (Qa sp E t):=by
 obtain ⟨f,fd,F,b,kp,m⟩:=D
 intro pins s σ H Q I h
 refine wpAny_Call_Name_kw (ZI I hg m ?_ hdb)
 refine PySem.W.callWith_K (h₀:=X.base) I.ok.mod.kin kp (thn (ha pos pins s σ H _ I h) fun us s1 ⟨vs,H1,I1,r,q⟩=>⟨I1.kIn,?_⟩) he hpl
 exact DZ F hr b hx I1 r q
theorem DX.passX {E0:XK}(D:DX X E0):X0 (CX1 X.prog X.w) X fun _=>E0:=fun pins σ H s e s' I h=>D.pass pins σ H s e s' I h
end
theorem GQ {P:Program}{w:World}{K:PySem.W.Frag}{mg:Str->Option Value}{base:Heap}{x:Str}{st:Stmt}{N ps:List Str}{k:Nat}{sp:Sp}(a:At K mg x st)(S:zw N ps (zi st))
  (hb:∀ (kV doc pm:Value) (an:Option Addr) (cdv ct:Value) (us:List Value),us.length=ps.length->bindArgs (PySem.W.fnOf x x (jc st) (qp st) (zi st) .none kV doc pm an cdv ct) ⟨us,[]⟩=pure (ps.zip us))
  (len:∀ vs H Q E,sp vs H Q E->vs.length=ps.length)
  (hbody:∀ (f:Addr) (cdv:Value) (A:Around) (outer:List Env) (s:Shared) (H:Hp) (vs:List V) (Q:VK) (E:XK),jr k (A.deeper (envOfC x (zi st) s.heap.objs.size f cdv))->sp vs H Q E ->
   ∃ t,(DX (yC (CX1 P w) P w K mg base N x (zi st) f cdv A outer s H E) E->PSs (yC (CX1 P w) P w K mg base N x (zi st) f cdv A outer s H E) (qp st) t)/\t { nx:=fun _ H'=>Q .non H',rt:=Q } (start N vs) H):DfX P w K mg base x ps (k+1) sp:=by
 obtain ⟨f,fd,F,m⟩:=a
 refine ⟨f,fd,?_,F.binds hb,F.kp,m⟩
 obtain ⟨oc,od,kV,doc,pm,an,cdv,ct,osl,rfl,lk,hcd⟩:=F.ex
 refine FS lk hcd S len fun A outer s H vs Q E hr hsp=>?_
 obtain ⟨t,ht,q⟩:=hbody f cdv A outer s H vs Q E hr hsp
 exact ⟨t,ht ⟨rfl,rfl,rfl,rfl⟩,q⟩
abbrev BX:List Value:=[.type "ValueError",.type "Exception",.type "BaseException",.type "object"]
theorem Fj {K:PySem.W.Frag}{h:Heap}{C:Addr}{bmB:List Value}{newId:String}(X:K.In h)(q:PySem.W.excIn K C bmB newId=true) :
  ∃ bm N nm qn bs hdct sn sub ab col dd k0 k1 k2 k3 k5 mN,h.get? C=some (excClassObj nm qn C N bs bm hdct sn sub ab col dd k0 k1 k2 k3 k5 newId)/\h.Ns N mN/\mN "__init__"=none/\OwnTail h bmB bm:=by
 unfold PySem.W.excIn at q
 split at q
 ·rename_i dd cd sl ho
  split at q
  ·rename_i C' bm k0 k1 k2 k3 n k5 hm hs
   simp only [Bool.and_eq_true,beq_iff_eq,Bool.not_eq_true'] at q
   obtain ⟨⟨⟨⟨⟨z1,z2⟩,z3⟩,z4⟩,z5⟩,z6⟩:=q
   subst z1 z2
   obtain ⟨c1,c2,c3,c4,c5,c6,c7,c8,c9,c10,c11⟩:=cd
   dsimp only at hm z3 z5 z6
   subst hm z3
   have es:sl=#[k0,k1,k2,k3,some (.builtin n),k5]:=Array.ext' hs
   subst es
   exact ⟨bm,c4,c1,c5,c2,c6,c7,c8,c9,c10,dd,k0,k1,k2,k3,k5,_,X _ _ ho,.of_isNs (PySem.W.isNs_of_in X z5),PySem.W.nsMap_none_of_in X z5 z6,PySem.W.tail_of_in X z4⟩
  ·cases q
 ·cases q
noncomputable def Wb (C:Addr)(E:St->XK)(t:TA):TS:=fun _ σ H=>t σ H fun vs H1=>vs.length<=sizeLine/\E σ (.ref C) none H1
section
variable {X:Cx}{E:XK}{C:Addr}{x:Str}{np cpos pos:Pos}{e:Expr}{es:List Expr}{t:TA}
theorem vI (D:DX X E)(hc:X.calm=true)(q:PySem.W.excIn X.K C BX "ValueError.__new__"=true)(hg:Gl X x)(hm:X.mg x=some (.ref C))(ha:PA X (e :: es) t)(hdb:(x == ("__debug__":Str))=false:=by decide)
  (he:starEach (e :: es) X.env=(false,eval e X.env) :: starEach es X.env:=by rfl) (hpl:(backTo cpos (starEach es X.env)).any (·.1)=false:=by rfl) :
  PS X (.Raise (some (.Call (.Name x np) (e :: es) [] cpos)) none pos) (Wb C (fun _=>E) t):=by
 intro pins s σ H De I h
 obtain ⟨bm,N,nm,qn,bs,hdct,sn,sub,ab,col,dd,k0,k1,k2,k3,k5,mN,hC,hN,hni,T⟩:=Fj I.ok.mod.kin q
 refine wpAny_Raise_call_subU (C:=C) (nm:=nm) (q:=qn) (N:=N) (bs:=bs) (bm:=bm) (hdct:=hdct) (sn:=sn) (sub:=sub) (ab:=ab) (col:=col) (dd:=dd) (k0:=k0) (k1:=k1) (k2:=k2) (k3:=k3) (k5:=k5)
  PySem.F.excBase_ValueError (by decide) PySem.F.excBase_ValueError (mN:=mN) (T.hasType PySem.F.excBase_ValueError.hasBase) (I.ok.hd hc) (by rw [he];show (false || (backTo cpos (starEach es X.env)).any (·.1))=false;rw [hpl];rfl) hni (ZI I hg hm ⟨rfl,?_⟩ hdb)
 have:=ha cpos pins s σ H _ I h
 rw [he] at this ⊢
 refine Calls.evalArgs_plain (wpAny_mono this (fun us s2 h2=>?_) fun _ _ y=>y)
 obtain ⟨vs,H1,I1,r,hl,q1⟩:=h2
 refine ⟨rfl,by rw [<- r.length];exact hl,I1.bk _ _ hC,hN.keeps I1.bk,T.keeps I1.bk,fun h' x1 hx=>?_⟩
 obtain ⟨t1,ho,_,_⟩:=hx.there
 have nx:s2.heap.get? x1=none:=hx.new
 refine D.raise (C:=C) (d:=none) I1 (x:=x1) (fun b o _ z=>hx.keeps b o z) (fun o z=>by rw [nx] at z;cases z) ho rfl rfl rfl rfl rfl (.inl rfl) ?_ ?_ q1
 ·cases z:X.s₀.heap.get? x1 with
  | none=>rfl
  | some o=>
   obtain ⟨o',e'⟩:=I1.base.there x1 o z (by rw [D.ex];simp)
   rw [nx] at e';cases e'
 ·cases z:H1 x1 with
  | none=>rfl
  | some o=>
   obtain ⟨u,e'⟩:=(I1.hok x1 o z).here
   rw [nx] at e';cases e'
end
section
variable {X:Cx}{pins:List (Addr × Obj)}{σ:St}{H H':Hp}{s s':Shared}
end
section
variable {X:Cx}{pins pins':List (Addr × Obj)}{σ:St}{H:Hp}{s s':Shared}{xe:Value->Shared->Prop}
end
section
variable {X:Cx}{pins:List (Addr × Obj)}{σ:St}{H H':Hp}{s s':Shared}{B:Heap}{x C:Addr}{d:Option Addr}{a0:Value}
variable {body suite:List Stmt}{b₀:Stmt}{n tx:Str}{i:Nat}{T:Addr}{np hpos pos:Pos}{tb:(St->XK)->TS}{th:TS}
end
open PySem.W (Looks InstAt findIn findObj subIn mroIn)
section
variable {prog:Program}{w:World}{A:Around}{E:Value->Shared->Prop}{h:Heap}{g:Array GenState}{d:Drawn}{t:Nat}{os:OsState}{K:PySem.W.Frag}{x C:Addr}{ox:Obj}{od:Option Obj}{name:Str}
structure LN (K:PySem.W.Frag)(C:Addr):Prop where
 bx:subIn K (.ref C) (.type "BaseException")=some true
 ga:findIn K (.ref C) "__getattribute__"=some (some (.builtin "BaseException.__getattribute__"))
 gt:findIn K (.ref C) "__getattr__"=some none
 cl:findIn K (.ref C) "__class__"=some (some (.builtin "object.__class__"))
 gs:PySem.W.specialIn K (.builtin "object.__class__") "__get__"=some (some (.builtin "getset_descriptor.__get__"))
 tk:PySem.W.takesIn K (.builtin "object.__class__")=some true
 mo:mroIn K C (.type "object")=some true
 is:(PySem.W.clsIn K C).isSome=true
end
inductive Ag (X:Cx):List Expr->List Value->Prop
 | nil:Ag X [] []
 | own {x:Str} {p:Pos} {C:Addr} {es:List Expr} {cs:List Value}:Gl X x->X.mg x=some (.ref C)->(x == ("__debug__":Str))=false->Ag X es cs->Ag X (.Name x p :: es) (.ref C :: cs)
 | blt {x:Str} {p:Pos} {T:String} {es:List Expr} {cs:List Value}:Gl X x->X.mg x=none->bootBuiltins x=some (.type T)->x ≠ "__name__"->(x == ("__debug__":Str))=false->Ag X es cs->Ag X (.Name x p :: es) (.type T :: cs)
section
variable {X:Cx}{e c:Expr}{es:List Expr}{cs:List Value}{t:TE}{p pos tp:Pos}{kk:Nat}
end
noncomputable abbrev AXK:=Addr->List (Str × V)->MH->Prop
noncomputable abbrev Jd:=List AV->MH->AK->AXK->Prop
noncomputable def GP (H:Hp)(O:Own)(M:MH)(d:Option Addr)(fs:List (Str × V)):Prop:=d=none/\fs=[] \/ ∃ dx,d=some dx/\H dx=some (.xd fs)/\O dx/\M dx=none
noncomputable def JB (a:Jd):Sp:=fun vs H Q E=>∃ xs M O Q' E',Wf H O M/\zk H O M vs xs/\a xs M Q' E'/\(∀ x M' v H' O',Q' x M'->Ext H O M H' O' M'->Wf H' O' M'->zA H' O' M' v x->Q v H') /\
 ∀ C fs M' H' O' d,E' C fs M'->Ext H O M H' O' M'->Wf H' O' M'->GP H' O' M' d fs->E (.ref C) d H'
noncomputable def cE (H0:Hp)(O0:Own)(M0:MH)(E':AXK):XK:=fun c d H'=>∃ C fs M' O',c=.ref C/\E' C fs M'/\Ext H0 O0 M0 H' O' M'/\Wf H' O' M'/\GP H' O' M' d fs
structure EXs (H0:Hp)(O0:Own)(M0:MH)(E:St->XK)(EA:ASt->AXK):Prop where
 go:∀ σ ρ C fs M' H' O' d,EA ρ C fs M'->Ext H0 O0 M0 H' O' M'->Wf H' O' M'->Er H' O' M' σ ρ->GP H' O' M' d fs->E σ (.ref C) d H'
theorem Yg {H0:Hp}{O0:Own}{M0:MH}{E':AXK}:EXs H0 O0 M0 (fun _=>cE H0 O0 M0 E') (fun _=>E'):=⟨fun _ _ C fs M' H' O' d q k w _ x=>⟨C,fs,M',O',rfl,q,k,w,x⟩⟩
structure xW (HX:Hp)(OX:Own)(MX:MH)(t:TS)(a:AS):Prop where
 go:∀ {H0:Hp} {O0:Own} {M0:MH} {D:kq} {D':yQ} {σ:St} {H:Hp} {O:Own} {ρ:ASt} {M:MH},Ext HX OX MX H0 O0 M0->Wf H0 O0 M0->Wf H O M->Er H O M σ ρ->Ext H0 O0 M0 H O M->a M0 D' ρ M->ED H0 O0 M0 D D'->t D σ H
section
variable {HX:Hp}{OX:Own}{MX:MH}{t u:TS}{a b:AS}{E:St->XK}{EA:ASt->AXK}{sp:Jd}{ta:TA}{aa:AA}
theorem Fo (h:jB t a):xW HX OX MX t a:=⟨fun _ w0 w e x q E=>h.go w0 w e x q E⟩
theorem Dl (h1:xW HX OX MX t a)(h2:xW HX OX MX u b):xW HX OX MX (DY t u) (kZ a b):=
 ⟨fun kx w0 w e x q E=>h1.go kx w0 w e x q ⟨fun σ H O ρ M w e x q=>h2.go kx w0 w e x q E,E.rt,E.bk,E.ct⟩⟩
theorem Ac {c:TT}{ac:AT}(hc:kA c ac)(h1:xW HX OX MX t a)(h2:xW HX OX MX u b):xW HX OX MX (E3 c t u) (Ep ac a b):=
 ⟨fun kx w0 w e x q E=>hc.go w e q fun k M1 H1 O1 q1 k1 w1=>by
  cases k with
  | true=>exact h1.go kx w0 w1 (e.ext k1) (x.trans k1) q1 E
  | false=>exact h2.go kx w0 w1 (e.ext k1) (x.trans k1) q1 E⟩
theorem BY {wi:TI}{g:TG}{ai:AI}{ag:AG}(hi:Kn wi ai)(hg:wG g ag)(hb:xW HX OX MX t a):xW HX OX MX (DM wi g t) (G4 ai ag a):=⟨fun {H0 O0 M0 D D' σ H O ρ M} kx w0 w e x q E=>by
 rw [Ql]
 refine hi.go w e q fun l G M1 J H1 O1 q1 k1 w1 hj=>?_
 have E1:=E.tr (x.trans k1)
 have kx1:=kx.trans (x.trans k1)
 obtain ⟨Pv,p0,ps,pd⟩:=q1
 refine ⟨fun i m σ H=>m=l.length - i/\i<=l.length/\∃ O ρ M,Wf H O M/\Er H O M σ ρ/\Ext H1 O1 M1 H O M/\Pv i ρ M,⟨l.length,by simp,Nat.zero_le _,O1,ρ,M1,w1,e.ext k1,.refl,p0⟩,?_⟩
 rintro i m σ H ⟨rfl,hi,O,ρ,M,w,e,x,hf⟩
 by_cases hil:i<l.length
 ·have hy:l[i]?=some l[i]:=List.getElem?_eq_getElem hil
  obtain ⟨hG,q2⟩:=ps i l[i] ρ M hy hf
  obtain ⟨j1,j2⟩:=(hj H O M x.fix x.mst w hG i).2 l[i] hy
  refine .inr ⟨j1,fun σ' H'=>∃ O ρ M,Wf H' O M/\Er H' O M σ' ρ/\Ext H1 O1 M1 H' O M/\Pv (i+1) ρ M,fun σ' H' z=>⟨l.length - (i+1),by walk_at "o",rfl,hil,z⟩,fun v H' hv=>?_⟩
  obtain ⟨k2,w2,r2⟩:=j2 v H' hv
  refine hg.go w2 (e.ext k2) r2 q2 fun σ3 H3 O3 ρ3 M3 q3 k3 w3 e3=>?_
  exact hb.go kx1 w1 w3 e3 ((x.trans k2).trans k3) q3 ⟨fun σ H O ρ M w e x q=>⟨O,ρ,M,w,e,x,q⟩,E1.rt,E1.nx,fun σ H O ρ M w e x q=>⟨O,ρ,M,w,e,x,q⟩⟩
 ·have e0:i=l.length:=by walk_at "o"
  subst e0
  obtain ⟨hG,q2⟩:=pd ρ M hf
  exact .inl ⟨(hj H O M x.fix x.mst w hG l.length).1 rfl,E1.nx _ _ _ _ _ w e x q2⟩⟩
noncomputable def ZT (sp:Jd)(EA:ASt->AXK)(b:AA):AE:=fun ρ M Q=>b ρ M fun xs M1=>sp xs M1 Q (EA ρ)
theorem Dx (hE:EXs HX OX MX E EA)(hu:kB ta aa){σ:St}{H:Hp}{O:Own}{ρ:ASt}{M:MH}{Q:VK}{Q':AK}(kx:Ext HX OX MX H O M)(w:Wf H O M)(e:Er H O M σ ρ)(q:ZT sp EA aa ρ M Q')(k:∀ x M' v H' O',Q' x M'->Ext H O M H' O' M'->Wf H' O' M'->zA H' O' M' v x->Q v H'):Qa (JB sp) E ta σ H Q:=
 hu.go w e q fun xs M1 vs H1 O1 q1 k1 w1 r1=>⟨xs,M1,O1,Q',EA ρ,w1,r1,q1,fun x M2 v H2 O2 q2 k2 w2 r2=>k x M2 v H2 O2 q2 (k1.trans k2) w2 r2,fun C fs M' H' O' d q2 k2 w2 xd=>hE.go σ ρ C fs M' H' O' d q2 ((kx.trans k1).trans k2) w2 (e.ext (k1.trans k2)) xd⟩
theorem V2 (hE:EXs HX OX MX E EA)(hu:kB ta aa):xW HX OX MX (Yt (Qa (JB sp) E ta)) (Am (ZT sp EA aa)):=
 ⟨fun kx _ w e x q D=>Dx hE hu (kx.trans x) w e q fun y M1 v H1 O1 q1 k1 w1 r1=>D.nx _ _ _ _ _ w1 (e.ext k1) (x.trans k1) q1⟩
noncomputable def BH (C:Addr)(EA:ASt->AXK)(b:AA):AS:=fun _ _ ρ M=>b ρ M fun xs M1=>xs.length<=sizeLine/\EA ρ C [] M1
theorem KU {C:Addr}(hE:EXs HX OX MX E EA)(hu:kB ta aa):xW HX OX MX (Wb C E ta) (BH C EA aa):=
 ⟨fun kx _ w e x q D=>hu.go w e q fun xs M1 vs H1 O1 q1 k1 w1 r1=>⟨by rw [r1.1];exact q1.1,hE.go _ _ C [] M1 H1 O1 none q1.2 ((kx.trans x).trans k1) w1 (e.ext k1) (.inl ⟨rfl,rfl⟩)⟩⟩
end
section
variable {K:PySem.W.Frag}{i:Nat}{T:Addr}{tb:(St->XK)->TS}{th:TS}{ab:(ASt->AXK)->AS}{ah:AS}
end
noncomputable def exA (M0:MH)(E:AXK):AXK:=fun C fs M'=>∃ M'',ZR M0 M' (.d .non) (.d .non) M''/\E C fs M''
theorem PSs.wish' {X:Cx}{xe:Value->Shared->Prop}{st:List Stmt}{t:TS}(k:∀ e s,xe e s->X.xe e s)(h:PSs (X.wish xe) st t):PSs X st t:=fun pins s σ H D I hw=>
 wpAny_mono (h pins s σ H D (I.wish _) hw) (fun _ _ q=>q.unwish) fun e s z=>k e s z
theorem I0 {P : Program}{w : World}{K : PySem.W.Frag}{mg : Str -> Option Value}{base : Heap}{x : Str}{st : Stmt}{N ps : List Str}{k : Nat}{a : Jd}(at_ : At K mg x st)(S : zw N ps (zi st))
    (hb:∀ (kV doc pm:Value) (an:Option Addr) (cdv ct:Value) (us:List Value),us.length=ps.length->bindArgs (PySem.W.fnOf x x (jc st) (qp st) (zi st) .none kV doc pm an cdv ct) ⟨us,[]⟩=pure (ps.zip us))
    (len:∀ xs M Q E,a xs M Q E->xs.length=ps.length)
    (hbody:∀ (f:Addr) (cdv:Value) (A:Around) (outer:List Env) (s:Shared) (H:Hp) (HX:Hp) (OX:Own) (MX:MH) (E':AXK),jr k (A.deeper (envOfC x (zi st) s.heap.objs.size f cdv)) ->
      DX (yC (CX1 P w) P w K mg base N x (zi st) f cdv A outer s H (cE HX OX MX E')) (cE HX OX MX E') ->
      ∃ t,PSs (yC (CX1 P w) P w K mg base N x (zi st) f cdv A outer s H (cE HX OX MX E')) (qp st) t/\∃ b,xW HX OX MX t b/\∀ xs Q E0,E'=exA MX E0->a xs MX Q E0->b MX { nx:=fun _ M'=>rtA MX Q (.d .non) M',rt:=rtA MX Q } (qd N xs) MX):DfX P w K mg base x ps (k+1) (JB a):=by
  refine GQ at_ S hb (fun vs H Q E h=>?_) (fun f cdv A outer s H vs Q E hr h=>?_)
  · obtain ⟨xs,M,O,Q',E',w,r,q,_⟩:=h
    rw [r.1];exact len xs M Q' E' q
  · obtain ⟨xs,M,O,Q',E',w0,r,q,kk,ke⟩:=h
    obtain ⟨t,ht,b,hb,hq⟩:=hbody f cdv A outer s H H O M (exA M E') hr ⟨rfl,rfl,rfl,rfl⟩
    refine ⟨t,fun D=>?_,?_⟩
    · have ce : ∀ c d H', cE H O M (exA M E') c d H' -> E c d H' := fun c d H' ⟨C, fs, M', O', e1, ⟨M'', f, q2⟩, k1, w1, xd⟩ => by
        subst e1
        obtain ⟨O'',w2,k2,-,ko⟩:=YJ w0 w1 k1 (show zA H' O' M' .non (.d .non) from .non) f
        refine ke C fs M'' H' O'' d q2 k2 w2 ?_
        rcases xd with xd | ⟨dx,e1,h1,h2,h3⟩
        · exact .inl xd
        · exact .inr ⟨dx,e1,h1,(ko dx h2 h3).1,(ko dx h2 h3).2⟩
      refine PSs.wish' (fun e s' z=>?_) ht
      exact wpAny_mono z (fun _ s'' y=>y.imp ce) fun e' s'' y=>y.imp ce
    · refine hb.go .refl w0 w0 (QH r N) .refl (hq xs Q' E' rfl q) ⟨fun σ H' O' ρ M' w' e' x' q'=>?_,fun v y H' O' M' w' x' r' q'=>?_,fun _ _ _ _ _ _ _ _ z=>z.elim,fun _ _ _ _ _ _ _ _ z=>z.elim⟩
      · obtain ⟨y',M'',f,q2⟩:=q'
        obtain ⟨O'',w2,k2,r2⟩:=wj w0 w' x' (show zA H' O' M' .non (.d .non) from .non) f
        exact kk _ _ _ _ _ q2 k2 w2 r2
      · obtain ⟨y',M'',f,q2⟩:=q'
        obtain ⟨O'',w2,k2,r2⟩:=wj w0 w' x' r' f
        exact kk _ _ _ _ _ q2 k2 w2 r2
theorem DX.po {X:Cx}{E:XK}(D:DX X E):PassesOwn (model X.prog X.w) X.A X.env X.xe:=by rw [D.xe];exact PassesOwn.leaving
theorem Gr {X:Cx}:X0 (CX1 X.prog X.w) X fun _=>E0:=fun _ _ _ _ _ _ _ ⟨_,_,_,_,_,_,z⟩=>z.elim
section
variable {X:Cx}{K:PySem.W.Frag}{body suite:List Stmt}{b₀:Stmt}{n tx:Str}{i:Nat}{T:Addr}{np hpos pos tp p:Pos}{tb:(St->XK)->TS}{th:TS}{e c:Expr}{es:List Expr}{cs:List Value}{t:TE}{kk:Nat}
end
theorem KY {sp:Jd}{u:TA}{b:AA}(h:kB u b):zY (Qa (JB sp) (fun _=>E0) u) (ZT sp (fun _ _ _ _=>False) b):=
 ⟨fun w e q k=>h.go w e q fun xs M1 vs H1 O1 q1 k1 w1 r1=>⟨xs,M1,O1,_,_,w1,r1,q1,fun x M2 v H2 O2 q2 k2 w2 r2=>k x M2 v H2 O2 q2 (k1.trans k2) w2 r2,fun _ _ _ _ _ _ z=>z.elim⟩⟩
theorem exX {HX:Hp}{OX:Own}{MX:MH}{t:TS}{q:AS->Prop}{b:AS}(h:xW HX OX MX t b)(k:q b):∃ b,xW HX OX MX t b/\q b:=⟨b,h,k⟩
section
variable {X:Cx}
end
end L2
namespace PySem
open Sem (wp)
section
variable {prog:Program}{w:World}{A:Around}{E:Value->Shared->Prop}{h:Heap}{g:Array GenState}{d:Drawn}{t:Nat}{os:OsState}
variable {nm q:Str}{C N:Addr}{bs bm bmB:List Value}{hdct:Bool}{sn:List Str}{sub:List Value}{ab:Bool}{col:Option Bool}{dd:Option Addr}{k0 k1 k2 k3 k5:Option Value}{B Bn newId nid initId inN:String}{bmN:List Value}
end
section
variable {M:Model}{A:Around}{E:Value->Shared->Prop}{env:Env}
variable {nm q:Str}{C N:Addr}{bs bm:List Value}{hdct:Bool}{sn:List Str}{sub:List Value}{ab:Bool}{col:Option Bool}{dd:Option Addr}{k0 k1 k2 k3 k5:Option Value}{newId:String}
end
section
variable {prog:Program}{w:World}{A:Around}{E:Value->Shared->Prop}{s:Shared}{env:Env}
variable {nm q:Str}{C N:Addr}{bs bm bmB:List Value}{hdct:Bool}{sn:List Str}{sub:List Value}{ab:Bool}{col:Option Bool}{dd:Option Addr}{k0 k1 k2 k3 k5:Option Value}{B Bn newId nid initId inN:String}{bmN:List Value}
end
end PySem
namespace L2
open PySem PySem.Spec PyProof.Rows
open PySem.W (Looks InstAt findIn findObj subIn mroIn clsIn takerIn hasDictIn)
noncomputable def LH:Value->Bool
 | .ref _=>true
 | _=>false
noncomputable def HV (l:List Value):Bool:=l.dropWhile LH == BX
structure LM (K:PySem.W.Frag)(C:Addr)(name:Str):Prop where
 s:findIn K (.ref C) "__setattr__"=some (some (.builtin "object.__setattr__"))
 t:takerIn K C name=some none
 hd:hasDictIn K C=true
 mo:mroIn K C (.type "object")=some true
 ve:(clsIn K C).any (fun cd=>HV cd.mro)=true
section
variable {prog:Program}{w:World}{A:Around}{E:Value->Shared->Prop}{s:Shared}{K:PySem.W.Frag}{x C:Addr}{ox:Obj}{od:Option Obj}{name:Str}{v:Value}
end
open PySem.W (Looks InstAt findIn findObj subIn mroIn clsIn takerIn hasDictIn)
section
variable {X:Cx}{pins:List (Addr × Obj)}{σ:St}{H:Hp}{s:Shared}
variable {o value:Expr}{f:Str}{ta tv:TE}{pos pos':Pos}
end
section
variable {X:Cx}{E:XK}{C:Addr}{x:Str}{np cpos pos:Pos}{e:Expr}{es:List Expr}{t:TA}{k n:Nat}{fn:List V->List (Str × V)}
end
open PySem.W (Looks InstAt findIn findObj subIn mroIn clsIn takerIn hasDictIn)
section
variable {X:Cx}{k:Nat}{C:Addr}{m x:Str}{ps:List Str}{sp:Sp}{E:St->XK}{p pos apos:Pos}{o e:Expr}{es:List Expr}{t:TA}{to:TE}
end
section
variable {prog:Program}{w:World}{A:Around}{E:Value->Shared->Prop}{s:Shared}{K:PySem.W.Frag}{x C:Addr}{ox u:Obj}{name:Str}{v:Value}
end
section
variable {X:Cx}{e:Expr}{ta:TE}{f:Str}{pos:Pos}
end
open PySem.W (findIn hasDictIn)
section
variable {HX:Hp}{OX:Own}{MX:MH}{E:St->XK}{EA:ASt->AXK}{sp:Jd}{te:TE}{ae:AE}{ta:TA}{aa:AA}{C:Addr}{m:Str}
end
end L2
namespace PySem
open Sem (wp)
section
variable {prog:Program}{w:World}{A:Around}{E:Value->Shared->Prop}{s:Shared}
end
section
variable {prog:Program}{w:World}{A:Around}{E:Value->Shared->Prop}{env:Env}
variable {nm q:Str}{C N:Addr}{bs bm bmB:List Value}{hdct:Bool}{sn:List Str}{sub:List Value}{ab:Bool}{col:Option Bool}{dd:Option Addr}{k0 k1 k2 k3 k5:Option Value}{B Bn newId nid initId inN:String}{bmN:List Value}
end
end PySem
namespace L2
open PySem PySem.Spec PyProof.Rows
section
variable {M:Model}{A:Around}{E:Value->Shared->Prop}{s:Shared}
end
section
variable {X:Cx}{E:XK}{pins:List (Addr × Obj)}{σ:St}{H:Hp}{s:Shared}
end
open PySem.W (Looks InstAt findIn findObj subIn mroIn clsIn takerIn hasDictIn)
structure LL (k:Nat)(A:Around):Prop where
 gd:A.guards=some []
 dp:A.depth+3 * k+5<recursionLimit
 un:A.units+16 * k+200<cLine
open PySem.W (Looks InstAt findIn findObj subIn mroIn clsIn takerIn hasDictIn)
section
variable {X:Cx}{E:XK}{body:List Stmt}{n tx cx:Str}{i k nn:Nat}{T C2:Addr}{np cp cpos rpos hpos pos:Pos}{tb:(St->XK)->TS}{ta:TA}{e1:Expr}{es:List Expr}{fn:List V->List (Str × V)}
end
open PySem.W (Looks InstAt findIn findObj subIn mroIn clsIn takerIn hasDictIn)
section
variable {X:Cx}{e:Expr}{ta:TE}{f:Str}{pos:Pos}{K:PySem.W.Frag}
end
section
variable {HX:Hp}{OX:Own}{MX:MH}{K:PySem.W.Frag}{i j:Nat}{T C2:Addr}{f:Str}{fn:List V->List (Str × V)}{E:XK}{EA:ASt->AXK}{tb:(St->XK)->TS}{ab:(ASt->AXK)->AS}
end
section
variable {X:Cx}{K:PySem.W.Frag}{E:XK}{body:List Stmt}{n tx cx:Str}{i k nn:Nat}{T C2:Addr}{np cp cpos rpos hpos pos:Pos}{tb:(St->XK)->TS}{ta:TA}{e1:Expr}{es:List Expr}{fn:List V->List (Str × V)}
end
section
variable {X:Cx}
end
structure Wr where
 nx:ASt->MH->Prop
 rt:List AV->MH->Prop
noncomputable abbrev AST:=MH->Wr->ASt->MH->Prop
structure LK (t:TS)(a:AST):Prop where
 go:∀ {H0:Hp} {O0:Own} {M0:MH} {Q:VK} {D':Wr} {σ:St} {H:Hp} {O:Own} {ρ:ASt} {M:MH} {nx:St->Hp->Prop},Wf H0 O0 M0->Wf H O M->Er H O M σ ρ->Ext H0 O0 M0 H O M->a M0 D' ρ M ->
  (∀ ys M' us H' O' p,D'.rt ys M'->Ext H0 O0 M0 H' O' M'->Wf H' O' M'->H' p=some (.tup us)->zk H' O' M' us ys->Q (.ref p) H')->t { nx:=nx,rt:=Q } σ H
end L2
namespace L2
open PySem PyProof.Rows
noncomputable def kn (p:Keyed):Int:=numOf p.1
noncomputable def LEr (rk:Keyed->Int)(p q:Keyed):Prop:=kn p<kn q \/ (kn p=kn q/\rk p<=rk q)
section
variable {rk:Keyed->Int}{p q r:Keyed}
theorem LEr.refl:LEr rk p p:=.inr ⟨rfl,Int.le_refl _⟩
theorem LEr.trans (h:LEr rk p q)(g:LEr rk q r):LEr rk p r:=by
 unfold LEr at *;walk_at "o"
theorem LEr.kn (h:LEr rk p q):kn p<=kn q:=by unfold LEr at h;walk_at "o"
theorem LEr.of (h:L2.kn p<=L2.kn q)(g:rk p<=rk q):LEr rk p q:=by unfold LEr;walk_at "o"
end
noncomputable def IsI (p:Keyed):Prop:=∃ n t,p.1=Value.int n t
section
variable {prog:Program}{w:World}{A:Around}{E:Value->Shared->Prop}{s:Shared}
theorem Jl {st:SortSt}{x y:Keyed}{Q:Option Bool->SortSt->Prop}(hk:kindOf st=oneType')(hx:IsI x)(hy:IsI y)(h:Q (some (decide (kn x<kn y))) st):wpS (model prog w) A E s (lt' x y) Q st:=by
 obtain ⟨x1,x2⟩:=x
 obtain ⟨y1,y2⟩:=y
 obtain ⟨a,t,rfl⟩:=hx
 obtain ⟨b,u,rfl⟩:=hy
 rw [lt'_eq]
 refine wpS_bind (wpS_get ?_)
 rw [hk,keyLt'_oneType]
 exact wpS_bind (wpS_lift (wpAny_attempt (oneLt_int ⟨rfl,wpS_pure h⟩)))
theorem zP {st:SortSt}{xs:Array Keyed}{i:Nat}{x:Keyed}{Q:Keyed->SortSt->Prop}(hx:xs[i]?=some x)(h:Q x st):wpS (model prog w) A E s (elem' xs i) Q st:=by
 rw [elem'_eq,hx];exact wpS_pure h
theorem j9 {σ:Type}{st:σ}{t:String}{Q:PUnit->σ->Prop}(h:Q ⟨⟩ st):wpS (model prog w) A E s (liftM (rule t):StateT σ Sem PUnit) Q st:=wpS_lift (wpAny_rule ⟨rfl,h⟩)
end
noncomputable def ZO:Bool->Keyed->Array Keyed->Nat->Nat->Nat->StateT SortSt Sem (Option Nat):=sortPriv% PySem.Builtin.gallop
local macro_rules | `(tactic| walk_at "unG")=>do
 let n:=Lean.mkIdent (Lean.mkPrivateNameCore `PySem.Builtin.List.W1All `PySem.Builtin.gallop)
 `(tactic| unfold $n)
noncomputable def byd (left:Bool)(key x:Keyed):Bool:=if left then decide (kn x<kn key) else !decide (kn key<kn x)
theorem Ak {left:Bool}{key x y:Keyed}(h:kn x<=kn y)(g:byd left key y=true):byd left key x=true:=by
 unfold byd at *
 cases left
 ·simp only [Bool.false_eq_true,if_false,Bool.not_eq_true',decide_eq_false_iff_not] at *;walk_at "o"
 ·simp only [if_true,decide_eq_true_eq] at *;walk_at "o"
structure Cut (left:Bool)(key:Keyed)(f:Nat->Keyed)(n k:Nat):Prop where
 le:k<=n
 lo:∀ i,i<k->byd left key (f i)=true
 hi:∀ i,k<=i->i<n->byd left key (f i)=false
section
variable {prog:Program}{w:World}{A:Around}{E:Value->Shared->Prop}{s:Shared}
theorem Y1 {st:SortSt}{left:Bool}{key:Keyed}{xs:Array Keyed}{base n hint:Nat}{f:Nat->Keyed}{Q:Option Nat->SortSt->Prop}(hk:kindOf st=oneType')(hkey:IsI key)(hf:∀ i,i<n->xs[base+i]?=some (f i)/\IsI (f i))(hs:∀ i j,i<=j->j<n->kn (f i)<=kn (f j))(hh:hint<n)
  (h:∀ k,Cut left key f n k->Q (some k) st):wpS (model prog w) A E s (ZO left key xs base n hint) Q st:=by
 unfold ZO
 walk_at "unG"
 have hb:∀ (i:Nat) (Q:Option Bool->SortSt->Prop),i<n->Q (some (byd left key (f i))) st->wpS (model prog w) A E s (do
   let x <- elem' xs (base+i)
   if left=true then lt' x key else do
    let r <- lt' key x
    pure (r.map (!·))) Q st:=fun i Q hi q=>by
  refine wpS_bind (zP (hf i hi).1 ?_)
  unfold byd at q
  cases left
  ·rw [if_neg (by decide)]
   exact wpS_bind (Jl hk hkey (hf i hi).2 (wpS_pure q))
  ·rw [if_pos rfl]
   exact Jl hk (hf i hi).2 hkey q
 have up:∀ i j,i<=j->j<n->byd left key (f j)=true->byd left key (f i)=true:=fun i j h1 h2=>Ak (hs i j h1 h2)
 have dn:∀ i j,i<=j->j<n->byd left key (f i)=false->byd left key (f j)=false:=fun i j h1 h2 g=>by
  cases e:byd left key (f j) with
  | false=>rfl
  | true=>rw [up i j h1 h2 e] at g;exact g
 have fin:∀ {F:Nat->Option (Option Nat) × Nat × Nat->StateT SortSt Sem (ForInStep (Option (Option Nat) × Nat × Nat))} lo hi,(∀ t lo hi (R:_->SortSt->Prop),lo ≥ hi->R (ForInStep.done (none,lo,hi)) st->wpS (model prog w) A E s (F t (none,lo,hi)) R st) ->
   (∀ t lo hi (R:_->SortSt->Prop),lo<hi->hi<=n->R (ForInStep.yield (if byd left key (f (lo+(hi - lo) / 2))=true then (none,lo+(hi - lo) / 2+1,hi) else (none,lo,lo+(hi - lo) / 2))) st->wpS (model prog w) A E s (F t (none,lo,hi)) R st) ->
   lo<=hi->hi<=n->(∀ i,i<lo->byd left key (f i)=true)->(∀ i,hi<=i->i<n->byd left key (f i)=false)->wpS (model prog w) A E s (forIn [0:n] (none,lo,hi) F) (fun c st'=>st'=st/\∃ k,c=(none,k,k)/\Cut left key f n k) st:=fun lo hi F1 F2 h1 h2 h3 h4=>by
  refine wpS_forRange (I:=fun t c st'=>st'=st/\∃ lo hi,c=(none,lo,hi)/\lo<=hi/\hi<=n/\hi - lo<=n - t/\(∀ i,i<lo->byd left key (f i)=true)/\(∀ i,hi<=i->i<n->byd left key (f i)=false))
   ?_ ?_ ⟨rfl,lo,hi,rfl,h1,h2,by walk_at "o",h3,h4⟩
  ·rintro t c st' _ ht ⟨rfl,lo,hi,rfl,g1,g2,g3,g4,g5⟩
   by_cases c:lo ≥ hi
   ·have:lo=hi:=by walk_at "o"
    subst this
    exact F1 _ _ _ _ c ⟨rfl,lo,rfl,g2,g4,g5⟩
   ·refine F2 _ _ _ _ (by walk_at "o") g2 ?_
    cases e:byd left key (f (lo+(hi - lo) / 2)) with
    | true=>rw [if_pos rfl];exact ⟨rfl,_,_,rfl,by walk_at "o",g2,by walk_at "o",fun i hi'=>up i _ (by walk_at "o") (by walk_at "o") e,g5⟩
    | false=>rw [if_neg (by decide)];exact ⟨rfl,_,_,rfl,by walk_at "o",by walk_at "o",by walk_at "o",g4,fun i h1 h2=>dn _ i h1 h2 e⟩
  ·rintro c st' ⟨rfl,lo,hi,rfl,g1,g2,g3,g4,g5⟩
   have:lo=hi:=by walk_at "o"
   subst this
   exact ⟨rfl,lo,rfl,g2,g4,g5⟩
 dsimp only
 refine wpS_bind (hb hint _ hh ?_)
 cases e:byd left key (f hint) with
 | true=>
  dsimp only
  rw [if_pos rfl]
  refine wpS_bind (wpS_mono (wpS_forRange (I:=fun t c st'=>st'=st/\∃ la o,c=(none,la,o)/\la<o/\t+1<=o/\hint+la<n/\byd left key (f (hint+la))=true)
   (Q:=fun c st'=>st'=st/\∃ la o,c=(none,la,o)/\la<o/\hint+la<n/\byd left key (f (hint+la))=true/\(o ≥ n - hint \/ byd left key (f (hint+o))=false)) ?_ ?_ ⟨rfl,0,1,rfl,by walk_at "o",by walk_at "o",by walk_at "o",e⟩) ?_)
  ·rintro t c st' _ ht ⟨rfl,la,o,rfl,g1,g2,g3,g4⟩
   dsimp only
   by_cases c:o ≥ n - hint
   ·rw [if_pos c];exact wpS_pure ⟨rfl,la,o,rfl,g1,g3,g4,.inl c⟩
   ·rw [if_neg c]
    refine wpS_bind (hb _ _ (by walk_at "o") ?_)
    cases e2:byd left key (f (hint+o)) with
    | true=>exact wpS_pure ⟨rfl,o,_,rfl,by walk_at "o",by walk_at "o",by walk_at "o",e2⟩
    | false=>exact wpS_pure ⟨rfl,la,o,rfl,g1,g3,g4,.inr e2⟩
  ·rintro c st' ⟨rfl,la,o,rfl,g1,g2,g3,g4⟩
   exact ⟨rfl,la,o,rfl,g1,g3,g4,.inl (by walk_at "o")⟩
  ·rintro c st' ⟨rfl,la,o,rfl,g1,g3,g4,g5⟩
   refine wpS_bind (wpS_mono (fin (hint+la+1) (hint+min o (n - hint)) (fun t lo hi R c r=>?_) (fun t lo hi R c c2 r=>?_) (by walk_at "o") (by walk_at "o") ?_ ?_) ?_)
   ·dsimp only;rw [if_pos c];exact wpS_pure r
   ·dsimp only
    rw [if_neg (by walk_at "o")]
    refine wpS_bind (hb _ _ (by walk_at "o") ?_)
    cases e:byd left key (f (lo+(hi - lo) / 2)) with
    | true=>rw [e,if_pos rfl] at r;exact wpS_pure r
    | false=>rw [e,if_neg (by decide)] at r;exact wpS_pure r
   ·exact fun i hi=>up i _ (by walk_at "o") g3 g4
   ·intro i h1 h2
    rcases g5 with g5 | g5
    ·walk_at "o"
    ·exact dn _ i (by walk_at "o") h2 g5
   ·rintro c st' ⟨rfl,k,rfl,g⟩
    exact wpS_pure (h k g)
 | false=>
  dsimp only
  rw [if_neg (by decide)]
  refine wpS_bind (wpS_mono (wpS_forRange (I:=fun t c st'=>st'=st/\∃ la o,c=(none,la,o)/\la<o/\t+1<=o/\la<=hint/\byd left key (f (hint - la))=false)
   (Q:=fun c st'=>st'=st/\∃ la o,c=(none,la,o)/\la<o/\la<=hint/\byd left key (f (hint - la))=false/\(o ≥ hint+1 \/ byd left key (f (hint - o))=true)) ?_ ?_ ⟨rfl,0,1,rfl,by walk_at "o",by walk_at "o",by walk_at "o",e⟩) ?_)
  ·rintro t c st' _ ht ⟨rfl,la,o,rfl,g1,g2,g3,g4⟩
   dsimp only
   by_cases c:o ≥ hint+1
   ·rw [if_pos c];exact wpS_pure ⟨rfl,la,o,rfl,g1,g3,g4,.inl c⟩
   ·rw [if_neg c]
    refine wpS_bind (hb _ _ (by walk_at "o") ?_)
    cases e2:byd left key (f (hint - o)) with
    | true=>exact wpS_pure ⟨rfl,la,o,rfl,g1,g3,g4,.inr e2⟩
    | false=>exact wpS_pure ⟨rfl,o,_,rfl,by walk_at "o",by walk_at "o",by walk_at "o",e2⟩
  ·rintro c st' ⟨rfl,la,o,rfl,g1,g2,g3,g4⟩
   exact ⟨rfl,la,o,rfl,g1,g3,g4,.inl (by walk_at "o")⟩
  ·rintro c st' ⟨rfl,la,o,rfl,g1,g3,g4,g5⟩
   refine wpS_bind (wpS_mono (fin (hint+1 - min o (hint+1)) (hint - la) (fun t lo hi R c r=>?_) (fun t lo hi R c c2 r=>?_) (by walk_at "o") (by walk_at "o") ?_ ?_) ?_)
   ·dsimp only;rw [if_pos c];exact wpS_pure r
   ·dsimp only
    rw [if_neg (by walk_at "o")]
    refine wpS_bind (hb _ _ (by walk_at "o") ?_)
    cases e:byd left key (f (lo+(hi - lo) / 2)) with
    | true=>rw [e,if_pos rfl] at r;exact wpS_pure r
    | false=>rw [e,if_neg (by decide)] at r;exact wpS_pure r
   ·intro i hi
    rcases g5 with g5 | g5
    ·walk_at "o"
    ·exact up i _ (by walk_at "o") (by walk_at "o") g5
   ·exact fun i h1 h2=>dn _ i (by walk_at "o") h2 g4
   ·rintro c st' ⟨rfl,k,rfl,g⟩
    exact wpS_pure (h k g)
end
end L2
namespace L2
open PySem PyProof.Rows
section
variable {rk:Keyed->Int}
structure MLo (rk:Keyed->Int)(X Y:List Keyed)(a b:Nat)(o:List Keyed):Prop where
 la:a<=X.length
 lb:b<=Y.length
 perm:o.Perm (X.take a ++ Y.take b)
 pw:o.Pairwise (LEr rk)
 lx:∀ x ∈ o,∀ y ∈ X.drop a,LEr rk x y
 ly:∀ x ∈ o,∀ y ∈ Y.drop b,LEr rk x y
structure jZ (rk:Keyed->Int)(X Y:List Keyed):Prop where
 px:X.Pairwise (LEr rk)
 py:Y.Pairwise (LEr rk)
 bel:∀ x ∈ X,∀ y ∈ Y,rk x<=rk y
 ix:∀ x ∈ X,IsI x
 iy:∀ y ∈ Y,IsI y
theorem xp {X:List Keyed}(h:X.Pairwise (LEr rk)){a:Nat}{x:Keyed}(hx:X[a]?=some x):∀ y ∈ X.drop a,LEr rk x y:=fun y hy=>by
 obtain ⟨hl,rfl⟩:=List.getElem?_eq_some_iff.mp hx
 rw [List.drop_eq_getElem_cons hl] at hy
 rcases List.mem_cons.mp hy with rfl | hy
 ·exact LEr.refl
 ·have:=List.Pairwise.sublist (List.drop_sublist a X) h
  rw [List.drop_eq_getElem_cons hl] at this
  exact (List.pairwise_cons.mp this).1 y hy
theorem xf {X:List Keyed}(h:X.Pairwise (LEr rk)){a:Nat}{x:Keyed}(hx:X[a]?=some x):∀ y ∈ X.take (a+1),LEr rk y x:=fun y hy=>by
 obtain ⟨hl,rfl⟩:=List.getElem?_eq_some_iff.mp hx
 rw [List.take_succ_eq_append_getElem hl] at hy
 rcases List.mem_append.mp hy with hy | hy
 ·have:=List.Pairwise.sublist (List.take_sublist (a+1) X) h
  rw [List.take_succ_eq_append_getElem hl] at this
  exact (List.pairwise_append.mp this).2.2 y hy _ (List.mem_singleton.mpr rfl)
 ·rw [List.mem_singleton.mp hy];exact LEr.refl
theorem ZS {o:List Keyed}{x:Keyed}(h:o.Pairwise (LEr rk))(g:∀ y ∈ o,LEr rk y x):(o ++ [x]).Pairwise (LEr rk):=List.pairwise_append.mpr ⟨h,List.pairwise_singleton _ _,fun y hy z hz=>by rw [List.mem_singleton.mp hz];exact g y hy⟩
theorem KJ {o A B:List Keyed}{x:Keyed}(h:o.Perm (A ++ B)):(o ++ [x]).Perm ((A ++ [x]) ++ B):=by
 rw [List.append_assoc]
 refine (h.append_right [x]).trans ?_
 rw [List.append_assoc]
 exact List.Perm.append_left A List.perm_append_comm
theorem Xt {o A B:List Keyed}{x:Keyed}(h:o.Perm (A ++ B)):(o ++ [x]).Perm (A ++ (B ++ [x])):=by
 rw [<- List.append_assoc];exact h.append_right [x]
variable {X Y o:List Keyed}{a b:Nat}
theorem MLo.x (T:jZ rk X Y)(h:MLo rk X Y a b o){x y:Keyed}(hx:X[a]?=some x)(hy:Y[b]?=some y)(c:kn x<=kn y):MLo rk X Y (a+1) b (o ++ [x]):=by
 obtain ⟨hl,e⟩:=List.getElem?_eq_some_iff.mp hx
 have hd:X.drop a=x :: X.drop (a+1):=by rw [List.drop_eq_getElem_cons hl,e]
 have mx:x ∈ X:=List.mem_of_getElem? hx
 refine ⟨hl,h.lb,?_,ZS h.pw fun z hz=>h.lx z hz x (by rw [hd];exact List.mem_cons_self ..),fun z hz y' hy'=>?_,fun z hz y' hy'=>?_⟩
 ·rw [List.take_succ_eq_append_getElem hl,e];exact KJ h.perm
 ·rcases List.mem_append.mp hz with hz | hz
  ·exact h.lx z hz y' (by rw [hd];exact List.mem_cons_of_mem _ hy')
  ·rw [List.mem_singleton.mp hz];exact xp T.px hx y' (by rw [hd];exact List.mem_cons_of_mem _ hy')
 ·rcases List.mem_append.mp hz with hz | hz
  ·exact h.ly z hz y' hy'
  ·rw [List.mem_singleton.mp hz]
   have:=(xp T.py hy y' hy').kn
   exact LEr.of (by walk_at "o") (T.bel _ mx _ (List.mem_of_mem_drop hy'))
theorem MLo.y (T:jZ rk X Y)(h:MLo rk X Y a b o){x y:Keyed}(hx:X[a]?=some x)(hy:Y[b]?=some y)(c:kn y<kn x):MLo rk X Y a (b+1) (o ++ [y]):=by
 obtain ⟨hl,e⟩:=List.getElem?_eq_some_iff.mp hy
 have hd:Y.drop b=y :: Y.drop (b+1):=by rw [List.drop_eq_getElem_cons hl,e]
 refine ⟨h.la,hl,?_,ZS h.pw fun z hz=>h.ly z hz y (by rw [hd];exact List.mem_cons_self ..),fun z hz y' hy'=>?_,fun z hz y' hy'=>?_⟩
 ·rw [List.take_succ_eq_append_getElem hl,e];exact Xt h.perm
 ·rcases List.mem_append.mp hz with hz | hz
  ·exact h.lx z hz y' hy'
  ·rw [List.mem_singleton.mp hz]
   have:=(xp T.px hx y' hy').kn
   exact .inl (by walk_at "o")
 ·rcases List.mem_append.mp hz with hz | hz
  ·exact h.ly z hz y' (by rw [hd];exact List.mem_cons_of_mem _ hy')
  ·rw [List.mem_singleton.mp hz];exact xp T.py hy y' (by rw [hd];exact List.mem_cons_of_mem _ hy')
theorem MLo.xs (T:jZ rk X Y)(h:MLo rk X Y a b o){y:Keyed}(hy:Y[b]?=some y):∀ k,(∀ i,i<k->∃ x,X[a+i]?=some x/\kn x<=kn y)->MLo rk X Y (a+k) b (o ++ (X.drop a).take k)
 | 0,_=>by rw [List.take_zero,List.append_nil];exact h
 | k+1,g=>by
  obtain ⟨x,h1,h2⟩:=g k (by walk_at "o")
  have:=(MLo.xs T h hy k fun i hi=>g i (by walk_at "o")).x T h1 hy h2
  obtain ⟨hl,e⟩:=List.getElem?_eq_some_iff.mp h1
  rw [List.append_assoc] at this
  rw [show (X.drop a).take (k+1)=(X.drop a).take k ++ [x] by rw [List.take_succ_eq_append_getElem (by rw [List.length_drop];walk_at "o"),List.getElem_drop,e]]
  exact this
theorem MLo.ys (T:jZ rk X Y)(h:MLo rk X Y a b o){x:Keyed}(hx:X[a]?=some x):∀ k,(∀ i,i<k->∃ y,Y[b+i]?=some y/\kn y<kn x)->MLo rk X Y a (b+k) (o ++ (Y.drop b).take k)
 | 0,_=>by rw [List.take_zero,List.append_nil];exact h
 | k+1,g=>by
  obtain ⟨y,h1,h2⟩:=g k (by walk_at "o")
  have:=(MLo.ys T h hx k fun i hi=>g i (by walk_at "o")).y T hx h1 h2
  obtain ⟨hl,e⟩:=List.getElem?_eq_some_iff.mp h1
  rw [List.append_assoc] at this
  rw [show (Y.drop b).take (k+1)=(Y.drop b).take k ++ [y] by rw [List.take_succ_eq_append_getElem (by rw [List.length_drop];walk_at "o"),List.getElem_drop,e]]
  exact this
noncomputable def jg (rk:Keyed->Int)(X Y m:List Keyed):Prop:=m.Perm (X ++ Y)/\m.Pairwise (LEr rk)
theorem MLo.doneY (T:jZ rk X Y)(h:MLo rk X Y a Y.length o):jg rk X Y (o ++ X.drop a ++ Y.drop Y.length):=by
 rw [List.drop_length,List.append_nil]
 have p:=h.perm
 rw [List.take_length] at p
 refine ⟨?_,List.pairwise_append.mpr ⟨h.pw,T.px.sublist (List.drop_sublist _ _),h.lx⟩⟩
 refine (p.append_right _).trans ?_
 rw [List.append_assoc]
 refine (List.Perm.append_left _ List.perm_append_comm).trans ?_
 rw [<- List.append_assoc,List.take_append_drop]
theorem MLo.doneX (T:jZ rk X Y)(h:MLo rk X Y X.length b o):jg rk X Y (o ++ X.drop X.length ++ Y.drop b):=by
 rw [List.drop_length,List.append_nil]
 have p:=h.perm
 rw [List.take_length] at p
 refine ⟨?_,List.pairwise_append.mpr ⟨h.pw,T.py.sublist (List.drop_sublist _ _),h.ly⟩⟩
 refine (p.append_right _).trans ?_
 rw [List.append_assoc,List.take_append_drop]
theorem MLo.last (T:jZ rk X Y)(h:MLo rk X Y a b o)(ha:a+1=X.length)(g:∀ x,X[a]?=some x->∀ y ∈ Y,kn y<kn x):jg rk X Y (o ++ Y.drop b ++ X.drop a):=by
 obtain ⟨x,hx⟩:∃ x,X[a]?=some x:=⟨_,List.getElem?_eq_getElem (by walk_at "o")⟩
 obtain ⟨hl,e⟩:=List.getElem?_eq_some_iff.mp hx
 have hd:X.drop a=[x]:=by rw [List.drop_eq_getElem_cons hl,e,List.drop_eq_nil_of_le (by walk_at "o")]
 refine ⟨?_,?_⟩
 ·refine ((h.perm.append_right _).append_right _).trans ?_
  rw [List.append_assoc (X.take a),List.take_append_drop]
  rw [List.append_assoc]
  refine (List.Perm.append_left _ List.perm_append_comm).trans ?_
  rw [<- List.append_assoc,List.take_append_drop]
 ·rw [hd]
  refine ZS (List.pairwise_append.mpr ⟨h.pw,T.py.sublist (List.drop_sublist _ _),h.ly⟩) fun y hy=>?_
  rcases List.mem_append.mp hy with hy | hy
  ·exact h.lx y hy x (by rw [hd];exact List.mem_singleton.mpr rfl)
  ·exact .inl (g x hx y (List.mem_of_mem_drop hy))
end
noncomputable def J4:Array Keyed->Array Keyed->StateT SortSt Sem (Array Keyed):=sortPriv% PySem.Builtin.mergeLo
local macro_rules | `(tactic| walk_at "unM")=>do
 let n:=Lean.mkIdent (Lean.mkPrivateNameCore `PySem.Builtin.List.W1All `PySem.Builtin.mergeLo)
 `(tactic| unfold $n)
noncomputable abbrev xy (st:SortSt)(g:Nat):SortSt:=SortSt.mk' (kindOf st) (arrOf st) (pendingOf st) g (failedOf st)
noncomputable def X6:Nat->StateT SortSt Sem Unit:=sortPriv% PySem.Builtin.setMinGallop
theorem Xu (g:Nat):X6 g=modify fun st=>xy st g:=rfl
section
variable {prog:Program}{w:World}{A:Around}{E:Value->Shared->Prop}{s:Shared}{rk:Keyed->Int}
theorem xq {st:SortSt}{g:Nat}{Q:Unit->SortSt->Prop}(h:Q () (xy st g)):wpS (model prog w) A E s (X6 g) Q st:=by
 rw [Xu];exact wpS_modify h
theorem Zd {X:List Keyed}(h:X.Pairwise (LEr rk)){i j:Nat}(hij:i<=j)(hj:j<X.length):kn (X[i]?.getD (.none,.none))<=kn (X[j]?.getD (.none,.none)):=by
 rw [List.getElem?_eq_getElem hj,List.getElem?_eq_getElem (by walk_at "o")]
 by_cases c:i=j
 ·subst c;exact Int.le_refl _
 ·exact (List.pairwise_iff_getElem.mp h i j (by walk_at "o") hj (by walk_at "o")).kn
theorem yJ {st:SortSt}{left:Bool}{key:Keyed}{xs:Array Keyed}{base n hint:Nat}{Q:Option Nat->SortSt->Prop}(hk:kindOf st=oneType')(hkey:IsI key)(hX:((xs.toList.drop base).take n).Pairwise (LEr rk))(hI:∀ x ∈ xs.toList,IsI x)(hb:base+n<=xs.size)(hh:hint<n)
  (h:∀ k,k<=n->(∀ i,i<k->∃ x,xs.toList[base+i]?=some x/\byd left key x=true)->(∀ i,k<=i->i<n->∃ x,xs.toList[base+i]?=some x/\byd left key x=false)->Q (some k) st):wpS (model prog w) A E s (ZO left key xs base n hint) Q st:=by
 have ge:∀ i,i<n->∃ x,xs.toList[base+i]?=some x/\((xs.toList.drop base).take n)[i]?=some x:=fun i hi=>by
  have:base+i<xs.toList.length:=by rw [Array.length_toList];walk_at "o"
  refine ⟨_,List.getElem?_eq_getElem this,?_⟩
  rw [List.getElem?_take_of_lt hi,List.getElem?_drop,List.getElem?_eq_getElem this]
 refine Y1 (f:=fun i=>((xs.toList.drop base).take n)[i]?.getD (.none,.none)) hk hkey (fun i hi=>?_) (fun i j hij hj=>Zd hX hij (by rw [List.length_take,List.length_drop,Array.length_toList];walk_at "o")) hh fun k c=>h k c.le (fun i hi=>?_) fun i h1 h2=>?_
 ·obtain ⟨x,h1,h2⟩:=ge i hi
  rw [h2,<- Array.getElem?_toList,h1]
  exact ⟨rfl,hI x (List.mem_of_getElem? h1)⟩
 ·obtain ⟨x,h1,h2⟩:=ge i (Nat.lt_of_lt_of_le hi c.le)
  have:=c.lo i hi
  rw [h2] at this
  exact ⟨x,h1,this⟩
 ·obtain ⟨x,h3,h4⟩:=ge i h2
  have:=c.hi i h1 h2
  rw [h4] at this
  exact ⟨x,h3,this⟩
theorem A3 {key x:Keyed}(h:byd true key x=true):kn x<kn key:=by unfold byd at h;simpa using h
theorem Kh {key x:Keyed}(h:byd true key x=false):kn key<=kn x:=by unfold byd at h;simpa using h
theorem AZ {key x:Keyed}(h:byd false key x=true):kn x<=kn key:=by unfold byd at h;simpa using h
theorem KN {key x:Keyed}(h:byd false key x=false):kn key<kn x:=by unfold byd at h;simpa using h
end
end L2
namespace L2
open PySem PyProof.Rows
local macro_rules | `(tactic| walk_at "unM")=>do
 let n:=Lean.mkIdent (Lean.mkPrivateNameCore `PySem.Builtin.List.W1All `PySem.Builtin.mergeLo)
 `(tactic| unfold $n)
section
variable {prog:Program}{w:World}{A:Around}{E:Value->Shared->Prop}{s:Shared}{rk:Keyed->Int}
theorem ZQ (xs:Array Keyed)(i k:Nat):(xs.extract i (i+k)).toList=(xs.toList.drop i).take k:=by
 rw [Array.toList_extract,List.extract_eq_take_drop,Nat.add_sub_cancel_left]
theorem xm (xs:Array Keyed)(i:Nat):(xs.extract i xs.size).toList=xs.toList.drop i:=by
 rw [Array.toList_extract,List.extract_eq_take_drop,List.take_of_length_le (by rw [List.length_drop,Array.length_toList];walk_at "o")]
theorem jh {xs:Array Keyed}{i:Nat}(h:i<xs.size):∃ x,xs[i]?=some x/\xs.toList[i]?=some x:=⟨xs[i],Array.getElem?_eq_getElem h,by rw [Array.getElem?_toList,Array.getElem?_eq_getElem h]⟩
theorem qq {α:Type}{st:SortSt}{c:Prop}[Decidable c]{m1 m2:StateT SortSt Sem α}{Q:α->SortSt->Prop}(h1:c->wpS (model prog w) A E s m1 Q st)(h2:¬ c->wpS (model prog w) A E s m2 Q st):wpS (model prog w) A E s (if c then m1 else m2) Q st:=by
 by_cases h:c
 ·rw [if_pos h];exact h1 h
 ·rw [if_neg h];exact h2 h
theorem Fu {α:Type}{st:SortSt}{c:Nat->Prop}{dc:∀ g,Decidable (c g)}{F m1:Nat->StateT SortSt Sem α}{Q:α->SortSt->Prop}(h:∀ g,wpS (model prog w) A E s (F g) Q st)(e:∀ g,m1 g=F (g - 1)):∀ g,wpS (model prog w) A E s (if c g then m1 g else F g) Q st:=fun g=>qq (fun _=>e g ▸ h _) fun _=>h _
theorem FG {α:Type}{st:SortSt}{P:Array Keyed->Nat->Prop}{c:Prop}{dc:Decidable c}{c1 c2:Array Keyed->Nat->Prop}{d1:∀ o a,Decidable (c1 o a)}{d2:∀ o a,Decidable (c2 o a)}{F m1 r1 r2:Array Keyed->Nat->StateT SortSt Sem α}{Q:α->SortSt->Prop}(f:Array Keyed->Nat->Array Keyed)(g:Nat->Nat)
  (h1:∀ o a,P o a->c->c1 o a->wpS (model prog w) A E s (r1 o a) Q st) (h2:∀ o a,P o a->c->¬ c1 o a->c2 o a->wpS (model prog w) A E s (r2 o a) Q st) (h:∀ o a o2 a2,P o a->(c/\¬ c1 o a/\¬ c2 o a/\o2=f o a/\a2=g a) \/ (¬ c/\o2=o/\a2=a)->wpS (model prog w) A E s (F o2 a2) Q st) (e:∀ o a,m1 o a=F (f o a) (g a)) :
  ∀ o a,P o a->wpS (model prog w) A E s (if c then if c1 o a then r1 o a else if c2 o a then r2 o a else m1 o a else F o a) Q st:=fun o a p=>
 qq (fun hc=>qq (h1 o a p hc) fun hc1=>qq (h2 o a p hc hc1) fun hc2=>e o a ▸ h o a _ _ p (.inl ⟨hc,hc1,hc2,rfl,rfl⟩)) fun hc=>h o a _ _ p (.inr ⟨hc,rfl,rfl⟩)
theorem FJ {α:Type}{st:SortSt}{P:Array Keyed->Nat->Prop}{c:Prop}{dc:Decidable c}{c1:Array Keyed->Nat->Prop}{d1:∀ o a,Decidable (c1 o a)}{F m1 r1:Array Keyed->Nat->StateT SortSt Sem α}{Q:α->SortSt->Prop}(f:Array Keyed->Nat->Array Keyed)(g:Nat->Nat)
  (h1:∀ o a,P o a->c->c1 o a->wpS (model prog w) A E s (r1 o a) Q st) (h:∀ o a o2 a2,P o a->(c/\¬ c1 o a/\o2=f o a/\a2=g a) \/ (¬ c/\o2=o/\a2=a)->wpS (model prog w) A E s (F o2 a2) Q st) (e:∀ o a,m1 o a=F (f o a) (g a)) :
  ∀ o a,P o a->wpS (model prog w) A E s (if c then if c1 o a then r1 o a else m1 o a else F o a) Q st:=fun o a p=>
 qq (fun hc=>qq (h1 o a p hc) fun hc1=>e o a ▸ h o a _ _ p (.inl ⟨hc,hc1,rfl,rfl⟩)) fun hc=>h o a _ _ p (.inr ⟨hc,rfl,rfl⟩)
theorem Xg {st : SortSt}{xs ys : Array Keyed}{Q : Array Keyed -> SortSt -> Prop}(hk : kindOf st = oneType')(T : jZ rk xs.toList ys.toList)(hx : 0 < xs.size)(hy : 0 < ys.size)(h0 : ∀ x y, xs.toList[0]? = some x -> ys.toList[0]? = some y -> kn y < kn x)(hl : ∀ x, xs.toList[xs.size - 1]? = some x -> ∀ y ∈ ys.toList, kn y < kn x)
    (h:∀ m g,jg rk xs.toList ys.toList m.toList->Q m (xy st g)):wpS (model prog w) A E s (J4 xs ys) Q st:=by
  unfold J4
  walk_at "unM"
  have lx:xs.toList.length=xs.size:=Array.length_toList
  have ly:ys.toList.length=ys.size:=Array.length_toList
  have dn:∀ {o:Array Keyed} {a b},MLo rk xs.toList ys.toList a b o.toList->b=ys.size->jg rk xs.toList ys.toList (o ++ xs.extract a ++ ys.extract b).toList:=fun {o a b} M e=>by
    rw [Array.toList_append,Array.toList_append,xm,xm]
    subst e;rw [<- ly] at M ⊢;exact M.doneY T
  have dnx:∀ {o:Array Keyed} {a b},MLo rk xs.toList ys.toList a b o.toList->a=xs.size->jg rk xs.toList ys.toList (o ++ xs.extract a ++ ys.extract b).toList:=fun {o a b} M e=>by
    rw [Array.toList_append,Array.toList_append,xm,xm]
    subst e;rw [<- lx] at M ⊢;exact M.doneX T
  have ls:∀ {o:Array Keyed} {a b},MLo rk xs.toList ys.toList a b o.toList->a+1=xs.size->jg rk xs.toList ys.toList (o ++ ys.extract b ++ xs.extract a).toList:=fun {o a b} M e=>by
    rw [Array.toList_append,Array.toList_append,xm,xm]
    exact M.last T (by walk_at "o") fun x hx'=>hl x (by rw [<- hx'];congr 1;walk_at "o")
  have ix:∀ {a x},xs.toList[a]?=some x->IsI x:=fun e=>T.ix _ (List.mem_of_getElem? e)
  have iy:∀ {a x},ys.toList[a]?=some x->IsI x:=fun e=>T.iy _ (List.mem_of_getElem? e)
  have gal:∀ {a b} {o:Array Keyed} {k:Nat} {y:Keyed},MLo rk xs.toList ys.toList a b o.toList->ys.toList[b]?=some y->(∀ i,i<k->∃ x,xs.toList[a+i]?=some x/\byd false y x=true)->MLo rk xs.toList ys.toList (a+k) b (o ++ xs.extract a (a+k)).toList:=fun {a b o k y} M e g=>by
    rw [Array.toList_append,ZQ]
    exact M.xs T e k fun i hi=>by obtain ⟨x,h1,h2⟩:=g i hi;exact ⟨x,h1,AZ h2⟩
  have gal2:∀ {a b} {o:Array Keyed} {k:Nat} {x:Keyed},MLo rk xs.toList ys.toList a b o.toList->xs.toList[a]?=some x->(∀ i,i<k->∃ y,ys.toList[b+i]?=some y/\byd true x y=true)->MLo rk xs.toList ys.toList a (b+k) (o ++ ys.extract b (b+k)).toList:=fun {a b o k y} M e g=>by
    rw [Array.toList_append,ZQ]
    exact M.ys T e k fun i hi=>by obtain ⟨x,h1,h2⟩:=g i hi;exact ⟨x,h1,A3 h2⟩
  have pux:∀ {a b} {o:Array Keyed} {x y:Keyed},MLo rk xs.toList ys.toList a b o.toList->xs.toList[a]?=some x->ys.toList[b]?=some y->kn x<=kn y->MLo rk xs.toList ys.toList (a+1) b (o.push x).toList:=fun M h1 h2 h3=>by rw [Array.toList_push];exact M.x T h1 h2 h3
  have puy:∀ {a b} {o:Array Keyed} {x y:Keyed},MLo rk xs.toList ys.toList a b o.toList->xs.toList[a]?=some x->ys.toList[b]?=some y->kn y<kn x->MLo rk xs.toList ys.toList a (b+1) (o.push y).toList:=fun M h1 h2 h3=>by rw [Array.toList_push];exact M.y T h1 h2 h3
  obtain ⟨x0,ex0,lx0⟩:=jh hx
  obtain ⟨y0,ey0,ly0⟩:=jh hy
  have M0:MLo rk xs.toList ys.toList 0 0 (#[]:Array Keyed).toList:=⟨Nat.zero_le _,Nat.zero_le _,List.Perm.refl _,List.Pairwise.nil,fun x hx=>(nomatch hx),fun x hx=>(nomatch hx)⟩
  have M1:MLo rk xs.toList ys.toList 0 1 (#[y0]:Array Keyed).toList:=puy M0 lx0 ly0 (h0 _ _ lx0 ly0)
  refine wpS_bind (j9 ?_)
  dsimp only
  refine wpS_bind (zP ey0 ?_)
  by_cases c1:(1 == ys.size)=true
  · rw [if_pos c1]
    exact wpS_pure (h _ (gallopOf st) (dn M1 (by simpa using c1)))
  rw [if_neg c1]
  by_cases c2:(0+1 == xs.size)=true
  · rw [if_pos c2]
    exact wpS_pure (h _ (gallopOf st) (ls M1 (by simpa using c2)))
  rw [if_neg c2]
  have c1 : 1 < ys.size := by have : ¬ 1 = ys.size := by simpa using c1
                              walk_at "o"
  have c2 : 1 < xs.size := by have : ¬ 0 + 1 = xs.size := by simpa using c2
                              walk_at "o"
  refine wpS_bind (wpS_get ?_)
  refine wpS_bind (wpS_mono (wpS_forRange (I:=fun t c st'=>∃ o a b g g',c=(none,o,a,b,g)/\st'=xy st g'/\MLo rk xs.toList ys.toList a b o.toList/\a+1<xs.size/\b<ys.size/\t+1<=a+b)
    (Q:=fun c st'=>∃ m o a b g g',c=(some m,o,a,b,g)/\st'=xy st g'/\jg rk xs.toList ys.toList m.toList) ?_ ?_ ⟨_,_,_,_,gallopOf st,rfl,rfl,M1,by walk_at "o",by walk_at "o",by walk_at "o"⟩) ?_)
  · rintro t c st' _ ht ⟨o,a,b,g,g',rfl,rfl,M,ha,hb,hc⟩
    dsimp only
    refine wpS_bind (wpS_mono (wpS_forRange (I:=fun u c st'=>∃ o a b ac bc,c=(none,o,a,b,ac,bc)/\st'=xy st g'/\MLo rk xs.toList ys.toList a b o.toList/\a+1<xs.size/\b<ys.size/\t+1<=a+b/\u+1<=a+b)
      (Q:=fun c st'=>st'=xy st g'/\((∃ m o a b ac bc,c=(some m,o,a,b,ac,bc)/\jg rk xs.toList ys.toList m.toList) \/ (∃ o a b ac bc,c=(none,o,a,b,ac,bc)/\MLo rk xs.toList ys.toList a b o.toList/\a+1<xs.size/\b<ys.size/\t+2<=a+b))) ?_ ?_ ⟨_,_,_,_,_,rfl,rfl,M,ha,hb,hc,by walk_at "o"⟩) ?_)
    · rintro u c st' _ hu ⟨o,a,b,ac,bc,rfl,rfl,M,ha,hb,hc,hd⟩
      obtain ⟨x,ex,lx'⟩:=jh (xs:=xs) (i:=a) (by walk_at "o")
      obtain ⟨y,ey,ly'⟩:=jh hb
      dsimp only
      refine wpS_bind (zP ey (wpS_bind (zP ex (wpS_bind (Jl hk (iy ly') (ix lx') ?_)))))
      by_cases c:kn y<kn x
      · rw [decide_eq_true c]
        dsimp only
        rw [if_pos rfl]
        refine wpS_bind (zP ey ?_)
        have M':=puy M lx' ly' c
        by_cases c3:(b+1 == ys.size)=true
        · rw [if_pos c3];exact wpS_pure ⟨rfl,.inl ⟨_,_,_,_,_,_,rfl,dn M' (by simpa using c3)⟩⟩
        rw [if_neg c3]
        have c3:¬ b+1=ys.size:=by simpa using c3
        split
        · exact wpS_pure ⟨rfl,.inr ⟨_,_,_,_,_,rfl,M',ha,by walk_at "o",by walk_at "o"⟩⟩
        · exact wpS_pure ⟨_,_,_,_,_,rfl,rfl,M',ha,by walk_at "o",by walk_at "o",by walk_at "o"⟩
      · rw [decide_eq_false c]
        dsimp only
        rw [if_neg (by decide)]
        refine wpS_bind (zP ex ?_)
        have M':=pux M lx' ly' (by walk_at "o")
        by_cases c3:(a+1+1 == xs.size)=true
        · rw [if_pos c3];exact wpS_pure ⟨rfl,.inl ⟨_,_,_,_,_,_,rfl,ls M' (by simpa using c3)⟩⟩
        rw [if_neg c3]
        have c3:¬ a+1+1=xs.size:=by simpa using c3
        split
        · exact wpS_pure ⟨rfl,.inr ⟨_,_,_,_,_,rfl,M',by walk_at "o",hb,by walk_at "o"⟩⟩
        · exact wpS_pure ⟨_,_,_,_,_,rfl,rfl,M',by walk_at "o",hb,by walk_at "o",by walk_at "o"⟩
    · rintro c st' ⟨o,a,b,ac,bc,rfl,rfl,M,ha,hb,hc,hd⟩
      walk_at "o"
    rintro c st' ⟨rfl,⟨m,o,a,b,ac,bc,rfl,r⟩ | ⟨o,a,b,ac,bc,rfl,M,ha,hb,hc⟩⟩
    · exact wpS_pure ⟨m,_,_,_,_,_,rfl,rfl,r⟩
    dsimp only
    refine wpS_bind (j9 ?_)
    refine wpS_bind (wpS_mono (wpS_forRange (I:=fun u c st'=>∃ o a b g ac bc g',c=(none,o,a,b,g,ac,bc)/\st'=xy st g'/\MLo rk xs.toList ys.toList a b o.toList/\a+1<xs.size/\b<ys.size/\t+2<=a+b/\u+1<=a+b)
      (Q:=fun c st'=>∃ g',st'=xy st g'/\((∃ m o a b g ac bc,c=(some m,o,a,b,g,ac,bc)/\jg rk xs.toList ys.toList m.toList) \/ (∃ o a b g ac bc,c=(none,o,a,b,g,ac,bc)/\MLo rk xs.toList ys.toList a b o.toList/\a+1<xs.size/\b<ys.size/\t+2<=a+b))) ?_ ?_ ⟨_,_,_,_,_,_,_,rfl,rfl,M,ha,hb,hc,by walk_at "o"⟩) ?_)
    · rintro u c st' _ hu ⟨o,a,b,g,ac,bc,g',rfl,rfl,M,ha,hb,hc,hd⟩
      clear c1 c2 M1 M0
      obtain ⟨y,ey,ly'⟩:=jh hb
      dsimp only
      revert g
      refine Fu (fun g=>?h) ?e
      case e=>exact fun _=>rfl
      refine wpS_bind (xq ?_)
      refine wpS_bind (zP ey ?_)
      refine wpS_bind (yJ (rk:=rk) hk (iy ly') ((T.px.sublist (List.drop_sublist _ _)).sublist (List.take_sublist _ _)) T.ix (by walk_at "o") (by walk_at "o") fun k k1 k2 k3=>?_)
      dsimp only
      have all:MLo rk xs.toList ys.toList a b o.toList/\a+1<xs.size/\t+2<=a+b/\u+1<=a+b/\k<=xs.size - a/\(∀ i,i<k->∃ x,xs.toList[a+i]?=some x/\byd false y x=true)/\(∀ i,k<=i->i<xs.size - a->∃ x,xs.toList[a+i]?=some x/\byd false y x=false):=⟨M,ha,hc,hd,k1,k2,k3⟩
      clear M ha hc hd k1 k2 k3
      revert all
      revert o a
      refine FG (fun o a=>o ++ xs.extract a (a+k)) (fun a=>a+k) (fun o a p _ c3=>wpS_pure ⟨_,rfl,.inl ⟨_,_,_,_,_,_,_,rfl,ls (gal p.1 ly' p.2.2.2.2.2.1) (beq_iff_eq.mp c3)⟩⟩) (fun o a p _ _ c4=>wpS_pure ⟨_,rfl,.inl ⟨_,_,_,_,_,_,_,rfl,dnx (gal p.1 ly' p.2.2.2.2.2.1) (beq_iff_eq.mp c4)⟩⟩) (fun o a o2 a2 p hj=>?hj1) ?ej1
      case ej1=>exact fun _ _=>rfl
      obtain ⟨M,ha,hc,hd,k1,k2,k3⟩:=p
      have Mg:=gal M ly' k2
      obtain ⟨M1,ea,ha2⟩:MLo rk xs.toList ys.toList a2 b o2.toList/\a2=a+k/\a2+1<xs.size:=by
        clear hc hd k2 k3 hu
        rcases hj with ⟨_,c3,c4,rfl,rfl⟩ | ⟨c3,rfl,rfl⟩
        · have c3:¬ a+k+1=xs.size:=fun z=>c3 (beq_iff_eq.mpr z)
          have c4:¬ a+k=xs.size:=fun z=>c4 (beq_iff_eq.mpr z)
          exact ⟨Mg,rfl,by walk_at "o"⟩
        · exact ⟨M,by walk_at "o",by walk_at "o"⟩
      obtain ⟨x,ex,lx'⟩:=jh (xs:=xs) (i:=a2) (by clear hj;walk_at "o")
      obtain ⟨x',lx2,k4⟩:=k3 k (Nat.le_refl _) (by clear hj;walk_at "o")
      rw [<- ea,lx'] at lx2
      cases lx2
      have k4:=KN k4
      have hc:t+2<=a2+b/\u+1<=a2+b:=by clear hj;walk_at "o"
      clear hj k2 k3 k1 ea M ha hd
      refine wpS_bind (zP ey ?_)
      have M2:=puy M1 lx' ly' k4
      by_cases c5:(b+1 == ys.size)=true
      · rw [if_pos c5];exact wpS_pure ⟨_,rfl,.inl ⟨_,_,_,_,_,_,_,rfl,dn M2 (beq_iff_eq.mp c5)⟩⟩
      rw [if_neg c5]
      have c5:b+1<ys.size:=Nat.lt_of_le_of_ne hb fun z=>c5 (beq_iff_eq.mpr z)
      refine wpS_bind (zP ex ?_)
      refine wpS_bind (yJ (rk:=rk) hk (ix lx') ((T.py.sublist (List.drop_sublist _ _)).sublist (List.take_sublist _ _)) T.iy (by walk_at "o") (by walk_at "o") fun k' k1' k2' k3'=>?_)
      dsimp only
      have all:MLo rk xs.toList ys.toList a2 (b+1) (o2.push y).toList/\b+1<ys.size/\t+2<=a2+(b+1)/\u+1<=a2+(b+1)/\k'<=ys.size - (b+1)/\(∀ i,i<k'->∃ z,ys.toList[b+1+i]?=some z/\byd true x z=true)/\(∀ i,k'<=i->i<ys.size - (b+1)->∃ z,ys.toList[b+1+i]?=some z/\byd true x z=false):=⟨M2,c5,by walk_at "o",by walk_at "o",k1',k2',k3'⟩
      clear M2 c5 k1' k2' k3' M1
      generalize o2.push y=o3 at all ⊢
      generalize b+1=b1 at all ⊢
      revert all
      revert o3 b1
      refine FJ (fun o b=>o ++ ys.extract b (b+k')) (fun b=>b+k') (fun o b p _ c6=>wpS_pure ⟨_,rfl,.inl ⟨_,_,_,_,_,_,_,rfl,dn (gal2 p.1 lx' p.2.2.2.2.2.1) (beq_iff_eq.mp c6)⟩⟩) (fun o b o4 b4 p hj=>?hj2) ?ej2
      case ej2=>exact fun _ _=>rfl
      obtain ⟨M,hb,hc,hd,k1,k2,k3⟩:=p
      have Mg:=gal2 M lx' k2
      obtain ⟨M3,eb,hb4⟩:MLo rk xs.toList ys.toList a2 b4 o4.toList/\b4=b+k'/\b4<ys.size:=by
        clear hc hd k2 k3 hu
        rcases hj with ⟨_,c3,rfl,rfl⟩ | ⟨c3,rfl,rfl⟩
        · have c3:¬ b+k'=ys.size:=fun z=>c3 (beq_iff_eq.mpr z)
          exact ⟨Mg,rfl,by walk_at "o"⟩
        · exact ⟨M,by walk_at "o",by walk_at "o"⟩
      obtain ⟨y',ly2,k5⟩:=k3 k' (Nat.le_refl _) (by clear hj;walk_at "o")
      rw [<- eb] at ly2
      have hc:t+2<=a2+b4/\u+1<=a2+b4:=by clear hj;walk_at "o"
      clear hj k2 k3 k1 eb M hb hd
      refine wpS_bind (zP ex ?_)
      have M4:=pux M3 lx' ly2 (Kh k5)
      by_cases c7:(a2+1+1 == xs.size)=true
      · rw [if_pos c7];exact wpS_pure ⟨_,rfl,.inl ⟨_,_,_,_,_,_,_,rfl,ls M4 (beq_iff_eq.mp c7)⟩⟩
      rw [if_neg c7]
      have c7:a2+1+1<xs.size:=Nat.lt_of_le_of_ne ha2 fun z=>c7 (beq_iff_eq.mpr z)
      refine qq (fun _=>?_) fun _=>?_
      · exact wpS_pure ⟨_,rfl,.inr ⟨_,_,_,_,_,_,rfl,M4,c7,hb4,by walk_at "o"⟩⟩
      · exact wpS_pure ⟨_,_,_,_,_,_,_,rfl,rfl,M4,c7,hb4,by walk_at "o",by walk_at "o"⟩
    · rintro c st' ⟨o,a,b,g,ac,bc,g',rfl,rfl,M,ha,hb,hc,hd⟩
      walk_at "o"
    rintro c st' ⟨g',rfl,⟨m,o,a,b,g,ac,bc,rfl,r⟩ | ⟨o,a,b,g,ac,bc,rfl,M,ha,hb,hc⟩⟩
    · exact wpS_pure ⟨m,_,_,_,_,_,rfl,rfl,r⟩
    · dsimp only
      refine wpS_bind (xq ?_)
      exact wpS_pure ⟨_,_,_,_,_,rfl,rfl,M,ha,hb,by walk_at "o"⟩
  · rintro c st' ⟨o,a,b,g,g',rfl,rfl,M,ha,hb,hc⟩
    walk_at "o"
  · rintro c st' ⟨m,o,a,b,g,g',rfl,rfl,r⟩
    exact wpS_pure (h m g' r)
end
end L2
namespace L2
open PySem PyProof.Rows
section
variable {rk:Keyed->Int}{X Y o:List Keyed}{a b:Nat}
structure MHi (rk:Keyed->Int)(X Y:List Keyed)(a b:Nat)(o:List Keyed):Prop where
 la:a<=X.length
 lb:b<=Y.length
 perm:o.Perm (X.drop a ++ Y.drop b)
 pw:o.Pairwise fun p q=>LEr rk q p
 lx:∀ x ∈ o,∀ y ∈ X.take a,LEr rk y x
 ly:∀ x ∈ o,∀ y ∈ Y.take b,LEr rk y x
theorem Jr {x:Keyed}(h:o.Pairwise fun p q=>LEr rk q p)(g:∀ y ∈ o,LEr rk x y):(o ++ [x]).Pairwise fun p q=>LEr rk q p:=List.pairwise_append.mpr ⟨h,List.pairwise_singleton _ _,fun y hy z hz=>by rw [List.mem_singleton.mp hz];exact g y hy⟩
theorem MHi.x (T:jZ rk X Y)(h:MHi rk X Y (a+1) (b+1) o){x y:Keyed}(hx:X[a]?=some x)(hy:Y[b]?=some y)(c:kn y<kn x):MHi rk X Y a (b+1) (o ++ [x]):=by
 obtain ⟨hl,e⟩:=List.getElem?_eq_some_iff.mp hx
 have hd:X.drop a=x :: X.drop (a+1):=by rw [List.drop_eq_getElem_cons hl,e]
 have ht:X.take (a+1)=X.take a ++ [x]:=by rw [List.take_succ_eq_append_getElem hl,e]
 refine ⟨by walk_at "o",h.lb,?_,Jr h.pw fun z hz=>h.lx z hz x (by rw [ht];exact List.mem_append_right _ (List.mem_singleton.mpr rfl)),fun z hz y' hy'=>?_,fun z hz y' hy'=>?_⟩
 ·rw [hd]
  refine (h.perm.append_right [x]).trans ?_
  exact List.perm_append_comm
 ·rcases List.mem_append.mp hz with hz | hz
  ·exact h.lx z hz y' (by rw [ht];exact List.mem_append_left _ hy')
  ·rw [List.mem_singleton.mp hz];exact xf T.px hx y' (by rw [ht];exact List.mem_append_left _ hy')
 ·rcases List.mem_append.mp hz with hz | hz
  ·exact h.ly z hz y' hy'
  ·rw [List.mem_singleton.mp hz]
   have:=(xf T.py hy y' hy').kn
   exact .inl (by walk_at "o")
theorem MHi.y (T:jZ rk X Y)(h:MHi rk X Y (a+1) (b+1) o){x y:Keyed}(hx:X[a]?=some x)(hy:Y[b]?=some y)(c:kn x<=kn y):MHi rk X Y (a+1) b (o ++ [y]):=by
 obtain ⟨hl,e⟩:=List.getElem?_eq_some_iff.mp hy
 have hd:Y.drop b=y :: Y.drop (b+1):=by rw [List.drop_eq_getElem_cons hl,e]
 have ht:Y.take (b+1)=Y.take b ++ [y]:=by rw [List.take_succ_eq_append_getElem hl,e]
 refine ⟨h.la,by walk_at "o",?_,Jr h.pw fun z hz=>h.ly z hz y (by rw [ht];exact List.mem_append_right _ (List.mem_singleton.mpr rfl)),fun z hz y' hy'=>?_,fun z hz y' hy'=>?_⟩
 ·rw [hd]
  refine (h.perm.append_right [y]).trans ?_
  rw [List.append_assoc]
  exact List.Perm.append_left _ List.perm_append_comm
 ·rcases List.mem_append.mp hz with hz | hz
  ·exact h.lx z hz y' hy'
  ·rw [List.mem_singleton.mp hz]
   have:=(xf T.px hx y' hy').kn
   exact LEr.of (by walk_at "o") (T.bel _ (List.mem_of_mem_take hy') _ (List.mem_of_getElem? hy))
 ·rcases List.mem_append.mp hz with hz | hz
  ·exact h.ly z hz y' (by rw [ht];exact List.mem_append_left _ hy')
  ·rw [List.mem_singleton.mp hz];exact xf T.py hy y' (by rw [ht];exact List.mem_append_left _ hy')
theorem JY {X:List Keyed}{a k:Nat}{x:Keyed}(h:X[a+k]?=some x):((X.drop a).take (k+1)).reverse=[x] ++ ((X.drop a).take k).reverse:=by
 obtain ⟨hl,e⟩:=List.getElem?_eq_some_iff.mp h
 rw [List.take_succ_eq_append_getElem (by rw [List.length_drop];walk_at "o"),List.getElem_drop,e,List.reverse_append];rfl
theorem MHi.xs (T:jZ rk X Y){y:Keyed}(hy:Y[b]?=some y):∀ k {o},MHi rk X Y (a+k) (b+1) o->(∀ i,i<k->∃ x,X[a+i]?=some x/\kn y<kn x)->MHi rk X Y a (b+1) (o ++ ((X.drop a).take k).reverse)
 | 0,o,h,_=>by rw [List.take_zero,List.reverse_nil,List.append_nil];exact h
 | k+1,o,h,g=>by
  obtain ⟨x,h1,h2⟩:=g k (by walk_at "o")
  rw [JY h1,<- List.append_assoc]
  exact MHi.xs T hy k (MHi.x T h h1 hy h2) fun i hi=>g i (by walk_at "o")
theorem MHi.ys (T:jZ rk X Y){x:Keyed}(hx:X[a]?=some x):∀ k {o},MHi rk X Y (a+1) (b+k) o->(∀ i,i<k->∃ y,Y[b+i]?=some y/\kn x<=kn y)->MHi rk X Y (a+1) b (o ++ ((Y.drop b).take k).reverse)
 | 0,o,h,_=>by rw [List.take_zero,List.reverse_nil,List.append_nil];exact h
 | k+1,o,h,g=>by
  obtain ⟨y,h1,h2⟩:=g k (by walk_at "o")
  rw [JY h1,<- List.append_assoc]
  exact MHi.ys T hx k (MHi.y T h hx h1 h2) fun i hi=>g i (by walk_at "o")
theorem Xv (h:o.Pairwise fun p q=>LEr rk q p):o.reverse.Pairwise (LEr rk):=List.pairwise_reverse.mpr h
theorem MHi.doneX (T:jZ rk X Y)(h:MHi rk X Y 0 b o):jg rk X Y (X.take 0 ++ Y.take b ++ o.reverse):=by
 rw [List.take_zero,List.nil_append]
 refine ⟨?_,List.pairwise_append.mpr ⟨T.py.sublist (List.take_sublist _ _),Xv h.pw,fun x hx y hy=>h.ly y (List.mem_reverse.mp hy) x hx⟩⟩
 refine (List.Perm.append_left _ ((List.reverse_perm o).trans h.perm)).trans ?_
 rw [List.drop_zero,<- List.append_assoc]
 refine (List.perm_append_comm.append_right _).trans ?_
 rw [List.append_assoc,List.take_append_drop]
theorem MHi.doneY (T:jZ rk X Y)(h:MHi rk X Y a 0 o):jg rk X Y (X.take a ++ Y.take 0 ++ o.reverse):=by
 rw [List.take_zero,List.append_nil]
 refine ⟨?_,List.pairwise_append.mpr ⟨T.px.sublist (List.take_sublist _ _),Xv h.pw,fun x hx y hy=>h.lx y (List.mem_reverse.mp hy) x hx⟩⟩
 refine (List.Perm.append_left _ ((List.reverse_perm o).trans h.perm)).trans ?_
 rw [List.drop_zero,<- List.append_assoc,List.take_append_drop]
theorem MHi.first (T:jZ rk X Y)(h:MHi rk X Y a 1 o)(g:∀ y,Y[0]?=some y->∀ x ∈ X,kn y<kn x):jg rk X Y (Y.take 1 ++ X.take a ++ o.reverse):=by
 have hl:=h.lb
 refine ⟨?_,?_⟩
 ·refine (List.Perm.append_left _ ((List.reverse_perm o).trans h.perm)).trans ?_
  rw [List.append_assoc,<- List.append_assoc (X.take a),List.take_append_drop]
  refine List.perm_append_comm.trans ?_
  rw [List.append_assoc]
  refine List.Perm.append_left _ (List.perm_append_comm.trans ?_)
  rw [List.take_append_drop]
 ·refine List.pairwise_append.mpr ⟨List.pairwise_append.mpr ⟨T.py.sublist (List.take_sublist _ _),T.px.sublist (List.take_sublist _ _),fun y hy x hx=>?_⟩,Xv h.pw,fun x hx y hy=>?_⟩
  ·have e:Y[0]?=some (Y[0]'hl):=List.getElem?_eq_getElem hl
   rw [List.take_succ_eq_append_getElem hl,List.take_zero,List.nil_append] at hy
   rw [List.mem_singleton.mp hy]
   exact .inl (g _ e x (List.mem_of_mem_take hx))
  ·rcases List.mem_append.mp hx with hx | hx
   ·exact h.ly y (List.mem_reverse.mp hy) x hx
   ·exact h.lx y (List.mem_reverse.mp hy) x hx
end
noncomputable def QM:Array Keyed->Array Keyed->StateT SortSt Sem (Array Keyed):=sortPriv% PySem.Builtin.mergeHi
local macro_rules | `(tactic| walk_at "unM")=>do
 let n:=Lean.mkIdent (Lean.mkPrivateNameCore `PySem.Builtin.List.W1All `PySem.Builtin.mergeHi)
 `(tactic| unfold $n)
section
variable {prog:Program}{w:World}{A:Around}{E:Value->Shared->Prop}{s:Shared}{rk:Keyed->Int}
theorem xu (xs:Array Keyed)(i:Nat):(xs.extract 0 i).toList=xs.toList.take i:=by
 rw [Array.toList_extract,List.extract_eq_take_drop,List.drop_zero,Nat.sub_zero]
theorem YR (xs:Array Keyed){i j:Nat}(h:i<=j):(xs.extract i j).reverse.toList=((xs.toList.drop i).take (j - i)).reverse:=by
 rw [Array.toList_reverse,Array.toList_extract,List.extract_eq_take_drop]
theorem Kk {st:SortSt}{xs ys:Array Keyed}{Q:Array Keyed->SortSt->Prop}(hk:kindOf st=oneType')(T:jZ rk xs.toList ys.toList)(hx:0<xs.size)(hy:0<ys.size)(h0:∀ y,ys.toList[0]?=some y->∀ x ∈ xs.toList,kn y<kn x)(hl:∀ x,xs.toList[xs.size - 1]?=some x->∀ y ∈ ys.toList,kn y<kn x)
  (h:∀ m g,jg rk xs.toList ys.toList m.toList->Q m (xy st g)):wpS (model prog w) A E s (QM xs ys) Q st:=by
 unfold QM
 walk_at "unM"
 have lx:xs.toList.length=xs.size:=Array.length_toList
 have ly:ys.toList.length=ys.size:=Array.length_toList
 have dn:∀ {o:Array Keyed} {a b},MHi rk xs.toList ys.toList a b o.toList->a=0->jg rk xs.toList ys.toList (xs.extract 0 a ++ ys.extract 0 b ++ o.reverse).toList:=fun {o a b} M e=>by
  rw [Array.toList_append,Array.toList_append,xu,xu,Array.toList_reverse]
  subst e;exact M.doneX T
 have dny:∀ {o:Array Keyed} {a b},MHi rk xs.toList ys.toList a b o.toList->b=0->jg rk xs.toList ys.toList (xs.extract 0 a ++ ys.extract 0 b ++ o.reverse).toList:=fun {o a b} M e=>by
  rw [Array.toList_append,Array.toList_append,xu,xu,Array.toList_reverse]
  subst e;exact M.doneY T
 have ls:∀ {o:Array Keyed} {a b},MHi rk xs.toList ys.toList a b o.toList->b=1->jg rk xs.toList ys.toList (ys.extract 0 b ++ xs.extract 0 a ++ o.reverse).toList:=fun {o a b} M e=>by
  rw [Array.toList_append,Array.toList_append,xu,xu,Array.toList_reverse]
  subst e;exact M.first T h0
 have ix:∀ {a x},xs.toList[a]?=some x->IsI x:=fun e=>T.ix _ (List.mem_of_getElem? e)
 have iy:∀ {a x},ys.toList[a]?=some x->IsI x:=fun e=>T.iy _ (List.mem_of_getElem? e)
 have gal:∀ {a b} {o:Array Keyed} {k:Nat} {y:Keyed},MHi rk xs.toList ys.toList a b o.toList->1<=b->ys.toList[b - 1]?=some y->k<=a->(∀ i,k<=i->i<a->∃ x,xs.toList[0+i]?=some x/\byd false y x=false)->MHi rk xs.toList ys.toList k b (o ++ (xs.extract k a).reverse).toList:=fun {a b o k y} M hb e hka g=>by
  rw [Array.toList_append,YR _ hka]
  obtain ⟨b,rfl⟩:∃ b',b=b'+1:=⟨b - 1,by walk_at "o"⟩
  exact MHi.xs T e (a - k) (by rw [show k+(a - k)=a by walk_at "o"];exact M) fun i hi=>by obtain ⟨x,h1,h2⟩:=g (k+i) (by walk_at "o") (by walk_at "o");rw [Nat.zero_add] at h1;exact ⟨x,h1,KN h2⟩
 have gal2:∀ {a b} {o:Array Keyed} {k:Nat} {x:Keyed},MHi rk xs.toList ys.toList a b o.toList->1<=a->xs.toList[a - 1]?=some x->k<=b->(∀ i,k<=i->i<b->∃ y,ys.toList[0+i]?=some y/\byd true x y=false)->MHi rk xs.toList ys.toList a k (o ++ (ys.extract k b).reverse).toList:=fun {a b o k y} M hb e hka g=>by
  rw [Array.toList_append,YR _ hka]
  obtain ⟨a,rfl⟩:∃ b',a=b'+1:=⟨a - 1,by walk_at "o"⟩
  exact MHi.ys T e (b - k) (by rw [show k+(b - k)=b by walk_at "o"];exact M) fun i hi=>by obtain ⟨x,h1,h2⟩:=g (k+i) (by walk_at "o") (by walk_at "o");rw [Nat.zero_add] at h1;exact ⟨x,h1,Kh h2⟩
 have pux:∀ {a b} {o:Array Keyed} {x y:Keyed},MHi rk xs.toList ys.toList a b o.toList->1<=a->1<=b->xs.toList[a - 1]?=some x->ys.toList[b - 1]?=some y->kn y<kn x->MHi rk xs.toList ys.toList (a - 1) b (o.push x).toList:=fun {a b o x y} M ha hb h1 h2 h3=>by
  rw [Array.toList_push]
  obtain ⟨a,rfl⟩:∃ b',a=b'+1:=⟨a - 1,by walk_at "o"⟩
  obtain ⟨b,rfl⟩:∃ b',b=b'+1:=⟨b - 1,by walk_at "o"⟩
  exact M.x T h1 h2 h3
 have puy:∀ {a b} {o:Array Keyed} {x y:Keyed},MHi rk xs.toList ys.toList a b o.toList->1<=a->1<=b->xs.toList[a - 1]?=some x->ys.toList[b - 1]?=some y->kn x<=kn y->MHi rk xs.toList ys.toList a (b - 1) (o.push y).toList:=fun {a b o x y} M ha hb h1 h2 h3=>by
  rw [Array.toList_push]
  obtain ⟨a,rfl⟩:∃ b',a=b'+1:=⟨a - 1,by walk_at "o"⟩
  obtain ⟨b,rfl⟩:∃ b',b=b'+1:=⟨b - 1,by walk_at "o"⟩
  exact M.y T h1 h2 h3
 obtain ⟨x0,ex0,lx0⟩:=jh (xs:=xs) (i:=xs.size - 1) (by walk_at "o")
 obtain ⟨y0,ey0,ly0⟩:=jh (xs:=ys) (i:=ys.size - 1) (by walk_at "o")
 have M0:MHi rk xs.toList ys.toList xs.size ys.size (#[]:Array Keyed).toList:=⟨Nat.le_of_eq lx.symm,Nat.le_of_eq ly.symm,by rw [<- lx,<- ly,List.drop_length,List.drop_length];exact List.Perm.refl _,List.Pairwise.nil,fun x hx=>(nomatch hx),fun x hx=>(nomatch hx)⟩
 have M1:MHi rk xs.toList ys.toList (xs.size - 1) ys.size (#[x0]:Array Keyed).toList:=pux M0 hx hy lx0 ly0 (hl _ lx0 _ (List.mem_of_getElem? ly0))
 refine wpS_bind (j9 ?_)
 dsimp only
 refine wpS_bind (zP ex0 ?_)
 by_cases c1:(xs.size - 1 == 0)=true
 ·rw [if_pos c1]
  exact wpS_pure (h _ (gallopOf st) (dn M1 (by simpa using c1)))
 rw [if_neg c1]
 by_cases c2:(ys.size == 1)=true
 ·rw [if_pos c2]
  exact wpS_pure (h _ (gallopOf st) (ls M1 (by simpa using c2)))
 rw [if_neg c2]
 have c1:¬ xs.size - 1=0:=fun z=>c1 (beq_iff_eq.mpr z)
 have c2:¬ ys.size=1:=fun z=>c2 (beq_iff_eq.mpr z)
 refine wpS_bind (wpS_get ?_)
 refine wpS_bind (wpS_mono (wpS_forRange (I:=fun t c st'=>∃ o a b g g',c=(none,a,b,o,g)/\st'=xy st g'/\MHi rk xs.toList ys.toList a b o.toList/\0<a/\1<b/\t+1+a+b<=xs.size+ys.size)
  (Q:=fun c st'=>∃ m o a b g g',c=(some m,a,b,o,g)/\st'=xy st g'/\jg rk xs.toList ys.toList m.toList) ?_ ?_ ⟨_,_,_,_,gallopOf st,rfl,rfl,M1,by walk_at "o",by walk_at "o",by walk_at "o"⟩) ?_)
 ·rintro t c st' _ ht ⟨o,a,b,g,g',rfl,rfl,M,ha,hb,hc⟩
  dsimp only
  refine wpS_bind (wpS_mono (wpS_forRange (I:=fun u c st'=>∃ o a b ac bc,c=(none,a,b,o,ac,bc)/\st'=xy st g'/\MHi rk xs.toList ys.toList a b o.toList/\0<a/\1<b/\t+1+a+b<=xs.size+ys.size/\u+1+a+b<=xs.size+ys.size)
   (Q:=fun c st'=>st'=xy st g'/\((∃ m o a b ac bc,c=(some m,a,b,o,ac,bc)/\jg rk xs.toList ys.toList m.toList) \/ (∃ o a b ac bc,c=(none,a,b,o,ac,bc)/\MHi rk xs.toList ys.toList a b o.toList/\0<a/\1<b/\t+2+a+b<=xs.size+ys.size))) ?_ ?_ ⟨_,_,_,_,_,rfl,rfl,M,ha,hb,hc,by walk_at "o"⟩) ?_)
  ·rintro u c st' _ hu ⟨o,a,b,ac,bc,rfl,rfl,M,ha,hb,hc,hd⟩
   have ma:=M.la
   have mb:=M.lb
   obtain ⟨x,ex,lx'⟩:=jh (xs:=xs) (i:=a - 1) (by walk_at "o")
   obtain ⟨y,ey,ly'⟩:=jh (xs:=ys) (i:=b - 1) (by walk_at "o")
   dsimp only
   refine wpS_bind (zP ey (wpS_bind (zP ex (wpS_bind (Jl hk (iy ly') (ix lx') ?_)))))
   by_cases c:kn y<kn x
   ·rw [decide_eq_true c]
    dsimp only
    rw [if_pos rfl]
    refine wpS_bind (zP ex ?_)
    have M':=pux M (by walk_at "o") (by walk_at "o") lx' ly' c
    by_cases c3:(a - 1 == 0)=true
    ·rw [if_pos c3];exact wpS_pure ⟨rfl,.inl ⟨_,_,_,_,_,_,rfl,dn M' (by simpa using c3)⟩⟩
    rw [if_neg c3]
    have c3:¬ a - 1=0:=fun z=>c3 (beq_iff_eq.mpr z)
    refine qq (fun _=>?_) fun _=>?_
    ·exact wpS_pure ⟨rfl,.inr ⟨_,_,_,_,_,rfl,M',by walk_at "o",by walk_at "o",by walk_at "o"⟩⟩
    ·exact wpS_pure ⟨_,_,_,_,_,rfl,rfl,M',by walk_at "o",by walk_at "o",by walk_at "o",by walk_at "o"⟩
   ·rw [decide_eq_false c]
    dsimp only
    rw [if_neg (by decide)]
    refine wpS_bind (zP ey ?_)
    have M':=puy M (by walk_at "o") (by walk_at "o") lx' ly' (by walk_at "o")
    by_cases c3:(b - 1 == 1)=true
    ·rw [if_pos c3];exact wpS_pure ⟨rfl,.inl ⟨_,_,_,_,_,_,rfl,ls M' (by simpa using c3)⟩⟩
    rw [if_neg c3]
    have c3:¬ b - 1=1:=fun z=>c3 (beq_iff_eq.mpr z)
    refine qq (fun _=>?_) fun _=>?_
    ·exact wpS_pure ⟨rfl,.inr ⟨_,_,_,_,_,rfl,M',by walk_at "o",by walk_at "o",by walk_at "o"⟩⟩
    ·exact wpS_pure ⟨_,_,_,_,_,rfl,rfl,M',by walk_at "o",by walk_at "o",by walk_at "o",by walk_at "o"⟩
  ·rintro c st' ⟨o,a,b,ac,bc,rfl,rfl,M,ha,hb,hc,hd⟩
   walk_at "o"
  rintro c st' ⟨rfl,⟨m,o,a,b,ac,bc,rfl,r⟩ | ⟨o,a,b,ac,bc,rfl,M,ha,hb,hc⟩⟩
  ·exact wpS_pure ⟨m,_,_,_,_,_,rfl,rfl,r⟩
  dsimp only
  refine wpS_bind (j9 ?_)
  refine wpS_bind (wpS_mono (wpS_forRange (I:=fun u c st'=>∃ o a b g ac bc g',c=(none,a,b,o,g,ac,bc)/\st'=xy st g'/\MHi rk xs.toList ys.toList a b o.toList/\0<a/\1<b/\t+2+a+b<=xs.size+ys.size/\u+1+a+b<=xs.size+ys.size)
   (Q:=fun c st'=>∃ g',st'=xy st g'/\((∃ m o a b g ac bc,c=(some m,a,b,o,g,ac,bc)/\jg rk xs.toList ys.toList m.toList) \/ (∃ o a b g ac bc,c=(none,a,b,o,g,ac,bc)/\MHi rk xs.toList ys.toList a b o.toList/\0<a/\1<b/\t+2+a+b<=xs.size+ys.size))) ?_ ?_ ⟨_,_,_,_,_,_,_,rfl,rfl,M,ha,hb,hc,by walk_at "o"⟩) ?_)
  ·rintro u c st' _ hu ⟨o,a,b,g,ac,bc,g',rfl,rfl,M,ha,hb,hc,hd⟩
   clear c1 c2 M1 M0
   have ma:=M.la
   have mb:=M.lb
   obtain ⟨y,ey,ly'⟩:=jh (xs:=ys) (i:=b - 1) (by walk_at "o")
   dsimp only
   revert g
   refine Fu (fun g=>?h) ?e
   case e=>exact fun _=>rfl
   refine wpS_bind (xq ?_)
   refine wpS_bind (zP ey ?_)
   refine wpS_bind (yJ (rk:=rk) hk (iy ly') (T.px.sublist ((List.take_sublist _ _).trans (List.drop_sublist _ _))) T.ix (by walk_at "o") (by walk_at "o") fun k k1 k2 k3=>?_)
   dsimp only
   generalize hac:a - k=ac2
   have all:MHi rk xs.toList ys.toList a b o.toList/\0<a/\t+2+a+b<=xs.size+ys.size/\u+1+a+b<=xs.size+ys.size/\k<=a/\a<=xs.size/\(∀ i,i<k->∃ x,xs.toList[0+i]?=some x/\byd false y x=true)/\(∀ i,k<=i->i<a->∃ x,xs.toList[0+i]?=some x/\byd false y x=false)/\a - k=ac2:=⟨M,ha,hc,hd,k1,lx ▸ ma,k2,k3,hac⟩
   clear M ha hc hd k1 k2 k3 hac ma
   revert all
   revert o a
   refine FJ (fun o a=>o ++ (xs.extract k a).reverse) (fun _=>k) (fun o a p _ c4=>wpS_pure ⟨_,rfl,.inl ⟨_,_,_,_,_,_,_,rfl,dn (gal p.1 (Nat.le_of_lt hb) ly' p.2.2.2.2.1 p.2.2.2.2.2.2.2.1) (beq_iff_eq.mp c4)⟩⟩) (fun o a o2 a2 p hj=>?hj1) ?ej1
   case ej1=>exact fun _ _=>rfl
   obtain ⟨M,ha,hc,hd,k1,ax,k2,k3,hac⟩:=p
   have Mg:=gal M (Nat.le_of_lt hb) ly' k1 k3
   obtain ⟨M1,ea,ha2⟩:MHi rk xs.toList ys.toList a2 b o2.toList/\a2=k/\0<a2:=by
    clear hc hd k2 k3 hu
    rcases hj with ⟨_,c4,rfl,rfl⟩ | ⟨c3,rfl,rfl⟩
    ·have c4:¬ a2=0:=fun z=>c4 (beq_iff_eq.mpr z)
     exact ⟨Mg,rfl,by walk_at "o"⟩
    ·exact ⟨M,by walk_at "o",ha⟩
   have hc:t+2+a2+b<=xs.size+ys.size/\u+1+a2+b<=xs.size+ys.size/\a2<=xs.size:=by clear hj;walk_at "o"
   subst ea
   obtain ⟨x,ex,lx'⟩:=jh (xs:=xs) (i:=a2 - 1) (by clear hj;walk_at "o")
   obtain ⟨x',lx2,k4⟩:=k2 (a2 - 1) (by clear hj;walk_at "o")
   rw [Nat.zero_add,lx'] at lx2
   cases lx2
   clear hj k2 k3 k1 M Mg ha hd hac ax
   refine wpS_bind (zP ey ?_)
   have M2:=puy M1 ha2 (Nat.le_of_lt hb) lx' ly' (AZ k4)
   by_cases c5:(b - 1 == 1)=true
   ·rw [if_pos c5];exact wpS_pure ⟨_,rfl,.inl ⟨_,_,_,_,_,_,_,rfl,ls M2 (beq_iff_eq.mp c5)⟩⟩
   rw [if_neg c5]
   have c5:¬ b - 1=1:=fun z=>c5 (beq_iff_eq.mpr z)
   refine wpS_bind (zP ex ?_)
   refine wpS_bind (yJ (rk:=rk) hk (ix lx') (T.py.sublist ((List.take_sublist _ _).trans (List.drop_sublist _ _))) T.iy (by walk_at "o") (by walk_at "o") fun k' k1' k2' k3'=>?_)
   dsimp only
   generalize hbc:b - 1 - k'=bc2
   have all:MHi rk xs.toList ys.toList a2 (b - 1) (o2.push y).toList/\1<b - 1/\t+2+a2+(b - 1)<=xs.size+ys.size/\u+2+a2+(b - 1)<=xs.size+ys.size/\k'<=b - 1/\(∀ i,i<k'->∃ z,ys.toList[0+i]?=some z/\byd true x z=true)/\(∀ i,k'<=i->i<b - 1->∃ z,ys.toList[0+i]?=some z/\byd true x z=false)/\b - 1 - k'=bc2:=⟨M2,by walk_at "o",by walk_at "o",by walk_at "o",k1',k2',k3',hbc⟩
   clear M2 c5 k1' k2' k3' M1 hbc
   generalize o2.push y=o3 at all ⊢
   generalize b - 1=b1 at all ⊢
   revert all
   revert o3 b1
   refine FG (fun o b=>o ++ (ys.extract k' b).reverse) (fun _=>k') (fun o b p _ c6=>wpS_pure ⟨_,rfl,.inl ⟨_,_,_,_,_,_,_,rfl,ls (gal2 p.1 ha2 lx' p.2.2.2.2.1 p.2.2.2.2.2.2.1) (beq_iff_eq.mp c6)⟩⟩) (fun o b p _ _ c8=>wpS_pure ⟨_,rfl,.inl ⟨_,_,_,_,_,_,_,rfl,dny (gal2 p.1 ha2 lx' p.2.2.2.2.1 p.2.2.2.2.2.2.1) (beq_iff_eq.mp c8)⟩⟩) (fun o b o4 b4 p hj=>?hj2) ?ej2
   case ej2=>exact fun _ _=>rfl
   obtain ⟨M,hb1,hc1,hd1,k1,k2,k3,hbc⟩:=p
   have Mg:=gal2 M ha2 lx' k1 k3
   obtain ⟨M3,eb,hb4⟩:MHi rk xs.toList ys.toList a2 b4 o4.toList/\b4=k'/\1<b4:=by
    clear hc hc1 hd1 k2 k3 hu
    rcases hj with ⟨_,c6,c8,rfl,rfl⟩ | ⟨c3,rfl,rfl⟩
    ·have c6:¬ b4=1:=fun z=>c6 (beq_iff_eq.mpr z)
     have c8:¬ b4=0:=fun z=>c8 (beq_iff_eq.mpr z)
     exact ⟨Mg,rfl,by walk_at "o"⟩
    ·exact ⟨M,by walk_at "o",hb1⟩
   subst eb
   obtain ⟨y',ly2,k5⟩:=k2 (b4 - 1) (by clear hj;walk_at "o")
   rw [Nat.zero_add] at ly2
   have hc:t+2+a2+b4<=xs.size+ys.size/\u+2+a2+b4<=xs.size+ys.size:=by clear hj;walk_at "o"
   clear hj k2 k3 k1 M Mg hb1 hc1 hd1 hbc
   refine wpS_bind (zP ex ?_)
   have M4:=pux M3 ha2 (Nat.le_of_lt hb4) lx' ly2 (A3 k5)
   by_cases c7:(a2 - 1 == 0)=true
   ·rw [if_pos c7];exact wpS_pure ⟨_,rfl,.inl ⟨_,_,_,_,_,_,_,rfl,dn M4 (beq_iff_eq.mp c7)⟩⟩
   rw [if_neg c7]
   have c7:¬ a2 - 1=0:=fun z=>c7 (beq_iff_eq.mpr z)
   refine qq (fun _=>?_) fun _=>?_
   ·exact wpS_pure ⟨_,rfl,.inr ⟨_,_,_,_,_,_,rfl,M4,by walk_at "o",hb4,by walk_at "o"⟩⟩
   ·exact wpS_pure ⟨_,_,_,_,_,_,_,rfl,rfl,M4,by walk_at "o",hb4,by walk_at "o",by walk_at "o"⟩
  ·rintro c st' ⟨o,a,b,g,ac,bc,g',rfl,rfl,M,ha,hb,hc,hd⟩
   walk_at "o"
  rintro c st' ⟨g',rfl,⟨m,o,a,b,g,ac,bc,rfl,r⟩ | ⟨o,a,b,g,ac,bc,rfl,M,ha,hb,hc⟩⟩
  ·exact wpS_pure ⟨m,_,_,_,_,_,rfl,rfl,r⟩
  ·dsimp only
   refine wpS_bind (xq ?_)
   exact wpS_pure ⟨_,_,_,_,_,rfl,rfl,M,ha,hb,by walk_at "o"⟩
 ·rintro c st' ⟨o,a,b,g,g',rfl,rfl,M,ha,hb,hc⟩
  walk_at "o"
 ·rintro c st' ⟨m,o,a,b,g,g',rfl,rfl,r⟩
  exact wpS_pure (h m g' r)
end
end L2
namespace L2
open PySem PyProof.Rows
noncomputable def gK (xs:Array Keyed)(i:Nat):Keyed:=xs[i]?.getD (.none,.none)
theorem kU {xs ys:Array Keyed}{i j:Nat}(h:xs[i]?=ys[j]?):gK xs i=gK ys j:=by unfold gK;rw [h]
theorem IV {xs:Array Keyed}{i:Nat}(h:i<xs.size):xs[i]?=some (gK xs i):=by unfold gK;rw [Array.getElem?_eq_getElem h];rfl
structure Sg (xs ys:Array Keyed)(lo hi:Nat):Prop where
 perm:ys.Perm xs
 out:∀ i,i<lo \/ hi<=i->ys[i]?=xs[i]?
 inn:∀ i,lo<=i->i<hi->∃ j,lo<=j/\j<hi/\ys[i]?=xs[j]?
theorem Sg.size {xs ys:Array Keyed}{lo hi:Nat}(h:Sg xs ys lo hi):ys.size=xs.size:=h.perm.size_eq
theorem Sg.refl (xs:Array Keyed)(lo hi:Nat):Sg xs xs lo hi:=⟨Array.Perm.refl _,fun _ _=>rfl,fun i h1 h2=>⟨i,h1,h2,rfl⟩⟩
theorem Sg.trans {xs ys zs:Array Keyed}{lo hi:Nat}(h:Sg xs ys lo hi)(g:Sg ys zs lo hi):Sg xs zs lo hi:=
 ⟨g.perm.trans h.perm,fun i c=>(g.out i c).trans (h.out i c),fun i h1 h2=>by
  obtain ⟨j,j1,j2,e⟩:=g.inn i h1 h2
  obtain ⟨k,k1,k2,e'⟩:=h.inn j j1 j2
  exact ⟨k,k1,k2,e.trans e'⟩⟩
theorem Sg.mono {xs ys:Array Keyed}{lo hi lo' hi':Nat}(h:Sg xs ys lo hi)(h1:lo'<=lo)(h2:hi<=hi'):Sg xs ys lo' hi':=
 ⟨h.perm,fun i c=>h.out i (by walk_at "o"),fun i c1 c2=>by
  by_cases c:lo<=i/\i<hi
  ·obtain ⟨j,j1,j2,e⟩:=h.inn i c.1 c.2
   exact ⟨j,by walk_at "o",by walk_at "o",e⟩
  ·exact ⟨i,c1,c2,h.out i (by walk_at "o")⟩⟩
theorem qB {xs:Array Keyed}{i j:Nat}(hj:j<=xs.size):Sg xs (mirror xs i j ((j - i) / 2)) i j:=
 ⟨mirror_perm _ _ _ _,fun k c=>by rw [getElem?_mirror_all hj,if_neg (by walk_at "o")],fun k h1 h2=>⟨i+j - 1 - k,by walk_at "o",by walk_at "o",by rw [getElem?_mirror_all hj,if_pos ⟨h1,h2⟩]⟩⟩
theorem ql {xs:Array Keyed}{i j:Nat}(hj:j<=xs.size)(k:Nat):gK (mirror xs i j ((j - i) / 2)) k=if i<=k/\k<j then gK xs (i+j - 1 - k) else gK xs k:=by
 have e:=getElem?_mirror_all (i:=i) hj k
 by_cases h1:i<=k/\k<j
 ·rw [if_pos h1] at e ⊢;exact kU e
 ·rw [if_neg h1] at e ⊢;exact kU e
theorem VA {xs:Array Keyed}{src d:Nat}(hs:src<xs.size)(hd:d<=src)(k:Nat):gK (bubble xs src d) k=if k=src - d then gK xs src else if src - d<k/\k<=src then gK xs (k - 1) else gK xs k:=by
 have e:=getElem?_bubble hs d hd k
 by_cases h1:k=src - d
 ·rw [if_pos h1] at e ⊢;exact kU e
 ·rw [if_neg h1] at e ⊢
  by_cases h2:src - d<k/\k<=src
  ·rw [if_pos h2] at e ⊢;exact kU e
  ·rw [if_neg h2] at e ⊢;exact kU e
theorem VM {xs:Array Keyed}{src d:Nat}(hs:src<xs.size)(hd:d<=src):Sg xs (bubble xs src d) (src - d) (src+1):=
 ⟨bubble_perm _ _ _,fun k c=>by rw [getElem?_bubble hs d hd,if_neg (by walk_at "o"),if_neg (by walk_at "o")],fun k h1 h2=>by
  rw [getElem?_bubble hs d hd]
  by_cases c:k=src - d
  ·rw [if_pos c];exact ⟨src,by walk_at "o",by walk_at "o",rfl⟩
  ·rw [if_neg c,if_pos (by walk_at "o")];exact ⟨k - 1,by walk_at "o",by walk_at "o",rfl⟩⟩
structure SoB (a₀:Array Keyed)(st:SortSt):Prop where
 perm:(arrOf st).Perm a₀
 kind:kindOf st=oneType'
 failed:failedOf st=none
theorem SoB.size {a₀:Array Keyed}{st:SortSt}(h:SoB a₀ st):(arrOf st).size=a₀.size:=h.perm.size_eq
theorem SoB.set {a₀:Array Keyed}{st:SortSt}(h:SoB a₀ st){xs:Array Keyed}(hp:xs.Perm (arrOf st)):SoB a₀ (setArr st xs):=⟨hp.trans h.perm,h.kind,h.failed⟩
noncomputable def Kr (a₀:Array Keyed):Prop:=∀ p ∈ a₀.toList,IsI p
theorem SoB.ints {a₀:Array Keyed}{st:SortSt}(h:SoB a₀ st)(h0:Kr a₀):∀ p ∈ (arrOf st).toList,IsI p:=fun p hp=>h0 p ((Array.perm_iff_toList_perm.mp h.perm).mem_iff.mp hp)
theorem SoB.int {a₀:Array Keyed}{st:SortSt}(h:SoB a₀ st)(h0:Kr a₀){i:Nat}(hi:i<a₀.size):(arrOf st)[i]?=some (gK (arrOf st) i)/\IsI (gK (arrOf st) i):=by
 have e:=IV (xs:=arrOf st) (i:=i) (by rw [h.size];exact hi)
 refine ⟨e,h.ints h0 _ (List.mem_of_getElem? (i:=i) ?_)⟩
 rw [Array.getElem?_toList];exact e
section
variable {prog:Program}{w:World}{A:Around}{E:Value->Shared->Prop}{s:Shared}{a₀:Array Keyed}{rk:Keyed->Int}
theorem YG {st:SortSt}{i j:Nat}{Q:Option Bool->SortSt->Prop}(hB:SoB a₀ st)(h0:Kr a₀)(hi:i<a₀.size)(hj:j<a₀.size)(h:Q (some (decide (kn (gK (arrOf st) i)<kn (gK (arrOf st) j)))) st):wpS (model prog w) A E s (ltAt' i j) Q st:=by
 rw [ltAt'_eq]
 refine wpS_bind (wpS_get ?_)
 obtain ⟨e1,i1⟩:=hB.int h0 hi
 obtain ⟨e2,i2⟩:=hB.int h0 hj
 exact wpS_bind (zP e1 (wpS_bind (zP e2 (Jl hB.kind i1 i2 h))))
noncomputable def Srt (rk:Keyed->Int)(xs:Array Keyed)(lo hi:Nat):Prop:=∀ i j,lo<=i->i<=j->j<hi->LEr rk (gK xs i) (gK xs j)
noncomputable def Asc (rk:Keyed->Int)(xs:Array Keyed)(lo:Nat):Prop:=∀ i j,lo<=i->i<=j->j<xs.size->rk (gK xs i)<=rk (gK xs j)
theorem Sg.rkk {xs ys:Array Keyed}{lo m:Nat}(h:Sg xs ys lo m)(ha:Asc rk xs lo){i j:Nat}(h1:lo<=i)(h2:i<m)(h3:m<=j)(h4:j<xs.size):rk (gK ys i)<=rk (gK ys j):=by
 obtain ⟨i',a1,a2,e⟩:=h.inn i h1 h2
 rw [kU e,kU (h.out j (.inr h3))]
 exact ha i' j a1 (by walk_at "o") h4
theorem Srt.one {xs:Array Keyed}{lo:Nat}:Srt rk xs lo (lo+1):=fun i j h1 h2 h3=>by
 have:i=j:=by walk_at "o"
 subst this;exact LEr.refl
theorem Srt.more {xs:Array Keyed}{lo hi:Nat}(h:Srt rk xs lo hi)(hl:lo<hi)(g:LEr rk (gK xs (hi - 1)) (gK xs hi)):Srt rk xs lo (hi+1):=fun i j h1 h2 h3=>by
 by_cases c:j<hi
 ·exact h i j h1 h2 c
 ·have:j=hi:=by walk_at "o"
  subst this
  by_cases c2:i=j
  ·subst c2;exact LEr.refl
  ·exact (h i (j - 1) h1 (by walk_at "o") (by walk_at "o")).trans g
theorem Xc {xs:Array Keyed}{lo k l:Nat}(hs:Srt rk xs lo (lo+k))(hl:l<=k)(hz:lo+k<xs.size)(ha:∀ i,lo<=i->i<lo+l->LEr rk (gK xs i) (gK xs (lo+k)))(hb:∀ i,lo+l<=i->i<lo+k->LEr rk (gK xs (lo+k)) (gK xs i)):Srt rk (bubble xs (lo+k) (lo+k - (lo+l))) lo (lo+(k+1)):=by
 have f:∀ i,gK (bubble xs (lo+k) (lo+k - (lo+l))) i=if i=lo+l then gK xs (lo+k) else if lo+l<i/\i<=lo+k then gK xs (i - 1) else gK xs i:=fun i=>by
  rw [VA hz (by walk_at "o"),show lo+k - (lo+k - (lo+l))=lo+l by walk_at "o"]
 clear hz
 intro i j b1 b2 b3
 rw [f,f]
 clear f
 by_cases ci:i=lo+l
 ·rw [if_pos ci]
  by_cases cj:j=lo+l
  ·rw [if_pos cj];exact LEr.refl
  ·rw [if_neg cj,if_pos (by walk_at "o")]
   exact hb (j - 1) (by walk_at "o") (by walk_at "o")
 ·rw [if_neg ci]
  by_cases cj:j=lo+l
  ·rw [if_pos cj,if_neg (by walk_at "o")]
   exact ha i b1 (by walk_at "o")
  ·rw [if_neg cj]
   by_cases ci2:lo+l<i
   ·rw [if_pos (by walk_at "o"),if_pos (by walk_at "o")]
    exact hs _ _ (by walk_at "o") (by walk_at "o") (by walk_at "o")
   ·rw [if_neg (by walk_at "o")]
    by_cases cj2:lo+l<j
    ·rw [if_pos (by walk_at "o")];exact hs _ _ b1 (by walk_at "o") (by walk_at "o")
    ·rw [if_neg (by walk_at "o")];exact hs _ _ b1 b2 (by walk_at "o")
theorem V4 {st : SortSt}{lo n ok : Nat}{Q : Bool -> SortSt -> Prop}(h0 : Kr a₀)(hB : SoB a₀ st)(hn : lo + n <= a₀.size)(hok : 1 <= ok)(hok2 : ok <= n)(ha : ∀ i j, lo <= i -> i < j -> lo + ok <= j -> j < a₀.size -> rk (gK (arrOf st) i) <= rk (gK (arrOf st) j))(hs : Srt rk (arrOf st) lo (lo + ok))
    (h:∀ xs,Sg (arrOf st) xs lo (lo+n)->Srt rk xs lo (lo+n)->Q true (setArr st xs)):wpS (model prog w) A E s (binarySort' lo n ok) Q st:=by
  rw [binarySort'_eq]
  refine wpS_bind (wpS_mono (wpS_forRange (I:=fun k c st'=>c=(none,())/\∃ xs,st'=setArr st xs/\Sg (arrOf st) xs lo (lo+k)/\Srt rk xs lo (lo+k)/\k<=n)
    (Q:=fun c st'=>c=(none,())/\∃ xs,st'=setArr st xs/\Sg (arrOf st) xs lo (lo+n)/\Srt rk xs lo (lo+n)) ?_ ?_ ⟨rfl,arrOf st,rfl,Sg.refl _ _ _,by rw [show max ok 1=ok by walk_at "o"];exact hs,by walk_at "o"⟩) ?_)
  · rintro k c st' hak hkn ⟨rfl,xs,rfl,g,hs,_⟩
    have hB':SoB a₀ (setArr st xs):=hB.set g.perm
    have sz:xs.size=a₀.size:=hB'.size
    refine wpS_bind (wpS_mono (wpS_forRange (I:=fun t c st'=>st'=setArr st xs/\∃ l r,c=(none,l,r)/\l<=r/\r<=k/\r - l<=k - t/\(∀ i,i<l->kn (gK xs (lo+i))<=kn (gK xs (lo+k)))/\(∀ i,r<=i->i<k->kn (gK xs (lo+k))<kn (gK xs (lo+i))))
      (Q:=fun c st'=>st'=setArr st xs/\∃ l,c=(none,l,l)/\l<=k/\(∀ i,i<l->kn (gK xs (lo+i))<=kn (gK xs (lo+k)))/\(∀ i,l<=i->i<k->kn (gK xs (lo+k))<kn (gK xs (lo+i)))) ?_ ?_ ⟨rfl,0,k,rfl,by walk_at "o",by walk_at "o",by walk_at "o",fun i hi=>by walk_at "o",fun i h1 h2=>by walk_at "o"⟩) ?_)
    · rintro t c st' _ ht ⟨rfl,l,r,rfl,h1,h2,h3,h4,h5⟩
      dsimp only
      by_cases c:l ≥ r
      · rw [if_pos c]
        have:l=r:=by walk_at "o"
        subst this
        exact wpS_pure ⟨rfl,l,rfl,h2,h4,h5⟩
      · rw [if_neg c]
        refine wpS_bind (YG hB' h0 (by walk_at "o") (by walk_at "o") ?_)
        by_cases c2:kn (gK xs (lo+k))<kn (gK xs (lo+(l+r) / 2))
        · rw [show decide (kn (gK (arrOf (setArr st xs)) (lo+k))<kn (gK (arrOf (setArr st xs)) (lo+(l+r) / 2)))=true from decide_eq_true c2]
          refine wpS_pure ⟨rfl,_,_,rfl,by walk_at "o",by walk_at "o",by walk_at "o",h4,fun i a1 a2=>?_⟩
          have:=(hs (lo+(l+r) / 2) (lo+i) (by walk_at "o") (by walk_at "o") (by walk_at "o")).kn
          walk_at "o"
        · rw [show decide (kn (gK (arrOf (setArr st xs)) (lo+k))<kn (gK (arrOf (setArr st xs)) (lo+(l+r) / 2)))=false from decide_eq_false c2]
          refine wpS_pure ⟨rfl,_,_,rfl,by walk_at "o",by walk_at "o",by walk_at "o",fun i a1=>?_,h5⟩
          have:=(hs (lo+i) (lo+(l+r) / 2) (by walk_at "o") (by walk_at "o") (by walk_at "o")).kn
          walk_at "o"
    · rintro c st' ⟨rfl,l,r,rfl,h1,h2,h3,h4,h5⟩
      have:l=r:=by walk_at "o"
      subst this
      exact ⟨rfl,l,rfl,h2,h4,h5⟩
    · rintro c st' ⟨rfl,l,rfl,h2,h4,h5⟩
      show wpS _ _ _ _ (do moveDown' (lo+k) (lo+l);pure (ForInStep.yield (none,()))) _ _
      rw [moveDown'_eq]
      refine wpS_bind (wpS_modify (wpS_pure ⟨rfl,bubble xs (lo+k) (lo+k - (lo+l)),rfl,?_,?_,by walk_at "o"⟩))
      · exact (g.mono (Nat.le_refl _) (by walk_at "o")).trans ((VM (by walk_at "o") (by walk_at "o")).mono (by walk_at "o") (by walk_at "o"))
      · have rkk : ∀ i, i < k -> rk (gK xs (lo + i)) <= rk (gK xs (lo + k)) := fun i hi => by
          obtain ⟨i',a1,a2,e⟩:=g.inn (lo+i) (by walk_at "o") (by walk_at "o")
          rw [kU e,kU (g.out (lo+k) (.inr (by walk_at "o")))]
          exact ha i' (lo+k) a1 (by walk_at "o") (by walk_at "o") (by walk_at "o")
        clear ha
        refine Xc hs h2 (by walk_at "o") (fun i a1 a2=>?_) fun i a1 a2=>?_
        · have z1:=h4 (i - lo) (by walk_at "o")
          have z2:=rkk (i - lo) (by walk_at "o")
          rw [show lo+(i - lo)=i by walk_at "o"] at z1 z2
          exact LEr.of z1 z2
        · have:=h5 (i - lo) (by walk_at "o") (by walk_at "o")
          rw [show lo+(i - lo)=i by walk_at "o"] at this
          exact .inl this
  · rintro c st' ⟨rfl,xs,rfl,g,hs,hk⟩
    rw [show max (max ok 1) n=n by walk_at "o"] at g hs
    exact ⟨rfl,xs,rfl,g,hs⟩
  · rintro c st' ⟨rfl,xs,rfl,g,hs⟩
    exact wpS_pure (h xs g hs)
end
end L2
namespace L2
open PySem PyProof.Rows
section
variable {prog:Program}{w:World}{A:Around}{E:Value->Shared->Prop}{s:Shared}{a₀:Array Keyed}{rk:Keyed->Int}
noncomputable def Fal (rk:Keyed->Int)(xs:Array Keyed)(lo hi:Nat):Prop:=∀ i j,lo<=i->i<=j->j<hi->LEr rk (gK xs j) (gK xs i)
structure Dsc (rk:Keyed->Int)(xs:Array Keyed)(lo T hi:Nat):Prop where
 l:lo<=T
 t:T<hi
 a:Fal rk xs lo T
 b:∀ i,lo<=i->i<T->kn (gK xs (hi - 1))<kn (gK xs i)
 c:∀ i j,T<=i->i<=j->j<hi->kn (gK xs i)=kn (gK xs (hi - 1))/\rk (gK xs i)<=rk (gK xs j)
theorem Dsc.fall0 {xs:Array Keyed}{lo T hi:Nat}(h:Dsc rk xs lo T hi)(e:T+1=hi):Fal rk xs lo hi:=fun i j h1 h2 h3=>by
 by_cases c:j<T
 ·exact h.a i j h1 h2 c
 ·have:j=T:=by walk_at "o"
  subst this
  by_cases c2:i=j
  ·subst c2;exact LEr.refl
  ·have:=h.b i h1 (by walk_at "o")
   rw [show hi - 1=j by walk_at "o"] at this
   exact .inl this
theorem Dsc.fall {xs:Array Keyed}{lo T hi:Nat}(h:Dsc rk xs lo T hi)(hs:hi<=xs.size):Fal rk (mirror xs T hi ((hi - T) / 2)) lo hi:=fun i j h1 h2 h3=>by
 have hl:=h.l
 have ht:=h.t
 rw [ql hs,ql hs]
 by_cases ci:T<=i
 ·rw [if_pos (by walk_at "o"),if_pos (by walk_at "o")]
  have a1:=h.c (T+hi - 1 - j) (T+hi - 1 - i) (by walk_at "o") (by walk_at "o") (by walk_at "o")
  have a2:=h.c (T+hi - 1 - i) (T+hi - 1 - i) (by walk_at "o") (by walk_at "o") (by walk_at "o")
  exact LEr.of (by walk_at "o") a1.2
 ·by_cases cj:T<=j
  ·rw [if_pos (by walk_at "o"),if_neg (by walk_at "o")]
   have a1:=h.b i h1 (by walk_at "o")
   have a2:=h.c (T+hi - 1 - j) (T+hi - 1 - j) (by walk_at "o") (by walk_at "o") (by walk_at "o")
   exact .inl (by walk_at "o")
  ·rw [if_neg (by walk_at "o"),if_neg (by walk_at "o")];exact h.a i j h1 h2 (by walk_at "o")
theorem Dsc.last {xs:Array Keyed}{lo T hi:Nat}(h:Dsc rk xs lo T hi)(hs:hi<=xs.size):kn (gK (mirror xs T hi ((hi - T) / 2)) (hi - 1))=kn (gK xs (hi - 1)):=by
 have ht:=h.t
 rw [ql hs,if_pos ⟨by walk_at "o",by walk_at "o"⟩]
 exact (h.c (T+hi - 1 - (hi - 1)) (T+hi - 1 - (hi - 1)) (by walk_at "o") (by walk_at "o") (by walk_at "o")).1
theorem Fal.next {xs:Array Keyed}{lo hi:Nat}(h:Fal rk xs lo hi)(hl:lo<hi)(g:kn (gK xs hi)<kn (gK xs (hi - 1))):Dsc rk xs lo hi (hi+1):=by
 refine ⟨by walk_at "o",by walk_at "o",h,fun i h1 h2=>?_,fun i j h1 h2 h3=>?_⟩
 ·have:=(h i (hi - 1) h1 (by walk_at "o") (by walk_at "o")).kn
  rw [Nat.add_sub_cancel];walk_at "o"
 ·have:i=hi:=by walk_at "o"
  have:j=hi:=by walk_at "o"
  subst i j
  rw [Nat.add_sub_cancel];exact ⟨rfl,Int.le_refl _⟩
theorem Dsc.like {xs:Array Keyed}{lo T hi:Nat}(h:Dsc rk xs lo T hi)(e:kn (gK xs hi)=kn (gK xs (hi - 1)))(g:∀ i,lo<=i->i<hi->rk (gK xs i)<=rk (gK xs hi)):Dsc rk xs lo T (hi+1):=by
 have hl:=h.l
 have ht:=h.t
 refine ⟨hl,by walk_at "o",h.a,fun i h1 h2=>?_,fun i j h1 h2 h3=>?_⟩
 ·have:=h.b i h1 h2
  rw [Nat.add_sub_cancel];walk_at "o"
 ·rw [Nat.add_sub_cancel]
  by_cases cj:j<hi
  ·have:=h.c i j h1 h2 cj
   exact ⟨by walk_at "o",this.2⟩
  ·have:j=hi:=by walk_at "o"
   subst this
   by_cases ci:i=j
   ·subst ci;exact ⟨rfl,Int.le_refl _⟩
   ·exact ⟨by have:=(h.c i i h1 (by walk_at "o") (by walk_at "o")).1;walk_at "o",g i (by walk_at "o") (by walk_at "o")⟩
theorem Fal.srt {xs:Array Keyed}{lo hi:Nat}(h:Fal rk xs lo hi)(hs:hi<=xs.size):Srt rk (mirror xs lo hi ((hi - lo) / 2)) lo hi:=fun i j h1 h2 h3=>by
 rw [ql hs,ql hs,if_pos ⟨h1,by walk_at "o"⟩,if_pos ⟨by walk_at "o",h3⟩]
 exact h _ _ (by walk_at "o") (by walk_at "o") (by walk_at "o")
theorem Dj {st:SortSt}{lo nrem:Nat}{Q:Option Nat->SortSt->Prop}(h0:Kr a₀)(hB:SoB a₀ st)(hn:lo+nrem<=a₀.size)(h1:1<=nrem)(ha:Asc rk (arrOf st) lo)
  (h:∀ m xs,1<=m->m<=nrem->Sg (arrOf st) xs lo (lo+m)->Srt rk xs lo (lo+m)->Q (some m) (setArr st xs)):wpS (model prog w) A E s (countRun' lo nrem) Q st:=by
 rw [countRun'_eq]
 have sz:=hB.size
 have asc:∀ {F:Nat->Option (Option Nat) × Nat->StateT SortSt Sem (ForInStep (Option (Option Nat) × Nat))} (xs:Array Keyed) (n:Nat),Sg (arrOf st) xs lo (lo+n) ->
   (∀ t n (R:_->SortSt->Prop),1<=n->n<nrem->R (if kn (gK xs (lo+n))<kn (gK xs (lo+n - 1)) then ForInStep.done (none,n) else ForInStep.yield (none,n+1)) (setArr st xs)->wpS (model prog w) A E s (F t (none,n)) R (setArr st xs)) ->
   Srt rk xs lo (lo+n)->1<=n->n<=nrem->wpS (model prog w) A E s (forIn [n:nrem] (none,n) F) (fun c st'=>st'=setArr st xs/\∃ m,c=(none,m)/\n<=m/\m<=nrem/\Srt rk xs lo (lo+m)/\(m=nrem \/ kn (gK xs (lo+m))<kn (gK xs (lo+m - 1)))) (setArr st xs):=fun xs n g hF hs hn1 hn2=>by
  refine wpS_forRange (I:=fun t c st'=>st'=setArr st xs/\c=(none,t)/\Srt rk xs lo (lo+t)) ?_ ?_ ⟨rfl,rfl,hs⟩
  ·rintro t c st' h1 h2 ⟨rfl,rfl,hs⟩
   refine hF _ _ _ (by walk_at "o") h2 ?_
   by_cases c:kn (gK xs (lo+t))<kn (gK xs (lo+t - 1))
   ·rw [if_pos c];exact ⟨rfl,t,rfl,h1,by walk_at "o",hs,.inr c⟩
   ·rw [if_neg c]
    refine ⟨rfl,rfl,?_⟩
    exact hs.more (by walk_at "o") (LEr.of (by walk_at "o") ((g.mono (Nat.le_refl _) (show lo+n<=lo+t by walk_at "o")).rkk ha (by walk_at "o") (by walk_at "o") (Nat.le_refl _) (by walk_at "o")))
  ·rintro c st' ⟨rfl,rfl,hs⟩
   rw [show max n nrem=nrem by walk_at "o"] at hs ⊢
   exact ⟨rfl,_,rfl,hn2,Nat.le_refl _,hs,.inl rfl⟩
 have cmp:∀ {xs:Array Keyed} {m i j:Nat} (R:Option Bool->SortSt->Prop),Sg (arrOf st) xs lo m->i<a₀.size->j<a₀.size->R (some (decide (kn (gK xs i)<kn (gK xs j)))) (setArr st xs)->wpS (model prog w) A E s (ltAt' i j) R (setArr st xs):=fun R g hi hj r=>YG (hB.set g.perm) h0 hi hj r
 refine wpS_bind (wpS_mono (asc (arrOf st) 1 (Sg.refl _ _ _) (fun t n R hn1 hn2 r=>?_) Srt.one (by walk_at "o") h1) ?_)
 ·dsimp only
  refine wpS_bind (cmp _ (Sg.refl _ lo lo) (by walk_at "o") (by walk_at "o") ?_)
  by_cases c:kn (gK (arrOf st) (lo+n))<kn (gK (arrOf st) (lo+n - 1))
  ·rw [if_pos c] at r;rw [decide_eq_true c];exact wpS_pure r
  ·rw [if_neg c] at r;rw [decide_eq_false c];exact wpS_pure r
 rintro c st' ⟨rfl,n,rfl,hn1,hn2,hs,hc⟩
 dsimp only
 by_cases c1:(n == nrem)=true
 ·rw [if_pos c1]
  exact wpS_pure (h n (arrOf st) hn1 hn2 (Sg.refl _ _ _) hs)
 rw [if_neg c1]
 have c1:¬ n=nrem:=fun z=>c1 (beq_iff_eq.mpr z)
 have hc:kn (gK (arrOf st) (lo+n))<kn (gK (arrOf st) (lo+n - 1)):=hc.resolve_left c1
 have key:∀ xs,Sg (arrOf st) xs lo (lo+n)->Fal rk xs lo (lo+n)->kn (gK xs (lo+n))<kn (gK xs (lo+n - 1))->Dsc rk xs lo (lo+n) (lo+n+1):=fun xs g f z=>f.next (by walk_at "o") z
 refine qq (fun c2=>?_) fun c2=>?_
 ·refine wpS_bind (cmp _ (Sg.refl _ lo lo) (by walk_at "o") (by walk_at "o") ?_)
  by_cases c3:kn (gK (arrOf st) lo)<kn (gK (arrOf st) (lo+n - 1))
  ·rw [decide_eq_true c3]
   exact wpS_pure (h n (arrOf st) hn1 hn2 (Sg.refl _ _ _) hs)
  rw [decide_eq_false c3]
  dsimp only
  rw [if_neg (by decide)]
  refine wpS_bind (wpS_reverse ?_)
  have hz:lo+n<=(arrOf st).size:=by walk_at "o"
  have g1:Sg (arrOf st) (mirror (arrOf st) lo (lo+n) ((lo+n - lo) / 2)) lo (lo+n):=qB hz
  have ek:∀ i,lo<=i->i<lo+n->kn (gK (arrOf st) i)=kn (gK (arrOf st) lo):=fun i a1 a2=>by
   have z1:=(hs lo i (Nat.le_refl _) a1 a2).kn
   have z2:=(hs i (lo+n - 1) a1 (by walk_at "o") (by walk_at "o")).kn
   walk_at "o"
  have f1:Fal rk (mirror (arrOf st) lo (lo+n) ((lo+n - lo) / 2)) lo (lo+n):=fun i j a1 a2 a3=>by
   rw [ql hz,ql hz,if_pos (by walk_at "o"),if_pos (by walk_at "o")]
   have z1:=ek (lo+(lo+n) - 1 - i) (by walk_at "o") (by walk_at "o")
   have z2:=ek (lo+(lo+n) - 1 - j) (by walk_at "o") (by walk_at "o")
   exact LEr.of (by walk_at "o") (ha _ _ (by walk_at "o") (by walk_at "o") (by walk_at "o"))
  have d1:=key _ g1 f1 (by
   rw [ql hz,ql hz,if_neg (by walk_at "o"),if_pos ⟨by walk_at "o",by walk_at "o"⟩]
   have z1:=ek (lo+(lo+n) - 1 - (lo+n - 1)) (by walk_at "o") (by walk_at "o")
   have z2:=ek (lo+n - 1) (by walk_at "o") (by walk_at "o")
   walk_at "o")
  have g1:=g1.mono (Nat.le_refl lo) (Nat.le_succ (lo+n))
  show wpS _ _ _ _ _ _ (setArr st (mirror (arrOf st) lo (lo+n) ((lo+n - lo) / 2)))
  generalize mirror (arrOf st) lo (lo+n) ((lo+n - lo) / 2)=xs at *
  refine wpS_bind (j9 ?_)
  refine wpS_bind (wpS_mono (wpS_forRange (I:=fun t c st'=>∃ xs T q,c=(none,t,q)/\st'=setArr st xs/\Sg (arrOf st) xs lo (lo+t)/\T+q+1=lo+t/\Dsc rk xs lo T (lo+t)) (Q:=fun c st'=>∃ xs T q t,c=(none,t,q)/\1<=t/\t<=nrem/\st'=setArr st xs/\Sg (arrOf st) xs lo (lo+t)/\T+q+1=lo+t/\Dsc rk xs lo T (lo+t)) ?_ ?_ ⟨xs,lo+n,0,rfl,rfl,g1,by walk_at "o",d1⟩) ?_)
  ·rintro t c st' h1 h2 ⟨xs,T,q,rfl,rfl,g,hq,d⟩
   have hz:lo+t<=xs.size:=by rw [g.size,sz];walk_at "o"
   have dl:=d.l
   dsimp only
   refine wpS_bind (cmp _ g (by walk_at "o") (by walk_at "o") ?_)
   by_cases c3:kn (gK xs (lo+t))<kn (gK xs (lo+t - 1))
   ·rw [decide_eq_true c3]
    dsimp only
    rw [if_pos rfl]
    refine qq (fun c4=>?_) fun c4=>?_
    ·refine wpS_bind (wpS_reverse (wpS_pure ?_))
     rw [show lo+t - (q+1)=T by walk_at "o"]
     exact ⟨mirror xs T (lo+t) ((lo+t - T) / 2),lo+t,0,rfl,rfl,(g.trans ((qB hz).mono d.l (Nat.le_refl _))).mono (Nat.le_refl _) (by walk_at "o"),by walk_at "o",(d.fall hz).next (by walk_at "o") (by rw [d.last hz,ql hz,if_neg (by walk_at "o")];exact c3)⟩
    ·exact wpS_pure ⟨xs,lo+t,0,rfl,rfl,g.mono (Nat.le_refl _) (by walk_at "o"),by walk_at "o",(d.fall0 (by walk_at "o")).next (by walk_at "o") c3⟩
   ·rw [decide_eq_false c3]
    dsimp only
    rw [if_neg (by decide)]
    refine wpS_bind (cmp _ g (by walk_at "o") (by walk_at "o") ?_)
    by_cases c4:kn (gK xs (lo+t - 1))<kn (gK xs (lo+t))
    ·rw [decide_eq_true c4];exact wpS_pure ⟨xs,T,q,t,rfl,by walk_at "o",by walk_at "o",rfl,g,hq,d⟩
    ·rw [decide_eq_false c4];exact wpS_pure ⟨xs,T,q+1,rfl,rfl,g.mono (Nat.le_refl _) (by walk_at "o"),by walk_at "o",d.like (by walk_at "o") fun i a1 a2=>g.rkk ha a1 a2 (Nat.le_refl _) (by walk_at "o")⟩
  ·rintro c st' ⟨xs,T,q,rfl,rfl,g,hq,d⟩
   rw [show max (n+1) nrem=nrem by walk_at "o"] at *
   exact ⟨xs,T,q,nrem,rfl,by walk_at "o",Nat.le_refl _,rfl,g,hq,d⟩
  rintro c st' ⟨xs,T,q,t,rfl,t1,t2,rfl,g,hq,d⟩
  have hz:lo+t<=xs.size:=by rw [g.size,sz];walk_at "o"
  have dl:=d.l
  dsimp only
  refine qq (fun c4=>wpS_bind (wpS_reverse ?_)) fun c4=>?_
  ·rw [show lo+t - (q+1)=T by walk_at "o"]
   have g2:=g.trans ((qB hz).mono d.l (Nat.le_refl _))
   have f2:=d.fall hz
   show wpS _ _ _ _ _ _ (setArr st (mirror xs T (lo+t) ((lo+t - T) / 2)))
   generalize mirror xs T (lo+t) ((lo+t - T) / 2)=ys at *
   refine wpS_bind (wpS_reverse ?_)
   have hz2:lo+t<=ys.size:=by rw [g2.size,sz];walk_at "o"
   have g3:=g2.trans (qB hz2)
   have s3:=f2.srt hz2
   refine wpS_bind (wpS_mono (asc (mirror ys lo (lo+t) ((lo+t - lo) / 2)) t g3 (fun u n R hn1 hn2 r=>?_) s3 t1 t2) ?_)
   ·dsimp only
    refine wpS_bind (cmp _ g3 (by walk_at "o") (by walk_at "o") ?_)
    by_cases c:kn (gK (mirror ys lo (lo+t) ((lo+t - lo) / 2)) (lo+n))<kn (gK (mirror ys lo (lo+t) ((lo+t - lo) / 2)) (lo+n - 1))
    ·rw [if_pos c] at r;rw [decide_eq_true c];exact wpS_pure r
    ·rw [if_neg c] at r;rw [decide_eq_false c];exact wpS_pure r
   rintro c st' ⟨rfl,m,rfl,m1,m2,s4,_⟩
   exact wpS_pure (h m _ (by walk_at "o") m2 (g3.mono (Nat.le_refl _) (by walk_at "o")) s4)
  ·have f2:=d.fall0 (by walk_at "o")
   have g2:=g
   generalize xs=ys at *
   refine wpS_bind (wpS_reverse ?_)
   have hz2:lo+t<=ys.size:=by rw [g2.size,sz];walk_at "o"
   have g3:=g2.trans (qB hz2)
   have s3:=f2.srt hz2
   refine wpS_bind (wpS_mono (asc (mirror ys lo (lo+t) ((lo+t - lo) / 2)) t g3 (fun u n R hn1 hn2 r=>?_) s3 t1 t2) ?_)
   ·dsimp only
    refine wpS_bind (cmp _ g3 (by walk_at "o") (by walk_at "o") ?_)
    by_cases c:kn (gK (mirror ys lo (lo+t) ((lo+t - lo) / 2)) (lo+n))<kn (gK (mirror ys lo (lo+t) ((lo+t - lo) / 2)) (lo+n - 1))
    ·rw [if_pos c] at r;rw [decide_eq_true c];exact wpS_pure r
    ·rw [if_neg c] at r;rw [decide_eq_false c];exact wpS_pure r
   rintro c st' ⟨rfl,m,rfl,m1,m2,s4,_⟩
   exact wpS_pure (h m _ (by walk_at "o") m2 (g3.mono (Nat.le_refl _) (by walk_at "o")) s4)
 ·have e1:n=1:=by walk_at "o"
  subst e1
  have d1:Dsc rk (arrOf st) lo (lo+1) (lo+1+1):=by
   refine key _ (Sg.refl _ _ _) (fun i j a1 a2 a3=>?_) hc
   have:i=j:=by walk_at "o"
   subst this;exact LEr.refl
  have g1:Sg (arrOf st) (arrOf st) lo (lo+1+1):=Sg.refl _ _ _
  refine wpS_bind (j9 ?_)
  refine wpS_bind (wpS_mono (wpS_forRange (I:=fun t c st'=>∃ xs T q,c=(none,t,q)/\st'=setArr st xs/\Sg (arrOf st) xs lo (lo+t)/\T+q+1=lo+t/\Dsc rk xs lo T (lo+t)) (Q:=fun c st'=>∃ xs T q t,c=(none,t,q)/\1<=t/\t<=nrem/\st'=setArr st xs/\Sg (arrOf st) xs lo (lo+t)/\T+q+1=lo+t/\Dsc rk xs lo T (lo+t)) ?_ ?_ ⟨arrOf st,lo+1,0,rfl,rfl,g1,by walk_at "o",d1⟩) ?_)
  ·rintro t c st' h1 h2 ⟨xs,T,q,rfl,rfl,g,hq,d⟩
   have hz:lo+t<=xs.size:=by rw [g.size,sz];walk_at "o"
   have dl:=d.l
   dsimp only
   refine wpS_bind (cmp _ g (by walk_at "o") (by walk_at "o") ?_)
   by_cases c3:kn (gK xs (lo+t))<kn (gK xs (lo+t - 1))
   ·rw [decide_eq_true c3]
    dsimp only
    rw [if_pos rfl]
    refine qq (fun c4=>?_) fun c4=>?_
    ·refine wpS_bind (wpS_reverse (wpS_pure ?_))
     rw [show lo+t - (q+1)=T by walk_at "o"]
     exact ⟨mirror xs T (lo+t) ((lo+t - T) / 2),lo+t,0,rfl,rfl,(g.trans ((qB hz).mono d.l (Nat.le_refl _))).mono (Nat.le_refl _) (by walk_at "o"),by walk_at "o",(d.fall hz).next (by walk_at "o") (by rw [d.last hz,ql hz,if_neg (by walk_at "o")];exact c3)⟩
    ·exact wpS_pure ⟨xs,lo+t,0,rfl,rfl,g.mono (Nat.le_refl _) (by walk_at "o"),by walk_at "o",(d.fall0 (by walk_at "o")).next (by walk_at "o") c3⟩
   ·rw [decide_eq_false c3]
    dsimp only
    rw [if_neg (by decide)]
    refine wpS_bind (cmp _ g (by walk_at "o") (by walk_at "o") ?_)
    by_cases c4:kn (gK xs (lo+t - 1))<kn (gK xs (lo+t))
    ·rw [decide_eq_true c4];exact wpS_pure ⟨xs,T,q,t,rfl,by walk_at "o",by walk_at "o",rfl,g,hq,d⟩
    ·rw [decide_eq_false c4];exact wpS_pure ⟨xs,T,q+1,rfl,rfl,g.mono (Nat.le_refl _) (by walk_at "o"),by walk_at "o",d.like (by walk_at "o") fun i a1 a2=>g.rkk ha a1 a2 (Nat.le_refl _) (by walk_at "o")⟩
  ·rintro c st' ⟨xs,T,q,rfl,rfl,g,hq,d⟩
   rw [show max (1+1) nrem=nrem by walk_at "o"] at *
   exact ⟨xs,T,q,nrem,rfl,by walk_at "o",Nat.le_refl _,rfl,g,hq,d⟩
  rintro c st' ⟨xs,T,q,t,rfl,t1,t2,rfl,g,hq,d⟩
  have hz:lo+t<=xs.size:=by rw [g.size,sz];walk_at "o"
  have dl:=d.l
  dsimp only
  refine qq (fun c4=>wpS_bind (wpS_reverse ?_)) fun c4=>?_
  ·rw [show lo+t - (q+1)=T by walk_at "o"]
   have g2:=g.trans ((qB hz).mono d.l (Nat.le_refl _))
   have f2:=d.fall hz
   show wpS _ _ _ _ _ _ (setArr st (mirror xs T (lo+t) ((lo+t - T) / 2)))
   generalize mirror xs T (lo+t) ((lo+t - T) / 2)=ys at *
   refine wpS_bind (wpS_reverse ?_)
   have hz2:lo+t<=ys.size:=by rw [g2.size,sz];walk_at "o"
   have g3:=g2.trans (qB hz2)
   have s3:=f2.srt hz2
   refine wpS_bind (wpS_mono (asc (mirror ys lo (lo+t) ((lo+t - lo) / 2)) t g3 (fun u n R hn1 hn2 r=>?_) s3 t1 t2) ?_)
   ·dsimp only
    refine wpS_bind (cmp _ g3 (by walk_at "o") (by walk_at "o") ?_)
    by_cases c:kn (gK (mirror ys lo (lo+t) ((lo+t - lo) / 2)) (lo+n))<kn (gK (mirror ys lo (lo+t) ((lo+t - lo) / 2)) (lo+n - 1))
    ·rw [if_pos c] at r;rw [decide_eq_true c];exact wpS_pure r
    ·rw [if_neg c] at r;rw [decide_eq_false c];exact wpS_pure r
   rintro c st' ⟨rfl,m,rfl,m1,m2,s4,_⟩
   exact wpS_pure (h m _ (by walk_at "o") m2 (g3.mono (Nat.le_refl _) (by walk_at "o")) s4)
  ·have f2:=d.fall0 (by walk_at "o")
   have g2:=g
   generalize xs=ys at *
   refine wpS_bind (wpS_reverse ?_)
   have hz2:lo+t<=ys.size:=by rw [g2.size,sz];walk_at "o"
   have g3:=g2.trans (qB hz2)
   have s3:=f2.srt hz2
   refine wpS_bind (wpS_mono (asc (mirror ys lo (lo+t) ((lo+t - lo) / 2)) t g3 (fun u n R hn1 hn2 r=>?_) s3 t1 t2) ?_)
   ·dsimp only
    refine wpS_bind (cmp _ g3 (by walk_at "o") (by walk_at "o") ?_)
    by_cases c:kn (gK (mirror ys lo (lo+t) ((lo+t - lo) / 2)) (lo+n))<kn (gK (mirror ys lo (lo+t) ((lo+t - lo) / 2)) (lo+n - 1))
    ·rw [if_pos c] at r;rw [decide_eq_true c];exact wpS_pure r
    ·rw [if_neg c] at r;rw [decide_eq_false c];exact wpS_pure r
   rintro c st' ⟨rfl,m,rfl,m1,m2,s4,_⟩
   exact wpS_pure (h m _ (by walk_at "o") m2 (g3.mono (Nat.le_refl _) (by walk_at "o")) s4)
end
end L2
namespace L2
open PySem PyProof.Rows
local macro_rules | `(tactic| walk_at "unMa")=>do
 let n:=Lean.mkIdent (Lean.mkPrivateNameCore `PySem.Builtin.List.W1All `PySem.Builtin.mergeAt)
 `(tactic| unfold $n)
theorem QQ {f:Array Keyed->Keyed × Nat->Array Keyed}{b:Nat}(hf:∀ a p j,f a (p,j)=a.setIfInBounds (b+j) p):∀ (l:List Keyed) (n:Nat) (xs:Array Keyed) (U V W:List Keyed),xs.toList=U ++ (V ++ W)->U.length=b+n->V.length=l.length->((l.zipIdx n).foldl f xs).toList=U ++ (l ++ W)
 | [],n,xs,U,V,W,e,h1,h2=>by
  have:V=[]:=List.length_eq_zero_iff.mp h2
  subst this
  exact e
 | p :: l,n,xs,U,v :: V,W,e,h1,h2=>by
  rw [List.zipIdx_cons,List.foldl_cons,hf]
  have:=QQ hf l (n+1) (xs.setIfInBounds (b+n) p) (U ++ [p]) V W (by
   rw [Array.toList_setIfInBounds,e,<- h1,List.set_append_right _ _ (Nat.le_refl _),Nat.sub_self,List.cons_append,List.set_cons_zero,List.append_assoc];rfl) (by rw [List.length_append,List.length_singleton];walk_at "o") (by simpa using h2)
  rw [this,List.append_assoc];rfl
section
variable {prog:Program}{w:World}{A:Around}{E:Value->Shared->Prop}{s:Shared}{rk:Keyed->Int}
theorem Gs {st st':SortSt}{Q:PUnit->SortSt->Prop}(h:Q ⟨⟩ st'):wpS (model prog w) A E s (set st':StateT SortSt Sem PUnit) Q st:=by
 unfold wpS
 show wpAny _ _ ((set st':StateT SortSt Sem PUnit).run st) _ _ _
 rw [StateT.run_set]
 exact wpAny_pure ⟨rfl,h⟩
theorem jg.join {X Y m:List Keyed}{k j:Nat}(T:jZ rk X Y)(hm:jg rk (X.drop k) (Y.take j) m)(h1:∀ x ∈ X.take k,∀ y ∈ Y,kn x<=kn y)(h2:∀ y ∈ Y.drop j,∀ x ∈ X,kn x<=kn y):jg rk X Y (X.take k ++ (m ++ Y.drop j)):=by
 refine ⟨?_,?_⟩
 ·refine (List.Perm.append_left _ (hm.1.append_right _)).trans ?_
  rw [List.append_assoc,List.take_append_drop,<- List.append_assoc,List.take_append_drop]
 ·have mm:∀ x ∈ m,x ∈ X.drop k \/ x ∈ Y.take j:=fun x hx=>List.mem_append.mp (hm.1.mem_iff.mp hx)
  have pX:∀ x ∈ X.take k,∀ y ∈ X.drop k,LEr rk x y:=by
   have:=T.px
   rw [<- List.take_append_drop k X] at this
   exact (List.pairwise_append.mp this).2.2
  have pY:∀ x ∈ Y.take j,∀ y ∈ Y.drop j,LEr rk x y:=by
   have:=T.py
   rw [<- List.take_append_drop j Y] at this
   exact (List.pairwise_append.mp this).2.2
  refine List.pairwise_append.mpr ⟨T.px.sublist (List.take_sublist _ _),List.pairwise_append.mpr ⟨hm.2,T.py.sublist (List.drop_sublist _ _),fun x hx y hy=>?_⟩,fun x hx y hy=>?_⟩
  ·rcases mm x hx with hx | hx
   ·exact LEr.of (h2 y hy x (List.mem_of_mem_drop hx)) (T.bel _ (List.mem_of_mem_drop hx) _ (List.mem_of_mem_drop hy))
   ·exact pY x hx y hy
  ·have bl:∀ y ∈ Y,LEr rk x y:=fun y hy=>LEr.of (h1 x hx y hy) (T.bel _ (List.mem_of_mem_take hx) _ hy)
   rcases List.mem_append.mp hy with hy | hy
   ·rcases mm y hy with hy | hy
    ·exact pX x hx y hy
    ·exact bl y (List.mem_of_mem_take hy)
   ·exact bl y (List.mem_of_mem_drop hy)
theorem Xl {st:SortSt}{i:Nat}{Q:Bool->SortSt->Prop}{P X Y R:List Keyed}{pw pw':Nat}(hk:kindOf st=oneType')(hf:failedOf st=none)(hI:∀ p ∈ (arrOf st).toList,IsI p)(e:(arrOf st).toList=P ++ (X ++ (Y ++ R)))(T:jZ rk X Y)(hx:0<X.length)(hy:0<Y.length)
  (p1:(pendingOf st)[i]?=some (P.length,X.length,pw)) (p2:(pendingOf st)[i+1]?=some (P.length+X.length,Y.length,pw'))
  (h:∀ m g xs,jg rk X Y m->xs.toList=P ++ (m ++ R)->Q true (SortSt.mk' (kindOf st) xs (((pendingOf st).setIfInBounds i (P.length,X.length+Y.length,pw)).eraseIdxIfInBounds (i+1)) g (failedOf st))):wpS (model prog w) A E s (mergeAt' i) Q st:=by
 unfold mergeAt'
 walk_at "unMa"
 have sz:(arrOf st).size=P.length+(X.length+(Y.length+R.length)):=by rw [<- Array.length_toList,e,List.length_append,List.length_append,List.length_append]
 have gx:∀ j,j<X.length->(arrOf st).toList[P.length+j]?=X[j]?:=fun j hj=>by
  rw [e,List.getElem?_append_right (by walk_at "o"),Nat.add_sub_cancel_left,List.getElem?_append_left hj]
 have gy:∀ j,j<Y.length->(arrOf st).toList[P.length+X.length+j]?=Y[j]?:=fun j hj=>by
  rw [e,List.getElem?_append_right (by walk_at "o"),List.getElem?_append_right (by walk_at "o"),List.getElem?_append_left (by walk_at "o")];congr 1;walk_at "o"
 have dX:∀ k,k<=X.length->((arrOf st).toList.drop (P.length+k)).take (X.length - k)=X.drop k:=fun k hk=>by
  rw [e,<- List.drop_drop,List.drop_left,List.drop_append_of_le_length hk,List.take_append_of_le_length (by rw [List.length_drop];walk_at "o"),List.take_of_length_le (by rw [List.length_drop];walk_at "o")]
 have dY:∀ k,k<=Y.length->((arrOf st).toList.drop (P.length+X.length)).take k=Y.take k:=fun k hk=>by
  rw [e,<- List.drop_drop,List.drop_left,List.drop_left,List.take_append_of_le_length hk]
 have ax:∀ {j x},(arrOf st).toList[j]?=some x->(arrOf st)[j]?=some x:=fun z=>by rw [<- Array.getElem?_toList];exact z
 obtain ⟨y0,hy0⟩:∃ y,Y[0]?=some y:=⟨_,List.getElem?_eq_getElem hy⟩
 obtain ⟨x9,hx9⟩:∃ x,X[X.length - 1]?=some x:=⟨_,List.getElem?_eq_getElem (by walk_at "o")⟩
 have my:=List.mem_of_getElem? hy0
 have mx:=List.mem_of_getElem? hx9
 have y0le:∀ y ∈ Y,kn y0<=kn y:=fun y hy=>(xp T.py hy0 y (by rw [List.drop_zero];exact hy)).kn
 have x9le:∀ x ∈ X,kn x<=kn x9:=fun x hx'=>(xf T.px hx9 x (by rw [show X.length - 1+1=X.length by walk_at "o",List.take_length];exact hx')).kn
 refine wpS_bind (wpS_get ?_)
 rw [p1,p2]
 refine wpS_bind (Gs ?_)
 refine wpS_bind (zP (ax (by rw [show P.length+X.length=P.length+X.length+0 by walk_at "o",gy 0 hy];exact hy0)) ?_)
 refine wpS_bind (yJ (rk:=rk) (xs:=arrOf st) hk (T.iy _ my) (by have:=dX 0 (by walk_at "o");rw [Nat.add_zero,Nat.sub_zero,List.drop_zero] at this;rw [this];exact T.px) hI (by walk_at "o") hx fun k k1 k2 k3=>?_)
 dsimp only
 have k2:∀ x ∈ X.take k,kn x<=kn y0:=fun x hx'=>by
  obtain ⟨j,hj⟩:=List.getElem?_of_mem hx'
  have hjk:j<k:=by have:=(List.getElem?_eq_some_iff.mp hj).1;rw [List.length_take] at this;walk_at "o"
  obtain ⟨x',e1,e2⟩:=k2 j hjk
  rw [gx j (by walk_at "o")] at e1
  rw [List.getElem?_take_of_lt hjk,e1] at hj
  cases hj
  exact AZ e2
 have k2':∀ x ∈ X.take k,∀ y ∈ Y,kn x<=kn y:=fun x hx' y hy'=>Int.le_trans (k2 x hx') (y0le y hy')
 by_cases c1:(X.length - k == 0)=true
 ·rw [if_pos c1]
  have c1:k=X.length:=by have:=beq_iff_eq.mp c1;walk_at "o"
  subst c1
  rw [List.take_length] at k2'
  refine wpS_pure (h (X ++ Y) (gallopOf st) (arrOf st) ⟨List.Perm.refl _,List.pairwise_append.mpr ⟨T.px,T.py,fun x hx' y hy'=>LEr.of (k2' x hx' y hy') (T.bel x hx' y hy')⟩⟩ (by rw [e,List.append_assoc]))
 rw [if_neg c1]
 have c1:k<X.length:=by
  have:¬ X.length - k=0:=fun z=>c1 (beq_iff_eq.mpr z)
  walk_at "o"
 obtain ⟨xk,hxk⟩:∃ x,X[k]?=some x:=⟨_,List.getElem?_eq_getElem c1⟩
 have k3':kn y0<kn xk:=by
  obtain ⟨x',e1,e2⟩:=k3 k (Nat.le_refl _) c1
  rw [gx k c1,hxk] at e1
  cases e1
  exact KN e2
 have k4:∀ x ∈ X.drop k,kn y0<kn x:=fun x hx'=>by have:=(xp T.px hxk x hx').kn;walk_at "o"
 refine wpS_bind (zP (ax (by rw [show P.length+k+(X.length - k) - 1=P.length+(X.length - 1) by walk_at "o",gx _ (by walk_at "o")];exact hx9)) ?_)
 refine wpS_bind (yJ (rk:=rk) (xs:=arrOf st) hk (T.ix _ mx) (by rw [dY _ (Nat.le_refl _),List.take_length];exact T.py) hI (by walk_at "o") (by walk_at "o") fun j j1 j2 j3=>?_)
 dsimp only
 have j2:∀ y ∈ Y.take j,kn y<kn x9:=fun y hy'=>by
  obtain ⟨n,hn⟩:=List.getElem?_of_mem hy'
  have hnj:n<j:=by have:=(List.getElem?_eq_some_iff.mp hn).1;rw [List.length_take] at this;walk_at "o"
  obtain ⟨y',e1,e2⟩:=j2 n hnj
  rw [gy n (by walk_at "o")] at e1
  rw [List.getElem?_take_of_lt hnj,e1] at hn
  cases hn
  exact A3 e2
 have j3:∀ y ∈ Y.drop j,∀ x ∈ X,kn x<=kn y:=fun y hy' x hx'=>by
  obtain ⟨n,hn⟩:=List.getElem?_of_mem hy'
  rw [List.getElem?_drop] at hn
  have hl:=(List.getElem?_eq_some_iff.mp hn).1
  obtain ⟨y',e1,e2⟩:=j3 (j+n) (by walk_at "o") hl
  rw [gy _ hl,hn] at e1
  cases e1
  exact Int.le_trans (x9le x hx') (Kh e2)
 have c2:j ≠ 0:=fun z=>by
  subst z
  have:=j3 y0 (by rw [List.drop_zero];exact my) xk (List.mem_of_getElem? hxk)
  walk_at "o"
 rw [if_neg (by simpa using c2)]
 have ex:((arrOf st).extract (P.length+k) (P.length+X.length)).toList=X.drop k:=by
  rw [Array.toList_extract,List.extract_eq_take_drop,show P.length+X.length - (P.length+k)=X.length - k by walk_at "o",dX k k1]
 have ey:((arrOf st).extract (P.length+X.length) (P.length+X.length+j)).toList=Y.take j:=by
  rw [ZQ,dY j j1]
 have T':jZ rk (X.drop k) (Y.take j):=⟨T.px.sublist (List.drop_sublist _ _),T.py.sublist (List.take_sublist _ _),fun x hx' y hy'=>T.bel x (List.mem_of_mem_drop hx') y (List.mem_of_mem_take hy'),fun x hx'=>T.ix x (List.mem_of_mem_drop hx'),fun y hy'=>T.iy y (List.mem_of_mem_take hy')⟩
 have l9:(X.drop k)[X.length - k - 1]?=some x9:=by rw [List.getElem?_drop,<- hx9];congr 1;walk_at "o"
 have t0:(Y.take j)[0]?=some y0:=by rw [List.getElem?_take_of_lt (by walk_at "o"),hy0]
 have z1:((arrOf st).extract (P.length+k) (P.length+X.length)).size=X.length - k:=by rw [<- Array.length_toList,ex,List.length_drop]
 have z2:((arrOf st).extract (P.length+X.length) (P.length+X.length+j)).size=j:=by rw [<- Array.length_toList,ey,List.length_take];walk_at "o"
 have fin:∀ {f:Array Keyed->Keyed × Nat->Array Keyed} (m:Array Keyed) (g:Nat),(∀ a p q,f a (p,q)=a.setIfInBounds (P.length+k+q) p)->jg rk (X.drop k) (Y.take j) m.toList->Q true (SortSt.mk' (kindOf st) (m.toList.zipIdx.foldl f (arrOf st)) (((pendingOf st).setIfInBounds i (P.length,X.length+Y.length,pw)).eraseIdxIfInBounds (i+1)) g (failedOf st)):=fun {f} m g hff hm=>by
  refine h _ g _ (jg.join T hm k2' j3) ?_
  rw [QQ hff m.toList 0 (arrOf st) (P ++ X.take k) (X.drop k ++ Y.take j) (Y.drop j ++ R) ?_ ?_ hm.1.length_eq.symm]
  ·simp only [List.append_assoc]
  ·rw [e,List.append_assoc,List.append_assoc,<- List.append_assoc (Y.take j),List.take_append_drop,<- List.append_assoc (X.take k),List.take_append_drop]
  ·rw [List.length_append,List.length_take];walk_at "o"
 refine qq (fun _=>?_) fun _=>?_
 ·refine wpS_bind (Xg (rk:=rk) (xs:=(arrOf st).extract (P.length+k) (P.length+X.length)) (ys:=(arrOf st).extract (P.length+X.length) (P.length+X.length+j)) hk (by rw [ex,ey];exact T') (by rw [z1];walk_at "o") (by rw [z2];walk_at "o") (by rw [ex,ey];intro x y a1 a2;rw [t0] at a2;cases a2;exact k4 x (List.mem_of_getElem? a1)) (by rw [ex,ey,z1];intro x a1;rw [l9] at a1;cases a1;exact j2) fun m g hm=>?_)
  rw [ex,ey] at hm
  refine wpS_bind (wpS_modify (wpS_bind (wpS_get ?_)))
  show wpS _ _ _ _ (pure (failedOf st).isNone) _ _
  rw [show (failedOf st).isNone=true by rw [hf];rfl]
  exact wpS_pure (fin m g (fun _ _ _=>rfl) hm)
 ·refine wpS_bind (Kk (rk:=rk) (xs:=(arrOf st).extract (P.length+k) (P.length+X.length)) (ys:=(arrOf st).extract (P.length+X.length) (P.length+X.length+j)) hk (by rw [ex,ey];exact T') (by rw [z1];walk_at "o") (by rw [z2];walk_at "o") (by rw [ex,ey];intro y a2;rw [t0] at a2;cases a2;exact k4) (by rw [ex,ey,z1];intro x a1;rw [l9] at a1;cases a1;exact j2) fun m g hm=>?_)
  rw [ex,ey] at hm
  refine wpS_bind (wpS_modify (wpS_bind (wpS_get ?_)))
  show wpS _ _ _ _ (pure (failedOf st).isNone) _ _
  rw [show (failedOf st).isNone=true by rw [hf];rfl]
  exact wpS_pure (fin m g (fun _ _ _=>rfl) hm)
end
end L2
namespace L2
open PySem PyProof.Rows
noncomputable def Pnd:Nat->List (Nat × Nat × Nat)->List (List Keyed)->Prop
 | _,[],[]=>True
 | o,p :: ps,r :: rs=>p.1=o/\p.2.1=r.length/\Pnd (o+r.length) ps rs
 | _,_,_=>False
theorem Pnd.len:∀ {o ps rs},Pnd o ps rs->ps.length=rs.length
 | _,[],[],_=>rfl
 | _,_ :: ps,_ :: rs,h=>congrArg (·+1) (Pnd.len h.2.2)
 | _,[],_ :: _,h=>h.elim
 | _,_ :: _,[],h=>h.elim
theorem Pnd.snoc:∀ {o ps rs} {r:List Keyed} {pw:Nat},Pnd o ps rs->Pnd o (ps ++ [(o+rs.flatten.length,r.length,pw)]) (rs ++ [r])
 | _,[],[],_,_,_=>⟨rfl,rfl,trivial⟩
 | o,p :: ps,q :: rs,r,pw,h=>by
  refine ⟨h.1,h.2.1,?_⟩
  have:=Pnd.snoc (r:=r) (pw:=pw) h.2.2
  rw [List.flatten_cons,List.length_append,<- Nat.add_assoc];exact this
 | _,[],_ :: _,_,_,h=>h.elim
 | _,_ :: _,[],_,_,h=>h.elim
theorem Pnd.at : ∀ {o ps rs} (i : Nat) {X Y : List Keyed}, Pnd o ps rs -> rs[i]? = some X -> rs[i + 1]? = some Y -> ∃ pw pw', ps[i]? = some (o + (rs.take i).flatten.length, X.length, pw) /\ ps[i + 1]? = some (o + (rs.take i).flatten.length + X.length, Y.length, pw') /\
      ∀ Z:List Keyed,Z.length=X.length+Y.length->Pnd o ((ps.set i (o+(rs.take i).flatten.length,X.length+Y.length,pw)).eraseIdx (i+1)) (rs.take i ++ Z :: rs.drop (i+2))
  | o,p :: p' :: ps,x :: y :: rs,0,X,Y,h,hx,hy=>by
    cases hx;cases hy
    obtain ⟨h1,h2,h3,h4,h5⟩:=h
    obtain ⟨a,b,c⟩:=p
    obtain ⟨a',b',c'⟩:=p'
    simp only at h1 h2 h3 h4
    subst h1 h2 h3 h4
    refine ⟨c,c',rfl,rfl,fun Z hZ=>⟨rfl,hZ.symm,?_⟩⟩
    show Pnd (a+Z.length) ps rs
    rw [hZ,<- Nat.add_assoc];exact h5
  | o,p :: ps,x :: rs,i+1,X,Y,h,hx,hy=>by
    obtain ⟨pw,pw',e1,e2,e3⟩:=Pnd.at (o:=o+x.length) i (X:=X) (Y:=Y) h.2.2 hx hy
    have e:o+x.length+(rs.take i).flatten.length=o+((x :: rs).take (i+1)).flatten.length:=by
      rw [List.take_succ_cons,List.flatten_cons,List.length_append,Nat.add_assoc]
    rw [e] at e1 e2
    refine ⟨pw,pw',e1,e2,fun Z hZ=>?_⟩
    have:=e3 Z hZ
    rw [e] at this
    exact ⟨h.1,h.2.1,this⟩
  | _,[],[],_,_,_,_,hx,_=>by simp at hx
  | _,[],_ :: _,_,_,_,h,_,_=>h.elim
  | _,_ :: _,[],_,_,_,h,_,_=>h.elim
  | _,[_],[_],0,_,_,_,_,hy=>by simp at hy
  | _,[_],_ :: _ :: _,0,_,_,h,_,_=>h.2.2.elim
  | _,_ :: _ :: _,[_],0,_,_,h,_,_=>h.2.2.elim
theorem Pnd.mod {f:Nat × Nat × Nat->Nat × Nat × Nat}(hf:∀ p,(f p).1=p.1/\(f p).2.1=p.2.1):∀ {o ps rs} (i:Nat),Pnd o ps rs->Pnd o (ps.modify i f) rs
 | _,[],[],i,_=>by rw [List.modify_nil];trivial
 | _,p :: ps,r :: rs,0,h=>⟨(hf p).1.trans h.1,(hf p).2.trans h.2.1,h.2.2⟩
 | _,p :: ps,r :: rs,i+1,h=>⟨h.1,h.2.1,Pnd.mod hf i h.2.2⟩
 | _,[],_ :: _,_,h=>h.elim
 | _,_ :: _,[],_,h=>h.elim
section
variable {prog:Program}{w:World}{A:Around}{E:Value->Shared->Prop}{s:Shared}{a₀:Array Keyed}{rk:Keyed->Int}
structure Rns (rk:Keyed->Int)(a₀:Array Keyed)(rs:List (List Keyed))(zF:List Keyed)(st:SortSt):Prop where
 b:SoB a₀ st
 e:(arrOf st).toList=rs.flatten ++ zF
 ne:∀ r ∈ rs,0<r.length
 so:∀ r ∈ rs,r.Pairwise (LEr rk)
 bel:rs.Pairwise fun X Y=>∀ x ∈ X,∀ y ∈ Y,rk x<=rk y
 be:∀ x ∈ rs.flatten,∀ y ∈ zF,rk x<=rk y
 pn:Pnd 0 (pendingOf st).toList rs
theorem Hc {rs:List (List Keyed)}{i:Nat}(h:i+1<rs.length):rs=rs.take i ++ rs[i] :: rs[i+1] :: rs.drop (i+2):=by
 rw [List.getElem_cons_drop,List.getElem_cons_drop,List.take_append_drop]
theorem Rns.merge {rs:List (List Keyed)}{zF:List Keyed}{st:SortSt}{i:Nat}{Q:Bool->SortSt->Prop}(h0:Kr a₀)(J:Rns rk a₀ rs zF st)(hi:i+1<rs.length)(h:∀ rs' st',rs'.length+1=rs.length->rs'.flatten.length=rs.flatten.length->Rns rk a₀ rs' zF st'->Q true st'):wpS (model prog w) A E s (mergeAt' i) Q st:=by
 have sp:=Hc hi
 have hx:rs[i]?=some rs[i]:=List.getElem?_eq_getElem _
 have hy:rs[i+1]?=some rs[i+1]:=List.getElem?_eq_getElem _
 have mx:rs[i] ∈ rs:=List.getElem_mem _
 have my:rs[i+1] ∈ rs:=List.getElem_mem _
 obtain ⟨pw,pw',p1,p2,p3⟩:=Pnd.at i J.pn hx hy
 have fl:rs.flatten=(rs.take i).flatten ++ (rs[i] ++ (rs[i+1] ++ (rs.drop (i+2)).flatten)):=by
  conv=>lhs;rw [sp]
  rw [List.flatten_append,List.flatten_cons,List.flatten_cons]
 have bl:=J.bel
 rw [sp] at bl
 obtain ⟨b1,b2,b3⟩:=List.pairwise_append.mp bl
 obtain ⟨b4,b5⟩:=List.pairwise_cons.mp b2
 obtain ⟨b6,b7⟩:=List.pairwise_cons.mp b5
 generalize rs[i]=X at *
 generalize rs[i+1]=Y at *
 refine Xl (rk:=rk) (P:=(rs.take i).flatten) (X:=X) (Y:=Y) (R:=(rs.drop (i+2)).flatten ++ zF) (pw:=pw) (pw':=pw') J.b.kind J.b.failed (J.b.ints h0) ?_ ⟨J.so _ mx,J.so _ my,b4 _ (List.mem_cons_self ..),?_,?_⟩ (J.ne _ mx) (J.ne _ my) ?_ ?_ fun m g xs hm hxs=>?_
 ·rw [J.e,fl];simp only [List.append_assoc]
 ·exact fun x hx'=>J.b.ints h0 x (by rw [J.e];exact List.mem_append_left _ (List.mem_flatten.mpr ⟨X,mx,hx'⟩))
 ·exact fun x hx'=>J.b.ints h0 x (by rw [J.e];exact List.mem_append_left _ (List.mem_flatten.mpr ⟨Y,my,hx'⟩))
 ·rw [<- Array.getElem?_toList,p1,Nat.zero_add]
 ·rw [<- Array.getElem?_toList,p2,Nat.zero_add]
 ·have ml:m.length=X.length+Y.length:=by rw [hm.1.length_eq,List.length_append]
  have mm:∀ x ∈ m,x ∈ X \/ x ∈ Y:=fun x hx'=>List.mem_append.mp (hm.1.mem_iff.mp hx')
  have fl':(rs.take i ++ m :: rs.drop (i+2)).flatten=(rs.take i).flatten ++ (m ++ (rs.drop (i+2)).flatten):=by rw [List.flatten_append,List.flatten_cons]
  have pf:(rs.take i ++ m :: rs.drop (i+2)).flatten.Perm rs.flatten:=by
   rw [fl,fl',<- List.append_assoc X]
   exact List.Perm.append_left _ (hm.1.append_right _)
  have inr:∀ r ∈ rs.take i ++ m :: rs.drop (i+2),r=m \/ r ∈ rs:=fun r hr=>by
   rcases List.mem_append.mp hr with hr | hr
   ·exact .inr (List.mem_of_mem_take hr)
   ·rcases List.mem_cons.mp hr with hr | hr
    ·exact .inl hr
    ·exact .inr (List.mem_of_mem_drop hr)
  refine h (rs.take i ++ m :: rs.drop (i+2)) _ ?_ pf.length_eq ⟨⟨?_,J.b.kind,J.b.failed⟩,?_,fun r hr=>?_,fun r hr=>?_,?_,fun x hx' y hy'=>J.be x (pf.mem_iff.mp hx') y hy',?_⟩
  ·rw [List.length_append,List.length_cons,List.length_take,List.length_drop];walk_at "o"
  ·refine Array.perm_iff_toList_perm.mpr (List.Perm.trans ?_ (Array.perm_iff_toList_perm.mp J.b.perm))
   show xs.toList.Perm _
   rw [hxs,J.e,fl]
   simp only [List.append_assoc]
   rw [<- List.append_assoc X]
   exact List.Perm.append_left _ (hm.1.append_right _)
  ·show xs.toList=_
   rw [hxs,fl'];simp only [List.append_assoc]
  ·rcases inr r hr with rfl | hr
   ·rw [ml];have:=J.ne _ mx;walk_at "o"
   ·exact J.ne r hr
  ·rcases inr r hr with rfl | hr
   ·exact hm.2
   ·exact J.so r hr
  ·refine List.pairwise_append.mpr ⟨b1,List.pairwise_cons.mpr ⟨fun r hr x hx' y hy'=>?_,b7⟩,fun r hr r' hr' x hx' y hy'=>?_⟩
   ·rcases mm x hx' with hx' | hx'
    ·exact b4 r (List.mem_cons_of_mem _ hr) x hx' y hy'
    ·exact b6 r hr x hx' y hy'
   ·rcases List.mem_cons.mp hr' with rfl | hr'
    ·rcases mm y hy' with hy' | hy'
     ·exact b3 r hr X (List.mem_cons_self ..) x hx' y hy'
     ·exact b3 r hr Y (List.mem_cons_of_mem _ (List.mem_cons_self ..)) x hx' y hy'
    ·exact b3 r hr r' (List.mem_cons_of_mem _ (List.mem_cons_of_mem _ hr')) x hx' y hy'
  ·have:=p3 m ml
   rw [Nat.zero_add] at this
   show Pnd 0 (((pendingOf st).setIfInBounds i _).eraseIdxIfInBounds (i+1)).toList _
   rw [Array.toList_eraseIdxIfInBounds,Array.toList_setIfInBounds]
   exact this
end
end L2
namespace L2
open PySem PyProof.Rows
section
variable {prog:Program}{w:World}{A:Around}{E:Value->Shared->Prop}{s:Shared}{a₀:Array Keyed}{rk:Keyed->Int}
theorem Qj {xs:Array Keyed}{i:Nat}{x:Keyed}(h:xs.toList[i]?=some x):gK xs i=x:=by
 unfold gK
 rw [<- Array.getElem?_toList,h];rfl
theorem FN {l:List Keyed}{R:Keyed->Keyed->Prop}(h:∀ (i j:Nat) (x y:Keyed),i<j->l[i]?=some x->l[j]?=some y->R x y):l.Pairwise R:=by
 rw [List.pairwise_iff_getElem]
 intro i j hi hj hij
 exact h i j _ _ hij (List.getElem?_eq_getElem hi) (List.getElem?_eq_getElem hj)
theorem Rns.run {rs:List (List Keyed)}{zF:List Keyed}{st:SortSt}(J:Rns rk a₀ rs zF st){xs:Array Keyed}{n:Nat}(hn:1<=n)(hn2:n<=zF.length)(g:Sg (arrOf st) xs rs.flatten.length (rs.flatten.length+n))(hs:Srt rk xs rs.flatten.length (rs.flatten.length+n)) :
  ∃ r,r.length=n/\r.Pairwise (LEr rk)/\r.Perm (zF.take n)/\xs.toList=rs.flatten ++ (r ++ zF.drop n):=by
 have ln:(arrOf st).toList.length=rs.flatten.length+zF.length:=by rw [J.e,List.length_append]
 have lx:xs.toList.length=rs.flatten.length+zF.length:=by rw [Array.length_toList,g.size,<- Array.length_toList,ln]
 have out:∀ i,i<rs.flatten.length \/ rs.flatten.length+n<=i->xs.toList[i]?=(arrOf st).toList[i]?:=fun i c=>by rw [Array.getElem?_toList,Array.getElem?_toList];exact g.out i c
 have e:xs.toList=rs.flatten ++ ((xs.toList.drop rs.flatten.length).take n ++ zF.drop n):=by
  refine List.ext_getElem? fun i=>?_
  by_cases c1:i<rs.flatten.length
  ·rw [out i (.inl c1),J.e,List.getElem?_append_left c1,List.getElem?_append_left c1]
  ·rw [List.getElem?_append_right (by walk_at "o")]
   by_cases c2:i<rs.flatten.length+n
   ·rw [List.getElem?_append_left (by rw [List.length_take,List.length_drop];walk_at "o"),List.getElem?_take_of_lt (by walk_at "o"),List.getElem?_drop];congr 1;walk_at "o"
   ·rw [out i (.inr (by walk_at "o")),J.e,List.getElem?_append_right (by walk_at "o"),List.getElem?_append_right (by rw [List.length_take,List.length_drop];walk_at "o"),List.getElem?_drop,List.length_take,List.length_drop];congr 1;walk_at "o"
 refine ⟨(xs.toList.drop rs.flatten.length).take n,by rw [List.length_take,List.length_drop];walk_at "o",FN fun i j x y hij hx hy=>?_,?_,e⟩
 ·have hj:j<n:=by have:=(List.getElem?_eq_some_iff.mp hy).1;rw [List.length_take] at this;walk_at "o"
  rw [List.getElem?_take_of_lt (by walk_at "o"),List.getElem?_drop] at hx hy
  have:=hs (rs.flatten.length+i) (rs.flatten.length+j) (by walk_at "o") (by walk_at "o") (by walk_at "o")
  rwa [Qj hx,Qj hy] at this
 ·have p:=Array.perm_iff_toList_perm.mp g.perm
  rw [e,J.e] at p
  have p:=(List.perm_append_left_iff _).mp p
  have p2:((xs.toList.drop rs.flatten.length).take n ++ zF.drop n).Perm (zF.take n ++ zF.drop n):=by rw [List.take_append_drop];exact p
  exact (List.perm_append_right_iff _).mp p2
theorem Rns.asc {rs:List (List Keyed)}{zF:List Keyed}{st:SortSt}(J:Rns rk a₀ rs zF st)(re:zF.Pairwise fun x y=>rk x<=rk y):Asc rk (arrOf st) rs.flatten.length:=fun i j h1 h2 h3=>by
 have ln:(arrOf st).toList.length=rs.flatten.length+zF.length:=by rw [J.e,List.length_append]
 rw [Array.length_toList] at ln
 have g:∀ k,rs.flatten.length<=k->k<(arrOf st).size->∃ x,zF[k - rs.flatten.length]?=some x/\gK (arrOf st) k=x:=fun k k1 k2=>by
  refine ⟨_,List.getElem?_eq_getElem (by walk_at "o"),Qj ?_⟩
  rw [J.e,List.getElem?_append_right k1,List.getElem?_eq_getElem]
 obtain ⟨x,x1,x2⟩:=g i h1 (by walk_at "o")
 obtain ⟨y,y1,y2⟩:=g j (by walk_at "o") h3
 rw [x2,y2]
 by_cases c:i=j
 ·subst c;rw [x1] at y1;cases y1;exact Int.le_refl _
 ·obtain ⟨a1,a2⟩:=List.getElem?_eq_some_iff.mp x1
  obtain ⟨b1,b2⟩:=List.getElem?_eq_some_iff.mp y1
  have:=List.pairwise_iff_getElem.mp re _ _ a1 b1 (by walk_at "o")
  rwa [a2,b2] at this
theorem Rns.size {rs:List (List Keyed)}{zF:List Keyed}{st:SortSt}(J:Rns rk a₀ rs zF st):rs.flatten.length+zF.length=a₀.size:=by
 rw [<- J.b.size,<- Array.length_toList,J.e,List.length_append]
theorem Rns.psize {rs:List (List Keyed)}{zF:List Keyed}{st:SortSt}(J:Rns rk a₀ rs zF st):(pendingOf st).size=rs.length:=by
 rw [<- Array.length_toList,J.pn.len]
theorem Rns.with {rs:List (List Keyed)}{zF r:List Keyed}{st:SortSt}{xs:Array Keyed}{n:Nat}(J:Rns rk a₀ rs zF st)(hp:r.Perm (zF.take n))(e:xs.toList=rs.flatten ++ (r ++ zF.drop n)):Rns rk a₀ rs (r ++ zF.drop n) (setArr st xs):=by
 have pr:(r ++ zF.drop n).Perm zF:=by
  refine (hp.append_right _).trans ?_
  rw [List.take_append_drop]
 refine ⟨⟨?_,J.b.kind,J.b.failed⟩,e,J.ne,J.so,J.bel,fun x hx y hy=>J.be x hx y (pr.mem_iff.mp hy),J.pn⟩
 refine Array.perm_iff_toList_perm.mpr (List.Perm.trans ?_ (Array.perm_iff_toList_perm.mp J.b.perm))
 show xs.toList.Perm _
 rw [e,J.e]
 exact List.Perm.append_left _ pr
theorem Rns.push {rs:List (List Keyed)}{zF r:List Keyed}{st:SortSt}(J:Rns rk a₀ rs (r ++ zF) st)(h1:0<r.length)(h2:r.Pairwise (LEr rk))(h3:∀ x ∈ r,∀ y ∈ zF,rk x<=rk y):Rns rk a₀ (rs ++ [r]) zF (setPending st ((pendingOf st).push (rs.flatten.length,r.length,0))):=by
 have fl:(rs ++ [r]).flatten=rs.flatten ++ r:=by rw [List.flatten_append,List.flatten_cons,List.flatten_nil,List.append_nil]
 refine ⟨⟨J.b.perm,J.b.kind,J.b.failed⟩,by rw [fl,List.append_assoc];exact J.e,fun q hq=>?_,fun q hq=>?_,List.pairwise_append.mpr ⟨J.bel,List.pairwise_singleton _ _,fun q hq q' hq' x hx y hy=>?_⟩,fun x hx y hy=>?_,?_⟩
 ·rcases List.mem_append.mp hq with hq | hq
  ·exact J.ne q hq
  ·rw [List.mem_singleton.mp hq];exact h1
 ·rcases List.mem_append.mp hq with hq | hq
  ·exact J.so q hq
  ·rw [List.mem_singleton.mp hq];exact h2
 ·rw [List.mem_singleton.mp hq'] at hy
  exact J.be x (List.mem_flatten.mpr ⟨q,hq,hx⟩) y (List.mem_append_left _ hy)
 ·rw [fl] at hx
  rcases List.mem_append.mp hx with hx | hx
  ·exact J.be x hx y (List.mem_append_right _ hy)
  ·exact h3 x hx y hy
 ·show Pnd 0 ((pendingOf st).push _).toList _
  rw [Array.toList_push]
  have:=J.pn.snoc (r:=r) (pw:=0)
  rwa [Nat.zero_add] at this
theorem Rns.power {rs:List (List Keyed)}{zF:List Keyed}{st:SortSt}{f:Nat × Nat × Nat->Nat × Nat × Nat}{i:Nat}(hf:∀ p,(f p).1=p.1/\(f p).2.1=p.2.1)(J:Rns rk a₀ rs zF st):Rns rk a₀ rs zF (setPending st ((pendingOf st).modify i f)):=
 ⟨⟨J.b.perm,J.b.kind,J.b.failed⟩,J.e,J.ne,J.so,J.bel,J.be,by
  show Pnd 0 ((pendingOf st).modify i f).toList rs
  rw [Array.toList_modify];exact J.pn.mod hf i⟩
theorem Rns.end {rs:List (List Keyed)}{st:SortSt}(J:Rns rk a₀ rs [] st)(h:rs.length<=1):(arrOf st).toList.Pairwise (LEr rk):=by
 rw [J.e,List.append_nil]
 match rs,h,J with
 | [],_,_=>exact List.Pairwise.nil
 | [r],_,J=>rw [List.flatten_cons,List.flatten_nil,List.append_nil];exact J.so r (List.mem_singleton.mpr rfl)
theorem Bb:∀ {rs:List (List Keyed)},(∀ r ∈ rs,0<r.length)->rs.length<=rs.flatten.length
 | [],_=>Nat.le_refl _
 | r :: rs,h=>by
  have:=Bb (rs:=rs) fun q hq=>h q (List.mem_cons_of_mem _ hq)
  have:=h r (List.mem_cons_self ..)
  rw [List.flatten_cons,List.length_append,List.length_cons];walk_at "o"
end
end L2
namespace L2
open PySem PyProof.Rows
section
variable {prog:Program}{w:World}{A:Around}{E:Value->Shared->Prop}{s:Shared}{a₀:Array Keyed}{rk:Keyed->Int}
theorem EU {c:Prop}[Decidable c]{n:Nat}:(if c then n - 1 else n)<=n:=by split <;> walk_at "o"
theorem QJ {st:SortSt}{Q:Unit->SortSt->Prop}(h0:Kr a₀)(hB:SoB a₀ st)(hp:pendingOf st=#[])(hr:(arrOf st).toList.Pairwise fun x y=>rk x<=rk y)(h:∀ st',SoB a₀ st'->(arrOf st').toList.Pairwise (LEr rk)->Q () st'):wpS (model prog w) A E s sortRuns' Q st:=by
 rw [sortRuns'_eq]
 refine wpS_bind (wpS_get ?_)
 dsimp only
 have J0:Rns rk a₀ [] (arrOf st).toList st:=⟨hB,rfl,fun r hr=>(nomatch hr),fun r hr=>(nomatch hr),List.Pairwise.nil,fun x hx=>(nomatch hx),by rw [hp];trivial⟩
 have sz:=hB.size
 rw [sz]
 refine wpS_bind (wpS_mono (wpS_forRange (I:=fun t c st'=>∃ rs zF,c=(none,rs.flatten.length)/\Rns rk a₀ rs zF st'/\zF.Pairwise (fun x y=>rk x<=rk y)/\(t<=rs.flatten.length \/ zF=[]))
  (Q:=fun c st'=>∃ rs,c=(none,rs.flatten.length)/\Rns rk a₀ rs [] st') ?_ ?_ ⟨[],_,rfl,J0,hr,.inl (Nat.zero_le _)⟩) ?_)
 ·rintro t c st' _ ht ⟨rs,zF,rfl,J,re,hc⟩
  have js:=J.size
  dsimp only
  by_cases c1:rs.flatten.length ≥ a₀.size
  ·rw [if_pos c1]
   have:zF=[]:=List.length_eq_zero_iff.mp (by walk_at "o")
   subst this
   exact wpS_pure ⟨rs,rfl,J⟩
  rw [if_neg c1]
  refine wpS_bind (Dj (rk:=rk) h0 J.b (by walk_at "o") (by walk_at "o") (J.asc re) fun m xs m1 m2 g hs=>?_)
  dsimp only
  refine qq (fun c2=>?_) fun c2=>?_
  ·refine wpS_bind (j9 ?_)
   generalize hN:min (a₀.size - rs.flatten.length) (minRun' a₀.size a₀.size 0)=n
   have hn1:1<=n:=by walk_at "o"
   have hn2:n<=zF.length:=by walk_at "o"
   have A1:=J.asc re
   have xz:xs.size=a₀.size:=g.size.trans J.b.size
   refine wpS_bind (V4 (rk:=rk) h0 (J.b.set g.perm) (by walk_at "o") m1 (by walk_at "o") (fun i j i1 i2 i3 i4=>?_) hs fun ys g2 hs2=>?_)
   ·show rk (gK xs i)<=rk (gK xs j)
    by_cases c3:i<rs.flatten.length+m
    ·exact g.rkk A1 i1 c3 i3 (by rw [J.b.size];exact i4)
    ·rw [kU (g.out i (.inr (by walk_at "o"))),kU (g.out j (.inr (by walk_at "o")))]
     exact A1 i j i1 (by walk_at "o") (by rw [J.b.size];exact i4)
   have g:=(g.mono (Nat.le_refl _) (show rs.flatten.length+m<=rs.flatten.length+n by walk_at "o")).trans g2
   clear hs g2
   have hs:=hs2
   show wpS _ _ _ _ _ _ (setArr st' ys)
   rw [if_neg (by decide)]
   generalize ys=xs at *
   obtain ⟨r,r1,r2,r3,r4⟩:=J.run hn1 hn2 g hs
   have J1:=J.with r3 r4
   have r5:∀ x ∈ r,∀ y ∈ zF.drop n,rk x<=rk y:=fun x hx y hy=>by
    have:=re
    rw [<- List.take_append_drop n zF] at this
    exact (List.pairwise_append.mp this).2.2 x (r3.mem_iff.mp hx) y hy
   have re':(zF.drop n).Pairwise fun x y=>rk x<=rk y:=re.sublist (List.drop_sublist _ _)
   have fin:∀ rs' st2,Rns rk a₀ rs' (r ++ zF.drop n) st2->rs'.flatten.length=rs.flatten.length->∃ rs2 rest2,((none,rs.flatten.length+n):Option Unit × Nat)=(none,rs2.flatten.length)/\Rns rk a₀ rs2 rest2 (setPending st2 ((pendingOf st2).push (rs.flatten.length,n,0)))/\rest2.Pairwise (fun x y=>rk x<=rk y)/\(t+1<=rs2.flatten.length \/ rest2=[]):=fun rs' st2 J' hl=>by
    have J2:=J'.push (by walk_at "o") r2 r5
    rw [hl,r1] at J2
    have fl:(rs' ++ [r]).flatten.length=rs.flatten.length+n:=by rw [List.flatten_append,List.flatten_cons,List.flatten_nil,List.append_nil,List.length_append,hl,r1]
    refine ⟨rs' ++ [r],zF.drop n,by rw [fl],J2,re',?_⟩
    rw [fl]
    rcases hc with hc | hc
    ·exact .inl (by walk_at "o")
    ·rw [hc,List.length_nil] at hn2;walk_at "o"
   refine wpS_bind (wpS_get ?_)
   cases hb:(pendingOf (setArr st' xs)).back? with
   | none=>exact wpS_bind (wpS_modify (wpS_pure (fin rs _ J1 rfl)))
   | some p=>
    obtain ⟨s1,n1,p1⟩:=p
    dsimp only
    refine wpS_bind (wpS_mono (wpS_forRange (I:=fun _ c st2=>c=(none,())/\∃ rs',Rns rk a₀ rs' (r ++ zF.drop n) st2/\rs'.flatten.length=rs.flatten.length) (Q:=fun c st2=>c=(none,())/\∃ rs',Rns rk a₀ rs' (r ++ zF.drop n) st2/\rs'.flatten.length=rs.flatten.length) ?_ (fun _ _ hh=>hh) ⟨rfl,rs,J1,rfl⟩) ?_)
    ·rintro u c st2 _ _ ⟨rfl,rs',J',hl⟩
     refine wpS_bind (wpS_get ?_)
     have ps:=J'.psize
     by_cases c5:(pendingOf st2).size > 1
     ·rw [if_pos c5]
      cases hq:(pendingOf st2)[(pendingOf st2).size - 2]? with
      | none=>exact wpS_pure ⟨rfl,rs',J',hl⟩
      | some q=>
       dsimp only
       refine qq (fun _=>wpS_pure ⟨rfl,rs',J',hl⟩) fun _=>?_
       refine wpS_bind (J'.merge h0 (by walk_at "o") fun rs2 st3 l2 f2 J2=>?_)
       rw [if_neg (by decide)]
       exact wpS_pure ⟨rfl,rs2,J2,by walk_at "o"⟩
     ·rw [if_neg c5]
      exact wpS_pure ⟨rfl,rs',J',hl⟩
    ·rintro c st2 ⟨rfl,rs',J',hl⟩
     dsimp only
     refine wpS_bind (wpS_modify (wpS_bind (wpS_modify (wpS_pure ?_))))
     exact fin rs' _ (J'.power (fun _=>⟨rfl,rfl⟩)) hl
  ·have hn1:=m1
   have hn2:m<=zF.length:=by walk_at "o"
   generalize m=n at *
   obtain ⟨r,r1,r2,r3,r4⟩:=J.run hn1 hn2 g hs
   have J1:=J.with r3 r4
   have r5:∀ x ∈ r,∀ y ∈ zF.drop n,rk x<=rk y:=fun x hx y hy=>by
    have:=re
    rw [<- List.take_append_drop n zF] at this
    exact (List.pairwise_append.mp this).2.2 x (r3.mem_iff.mp hx) y hy
   have re':(zF.drop n).Pairwise fun x y=>rk x<=rk y:=re.sublist (List.drop_sublist _ _)
   have fin:∀ rs' st2,Rns rk a₀ rs' (r ++ zF.drop n) st2->rs'.flatten.length=rs.flatten.length->∃ rs2 rest2,((none,rs.flatten.length+n):Option Unit × Nat)=(none,rs2.flatten.length)/\Rns rk a₀ rs2 rest2 (setPending st2 ((pendingOf st2).push (rs.flatten.length,n,0)))/\rest2.Pairwise (fun x y=>rk x<=rk y)/\(t+1<=rs2.flatten.length \/ rest2=[]):=fun rs' st2 J' hl=>by
    have J2:=J'.push (by walk_at "o") r2 r5
    rw [hl,r1] at J2
    have fl:(rs' ++ [r]).flatten.length=rs.flatten.length+n:=by rw [List.flatten_append,List.flatten_cons,List.flatten_nil,List.append_nil,List.length_append,hl,r1]
    refine ⟨rs' ++ [r],zF.drop n,by rw [fl],J2,re',?_⟩
    rw [fl]
    rcases hc with hc | hc
    ·exact .inl (by walk_at "o")
    ·rw [hc,List.length_nil] at hn2;walk_at "o"
   refine wpS_bind (wpS_get ?_)
   cases hb:(pendingOf (setArr st' xs)).back? with
   | none=>exact wpS_bind (wpS_modify (wpS_pure (fin rs _ J1 rfl)))
   | some p=>
    obtain ⟨s1,n1,p1⟩:=p
    dsimp only
    refine wpS_bind (wpS_mono (wpS_forRange (I:=fun _ c st2=>c=(none,())/\∃ rs',Rns rk a₀ rs' (r ++ zF.drop n) st2/\rs'.flatten.length=rs.flatten.length) (Q:=fun c st2=>c=(none,())/\∃ rs',Rns rk a₀ rs' (r ++ zF.drop n) st2/\rs'.flatten.length=rs.flatten.length) ?_ (fun _ _ hh=>hh) ⟨rfl,rs,J1,rfl⟩) ?_)
    ·rintro u c st2 _ _ ⟨rfl,rs',J',hl⟩
     refine wpS_bind (wpS_get ?_)
     have ps:=J'.psize
     by_cases c5:(pendingOf st2).size > 1
     ·rw [if_pos c5]
      cases hq:(pendingOf st2)[(pendingOf st2).size - 2]? with
      | none=>exact wpS_pure ⟨rfl,rs',J',hl⟩
      | some q=>
       dsimp only
       refine qq (fun _=>wpS_pure ⟨rfl,rs',J',hl⟩) fun _=>?_
       refine wpS_bind (J'.merge h0 (by walk_at "o") fun rs2 st3 l2 f2 J2=>?_)
       rw [if_neg (by decide)]
       exact wpS_pure ⟨rfl,rs2,J2,by walk_at "o"⟩
     ·rw [if_neg c5]
      exact wpS_pure ⟨rfl,rs',J',hl⟩
    ·rintro c st2 ⟨rfl,rs',J',hl⟩
     dsimp only
     refine wpS_bind (wpS_modify (wpS_bind (wpS_modify (wpS_pure ?_))))
     exact fin rs' _ (J'.power (fun _=>⟨rfl,rfl⟩)) hl
 ·rintro c st' ⟨rs,zF,rfl,J,re,hc⟩
  have js:=J.size
  rw [Nat.max_eq_right (Nat.zero_le _)] at hc
  have:zF=[]:=by
   rcases hc with hc | hc
   ·exact List.length_eq_zero_iff.mp (by walk_at "o")
   ·exact hc
  subst this
  exact ⟨rs,rfl,J⟩
 rintro c st' ⟨rs,rfl,J⟩
 have js:=J.size
 have jl:=Bb J.ne
 rw [List.length_nil] at js
 dsimp only
 refine wpS_bind (wpS_mono (wpS_forRange (I:=fun t c st2=>c=(none,())/\∃ rs',Rns rk a₀ rs' [] st2/\(rs'.length+t<=a₀.size \/ rs'.length<=1)) (Q:=fun c st2=>c=(none,())/\∃ rs',Rns rk a₀ rs' [] st2/\rs'.length<=1) ?_ ?_ ⟨rfl,rs,J,.inl (by walk_at "o")⟩) ?_)
 ·rintro t c st2 _ ht ⟨rfl,rs',J',hl⟩
  refine wpS_bind (wpS_get ?_)
  have ps:=J'.psize
  by_cases c1:(pendingOf st2).size<=1
  ·rw [if_pos c1];exact wpS_pure ⟨rfl,rs',J',by walk_at "o"⟩
  rw [if_neg c1]
  refine wpS_bind (J'.merge h0 ?_ fun rs2 st3 l2 f2 J2=>?_)
  ·exact Nat.lt_of_le_of_lt (Nat.add_le_add_right EU 1) (by walk_at "o")
  ·rw [if_neg (by decide)]
   exact wpS_pure ⟨rfl,rs2,J2,by walk_at "o"⟩
 ·rintro c st2 ⟨rfl,rs',J',hl⟩
  exact ⟨rfl,rs',J',by walk_at "o"⟩
 ·rintro c st2 ⟨rfl,rs',J',hl⟩
  exact wpS_pure (h st2 J'.b (J'.end hl))
end
end L2
namespace L2
open PySem PyProof.Rows
section
variable {prog:Program}{w:World}{A:Around}{E:Value->Shared->Prop}{s:Shared}
theorem ZK:100000<sizeLine:=by rw [sizeLine_eq];decide
theorem Lq {xs:Array Keyed}{n:Nat}{rk:Keyed->Int}(hn:n<=xs.size)(h:xs.toList.Pairwise (LEr rk)):SortedTo xs n:=fun i j hij hj=>by
 have e:∀ k,k<xs.size->K xs k=kn (xs.toList[k]?.getD (.none,.none)):=fun k hk=>by
  unfold K kn
  rw [Array.getElem?_toList,Array.getElem?_eq_getElem hk];rfl
 rw [e i (by walk_at "o"),e j (by walk_at "o")]
 exact Zd h hij (by rw [Array.length_toList];walk_at "o")
theorem Q0 {a:Addr}{vs:List Value}{ns:List Int}{n:Nat}{P:Fin->Shared->Prop}(ho:s.heap.get? a=some (seqObj "list" vs.toArray n))(hI:IntsAre vs ns)(hz:vs.length<=100000)
  (h:∀ (out:Array Value) (ns':List Int),IntsAre out.toList ns'->ns'.Perm ns->ns'.Pairwise (·<=·)->P (.done (.ret .none)) { s with heap:=sortedHeap s.heap a vs out }):wpAny (model prog w) A (Builtin.«list.sort» ⟨[.ref a],[]⟩) P E s:=by
 by_cases h64:vs.length<64
 ·exact list_sort_tree ho hI h64 h
 have sl:=ZK
 obtain ⟨v1,v2,vr,ev⟩:∃ v1 v2 vr,vs=v1 :: v2 :: vr:=by
  match vs,h64 with
  | [],q=>exact absurd (by simp) q
  | [_],q=>exact absurd (by simp) q
  | x :: y :: z,_=>exact ⟨x,y,z,rfl⟩
 have az:a<s.heap.objs.size:=Heap.lt_size ho
 obtain ⟨e1,g1⟩:∃ e1,(s.heap.update a (Obj.mapSeq fun _=>#[])).get? a=some (seqObj "list" #[] e1):=⟨_,get?_update_seq ho fun _=>#[]⟩
 have g3:(((s.heap.update a (Obj.mapSeq fun _=>#[])).push (seqObj "tuple" vs.toArray 0)).push (seqObj "list" #[] 0)).get? a=some (seqObj "list" #[] e1):=by
  refine (Heap.get?_push_ne _ _ _ ?_).trans ((Heap.get?_push_ne _ _ _ ?_).trans g1)
  ·rw [size_push',Heap.size_update];exact Nat.ne_of_lt (Nat.lt_succ_of_lt az)
  ·rw [Heap.size_update];exact Nat.ne_of_lt az
 have vz:vs.toArray.size=vs.length:=List.size_toArray
 rw [list_sort_plain]
 refine wpAny_bind (listItems_at ho rfl (wpAny_bind (listUpdate_at ho rfl (wpAny_bind (seqEpoch_at g1 rfl ?_)) (by walk_at "o") (by show 0<=_;walk_at "o"))))
 refine wpAny_bind (wpAny_newTuple (wpAny_bind (wpAny_newList (wpAny_holding ?_) (by show 0<=_;walk_at "o"))) (by show vs.length<=_;walk_at "o"))
 show wpAny (model prog w) A _ P E { s with heap:=((s.heap.update a (Obj.mapSeq fun _=>#[])).push (seqObj "tuple" vs.toArray 0)).push (seqObj "list" #[] 0) }
 dsimp only
 have two:¬ vs.toArray.size<2:=by walk_at "o"
 rw [if_neg two,if_neg two]
 have kk:keyKind' vs.toArray=pure oneType':=by rw [ev];rw [ev] at hI;exact keyKind_ints hI
 rw [kk]
 refine wpAny_bind (wpAny_pure (wpAny_bind (wpAny_mono (QJ (rk:=fun _=>0) (a₀:=pairsOf vs) (st:=SortSt.mk' oneType' (vs.toArray.zip vs.toArray) #[] 7 none)
  (Q:=fun _ st'=>SoB (pairsOf vs) st'/\(arrOf st').toList.Pairwise (LEr fun _=>0)) hI.intKeys ⟨Array.Perm.refl _,rfl,rfl⟩ rfl (FN fun _ _ _ _ _ _ _=>Int.le_refl _) fun st' b p=>⟨b,p⟩) ?_ fun _ _ e=>e)))
 rintro ⟨⟨⟩,st'⟩ s' ⟨rfl,hB,hp⟩
 have sz:(arrOf st').size=vs.length:=hB.size.trans (pairsOf_size vs)
 refine wpAny_bind (seqEpoch_at g3 rfl (wpAny_bind (listUpdate_at g3 rfl ?_ (by show 0<=_;walk_at "o") (by show ((arrOf st').map _).size<=_;rw [Array.size_map,sz];walk_at "o"))))
 rw [hB.failed]
 dsimp only
 rw [bne_self_eq_false,if_neg (by decide)]
 obtain ⟨ns',a1,a2,a3⟩:=sorted_out hI hB.perm (Lq (by rw [hB.size];exact Nat.le_refl _) hp)
 exact wpAny_pure (h _ ns' a1 a2 a3)
end
section
variable {prog:Program}{w:World}{A:Around}{E:Value->Shared->Prop}{s:Shared}
noncomputable def Eu (h:Heap)(vs:List Value):Heap:=(h.push (seqObj "list" #[] 0)).update h.objs.size (Obj.mapSeq (· ++ vs.toArray))
theorem Ze {l:Addr}{vs:List Value}{ns:List Int}{Q:Value->Shared->Prop}(hc:∀ (A':Around) (R:List Value->Shared->Prop),R vs { s with heap:=Eu s.heap vs }->wpAny (model prog w) A' (collect (.ref l)) R E s)(hI:IntsAre vs ns)(hz:vs.length<=100000)
  (h:∀ (out:Array Value) (ns':List Int),IntsAre out.toList ns'->ns'.Perm ns->ns'.Pairwise (·<=·)->Q (.ref (s.heap.objs.size+1)) { s with heap:=sortedAll s.heap vs out }):wpAny (model prog w) A (call (.builtin "sorted") [.ref l]) Q E s:=by
 have sl:=ZK
 have gz:(Eu s.heap vs).objs.size=s.heap.objs.size+1:=(Heap.size_update ..).trans (size_push' _ _)
 have at1:((Eu s.heap vs).push (seqObj "list" vs.toArray 0)).get? (s.heap.objs.size+1)=some (seqObj "list" vs.toArray 0):=by rw [<- gz];exact Heap.get?_push_size _ rfl
 refine Calls.call_function_entry kind_sorted plain_sorted entry_sorted (args_sorted1 _) ?_
 unfold Builtin.«sorted»
 refine wpAny_bind (m:=checkCount "sorted" 1 1 _) (wpAny_pure (wpAny_bind (hc _ _ (wpAny_bind (wpAny_newList ?_ (by show vs.length<=_;walk_at "o"))))))
 show wpAny _ _ _ _ _ { s with heap:=(Eu s.heap vs).push (seqObj "list" vs.toArray 0) }
 rw [gz]
 exact wpAny_bind (wpAny_holding (wpAny_call_entry slot_list_sort ⟨_,at1,rfl⟩ entry_list_sort (Q0 at1 hI hz fun out ns' a1 a2 a3=>⟨_,rfl,wpAny_pure ⟨_,rfl,h out ns' a1 a2 a3⟩⟩) (args_list_sort _)))
end
section
variable {X:Cx}
theorem Qc:qH X (.builtin "sorted") (fun xs H Q=>∃ p ns,xs=[.ref p]/\SqL X.K H p (List.map V.int ns)/\ns.length<=1000/\∀ l ns',H l=none->ns'.Perm ns->ns'.Pairwise (·<=·)->Q (.ref l) (upd H l (.lst (List.map V.int ns')))):=by
 rintro pins s σ H xs us Q I r ⟨p,ns,rfl,hq,h64,q⟩
 obtain ⟨u,rfl,rx⟩:=jF r
 cases rx
 obtain ⟨its,rv,pl,hz⟩:=I.list hq
 have hlen:=rv.length
 rw [List.length_map] at hlen
 have sl:=ZK
 refine Ze (fun A' R r=>collect_list pl.isList r (by walk_at "o")) (xI rv) (by walk_at "o") fun out ns' a1 a2 a3=>?_
 obtain ⟨k,he⟩:=sortedAll_at s.heap its out
 refine ⟨.ref (s.heap.objs.size+1),_,I.laid (t':=s.toks) (fun _ _=>sortedAll_old) (Nat.le_succ _) (show zX X.prog X.w _ _ _ (.lst (List.map V.int ns')) from ⟨?_,out.toList,k,jS a1,by simpa [seqObj] using he⟩),rfl,q _ _ (I.hok.fresh (Nat.le_succ _)) a2 a3⟩
 rw [List.length_map,a2.length_eq];walk_at "o"
theorem wC:qH X (.builtin "sorted") (fun xs H Q=>∃ p ns,xs=[.ref p]/\SqT X.K H p (List.map V.int ns)/\ns.length<=1000/\∀ l ns',H l=none->ns'.Perm ns->ns'.Pairwise (·<=·)->Q (.ref l) (upd H l (.lst (List.map V.int ns')))):=by
 rintro pins s σ H xs us Q I r ⟨p,ns,rfl,hq,h64,q⟩
 obtain ⟨u,rfl,rx⟩:=jF r
 cases rx
 obtain ⟨its,rv,pl,hz⟩:=I.tuple hq
 have hlen:=rv.length
 rw [List.length_map] at hlen
 have sl:=ZK
 refine Ze (fun A' R r=>Q9 pl r (by walk_at "o")) (xI rv) (by walk_at "o") fun out ns' a1 a2 a3=>?_
 obtain ⟨k,he⟩:=sortedAll_at s.heap its out
 refine ⟨.ref (s.heap.objs.size+1),_,I.laid (t':=s.toks) (fun _ _=>sortedAll_old) (Nat.le_succ _) (show zX X.prog X.w _ _ _ (.lst (List.map V.int ns')) from ⟨?_,out.toList,k,jS a1,by simpa [seqObj] using he⟩),rfl,q _ _ (I.hok.fresh (Nat.le_succ _)) a2 a3⟩
 rw [List.length_map,a2.length_eq];walk_at "o"
end
theorem wF {X:Cx}:qH X (.builtin "sorted") (fun xs H Q=>∃ p ns,xs=[.ref p]/\(SqL X.K H p (List.map V.int ns) \/ SqT X.K H p (List.map V.int ns))/\ns.length<=1000/\∀ l ns',H l=none->ns'.Perm ns->ns'.Pairwise (·<=·)->Q (.ref l) (upd H l (.lst (List.map V.int ns')))):=by
 rintro pins s σ H xs us Q I r ⟨p,ns,e,hq | hq,h64,q⟩
 ·exact Qc _ _ _ _ _ _ _ I r ⟨p,ns,e,hq,h64,q⟩
 ·exact wC _ _ _ _ _ _ _ I r ⟨p,ns,e,hq,h64,q⟩
noncomputable def vY:List AV->MH->(List AV->Prop)->Prop:=fun xs M Q=>∃ x ns,xs=[x]/\qm x M=some (List.map (fun i=>AV.d (.int i)) ns)/\ns.length<=1000/\∀ ns',ns'.Perm ns->List.Pairwise (fun x1 x2=>x1<=x2) ns'->Q (List.map (fun i=>AV.d (.int i)) ns')
theorem xX {K:PySem.W.Frag}:X8 (fun xs H Q=>∃ p ns,xs=[V.ref p]/\(SqL K H p (List.map V.int ns) \/ SqT K H p (List.map V.int ns))/\ns.length<=1000/\∀ (l:Addr) (ns':List Int),H l=none->ns'.Perm ns->List.Pairwise (fun x1 x2=>x1<=x2) ns'->Q (V.ref l) (upd H l (HO.lst (List.map V.int ns')))) vY:=⟨fun w r ⟨x,ns,e,h,hl,q⟩ k=>by
 subst e
 obtain ⟨v,rfl,rv⟩:=qP r
 obtain ⟨a,xs,rfl,h1,r1⟩:=wr w rv h
 rw [jX r1] at h1
 exact ⟨a,ns,rfl,h1.imp SqL.of SqT.of,hl,fun l ns' hp h2 h3=>k _ _ (q ns' h2 h3) (Qb ns') l hp⟩⟩
theorem Xm {K:PySem.W.Frag}{u:TA}{b:AA}(h:kB u b):zY (tCB (fun xs H Q=>∃ p ns,xs=[V.ref p]/\(SqL K H p (List.map V.int ns) \/ SqT K H p (List.map V.int ns))/\ns.length<=1000/\∀ (l:Addr) (ns':List Int),H l=none->ns'.Perm ns->List.Pairwise (fun x1 x2=>x1<=x2) ns'->Q (V.ref l) (upd H l (HO.lst (List.map V.int ns')))) u) (aFz (fCB vY b)):=vt (Z3 xX h)
end L2
namespace Ot
open PySem PySem.Spec PyProof.Rows L2
noncomputable def top (i:Nat):Stmt:=PySem.Challenge.pw_ownturn_k69_whole_leaders_go_round.main.body.getD i (.Pass ⟨0,0,0,0⟩)
section
variable {P:Program}{w:World}{K:PySem.W.Frag}{mg:Str->Option Value}{base:Heap}{k:Nat}
local macro_rules | `(tactic| walk_at "rd")=>`(tactic| try simp only [AX,DY,E3,wU,tOp,tUn,rU,Qg,tC,tB,IY,Iz,X4,rI0,rI,BB,Q2,HE,Yt,Dg,Ed,BV,GX,Iu,tCB,AD,Ip,FQ,YB,FB,Kg,Fh,G7,rEq,rNe,Ic,GB,tBM,vd,vk,vq,V1,F6,Lb,ipI,Xh,Xs,Vy,Vc,tIf,tOr,F8,HL,AR,Ii,Hi,Ql,Bo,cxK,B1,FP,FF,iLT,FU,Qd,Lp,tSl,BO,ZG,GK,List.append_nil,
 List.getElem?_cons_zero,List.getElem?_cons_succ,Option.some.injEq,exists_eq_left',exists_eq_left,V.int.injEq,V.ref.injEq,V.bl.injEq,List.cons.injEq,and_true,true_and,and_assoc,decide_eq_true_eq,Bool.not_eq_true',decide_eq_false_iff_not,Bool.false_eq_true,if_false,if_true,reduceIte,exists_and_left,exists_and_right,List.set_cons_zero,List.set_cons_succ,List.nil_append,List.cons_append])
theorem xh {H:Hp}{a b:Addr}{o:HO}(h':H b=none)(h:H a=some o):a ≠ b:=zj h h'
theorem yb {H H':Hp}{l:Addr}(h:H' l=none)(e:Kp [] H H'):H l=none:=e.free h
theorem K8 {K:PySem.W.Frag}{H H':Hp}{a:Addr}{xs:List V}(h:SqL K H a xs)(e:Kp [] H H'):SqL K H' a xs:=by
 rcases h with (h | ⟨o,h⟩) | h
 ·exact .inl (.inl (e _ _ (by simp) h))
 ·exact .inl (.inr ⟨o,e _ _ (by simp) h⟩)
 ·exact .inr h
theorem hsl:100000<sizeLine:=by rw [sizeLine_eq];decide
theorem Jt {α:Type}(k:Nat)(v:α):(List.replicate k [v]).flatten=List.replicate k v:=by simp
theorem jv (i:Int){j:Int}(h:0<j):0<=i % j/\i % j<j:=⟨Int.emod_nonneg _ (by walk_at "o"),Int.emod_lt_of_pos _ h⟩
theorem Hf {i j:Int}(h1:0<=i)(h2:i<18446744073709551616):W9 i j:=.inl ⟨by walk_at "o",by walk_at "o"⟩
theorem KW {i j:Int}(h1:0<=j)(h2:j<18446744073709551616):W9 i j:=.inr ⟨by walk_at "o",by walk_at "o"⟩
theorem b01 (c:Prop)[Decidable c]:0<=(if c then (1:Int) else 0):=by split <;> decide
theorem Yi {i j:Int}(h1:0<j)(h2:j<1073741824):B7 i j:=⟨h1,h2⟩
local macro_rules | `(tactic| walk_at "ne")=>`(tactic| first | (with_reducible assumption) | exact Ne.symm (by with_reducible assumption) | exact xh (by with_reducible assumption) (by walk_at "hp") | exact Ne.symm (xh (by with_reducible assumption) (by walk_at "hp")))
local macro_rules | `(tactic| walk_at "hp")=>`(tactic| first | (with_reducible assumption) | (with_reducible exact zf) | ((with_reducible refine Eq.trans (zq ?ne) ?_);(case ne=>walk_at "ne");walk_at "hp"))
local macro_rules | `(tactic| walk_at "kp")=>`(tactic| first | (with_reducible assumption) | (with_reducible exact Kp.refl) | ((with_reducible refine Kp.trans ?_ (Kp.new _ ?h));(case h=>with_reducible assumption);walk_at "kp") | ((with_reducible refine Kp.trans ?_ (Kp.set _ ?h));(case h=>(simp;done));walk_at "kp"))
local macro_rules | `(tactic| walk_at "fr")=>`(tactic| first | (with_reducible assumption) | exact yb (by with_reducible assumption) (by walk_at "kp"))
local macro_rules | `(tactic| walk_at "sz")=>`(tactic| (simp only [List.length_cons,List.length_nil,List.length_map,List.length_append,List.length_replicate,List.length_take,List.length_drop,zC,Jt,Nat.zero_add,Nat.one_mul];walk_at "o"))
local macro_rules | `(tactic| walk_at "fact")=>`(tactic| first | (with_reducible assumption) | exact rfl | exact SqL.of (by walk_at "hp") | exact SqT.of (by walk_at "hp") | exact Or.inl (SqL.of (by walk_at "hp")) | exact Or.inr (SqT.of (by walk_at "hp")) | exact Or.inl (by with_reducible assumption) | exact K8 (by with_reducible assumption) (by walk_at "kp") | exact Or.inl (K8 (by with_reducible assumption) (by walk_at "kp")) | exact Exists.intro _ (SqL.of (by walk_at "hp")) | exact Exists.intro _ (K8 (by with_reducible assumption) (by walk_at "kp")) | (walk_at "hp") | decide | walk_at "o" | exact Hf (by walk_at "o") (by walk_at "o") | exact KW (by walk_at "o") (by walk_at "o") | exact Yi (by walk_at "o") (by walk_at "o") | exact ⟨by walk_at "o",by walk_at "o"⟩ | (walk_at "sz") | exact ⟨by decide,by decide,by decide⟩ | exact KW (b01 _) (b01' _) | (walk_at "fr"))
local macro_rules | `(tactic| walk_at "x1")=>`(tactic| first
 | ((with_reducible refine Exists.intro ?w (And.intro ?h ?_));(case h=>walk_at "fact"))
 | ((with_reducible refine And.intro ?h ?_);(case h=>walk_at "fact"))
 | ((with_reducible refine Exists.intro ?w (Exists.intro ?w2 (And.intro ?h ?_)));(case h=>walk_at "fact")))
local macro_rules | `(tactic| walk_at "xs")=>`(tactic| repeat walk_at "x1")
local macro_rules | `(tactic| walk_at "sim1") => `(tactic| first
 | ((with_reducible apply simX_tryR Yg);intro HX_ OX_ MX_ E_ EA_ hE_)
 | (with_reducible first | apply Dl | apply Ac | apply BY | apply V2 | apply KU | apply Fo | exact Yg | apply KY)
 | ((with_reducible apply sim_try);intro HX_ OX_ MX_ E_ EA_ hE_)
 | ((with_reducible apply sim_try0);intro HX_ OX_ MX_ E_ EA_ hE_)
 | (with_reducible first | assumption | apply Bk | exact Ez | exact Iw | exact Im | exact Gd | exact GH | exact EK | exact AH | exact V6 | exact Bz | exact Eh | exact Dk | exact Vi | exact D2 | exact Hd | exact D9 | exact As | exact Wo | exact FY | exact Ef | exact WA | exact Eo | exact Eb | exact Ij | exact EE | exact BJ | exact Aq | exact Ff | exact B6 | exact Kq | exact Ko | exact Xk | exact VV | exact JR | exact Bu | exact Zr | exact xX | exact YY | apply Fp | apply DW | apply Fi | apply DO | apply WL | apply EM | apply Vg | apply EI | apply DD | apply WY | apply VE | apply AW | apply Bl | apply IX | apply EQ | apply F4 | apply Ei | apply Hr | apply DR | apply Gw | apply Wl | apply EY | apply F0 | apply VL | apply Ad | apply Ae | apply GI | apply G6 | apply JZ | apply Aa | apply Yq | apply E5 | apply WM | apply Z3 | apply VQ | apply E2 | apply WW | apply Dh | apply HR | apply YX | apply Xm | apply Hk | apply vt))
local macro_rules | `(tactic| walk_at "sim")=>`(tactic| repeat' walk_at "sim1")
local macro_rules | `(tactic| walk_at "ra")=>`(tactic| try simp only [vY,ZT,BH,Jh,aC,aOp,aUn,DB,JH,aCB,Ds,aFz,aOw,ID,IT,aB,XM,Li,aOr,GF,FC,aIf,Al,XB,kZ,Am,HG,Ep,BI,jj,FH,W3,FL,B3,asL,HJ,Lc,IF,G4,aiS,Lm,aiE,wV,BN,aI,aI0,aU,aIx,fOp,Gh,Lk,IW,FO,fSl,IE,IS,HH,bI1,bI2,fCB,Wq,Lg,Fx,IU,FK,IQ,Fs,FW,aBM,Yo,XD,XH,Wm,Ex,Hj,W7,Gp,Ig,Hg,IZ,Lj,Ln,Ld,Lh,IK,WU,Vv,Option.map_some,By,B4,Ab,B5,KH,Xa,FZ,GA,Ha,GM,Hv,HU,HP,Gm,Hb,GU,HD,Io,G5,GC,Gb,HM,Hh,HZ,Il,HC,GT,GG,Gx,HQ,Gk,Ga,F5,Gj,GE,G0,EF,V8,qf,zT,EB,jH,WR,Hy,HY,HW,D8,ET,DT,D1,D3,Et,Ej,yE,IB,Dt,GJ,HS,Kl,WK,Gi,Hx,GR,HN,F9,He,GW,id,decide_true,decide_false,Bool.decide_eq_true,not_true_eq_false,not_false_eq_true,vo,
 List.getElem?_cons_zero,List.getElem?_cons_succ,Option.some.injEq,exists_eq_left',exists_eq_left,AV.d.injEq,AV.ref.injEq,Dat.int.injEq,Dat.bl.injEq,Dat.str.injEq,Dat.lst.injEq,Dat.tup.injEq,Dat.ty.injEq,List.cons.injEq,and_true,true_and,and_assoc,decide_eq_true_eq,Bool.not_eq_true',decide_eq_false_iff_not,Bool.false_eq_true,if_false,if_true,reduceIte,exists_and_left,exists_and_right,List.set_cons_zero,List.set_cons_succ,List.nil_append,List.cons_append,List.length_map,List.map_cons,List.map_nil,Nat.zero_le,Bool.not_true,Bool.not_false,Bool.true_eq_false,eq_self,List.length_cons,List.length_nil])
local macro_rules | `(tactic| walk_at "sk")=>`(tactic| (refine zo fun r9 hr9=>?_;walk_at "ra";refine ⟨_,rfl,_,rfl,by rw [Dt];walk_at "o",?_⟩;rw [WK,if_neg (by decide +kernel)];subst hr9))
theorem vL (ns:List Int)(lo hi:Option Int):ZD (ns.map V.int) lo hi=List.map V.int ((ns.drop (HT.sIx ns.length 0 lo)).take (HT.sIx ns.length ns.length hi - HT.sIx ns.length 0 lo)):=by
 unfold ZD
 rw [List.length_map,<- List.map_drop,<- List.map_take]
theorem xS (cs:List Int)(j:Nat)(v:Int):(cs.map V.int).set j (.int v)=(cs.set j v).map V.int:=by rw [List.map_set]
theorem zK {cs:List Int}{k:Int}(h0:0<=k)(h1:k<cs.length):ixN (cs.map V.int).length k=some k.toNat/\atI (cs.map V.int) k=some (.int (cs.getD k.toNat 0)):=by
 have hk:k.toNat<cs.length:=by walk_at "o"
 have e1:ixN (cs.map V.int).length k=some k.toNat:=by unfold ixN;rw [List.length_map,if_pos h0,if_pos h1]
 refine ⟨e1,?_⟩
 unfold atI
 rw [e1]
 show (cs.map V.int)[k.toNat]?=_
 rw [List.getElem?_map,List.getD_eq_getElem?_getD,List.getElem?_eq_getElem hk];rfl
theorem qA {ns:List Int}{i:Nat}{x:V}(h:(ns.map V.int)[i]?=some x):x=.int (ns.getD i 0)/\i<ns.length:=by
 rw [List.getElem?_map] at h
 cases e:ns[i]? with
 | none=>rw [e] at h;cases h
 | some v=>
  rw [e] at h
  cases h
  exact ⟨by rw [List.getD_eq_getElem?_getD,e];rfl,(List.getElem?_eq_some_iff.mp e).1⟩
theorem Kp.un {bs:List Addr}{p:Addr}{H H':Hp}(h:Kp (p :: bs) H H')(hp:H p=none):Kp bs H H':=fun c o n e=>h c o (by
 intro z
 rcases List.mem_cons.mp z with z | z
 ·subst z;rw [hp] at e;cases e
 ·exact n z) e
theorem ku {K:PySem.W.Frag}{H H':Hp}{a:Addr}{xs:List V}(h:SqL K H a xs \/ SqT K H a xs)(e:Kp [] H H'):SqL K H' a xs \/ SqT K H' a xs:=h.imp (fun z=>A5 z e) (fun z=>WN z e)
noncomputable def rfs (rs:List (Addr × List Int)):List V:=rs.map fun r=>V.ref r.1
noncomputable abbrev Xy:Stmt:=top 35
theorem Ye:zw ["_law_box_here","_law_many","_law_once","_law_found"] ["_law_box_here","_law_many"] (zi Xy):=⟨rfl,rfl,rfl,by decide +kernel,rfl,by decide +kernel,by decide +kernel⟩
noncomputable def xL:Sp:=fun vs H Q _=>∃ (b:Addr) (many:Int) (N:Nat),vs=[.ref b,.int many]/\Bx H b N/\N<1000000000/\0<many/\many<1073741824/\∀ r H',Kp [b] H H'->Bx H' b (N+1)->0<=r->r<many->Q (.int r) H'
theorem EL (a:At K mg "_law_take" Xy)(B:Blt mg):Df P w K mg base "_law_take" ["_law_box_here","_law_many"] 1 xL:=by
 refine qS (k:=0) a Ye (fun _ _ _ _ _ _=>Pn2_ fun _ _=>rfl) (fun vs H Q E h=>?_) (fun f cdv A outer s H vs Q E hr h=>?_)
 ·obtain ⟨b,m,N,rfl,_⟩:=h;rfl
 obtain ⟨b,m,N,rfl,⟨x,y,z,hb,hx,hy,hy',hz,hz'⟩,hN,hm,hm',q⟩:=h
 have sc:=Ye
 refine ⟨_,(zc (qg (zB QC (zJ zU (pv 0) zg (fun _ _=>rfl)) zg (zD _)) (zc (ji (zn Jv rfl B.divmod VW (za (zJ zU (pv 0) zg (fun _ _=>rfl)) (za (pv 1) zb))) (jG (K:=K) 2 rfl rfl (zZ (qV (pv 0) zg qb) (zZ (zy (i:=3) sc.nd rfl (by first | exact Or.inl rfl | exact Or.inr rfl)) jE))))
  (ze (zx (pv 3)))) zG)
  (zc (ji (zp zS (zJ zU (pv 0) zg (fun _ _=>rfl)) zg) (qV (pv 0) zg qb))
  (zc (zr (i:=2) sc.nd rfl (by first | exact Or.inl rfl | exact Or.inr rfl) (zp qD (zp jn (zp zS (zJ zU (pv 0) zg (fun _ _=>rfl)) (zp jn zg (zJ zU (pv 0) zg (fun _ _=>rfl)))) (zp zS zg (zJ zU (pv 0) zg (fun _ _=>rfl)))) zg))
  (zc (ji (zp qD (zp zS (zp jn (pv 2) (zp zS (zp qD (pv 2) zg) zg)) (zJ zU (pv 0) zg (fun _ _=>rfl))) zg) (qV (pv 0) zg qb))
  (ze (zx (zp qD (zp xj (zp qD (zp jn (zJ zU (pv 0) zg (fun _ _=>rfl)) (zp zS (zp qD (zJ zU (pv 0) zg (fun _ _=>rfl)) zg) zg)) zg) zg) (pv 1)))))))),?_⟩
 rw [show start ["_law_box_here","_law_many","_law_once","_law_found"] [V.ref b,V.int m]=[some (.ref b),some (.int m),none,none] from rfl]
 walk_at "rd"
 walk_at "xs"
 refine kl (fun c=>?_) (fun c=>?_)
 ·walk_at "xs"
  refine fun p hp=>?_
  walk_at "xs"
  refine q _ _ ((Kp.new _ hp).trans (Kp.set _ (by simp))) ⟨_,_,_,zf,Int.ediv_nonneg hx (by walk_at "o"),hy,hy',hz,by walk_at "o"⟩ (jv x hm).1 (jv x hm).2
 ·walk_at "xs"
  refine q _ _ ((Kp.set _ (by simp)).trans (Kp.set _ (by simp))) ⟨_,_,_,zf,hx,?_,?_,?_,?_⟩ (jv _ hm).1 (jv _ hm).2
  ·exact (jv _ (by decide)).1
  ·exact Int.lt_trans (jv _ (by decide)).2 (by decide)
  ·walk_at "o"
  ·walk_at "o"
noncomputable abbrev WS:Stmt:=top 34
theorem Wz:zw ["_law_script","_law_k","_law_cell"] ["_law_script","_law_k"] (zi WS):=⟨rfl,rfl,rfl,by decide +kernel,rfl,by decide +kernel,by decide +kernel⟩
noncomputable def Fq:Sp:=fun vs H Q _=>∃ (a:Addr) (k:Int) (cs:List Int),vs=[.ref a,.int k]/\H a=some (il cs)/\0<=k/\k<=1000/\cs.length<=1000/\∀ p H',Kp [] H H'->H p=none->Bx H' p 0->Q (.ref p) H'
theorem DJ {cs:List Int}{k:Int}(h0:0<=k):∃ c:Int,atI (cs.map V.int ++ List.replicate (k+1).toNat (V.int 0)) k=some (.int c):=by
 have e:cs.map V.int ++ List.replicate (k+1).toNat (V.int 0)=(cs ++ List.replicate (k+1).toNat 0).map V.int:=by simp
 have ek:k=((k.toNat:Nat):Int):=by walk_at "o"
 have hk:k.toNat<(cs ++ List.replicate (k+1).toNat (0:Int)).length:=by rw [List.length_append,List.length_replicate];walk_at "o"
 refine ⟨(cs ++ List.replicate (k+1).toNat 0)[k.toNat],?_⟩
 rw [e]
 have q:atI ((cs ++ List.replicate (k+1).toNat (0:Int)).map V.int) ((k.toNat:Nat):Int)=some (.int (cs ++ List.replicate (k+1).toNat 0)[k.toNat]):=EZ (by rw [List.getElem?_map,List.getElem?_eq_getElem hk] <;> rfl)
 rw [<- ek] at q
 exact q
theorem Gg (a:At K mg "_law_box" WS)(B:Blt mg):Df P w K mg base "_law_box" ["_law_script","_law_k"] 1 Fq:=by
 refine qS (k:=0) a Wz (fun _ _ _ _ _ _=>Pn2_ fun _ _=>rfl) (fun vs H Q E h=>?_) (fun f cdv A outer s H vs Q E hr h=>?_)
 ·obtain ⟨a,k,cs,rfl,_⟩:=h;rfl
 obtain ⟨a,k,cs,rfl,ha,hk,hk',hcs,q⟩:=h
 have sc:=Wz
 have hsl:=hsl
 refine ⟨_,(zc (zr (i:=2) sc.nd rfl (by first | exact Or.inl rfl | exact Or.inr rfl) (zJ zU (zp xH (pv 0) (zp yz (qk (za zg zb)) (zp zS (pv 1) zg))) (pv 1) (fun _ _=>rfl)))
  (ze (zx (qk (za (zp jn (zn wt rfl B.abs KR (za (pv 2) zb)) (zR wH rfl B.int K4 (za (xt FE (zn wt rfl B.abs KR (za (pv 2) zb)) (zp Gv zg zg) (zD _)) zb))) (za (zp qD (zp jn (zp zS (zp zS (zp qD (pv 2) zg) (zp jn zg (pv 1))) zg) zg) zg) (za zg zb))))))),?_⟩
 rw [show start ["_law_script","_law_k","_law_cell"] [V.ref a,V.int k]=[some (.ref a),some (.int k),none] from rfl]
 walk_at "rd"
 walk_at "xs"
 intro p1 hp1
 walk_at "xs"
 intro p2 hp2
 walk_at "xs"
 intro p3 hp3
 simp only [Jt] at hp3 ⊢
 obtain ⟨c,hc⟩:=DJ (cs:=cs) hk
 walk_at "xs"
 intro p4 hp4
 refine q _ _ (by walk_at "kp") (by walk_at "fr") ⟨_,_,_,zf,?_,?_,?_,?_,?_⟩
 ·exact Int.mul_nonneg (by split <;> walk_at "o") (b01 _)
 ·exact (jv _ (by decide)).1
 ·exact Int.lt_trans (jv _ (by decide)).2 (by decide)
 ·decide
 ·decide
noncomputable abbrev wa:Stmt:=top 36
theorem Zk:zw ["_law_script","_law_many","_law_cells","_law_k","_law_cell"] ["_law_script","_law_many"] (zi wa):=⟨rfl,rfl,rfl,by decide +kernel,rfl,by decide +kernel,by decide +kernel⟩
noncomputable def JD (K:PySem.W.Frag):Sp:=fun vs H Q _=>∃ (a:Addr) (m:Int) (ns:List Int),vs=[.ref a,.int m]/\SqL K H a (ns.map V.int)/\0<m/\m<=60/\ns.length<=63/\∀ p H' cs,Kp [] H H'->H p=none->H' p=some (il cs)->cs.length<=1000->Q (.ref p) H'
theorem Vs (a:At K mg "_law_folded" wa)(B:Blt mg):Df P w K mg base "_law_folded" ["_law_script","_law_many"] 1 (JD K):=by
 refine qS (k:=0) a Zk (fun _ _ _ _ _ _=>Pn2_ fun _ _=>rfl) (fun vs H Q E h=>?_) (fun f cdv A outer s H vs Q E hr h=>?_)
 ·obtain ⟨a,k,cs,rfl,_⟩:=h;rfl
 obtain ⟨a,m,ns,rfl,ha,hm,hm',hns,q⟩:=h
 obtain ⟨M,rfl⟩:∃ M:Nat,m=M:=⟨m.toNat,by walk_at "o"⟩
 have sc:=Zk
 have hsl:=hsl
 refine ⟨_,(zc (zr (i:=2) sc.nd rfl (by first | exact Or.inl rfl | exact Or.inr rfl) (zR yf rfl B.list qZ (za (kS xU (pv 0) yh (jD (pv 1))) zb)))
  (zc (qi PassesOwn.never rfl (D4 rfl B.enumerate (za (kS xU (pv 0) (jD (pv 1)) (jD zg)) zb)) (jG (K:=K) 2 rfl rfl (zZ (zy (i:=3) sc.nd rfl (by first | exact Or.inl rfl | exact Or.inr rfl)) (zZ (zy (i:=4) sc.nd rfl (by first | exact Or.inl rfl | exact Or.inr rfl)) jE))) (ze (ji (zp zS (zJ zU (pv 2) (zp qD (pv 3) (pv 1)) (fun _ _=>rfl)) (zp jn (pv 4) (zp zS (pv 3) zg))) (qV (pv 2) (zp qD (pv 3) (pv 1)) qb))))
  (ze (zx (pv 2))))),?_⟩
 rw [show start ["_law_script","_law_many","_law_cells","_law_k","_law_cell"] [V.ref a,V.int M]=[some (.ref a),some (.int M),none,none,none] from rfl]
 walk_at "rd"
 walk_at "xs"
 intro p1 hp1
 rw [vL]
 walk_at "xs"
 intro p2 hp2
 walk_at "xs"
 intro p3 hp3
 rw [vL]
 have e63:(63:Int)=((63:Nat):Int):=rfl
 simp only [HT.sIx_none,HT.sIx_nat,e63,List.drop_zero,Nat.sub_zero] at hp2 hp3 ⊢
 walk_at "xs"
 generalize hc0:ns.take (min M ns.length)=c0 at hp2 hp3 ⊢
 generalize hd0:(ns.drop (min M ns.length)).take (min 63 ns.length - min M ns.length)=d0 at hp2 hp3 ⊢
 have lc:c0.length=min M ns.length:=by rw [<- hc0,List.length_take];walk_at "o"
 have ld:d0.length<=ns.length - M:=by rw [<- hd0,List.length_take,List.length_drop];walk_at "o"
 have n23:p2 ≠ p3:=by walk_at "ne"
 refine Ey (xs:=d0.map V.int) (fun i τ H'=>∃ u v cs,τ=[some (.ref a),some (.int M),some (.ref p2),u,v]/\Kp [p2] (upd (upd (upd H p1 (HO.lst (List.map V.int c0))) p2 (HO.lst (List.map V.int c0))) p3 (HO.lst (List.map V.int d0))) H'/\H' p2=some (il cs)/\cs.length=c0.length) ?_ ?_ ?_ ?_
 ·exact ⟨none,none,c0,rfl,Kp.refl,by walk_at "hp",rfl⟩
 ·rintro i τ H' _ ⟨u,v,cs,rfl,kp,_⟩
  exact SqL.of (kp _ _ (by simp [Ne.symm n23]) (by walk_at "hp"))
 ·rintro i x pp τ H' hx hpp ⟨u,v,cs,rfl,kp,hcs,hl⟩
  obtain ⟨rfl,hi⟩:=qA hx
  have b1:=jv (i:Int) hm
  obtain ⟨g1,g2⟩:=zK (cs:=cs) (k:=(i:Int) % (M:Int)) b1.1 (by walk_at "o")
  have hcs':upd H' pp (HO.tup [V.int i,V.int (d0.getD i 0)]) p2=some (il cs):=by walk_at "hp"
  walk_at "rd"
  walk_at "xs"
  refine ⟨(kp.trans (Kp.new _ hpp)).trans (Kp.set _ (by simp)),_,zf.trans (congrArg some (congrArg HO.lst (xS _ _ _))),by rw [List.length_set];exact hl⟩
 ·rintro τ H' ⟨u,v,cs,rfl,kp,hcs,hl⟩
  walk_at "rd"
  refine q _ _ cs (fun c o hc hh=>kp c o ?_ ((((Kp.new _ hp1).trans (Kp.new _ hp2)).trans (Kp.new _ hp3)) c o hc hh)) (by walk_at "fr") hcs (by walk_at "o")
  have:c ≠ p2:=xh (yb hp2 (Kp.new _ hp1)) hh
  simpa using this
noncomputable abbrev Je:List Int:=[0,1,2,3,4,5,6,7,4,5,6,7]
noncomputable abbrev vD:Stmt:=top 42
theorem Zc:zw ["_law_box_here","_law_most","_law_few"] ["_law_box_here","_law_most"] (zi vD):=⟨rfl,rfl,rfl,by decide +kernel,rfl,by decide +kernel,by decide +kernel⟩
noncomputable def JE:Sp:=fun vs H Q _=>∃ (b:Addr) (m:Int) (N:Nat),vs=[.ref b,.int m]/\Bx H b N/\N<100000000/\24<=m/\m<=1000/\∀ r H',Kp [b] H H'->Bx H' b (N+10)->0<=r->r<=m->Q (.int r) H'
theorem Y6 (a:At K mg "_law_length" vD)(B:Blt mg)(D_law_take:Df P w K mg base "_law_take" ["_law_box_here","_law_many"] 1 xL):Df P w K mg base "_law_length" ["_law_box_here","_law_most"] 2 JE:=by
 refine qS (k:=1) a Zc (fun _ _ _ _ _ _=>Pn2_ fun _ _=>rfl) (fun vs H Q E h=>?_) (fun f cdv A outer s H vs Q E hr h=>?_)
 ·obtain ⟨a,k,cs,rfl,_⟩:=h;rfl
 obtain ⟨b,m,N,rfl,hb,hN,hm,hm',q⟩:=h
 have sc:=Zc
 have hsl:=hsl
 refine' ⟨_,zc (qg (zB xE (zu D_law_take hr rfl (za (pv 0) (za zg zb))) zg (zD _)) (ze (zx (zp xO (pv 1) (zu D_law_take hr rfl (za (pv 0) (za (zn (wK rfl) rfl B.max WC (za zg (za (zp xj (pv 1) zg) zb))) zb)))))) zG) (zc _ _),?_⟩
 rotate_left 2
 ·refine' zr (i:=2) _ _ _ _ _ _
  rotate_left 1
  ·exact sc.nd
  ·rfl
  ·first | exact Or.inl rfl | exact Or.inr rfl
  ·refine' zJ _ _ _ _
   rotate_left 3
   ·exact zU
   ·refine' qk _
    rotate_left 1
    refine' XU (is:=[0,1,2,3,4,5,6,7,4,5,6,7]) _
    rfl
   ·exact (zu D_law_take hr rfl (za (pv 0) (za zg zb)))
   ·exact (fun _ _=>rfl)
  ·rfl
  ·first | exact .inl rfl | exact .inr rfl | assumption
 ·refine' ze _
  rotate_left 1
  refine' zx _
  rotate_left 1
  refine' zJ _ _ _ _
  rotate_left 3
  ·exact zU
  ·refine' qk _
   rotate_left 1
   refine' za _ _ _
   rotate_left 2
   ·exact pv 2
   ·exact (za (zp zS zg (zu D_law_take hr rfl (za (pv 0) (za zg zb)))) zb)
   ·rfl
  ·exact (zR wH rfl B.int K4 (za (xt xE (zu D_law_take hr rfl (za (pv 0) (za zg zb))) zg (zD _)) zb))
  ·exact (fun _ _=>rfl)
 rw [show start ["_law_box_here","_law_most","_law_few"] [V.ref b,V.int m]=[some (.ref b),some (.int m),none] from rfl]
 walk_at "rd"
 refine ⟨b,16,N,rfl,hb,by walk_at "o",by decide,by decide,fun r1 H1 k1 b1 l1 u1=>⟨rfl,?_⟩⟩
 walk_at "rd"
 refine kl (fun c=>?_) (fun c=>?_)
 ·walk_at "xs"
  refine ⟨b,_,_,rfl,b1,by walk_at "o",by split <;> walk_at "o",by split <;> walk_at "o",fun r2 H2 k2 b2 l2 u2=>⟨_,rfl,?_⟩⟩
  refine q _ _ (k1.trans k2) (b2.mono (by walk_at "o")) ?_ ?_
  ·split at u2 <;> walk_at "o"
  ·walk_at "o"
 ·walk_at "xs"
  intro p1 hp1
  refine ⟨b,12,_,rfl,b1.new hp1,by walk_at "o",by decide,by decide,fun r2 H2 k2 b2 l2 u2=>?_⟩
  have hne:p1 ≠ b:=by obtain ⟨_,_,_,h,_⟩:=b1;exact Ne.symm (zj h hp1)
  have h2:=k2 p1 _ (by simpa using hne) zf
  obtain ⟨e1,e2⟩:=zK (cs:=Je) (k:=r2) l2 (by simpa using u2)
  refine ⟨_,_,rfl,SqL.of h2,_,e2,b,17,_,rfl,b2,by walk_at "o",by decide,by decide,fun r3 H3 k3 b3 l3 u3=>?_⟩
  have hv:0<=Je.getD r2.toNat 0/\Je.getD r2.toNat 0<=(24:Int):=by
   have:∀ j:Nat,0<=Je.getD j 0/\Je.getD j 0<=(24:Int):=by
    intro j
    by_cases hj:j<12
    ·have hd:∀ j:Nat,j<12->0<=Je.getD j 0/\Je.getD j 0<=(24:Int):=by decide
     exact hd j hj
    ·have e:Je.getD j (0:Int)=0:=by rw [List.getD_eq_getElem?_getD,List.getElem?_eq_none (by simpa using hj)];rfl
     rw [e];decide
   exact this _
  refine ⟨_,rfl,by show 2<=sizeLine;decide,fun p2 hp2=>?_⟩
  refine ⟨b,6,_,rfl,b3.new hp2,by walk_at "o",by decide,by decide,fun r4 H4 k4 b4 l4 u4=>⟨rfl,?_⟩⟩
  have hne2:p2 ≠ b:=by obtain ⟨_,_,_,h,_⟩:=b3;exact Ne.symm (zj h hp2)
  have h4:=k4 p2 _ (by simpa using hne2) zf
  have fin:∀ r,0<=r->r<=24->Q (.int r) H4:=fun r g1 g2=>by
   refine q r H4 ?_ (b4.mono (by walk_at "o")) g1 (by walk_at "o")
   exact (((k1.trans (Kp.new _ hp1)).trans k2).trans k3).trans ((Kp.new _ hp2).trans k4)
  by_cases c4:r4=0
  ·subst c4
   exact ⟨_,SqL.of h4,_,rfl,fin _ (by walk_at "o") (by walk_at "o")⟩
  ·rw [if_neg (fun z=>c4 (V.int.inj z))]
   exact ⟨_,SqL.of h4,_,rfl,fin _ hv.1 hv.2⟩
noncomputable abbrev xJ:Stmt:=top 37
theorem yP:zw ["_law_box_here","_law_n","_law_row","_law_k"] ["_law_box_here","_law_n"] (zi xJ):=⟨rfl,rfl,rfl,by decide +kernel,rfl,by decide +kernel,by decide +kernel⟩
noncomputable def j6:Sp:=fun vs H Q _=>∃ (b:Addr) (n N:Nat),vs=[.ref b,.int n]/\Bx H b N/\N<10000000/\n<=1000/\∀ p H' ns,Kp [b] H H'->H p=none->Bx H' b (N+1000)->H' p=some (il ns)->zd n ns->Q (.ref p) H'
theorem Fe (ns:List Int)(i:Nat)(v:Int):(ns.map V.int).take i ++ V.int v :: (ns.map V.int).drop i=(ns.take i ++ v :: ns.drop i).map V.int:=by simp [List.map_take,List.map_drop]
theorem QB (a:At K mg "_law_shuffled" xJ)(B:Blt mg)(D_law_take:Df P w K mg base "_law_take" ["_law_box_here","_law_many"] 1 xL):Df P w K mg base "_law_shuffled" ["_law_box_here","_law_n"] 2 j6:=by
 refine qS (k:=1) a yP (fun _ _ _ _ _ _=>Pn2_ fun _ _=>rfl) (fun vs H Q E h=>?_) (fun f cdv A outer s H vs Q E hr h=>?_)
 ·obtain ⟨a,k,cs,rfl,_⟩:=h;rfl
 obtain ⟨b,n,N,rfl,hb,hN,hn,q⟩:=h
 have sc:=yP
 have hsl:=hsl
 refine ⟨_,(zc (zr (i:=2) sc.nd rfl (by first | exact Or.inl rfl | exact Or.inr rfl) (qk zb))
  (zc (qi PassesOwn.never rfl (qu rfl B.range (za (pv 1) zb)) (zy (i:=3) sc.nd rfl (by first | exact Or.inl rfl | exact Or.inr rfl)) (ze (qC (ky PySem.F.plainAttrs_list PySem.F.slot_list_insert PySem.F.type_list_insert Zt (pv 2) (za (zu D_law_take hr rfl (za (pv 0) (za (zp zS (pv 3) zg) zb))) (za (pv 3) zb))))))
  (ze (zx (pv 2))))),?_⟩
 rw [show start ["_law_box_here","_law_n","_law_row","_law_k"] [V.ref b,V.int n]=[some (.ref b),some (.int n),none,none] from rfl]
 walk_at "rd"
 walk_at "xs"
 intro p hp
 walk_at "xs"
 have hne:b ≠ p:=hb.ne hp
 rw [Int.toNat_natCast]
 refine kN (fun i τ H'=>∃ u ns,τ=[some (.ref b),some (.int n),some (.ref p),u]/\Kp [p,b] (upd H p (.lst [])) H'/\Bx H' b (N+i)/\H' p=some (il ns)/\zd i ns) ?_ ?_ ?_
 ·exact ⟨none,[],rfl,Kp.refl,hb.new hp,zf,zd.nil⟩
 ·rintro i τ H' hi ⟨u,ns,rfl,kp,b1,hns,ho⟩
  walk_at "rd"
  refine ⟨.inl ⟨rfl,_,SqL.of hns⟩,b,_,N+i,rfl,b1,by walk_at "o",by walk_at "o",by walk_at "o",fun r H2 k2 b2 l2 u2=>?_⟩
  have h2:=k2 p _ (by simpa using Ne.symm hne) hns
  have ol:=ho.1
  refine ⟨_,_,rfl,h2,l2,by rw [List.length_map,ol];walk_at "o",by rw [List.length_map,ol];walk_at "o",(kp.trans (k2.mono (by simp))).trans (Kp.set _ (by simp)),?_,_,zf.trans (by rw [show (0:Int)+(i:Int)=i by walk_at "o",Fe]),ho.insert _⟩
  exact b2.keep (Kp.set (bs:=[p]) _ (by simp)) (by simpa using hne)
 ·rintro τ H' ⟨u,ns,rfl,kp,b1,hns,ho⟩
  walk_at "rd"
  exact q p H' ns (Kp.drop1 hp kp) hp (b1.mono (by walk_at "o")) hns ho
noncomputable abbrev v0:Stmt:=top 38
theorem Zs:zw ["_law_box_here","_law_n","_law_many","_law_row","_law_order_here","_law_cuts","_law_begin","_law_end","_law_k"] ["_law_box_here","_law_n","_law_many"] (zi v0):=⟨rfl,rfl,rfl,by decide +kernel,rfl,by decide +kernel,by decide +kernel⟩
noncomputable def Jb:Sp:=fun vs H Q _=>∃ (b:Addr) (n m N:Nat),vs=[.ref b,.int n,.int m]/\Bx H b N/\N<5000000/\2<=n/\n<=1000/\1<=m/\m<=10/\∀ p H' ns,Kp [b] H H'->H p=none->Bx H' b (N+2000)->H' p=some (il ns)->zd n ns->Q (.ref p) H'
noncomputable def ZV (n:Nat)(row os:List Int)(c:Nat):Prop:=os.length=n/\(∃ ν:Nat->Nat,(∀ j,j<c->ν j<c)/\(∀ j k,j<c->k<c->ν j=ν k->j=k)/\∀ j,j<c->os.getD (row.getD j 0).toNat 0=row.getD (ν j) 0)/\∀ j,c<=j->j<n->os.getD (row.getD j 0).toNat 0=row.getD j 0
theorem ZV.start {n:Nat}{row:List Int}(ho:zd n row):ZV n row (zW 0 1 n) 0:=by
 refine ⟨zC 0 1 n,⟨id,(fun j hj=>absurd hj (Nat.not_lt_zero _)),(fun j k hj=>absurd hj (Nat.not_lt_zero _)),(fun j hj=>absurd hj (Nat.not_lt_zero _))⟩,fun j _ hj=>?_⟩
 have:=ho.getD hj
 rw [qa n (by walk_at "o")];walk_at "o"
theorem ZV.fin {n:Nat}{row os:List Int}(ho:zd n row)(h:ZV n row os n):zd n os:=by
 obtain ⟨l,⟨ν,h1,h2,h3⟩,_⟩:=h
 refine jd l (fun i hi=>?_) (fun i k hi hk e=>?_)
 ·obtain ⟨j,hj,e⟩:=ho.ex hi
  have:=h3 j hj
  rw [e,Int.toNat_natCast] at this
  rw [this];exact ho.getD (h1 j hj)
 ·obtain ⟨j,hj,e1⟩:=ho.ex hi
  obtain ⟨j',hj',e2⟩:=ho.ex hk
  have a:=h3 j hj
  have b:=h3 j' hj'
  rw [e1,Int.toNat_natCast] at a
  rw [e2,Int.toNat_natCast] at b
  have:=h2 j j' hj hj' (ho.inj (h1 j hj) (h1 j' hj') (by rw [<- a,<- b,e]))
  subst this
  walk_at "o"
noncomputable def vB (n:Nat)(row os:List Int)(c e t:Nat):Prop:=os.length=n/\(∃ ν:Nat->Nat,(∀ j,j<c->ν j<c)/\(∀ j k,j<c->k<c->ν j=ν k->j=k)/\∀ j,j<c->os.getD (row.getD j 0).toNat 0=row.getD (ν j) 0)/\(∀ j,c<=j->j<c+t->os.getD (row.getD j 0).toNat 0=row.getD (if j+1=e then c else j+1) 0)/\∀ j,c+t<=j->j<n->os.getD (row.getD j 0).toNat 0=row.getD j 0
theorem ZV.go {n:Nat}{row os:List Int}{c:Nat}(e:Nat)(h:ZV n row os c):vB n row os c e 0:=⟨h.1,h.2.1,fun j h1 h2=>by walk_at "o",fun j h1 h2=>h.2.2 j (by walk_at "o") h2⟩
theorem vB.step {n:Nat}{row os:List Int}{c e t:Nat}(ho:zd n row)(h:vB n row os c e t)(ht:c+t<e)(he:e<=n):vB n row (os.set (row.getD (c+t) 0).toNat (row.getD (if c+t+1=e then c else c+t+1) 0)) c e (t+1):=by
 obtain ⟨l,⟨ν,h1,h2,h3⟩,h4,h5⟩:=h
 have gt:=ho.getD (i:=c+t) (by walk_at "o")
 have g:∀ j,j<n->(os.set (row.getD (c+t) 0).toNat (row.getD (if c+t+1=e then c else c+t+1) 0)).getD (row.getD j 0).toNat 0=if j=c+t then row.getD (if c+t+1=e then c else c+t+1) 0 else os.getD (row.getD j 0).toNat 0:=fun j hj=>by
  have gj:=ho.getD hj
  rw [jW (by walk_at "o")]
  by_cases z:j=c+t
  ·subst z;rw [if_pos rfl,if_pos rfl]
  ·rw [if_neg z,if_neg]
   intro z'
   exact z (ho.inj hj (by walk_at "o") (by walk_at "o"))
 refine ⟨by rw [List.length_set,l],⟨ν,h1,h2,fun j hj=>?_⟩,fun j j1 j2=>?_,fun j j1 j2=>?_⟩
 ·rw [g j (by walk_at "o"),if_neg (by walk_at "o")];exact h3 j hj
 ·rw [g j (by walk_at "o")]
  by_cases z:j=c+t
  ·rw [if_pos z,z]
  ·rw [if_neg z];exact h4 j j1 (by walk_at "o")
 ·rw [g j j2,if_neg (by walk_at "o")];exact h5 j (by walk_at "o") j2
theorem vB.done {n:Nat}{row os:List Int}{c e:Nat}(h:vB n row os c e (e - c))(hc:c<=e):ZV n row os e:=by
 obtain ⟨l,⟨ν,h1,h2,h3⟩,h4,h5⟩:=h
 refine ⟨l,⟨fun j=>if j<c then ν j else if j+1=e then c else j+1,fun j hj=>?_,fun j k hj hk z=>?_,fun j hj=>?_⟩,fun j j1 j2=>h5 j (by walk_at "o") j2⟩
 ·dsimp only
  split
  ·have:=h1 j (by assumption);walk_at "o"
  ·split <;> walk_at "o"
 ·dsimp only at z
  by_cases a:j<c
  ·rw [if_pos a] at z
   have:=h1 j a
   by_cases b:k<c
   ·rw [if_pos b] at z;exact h2 j k a b z
   ·rw [if_neg b] at z;split at z <;> walk_at "o"
  ·rw [if_neg a] at z
   by_cases b:k<c
   ·rw [if_pos b] at z
    have:=h1 k b
    split at z <;> walk_at "o"
   ·rw [if_neg b] at z
    split at z <;> split at z <;> walk_at "o"
 ·dsimp only
  by_cases a:j<c
  ·rw [if_pos a];exact h3 j a
  ·rw [if_neg a];exact h4 j (by walk_at "o") (by walk_at "o")
theorem Qn {cs:List Int}(hp:cs.Pairwise (·<=·))(h0:(0:Int) ∈ cs)(hb:∀ x ∈ cs,0<=x):cs.getD 0 0=0:=by
 cases cs with
 | nil=>rfl
 | cons x r=>
  show x=0
  have:=hb x List.mem_cons_self
  rcases List.mem_cons.mp h0 with e | e
  ·exact e.symm
  ·have:=(List.pairwise_cons.mp hp).1 0 e;walk_at "o"
theorem Q3 {cs:List Int}{n:Int}(hp:cs.Pairwise (·<=·))(h0:n ∈ cs)(hb:∀ x ∈ cs,x<=n):cs.getD (cs.length - 1) 0=n:=by
 obtain ⟨i,hi,e⟩:=List.mem_iff_getElem.mp h0
 have hl:cs.length - 1<cs.length:=by walk_at "o"
 rw [zN hl]
 have h1:=hb _ (List.getElem_mem hl)
 by_cases z:i=cs.length - 1
 ·subst z;exact e
 ·have:=List.pairwise_iff_getElem.mp hp i (cs.length - 1) hi hl (by walk_at "o");walk_at "o"
theorem Q7 {cs:List Int}(hp:cs.Pairwise (·<=·)){i:Nat}(hi:i+1<cs.length):cs.getD i 0<=cs.getD (i+1) 0:=by
 rw [zN (by walk_at "o"),zN hi]
 exact List.pairwise_iff_getElem.mp hp i (i+1) (by walk_at "o") hi (by walk_at "o")
theorem Lw (cs:List Int):ZD (cs.map V.int) (some 1) none=List.map V.int ((cs.drop (min 1 cs.length)).take (cs.length - min 1 cs.length)):=by
 rw [vL,show (1:Int)=((1:Nat):Int) from rfl,HT.sIx_nat,HT.sIx_none]
theorem An {k b e:Int}(h1:b<=k)(h2:k<e):b+(k+1 - b) % (e - b)=if k+1=e then b else k+1:=by
 by_cases z:k+1=e
 ·rw [if_pos z,show k+1 - b=e - b by walk_at "o",Int.emod_self];walk_at "o"
 ·rw [if_neg z,Int.emod_eq_of_lt (by walk_at "o") (by walk_at "o")];walk_at "o"
theorem V0 (a:At K mg "_law_ringed" v0)(B:Blt mg)(D_law_take:Df P w K mg base "_law_take" ["_law_box_here","_law_many"] 2 xL)(D_law_shuffled:Df P w K mg base "_law_shuffled" ["_law_box_here","_law_n"] 2 j6):Df P w K mg base "_law_ringed" ["_law_box_here","_law_n","_law_many"] 3 Jb:=by
 refine qS (k:=2) a Zs (fun _ _ _ _ _ _=>Pn3_ fun _ _ _=>rfl) (fun vs H Q E h=>?_) (fun f cdv A outer s H vs Q E hr h=>?_)
 ·obtain ⟨b,n,m,N,rfl,_⟩:=h;rfl
 obtain ⟨b,n,m,N,rfl,hb,hN,hn2,hn,hm1,hm,q⟩:=h
 have sc:=Zs
 have hsl:=hsl
 refine ⟨_,(zc (zr (i:=3) sc.nd rfl (by first | exact Or.inl rfl | exact Or.inr rfl) (zu D_law_shuffled hr rfl (za (pv 0) (za (pv 1) zb))))
  (zc (zr (i:=4) sc.nd rfl (by first | exact Or.inl rfl | exact Or.inr rfl) (zR (qt rfl) rfl B.list qZ (za (zR jf rfl B.range jT (za (pv 1) zb)) zb)))
  (zc (zr (i:=5) sc.nd rfl (by first | exact Or.inl rfl | exact Or.inr rfl) (zn ZF rfl B.sorted Zf (za (zp xH (qk (za zg (za (pv 1) zb))) (qQ (ts:=[8]) rfl rfl (qu rfl B.range (za (zp xO (pv 2) zg) zb)) (fun _ _ _ _=>(zy (i:=8) sc.nd rfl (by first | exact Or.inl rfl | exact Or.inr rfl))) (fun _ _ _ _=>jb) (fun _ _ _ _=>(zu D_law_take hr rfl (za (pv 0) (za (zp zS (pv 1) zg) zb)))))) zb)))
  (zc (qi PassesOwn.never rfl (GD rfl B.zip (za (pv 5) (za (kS xU (pv 5) (jD zg) yh) zb))) (jG (K:=K) 2 rfl rfl (zZ (zy (i:=6) sc.nd rfl (by first | exact Or.inl rfl | exact Or.inr rfl)) (zZ (zy (i:=7) sc.nd rfl (by first | exact Or.inl rfl | exact Or.inr rfl)) jE))) (ze (qi PassesOwn.never rfl (wY rfl B.range (za (pv 6) (za (pv 7) zb))) (zy (i:=8) sc.nd rfl (by first | exact Or.inl rfl | exact Or.inr rfl)) (ze (ji (zJ zU (pv 3) (zp zS (pv 6) (zp qD (zp xO (zp zS (pv 8) zg) (pv 6)) (zp xO (pv 7) (pv 6)))) (fun _ _=>rfl)) (qV (pv 4) (zJ zU (pv 3) (pv 8) (fun _ _=>rfl)) qb))))))
  (ze (zx (pv 4))))))),?_⟩
 rw [show start ["_law_box_here","_law_n","_law_many","_law_row","_law_order_here","_law_cuts","_law_begin","_law_end","_law_k"] [V.ref b,V.int n,V.int m]=[some (.ref b),some (.int n),some (.int m),none,none,none,none,none,none] from rfl]
 walk_at "rd"
 refine ⟨b,n,N,rfl,hb,by walk_at "o",by walk_at "o",fun p1 H1 row k1 hp1 b1 h1 ho=>?_⟩
 walk_at "rd"
 walk_at "xs"
 intro p2 hp2
 refine ⟨0,n,1,zf,small_one (by walk_at "o") (by walk_at "o") (by walk_at "o") (by walk_at "o"),n,by rw [rangeSize_one];split <;> walk_at "o",by walk_at "o",fun p3 hp3=>?_⟩
 walk_at "xs"
 intro p4 hp4
 walk_at "xs"
 intro D hD
 have ol:=ho.1
 have bG:Bx (upd (upd (upd H1 p2 (j7 p2 0 n 1)) p3 (il (zW 0 1 n))) p4 (.lst [.int 0,.int n])) b (N+1000):=((b1.new hp2).new hp3).new hp4
 have nbD:b ≠ D:=bG.ne hD
 have h3G:upd (upd (upd H1 p2 (j7 p2 0 n 1)) p3 (il (zW 0 1 n))) p4 (.lst [.int 0,.int n]) p3=some (il (zW 0 1 n)):=by walk_at "hp"
 have h4G:upd (upd (upd H1 p2 (j7 p2 0 n 1)) p3 (il (zW 0 1 n))) p4 (.lst [.int 0,.int n]) p4=some (.lst [.int 0,.int n]):=zf
 have h1G:upd (upd (upd H1 p2 (j7 p2 0 n 1)) p3 (il (zW 0 1 n))) p4 (.lst [.int 0,.int n]) p1=some (il row):=by walk_at "hp"
 have kG:Kp [] H1 (upd (upd (upd H1 p2 (j7 p2 0 n 1)) p3 (il (zW 0 1 n))) p4 (.lst [.int 0,.int n])):=by walk_at "kp"
 have hn3:H1 p3=none:=by walk_at "fr"
 have nb1:b ≠ p1:=hb.ne hp1
 have nb3:b ≠ p3:=b1.ne hn3
 generalize upd (upd (upd H1 p2 (j7 p2 0 n 1)) p3 (il (zW 0 1 n))) p4 (.lst [.int 0,.int n])=G at hD bG h3G h4G h1G kG ⊢
 have n3D:p3 ≠ D:=zj h3G hD
 have n4D:p4 ≠ D:=zj h4G hD
 have n1D:p1 ≠ D:=zj h1G hD
 have nb4:b ≠ p4:=fun z=>by
  obtain ⟨x,y,zz,e,_⟩:=bG
  rw [z,h4G] at e;cases e
 rw [show ((m:Int) - 1).toNat=m - 1 by walk_at "o"]
 refine kQ (fun i τ H'=>∃ u ts,τ=[some (.ref b),some (.int n),some (.int m),some (.ref p1),some (.ref p3),none,none,none,u]/\Kp [D,b] (upd G D (.lst [])) H'/\Bx H' b (N+1000+i)/\H' D=some (il ts)/\ts.length=i/\∀ t ∈ ts,0<=t/\t<=(n:Int)) ?_ ?_ ?_
 ·exact ⟨none,[],rfl,Kp.refl,bG.new hD,zf,rfl,fun t ht=>nomatch ht⟩
 ·rintro i τ H' hi ⟨u,ts,rfl,kp,b',hts,hl,hbd⟩
  walk_at "rd"
  refine ⟨b,_,_,rfl,b',by walk_at "o",by walk_at "o",by walk_at "o",fun r H2 k2 b2 l2 u2=>?_⟩
  have h2:=k2 D _ (by simpa using Ne.symm nbD) hts
  refine ⟨_,h2,by rw [List.length_map];walk_at "o",((kp.trans (k2.mono (by simp))).trans (Kp.set _ (by simp))),b2.keep (Kp.set (bs:=[D]) _ (by simp)) (by simpa using nbD),ts ++ [r],zf.trans (congrArg some (congrArg HO.lst (by rw [List.map_append];rfl))),by rw [List.length_append,hl];rfl,fun t ht=>?_⟩
  rcases List.mem_append.mp ht with z | z
  ·exact hbd t z
  ·have:t=r:=by simpa using z
   subst this;walk_at "o"
 ·rintro τ H' ⟨u,ts,rfl,kp,b',hts,hl,hbd⟩
  have kD:Kp [b] G H':=Kp.drop1 hD kp
  have g3:=kD _ _ (by simpa using Ne.symm nb3) h3G
  have g4:=kD _ _ (by simpa using Ne.symm nb4) h4G
  have g1:=kD _ _ (by simpa using Ne.symm nb1) h1G
  refine ⟨D,rfl,_,g4,_,hts,by rw [List.length_map];show 2+_<=_;walk_at "o",fun p6 hp6=>?_⟩
  refine ⟨0 :: (n:Int) :: ts,SqL.of (zf.trans rfl),by rw [List.length_cons,List.length_cons];walk_at "o",fun p7 cs hp7 pm pw=>?_⟩
  refine ⟨_,SqL.of zf,fun p8 hp8=>?_⟩
  have lcs:cs.length=m+1:=by rw [pm.length_eq,List.length_cons,List.length_cons];walk_at "o"
  rw [Lw,lcs]
  generalize hd:(cs.drop (min 1 (m+1))).take (m+1 - min 1 (m+1))=d
  have ld:d.length=m:=by rw [<- hd,List.length_take,List.length_drop];walk_at "o"
  have gd:∀ i,i<m->d.getD i 0=cs.getD (i+1) 0:=fun i hi=>by
   rw [<- hd,List.getD_eq_getElem?_getD,List.getElem?_take,if_pos (by walk_at "o"),List.getElem?_drop,List.getD_eq_getElem?_getD]
   congr 2;walk_at "o"
  have bcs:∀ x ∈ cs,0<=x/\x<=(n:Int):=fun x hx=>by
   have:=pm.mem_iff.mp hx
   rcases List.mem_cons.mp this with z | z
   ·walk_at "o"
   ·rcases List.mem_cons.mp z with z | z
    ·walk_at "o"
    ·exact hbd x z
  have c0:=Qn pw (pm.mem_iff.mpr List.mem_cons_self) (fun x hx=>(bcs x hx).1)
  have cn:=Q3 pw (pm.mem_iff.mpr (List.mem_cons_of_mem _ List.mem_cons_self)) (fun x hx=>(bcs x hx).2)
  rw [lcs,Nat.add_sub_cancel] at cn
  have cb:∀ i,i<=m->0<=cs.getD i 0/\cs.getD i 0<=(n:Int):=fun i hi=>by
   rw [zN (by walk_at "o")];exact bcs _ (List.getElem_mem _)
  have n36:p3 ≠ p6:=zj g3 hp6
  have h36:upd H' p6 (HO.lst ([V.int 0,V.int n] ++ List.map V.int ts)) p3=some (il (zW 0 1 n)):=(zq n36).trans g3
  have n37:p3 ≠ p7:=zj h36 hp7
  have n16:p1 ≠ p6:=zj g1 hp6
  have h16:upd H' p6 (HO.lst ([V.int 0,V.int n] ++ List.map V.int ts)) p1=some (il row):=(zq n16).trans g1
  have n17:p1 ≠ p7:=zj h16 hp7
  have n78:p7 ≠ p8:=zj zf hp8
  have g83:upd (upd (upd H' p6 (HO.lst ([V.int 0,V.int n] ++ List.map V.int ts))) p7 (HO.lst (List.map V.int cs))) p8 (HO.lst (List.map V.int d)) p3=some (il (zW 0 1 n)):=by walk_at "hp"
  have g81:upd (upd (upd H' p6 (HO.lst ([V.int 0,V.int n] ++ List.map V.int ts))) p7 (HO.lst (List.map V.int cs))) p8 (HO.lst (List.map V.int d)) p1=some (il row):=by walk_at "hp"
  have g87:upd (upd (upd H' p6 (HO.lst ([V.int 0,V.int n] ++ List.map V.int ts))) p7 (HO.lst (List.map V.int cs))) p8 (HO.lst (List.map V.int d)) p7=some (il cs):=by walk_at "hp"
  have g88:upd (upd (upd H' p6 (HO.lst ([V.int 0,V.int n] ++ List.map V.int ts))) p7 (HO.lst (List.map V.int cs))) p8 (HO.lst (List.map V.int d)) p8=some (il d):=zf
  have k8:Kp [] H' (upd (upd (upd H' p6 (HO.lst ([V.int 0,V.int n] ++ List.map V.int ts))) p7 (HO.lst (List.map V.int cs))) p8 (HO.lst (List.map V.int d))):=by walk_at "kp"
  refine ⟨⟨_,SqL.of g87⟩,⟨_,SqL.of g88⟩,?_⟩
  generalize upd (upd (upd H' p6 (HO.lst ([V.int 0,V.int n] ++ List.map V.int ts))) p7 (HO.lst (List.map V.int cs))) p8 (HO.lst (List.map V.int d))=G8 at g83 g81 g87 g88 k8 ⊢
  have n38:p3 ≠ p8:=fun z=>by
   have:H' p3 ≠ none:=by rw [g3];simp
   exact this (by
    have:=yb hp8 (((Kp.new (bs:=[]) (HO.lst ([V.int 0,V.int n] ++ List.map V.int ts)) hp6).trans (Kp.new (HO.lst (List.map V.int cs)) hp7)))
    rw [z];exact this)
  have n13:p1 ≠ p3:=zj h1 hn3
  refine E8 (xs:=cs.map V.int) (ys:=d.map V.int) (fun i τ H2=>∃ u v x os,τ=[some (.ref b),some (.int n),some (.int m),some (.ref p1),some (.ref p3),some (.ref p7),u,v,x]/\Kp [p3] G8 H2/\H2 p3=some (il os)/\ZV n row os (cs.getD i 0).toNat) ?_ ?_ ?_ ?_ ?_
  ·rw [List.length_map,List.length_map];walk_at "o"
  ·refine ⟨none,none,none,zW 0 1 n,rfl,Kp.refl,g83,?_⟩
   rw [c0];exact ZV.start ho
  ·rintro i τ H2 _ ⟨u,v,x,os,rfl,kp2,_⟩
   exact ⟨SqL.of (kp2 _ _ (by simpa using Ne.symm n37) g87),SqL.of (kp2 _ _ (by simpa using Ne.symm n38) g88)⟩
  ·rintro i x y pp τ H2 hx hy hpp ⟨u,v,x',os,rfl,kp2,hos,gone⟩
   obtain ⟨rfl,hi⟩:=qA hx
   obtain ⟨rfl,hi'⟩:=qA hy
   have him:i<m:=by walk_at "o"
   rw [gd i him]
   have q1:=cb i (by walk_at "o")
   have q2:=cb (i+1) (by walk_at "o")
   have q3:=Q7 pw (i:=i) (by walk_at "o")
   generalize cs.getD (i+1) 0=ei at q2 q3 ⊢
   generalize cs.getD i 0=ci at q1 q3 gone ⊢
   obtain ⟨c,rfl⟩:∃ c:Nat,ci=c:=⟨ci.toNat,by walk_at "o"⟩
   obtain ⟨e,rfl⟩:∃ e:Nat,ei=e:=⟨ei.toNat,by walk_at "o"⟩
   rw [Int.toNat_natCast] at gone ⊢
   walk_at "rd"
   walk_at "xs"
   rw [show ((e:Int) - (c:Int)).toNat=e - c by walk_at "o"]
   have hos':upd H2 pp (HO.tup [V.int c,V.int e]) p3=some (il os):=by walk_at "hp"
   refine kN (fun t τ H4=>∃ x os',τ=[some (.ref b),some (.int n),some (.int m),some (.ref p1),some (.ref p3),some (.ref p7),some (.int c),some (.int e),x]/\Kp [p3] (upd H2 pp (HO.tup [V.int c,V.int e])) H4/\H4 p3=some (il os')/\vB n row os' c e t) ?_ ?_ ?_
   ·exact ⟨_,os,rfl,Kp.refl,hos',gone.go e⟩
   ·rintro t τ H4 ht ⟨x2,os2,rfl,kp4,hos2,going⟩
    have hrow:H4 p1=some (il row):=kp4 _ _ (by simpa using n13) (Kp.new (bs:=[]) _ hpp _ _ (by simp) (kp2 _ _ (by simpa using n13) g81))
    have gl:=going.1
    have gt:=ho.getD (i:=c+t) (by walk_at "o")
    have mn:=An (k:=(c:Int)+t) (b:=c) (e:=e) (by walk_at "o") (by walk_at "o")
    obtain ⟨_,a1⟩:=zK (cs:=row) (k:=(c:Int)+((c:Int)+t+1 - c) % ((e:Int) - c)) (by rw [mn];split <;> walk_at "o") (by rw [mn];split <;> walk_at "o")
    obtain ⟨_,a2⟩:=zK (cs:=row) (k:=(c:Int)+t) (by walk_at "o") (by walk_at "o")
    rw [show ((c:Int)+t).toNat=c+t by walk_at "o"] at a2
    have e3:((c:Int)+((c:Int)+t+1 - c) % ((e:Int) - c)).toNat=if c+t+1=e then c else c+t+1:=by
     rw [mn];split <;> split <;> walk_at "o"
    rw [e3] at a1
    have f1:ixN (List.map V.int os2).length (row.getD (c+t) 0)=some (row.getD (c+t) 0).toNat:=(zK (cs:=os2) gt.1 (by walk_at "o")).1
    have st:=going.step ho (by walk_at "o") (by walk_at "o")
    walk_at "rd"
    walk_at "xs"
    exact ⟨kp4.trans (Kp.set _ (by simp)),_,zf.trans (congrArg some (congrArg HO.lst (xS _ _ _))),st⟩
   ·rintro τ H4 ⟨x2,os2,rfl,kp4,hos2,going⟩
    walk_at "rd"
    exact ⟨⟨_,rfl⟩,(kp2.trans (Kp.new _ hpp)).trans kp4,os2,hos2,going.done (by walk_at "o")⟩
  ·rintro τ H2 ⟨u,v,x,os,rfl,kp2,hos,gone⟩
   walk_at "rd"
   rw [List.length_map,ld,cn,Int.toNat_natCast] at gone
   refine q p3 H2 os ?_ ?_ (((b'.keep k8 (by simp)).keep kp2 (by simpa using nb3)).mono (by walk_at "o")) hos (gone.fin ho)
   ·intro c o hc hh
    have a1:=k1 c o hc hh
    have c3:c ≠ p3:=zj a1 hn3
    exact kp2 c o (by simpa using c3) (k8 c o (by simp) (kD c o hc (kG c o (by simp) a1)))
   ·cases z:H p3 with
    | none=>rfl
    | some o=>exact absurd (k1 p3 o (by simpa using Ne.symm nb3) z) (by rw [hn3];simp)
noncomputable abbrev kO:Stmt:=top 39
theorem yk:zw ["_law_box_here","_law_n","_law_order_here","_law_row","_law_k","_law_one","_law_other"] ["_law_box_here","_law_n"] (zi kO):=⟨rfl,rfl,rfl,by decide +kernel,rfl,by decide +kernel,by decide +kernel⟩
noncomputable def Dn:Sp:=fun vs H Q _=>∃ (b:Addr) (n N:Nat),vs=[.ref b,.int n]/\Bx H b N/\N<5000000/\2<=n/\n<=1000/\∀ p H' ns,Kp [b] H H'->H p=none->Bx H' b (N+2000)->H' p=some (il ns)->zd n ns->Q (.ref p) H'
theorem zd.swap {n:Nat}{os:List Int}(h:zd n os){x y:Nat}(hx:x<n)(hy:y<n)(ne:x ≠ y)(ex:os.getD x 0=(x:Int))(ey:os.getD y 0=(y:Int)):zd n ((os.set x (y:Int)).set y (x:Int)):=by
 have l:=h.1
 have g:∀ i,((os.set x (y:Int)).set y (x:Int)).getD i 0=if i=y then (x:Int) else if i=x then (y:Int) else os.getD i 0:=fun i=>by
  rw [jW (by rw [List.length_set];walk_at "o"),jW (by walk_at "o")]
 refine jd (by rw [List.length_set,List.length_set,l]) (fun i hi=>?_) (fun i k hi hk e=>?_)
 ·rw [g]
  split
  ·walk_at "o"
  ·split
   ·walk_at "o"
   ·exact h.getD hi
 ·rw [g,g] at e
  by_cases i1:i=y
  ·rw [if_pos i1] at e
   by_cases k1:k=y
   ·walk_at "o"
   ·rw [if_neg k1] at e
    by_cases k2:k=x
    ·rw [if_pos k2] at e;walk_at "o"
    ·rw [if_neg k2,<- ex] at e
     exact absurd (h.inj hx hk e).symm k2
  ·rw [if_neg i1] at e
   by_cases i2:i=x
   ·rw [if_pos i2] at e
    by_cases k1:k=y
    ·rw [if_pos k1] at e;walk_at "o"
    ·rw [if_neg k1] at e
     by_cases k2:k=x
     ·walk_at "o"
     ·rw [if_neg k2,<- ey] at e
      exact absurd (h.inj hy hk e).symm k1
   ·rw [if_neg i2] at e
    by_cases k1:k=y
    ·rw [if_pos k1,<- ex] at e
     exact absurd (h.inj hi hx e) i2
    ·rw [if_neg k1] at e
     by_cases k2:k=x
     ·rw [if_pos k2,<- ey] at e
      exact absurd (h.inj hi hy e) i1
     ·rw [if_neg k2] at e
      exact h.inj hi hk e
theorem Qq {j:Int}(h:0<=j):Builtin.Range.rangeSize 0 j 1=(j.toNat:Int):=by rw [rangeSize_one];split <;> walk_at "o"
theorem Qp (a:At K mg "_law_exchanged" kO)(B:Blt mg)(D_law_take:Df P w K mg base "_law_take" ["_law_box_here","_law_many"] 2 xL)(D_law_shuffled:Df P w K mg base "_law_shuffled" ["_law_box_here","_law_n"] 2 j6):Df P w K mg base "_law_exchanged" ["_law_box_here","_law_n"] 3 Dn:=by
 refine qS (k:=2) a yk (fun _ _ _ _ _ _=>Pn2_ fun _ _=>rfl) (fun vs H Q E h=>?_) (fun f cdv A outer s H vs Q E hr h=>?_)
 ·obtain ⟨a,k,cs,rfl,_⟩:=h;rfl
 obtain ⟨b,n,N,rfl,hb,hN,hn2,hn,q⟩:=h
 have sc:=yk
 have hsl:=hsl
 refine ⟨_,(zc (zr (i:=2) sc.nd rfl (by first | exact Or.inl rfl | exact Or.inr rfl) (zR (qt rfl) rfl B.list qZ (za (zR jf rfl B.range jT (za (pv 1) zb)) zb)))
  (zc (zr (i:=3) sc.nd rfl (by first | exact Or.inl rfl | exact Or.inr rfl) (zu D_law_shuffled hr rfl (za (pv 0) (za (pv 1) zb))))
  (zc (qi PassesOwn.never rfl (qu rfl B.range (za (zu D_law_take hr rfl (za (pv 0) (za (zp zS (zp xj (pv 1) zg) zg) zb))) zb)) (zy (i:=4) sc.nd rfl (by first | exact Or.inl rfl | exact Or.inr rfl)) (zc (KO (i:=5) (j:=6) rfl sc.nd rfl rfl (by decide) rfl rfl (za (zJ zU (pv 3) (zp jn zg (pv 4)) (fun _ _=>rfl)) (za (zJ zU (pv 3) (zp zS (zp jn zg (pv 4)) zg) (fun _ _=>rfl)) zb)) rfl)
  (ze (ji (kj (za (pv 6) (za (pv 5) zb))) (jG (K:=K) 2 rfl rfl (zZ (qV (pv 2) (pv 5) qb) (zZ (qV (pv 2) (pv 6) qb) jE)))))))
  (ze (zx (pv 2)))))),?_⟩
 rw [show start ["_law_box_here","_law_n","_law_order_here","_law_row","_law_k","_law_one","_law_other"] [V.ref b,V.int n]=[some (.ref b),some (.int n),none,none,none,none,none] from rfl]
 walk_at "rd"
 walk_at "xs"
 intro p1 hp1
 refine ⟨0,n,1,zf,small_one (by walk_at "o") (by walk_at "o") (by walk_at "o") (by walk_at "o"),n,Qq (by walk_at "o"),by walk_at "o",fun p2 hp2=>?_⟩
 have hn2':H p2=none:=by walk_at "fr"
 have b2:Bx (upd (upd H p1 (j7 p1 0 n 1)) p2 (il (zW 0 1 n))) b N:=(hb.new hp1).new hp2
 refine ⟨b,n,N,rfl,b2,by walk_at "o",by walk_at "o",fun p3 H3 row k3 hp3 b3 hrow ho=>?_⟩
 walk_at "rd"
 walk_at "xs"
 refine ⟨b,_,_,rfl,b3,by walk_at "o",by walk_at "o",by walk_at "o",fun m H4 k4 b4 l4 u4=>?_⟩
 refine ⟨m,rfl,by walk_at "o",by walk_at "o",?_⟩
 have nb2:p2 ≠ b:=by obtain ⟨o,e⟩:=hb.there;exact Ne.symm (zj e hn2')
 have nb3:p3 ≠ b:=by obtain ⟨o,e⟩:=b2.there;exact Ne.symm (zj e hp3)
 have n23:p2 ≠ p3:=zj zf hp3
 have h32:H3 p2=some (il (zW 0 1 n)):=k3 _ _ (by simpa using nb2) zf
 have h42:H4 p2=some (il (zW 0 1 n)):=k4 _ _ (by simpa using nb2) h32
 have h43:H4 p3=some (il row):=k4 _ _ (by simpa using nb3) hrow
 refine kN (fun i τ H'=>∃ u v x os,τ=[some (.ref b),some (.int n),some (.ref p2),some (.ref p3),u,v,x]/\Kp [p2] H4 H'/\H' p2=some (il os)/\zd n os/\∀ j:Nat,2 * i<=j->j<n->os.getD (row.getD j 0).toNat 0=row.getD j 0) ?_ ?_ ?_
 ·refine ⟨none,none,none,zW 0 1 n,rfl,Kp.refl,h42,zd.rng n,fun j _ hj=>?_⟩
  have:=ho.getD hj
  rw [qa n (by walk_at "o")];walk_at "o"
 ·rintro i τ H' hi ⟨u,v,x,os,rfl,kp,hos,oo,hst⟩
  have h3:H' p3=some (il row):=kp _ _ (by simpa using Ne.symm n23) h43
  have ol:=ho.1
  have ool:=oo.1
  have g0:=ho.getD (i:=2 * i) (by walk_at "o")
  have g1:=ho.getD (i:=2 * i+1) (by walk_at "o")
  obtain ⟨_,e1⟩:=zK (cs:=row) (k:=2 * (0+(i:Int))) (by walk_at "o") (by walk_at "o")
  obtain ⟨_,e2⟩:=zK (cs:=row) (k:=2 * (0+(i:Int))+1) (by walk_at "o") (by walk_at "o")
  rw [show (2 * (0+(i:Int))).toNat=2 * i by walk_at "o"] at e1
  rw [show (2 * (0+(i:Int))+1).toNat=2 * i+1 by walk_at "o"] at e2
  have f1:ixN (List.map V.int os).length (row.getD (2 * i) 0)=some (row.getD (2 * i) 0).toNat:=(zK (cs:=os) g0.1 (by walk_at "o")).1
  have f2:ixN ((List.map V.int os).set (row.getD (2 * i) 0).toNat (V.int (row.getD (2 * i+1) 0))).length (row.getD (2 * i+1) 0)=some (row.getD (2 * i+1) 0).toNat:=by rw [List.length_set];exact (zK (cs:=os) g1.1 (by walk_at "o")).1
  walk_at "rd"
  walk_at "xs"
  intro p hp
  have np:p2 ≠ p:=zj hos hp
  refine ⟨_,SqT.of zf,rfl,_,_,rfl,_,rfl,_,(zq np).trans hos,_,f1,_,_,rfl,_,rfl,_,zf,_,f2,rfl,?_⟩
  have s0:=hst (2 * i) (by walk_at "o") (by walk_at "o")
  have s1:=hst (2 * i+1) (by walk_at "o") (by walk_at "o")
  have ne01:(row.getD (2 * i) 0).toNat ≠ (row.getD (2 * i+1) 0).toNat:=fun z=>by
   have:=ho.inj (i:=2 * i) (j:=2 * i+1) (by walk_at "o") (by walk_at "o") (by walk_at "o")
   walk_at "o"
  have sw:=zd.swap oo (x:=(row.getD (2 * i) 0).toNat) (y:=(row.getD (2 * i+1) 0).toNat) (by walk_at "o") (by walk_at "o") ne01 (by walk_at "o") (by walk_at "o")
  rw [Int.toNat_of_nonneg g0.1,Int.toNat_of_nonneg g1.1] at sw
  refine ⟨((kp.trans (Kp.new _ hp)).trans (Kp.set _ (by simp))).trans (Kp.set _ (by simp)),_,zf.trans (congrArg some (congrArg HO.lst (by rw [xS,xS]))),sw,fun j hj1 hj2=>?_⟩
  have gj:=ho.getD (i:=j) hj2
  rw [jW (by rw [List.length_set];walk_at "o"),jW (by walk_at "o"),if_neg,if_neg]
  ·exact hst j (by walk_at "o") hj2
  ·intro z
   have:=ho.inj (i:=j) (j:=2 * i) hj2 (by walk_at "o") (by walk_at "o")
   walk_at "o"
  ·intro z
   have:=ho.inj (i:=j) (j:=2 * i+1) hj2 (by walk_at "o") (by walk_at "o")
   walk_at "o"
 ·rintro τ H' ⟨u,v,x,os,rfl,kp,hos,oo,hst⟩
  walk_at "rd"
  refine q p2 H' os ?_ hn2' ((b4.keep kp (by simpa using Ne.symm nb2)).mono (by walk_at "o")) hos oo
  intro c o hc hh
  have c2:c ≠ p2:=zj hh hn2'
  exact kp c o (by simpa using c2) (k4 c o hc (k3 c o hc (((Kp.new (bs:=[]) _ hp1).trans (Kp.new _ hp2)) c o (by simp) hh)))
noncomputable abbrev ZJ:Stmt:=top 40
theorem Q4:zw ["_law_n","_law_rows","_law_columns","_law_place"] ["_law_n","_law_rows"] (zi ZJ):=⟨rfl,rfl,rfl,by decide +kernel,rfl,by decide +kernel,by decide +kernel⟩
noncomputable def YC:Sp:=fun vs H Q _=>∃ (n r c:Nat),vs=[.int n,.int r]/\n=r * c/\1<=r/\1<=c/\n<=1000/\∀ p H' ns,Kp [] H H'->H p=none->H' p=some (il ns)->zd n ns->Q (.ref p) H'
noncomputable def wB (r c n:Nat):List Int:=(List.range n).map fun (i:Nat)=>(i:Int) % (c:Int) * (r:Int)+(i:Int) / (c:Int)
theorem Vl {r c n i:Nat}(h:i<n):(wB r c n).getD i 0=(i:Int) % (c:Int) * (r:Int)+(i:Int) / (c:Int):=by
 rw [zN (by simp [wB];exact h)];simp [wB]
theorem BD {r c n:Nat}(h:n=r * c)(hr:1<=r)(hc:1<=c):zd n (wB r c n):=by
 have key:∀ i:Nat,i<n->(i / c<r/\i % c<c/\(wB r c n).getD i 0=((i % c * r+i / c:Nat):Int)):=fun i hi=>by
  refine ⟨?_,Nat.mod_lt _ hc,?_⟩
  ·rw [Nat.div_lt_iff_lt_mul hc];walk_at "o"
  ·rw [Vl hi];simp
 have bd:∀ i:Nat,i<n->i % c * r+i / c<n:=fun i hi=>by
  obtain ⟨h1,h2,_⟩:=key i hi
  have:(i % c+1) * r<=c * r:=Nat.mul_le_mul_right r h2
  have e:c * r=n:=by rw [h,Nat.mul_comm]
  have e2:(i % c+1) * r=i % c * r+r:=Nat.succ_mul _ _
  walk_at "o"
 refine jd (by simp [wB]) (fun i hi=>?_) (fun i k hi hk e=>?_)
 ·obtain ⟨h1,h2,h3⟩:=key i hi
  have:=bd i hi
  rw [h3];exact ⟨Int.natCast_nonneg _,Int.ofNat_lt.mpr this⟩
 ·obtain ⟨h1,h2,h3⟩:=key i hi
  obtain ⟨k1,k2,k3⟩:=key k hk
  rw [h3,k3] at e
  have e':i % c * r+i / c=k % c * r+k / c:=by walk_at "o"
  have d1:(i % c * r+i / c) / r=i % c:=by rw [Nat.add_comm,Nat.add_mul_div_right _ _ hr,Nat.div_eq_of_lt h1,Nat.zero_add]
  have d2:(k % c * r+k / c) / r=k % c:=by rw [Nat.add_comm,Nat.add_mul_div_right _ _ hr,Nat.div_eq_of_lt k1,Nat.zero_add]
  have m:i % c=k % c:=by rw [<- d1,<- d2,e']
  have d:i / c=k / c:=by rw [m] at e';walk_at "o"
  rw [<- Nat.div_add_mod i c,<- Nat.div_add_mod k c,m,d]
theorem AL (a:At K mg "_law_table" ZJ)(B:Blt mg):Df P w K mg base "_law_table" ["_law_n","_law_rows"] 1 YC:=by
 refine qS (k:=0) a Q4 (fun _ _ _ _ _ _=>Pn2_ fun _ _=>rfl) (fun vs H Q E h=>?_) (fun f cdv A outer s H vs Q E hr h=>?_)
 ·obtain ⟨n,r,c,rfl,_⟩:=h;rfl
 obtain ⟨n,r,c,rfl,hn,hr1,hc1,hz,q⟩:=h
 have sc:=Q4
 have hsl:=hsl
 have hrn:r<=n:=by rw [hn];exact Nat.le_mul_of_pos_right r hc1
 have hcn:c<=n:=by rw [hn];exact Nat.le_mul_of_pos_left c hr1
 have ec:(n:Int) / (r:Int)=(c:Int):=by
  rw [hn];push_cast;exact Int.mul_ediv_cancel_left _ (by walk_at "o")
 refine ⟨_,(zc (zr (i:=2) sc.nd rfl (by first | exact Or.inl rfl | exact Or.inr rfl) (zp xj (pv 0) (pv 1)))
  (ze (zx (qQ (ts:=[3]) rfl rfl (qu rfl B.range (za (pv 0) zb)) (fun _ _ _ _=>(zy (i:=3) sc.nd rfl (by first | exact Or.inl rfl | exact Or.inr rfl))) (fun _ _ _ _=>jb) (fun _ _ _ _=>(zp zS (zp jn (zp qD (pv 3) (pv 2)) (pv 1)) (zp xj (pv 3) (pv 2)))))))),?_⟩
 rw [show start ["_law_n","_law_rows","_law_columns","_law_place"] [V.int n,V.int r]=[some (.int n),some (.int r),none,none] from rfl]
 walk_at "rd"
 walk_at "xs"
 intro D hD
 rw [Int.toNat_natCast,ec]
 refine kQ (fun i τ H'=>∃ u,τ=[some (.int n),some (.int r),some (.int c),u]/\Kp [D] (upd H D (.lst [])) H'/\H' D=some (il (wB r c i))) ?_ ?_ ?_
 ·exact ⟨none,rfl,Kp.refl,zf⟩
 ·rintro i τ H' hi ⟨u,rfl,kp,hd⟩
  have m1:=jv (0+(i:Int)) (show (0:Int)<c by walk_at "o")
  walk_at "rd"
  walk_at "xs"
  refine ⟨by rw [List.length_map];simp [wB];walk_at "o",kp.trans (Kp.set _ (by simp)),zf.trans (congrArg some (congrArg HO.lst ?_))⟩
  show _=List.map V.int (wB r c (i+1))
  unfold wB
  rw [List.range_succ,List.map_append,List.map_append,Int.zero_add];rfl
 ·rintro τ H' ⟨u,rfl,kp,hd⟩
  exact q D H' _ (Kp.drop1 hD kp) hD hd (BD hn hr1 hc1)
noncomputable abbrev Qr:Stmt:=top 41
theorem Jz:zw ["_law_box_here","_law_n","_law_way","_law_begin","_law_by","_law_some","_law_k","_law_rows"] ["_law_box_here","_law_n"] (zi Qr):=⟨rfl,rfl,rfl,by decide +kernel,rfl,by decide +kernel,by decide +kernel⟩
noncomputable def YK:Sp:=fun vs H Q _=>∃ (b:Addr) (n N:Nat),vs=[.ref b,.int n]/\Bx H b N/\N<1000000/\n<=1000/\∀ p H' ns,Kp [b] H H'->H p=none->Bx H' b (N+3000)->H' p=some (il ns)->zd n ns->Q (.ref p) H'
theorem A8 {n:Nat}(hn:0<n)(by':Int):zd n ((List.range n).map fun (i:Nat)=>((i:Int)+by') % (n:Int)):=by
  have g:∀ i,i<n->((List.range n).map fun (i:Nat)=>((i:Int)+by') % (n:Int)).getD i 0=((i:Int)+by') % (n:Int):=fun i hi=>by
    rw [zN (by simp;exact hi)];simp
  refine jd (by simp) (fun i hi=>?_) (fun i k hi hk e=>?_)
  · rw [g i hi];exact jv _ (by walk_at "o")
  · rw [g i hi,g k hk] at e
    have h1:=Int.emod_emod_of_dvd
    have d:((i:Int) - (k:Int)) % (n:Int)=0:=by
      have:=Int.emod_eq_emod_iff_emod_sub_eq_zero.mp e
      rw [show (i:Int)+by' - ((k:Int)+by')=(i:Int) - k by walk_at "o"] at this
      exact this
    obtain ⟨z,hz⟩:=Int.dvd_of_emod_eq_zero d
    by_cases z0:z=0
    · rw [z0,Int.mul_zero] at hz;walk_at "o"
    · have : (n : Int) <= (n : Int) * z \/ (n : Int) * z <= -(n : Int) := by
        rcases Int.lt_or_gt_of_ne z0 with h | h
        · right
          have:=Int.mul_le_mul_of_nonneg_left (show z<=-1 by walk_at "o") (show (0:Int)<=n by walk_at "o")
          walk_at "o"
        · left
          have:=Int.mul_le_mul_of_nonneg_left (show 1<=z by walk_at "o") (show (0:Int)<=n by walk_at "o")
          walk_at "o"
      walk_at "o"
theorem VJ {n b:Nat}(h:b<=n):zd n (zW 0 1 b ++ zW ((n:Int) - 1) (-1) (n - b)):=by
 have g:∀ i,i<n->(zW 0 1 b ++ zW ((n:Int) - 1) (-1) (n - b)).getD i 0=if i<b then (i:Int) else (n:Int) - 1 - ((i - b:Nat):Int):=fun i hi=>by
  by_cases z:i<b
  ·rw [if_pos z,List.getD_eq_getElem?_getD,List.getElem?_append_left (by rw [zC];exact z),<- List.getD_eq_getElem?_getD,qa b z]
  ·rw [if_neg z,List.getD_eq_getElem?_getD,List.getElem?_append_right (by rw [zC];walk_at "o"),zC,<- List.getD_eq_getElem?_getD,zN (by rw [zC];walk_at "o")]
   simp [zW];walk_at "o"
 refine jd (by rw [List.length_append,zC,zC];walk_at "o") (fun i hi=>?_) (fun i k hi hk e=>?_)
 ·rw [g i hi];split <;> walk_at "o"
 ·rw [g i hi,g k hk] at e
  split at e <;> split at e <;> walk_at "o"
theorem EO {n b:Nat}(h:b<=n):Builtin.Range.rangeSize ((n:Int) - 1) ((b:Int) - 1) (-1)=((n - b:Nat):Int):=by
 unfold Builtin.Range.rangeSize
 rw [if_neg (by decide)]
 split
 ·rw [show (-(-1):Int)=1 from rfl,Int.ediv_one];walk_at "o"
 ·walk_at "o"
theorem Ku {n b:Nat}(h:n<=1000)(hb:b<=1000):Builtin.Range.small ((n:Int) - 1) ((b:Int) - 1) (-1)=true:=by
 unfold Builtin.Range.small
 unfold Builtin.Range.rangeSize
 simp only [Builtin.Range.rangeFitsLong,Bool.and_eq_true,Bool.or_eq_true,decide_eq_true_eq,beq_iff_eq,show ¬ (-1:Int) > 0 by decide,if_false,Int.neg_neg,Int.ediv_one]
 split <;> walk_at "o"
theorem Ap (a:At K mg "_law_order" Qr)(B:Blt mg)(D_law_take:Df P w K mg base "_law_take" ["_law_box_here","_law_many"] 3 xL)(D_law_shuffled:Df P w K mg base "_law_shuffled" ["_law_box_here","_law_n"] 3 j6)(D_law_ringed:Df P w K mg base "_law_ringed" ["_law_box_here","_law_n","_law_many"] 3 Jb)
  (D_law_exchanged:Df P w K mg base "_law_exchanged" ["_law_box_here","_law_n"] 3 Dn) (D_law_table:Df P w K mg base "_law_table" ["_law_n","_law_rows"] 3 YC):Df P w K mg base "_law_order" ["_law_box_here","_law_n"] 4 YK:=by
 refine qS (k:=3) a Jz (fun _ _ _ _ _ _=>Pn2_ fun _ _=>rfl) (fun vs H Q E h=>?_) (fun f cdv A outer s H vs Q E hr h=>?_)
 ·obtain ⟨b,n,N,rfl,_⟩:=h;rfl
 obtain ⟨b,n,N,rfl,hb,hN,hn,q⟩:=h
 have sc:=Jz
 have hsl:=hsl
 refine ⟨_,(zc (zr (i:=2) sc.nd rfl (by first | exact Or.inl rfl | exact Or.inr rfl) (zu D_law_take hr rfl (za (pv 0) (za zg zb))))
  (zc (qg (PW.pt (yc (zB wJ (pv 1) zg (zD _)) (j4 (zB xE (pv 2) zg (zD _))))) (ze (zx (zR (qt rfl) rfl B.list qZ (za (zR jf rfl B.range jT (za (pv 1) zb)) zb)))) zG)
  (zc (qg (zB wJ (pv 2) zg (zD _)) (ze (zx (zu D_law_shuffled hr rfl (za (pv 0) (za (pv 1) zb))))) zG)
  (zc (qg (zB xE (pv 2) zg (zD _)) (ze (zx (zu D_law_ringed hr rfl (za (pv 0) (za (pv 1) (za zg zb)))))) zG)
  (zc (qg (zB xE (pv 2) zg (zD _)) (ze (zx (zu D_law_ringed hr rfl (za (pv 0) (za (pv 1) (za (zp zS zg (zu D_law_take hr rfl (za (pv 0) (za zg zb)))) zb)))))) zG)
  (zc (qg (zB xE (pv 2) zg (zD _)) (ze (zx (zu D_law_exchanged hr rfl (za (pv 0) (za (pv 1) zb))))) zG)
  (zc (qg (zB xE (pv 2) zg (zD _)) (zc (zr (i:=4) sc.nd rfl (by first | exact Or.inl rfl | exact Or.inr rfl) (zu D_law_take hr rfl (za (pv 0) (za (pv 1) zb))))
  (ze (zx (qQ (ts:=[6]) rfl rfl (qu rfl B.range (za (pv 1) zb)) (fun _ _ _ _=>(zy (i:=6) sc.nd rfl (by first | exact Or.inl rfl | exact Or.inr rfl))) (fun _ _ _ _=>jb) (fun _ _ _ _=>(zp qD (zp zS (pv 6) (pv 4)) (pv 1))))))) zG)
  (zc (qg (zB xE (pv 2) zg (zD _)) (zc (vj (j:=5) rfl sc.nd rfl (by first | exact Or.inl rfl | exact Or.inr rfl) (ts:=[7]) rfl (wY rfl B.range (za zg (za (zp zS (pv 1) zg) zb))) (fun _ _ _ _=>(zy (i:=7) sc.nd rfl (by first | exact Or.inl rfl | exact Or.inr rfl))) (fun _ _ _ _=>yl (zB xE (zp qD (pv 1) (pv 7)) zg (zD _))) (fun _ _ _ _=>(pv 7)))
  (ze (zx (zu D_law_table hr rfl (za (pv 1) (za (zJ zU (pv 5) (zu D_law_take hr rfl (za (pv 0) (za (zn zl rfl B.len zM (za (pv 5) zb)) zb))) (fun _ _=>rfl)) zb)))))) zG)
  (zc (zr (i:=3) sc.nd rfl (by first | exact Or.inl rfl | exact Or.inr rfl) (zu D_law_take hr rfl (za (pv 0) (za (pv 1) zb))))
  (ze (zx (zp xH (zR (qt rfl) rfl B.list qZ (za (zR jf rfl B.range jT (za (pv 3) zb)) zb)) (zR (qt rfl) rfl B.list qZ (za (zR JX rfl B.range jT (za (zp xO (pv 1) zg) (za (zp xO (pv 3) zg) (za (Ft Dp zg) zb)))) zb)))))))))))))),?_⟩
 rw [show start ["_law_box_here","_law_n","_law_way","_law_begin","_law_by","_law_some","_law_k","_law_rows"] [V.ref b,V.int n]=[some (.ref b),some (.int n),none,none,none,none,none,none] from rfl]
 walk_at "rd"
 refine ⟨b,9,N,rfl,hb,by walk_at "o",by decide,by decide,fun way H1 k1 b1 l1 u1=>?_⟩
 have fr:∀ p,H1 p=none->H p=none:=fun p hp=>by
  cases z:H p with
  | none=>rfl
  | some o=>
   by_cases pb:p=b
   ·subst pb;obtain ⟨o',e⟩:=b1.there;rw [e] at hp;cases hp
   ·exact absurd (k1 p o (by simpa using pb) z) (by rw [hp];simp)
 have bx:∀ p,H1 p=none->b ≠ p:=fun p hp=>b1.ne hp
 have rr:∀ p,H1 p=none->∃ x x_1 x_2,upd H1 p (j7 p 0 (n:Int) 1) p=some (j7 p x x_1 x_2)/\Builtin.Range.small x x_1 x_2=true/\∃ x_3:Nat,Builtin.Range.rangeSize x x_1 x_2=(x_3:Int)/\x_3<=100000 /\
   ∀ l,upd H1 p (j7 p 0 (n:Int) 1) l=none->Q (V.ref l) (upd (upd H1 p (j7 p 0 (n:Int) 1)) l (HO.lst (List.map V.int (zW x x_2 x_3)))):=fun p hp=>by
  refine ⟨0,n,1,zf,small_one (by walk_at "o") (by walk_at "o") (by walk_at "o") (by walk_at "o"),n,Qq (by walk_at "o"),by walk_at "o",fun l hl=>?_⟩
  have hl1:H1 l=none:=yb hl (Kp.new _ hp)
  exact q l _ _ (k1.trans ((Kp.new _ hp).trans (Kp.new _ hl))) (fr l hl1) (((b1.new hp).new hl).mono (by walk_at "o")) zf (zd.rng n)
 refine kl (fun c=>rr) (fun c=>⟨rfl,kl (fun c=>rr) (fun c8=>⟨way,rfl,?_⟩)⟩)
 refine kl (fun c=>?_) (fun c2=>⟨rfl,kl (fun c=>?_) (fun c=>⟨rfl,kl (fun c=>?_) (fun c=>⟨rfl,kl (fun c=>?_) (fun c=>⟨rfl,kl (fun c=>?_) (fun c=>⟨rfl,kl (fun c=>?_) (fun c=>?_)⟩)⟩)⟩)⟩)⟩)
 ·exact ⟨b,n,N+1,rfl,b1,by walk_at "o",hn,fun p H' ns k hp b' h' ho=>q p H' ns (k1.trans k) (fr p hp) (b'.mono (by walk_at "o")) h' ho⟩
 ·exact ⟨b,n,1,N+1,rfl,b1,by walk_at "o",by walk_at "o",hn,by walk_at "o",by walk_at "o",fun p H' ns k hp b' h' ho=>q p H' ns (k1.trans k) (fr p hp) (b'.mono (by walk_at "o")) h' ho⟩
 ·refine ⟨b,4,_,rfl,b1,by walk_at "o",by decide,by decide,fun r H2 k2 b2 l2 u2=>⟨_,rfl,?_⟩⟩
  have fr2:∀ p,H2 p=none->H p=none:=fun p hp=>by
   cases z:H p with
   | none=>rfl
   | some o=>
    by_cases pb:p=b
    ·subst pb;obtain ⟨o',e⟩:=b2.there;rw [e] at hp;cases hp
    ·exact absurd (k2 p o (by simpa using pb) (k1 p o (by simpa using pb) z)) (by rw [hp];simp)
  refine ⟨b,n,(2+r).toNat,_,?_,b2,by walk_at "o",by walk_at "o",hn,by walk_at "o",by walk_at "o",fun p H' ns k hp b' h' ho=>q p H' ns ((k1.trans k2).trans k) (fr2 p hp) (b'.mono (by walk_at "o")) h' ho⟩
  rw [show (((2+r).toNat:Nat):Int)=2+r by walk_at "o"]
 ·exact ⟨b,n,N+1,rfl,b1,by walk_at "o",by walk_at "o",hn,fun p H' ns k hp b' h' ho=>q p H' ns (k1.trans k) (fr p hp) (b'.mono (by walk_at "o")) h' ho⟩
 ·refine ⟨b,_,_,rfl,b1,by walk_at "o",by walk_at "o",by walk_at "o",fun r H2 k2 b2 l2 u2=>⟨by walk_at "o",by walk_at "o",fun D hD=>?_⟩⟩
  have fr2:∀ p,H2 p=none->H p=none:=fun p hp=>by
   cases z:H p with
   | none=>rfl
   | some o=>
    by_cases pb:p=b
    ·subst pb;obtain ⟨o',e⟩:=b2.there;rw [e] at hp;cases hp
    ·exact absurd (k2 p o (by simpa using pb) (k1 p o (by simpa using pb) z)) (by rw [hp];simp)
  rw [Int.toNat_natCast]
  refine kQ (fun i τ H'=>∃ u,τ=[some (.ref b),some (.int n),some (.int way),none,some (.int r),none,u,none]/\Kp [D] (upd H2 D (.lst [])) H'/\H' D=some (il ((List.range i).map fun (i:Nat)=>((i:Int)+r) % (n:Int)))) ?_ ?_ ?_
  ·exact ⟨none,rfl,Kp.refl,zf⟩
  ·rintro i τ H' hi ⟨u,rfl,kp,hd⟩
   walk_at "rd"
   walk_at "xs"
   refine ⟨by rw [List.length_map,List.length_map,List.length_range];walk_at "o",kp.trans (Kp.set _ (by simp)),zf.trans (congrArg some (congrArg HO.lst ?_))⟩
   rw [List.range_succ,List.map_append,List.map_append,Int.zero_add];rfl
  ·rintro τ H' ⟨u,rfl,kp,hd⟩
   exact q D H' _ ((k1.trans k2).trans ((Kp.drop1 hD kp).mono (by simp))) (fr2 D hD) ((b2.kp (Kp.drop1 hD kp)).mono (by walk_at "o")) hd (A8 (by walk_at "o") r)
 ·refine ⟨by decide,by decide,by walk_at "o",by walk_at "o",fun D hD=>?_⟩
  rw [show ((n:Int)+1 - 1).toNat=n by walk_at "o"]
  have nbD:=bx D hD
  refine kQ (fun i τ H'=>∃ u ts,τ=[some (.ref b),some (.int n),some (.int way),none,none,none,none,u]/\Kp [D] (upd H1 D (.lst [])) H'/\H' D=some (il ts)/\ts.length<=i/\(1<=i->1<=ts.length)/\∀ t ∈ ts,1<=t/\t<=(n:Int)/\(n:Int) % t=0) ?_ ?_ ?_
  ·exact ⟨none,[],rfl,Kp.refl,zf,Nat.le_refl _,(fun h=>absurd h (by decide)),fun t ht=>nomatch ht⟩
  ·rintro i τ H' hi ⟨u,ts,rfl,kp,hd,hl,hl1,hbd⟩
   walk_at "rd"
   refine ⟨by walk_at "o",rfl,kl (fun c=>?_) (fun c=>?_)⟩
   ·refine ⟨_,hd,by rw [List.length_map];walk_at "o",kp.trans (Kp.set _ (by simp)),ts ++ [1+(i:Int)],zf.trans (congrArg some (congrArg HO.lst (by rw [List.map_append];rfl))),by rw [List.length_append,List.length_singleton];walk_at "o",fun _=>by rw [List.length_append,List.length_singleton];walk_at "o",fun t ht=>?_⟩
    rcases List.mem_append.mp ht with z | z
    ·exact hbd t z
    ·have:t=1+(i:Int):=by simpa using z
     subst this
     exact ⟨by walk_at "o",by walk_at "o",c⟩
   ·refine ⟨kp,ts,hd,by walk_at "o",fun _=>?_,hbd⟩
    by_cases z:i=0
    ·subst z
     exact absurd (by show (n:Int) % (1+0)=0;rw [Int.add_zero,Int.emod_one]) c
    ·exact hl1 (by walk_at "o")
  ·rintro τ H' ⟨u,ts,rfl,kp,hd,hl,hl1,hbd⟩
   have kD:=Kp.drop1 hD kp
   have l1':=hl1 (by walk_at "o")
   refine ⟨D,rfl,_,.inl (SqL.of hd),b,_,N+1,rfl,b1.kp kD,by walk_at "o",by rw [List.length_map];walk_at "o",by rw [List.length_map];walk_at "o",fun r H2 k2 b2 l2 u2=>?_⟩
   rw [List.length_map] at u2
   obtain ⟨e1,e2⟩:=zK (cs:=ts) (k:=r) l2 u2
   have hd2:=k2 _ _ (by simpa using Ne.symm nbD) hd
   have hm:ts.getD r.toNat 0 ∈ ts:=by rw [zN (by walk_at "o")];exact List.getElem_mem _
   obtain ⟨t1,t2,t3⟩:=hbd _ hm
   refine ⟨D,rfl,_,_,rfl,SqL.of hd2,_,e2,?_⟩
   generalize ts.getD r.toNat 0=t at t1 t2 t3
   obtain ⟨T,rfl⟩:∃ T:Nat,t=T:=⟨t.toNat,by walk_at "o"⟩
   have dv:T ∣ n:=Int.natCast_dvd_natCast.mp (Int.dvd_of_emod_eq_zero t3)
   obtain ⟨C,hC⟩:=dv
   refine ⟨n,T,C,rfl,hC,by walk_at "o",?_,hn,fun p H3 ns k3 hp3 h3 ho=>?_⟩
   ·rcases Nat.eq_zero_or_pos C with z | z
    ·rw [z,Nat.mul_zero] at hC;walk_at "o"
    ·exact z
   ·refine q p H3 ns (((k1.trans (kD.mono (by simp))).trans k2).trans (k3.mono (by simp))) ?_ ((b2.kp k3).mono (by walk_at "o")) h3 ho
    cases z:H p with
    | none=>rfl
    | some o=>
     by_cases pb:p=b
     ·subst pb;obtain ⟨o',e⟩:=b2.there;rw [e] at hp3;cases hp3
     ·exact absurd (k2 p o (by simpa using pb) (kD p o (by simp) (k1 p o (by simpa using pb) z))) (by rw [hp3];simp)
 ·refine ⟨b,_,_,rfl,b1,by walk_at "o",by walk_at "o",by walk_at "o",fun r H2 k2 b2 l2 u2=>?_⟩
  obtain ⟨R,rfl⟩:∃ R:Nat,r=R:=⟨r.toNat,by walk_at "o"⟩
  have fr2:∀ p,H2 p=none->H p=none:=fun p hp=>by
   cases z:H p with
   | none=>rfl
   | some o=>
    by_cases pb:p=b
    ·subst pb;obtain ⟨o',e⟩:=b2.there;rw [e] at hp;cases hp
    ·exact absurd (k2 p o (by simpa using pb) (k1 p o (by simpa using pb) z)) (by rw [hp];simp)
  refine ⟨_,rfl,fun p hp=>⟨0,R,1,zf,small_one (by walk_at "o") (by walk_at "o") (by walk_at "o") (by walk_at "o"),R,Qq (by walk_at "o"),by walk_at "o",fun l hl=>?_⟩⟩
  refine ⟨_,rfl,by decide,by decide,fun p1 hp1=>⟨_,_,_,zf,Ku hn (by walk_at "o"),n - R,EO (by walk_at "o"),by walk_at "o",fun l1 hl1=>?_⟩⟩
  walk_at "xs"
  intro p2 hp2
  refine q p2 _ (zW 0 1 R ++ zW ((n:Int) - 1) (-1) (n - R)) ?_ ?_ ?_ (zf.trans (congrArg some (congrArg HO.lst (by rw [List.map_append])))) (VJ (by walk_at "o"))
  ·exact (k1.trans k2).trans (by walk_at "kp")
  ·exact fr2 p2 (by walk_at "fr")
  ·exact (b2.kp (by walk_at "kp")).mono (by walk_at "o")
theorem Ll:MR rNe:=fun _ _ _ _ _ hq ⟨e,h⟩=>⟨e,hq _ _ h⟩
theorem kf {ss:List Bool}{i:Nat}(h:i<ss.length):ixN (ss.map V.bl).length (i:Int)=some i/\atI (ss.map V.bl) (i:Int)=some (.bl (ss.getD i false)):=by
 have e1:ixN (ss.map V.bl).length (i:Int)=some i:=by unfold ixN;rw [List.length_map,if_pos (by walk_at "o"),if_pos (by walk_at "o"),Int.toNat_natCast]
 refine ⟨e1,?_⟩
 unfold atI
 rw [e1]
 show (ss.map V.bl)[i]?=_
 rw [List.getElem?_map,List.getD_eq_getElem?_getD,List.getElem?_eq_getElem h];rfl
theorem yx {ss:List Bool}{i j:Nat}{v:Bool}(h:i<ss.length):(ss.set i v).getD j false=if j=i then v else ss.getD j false:=by
 rw [List.getD_eq_getElem?_getD,List.getD_eq_getElem?_getD,List.getElem?_set]
 by_cases e:i=j
 ·subst e;rw [if_pos rfl,if_pos h,if_pos rfl];rfl
 ·rw [if_neg e,if_neg (fun z=>e z.symm)]
noncomputable abbrev kI:Stmt:=top 13
theorem yg:zw ["order","first","ring","place"] ["order","first"] (zi kI):=⟨rfl,rfl,rfl,by decide +kernel,rfl,by decide +kernel,by decide +kernel⟩
noncomputable def xQ (K:PySem.W.Frag):Sp:=fun vs H Q _=>∃ (a:Addr) (n:Nat) (os:List Int) (p:Int),vs=[.ref a,.int p]/\(SqL K H a (os.map V.int) \/ SqT K H a (os.map V.int))/\zd n os/\n<=1000/\0<=p/\p<n/\∀ t H',Kp [] H H'->H t=none->H' t=some (il (zt os p))->Q (.ref t) H'
theorem Z7 (a:At K mg "ring_from" kI)(B:Blt mg):Df P w K mg base "ring_from" ["order","first"] 1 (xQ K):=by
  refine qS (k:=0) a yg (fun _ _ _ _ _ _=>Pn2_ fun _ _=>rfl) (fun vs H Q E h=>?_) (fun f cdv A outer s H vs Q E hr h=>?_)
  · obtain ⟨a,_,_,_,rfl,_⟩:=h;rfl
  obtain ⟨a,n,os,p,rfl,ha,ho,hn,p0,p1,q⟩:=h
  have sc:=yg
  have hsl:=hsl
  have ol:=ho.1
  obtain ⟨M,hM,hMn⟩:=qT ho p0 p1
  refine ⟨_,(zc (zr (i:=2) sc.nd rfl (by first | exact Or.inl rfl | exact Or.inr rfl) (qk (za (pv 1) zb)))
    (zc (zr (i:=3) sc.nd rfl (by first | exact Or.inl rfl | exact Or.inr rfl) (zJ qU (pv 0) (pv 1) (fun _ _=>rfl)))
    (zc (xa PassesOwn.never (zB FI (pv 3) (pv 1) (zD _)) (zc (qC (ky PySem.F.plainAttrs_list PySem.F.slot_list_append PySem.F.type_list_append qL (pv 2) (za (pv 3) zb)))
    (ze (zr (i:=3) sc.nd rfl (by first | exact Or.inl rfl | exact Or.inr rfl) (zJ qU (pv 0) (pv 3) (fun _ _=>rfl))))))
    (ze (zx (pv 2)))))),?_⟩
  rw [show start ["order","first","ring","place"] [V.ref a,V.int p]=[some (.ref a),some (.int p),none,none] from rfl]
  walk_at "rd"
  obtain ⟨e1,e2⟩:=zK (cs:=os) (k:=p) p0 (by walk_at "o")
  refine ⟨by show 1<=sizeLine;decide,fun t ht=>⟨_,ku ha (Kp.new _ ht),_,e2,?_⟩⟩
  refine Ju (fun τ H'=>∃ (j:Nat),τ=[some (.ref a),some (.int p),some (.ref t),some (.int (itn os j p))]/\Kp [t] (upd H t (.lst [.int p])) H'/\H' t=some (il (itl os p j))/\1<=j/\j<=M/\∀ i,1<=i->i<j->itn os i p ≠ p)
    (fun _ H'=>match H' t with | some (.lst xs)=>M+1 - xs.length | _=>0) ?_ ?_ (Es (Lf Ll A4 A4))
  · exact ⟨1,rfl,Kp.refl,zf,Nat.le_refl _,hM.1,fun i h1 h2=>by walk_at "o"⟩
  · rintro τ H' ⟨j,rfl,kp,hH,j1,jM,hj⟩
    have bd:=qc ho p0 p1 j
    have k0:=Kp.drop1 ht kp
    walk_at "rd"
    refine ⟨rfl,kl (fun c=>?_) (fun c=>?_)⟩
    · have jM' : j < M := by
        rcases Nat.lt_or_ge j M with z | z
        · exact z
        · have e:j=M:=by walk_at "o"
          subst e
          exact absurd hM.2.1 c
      obtain ⟨g1,g2⟩:=zK (cs:=os) (k:=itn os j p) bd.1 (by walk_at "o")
      have k1:Kp [] H (upd H' t (HO.lst (List.map V.int (itl os p j) ++ [V.int (itn os j p)]))):=Kp.drop1 ht (kp.trans (Kp.set _ (by simp)))
      refine ⟨.inl ⟨rfl,_,SqL.of hH⟩,_,hH,by rw [List.length_map,qj];walk_at "o",_,ku ha k1,_,g2,⟨j+1,rfl,kp.trans (Kp.set _ (by simp)),?_,by walk_at "o",by walk_at "o",fun i h1 h2=>?_⟩,?_⟩
      · rw [W0]
        exact zf.trans (congrArg some (congrArg HO.lst (by rw [List.map_append];rfl)))
      · by_cases e:i=j
        · subst e;exact c
        · exact hj i h1 (by walk_at "o")
      · rw [zf,hH]
        show M+1 - (List.map V.int (itl os p j) ++ [V.int (itn os j p)]).length<M+1 - (List.map V.int (itl os p j)).length
        rw [List.length_append,List.length_map,qj]
        show M+1 - (j+1)<M+1 - j
        walk_at "o"
    · have hw:jw os p j:=⟨j1,by by_cases z:itn os j p=p;exact z;exact absurd z c,hj⟩
      refine q _ _ k0 ht ?_
      unfold zt
      rw [hw.per]
      exact hH
noncomputable abbrev Z5:Stmt:=top 14
theorem JS:zw ["order","seen","found","first","ring","place"] ["order"] (zi Z5):=⟨rfl,rfl,rfl,by decide +kernel,rfl,by decide +kernel,by decide +kernel⟩
noncomputable def XJ (K:PySem.W.Frag):Sp:=fun vs H Q _=>∃ (a:Addr) (n:Nat) (os:List Int),vs=[.ref a]/\(SqL K H a (os.map V.int) \/ SqT K H a (os.map V.int))/\zd n os/\n<=1000 /\
 ∀ p H' rs,Kp [] H H'->H p=none->H' p=some (.lst (rfs rs))->(∀ r ∈ rs,H r.1=none/\r.1 ≠ p/\H' r.1=some (il r.2))->rs.map (·.2)=zh os n->Q (.ref p) H'
theorem WP (a:At K mg "rings" Z5)(B:Blt mg)(D_ring_from:Df P w K mg base "ring_from" ["order","first"] 1 (xQ K)):Df P w K mg base "rings" ["order"] 2 (XJ K):=by
 refine qS (k:=1) a JS (fun _ _ _ _ _ _=>Pn1_ fun _=>rfl) (fun vs H Q E h=>?_) (fun f cdv A outer s H vs Q E hr h=>?_)
 ·obtain ⟨a,_,_,rfl,_⟩:=h;rfl
 obtain ⟨a,n,os,rfl,ha,ho,hn,q⟩:=h
 have sc:=JS
 have hsl:=hsl
 have ol:=ho.1
 refine ⟨_,(zc (zr (i:=1) sc.nd rfl (by first | exact Or.inl rfl | exact Or.inr rfl) (zp yz (qk (za qI zb)) (zn zl rfl B.len zM (za (pv 0) zb))))
  (zc (zr (i:=2) sc.nd rfl (by first | exact Or.inl rfl | exact Or.inr rfl) (qk zb))
  (zc (qi PassesOwn.never rfl (qu rfl B.range (za (zn zl rfl B.len zM (za (pv 0) zb)) zb)) (zy (i:=3) sc.nd rfl (by first | exact Or.inl rfl | exact Or.inr rfl)) (ze (qg (jN (qE (zJ zU (pv 1) (pv 3) (fun _ _=>rfl)) (fun _=>rfl))) (zc (zr (i:=4) sc.nd rfl (by first | exact Or.inl rfl | exact Or.inr rfl) (zu D_ring_from hr rfl (za (pv 0) (za (pv 3) zb))))
  (zc (qi PassesOwn.never rfl (X7 (pv 4)) (zy (i:=5) sc.nd rfl (by first | exact Or.inl rfl | exact Or.inr rfl)) (ze (ji qI (qV (pv 1) (pv 5) qb))))
  (ze (qg (zB QC (zn zl rfl B.len zM (za (pv 4) zb)) zg (zD _)) (ze (qC (ky PySem.F.plainAttrs_list PySem.F.slot_list_append PySem.F.type_list_append qL (pv 2) (za (pv 4) zb)))) zG)))) zG)))
  (ze (zx (pv 2)))))),?_⟩
 rw [show start ["order","seen","found","first","ring","place"] [V.ref a]=[some (.ref a),none,none,none,none,none] from rfl]
 walk_at "rd"
 refine ⟨by show 1<=sizeLine;decide,fun pz hpz=>⟨_,ku ha (Kp.new _ hpz),_,zf,?_⟩⟩
 rw [List.length_map,ol,Int.toNat_natCast,Jt]
 refine ⟨by walk_at "o",by walk_at "o",by show 1 * n<=sizeLine;walk_at "o",fun ps hps=>?_⟩
 refine ⟨Nat.zero_le _,fun pf hpf=>?_⟩
 have kH:=((Kp.new (bs:=[]) (HO.lst [V.bl false]) hpz).trans (Kp.new (HO.lst (List.replicate n (V.bl false))) hps)).trans (Kp.new (HO.lst []) hpf)
 have nps:H ps=none:=(Kp.new (bs:=[]) _ hpz).free hps
 have npf:H pf=none:=((Kp.new (bs:=[]) _ hpz).trans (Kp.new _ hps)).free hpf
 have hps0:=(Kp.new (bs:=[]) (HO.lst []) hpf) ps _ (by simp) (zf (H:=upd H pz (HO.lst [V.bl false])) (o:=HO.lst (List.replicate n (V.bl false))))
 have hpf0:=zf (H:=upd (upd H pz (HO.lst [V.bl false])) ps (HO.lst (List.replicate n (V.bl false)))) (a:=pf) (o:=HO.lst [])
 have nsf:ps ≠ pf:=zj zf hpf
 generalize upd (upd (upd H pz (HO.lst [V.bl false])) ps (HO.lst (List.replicate n (V.bl false)))) pf (HO.lst [])=H0 at *
 refine ⟨_,ku ha kH,?_⟩
 rw [List.length_map,ol]
 refine ⟨by walk_at "o",by walk_at "o",?_⟩
 rw [Int.toNat_natCast]
 refine kN (fun i τ G=>∃ (x3 x4 x5:Option V) (ss:List Bool) (rs:List (Addr × List Int)),τ=[some (.ref a),some (.ref ps),some (.ref pf),x3,x4,x5]/\Kp [ps,pf] H0 G/\G ps=some (.lst (ss.map V.bl))/\ss.length=n/\(∀ x:Nat,x<n->(ss.getD x false=true ↔ qx os i (x:Int)))/\G pf=some (.lst (rfs rs))/\(∀ r ∈ rs,H r.1=none/\r.1 ≠ pf/\r.1 ≠ ps/\G r.1=some (il r.2))/\rs.map (·.2)=zh os i) ?_ ?_ ?_
 ·refine ⟨none,none,none,List.replicate n false,[],rfl,Kp.refl,by rw [List.map_replicate];exact hps0,by simp,fun x hx=>?_,hpf0,fun r hr=>(nomatch hr),rfl⟩
  constructor
  ·intro z
   rw [List.getD_eq_getElem?_getD,List.getElem?_replicate,if_pos hx] at z
   cases z
  ·rintro ⟨q,hq,_⟩;walk_at "o"
 ·rintro i τ G hi ⟨x3,x4,x5,ss,rs,rfl,kG,gs,ls,hs,gf,hr,er⟩
  have kHG:Kp [] H G:=Kp.un (Kp.un ((kH.mono (by simp)).trans kG) nps) npf
  obtain ⟨s1,s2⟩:=kf (ss:=ss) (i:=i) (by walk_at "o")
  have lrs:rs.length<=i:=by
   have:=qz os i
   rw [<- er,List.length_map] at this
   exact this
  rw [Int.zero_add]
  walk_at "rd"
  refine ⟨_,SqL.of gs,_,s2,_,rfl,kl (fun c=>?_) (fun c=>?_)⟩
  ·have hns:¬ qx os i (i:Int):=by rw [<- hs i hi,c];simp
   refine ⟨a,n,os,i,rfl,ku ha kHG,ho,hn,by walk_at "o",by walk_at "o",fun t G1 k1 ht h1=>?_⟩
   have gs1:=k1 _ _ (by simp) gs
   have gf1:=k1 _ _ (by simp) gf
   obtain ⟨M,hM,hMn⟩:=qT ho (p:=(i:Int)) (by walk_at "o") (by walk_at "o")
   have hrl:(zt os (i:Int)).length=M:=by unfold zt;rw [qj,hM.per]
   have nts:t ≠ ps:=Ne.symm (zj gs ht)
   have ntf:t ≠ pf:=Ne.symm (zj gf ht)
   refine ⟨t,rfl,⟨_,SqL.of h1⟩,?_⟩
   refine Yh (xs:=(zt os (i:Int)).map V.int) (fun j τ G'=>∃ (x5:Option V) (ss':List Bool),τ=[some (.ref a),some (.ref ps),some (.ref pf),some (.int (i:Int)),some (.ref t),x5]/\Kp [ps] G1 G'/\G' ps=some (.lst (ss'.map V.bl))/\ss'.length=n/\∀ x:Nat,x<n->(ss'.getD x false=true ↔ qx os i (x:Int) \/ (x:Int) ∈ (zt os (i:Int)).take j)) ?_ ?_ ?_ ?_
   ·exact ⟨x5,ss,rfl,Kp.refl,gs1,ls,fun x hx=>by rw [hs x hx];simp⟩
   ·rintro j τ G' _ ⟨_,ss',rfl,kp,_⟩
    exact SqL.of (kp _ _ (by simpa using nts) h1)
   ·rintro j x τ G' hx ⟨y5,ss',rfl,kp,gs',ls',hs'⟩
    obtain ⟨rfl,hj⟩:=qA hx
    have hm:(zt os (i:Int)).getD j 0 ∈ zt os (i:Int):=by rw [zN hj];exact List.getElem_mem hj
    have hb:0<=(zt os (i:Int)).getD j 0/\(zt os (i:Int)).getD j 0<(n:Int):=by
     obtain ⟨k,_,e⟩:=qM.mp hm
     rw [<- e]
     exact qc ho (by walk_at "o") (by walk_at "o") k
    have htk:(zt os (i:Int)).take (j+1)=(zt os (i:Int)).take j ++ [(zt os (i:Int)).getD j 0]:=by
     rw [zN hj];exact (List.take_append_getElem hj).symm
    generalize (zt os (i:Int)).getD j 0=v at *
    obtain ⟨vn,rfl⟩:∃ vn:Nat,v=vn:=⟨v.toNat,by walk_at "o"⟩
    obtain ⟨g1,g2⟩:=kf (ss:=ss') (i:=vn) (by walk_at "o")
    walk_at "rd"
    refine ⟨_,gs',vn,g1,kp.trans (Kp.set _ (by simp)),ss'.set vn true,zf.trans (congrArg some (congrArg HO.lst (by rw [List.map_set]))),by rw [List.length_set];exact ls',fun x hx=>?_⟩
    rw [yx (by walk_at "o"),htk,List.mem_append,List.mem_singleton]
    by_cases e:x=vn
    ·subst e;rw [if_pos rfl];simp
    ·have e':¬ ((x:Int)=(vn:Int)):=by walk_at "o"
     rw [if_neg e,hs' x hx]
     simp [e']
   ·rintro τ G' ⟨y5,ss',rfl,kp,gs',ls',hs'⟩
    rw [List.length_map,List.take_length] at hs'
    have h1':=kp _ _ (by simpa using nts) h1
    have gf':=kp _ _ (by simpa using Ne.symm nsf) gf1
    have hs'':∀ x:Nat,x<n->(ss'.getD x false=true ↔ qx os (i+1) (x:Int)):=fun x hx=>by
     rw [hs' x hx,qx.succ,Rch.mem_ring hM]
     unfold zt
     rw [hM.per]
    have kp2:Kp [ps,pf] H0 G':=(kG.trans (k1.mono (by simp))).trans (kp.mono (by simp))
    have hr':∀ r ∈ rs,H r.1=none/\r.1 ≠ pf/\r.1 ≠ ps/\G' r.1=some (il r.2):=fun r hr0=>by
     obtain ⟨z1,z2,z3,z4⟩:=hr r hr0
     exact ⟨z1,z2,z3,kp _ _ (by simpa using z3) (k1 _ _ (by simp) z4)⟩
    have hL:qN os i:=jz.mpr hns
    walk_at "rd"
    refine ⟨_,.inl (SqL.of h1'),kl (fun c1=>?_) (fun c1=>?_)⟩
    ·have hpe:1<per os (i:Int):=by rw [hM.per];rw [List.length_map,hrl] at c1;walk_at "o"
     refine ⟨.inl ⟨rfl,_,SqL.of gf'⟩,_,gf',by unfold rfs;rw [List.length_map];walk_at "o",⟨_,rfl⟩,kp2.trans (Kp.set _ (by simp)),ss',(zq nsf).trans gs',ls',hs'',rs ++ [(t,zt os (i:Int))],?_,fun r hr0=>?_,?_⟩
     ·refine zf.trans (congrArg some (congrArg HO.lst ?_))
      unfold rfs;rw [List.map_append];rfl
     ·rcases List.mem_append.mp hr0 with z | z
      ·obtain ⟨z1,z2,z3,z4⟩:=hr' r z
       exact ⟨z1,z2,z3,(zq z2).trans z4⟩
      ·rw [List.mem_singleton.mp z]
       exact ⟨kHG.free ht,ntf,nts,(zq ntf).trans h1'⟩
     ·show _=zh os i ++ _
      rw [if_pos ⟨hL,hpe⟩,List.map_append,er]
      rfl
    ·have hpe:¬ 1<per os (i:Int):=by rw [hM.per];rw [List.length_map,hrl] at c1;walk_at "o"
     refine ⟨⟨_,rfl⟩,kp2,ss',gs',ls',hs'',rs,gf',hr',?_⟩
     show _=zh os i ++ _
     rw [if_neg (fun z=>hpe z.2),List.append_nil,er]
  ·have hsi:qx os i (i:Int):=(hs i hi).mp (by cases z:ss.getD i false with | true=>rfl | false=>exact absurd z c)
   refine ⟨kG,ss,gs,ls,fun x hx=>by rw [hs x hx,qx.step ho hi hsi],rs,gf,hr,?_⟩
   show _=zh os i ++ _
   rw [if_neg (fun z=>jz.mp z.1 hsi),List.append_nil,er]
 ·rintro τ G ⟨x3,x4,x5,ss,rs,rfl,kG,gs,ls,hs,gf,hr,er⟩
  have kHG:Kp [] H G:=Kp.un (Kp.un ((kH.mono (by simp)).trans kG) nps) npf
  walk_at "rd"
  exact q _ _ rs kHG npf gf (fun r hr0=>⟨(hr r hr0).1,(hr r hr0).2.1,(hr r hr0).2.2.2⟩) er
theorem Be {i j:Nat}{r:R2}(hr:∀ x y H Q Q',(∀ z H1,Q z H1->Q' z H1)->r x y H Q->r x y H Q'):∀ σ H Q Q',(∀ b H1,Q b H1->Q' b H1)->wU (tOp r (Qg i) (Qg j)) σ H Q->wU (tOp r (Qg i) (Qg j)) σ H Q':=by
 rintro σ H Q Q' hq ⟨x,e,y,e2,h⟩
 exact ⟨x,e,y,e2,hr _ _ _ _ _ (fun z H1 ⟨k,e,q⟩=>⟨k,e,hq _ _ q⟩) h⟩
noncomputable abbrev ym:Stmt:=top 21
theorem vE:zw ["order","place","at","steps"] ["order","place"] (zi ym):=⟨rfl,rfl,rfl,by decide +kernel,rfl,by decide +kernel,by decide +kernel⟩
noncomputable def wu (K:PySem.W.Frag):Sp:=fun vs H Q _=>∃ (a:Addr) (n:Nat) (os:List Int) (p:Int),vs=[.ref a,.int p]/\(SqL K H a (os.map V.int) \/ SqT K H a (os.map V.int))/\zd n os/\0<=p/\p<n/\∀ m e,qF os p m e->∀ t,H t=none->Q (.ref t) (upd H t (.tup [.int m,.int e]))
theorem Xx (a:At K mg "walk_of" ym)(B:Blt mg):Df P w K mg base "walk_of" ["order","place"] 1 (wu K):=by
 refine qS (k:=0) a vE (fun _ _ _ _ _ _=>Pn2_ fun _ _=>rfl) (fun vs H Q E h=>?_) (fun f cdv A outer s H vs Q E hr h=>?_)
 ·obtain ⟨a,_,_,_,rfl,_⟩:=h;rfl
 obtain ⟨a,n,os,p,rfl,ha,ho,p0,p1,q⟩:=h
 have sc:=vE
 have hsl:=hsl
 have ol:=ho.1
 obtain ⟨M,hM1,_,hM⟩:=vf ho p0 p1
 refine ⟨_,(zc (zr (i:=2) sc.nd rfl (by first | exact Or.inl rfl | exact Or.inr rfl) (zJ qU (pv 0) (pv 1) (fun _ _=>rfl)))
  (zc (zr (i:=3) sc.nd rfl (by first | exact Or.inl rfl | exact Or.inr rfl) zg)
  (zc (xa PassesOwn.never (zB QC (pv 2) (pv 1) (zD _)) (zc (zr (i:=2) sc.nd rfl (by first | exact Or.inl rfl | exact Or.inr rfl) (zJ qU (pv 0) (pv 2) (fun _ _=>rfl)))
  (ze (Di (i:=3) sc.nd rfl (by first | exact Or.inl rfl | exact Or.inr rfl) zg Ik))))
  (ze (zx (kj (za (pv 3) (za (pv 2) zb)))))))),?_⟩
 rw [show start ["order","place","at","steps"] [V.ref a,V.int p]=[some (.ref a),some (.int p),none,none] from rfl]
 walk_at "rd"
 obtain ⟨e1,e2⟩:=zK (cs:=os) (k:=p) p0 (by walk_at "o")
 refine ⟨_,ha,_,e2,?_⟩
 refine Ju (fun τ H'=>H'=H/\∃ (j:Nat),τ=[some (.ref a),some (.int p),some (.int (itn os j p)),some (.int j)]/\1<=j/\j<=M/\∀ i,1<=i->i<j->p<itn os i p)
  (fun τ _=>match τ with | [_,_,_,some (.int l)]=>M - l.toNat | _=>0) ?_ ?_ (Be fun x y H Q Q' hq ⟨i,j,e1,e2,q⟩=>⟨i,j,e1,e2,hq _ _ q⟩)
 ·exact ⟨rfl,1,rfl,Nat.le_refl _,hM1,fun i h1 h2=>by walk_at "o"⟩
 ·rintro τ H' ⟨rfl,j,rfl,j1,jM,hj⟩
  have bd:=qc ho p0 p1 j
  walk_at "rd"
  refine kl (fun c=>?_) (fun c=>?_)
  ·obtain ⟨g1,g2⟩:=zK (cs:=os) (k:=itn os j p) bd.1 (by walk_at "o")
   have jM':j<M:=by
    rcases Nat.lt_or_ge j M with z | z
    ·exact z
    ·have:j=M:=by walk_at "o"
     subst this;walk_at "o"
   refine ⟨_,ha,_,g2,⟨j+1,rfl,rfl,by walk_at "o",by walk_at "o",fun i h1 h2=>?_⟩,?_⟩
   ·by_cases e:i=j
    ·subst e;walk_at "o"
    ·exact hj i h1 (by walk_at "o")
   ·show M - ((j:Int)+1).toNat<M - (j:Int).toNat
    walk_at "o"
  ·walk_at "rd"
   refine ⟨by show 2<=sizeLine;decide,fun t ht=>q _ _ ⟨j1,rfl,by walk_at "o",hj⟩ t ht⟩
noncomputable abbrev jY:Stmt:=top 22
theorem xD:zw ["order","place"] ["order","place"] (zi jY):=⟨rfl,rfl,rfl,by decide +kernel,rfl,by decide +kernel,by decide +kernel⟩
noncomputable def ZW (K:PySem.W.Frag):Sp:=fun vs H Q _=>∃ (a:Addr) (n:Nat) (os:List Int) (p:Int),vs=[.ref a,.int p]/\(SqL K H a (os.map V.int) \/ SqT K H a (os.map V.int))/\zd n os/\0<=p/\p<n/\∀ H',Kp [] H H'->Q (.int (wkM os p)) H'
theorem ww (a:At K mg "steps_from" jY)(B:Blt mg)(D_walk_of:Df P w K mg base "walk_of" ["order","place"] 1 (wu K)):Df P w K mg base "steps_from" ["order","place"] 2 (ZW K):=by
 refine qS (k:=1) a xD (fun _ _ _ _ _ _=>Pn2_ fun _ _=>rfl) (fun vs H Q E h=>?_) (fun f cdv A outer s H vs Q E hr h=>?_)
 ·obtain ⟨a,_,_,_,rfl,_⟩:=h;rfl
 obtain ⟨a,n,os,p,rfl,ha,ho,p0,p1,q⟩:=h
 have sc:=xD
 refine ⟨_,(ze (zx (zJ Km (zu D_walk_of hr rfl (za (pv 0) (za (pv 1) zb))) zg (fun _ _=>rfl)))),?_⟩
 rw [show start ["order","place"] [V.ref a,V.int p]=[some (.ref a),some (.int p)] from rfl]
 walk_at "rd"
 refine ⟨a,n,os,p,rfl,ha,ho,p0,p1,fun m e hw t ht=>⟨_,rfl,_,SqT.of zf,_,rfl,?_⟩⟩
 rw [<- hw.wkM]
 exact q _ (Kp.new _ ht)
noncomputable abbrev Qv:Stmt:=top 23
theorem Jn:zw ["order","place"] ["order","place"] (zi Qv):=⟨rfl,rfl,rfl,by decide +kernel,rfl,by decide +kernel,by decide +kernel⟩
noncomputable def Qe (K:PySem.W.Frag):Sp:=fun vs H Q _=>∃ (a:Addr) (n:Nat) (os:List Int) (p:Int),vs=[.ref a,.int p]/\(SqL K H a (os.map V.int) \/ SqT K H a (os.map V.int))/\zd n os/\0<=p/\p<n/\∀ H',Kp [] H H'->Q (.bl (decide (wkE os p=p))) H'
theorem Dz (a:At K mg "leads" Qv)(B:Blt mg)(D_walk_of:Df P w K mg base "walk_of" ["order","place"] 1 (wu K)):Df P w K mg base "leads" ["order","place"] 2 (Qe K):=by
 refine qS (k:=1) a Jn (fun _ _ _ _ _ _=>Pn2_ fun _ _=>rfl) (fun vs H Q E h=>?_) (fun f cdv A outer s H vs Q E hr h=>?_)
 ·obtain ⟨a,_,_,_,rfl,_⟩:=h;rfl
 obtain ⟨a,n,os,p,rfl,ha,ho,p0,p1,q⟩:=h
 have sc:=Jn
 refine ⟨_,(ze (zx (xt xE (zJ Km (zu D_walk_of hr rfl (za (pv 0) (za (pv 1) zb))) zg (fun _ _=>rfl)) (pv 1) (zD _)))),?_⟩
 rw [show start ["order","place"] [V.ref a,V.int p]=[some (.ref a),some (.int p)] from rfl]
 walk_at "rd"
 refine ⟨a,n,os,p,rfl,ha,ho,p0,p1,fun m e hw t ht=>⟨_,rfl,_,SqT.of zf,_,rfl,rfl,?_⟩⟩
 rw [<- hw.wkE,show decide (V.int (wkE os p)=V.int p)=decide (wkE os p=p) by simp]
 exact q _ (Kp.new _ ht)
noncomputable abbrev ZE:Stmt:=top 24
theorem Q6:zw ["order","place"] ["order"] (zi ZE):=⟨rfl,rfl,rfl,by decide +kernel,rfl,by decide +kernel,by decide +kernel⟩
noncomputable def wkL (os:List Int)(k:Nat):List Int:=(List.range k).map fun (i:Nat)=>((wkM os (i:Int):Nat):Int)
theorem Dq (os:List Int)(k:Nat):wkL os (k+1)=wkL os k ++ [((wkM os (k:Int):Nat):Int)]:=by
 unfold wkL;rw [List.range_succ,List.map_append];rfl
theorem YQ (os:List Int)(k:Nat):(wkL os k).length=k:=by simp [wkL]
noncomputable def X3 (K:PySem.W.Frag):Sp:=fun vs H Q _=>∃ (a:Addr) (n:Nat) (os:List Int),vs=[.ref a]/\(SqL K H a (os.map V.int) \/ SqT K H a (os.map V.int))/\zd n os/\n<=1000/\∀ p H',Kp [] H H'->H p=none->H' p=some (il (wkL os n))->Q (.ref p) H'
theorem Au (a:At K mg "walks" ZE)(B:Blt mg)(D_steps_from:Df P w K mg base "steps_from" ["order","place"] 2 (ZW K)):Df P w K mg base "walks" ["order"] 3 (X3 K):=by
 refine qS (k:=2) a Q6 (fun _ _ _ _ _ _=>Pn1_ fun _=>rfl) (fun vs H Q E h=>?_) (fun f cdv A outer s H vs Q E hr h=>?_)
 ·obtain ⟨a,_,_,rfl,_⟩:=h;rfl
 obtain ⟨a,n,os,rfl,ha,ho,hn,q⟩:=h
 have sc:=Q6
 have hsl:=hsl
 have ol:=ho.1
 refine ⟨_,(ze (zx (qQ (ts:=[1]) rfl rfl (qu rfl B.range (za (zn zl rfl B.len zM (za (pv 0) zb)) zb)) (fun _ _ _ _=>(zy (i:=1) sc.nd rfl (by first | exact Or.inl rfl | exact Or.inr rfl))) (fun _ _ _ _=>jb) (fun _ _ _ _=>(zu D_steps_from hr rfl (za (pv 0) (za (pv 1) zb))))))),?_⟩
 rw [show start ["order","place"] [V.ref a]=[some (.ref a),none] from rfl]
 walk_at "rd"
 refine ⟨_,ha,?_⟩
 rw [List.length_map,ol]
 refine ⟨by walk_at "o",by walk_at "o",fun D hD=>?_⟩
 rw [Int.toNat_natCast]
 refine kQ (fun i τ H'=>∃ u,τ=[some (.ref a),u]/\Kp [D] (upd H D (.lst [])) H'/\H' D=some (il (wkL os i))) ?_ ?_ ?_
 ·exact ⟨none,rfl,Kp.refl,zf⟩
 ·rintro i τ H' hi ⟨u,rfl,kp,hd⟩
  have k0:=Kp.drop1 hD kp
  walk_at "rd"
  refine ⟨a,n,os,_,rfl,ku ha k0,ho,by walk_at "o",by walk_at "o",fun H2 k2=>?_⟩
  refine ⟨_,k2 _ _ (by simp) hd,by rw [List.length_map,YQ];walk_at "o",(kp.trans (k2.mono (by simp))).trans (Kp.set _ (by simp)),?_⟩
  rw [Dq,Int.zero_add]
  exact zf.trans (congrArg some (congrArg HO.lst (by rw [List.map_append];rfl)))
 ·rintro τ H' ⟨u,rfl,kp,hd⟩
  exact q _ _ (Kp.drop1 hD kp) hD hd
noncomputable abbrev xb:Stmt:=top 26
theorem yi:zw ["order","first","marked","place"] ["order","first","marked"] (zi xb):=⟨rfl,rfl,rfl,by decide +kernel,rfl,by decide +kernel,by decide +kernel⟩
noncomputable def vv (K:PySem.W.Frag):Sp:=fun vs H Q _=>∃ (a b:Addr) (n:Nat) (os:List Int) (p:Int) (bs:List Bool),vs=[.ref a,.int p,.ref b]/\(∀ G,Kp [b] H G->SqL K G a (os.map V.int) \/ SqT K G a (os.map V.int))/\zd n os/\n<=1000/\0<=p/\p<n/\H b=some (.lst (bs.map V.bl)) /\
 ∀ H' (bs':List Bool),Kp [b] H H'->H' b=some (.lst (bs'.map V.bl))->bs'.length=bs.length->(∀ x:Nat,x<bs.length->(bs'.getD x false=true ↔ bs.getD x false=true \/ Rch os p (x:Int)))->Q .non H'
theorem ZH (a:At K mg "set_marks" xb)(B:Blt mg)(D_ring_from:Df P w K mg base "ring_from" ["order","first"] 1 (xQ K)):Df P w K mg base "set_marks" ["order","first","marked"] 2 (vv K):=by
 refine qS (k:=1) a yi (fun _ _ _ _ _ _=>Pn3_ fun _ _ _=>rfl) (fun vs H Q E h=>?_) (fun f cdv A outer s H vs Q E hr h=>?_)
 ·obtain ⟨a,_,_,_,_,_,rfl,_⟩:=h;rfl
 obtain ⟨a,b,n,os,p,bs,rfl,ha,ho,hn,p0,p1,hb,q⟩:=h
 have sc:=yi
 have hsl:=hsl
 obtain ⟨M,hM,hMn⟩:=qT ho p0 p1
 refine ⟨_,(ze (qi PassesOwn.never rfl (X7 (zu D_ring_from hr rfl (za (pv 0) (za (pv 1) zb)))) (zy (i:=3) sc.nd rfl (by first | exact Or.inl rfl | exact Or.inr rfl)) (ze (qg (zB wJ (pv 3) (zn zl rfl B.len zM (za (pv 2) zb)) (zD _)) (ze (ji qI (qV (pv 2) (pv 3) qb))) zG)))),?_⟩
 rw [show start ["order","first","marked","place"] [V.ref a,V.int p,V.ref b]=[some (.ref a),some (.int p),some (.ref b),none] from rfl]
 walk_at "rd"
 refine ⟨a,n,os,p,rfl,ha _ Kp.refl,ho,hn,p0,p1,fun t H1 k1 ht h1=>?_⟩
 have hb1:=k1 _ _ (by simp) hb
 have ntb:t ≠ b:=Ne.symm (zj hb ht)
 refine ⟨t,rfl,⟨_,SqL.of h1⟩,?_⟩
 refine Yh (xs:=(zt os p).map V.int) (fun j τ G=>∃ (u:Option V) (bs':List Bool),τ=[some (.ref a),some (.int p),some (.ref b),u]/\Kp [b] H1 G/\G b=some (.lst (bs'.map V.bl))/\bs'.length=bs.length/\∀ x:Nat,x<bs.length->(bs'.getD x false=true ↔ bs.getD x false=true \/ (x:Int) ∈ (zt os p).take j)) ?_ ?_ ?_ ?_
 ·exact ⟨none,bs,rfl,Kp.refl,hb1,rfl,fun x hx=>by simp⟩
 ·rintro j τ G _ ⟨_,bs',rfl,kp,_⟩
  exact SqL.of (kp _ _ (by simpa using ntb) h1)
 ·rintro j x τ G hx ⟨u,bs',rfl,kp,gb,lb,hs⟩
  obtain ⟨rfl,hj⟩:=qA hx
  have hm:(zt os p).getD j 0 ∈ zt os p:=by rw [zN hj];exact List.getElem_mem hj
  have hbd:0<=(zt os p).getD j 0/\(zt os p).getD j 0<(n:Int):=by
   obtain ⟨k,_,e⟩:=qM.mp hm
   rw [<- e]
   exact qc ho p0 p1 k
  have htk:(zt os p).take (j+1)=(zt os p).take j ++ [(zt os p).getD j 0]:=by
   rw [zN hj];exact (List.take_append_getElem hj).symm
  generalize (zt os p).getD j 0=v at *
  obtain ⟨vn,rfl⟩:∃ vn:Nat,v=vn:=⟨v.toNat,by walk_at "o"⟩
  walk_at "rd"
  refine ⟨_,.inl (SqL.of gb),?_⟩
  rw [List.length_map]
  refine kl (fun c=>?_) (fun c=>?_)
  ·obtain ⟨g1,g2⟩:=kf (ss:=bs') (i:=vn) (by walk_at "o")
   refine ⟨_,gb,vn,g1,kp.trans (Kp.set _ (by simp)),bs'.set vn true,zf.trans (congrArg some (congrArg HO.lst (by rw [List.map_set]))),by rw [List.length_set];exact lb,fun x hx=>?_⟩
   rw [yx (by walk_at "o"),htk,List.mem_append,List.mem_singleton]
   by_cases e:x=vn
   ·subst e;rw [if_pos rfl];simp
   ·have e':¬ ((x:Int)=(vn:Int)):=by walk_at "o"
    rw [if_neg e,hs x hx]
    simp [e']
  ·refine ⟨kp,bs',gb,lb,fun x hx=>?_⟩
   have e':¬ ((x:Int)=(vn:Int)):=by walk_at "o"
   rw [htk,List.mem_append,List.mem_singleton,hs x hx]
   simp [e']
 ·rintro τ G ⟨u,bs',rfl,kp,gb,lb,hs⟩
  rw [List.length_map,List.take_length] at hs
  walk_at "rd"
  refine q _ bs' ((k1.mono (by simp)).trans kp) gb lb fun x hx=>?_
  rw [hs x hx,Rch.mem_ring hM]
  unfold zt
  rw [hM.per]
noncomputable abbrev GL:Stmt:=top 27
theorem FD:zw ["order","marks","marked","counts","place"] ["order","marks"] (zi GL):=⟨rfl,rfl,rfl,by decide +kernel,rfl,by decide +kernel,by decide +kernel⟩
noncomputable def Jx (K:PySem.W.Frag):Sp:=fun vs H Q _=>∃ (a:Addr) (n mk:Nat) (os:List Int),vs=[.ref a,.int mk]/\(SqL K H a (os.map V.int) \/ SqT K H a (os.map V.int))/\zd n os/\n<=1000/\mk<=n/\∀ p H',Kp [] H H'->H p=none->H' p=some (il (xw os mk n))->Q (.ref p) H'
theorem IM (a:At K mg "walks_marked" GL)(B:Blt mg)(D_steps_from:Df P w K mg base "steps_from" ["order","place"] 2 (ZW K))(D_leads:Df P w K mg base "leads" ["order","place"] 2 (Qe K))(D_set_marks:Df P w K mg base "set_marks" ["order","first","marked"] 2 (vv K)):Df P w K mg base "walks_marked" ["order","marks"] 3 (Jx K):=by
 refine qS (k:=2) a FD (fun _ _ _ _ _ _=>Pn2_ fun _ _=>rfl) (fun vs H Q E h=>?_) (fun f cdv A outer s H vs Q E hr h=>?_)
 ·obtain ⟨a,_,_,_,rfl,_⟩:=h;rfl
 obtain ⟨a,n,mk,os,rfl,ha,ho,hn,hmk,q⟩:=h
 have sc:=FD
 have hsl:=hsl
 have ol:=ho.1
 refine ⟨_,(zc (zr (i:=2) sc.nd rfl (by first | exact Or.inl rfl | exact Or.inr rfl) (zp yz (qk (za qI zb)) (pv 1)))
  (zc (zr (i:=3) sc.nd rfl (by first | exact Or.inl rfl | exact Or.inr rfl) (qk zb))
  (zc (qi PassesOwn.never rfl (qu rfl B.range (za (zn zl rfl B.len zM (za (pv 0) zb)) zb)) (zy (i:=4) sc.nd rfl (by first | exact Or.inl rfl | exact Or.inr rfl)) (ze (qg (PW.pt (Kj (zB wJ (pv 4) (pv 1) (zD _)) (Qi (qE (zJ zU (pv 2) (pv 4) (fun _ _=>rfl)) (fun _=>rfl))))) (ze (qC (ky PySem.F.plainAttrs_list PySem.F.slot_list_append PySem.F.type_list_append qL (pv 3) (za zg zb)))) (zc (qC (ky PySem.F.plainAttrs_list PySem.F.slot_list_append PySem.F.type_list_append qL (pv 3) (za (zu D_steps_from hr rfl (za (pv 0) (za (pv 4) zb))) zb)))
  (ze (qg (qE (zu D_leads hr rfl (za (pv 0) (za (pv 4) zb))) (fun _=>rfl)) (ze (qC (zu D_set_marks hr rfl (za (pv 0) (za (pv 4) (za (pv 2) zb)))))) zG))))))
  (ze (zx (pv 3)))))),?_⟩
 rw [show start ["order","marks","marked","counts","place"] [V.ref a,V.int mk]=[some (.ref a),some (.int mk),none,none,none] from rfl]
 walk_at "rd"
 refine ⟨by show 1<=sizeLine;decide,fun pz hpz=>⟨_,zf,?_⟩⟩
 rw [Int.toNat_natCast,Jt]
 refine ⟨by walk_at "o",by walk_at "o",by show 1 * mk<=sizeLine;walk_at "o",fun ps hps=>⟨Nat.zero_le _,fun pf hpf=>?_⟩⟩
 have kH:=((Kp.new (bs:=[]) (HO.lst [V.bl false]) hpz).trans (Kp.new (HO.lst (List.replicate mk (V.bl false))) hps)).trans (Kp.new (HO.lst []) hpf)
 have nps:H ps=none:=(Kp.new (bs:=[]) _ hpz).free hps
 have npf:H pf=none:=((Kp.new (bs:=[]) _ hpz).trans (Kp.new _ hps)).free hpf
 have hps0:=(Kp.new (bs:=[]) (HO.lst []) hpf) ps _ (by simp) (zf (H:=upd H pz (HO.lst [V.bl false])) (o:=HO.lst (List.replicate mk (V.bl false))))
 have hpf0:=zf (H:=upd (upd H pz (HO.lst [V.bl false])) ps (HO.lst (List.replicate mk (V.bl false)))) (a:=pf) (o:=HO.lst [])
 have nsf:ps ≠ pf:=zj zf hpf
 generalize upd (upd (upd H pz (HO.lst [V.bl false])) ps (HO.lst (List.replicate mk (V.bl false)))) pf (HO.lst [])=H0 at *
 refine ⟨_,ku ha kH,?_⟩
 rw [List.length_map,ol]
 refine ⟨by walk_at "o",by walk_at "o",?_⟩
 rw [Int.toNat_natCast]
 refine kN (fun i τ G=>∃ (x4:Option V) (ss:List Bool),τ=[some (.ref a),some (.int mk),some (.ref ps),some (.ref pf),x4]/\Kp [ps,pf] H0 G/\G ps=some (.lst (ss.map V.bl))/\ss.length=mk/\(∀ x:Nat,x<mk->(ss.getD x false=true ↔ Mkd os mk i (x:Int)))/\G pf=some (il (xw os mk i))) ?_ ?_ ?_
 ·refine ⟨none,List.replicate mk false,rfl,Kp.refl,by rw [List.map_replicate];exact hps0,by simp,fun x hx=>?_,hpf0⟩
  constructor
  ·intro z
   rw [List.getD_eq_getElem?_getD,List.getElem?_replicate,if_pos hx] at z
   cases z
  ·intro z;exact z.elim
 ·rintro i τ G hi ⟨x4,ss,rfl,kG,gs,ls,hs,gf⟩
  have kHG:Kp [] H G:=Kp.un (Kp.un ((kH.mono (by simp)).trans kG) nps) npf
  rw [Int.zero_add]
  walk_at "rd"
  refine (fun (main:¬ Mkd os mk i (i:Int)->?AA)=>?kk) ?mm
  case kk=>
   by_cases c:i<mk
   ·rw [if_pos (by walk_at "o")]
    obtain ⟨s1,s2⟩:=kf (ss:=ss) (i:=i) (by walk_at "o")
    refine ⟨_,SqL.of gs,_,s2,_,rfl,kl (fun c1=>?_) (fun c1=>?_)⟩
    ·have hMi:Mkd os mk i (i:Int):=(hs i c).mp c1
     refine ⟨.inl ⟨rfl,_,SqL.of gf⟩,_,gf,by rw [List.length_map,wg];walk_at "o",kG.trans (Kp.set _ (by simp)),ss,(zq nsf).trans gs,ls,fun x hx=>?_,?_⟩
     ·rw [hs x hx]
      exact ⟨.inl,fun z=>z.elim id fun y=>absurd hMi y.1⟩
     ·rw [yo,show cnt os mk i=0 from if_pos hMi]
      exact zf.trans (congrArg some (congrArg HO.lst (by rw [List.map_append];rfl)))
    ·exact main fun z=>c1 ((hs i c).mpr z)
   ·rw [if_neg (by walk_at "o")]
    exact main fun z=>by have:=Mkd.lt z;walk_at "o"
  case mm=>
   intro hMi
   refine ⟨.inl ⟨rfl,_,SqL.of gf⟩,a,n,os,i,rfl,ku ha kHG,ho,by walk_at "o",by walk_at "o",fun G1 k1=>?_⟩
   have gf1:=k1 _ _ (by simp) gf
   have gs1:=k1 _ _ (by simp) gs
   have kX:=Kp.un (((kHG.trans k1).mono (bs':=[pf]) (by simp)).trans (Kp.set (HO.lst (List.map V.int (xw os mk i) ++ [V.int (wkM os (i:Int):Nat)])) (by simp:pf ∈ [pf]))) npf
   have ec:cnt os mk i=((wkM os (i:Int):Nat):Int):=if_neg hMi
   refine ⟨_,gf1,by rw [List.length_map,wg];walk_at "o",a,n,os,i,rfl,ku ha kX,ho,by walk_at "o",by walk_at "o",fun G2 k2=>⟨_,rfl,?_⟩⟩
   have gs2:=k2 _ _ (by simp) ((zq nsf).trans gs1)
   have gf2:G2 pf=some (il (xw os mk (i+1))):=by
    rw [yo,ec]
    exact (k2 _ _ (by simp) zf).trans (congrArg some (congrArg HO.lst (by rw [List.map_append];rfl)))
   have K2:Kp [ps,pf] H0 G2:=((kG.trans (k1.mono (by simp))).trans (Kp.set _ (by simp:pf ∈ [ps,pf]))).trans (k2.mono (by simp))
   have kHG2:=kX.trans k2
   refine kl (fun c2=>?_) (fun c2=>?_)
   ·have hwk:wkE os (i:Int)=(i:Int):=by simpa using c2
    refine ⟨a,ps,n,os,i,ss,rfl,fun G' kg=>ku ha (Kp.un ((kHG2.mono (by simp)).trans kg) nps),ho,hn,by walk_at "o",by walk_at "o",gs2,fun G3 ss' k3 gs3 ls3 hs3=>⟨K2.trans (k3.mono (by simp)),ss',gs3,by walk_at "o",fun x hx=>?_,k3 _ _ (by simpa using Ne.symm nsf) gf2⟩⟩
    rw [hs3 x (by walk_at "o"),hs x hx]
    constructor
    ·rintro (z | z)
     ·exact .inl z
     ·exact .inr ⟨hMi,hwk,z,by walk_at "o"⟩
    ·rintro (z | z)
     ·exact .inl z
     ·exact .inr z.2.2.1
   ·have hwk:¬ wkE os (i:Int)=(i:Int):=by simpa using c2
    exact ⟨K2,ss,gs2,ls,fun x hx=>(hs x hx).trans ⟨.inl,fun z=>z.elim id fun y=>absurd y.2.1 hwk⟩,gf2⟩
 ·rintro τ G ⟨x4,ss,rfl,kG,gs,ls,hs,gf⟩
  have kHG:Kp [] H G:=Kp.un (Kp.un ((kH.mono (by simp)).trans kG) nps) npf
  walk_at "rd"
  exact q _ _ kHG npf gf
open Classical in
noncomputable def Xo (os:List Int):Nat->List (List Int)
 | 0=>[]
 | i+1=>Xo os i ++ if qN os i then [zt os (i:Int)] else []
theorem AM (os:List Int):∀ i,(Xo os i).length<=i
 | 0=>Nat.le_refl _
 | i+1=>by
  have:=AM os i
  show (Xo os i ++ _).length<=_
  rw [List.length_append]
  split
  ·show _+1<=_;walk_at "o"
  ·show _+0<=_;walk_at "o"
theorem ju {n:Nat}{os:List Int}(h:zd n os){i:Nat}(hi:i<n):wkE os (i:Int)=(i:Int) ↔ qN os i:=by
 obtain ⟨m,e,hw,hm⟩:=vg h (p:=(i:Int)) (by walk_at "o") (by walk_at "o")
 rw [hw.wkE]
 constructor
 ·intro he q hq r
  have hp:=hw.per he
  have r2:=r.symm h (by walk_at "o") (by walk_at "o")
  obtain ⟨j,hj,ej⟩:=qM.mp ((Rch.mem_ring hp).mp r2)
  rcases Nat.eq_zero_or_pos j with z | z
  ·subst z
   have:(i:Int)=(q:Int):=ej
   walk_at "o"
  ·have:=hw.2.2.2 j z hj
   walk_at "o"
 ·intro hL
  have b:=qc h (p:=(i:Int)) (by walk_at "o") (by walk_at "o") m
  rw [<- hw.2.1] at b
  have le:=hw.2.2.1
  rcases (show e<(i:Int) \/ e=(i:Int) by walk_at "o") with z | z
  ·exfalso
   have r:Rch os (i:Int) e:=⟨m,hw.2.1.symm⟩
   have r2:=r.symm h (by walk_at "o") (by walk_at "o")
   obtain ⟨q,hq⟩:∃ q:Nat,e=q:=⟨e.toNat,by walk_at "o"⟩
   rw [hq] at r2 z
   exact hL q (by walk_at "o") r2
  ·exact z
open Classical in
noncomputable def ldL (os:List Int):Nat->List Int
 | 0=>[]
 | i+1=>ldL os i ++ if ¬ (i:Int)=os.getD i 0/\wkE os (i:Int)=(i:Int) then [(i:Int)] else []
theorem xR (os:List Int):∀ i,(ldL os i).length<=i
 | 0=>Nat.le_refl _
 | i+1=>by
  have:=xR os i
  show (ldL os i ++ _).length<=_
  rw [List.length_append]
  split
  ·show _+1<=_;walk_at "o"
  ·show _+0<=_;walk_at "o"
noncomputable def hds (rs:List (List Int)):List Int:=(rs.filter fun r=>decide (1<r.length)).map fun r=>r.getD 0 0
theorem E9 (a b:List (List Int)):hds (a ++ b)=hds a ++ hds b:=by unfold hds;rw [List.filter_append,List.map_append]
theorem YF {n:Nat}{os:List Int}(h:zd n os):∀ k,k<=n->hds (Xo os k)=ldL os k
 | 0,_=>rfl
 | k+1,hk=>by
  show hds (Xo os k ++ _)=ldL os k ++ _
  rw [E9,YF h k (by walk_at "o")]
  congr 1
  obtain ⟨M,hM,hMn⟩:=qT h (p:=(k:Int)) (by walk_at "o") (by walk_at "o")
  by_cases hL:qN os k
  ·rw [if_pos hL]
   have hlen:(zt os (k:Int)).length=M:=by unfold zt;rw [qj,hM.per]
   have hfix:1<M ↔ ¬ (k:Int)=os.getD k 0:=by
    have e1:itn os 1 (k:Int)=os.getD k 0:=by
     show os.getD (itn os 0 (k:Int)).toNat 0=_
     show os.getD ((k:Int)).toNat 0=_
     rw [Int.toNat_natCast]
    constructor
    ·intro z e
     exact hM.2.2 1 (Nat.le_refl _) z (by rw [e1,<- e])
    ·intro z
     rcases Nat.lt_or_ge 1 M with y | y
     ·exact y
     ·have:M=1:=by have:=hM.1;walk_at "o"
      rw [this] at hM
      exact absurd (by rw [<- e1,hM.2.1]) z
   by_cases hf:¬ (k:Int)=os.getD k 0
   ·rw [if_pos ⟨hf,(ju h (by walk_at "o")).mpr hL⟩]
    unfold hds
    rw [List.filter_cons_of_pos (by rw [hlen];exact decide_eq_true (hfix.mpr hf))]
    show [(zt os (k:Int)).getD 0 0]=_
    have h0:0<(zt os (k:Int)).length:=by rw [hlen];exact hM.1
    have:(zt os (k:Int)).getD 0 0=(k:Int):=by
     unfold zt itl
     rw [hM.per,List.getD_eq_getElem?_getD,List.getElem?_map,List.getElem?_range hM.1]
     rfl
    rw [this]
   ·rw [if_neg (fun z=>hf z.1)]
    unfold hds
    rw [List.filter_cons_of_neg (by rw [hlen];simp;have:=fun z=>hf (hfix.mp z);walk_at "o")]
    rfl
  ·rw [if_neg hL,if_neg (fun z=>hL ((ju h (by walk_at "o")).mp z.2))]
   rfl
theorem HB {n:Nat}{os:List Int}(h:zd n os)(hn:n<=1000):∀ x ∈ wkL os n,0<=x/\x<=(1000000:Int):=by
 intro x hx
 unfold wkL at hx
 obtain ⟨i,hi,e⟩:=List.mem_map.mp hx
 have hi':i<n:=by simpa using hi
 obtain ⟨m,e2,hw,hm⟩:=vg h (p:=(i:Int)) (by walk_at "o") (by walk_at "o")
 have:=hw.wkM
 have e:((wkM os (i:Int):Nat):Int)=x:=e
 walk_at "o"
noncomputable abbrev vA:Stmt:=top 25
theorem wL:zw ["order","found","place","goal"] ["order"] (zi vA):=⟨rfl,rfl,rfl,by decide +kernel,rfl,by decide +kernel,by decide +kernel⟩
noncomputable def JA (K:PySem.W.Frag):Sp:=fun vs H Q _=>∃ (a:Addr) (n:Nat) (os:List Int),vs=[.ref a]/\(SqL K H a (os.map V.int) \/ SqT K H a (os.map V.int))/\zd n os/\n<=1000/\∀ (p t:Addr) (H':Hp),Kp [] H H'->H p=none->H t=none->H' p=some (il (ldL os n))->H' t=some (.tup [.ref p,.int (wkL os n).sum])->Q (.ref t) H'
theorem Vr (a:At K mg "leaders_found" vA)(B:Blt mg)(Bsum:mg "sum"=none)(D_leads:Df P w K mg base "leads" ["order","place"] 3 (Qe K))(D_walks:Df P w K mg base "walks" ["order"] 3 (X3 K)):Df P w K mg base "leaders_found" ["order"] 4 (JA K):=by
 refine qS (k:=3) a wL (fun _ _ _ _ _ _=>Pn1_ fun _=>rfl) (fun vs H Q E h=>?_) (fun f cdv A outer s H vs Q E hr h=>?_)
 ·obtain ⟨a,_,_,rfl,_⟩:=h;rfl
 obtain ⟨a,n,os,rfl,ha,ho,hn,q⟩:=h
 have sc:=wL
 have hsl:=hsl
 have ol:=ho.1
 refine ⟨_,(zc (vj (j:=1) rfl sc.nd rfl (by first | exact Or.inl rfl | exact Or.inr rfl) (ts:=[2,3]) rfl (xi rfl B.enumerate (za (pv 0) zb)) (fun _ _ _ _=>(jG (K:=K) 2 rfl rfl (zZ (zy (i:=2) sc.nd rfl (by first | exact Or.inl rfl | exact Or.inr rfl)) (zZ (zy (i:=3) sc.nd rfl (by first | exact Or.inl rfl | exact Or.inr rfl)) jE)))) (fun _ _ _ _=>yl (PW.pt (Kj (zB FI (pv 2) (pv 3) (zD _)) (Qi (qE (zu D_leads hr rfl (za (pv 0) (za (pv 2) zb))) (fun _=>rfl)))))) (fun _ _ _ _=>(pv 2)))
  (ze (zx (kj (za (pv 1) (za (zn (Zj rfl) rfl Bsum Aj (za (zu D_walks hr rfl (za (pv 0) zb)) zb)) zb)))))),?_⟩
 rw [show start ["order","found","place","goal"] [V.ref a]=[some (.ref a),none,none,none] from rfl]
 walk_at "rd"
 refine Fk ha fun D hD=>⟨fun i τ G=>∃ u v,τ=[some (.ref a),none,u,v]/\Kp [D] (upd H D (.lst [])) G/\G D=some (il (ldL os i)),?_,?_,?_,?_⟩
 ·exact ⟨none,none,rfl,Kp.refl,zf⟩
 ·rintro i τ G ⟨u,v,rfl,kp,hd⟩
  exact Kp.drop1 hD kp
 ·rintro i x pp τ G hx hpp ⟨u,v,rfl,kp,hd⟩
  obtain ⟨rfl,hi⟩:=qA hx
  have hle:=xR os i
  have k0:=(Kp.drop1 hD kp).trans (Kp.new (bs:=[]) (HO.tup [V.int i,V.int (os.getD i 0)]) hpp)
  have hd1:=(Kp.new (bs:=[]) (HO.tup [V.int i,V.int (os.getD i 0)]) hpp) _ _ (by simp) hd
  have kp1:=kp.trans ((Kp.new (bs:=[]) (HO.tup [V.int i,V.int (os.getD i 0)]) hpp).mono (bs':=[D]) (by simp))
  walk_at "rd"
  refine ⟨_,SqT.of zf,rfl,_,_,rfl,_,_,rfl,rfl,rfl,?_⟩
  refine kl (fun c=>?_) (fun c=>?_)
  ·have c':¬ (i:Int)=os.getD i 0:=fun e=>c (congrArg V.int e)
   refine ⟨a,n,os,_,rfl,ku ha k0,ho,by walk_at "o",by walk_at "o",fun G1 k1=>⟨_,rfl,?_⟩⟩
   have hd2:=k1 _ _ (by simp) hd1
   have kp2:=kp1.trans (k1.mono (bs':=[D]) (by simp))
   by_cases hw:wkE os (i:Int)=(i:Int)
   ·rw [if_pos (decide_eq_true hw)]
    refine ⟨_,hd2,by rw [List.length_map];walk_at "o",kp2.trans (Kp.set _ (by simp)),?_⟩
    show _=some (il (ldL os i ++ _))
    rw [if_pos ⟨c',hw⟩]
    exact zf.trans (congrArg some (congrArg HO.lst (by rw [List.map_append];rfl)))
   ·rw [if_neg (by simpa using hw)]
    refine ⟨kp2,?_⟩
    show _=some (il (ldL os i ++ _))
    rw [if_neg (fun z=>hw z.2),List.append_nil]
    exact hd2
  ·refine ⟨kp1,?_⟩
   show _=some (il (ldL os i ++ _))
   rw [if_neg (fun z=>z.1 (V.int.inj (Classical.byContradiction c))),List.append_nil]
   exact hd1
 ·rintro τ G ⟨u,v,rfl,kp,hd⟩
  rw [List.length_map,ol] at hd
  have k0:=Kp.drop1 hD kp
  walk_at "rd"
  refine ⟨a,n,os,rfl,ku ha k0,ho,hn,fun p1 G1 k1 hp1 h1=>⟨p1,rfl,_,SqL.of h1,HB ho hn,by rw [YQ];walk_at "o",by show 2<=sizeLine;walk_at "o",fun t ht=>?_⟩⟩
  have kt:=Kp.new (bs:=[]) (HO.tup [V.ref D,V.int (wkL os n).sum]) ht
  exact q D t _ ((k0.trans k1).trans kt) hD ((k0.trans k1).free ht) ((k1.trans kt) _ _ (by simp) hd) zf
noncomputable def cE:Option Int->V
 | none=>.non
 | some x=>.int x
inductive De where
 | swap (a b:Nat) | take (p:Nat) | move (p g:Nat) | lay (g:Nat)
noncomputable abbrev ES:=List (Option Int) × Option Int
inductive DoE:De->ES->ES->Prop
 | swap {a b:Nat} {row:List (Option Int)} {h:Option Int} {x y:Int}:a ≠ b->row[a]?=some (some x)->row[b]?=some (some y)->DoE (.swap a b) (row,h) ((row.set a (some y)).set b (some x),h)
 | take {p:Nat} {row:List (Option Int)} {x:Int}:row[p]?=some (some x)->DoE (.take p) (row,none) (row.set p none,some x)
 | move {p g:Nat} {row:List (Option Int)} {h:Option Int} {x:Int}:row[p]?=some (some x)->row[g]?=some none->DoE (.move p g) (row,h) ((row.set p none).set g (some x),h)
 | lay {g:Nat} {row:List (Option Int)} {x:Int}:row[g]?=some none->DoE (.lay g) (row,some x) (row.set g (some x),none)
inductive Hq:List De->ES->ES->Prop
 | nil {s:ES}:Hq [] s s
 | cons {d:De} {l:List De} {s t u:ES}:DoE d s t->Hq l t u->Hq (d :: l) s u
noncomputable def LA:Dd->De
 | .take p=>.take p
 | .move p g=>.move p g
 | .lay g=>.lay g
noncomputable def BG:ASp:=fun xs M Q=>∃ (b:Addr) (many:Int) (N:Nat),xs=[.ref b,.d (.int many)]/\BxM M b N/\N<1000000000/\0<many/\many<1073741824/\∀ r M',BxS M M' b (N+1)->0<=r->r<many->Q (.d (.int r)) M'
theorem EV (vs:List V)(H:Hp)(Q:VK)(E:XK)(h:cSp BG vs H Q E):xL vs H Q E:=by
 obtain ⟨xs,M,O,Q',w,r,⟨b,many,N,rfl,hb,h1,h2,h3,q⟩,k⟩:=h
 obtain ⟨v,u,rfl,rv,ru⟩:=jP r
 rw [zL ru,rv.1]
 refine ⟨b,many,N,rfl,hb.bx w,h1,h2,h3,fun r H' kp hb' r0 r1=>?_⟩
 obtain ⟨M',s,e,w'⟩:=K7 w hb kp hb'
 exact k _ _ _ _ _ (q r M' s r0 r1) e w' .int
noncomputable def IP:ASp:=fun xs M Q=>∃ (x:AV) (k:Int) (cs:List Int),xs=[x,.d (.int k)]/\qR x M=some (cs.map fun i=>.d (.int i))/\0<=k/\k<=1000/\cs.length<=1000/\∀ p o,M p=none->BxM (mup M p o) p 0->Q (.ref p) (mup M p o)
theorem Ie (vs:List V)(H:Hp)(Q:VK)(E:XK)(h:cSp IP vs H Q E):Fq vs H Q E:=by
 obtain ⟨xs,M,O,Q',w,r,⟨x,n,cs,rfl,hx,h1,h2,h3,q⟩,k⟩:=h
 obtain ⟨v,u,rfl,rv,ru⟩:=jP r
 rw [zL ru]
 obtain ⟨a,rfl,ha⟩:=BA w rv hx
 refine ⟨a,n,cs,rfl,ha,h1,h2,h3,fun p H' kp hp hb'=>?_⟩
 obtain ⟨x',y',z',g1,g2⟩:=hb'
 obtain ⟨e1,w1⟩:=vR w kp
 have fr:=w.fresh hp
 have e2:=Ext.owned (O':=Vm O p) (p:=p) w ⟨fun a o h e=>⟨(e1.fix a o h e).1,fun z=>z.elim (zj e hp) h⟩,fun a h e=>⟨(e1.prv a h e).1,.inr h,e⟩,fun _ h=>h⟩ hp (.lst ([x',y',z'].map fun i=>.d (.int i)))
 refine k _ _ _ _ _ (q p _ fr.2 ⟨x',y',z',zm,g2⟩) e2 (Jw (O:=Vm O p) (xs:=[V.int x',V.int y',V.int z']) ⟨fun a o h=>?_,fun a h=>.inr (w1.own a h),fun a h=>?_⟩ (.inl rfl) fr.2 g1 (Qb [x',y',z'])) ⟨rfl,by rw [zm];exact fun z=>nomatch z⟩
 ·have e3:Ext H O M H' (Vm O p) M:=⟨fun a o h e=>⟨(e1.fix a o h e).1,fun z=>z.elim (zj e hp) h⟩,fun a h e=>⟨(e1.prv a h e).1,.inr h,e⟩,fun _ h=>h⟩
  refine jp.ext e3 ?_ (w.mo a o h)
  obtain ⟨u,hu,_⟩:=w.al a (w.own a (jI h))
  rw [hu];exact kp a u (by simp) hu
 ·rcases h with rfl | h
  ·exact ⟨_,g1,fun xs z=>nomatch z⟩
  ·exact w1.al a h
noncomputable def YE (K:PySem.W.Frag):ASp:=fun xs M Q=>∃ (m:Int) (ns:List Int),xs=[.d (.scr K ns),.d (.int m)]/\0<m/\m<=60/\ns.length<=63/\∀ cs:List Int,cs.length<=1000->Q (.d (.lst (cs.map .int))) M
theorem VR (vs:List V)(H:Hp)(Q:VK)(E:XK)(h:cSp (YE K) vs H Q E):JD K vs H Q E:=by
 obtain ⟨xs,M,O,Q',w,r,⟨m,ns,rfl,h1,h2,h3,q⟩,k⟩:=h
 obtain ⟨v,u,rfl,rv,ru⟩:=jP r
 rw [zL ru]
 obtain ⟨a,rfl,ha⟩:=EC rv
 refine ⟨a,m,ns,rfl,ha,h1,h2,h3,fun p H' cs kp hp hc lc=>?_⟩
 obtain ⟨e1,w1⟩:=vR w kp
 exact k _ _ _ _ _ (q cs lc) e1 w1 (kE (w.fresh hp).1 hc)
noncomputable def YI:ASp:=fun xs M Q=>∃ (b:Addr) (m:Int) (N:Nat),xs=[.ref b,.d (.int m)]/\BxM M b N/\N<100000000/\24<=m/\m<=1000/\∀ r M',BxS M M' b (N+10)->0<=r->r<=m->Q (.d (.int r)) M'
theorem VC (vs:List V)(H:Hp)(Q:VK)(E:XK)(h:cSp YI vs H Q E):JE vs H Q E:=by
 obtain ⟨xs,M,O,Q',w,r,⟨b,many,N,rfl,hb,h1,h2,h3,q⟩,k⟩:=h
 obtain ⟨v,u,rfl,rv,ru⟩:=jP r
 rw [zL ru,rv.1]
 refine ⟨b,many,N,rfl,hb.bx w,h1,h2,h3,fun r H' kp hb' r0 r1=>?_⟩
 obtain ⟨M',s,e,w'⟩:=K7 w hb kp hb'
 exact k _ _ _ _ _ (q r M' s r0 r1) e w' .int
noncomputable def W8:ASp:=fun xs M Q=>∃ (b:Addr) (n N:Nat),xs=[.ref b,.d (.int n)]/\BxM M b N/\N<1000000/\n<=1000/\∀ os M',BxS M M' b (N+3000)->zd n os->Q (.d (.lst (os.map .int))) M'
theorem Da (vs:List V)(H:Hp)(Q:VK)(E:XK)(h:cSp W8 vs H Q E):YK vs H Q E:=by
 obtain ⟨xs,M,O,Q',w,r,⟨b,n,N,rfl,hb,h1,h2,q⟩,k⟩:=h
 obtain ⟨v,u,rfl,rv,ru⟩:=jP r
 rw [zL ru,rv.1]
 refine ⟨b,n,N,rfl,hb.bx w,h1,h2,fun p H' ns kp hp hb' hq ho=>?_⟩
 obtain ⟨M',s,e,w'⟩:=K7 w hb kp hb'
 exact k _ _ _ _ _ (q ns M' s ho) e w' (kE (w.fresh hp).1 hq)
noncomputable def yA:ASp:=fun xs M Q=>∃ (x:AV) (n:Nat) (os:List Int),xs=[x]/\qm x M=some (os.map fun i=>.d (.int i))/\zd n os/\n<=1000/\Q (.d (.lst ((zh os n).map ilD))) M
theorem AB (vs:List V)(H:Hp)(Q:VK)(E:XK)(h:cSp yA vs H Q E):XJ K vs H Q E:=by
 obtain ⟨xs,M,O,Q',w,r,⟨x,n,os,rfl,hx,ho,hn,q⟩,k⟩:=h
 obtain ⟨v,rfl,rv⟩:=qP r
 obtain ⟨a,rfl,ha⟩:=v6 w rv hx
 refine ⟨a,n,os,rfl,ha.elim (fun h=>.inl (SqL.of h)) (fun h=>.inr (SqT.of h)),ho,hn,fun p H' rs kp hp h1 h2 er=>?_⟩
 obtain ⟨e1,w1⟩:=vR w kp
 refine k _ _ _ _ _ q e1 w1 (Rep.lst (w.fresh hp).1 h1 (by rw [<- er];unfold rfs;simp) fun i x d i1 i2=>?_)
 rw [<- er] at i2
 unfold rfs at i1
 rw [List.getElem?_map] at i1 i2
 rw [List.getElem?_map] at i2
 cases e:rs[i]? with
 | none=>rw [e] at i1;cases i1
 | some y=>
  rw [e] at i1 i2
  cases i1;cases i2
  have:=h2 y (List.mem_of_getElem? e)
  exact kE (w.fresh this.1).1 this.2.2
noncomputable def Qt:ASp:=fun xs M Q=>∃ (x:AV) (n:Nat) (os:List Int),xs=[x]/\qm x M=some (os.map fun i=>.d (.int i))/\zd n os/\n<=1000/\Q (.d (.tup [ilD (ldL os n),.int (wkL os n).sum])) M
theorem Y3 (vs:List V)(H:Hp)(Q:VK)(E:XK)(h:cSp Qt vs H Q E):JA K vs H Q E:=by
 obtain ⟨xs,M,O,Q',w,r,⟨x,n,os,rfl,hx,ho,hn,q⟩,k⟩:=h
 obtain ⟨v,rfl,rv⟩:=qP r
 obtain ⟨a,rfl,ha⟩:=v6 w rv hx
 refine ⟨a,n,os,rfl,ha.elim (fun h=>.inl (SqL.of h)) (fun h=>.inr (SqT.of h)),ho,hn,fun p t H' kp hp ht h1 h2=>?_⟩
 obtain ⟨e1,w1⟩:=vR w kp
 refine k _ _ _ _ _ q e1 w1 (Rep.tup (w.fresh ht).1 h2 rfl fun i x d i1 i2=>?_)
 match i,i1,i2 with
 | 0,i1,i2=>cases i1;cases i2;exact kE (w.fresh hp).1 h1
 | 1,i1,i2=>cases i1;cases i2;exact .int
 | (i+2),i1,_=>cases i1
noncomputable abbrev yG:Stmt:=top 6
theorem wb:zw ["thing","seen","place"] ["thing"] (zi yG):=⟨rfl,rfl,rfl,by decide +kernel,rfl,by decide +kernel,by decide +kernel⟩
noncomputable abbrev xP:Stmt:=top 5
theorem yX:zw ["thing","n"] ["thing","n"] (zi xP):=⟨rfl,rfl,rfl,by decide +kernel,rfl,by decide +kernel,by decide +kernel⟩
noncomputable def qo (d:Dat)(n:Int):Bool:=match d with
 | .int i=>decide (0<=i/\i<n)
 | _=>false
noncomputable def kW:ASp:=fun xs M Q=>∃ (d:Dat) (n:Int),xs=[.d d,.d (.int n)]/\dp d<=100/\Q (.d (.bl (qo d n))) M
theorem Q5 (a:At K mg "is_place" xP)(B:Blt mg):Df P w K mg base "is_place" ["thing","n"] 1 (cSp kW):=by
 refine dfA (k:=0) a yX (fun _ _ _ _ _ _=>Pn2_ fun _ _=>rfl) (fun xs M Q h=>?_) (fun f cdv A outer s H E hr=>?_)
 ·obtain ⟨_,_,rfl,_⟩:=h;rfl
 have sc:=yX
 have hsl:=hsl
 refine ⟨_,(zc (qg (PW.pt (yc (qE (zn QD rfl B.isinstance qY (za (pv 0) (za (xl (v:=.ty "bool") rfl B.bool DE rfl) zb))) (fun _=>rfl)) (j4 (jN (qE (zn QD rfl B.isinstance qY (za (pv 0) (za (xl (v:=.ty "int") rfl B.int K4 rfl) zb))) (fun _=>rfl)))))) (ze (zx qI)) zG)
  (ze (zx (WB FX wJ zg (pv 0) (pv 1))))),?_⟩
 refine ex2 (by walk_at "sim") ?_
 rintro xs M Q ⟨d,n,rfl,hd,q⟩
 rw [show qd ["thing","n"] [.d d,.d (.int n)]=[some (.d d),some (.d (.int n))] from rfl]
 have fin:=fun b=>J9 (M0:=M) Fr.refl (.bl b)
 cases d with
 | non=>walk_at "ra";exact ⟨_,_,fin _,q⟩
 | bl b=>walk_at "ra";exact ⟨_,_,fin _,q⟩
 | str b=>walk_at "ra";exact ⟨_,_,fin _,q⟩
 | lst b=>walk_at "ra";exact ⟨_,_,fin _,q⟩
 | tup b=>walk_at "ra";exact ⟨_,_,fin _,q⟩
 | int i=>
  walk_at "ra"
  have q:Q (.d (.bl (decide (0<=i/\i<n)))) M:=q
  by_cases c:0<=i
  ·rw [if_pos c]
   rw [show decide (0<=i/\i<n)=decide (i<n) by simp [c]] at q
   walk_at "ra"
   exact ⟨_,_,fin _,q⟩
  ·rw [if_neg c]
   rw [show decide (0<=i/\i<n)=false by simp [c]] at q
   walk_at "ra"
   exact ⟨_,_,fin _,q⟩
 | ty _=>rw [dp] at hd;walk_at "o"
 | rng _ _ _=>rw [dp] at hd;walk_at "o"
 | scr _ _=>rw [dp] at hd;walk_at "o"
noncomputable def jA (l:List Dat):Prop:=∃ os:List Int,l=os.map .int/\zd l.length os
open Classical in
noncomputable def wX:Dat->Bool
 | .lst l=>decide (jA l)
 | .tup l=>decide (jA l)
 | _=>false
open Classical in
theorem YT (l:List Dat):wX (.lst l)=if jA l then true else false:=by
 unfold wX
 by_cases h:jA l <;> simp [h]
open Classical in
theorem Yz (l:List Dat):wX (.tup l)=if jA l then true else false:=by
 unfold wX
 by_cases h:jA l <;> simp [h]
theorem Zp {n:Nat}{os:List Int}(h:zd n os):jA (os.map .int):=⟨os,rfl,by rw [List.length_map,h.1];exact h⟩
theorem yR {d:Dat}{n:Int}(h:qo d n=true):∃ k:Int,d=.int k/\0<=k/\k<n:=by
 cases d with
 | int k=>exact ⟨k,rfl,of_decide_eq_true h⟩
 | _=>cases h
theorem Ec {l:List Dat}(h:jA l){i:Nat}{d:Dat}(hi:l[i]?=some d):qo d (l.length:Nat)=true:=by
 obtain ⟨os,rfl,ho⟩:=h
 rw [List.getElem?_map] at hi
 cases e:os[i]? with
 | none=>rw [e] at hi;cases hi
 | some k=>
  rw [e] at hi;cases hi
  exact decide_eq_true (ho.2.2 k (List.mem_of_getElem? e))
theorem DA {l:List Dat}(h:jA l){os:List Int}{i:Nat}{k:Int}(ht:l.take i=os.map .int)(hi:l[i]?=some (.int k)):k ∉ os:=by
 obtain ⟨qs,rfl,ho⟩:=h
 intro hk
 rw [List.getElem?_map] at hi
 cases e:qs[i]? with
 | none=>rw [e] at hi;cases hi
 | some k'=>
  rw [e] at hi;cases hi
  have ht:qs.take i=os:=by
   rw [<- List.map_take] at ht
   exact (List.map_inj_right (fun _ _ z=>Dat.int.inj z)).mp ht
  rw [<- ht] at hk
  obtain ⟨j,hj,ej⟩:=List.mem_take_iff_getElem.mp hk
  obtain ⟨hi',ei⟩:=List.getElem?_eq_some_iff.mp e
  have:=(List.getElem_inj (h₀:=by walk_at "o") (h₁:=hi') ho.2.1).mp (ej.trans ei.symm)
  walk_at "o"
noncomputable def Jc:ASp:=fun xs M Q=>∃ (x:AV) (d:Dat),xs=[x]/\yn x M=some d/\jO 100 d/\Q (.d (.bl (wX d))) M
theorem wd {x:AV}{l:List Dat}{M:MH}{p:Addr}{D:yQ}{G:MH->Prop}(hG:∀ o,G (mup M p o))(hp:M p=none)(hl:l.length<=100000)(hd:∀ d ∈ l,dp d<=100)(hx:qm x M=some (l.map .d))(hrt:∀ M',Fr M M'->¬ jA l->D.rt (.d (.bl false)) M')(hnx:∀ u M',Fr M M'->jA l->D.nx [some x,some (.ref p),u] M'){B:MH} :
  FV (jj 2) (kZ (Ep (aOr (GF (aB (Ds kW (JH (Jh 2) (JH (aCB HH (JH (Jh 0) DB)) DB))))) (aB (aOp (aIx qm) (Jh 1) (Jh 2)))) (HG (aC (Dat.bl false))) XB) (HJ (aC (Dat.bl true)) (B3 (Jh 1) (Jh 2) asL)))
   B D G (l.map .d) [some x,some (.ref p),none] (mup M p (.lst ((List.replicate l.length false).map fun b=>.d (.bl b)))):=by
 refine ⟨fun i ρ M'=>∃ (u:Option AV) (bs:List Bool) (os:List Int),ρ=[some x,some (.ref p),u]/\M'=mup M p (.lst (bs.map fun b=>.d (.bl b)))/\bs.length=l.length/\l.take i=os.map .int/\os.Nodup/\(∀ k ∈ os,0<=k/\k<(l.length:Int))/\∀ k:Nat,k<l.length->(bs.getD k false=true ↔ (k:Int) ∈ os),?_,?_,?_⟩
 ·refine ⟨none,_,[],rfl,rfl,List.length_replicate,rfl,List.nodup_nil,(fun k hk=>nomatch hk),fun k hk=>?_⟩
  rw [List.getD_eq_getElem?_getD,List.getElem?_replicate,if_pos hk]
  simp
 ·rintro i y ρ M' hy ⟨u,bs,os,rfl,rfl,lb,ht,nd,hb,hm⟩
  rw [List.getElem?_map] at hy
  cases e:l[i]? with
  | none=>rw [e] at hy;cases hy
  | some d=>
   rw [e] at hy
   cases hy
   refine ⟨hG _,?_⟩
   walk_at "ra"
   rw [xT hx hp]
   walk_at "ra"
   refine ⟨d,_,rfl,hd d (List.mem_of_getElem? e),_,rfl,?_⟩
   cases c:qo d (l.length:Nat) with
   | false=>
    walk_at "ra"
    exact hrt _ (Fr.refl.mup hp _) fun z=>by rw [Ec z e] at c;cases c
   | true=>
    obtain ⟨k,rfl,k0,k1⟩:=yR c
    walk_at "ra"
    rw [jR zm]
    have hk:=hm k.toNat (by walk_at "o")
    rw [Int.toNat_of_nonneg k0] at hk
    have hat:atI (bs.map fun b=>AV.d (.bl b)) k=some (.d (.bl (bs.getD k.toNat false))):=by rw [XX,Af k0 (by walk_at "o") false];rfl
    walk_at "ra"
    rw [hat]
    walk_at "ra"
    cases c2:bs.getD k.toNat false with
    | true=>
     walk_at "ra"
     exact hrt _ (Fr.refl.mup hp _) fun z=>DA z ht e (hk.mp c2)
    | false=>
     walk_at "ra"
     have hno:k ∉ os:=fun z=>by rw [hk.mpr z] at c2;cases c2
     refine ⟨_,zm,k.toNat,by rw [List.length_map,xK k0 (by walk_at "o")],bs.set k.toNat true,?_,by rw [List.length_set];exact lb,os ++ [k],?_,?_,?_,?_⟩
     ·rw [List.map_set]
     ·rw [List.take_add_one,e,ht,List.map_append];rfl
     ·rw [List.nodup_append]
      exact ⟨nd,by simp,fun a ha b hb'=>by rw [List.mem_singleton.mp hb'];exact fun z=>hno (z ▸ ha)⟩
     ·intro j hj
      rcases List.mem_append.mp hj with z | z
      ·exact hb j z
      ·rw [List.mem_singleton.mp z];exact ⟨k0,k1⟩
     ·intro j hj
      rw [yx (by walk_at "o"),List.mem_append,List.mem_singleton]
      by_cases cj:j=k.toNat
      ·rw [if_pos cj]
       exact ⟨fun _=>.inr (by walk_at "o"),fun _=>rfl⟩
      ·rw [if_neg cj,hm j hj]
       exact ⟨.inl,fun z=>z.resolve_right (by walk_at "o")⟩
 ·rintro ρ M' ⟨u,bs,os,rfl,rfl,lb,ht,nd,hb,hm⟩
  rw [List.length_map,List.take_length] at ht
  refine ⟨hG _,hnx u _ (Fr.refl.mup hp _) ⟨os,ht,?_,nd,hb⟩⟩
  rw [ht,List.length_map]
theorem Kf (a:At K mg "is_order" yG)(B:Blt mg)(D_is_place:Df P w K mg base "is_place" ["thing","n"] 1 (cSp kW)):Df P w K mg base "is_order" ["thing"] 2 (cSp Jc):=by
 refine dfA (k:=1) a wb (fun _ _ _ _ _ _=>Pn1_ fun _=>rfl) (fun xs M Q h=>?_) (fun f cdv A outer s H E hr=>?_)
 ·obtain ⟨_,_,rfl,_⟩:=h;rfl
 have sc:=wb
 have hsl:=hsl
 have hs2:0+1+1<=sizeLine:=by walk_at "o"
 refine ⟨_,(zc (qg (jN (qE (zn Zo rfl B.isinstance qY (za (pv 0) (za (kj (za (xl (v:=.ty "list") rfl B.list qZ rfl) (za (xl (v:=.ty "tuple") rfl B.tuple QY rfl) zb))) zb))) (fun _=>rfl))) (ze (zx qI)) zG)
  (zc (zr (i:=1) sc.nd rfl (by first | exact Or.inl rfl | exact Or.inr rfl) (j8 (zp yz (qk (za qI zb)) (zn zl rfl B.len zM (za (pv 0) zb)))))
  (zc (qi PassesOwn.never rfl (jq (pv 0)) (zy (i:=2) sc.nd rfl (by first | exact Or.inl rfl | exact Or.inr rfl)) (zc (qg (PW.pt (yc (jN (qE (zu D_is_place hr rfl (za (pv 2) (za (zn zl rfl B.len zM (za (pv 0) zb)) zb))) (fun _=>rfl))) (j4 (qE (zJ qU (pv 1) (pv 2) (fun _ _=>rfl)) (fun _=>rfl))))) (ze (zx qI)) zG)
  (ze (ji qI (qV (pv 1) (pv 2) qb)))))
  (ze (zx qI))))),?_⟩
 refine ex2 (by walk_at "sim") ?_
 rintro xs M Q ⟨x,d,rfl,hx,hd,q⟩
 rw [show qd ["thing","seen","place"] [x]=[some x,none,none] from rfl]
 have fin:=fun b M' (f:Fr M M')=>J9 f (.bl b)
 cases d with
 | non=>obtain rfl:=qv hx (fun _ z=>nomatch z);walk_at "ra";exact ⟨hs2,_,_,fin _ _ Fr.refl,q⟩
 | bl b=>obtain rfl:=qv hx (fun _ z=>nomatch z);walk_at "ra";exact ⟨hs2,_,_,fin _ _ Fr.refl,q⟩
 | int b=>obtain rfl:=qv hx (fun _ z=>nomatch z);walk_at "ra";exact ⟨hs2,_,_,fin _ _ Fr.refl,q⟩
 | str b=>obtain rfl:=qv hx (fun _ z=>nomatch z);walk_at "ra";exact ⟨hs2,_,_,fin _ _ Fr.refl,q⟩
 | lst l=>
  obtain ⟨_,hs,t1,_⟩:=Q1 hx
  have t2:=KH
  obtain ⟨hl,hdl⟩:=hd.lst
  have hdl:∀ d ∈ l,dp d<=100:=fun d h=>Nat.le_trans (hdl d h).1 (by walk_at "o")
  have he:=YT l
  walk_at "ra"
  rw [t1]
  walk_at "ra"
  rw [hs]
  walk_at "ra"
  refine ⟨by walk_at "o",by walk_at "o",by walk_at "o",by walk_at "o",by walk_at "o",fun p hp _=>⟨_,xT hs hp _,?_⟩⟩
  rw [Int.toNat_natCast,Jt,show List.replicate l.length (AV.d (Dat.bl false))=(List.replicate l.length false).map fun b=>AV.d (.bl b) by rw [List.map_replicate]]
  refine wd (fun o=>xT hs hp o) hp hl hdl hs (fun M' f hn=>?_) fun u M' f hn=>?_
  ·rw [he,if_neg hn] at q
   exact ⟨_,_,fin _ _ f,q⟩
  ·rw [he,if_pos hn] at q
   walk_at "ra"
   exact ⟨_,_,fin _ _ f,q⟩
 | tup l=>
  obtain rfl:=qv hx (fun _ z=>nomatch z)
  have hs:qm (.d (.tup l)) M=some (l.map .d):=rfl
  have t1:tyA (.d (.tup l)) M=some "tuple":=rfl
  have t2:=Xa
  obtain ⟨hl,hdl⟩:=hd.tup
  have hdl:∀ d ∈ l,dp d<=100:=fun d h=>Nat.le_trans (hdl d h).1 (by walk_at "o")
  have he:=Yz l
  walk_at "ra"
  refine ⟨by walk_at "o",by walk_at "o",by walk_at "o",by walk_at "o",by walk_at "o",fun p hp _=>?_⟩
  rw [Int.toNat_natCast,Jt,show List.replicate l.length (AV.d (Dat.bl false))=(List.replicate l.length false).map fun b=>AV.d (.bl b) by rw [List.map_replicate]]
  refine wd (fun o=>trivial) hp hl hdl hs (fun M' f hn=>?_) fun u M' f hn=>?_
  ·rw [he,if_neg hn] at q
   exact ⟨_,_,fin _ _ f,q⟩
  ·rw [he,if_pos hn] at q
   walk_at "ra"
   exact ⟨_,_,fin _ _ f,q⟩
 | ty t=>have:=hd.1;rw [dp] at this;walk_at "o"
 | rng _ _ _=>have:=hd.1;rw [dp] at this;walk_at "o"
 | scr _ _=>have:=hd.1;rw [dp] at this;walk_at "o"
noncomputable abbrev yO:Stmt:=top 15
theorem vO:zw ["order","ring"] ["order"] (zi yO):=⟨rfl,rfl,rfl,by decide +kernel,rfl,by decide +kernel,by decide +kernel⟩
noncomputable def jC (os:List Int)(n:Nat):List Int:=(zh os n).map fun r=>r.getD 0 0
noncomputable def JK:ASp:=fun xs M Q=>∃ (x:AV) (n:Nat) (os:List Int),xs=[x]/\qm x M=some (os.map fun i=>.d (.int i))/\zd n os/\n<=1000/\Q (.d (ilD (jC os n))) M
noncomputable def hdA:AV->AV
 | .d (.lst (x :: _))=>.d x
 | _=>.d .non
theorem Wt {r:List Int}(h:1<=r.length):hdA (.d (ilD r))=.d (.int (r.getD 0 0)):=by
 cases r with
 | nil=>simp at h
 | cons a l=>rfl
theorem KQ {n:Nat}{os:List Int}(ho:zd n os):(((zh os n).map ilD).map AV.d).map hdA=(jC os n).map fun i=>AV.d (.int i):=by
 unfold jC
 rw [List.map_map,List.map_map,List.map_map]
 refine List.map_congr_left fun r hr=>?_
 have:=qX ho (Nat.le_refl n) hr
 exact Wt (by walk_at "o")
theorem KI (a:At K mg "leaders" yO)(B:Blt mg)(D_rings:Df P w K mg base "rings" ["order"] 2 (cSp yA)):Df P w K mg base "leaders" ["order"] 3 (cSp JK):=by
 refine dfA (k:=2) a vO (fun _ _ _ _ _ _=>Pn1_ fun _=>rfl) (fun xs M Q h=>?_) (fun f cdv A outer s H E hr=>?_)
 ·obtain ⟨_,_,_,rfl,_⟩:=h;rfl
 have sc:=vO
 have hsl:=hsl
 refine ⟨_,(ze (zx (qQ (ts:=[1]) rfl rfl (jq (zu D_rings hr rfl (za (pv 0) zb))) (fun _ _ _ _=>(zy (i:=1) sc.nd rfl (by first | exact Or.inl rfl | exact Or.inr rfl))) (fun _ _ _ _=>jb) (fun _ _ _ _=>(zJ (yN (K:=K) rfl) (pv 1) zg (fun _ _=>rfl)))))),?_⟩
 refine ex2 (by walk_at "sim") ?_
 rintro xs M Q ⟨x,n,os,rfl,hx,ho,hn,q⟩
 rw [show qd ["order","ring"] [x]=[some x,none] from rfl]
 walk_at "ra"
 refine ⟨x,n,os,rfl,hx,ho,hn,_,rfl,?_⟩
 refine Xq (fun o=>[some x,o]) hdA ⟨_,rfl⟩ rfl (by rw [List.length_map,List.length_map];have:=qz os n;walk_at "o") (fun o y Q hy q=>?_) fun o=>?_
 ·rw [List.map_map] at hy
  obtain ⟨r,hr,rfl⟩:=List.mem_map.mp hy
  have:=qX ho (Nat.le_refl n) hr
  have h0:=xg (ns:=r) (i:=0) (by walk_at "o") (by walk_at "o")
  rw [Int.toNat_zero] at h0
  show jj 1 (AV.d (ilD r)) _ _ _
  walk_at "ra"
  rw [h0]
  walk_at "ra"
  have q:=q (some (.d (ilD r)))
  rw [show hdA ((AV.d ∘ ilD) r)=_ from Wt (by walk_at "o")] at q
  exact q
 ·rw [KQ ho,zT]
  exact ⟨_,rfl,_,_,J9 Fr.refl _,q⟩
theorem yT (os:List Int):∀ k,(Xo os k).filter (fun r=>decide (1<r.length))=zh os k
 | 0=>rfl
 | k+1=>by
  show (Xo os k ++ _).filter _=zh os (k+1)
  unfold zh
  rw [List.filter_append,yT os k]
  congr 1
  have hlen:(zt os (k:Int)).length=per os (k:Int):=by unfold zt;rw [qj]
  by_cases hL:qN os k
  ·rw [if_pos hL]
   by_cases hp:1<per os (k:Int)
   ·rw [if_pos ⟨hL,hp⟩,List.filter_cons_of_pos (by rw [hlen];exact decide_eq_true hp),List.filter_nil]
   ·rw [if_neg (fun z=>hp z.2),List.filter_cons_of_neg (by rw [hlen];simp [hp]),List.filter_nil]
  ·rw [if_neg hL,if_neg (fun z=>hL z.1),List.filter_nil]
theorem w6 {n:Nat}{os:List Int}(h:zd n os){r:List Int}:∀ {i:Nat},i<=n->r ∈ zh os i->∃ k:Nat,k<i/\r.getD 0 0=(k:Int)
 | 0,_,hr=>by simp [zh] at hr
 | i+1,hi,hr=>by
  unfold zh at hr
  rcases List.mem_append.mp hr with z | z
  ·obtain ⟨k,hk,e⟩:=w6 h (by walk_at "o") z
   exact ⟨k,by walk_at "o",e⟩
  ·by_cases c:qN os i/\1<per os (i:Int)
   ·rw [if_pos c] at z
    rw [List.mem_singleton.mp z]
    refine ⟨i,by walk_at "o",?_⟩
    have hp:0<per os (i:Int):=by walk_at "o"
    unfold zt
    rw [List.getD_eq_getElem?_getD,show (itl os (i:Int) (per os (i:Int)))[0]?=some (itn os 0 (i:Int)) by unfold itl;rw [List.getElem?_map,List.getElem?_range hp];rfl]
    rfl
   ·rw [if_neg c] at z;cases z
theorem Em {n:Nat}{os:List Int}(h:zd n os){x:Int}(hx:x ∈ jC os n):0<=x/\x<n:=by
 unfold jC at hx
 obtain ⟨r,hr,rfl⟩:=List.mem_map.mp hx
 obtain ⟨k,hk,e⟩:=w6 h (Nat.le_refl n) hr
 rw [e];walk_at "o"
theorem Du (os:List Int)(n:Nat):(jC os n).length<=n:=by unfold jC;rw [List.length_map];exact qz os n
noncomputable def ki:Dat->Option (List Dat)
 | .lst l=>some l
 | .tup l=>some l
 | _=>none
open Classical in
noncomputable def xC (os:List Int)(n:Nat)(d:Dat):Bool:=decide (ki d=some ((jC os n).map .int))
theorem yr {os:List Int}{n:Nat}{d:Dat}:xC os n d=true ↔ ki d=some ((jC os n).map .int):=by unfold xC;simp
theorem YN {os:List Int}{n:Nat}{d:Dat}(h:ki d ≠ some ((jC os n).map .int)):xC os n d=false:=by
 cases e:xC os n d with
 | false=>rfl
 | true=>exact absurd (yr.mp e) h
theorem BF {os:List Int}{n:Nat}{d:Dat}{ks:List Int}(h:ki d=some (ks.map .int)):xC os n d=decide (ks=jC os n):=by
 by_cases e:ks=jC os n
 ·rw [decide_eq_true e,yr,h,e]
 ·rw [decide_eq_false e]
  refine YN fun z=>e ?_
  rw [h] at z
  injection z with z
  exact (List.map_inj_right (fun _ _ z=>Dat.int.inj z)).mp z
theorem AC {os:List Int}{n:Nat}{d:Dat}(h:ki d=none):xC os n d=false:=by
 unfold xC;rw [h];simp
theorem EJ {x:AV}{M:MH}{d:Dat}(h:yn x M=some d)(hd:dp d<=100):∃ t,tyA x M=some t/\va t ["list","tuple"]=some (ki d).isSome:=by
 cases d with
 | lst l=>exact ⟨_,(Q1 h).2.2.1,KH⟩
 | tup l=>rw [qv h (fun _ z=>nomatch z)];exact ⟨_,rfl,Xa⟩
 | non=>rw [qv h (fun _ z=>nomatch z)];exact ⟨_,rfl,B5⟩
 | bl b=>rw [qv h (fun _ z=>nomatch z)];exact ⟨_,rfl,B4⟩
 | int b=>rw [qv h (fun _ z=>nomatch z)];exact ⟨_,rfl,By⟩
 | str b=>rw [qv h (fun _ z=>nomatch z)];exact ⟨_,rfl,Ab⟩
 | ty t=>rw [dp] at hd;walk_at "o"
 | rng _ _ _=>rw [dp] at hd;walk_at "o"
 | scr _ _=>rw [dp] at hd;walk_at "o"
theorem A2 {n:Nat}{d:Dat}{l:List Dat}(h:jO (n+1) d)(hs:ki d=some l):l.length<=100000/\∀ d ∈ l,jO n d:=by
 cases d with
 | lst m=>cases hs;exact h.lst
 | tup m=>cases hs;exact h.tup
 | _=>cases hs
noncomputable def X1:ASp:=fun xs M Q=>∃ (dx d:Dat) (n:Nat) (os:List Int),xs=[.d dx,.d d]/\ki dx=some (os.map .int)/\zd n os/\n<=1000/\jO 30 d/\Q (.d (.bl (xC os n d))) M
theorem Qw {d:Dat}{l:List Dat}(h:ki d=some l)(M:MH):qm (.d d) M=some (l.map .d):=by
 cases d with
 | lst m=>cases h;rfl
 | tup m=>cases h;rfl
 | _=>cases h
theorem jk {d:Dat}{os:List Int}(h:ki d=some (os.map .int))(M:MH):qm (.d d) M=some (os.map fun i=>.d (.int i)):=by rw [Qw h,jH]
theorem Vh {d:Dat}{os:List Int}{n:Nat}(h:ki d=some (os.map .int))(ho:zd n os):wX d=true:=by
 cases d with
 | lst m=>cases h;rw [YT,if_pos (Zp ho)]
 | tup m=>cases h;rw [Yz,if_pos (Zp ho)]
 | _=>cases h
theorem DN {d:Dat}{os:List Int}{n:Nat}(h:ki d=some (os.map .int))(ho:zd n os)(hn:n<=1000):jO 100 d:=by
 have h1:=ho.1
 cases d with
 | lst m=>cases h;exact (xr (by walk_at "o")).mono (by walk_at "o")
 | tup m=>cases h;exact (KA (by walk_at "o")).mono (by walk_at "o")
 | _=>cases h
theorem Ji {l:List Dat}{n:Int}(h:(l.map fun d=>qo d n).all id=true):∃ ks:List Int,l=ks.map .int/\∀ k ∈ ks,0<=k/\k<n:=by
 induction l with
 | nil=>exact ⟨[],rfl,fun k hk=>nomatch hk⟩
 | cons a r ih=>
  simp only [List.map_cons,List.all_cons,id,Bool.and_eq_true] at h
  obtain ⟨ks,rfl,hk⟩:=ih h.2
  obtain ⟨k,rfl,k0,k1⟩:=yR h.1
  refine ⟨k :: ks,rfl,fun x hx=>?_⟩
  rcases List.mem_cons.mp hx with rfl | hx
  ·exact ⟨k0,k1⟩
  ·exact hk x hx
theorem QZ {n:Int}{ks:List Int}(h:∀ k ∈ ks,0<=k/\k<n):((ks.map Dat.int).map fun d=>qo d n).all id=true:=by
 simp only [List.all_eq_true,List.mem_map]
 rintro b ⟨d,⟨k,hk,rfl⟩,rfl⟩
 exact decide_eq_true (h k hk)
noncomputable abbrev Z4:Stmt:=top 28
theorem Jy:zw ["order","thing","part"] ["order","thing"] (zi Z4):=⟨rfl,rfl,rfl,by decide +kernel,rfl,by decide +kernel,by decide +kernel⟩
theorem BR (a:At K mg "shows_leaders" Z4)(B:Blt mg)(Ball:mg "all"=none)(D_is_order:Df P w K mg base "is_order" ["thing"] 3 (cSp Jc))(D_is_place:Df P w K mg base "is_place" ["thing","n"] 3 (cSp kW))(D_leaders:Df P w K mg base "leaders" ["order"] 3 (cSp JK)):Df P w K mg base "shows_leaders" ["order","thing"] 4 (cSp X1):=by
 refine dfA (k:=3) a Jy (fun _ _ _ _ _ _=>Pn2_ fun _ _=>rfl) (fun xs M Q h=>?_) (fun f cdv A outer s H E hr=>?_)
 ·obtain ⟨_,_,_,_,rfl,_⟩:=h;rfl
 have sc:=Jy
 have hsl:=hsl
 refine ⟨_,(zc (qg (PW.pt (yc (jN (qE (zu D_is_order hr rfl (za (pv 0) zb)) (fun _=>rfl))) (j4 (jN (qE (zn Zo rfl B.isinstance qY (za (pv 1) (za (kj (za (xl (v:=.ty "list") rfl B.list qZ rfl) (za (xl (v:=.ty "tuple") rfl B.tuple QY rfl) zb))) zb))) (fun _=>rfl)))))) (ze (zx qI)) zG)
  (zc (qg (jN (qE (zn (VO rfl) rfl Ball G9 (za (qQ (ts:=[2]) rfl rfl (jq (pv 1)) (fun _ _ _ _=>(zy (i:=2) sc.nd rfl (by first | exact Or.inl rfl | exact Or.inr rfl))) (fun _ _ _ _=>jb) (fun _ _ _ _=>(zu D_is_place hr rfl (za (pv 2) (za (zn (jL (K:=K) rfl) rfl B.len zM (za (pv 0) zb)) zb))))) zb)) (fun _=>rfl))) (ze (zx qI)) zG)
  (ze (zx (xt (v9 hr.units) (zR yf rfl B.list qZ (za (pv 1) zb)) (zu D_leaders hr rfl (za (pv 0) zb)) (zD _)))))),?_⟩
 refine ex2 (by walk_at "sim") ?_
 rintro xs M Q ⟨dx,d,n,os,rfl,hx,ho,hn,hd,q⟩
 rw [show qd ["order","thing","part"] [.d dx,.d d]=[some (.d dx),some (.d d),none] from rfl]
 refine zo fun r hr0=>?_
 walk_at "ra"
 have h1:=ho.1
 refine ⟨_,dx,rfl,rfl,DN hx ho hn,_,rfl,?_⟩
 rw [Vh hx ho,if_neg (by decide)]
 obtain ⟨t,ht,hts⟩:=EJ (x:=.d d) (M:=M) rfl (Nat.le_trans hd.1 (by walk_at "o"))
 refine ⟨by walk_at "o",t,ht,_,hts,?_⟩
 cases hs:ki d with
 | none=>
  rw [AC hs] at q
  walk_at "ra"
  exact wy Fr.refl q
 | some l=>
  rw [Option.isSome_some,if_neg (by decide)]
  obtain ⟨hl,hdl⟩:=A2 (n:=29) hd hs
  subst hr0
  refine zo fun r hr0=>?_
  walk_at "ra"
  refine ⟨_,Qw hs M,?_⟩
  refine Xq (fun o=>[some (.d dx),some (.d d),o]) (fun z=>match z with | .d z=>.d (.bl (qo z n)) | _=>.d .non) ⟨_,rfl⟩ (Qw hs M) (by rw [List.length_map];walk_at "o") (fun o y Q hy q=>?_) fun o=>?_
  ·obtain ⟨z,hz,rfl⟩:=List.mem_map.mp hy
   walk_at "ra"
   refine ⟨_,jk hx M,z,_,rfl,Nat.le_trans (hdl z hz).1 (by walk_at "o"),?_⟩
   rw [List.length_map,h1]
   exact q _
  rw [List.map_map]
  refine ⟨(l.map fun z=>qo z n).map .bl,?_,l.map fun z=>qo z n,WR _,?_⟩
  ·rw [<- qf ((l.map fun z=>qo z n).map Dat.bl),List.map_map,List.map_map];rfl
  have lb:=Du os n
  cases c:(l.map fun z=>qo z n).all id with
  | false=>
   rw [if_pos rfl]
   rw [YN fun z=>by
    rw [hs] at z
    injection z with z
    rw [z,QZ fun k hk=>Em ho hk] at c
    cases c] at q
   exact wy Fr.refl q
  | true=>
   rw [if_neg (by decide)]
   obtain ⟨ks,rfl,hk⟩:=Ji c
   subst hr0
   walk_at "ra"
   rw [List.length_map] at hl
   refine ⟨_,Qw hs M,_,qf _,_,n,os,rfl,jk hx M,ho,hn,_,rfl,Nat.le_trans (xr (ns:=ks) (by walk_at "o")).1 (by walk_at "o"),Nat.le_trans (xr (ns:=jC os n) (by walk_at "o")).1 (by walk_at "o"),?_⟩
   rw [QL]
   refine wy Fr.refl ?_
   rw [<- BF hs]
   exact q
noncomputable def deD:De->Dat
 | .swap a b=>.tup [.str (Str.ofString "swap"),.int (a:Int),.int (b:Int)]
 | .take p=>.tup [.str (Str.ofString "take"),.int (p:Int)]
 | .move p g=>.tup [.str (Str.ofString "move"),.int (p:Int),.int (g:Int)]
 | .lay g=>.tup [.str (Str.ofString "lay"),.int (g:Int)]
theorem QK {n:Nat}{os:List Int}(h:zd n os){r:List Int}:∀ {i:Nat},i<=n->r ∈ zh os i->∀ x ∈ r,0<=x/\x<(n:Int)
 | 0,_,hr=>by simp [zh] at hr
 | i+1,hi,hr=>by
  unfold zh at hr
  rcases List.mem_append.mp hr with z | z
  ·exact QK h (by walk_at "o") z
  ·by_cases c:qN os i/\1<per os (i:Int)
   ·rw [if_pos c] at z
    rw [List.mem_singleton.mp z]
    intro x hx
    obtain ⟨k,_,e⟩:=qM.mp hx
    rw [<- e]
    exact qc h (by walk_at "o") (by walk_at "o") k
   ·rw [if_neg c] at z;cases z
theorem Bw {n:Nat}{os:List Int}(h:zd n os){r:List Int}(hr:r ∈ zh os n):∀ x ∈ r,0<=x:=fun x hx=>(QK h (Nat.le_refl n) hr x hx).1
theorem ya {α β:Type}(f:α->List β)(l:List α)(i:Nat):(((l.take i).map f).flatten).length<=((l.map f).flatten).length:=by
 have e:(l.map f).flatten=((l.take i).map f).flatten ++ ((l.drop i).map f).flatten:=by
  rw [<- List.flatten_append,<- List.map_append,List.take_append_drop]
 rw [e,List.length_append];walk_at "o"
theorem yW {α β:Type}{f:α->List β}{g:α->Nat}:∀ (rs:List α),(∀ r ∈ rs,(f r).length=g r)->((rs.map f).flatten).length=(rs.map g).sum
 | [],_=>rfl
 | r :: rs,h=>by
  rw [List.map_cons,List.flatten_cons,List.length_append,yW rs fun x hx=>h x (by simp [hx]),h r (by simp)];rfl
theorem vh:∀ (ps:List Nat) (g:Nat),(mvP g ps).length=ps.length
 | [],_=>rfl
 | p :: ps,g=>by show (mvP p ps).length+1=_;rw [vh ps p];rfl
theorem V7 {c:List Nat}(h:1<=c.length):(jo c).length=c.length+1:=by
 unfold jo
 rw [List.length_append,List.length_cons,vh,List.length_reverse,List.length_drop]
 show _+1+1=_
 walk_at "o"
theorem JC:∀ (rs:List (List Int)),(rs.map fun r=>r.length+1).sum=kC rs+rs.length
 | []=>rfl
 | r :: rs=>by
  have:=JC rs
  unfold kC at *
  simp only [List.map_cons,List.sum_cons,List.length_cons] at *
  walk_at "o"
theorem Fy (os:List Int)(n:Nat):xv os n<=n:=by
 have:=List.length_filter_le (fun (i:Nat)=>!decide (os.getD i 0=(i:Int))) (List.range n)
 rw [List.length_range] at this
 exact this
theorem v8 {n:Nat}{os:List Int}(h:zd n os):(jx os n).length=xv os n+(zh os n).length:=by
 unfold jx
 rw [yW (g:=fun r=>r.length+1),JC,Kb h]
 intro r hr
 have:=qX h (Nat.le_refl n) hr
 rw [V7 (by rw [List.length_map];walk_at "o"),List.length_map]
noncomputable abbrev kc:Stmt:=top 30
theorem xG:zw ["ring","deeds","goal","place"] ["ring"] (zi kc):=⟨rfl,rfl,rfl,by decide +kernel,rfl,by decide +kernel,by decide +kernel⟩
noncomputable def ddD (d:Dd):Dat:=deD (LA d)
noncomputable def vx:ASp:=fun xs M Q=>∃ r:List Int,xs=[.d (ilD r)]/\(∀ x ∈ r,0<=x)/\1<=r.length/\r.length<=1000/\Q (.d (.lst ((jo (r.map Int.toNat)).map ddD))) M
theorem Jg:∀ (ps:List Nat) (g p:Nat),mvP g (ps ++ [p])=mvP g ps ++ [.move p (ps.getLastD g)]
 | [],_,_=>rfl
 | q :: ps,g,p=>by
  show Dd.move q g :: mvP q (ps ++ [p])=_
  rw [Jg ps q p,show (q :: ps).getLastD g=ps.getLastD q by simp [List.getLastD_eq_getLast?,List.getLast?_cons]];rfl
theorem YZ {ps:List Nat}{g p:Nat}:(ps ++ [p]).getLastD g=p:=by simp [List.getLastD_eq_getLast?]
theorem wz (a:At K mg "round_ring" kc)(B:Blt mg):Df P w K mg base "round_ring" ["ring"] 1 (cSp vx):=by
 refine dfA (k:=0) a xG (fun _ _ _ _ _ _=>Pn1_ fun _=>rfl) (fun xs M Q h=>?_) (fun f cdv A outer s H E hr=>?_)
 ·obtain ⟨_,rfl,_⟩:=h;rfl
 have sc:=xG
 have hsl:=hsl
 refine ⟨_,(zc (zr (i:=1) sc.nd rfl (by first | exact Or.inl rfl | exact Or.inr rfl) (j8 (qk (za (kj (za kK (za (zJ qU (pv 0) zg (fun _ _=>rfl)) zb))) zb))))
  (zc (zr (i:=2) sc.nd rfl (by first | exact Or.inl rfl | exact Or.inr rfl) (zJ qU (pv 0) zg (fun _ _=>rfl)))
  (zc (qi PassesOwn.never rfl (jq (VX (pv 0) yh (jD zg) (jD (Ft Dp zg)))) (zy (i:=3) sc.nd rfl (by first | exact Or.inl rfl | exact Or.inr rfl)) (zc (qC (ky PySem.F.plainAttrs_list PySem.F.slot_list_append PySem.F.type_list_append qL (pv 1) (za (kj (za kK (za (pv 3) (za (pv 2) zb)))) zb)))
  (ze (zr (i:=2) sc.nd rfl (by first | exact Or.inl rfl | exact Or.inr rfl) (pv 3)))))
  (zc (qC (ky PySem.F.plainAttrs_list PySem.F.slot_list_append PySem.F.type_list_append qL (pv 1) (za (kj (za kK (za (pv 2) zb))) zb)))
  (ze (zx (pv 1))))))),?_⟩
 refine ex2 (by walk_at "sim") ?_
 rintro xs M Q ⟨r,rfl,hr0,hc1,hc2,q⟩
 rw [show qd ["ring","deeds","goal","place"] [.d (ilD r)]=[some (.d (ilD r)),none,none,none] from rfl]
 walk_at "ra"
 have h0:=xg (ns:=r) (i:=0) (by walk_at "o") (by walk_at "o")
 rw [Int.toNat_zero] at h0
 rw [h0]
 walk_at "ra"
 have hg0:0<=r.getD 0 0:=by rw [List.getD_eq_getElem?_getD,List.getElem?_eq_getElem (by walk_at "o")];exact hr0 _ (List.getElem_mem _)
 refine ⟨by walk_at "o",by walk_at "o",fun p hp _=>⟨by decide,?_⟩⟩
 rw [YO,YW]
 walk_at "ra"
 have hps:∀ i x,((r.drop 1).reverse.map fun i=>AV.d (.int i))[i]?=some x->∃ y:Nat,((r.map Int.toNat).drop 1).reverse[i]?=some y/\x=AV.d (.int (y:Int)):=fun i x hx=>by
  rw [List.getElem?_map] at hx
  rw [<- List.map_drop,<- List.map_reverse]
  cases e:(r.drop 1).reverse[i]? with
  | none=>rw [e] at hx;cases hx
  | some z=>
   rw [e] at hx
   cases hx
   have:z ∈ r:=List.mem_of_mem_drop (List.mem_reverse.mp (List.mem_of_getElem? e))
   exact ⟨z.toNat,by rw [List.getElem?_map,e];rfl,by rw [Int.toNat_of_nonneg (hr0 z this)]⟩
 generalize hps':((r.map Int.toNat).drop 1).reverse=ps at hps
 have lps:((r.drop 1).reverse.map fun i=>AV.d (.int i)).length=ps.length:=by rw [<- hps'];simp
 have lps2:ps.length<=1000:=by rw [<- hps'];simp;walk_at "o"
 have e0:(r.map Int.toNat).getD 0 0=(r.getD 0 0).toNat:=by
  rw [List.getD_eq_getElem?_getD,List.getElem?_map,List.getD_eq_getElem?_getD]
  cases r[0]? <;> rfl
 generalize (r.drop 1).reverse.map (fun i=>AV.d (.int i))=its at hps lps
 refine ⟨fun i ρ M'=>∃ u,ρ=[some (.d (ilD r)),some (.ref p),some (.d (.int ((ps.take i).getLastD (r.getD 0 0).toNat:Nat))),u]/\M'=mup M p (.lst (((Dd.take (r.getD 0 0).toNat :: mvP (r.getD 0 0).toNat (ps.take i)).map ddD).map .d)),⟨none,?_,?_⟩,?_,?_⟩
 ·show _=[_,_,some (AV.d (.int ((r.getD 0 0).toNat:Int))),_]
  rw [Int.toNat_of_nonneg hg0]
 ·show _=mup M p (.lst [.d (.tup [.str (Str.ofString "take"),.int ((r.getD 0 0).toNat:Int)])])
  rw [Int.toNat_of_nonneg hg0]
 ·rintro i x ρ M' hx ⟨u,rfl,rfl⟩
  obtain ⟨y,hy,rfl⟩:=hps i x hx
  have tk:ps.take (i+1)=ps.take i ++ [y]:=by rw [List.take_add_one,hy];rfl
  have hi:=(List.getElem?_eq_some_iff.mp hy).1
  walk_at "ra"
  refine ⟨⟨_,je zm⟩,by walk_at "o",_,zm,?_,?_⟩
  ·simp only [List.length_map,List.length_cons,vh,List.length_take];walk_at "o"
  ·refine ⟨by rw [tk,YZ],?_⟩
   rw [tk,Jg,List.map_append,List.map_append];rfl
 ·rintro ρ M' ⟨u,rfl,rfl⟩
  rw [lps,List.take_length]
  walk_at "ra"
  refine ⟨⟨_,je zm⟩,by walk_at "o",_,zm,?_,?_⟩
  ·simp only [List.length_map,List.length_cons,vh];walk_at "o"
  ·refine ⟨_,_,xV (Fr.refl.mup hp _) hp zm (ds:=(jo (r.map Int.toNat)).map ddD) ?_,q⟩
   rw [<- qf,jo,e0,hps',List.map_append,List.map_append];rfl
noncomputable abbrev xM:Stmt:=top 31
theorem yY:zw ["order","plan","ring"] ["order"] (zi xM):=⟨rfl,rfl,rfl,by decide +kernel,rfl,by decide +kernel,by decide +kernel⟩
noncomputable def QP:ASp:=fun xs M Q=>∃ (x:AV) (n:Nat) (os:List Int),xs=[x]/\qm x M=some (os.map fun i=>.d (.int i))/\zd n os/\n<=1000/\Q (.d (.lst ((jx os n).map ddD))) M
theorem Jq (a:At K mg "by_rings" xM)(B:Blt mg)(D_rings:Df P w K mg base "rings" ["order"] 2 (cSp yA))(D_round_ring:Df P w K mg base "round_ring" ["ring"] 2 (cSp vx)):Df P w K mg base "by_rings" ["order"] 3 (cSp QP):=by
 refine dfA (k:=2) a yY (fun _ _ _ _ _ _=>Pn1_ fun _=>rfl) (fun xs M Q h=>?_) (fun f cdv A outer s H E hr=>?_)
 ·obtain ⟨_,_,_,rfl,_⟩:=h;rfl
 have sc:=yY
 have hsl:=hsl
 refine ⟨_,(zc (zr (i:=1) sc.nd rfl (by first | exact Or.inl rfl | exact Or.inr rfl) (j8 (qk zb)))
  (zc (qi PassesOwn.never rfl (jq (zu D_rings hr rfl (za (pv 0) zb))) (zy (i:=2) sc.nd rfl (by first | exact Or.inl rfl | exact Or.inr rfl)) (ze (qC (ky PySem.F.plainAttrs_list PySem.F.slot_list_extend PySem.F.type_list_extend VS (pv 1) (za (zu D_round_ring hr rfl (za (pv 2) zb)) zb)))))
  (ze (zx (pv 1))))),?_⟩
 refine ex2 (by walk_at "sim") ?_
 rintro xs M Q ⟨x,n,os,rfl,hx,ho,hn,q⟩
 rw [show qd ["order","plan","ring"] [x]=[some x,none,none] from rfl]
 walk_at "ra"
 intro p hp _
 refine ⟨x,n,os,rfl,xT hx hp _,ho,hn,_,rfl,?_⟩
 have hlen:∀ i,(((((zh os n).take i).map fun r=>jo (r.map Int.toNat)).flatten).length)<=2000:=fun i=>by
  have h1:=ya (fun r:List Int=>jo (r.map Int.toNat)) (zh os n) i
  have h2:=v8 ho
  have h3:=Fy os n
  have h4:=qz os n
  unfold jx at h2
  walk_at "o"
 refine ⟨fun i ρ M'=>∃ u,ρ=[some x,some (.ref p),u]/\M'=mup M p (.lst ((((((zh os n).take i).map fun r=>jo (r.map Int.toNat)).flatten).map ddD).map .d)),⟨none,rfl,rfl⟩,?_,?_⟩
 ·rintro i y ρ M' hy ⟨u,rfl,rfl⟩
  rw [List.getElem?_map,List.getElem?_map] at hy
  cases e:(zh os n)[i]? with
  | none=>rw [e] at hy;cases hy
  | some r=>
   rw [e] at hy
   cases hy
   have hm:=List.mem_of_getElem? e
   have hrl:=qX ho (Nat.le_refl n) hm
   have tk:(zh os n).take (i+1)=(zh os n).take i ++ [r]:=by rw [List.take_add_one,e];rfl
   have l1:=hlen i
   have l2:=hlen (i+1)
   rw [tk,List.map_append,List.flatten_append,List.length_append] at l2
   walk_at "ra"
   refine ⟨⟨_,je zm⟩,r,rfl,Bw ho hm,by walk_at "o",by walk_at "o",_,zm,_,rfl,?_,?_⟩
   ·simp only [List.length_map] at *
    have:([jo (r.map Int.toNat)].flatten).length=(jo (r.map Int.toNat)).length:=by simp
    simp only [List.map_cons,List.map_nil] at l2
    walk_at "o"
   ·rw [vo,tk,List.map_append,List.flatten_append,List.map_append,List.map_append]
    simp
 ·rintro ρ M' ⟨u,rfl,rfl⟩
  rw [List.length_map,List.length_map,List.take_length]
  walk_at "ra"
  exact ⟨_,_,xV (Fr.refl.mup hp _) hp zm (qf _),q⟩
theorem VD {a b:List Int}(h:a.length=b.length)(g:∀ x,x<a.length->a.getD x 0=b.getD x 0):a=b:=by
 refine List.ext_getElem h fun i h1 h2=>?_
 have:=g i h1
 rwa [List.getD_eq_getElem?_getD,List.getElem?_eq_getElem h1,List.getD_eq_getElem?_getD,List.getElem?_eq_getElem h2] at this
theorem DC {n:Nat}{os:List Int}{i:Nat}:∃ k:Nat,k<=i/\qN os k/\Rch os (k:Int) (i:Int):=by
 obtain ⟨m,hm,hl⟩:=xZ (p:=fun q=>Rch os ((q:Nat):Int) (i:Int)) i Rch.refl
 refine ⟨m,?_,fun q hq hr=>hl q hq (hr.trans hm),hm⟩
 rcases Nat.lt_or_ge i m with h | h
 ·exact absurd Rch.refl (hl i h)
 ·exact h
theorem Jm (os:List Int)(a b:Nat)(p:Int):itn os (a+b) p=itn os a (itn os b p):=by
 induction a with
 | zero=>rw [Nat.zero_add];rfl
 | succ a ih=>rw [show a+1+b=(a+b)+1 by walk_at "o"];show nxt os (itn os (a+b) p)=nxt os (itn os a (itn os b p));rw [ih]
theorem Bt {os:List Int}{t:Nat}{p q:Int}(h:itn os t p=p)(r:Rch os p q):itn os t q=q:=by
 obtain ⟨j,rfl⟩:=r
 rw [<- Jm,Nat.add_comm,Jm,h]
theorem XY {n:Nat}{os:List Int}{k:Nat}(hL:qN os k)(hp:1<per os (k:Int)):∀ {i:Nat},k<i->zt os (k:Int) ∈ zh os i
 | 0,h=>absurd h (Nat.not_lt_zero _)
 | i+1,h=>by
  unfold zh
  by_cases c:k=i
  ·subst c;rw [if_pos ⟨hL,hp⟩];simp
  ·exact List.mem_append_left _ (XY (n:=n) hL hp (by walk_at "o"))
theorem vb {os:List Int}{r:List Int}:∀ {i:Nat},r ∈ zh os i->∃ k:Nat,k<i/\qN os k/\1<per os (k:Int)/\r=zt os (k:Int)
 | 0,hr=>by simp [zh] at hr
 | i+1,hr=>by
  unfold zh at hr
  rcases List.mem_append.mp hr with z | z
  ·obtain ⟨k,hk,e⟩:=vb z
   exact ⟨k,by walk_at "o",e⟩
  ·by_cases c:qN os i/\1<per os (i:Int)
   ·rw [if_pos c] at z
    exact ⟨i,by walk_at "o",c.1,c.2,List.mem_singleton.mp z⟩
   ·rw [if_neg c] at z;cases z
noncomputable def KB (os:List Int)(n t:Nat):Prop:=∀ i:Nat,i<n->itn os t (i:Int)=(i:Int)
theorem DQ {os:List Int}{p:Int}{m t:Nat}(h:jw os p m)(e:itn os t p=p):m ∣ t:=by
 rw [Ym h.2.1] at e
 rcases Nat.eq_zero_or_pos (t % m) with z | z
 ·exact Nat.dvd_of_mod_eq_zero z
 ·exact absurd e (h.2.2 _ z (Nat.mod_lt _ h.1))
theorem Y4 {n:Nat}{os:List Int}(h:zd n os)(t:Nat):KB os n t ↔ ∀ r ∈ zh os n,r.length ∣ t:=by
 constructor
 ·intro hs r hr
  obtain ⟨k,hk,hL,hp,rfl⟩:=vb hr
  obtain ⟨m,hm,_⟩:=qT h (p:=(k:Int)) (by walk_at "o") (by walk_at "o")
  unfold zt
  rw [qj,hm.per]
  exact DQ hm (hs k hk)
 ·intro hr i hi
  obtain ⟨k,hk,hL,hrc⟩:=DC (n:=n) (os:=os) (i:=i)
  obtain ⟨m,hm,_⟩:=qT h (p:=(k:Int)) (by walk_at "o") (by walk_at "o")
  refine Bt ?_ hrc
  have hd:m ∣ t:=by
   by_cases c:1<per os (k:Int)
   ·have:=hr _ (XY (n:=n) hL c (by walk_at "o"))
    unfold zt at this
    rwa [qj,hm.per] at this
   ·rw [hm.per] at c
    have:m=1:=by have:=hm.1;walk_at "o"
    rw [this];exact Nat.one_dvd t
  obtain ⟨z,rfl⟩:=hd
  rw [Nat.mul_comm]
  exact vm hm.2.1 z
noncomputable def vN (t l:Nat):Nat:=t / Nat.gcd t l * l
theorem Z9 (t l:Nat):vN t l=Nat.lcm t l:=by
 unfold vN Nat.lcm
 rw [Nat.mul_comm t l,Nat.mul_div_assoc _ (Nat.gcd_dvd_left t l),Nat.mul_comm]
noncomputable def wx (rs:List (List Int)):Nat:=rs.foldl (fun t r=>vN t r.length) 1
theorem QW:∀ (rs:List (List Int)) (t:Nat),(t ∣ rs.foldl (fun t r=>vN t r.length) t/\∀ r ∈ rs,r.length ∣ rs.foldl (fun t r=>vN t r.length) t)/\∀ z,t ∣ z->(∀ r ∈ rs,r.length ∣ z)->rs.foldl (fun t r=>vN t r.length) t ∣ z
 | [],t=>⟨⟨Nat.dvd_refl t,fun r hr=>nomatch hr⟩,fun z hz _=>hz⟩
 | r :: rs,t=>by
  obtain ⟨⟨h1,h2⟩,h3⟩:=QW rs (vN t r.length)
  rw [List.foldl_cons]
  have a1:t ∣ vN t r.length:=by rw [Z9];exact Nat.dvd_lcm_left _ _
  have a2:r.length ∣ vN t r.length:=by rw [Z9];exact Nat.dvd_lcm_right _ _
  refine ⟨⟨Nat.dvd_trans a1 h1,fun x hx=>?_⟩,fun z hz hr=>h3 z ?_ fun x hx=>hr x (by simp [hx])⟩
  ·rcases List.mem_cons.mp hx with rfl | hx
   ·exact Nat.dvd_trans a2 h1
   ·exact h2 x hx
  ·rw [Z9];exact Nat.lcm_dvd hz (hr r (by simp))
theorem BZ {rs:List (List Int)}{r:List Int}(h:r ∈ rs):r.length ∣ wx rs:=(QW rs 1).1.2 r h
theorem VU {n:Nat}{os:List Int}(h:zd n os):KB os n (wx (zh os n)):=(Y4 h _).mpr fun _ hr=>BZ hr
theorem Vn {n:Nat}{os:List Int}(h:zd n os){t:Nat}(hs:KB os n t):pwl n os t=zW 0 1 n:=by
 refine VD (by rw [(jJ h t).1,zC]) fun x hx=>?_
 rw [(jJ h t).1] at hx
 rw [XI h hx,hs x hx,qa n hx]
theorem EW (n:Nat):Qh 0 1 n=(List.range n).map fun (i:Nat)=>AV.d (.int (i:Int)):=by
 unfold Qh
 exact List.map_congr_left fun i _=>by rw [Int.zero_add,Int.mul_one]
theorem dp_ints (ns:List Int):dp (ilD ns)<=40:=by
 have:∀ ns:List Int,dps (ns.map .int)<=0:=fun ns=>yp fun d hd=>by obtain ⟨i,_,rfl⟩:=List.mem_map.mp hd;simp [dp]
 rw [dp];have:=this ns;walk_at "o"
noncomputable def F3 (one other:List Int):List Int:=one.map fun p=>other.getD p.toNat 0
noncomputable def Le:ASp:=fun xs M Q=>∃ (a b:Nat),xs=[.d (.int a),.d (.int b)]/\Q (.d (.int (Nat.gcd a b:Nat))) M
noncomputable abbrev Dw:Stmt:=top 18
theorem WF:zw ["one","other"] ["one","other"] (zi Dw):=⟨rfl,rfl,rfl,by decide +kernel,rfl,by decide +kernel,by decide +kernel⟩
theorem HI (a:At K mg "common_divisor" Dw)(B:Blt mg):Df P w K mg base "common_divisor" ["one","other"] 1 (cSp Le):=by
 refine dfA (k:=0) a WF (fun _ _ _ _ _ _=>Pn2_ fun _ _=>rfl) (fun xs M Q h=>?_) (fun f cdv A outer s H E hr=>?_)
 ·obtain ⟨_,_,rfl,_⟩:=h;rfl
 have sc:=WF
 have hsl:=hsl
 refine ⟨_,(zc (xa PassesOwn.never (zB QC (pv 1) zg (zD _)) (ze (KO (i:=0) (j:=1) rfl sc.nd rfl rfl (by decide) rfl rfl (za (pv 1) (za (zp qD (pv 0) (pv 1)) zb)) rfl)))
  (ze (zx (pv 0)))),?_⟩
 refine ex2 (by walk_at "sim") ?_
 rintro xs M Q ⟨a,b,rfl,q⟩
 rw [show qd ["one","other"] [.d (.int a),.d (.int b)]=[some (.d (.int a)),some (.d (.int b))] from rfl]
 refine zo fun r hr0=>?_
 show kZ _ _ _ _ _ _
 unfold kZ
 refine ⟨fun m ρ M'=>M=M'/\∃ u:Nat,ρ=[some (.d (.int u)),some (.d (.int m))]/\Nat.gcd u m=Nat.gcd a b,⟨b,rfl,a,rfl,rfl⟩,?_⟩
 rintro m ρ M' ⟨rfl,u,rfl,e⟩
 walk_at "ra"
 by_cases c:(0:Int)<m
 ·rw [if_pos c]
  walk_at "ra"
  have ml:=Nat.mod_lt u (show 0<m by walk_at "o")
  refine ⟨c,u % m,ml,m,rfl,by rw [Int.natCast_emod],?_⟩
  rw [<- e,Nat.gcd_comm u m,Nat.gcd_rec m u,Nat.gcd_comm]
 ·rw [if_neg c]
  have m0:m=0:=by walk_at "o"
  subst m0
  subst hr0
  walk_at "ra"
  rw [Nat.gcd_zero_right] at e
  rw [e]
  exact wy Fr.refl q
noncomputable abbrev yK:Stmt:=top 7
theorem vU:zw ["n"] ["n"] (zi yK):=⟨rfl,rfl,rfl,by decide +kernel,rfl,by decide +kernel,by decide +kernel⟩
noncomputable def yI:ASp:=fun xs M Q=>∃ n:Nat,xs=[.d (.int n)]/\n<=1000/\∀ p,M p=none->Q (.ref p) (mup M p (.lst ((zW 0 1 n).map fun i=>.d (.int i))))
theorem Ke (a:At K mg "staying" yK)(B:Blt mg):Df P w K mg base "staying" ["n"] 1 (cSp yI):=by
 refine dfA (k:=0) a vU (fun _ _ _ _ _ _=>Pn1_ fun _=>rfl) (fun xs M Q h=>?_) (fun f cdv A outer s H E hr=>?_)
 ·obtain ⟨_,rfl,_⟩:=h;rfl
 have sc:=vU
 have hsl:=hsl
 refine ⟨_,(ze (zx (j8 (zR (qt rfl) rfl B.list qZ (za (zR jf rfl B.range jT (za (pv 0) zb)) zb))))),?_⟩
 refine ex2 (by walk_at "sim") ?_
 rintro xs M Q ⟨n,rfl,hn,q⟩
 rw [show qd ["n"] [.d (.int n)]=[some (.d (.int n))] from rfl]
 walk_at "ra"
 refine ⟨_,_,_,rfl,small_one (by walk_at "o") (by walk_at "o") (by walk_at "o") (by walk_at "o"),n,by rw [rangeSize_one];split <;> walk_at "o",by walk_at "o",fun p hp _=>?_⟩
 exact ⟨_,_,DS (Fr.refl.mup hp _) hp zm (zT _),q p hp⟩
noncomputable def vZ:ASp:=fun xs M Q=>∃ n:Nat,xs=[.d (.int n)]/\n<=1000/\Q (.d (ilD (zW 0 1 n))) M
theorem Xr (vs:List V)(H:Hp)(Q:VK)(E:XK):cSp vZ vs H Q E->cSp yI vs H Q E:=Fd (fun xs M Q ⟨n,e,h1,q⟩=>⟨n,e,h1,fun p hp=>⟨_,_,xV (Fr.refl.mup hp _) hp zm (zT _),q⟩⟩) vs H Q E
noncomputable def Bj:ASp:=fun xs M Q=>∃ (dx dy:Dat) (a b:List Int),xs=[.d dx,.d dy]/\ki dx=some (a.map .int)/\ki dy=some (b.map .int)/\a.length=b.length/\b.length<=2000/\(∀ p ∈ a,0<=p/\p<(b.length:Int))/\Q (.d (ilD (F3 a b))) M
noncomputable def IC (b:List Int):AV->AV
 | .d (.int p)=>.d (.int (b.getD p.toNat 0))
 | x=>x
noncomputable abbrev Qu:Stmt:=top 8
theorem QG:zw ["one","other","place"] ["one","other"] (zi Qu):=⟨rfl,rfl,rfl,by decide +kernel,rfl,by decide +kernel,by decide +kernel⟩
theorem BM (a:At K mg "after" Qu)(B:Blt mg):Df P w K mg base "after" ["one","other"] 1 (cSp Bj):=by
 refine dfA (k:=0) a QG (fun _ _ _ _ _ _=>Pn2_ fun _ _=>rfl) (fun xs M Q h=>?_) (fun f cdv A outer s H E hr=>?_)
 ·obtain ⟨_,_,_,_,rfl,_⟩:=h;rfl
 have sc:=QG
 have hsl:=hsl
 refine ⟨_,(zc (qg (zB (qW hr.units) (zn zl rfl B.len zM (za (pv 0) zb)) (zn zl rfl B.len zM (za (pv 1) zb)) (zD _)) (ze B2) zG)
  (ze (zx (qQ (ts:=[2]) rfl rfl (jq (pv 0)) (fun _ _ _ _=>(zy (i:=2) sc.nd rfl (by first | exact Or.inl rfl | exact Or.inr rfl))) (fun _ _ _ _=>jb) (fun _ _ _ _=>(zJ (yN (K:=K) rfl) (pv 1) (pv 2) (fun _ _=>rfl))))))),?_⟩
 refine ex2 (by walk_at "sim") ?_
 rintro xs M Q ⟨dx,dy,a,b,rfl,hx,hy,hl,hb,hp,q⟩
 rw [show qd ["one","other","place"] [.d dx,.d dy]=[some (.d dx),some (.d dy),none] from rfl]
 walk_at "ra"
 refine ⟨_,jk hx M,_,jk hy M,?_⟩
 rw [List.length_map,List.length_map,if_neg (by walk_at "o")]
 refine ⟨_,jk hx M,?_⟩
 refine Xq (fun o=>[some (.d dx),some (.d dy),o]) (IC b) ⟨_,rfl⟩ (jk hx M) (by rw [List.length_map];walk_at "o") (fun o y Q hy2 q=>?_) fun o=>?_
 ·obtain ⟨p,hp2,rfl⟩:=List.mem_map.mp hy2
  have hb2:=hp p hp2
  walk_at "ra"
  exact ⟨_,jk hy M,_,xg hb2.1 hb2.2,q _⟩
 ·rw [show (a.map fun i=>AV.d (.int i)).map (IC b)=(F3 a b).map fun i=>AV.d (.int i) by unfold F3;rw [List.map_map,List.map_map];rfl]
  exact ⟨_,zT _,wy Fr.refl q⟩
noncomputable def BC:ASp:=fun xs M Q=>∃ (dx:Dat) (n:Nat) (os:List Int),xs=[.d dx]/\ki dx=some (os.map .int)/\zd n os/\n<=2000/\∀ bs,zV os bs->Q (.d (ilD bs)) M
noncomputable abbrev Xi:Stmt:=top 9
theorem Yl:zw ["order","back","place","goal"] ["order"] (zi Xi):=⟨rfl,rfl,rfl,by decide +kernel,rfl,by decide +kernel,by decide +kernel⟩
theorem EX (a:At K mg "back_of" Xi)(B:Blt mg):Df P w K mg base "back_of" ["order"] 1 (cSp BC):=by
 refine dfA (k:=0) a Yl (fun _ _ _ _ _ _=>Pn1_ fun _=>rfl) (fun xs M Q h=>?_) (fun f cdv A outer s H E hr=>?_)
 ·obtain ⟨_,_,_,rfl,_⟩:=h;rfl
 have sc:=Yl
 have hsl:=hsl
 refine ⟨_,(zc (zr (i:=1) sc.nd rfl (by first | exact Or.inl rfl | exact Or.inr rfl) (j8 (zp yz (qk (za zg zb)) (zn zl rfl B.len zM (za (pv 0) zb)))))
  (zc (qi PassesOwn.never rfl (xi rfl B.enumerate (za (pv 0) zb)) (jG (K:=K) 2 rfl rfl (zZ (zy (i:=2) sc.nd rfl (by first | exact Or.inl rfl | exact Or.inr rfl)) (zZ (zy (i:=3) sc.nd rfl (by first | exact Or.inl rfl | exact Or.inr rfl)) jE))) (ze (ji (pv 2) (qV (pv 1) (pv 3) qb))))
  (ze (zx (pv 1))))),?_⟩
 refine ex2 (by walk_at "sim") ?_
 rintro xs M Q ⟨dx,n,os,rfl,hx,ho,hn,q⟩
 rw [show qd ["order","back","place","goal"] [.d dx]=[some (.d dx),none,none,none] from rfl]
 have h1:=ho.1
 refine zo fun r hr0=>?_
 walk_at "ra"
 refine ⟨by walk_at "o",_,jk hx M,by rw [List.length_map];walk_at "o",by rw [List.length_map];walk_at "o",by rw [List.length_map];walk_at "o",fun p hp _=>?_⟩
 rw [List.length_map,h1,Int.toNat_natCast,Jt]
 have hp1:=zm (M:=M) (a:=p) (o:=.lst (List.replicate n (AV.d (.int 0))))
 have f1:=(Fr.refl (M:=M)).mup hp (.lst (List.replicate n (AV.d (.int 0))))
 subst hr0
 refine zo fun r hr0=>?_
 walk_at "ra"
 refine ⟨_,jk hx _,_,zT _,?_⟩
 refine ⟨fun i ρ M'=>∃ u v bs,ρ=[some (.d dx),some (.ref p),u,v]/\M'=mup M p (.lst (bs.map fun i=>AV.d (.int i)))/\bs.length=n/\∀ j,j<i->bs.getD (os.getD j 0).toNat 0=(j:Int),⟨none,none,List.replicate n 0,rfl,by rw [List.map_replicate],by simp,fun j hj=>nomatch hj⟩,?_,?_⟩
 ·rintro i y ρ M' hy ⟨u,v,bs,rfl,rfl,lb,hj⟩
  refine ⟨jk hx _,?_⟩
  obtain ⟨d,hd,rfl⟩:=jV hy
  rw [List.getElem?_map] at hd
  cases e:os[i]? with
  | none=>rw [e] at hd;cases hd
  | some k=>
   rw [e] at hd
   cases hd
   have hi:=(List.getElem?_eq_some_iff.mp e).1
   have hk:os.getD i 0=k:=by rw [List.getD_eq_getElem?_getD,e];rfl
   have kb:=ho.2.2 k (List.mem_of_getElem? e)
   walk_at "ra"
   refine ⟨_,zm,k.toNat,by rw [List.length_map,xK kb.1 (by walk_at "o")],bs.set k.toNat (i:Int),?_,by rw [List.length_set];exact lb,fun j hj'=>?_⟩
   ·rw [List.map_set]
   ·rw [jW (by walk_at "o")]
    by_cases c:j=i
    ·subst c;rw [hk,if_pos rfl]
    ·rw [if_neg,hj j (by walk_at "o")]
     intro z
     have gj:=ho.getD (i:=j) (by walk_at "o")
     exact c (ho.inj (by walk_at "o") (by walk_at "o") (by rw [hk];walk_at "o"))
 ·rintro ρ M' ⟨u,v,bs,rfl,rfl,lb,hj⟩
  refine ⟨jk hx _,?_⟩
  subst hr0
  walk_at "ra"
  refine ⟨_,_,xV (Fr.refl.mup hp _) hp zm (zT _),q bs ⟨by walk_at "o",fun i hi=>hj i ?_⟩⟩
  simp only [jt,List.length_map]
  exact hi
theorem DP {n:Nat}{rr ss:List Int}(hr:zd n rr)(hs:zd n ss)(l:Nat):aft (if l % 2=1 then aft rr ss else rr) (pwl n (aft ss ss) (l / 2))=aft rr (pwl n ss l):=by
 rw [Yr hs]
 by_cases h:l % 2=1
 ·rw [if_pos h,Zb hr hs.1]
  have e:aft ss (pwl n ss (2 * (l / 2)))=pwl n ss l:=by
   have:=Qo hs 1 (2 * (l / 2))
   rw [Fm hs] at this
   rw [this]
   congr 1;walk_at "o"
  rw [e]
 ·rw [if_neg h]
  congr 2;walk_at "o"
noncomputable def Dm:ASp:=fun xs M Q=>∃ (dx:Dat) (n:Nat) (os rs:List Int) (many:Int),xs=[.d dx,.d (.int many)]/\ki dx=some (os.map .int)/\zd n os/\n<=1000/\IR n os many rs/\Q (.d (ilD rs)) M
noncomputable abbrev Z8:Stmt:=top 10
theorem Jj:zw ["order","many","step","left","reached"] ["order","many"] (zi Z8):=⟨rfl,rfl,rfl,by decide +kernel,rfl,by decide +kernel,by decide +kernel⟩
theorem Wv (a:At K mg "times" Z8)(B:Blt mg)(D_staying:Df P w K mg base "staying" ["n"] 2 (cSp vZ))(D_after:Df P w K mg base "after" ["one","other"] 2 (cSp Bj))(D_back_of:Df P w K mg base "back_of" ["order"] 2 (cSp BC)):Df P w K mg base "times" ["order","many"] 3 (cSp Dm):=by
 refine dfA (k:=2) a Jj (fun _ _ _ _ _ _=>Pn2_ fun _ _=>rfl) (fun xs M Q h=>?_) (fun f cdv A outer s H E hr=>?_)
 ·obtain ⟨_,_,_,_,_,rfl,_⟩:=h;rfl
 have sc:=Jj
 have hsl:=hsl
 refine ⟨_,(zc (zr (i:=2) sc.nd rfl (by first | exact Or.inl rfl | exact Or.inr rfl) (AJ (zB FE (pv 1) zg (zD _)) (pv 0) (zu D_back_of hr rfl (za (pv 0) zb))))
  (zc (zr (i:=3) sc.nd rfl (by first | exact Or.inl rfl | exact Or.inr rfl) (zn wt rfl B.abs KR (za (pv 1) zb)))
  (zc (zr (i:=4) sc.nd rfl (by first | exact Or.inl rfl | exact Or.inr rfl) (zu D_staying hr rfl (za (zn zl rfl B.len zM (za (pv 0) zb)) zb)))
  (zc (xa PassesOwn.never (zB QC (pv 3) zg (zD _)) (zc (qg (zB (v9 hr.units) (zp qD (pv 3) zg) zg (zD _)) (ze (zr (i:=4) sc.nd rfl (by first | exact Or.inl rfl | exact Or.inr rfl) (zu D_after hr rfl (za (pv 4) (za (pv 2) zb))))) zG)
  (zc (zr (i:=2) sc.nd rfl (by first | exact Or.inl rfl | exact Or.inr rfl) (zu D_after hr rfl (za (pv 2) (za (pv 2) zb))))
  (ze (Di (i:=3) sc.nd rfl (by first | exact Or.inl rfl | exact Or.inr rfl) zg ER)))))
  (ze (zx (pv 4))))))),?_⟩
 refine ex2 (by walk_at "sim") ?_
 rintro xs M Q ⟨dx,n,os,rs,many,rfl,hx,ho,hn,⟨bs,hb,hp,hm,rfl⟩,q⟩
 rw [show qd ["order","many","step","left","reached"] [.d dx,.d (.int many)]=[some (.d dx),some (.d (.int many)),none,none,none] from rfl]
 refine zo fun r hr0=>?_
 walk_at "ra"
 have key:∀ d:Dat,ki d=some (bs.map .int)->r M { nx:=fun x M'=>rtA M Q (AV.d Dat.non) M',rt:=rtA M Q } [some (AV.d dx),some (AV.d (Dat.int many)),some (AV.d d),none,none] M:=by
  intro d hd
  have ol:=ho.1
  subst hr0
  refine zo fun r hr0=>?_
  walk_at "ra"
  have hab:(if many<0 then -many else many)=(many.natAbs:Int):=by split <;> walk_at "o"
  rw [hab]
  generalize many.natAbs=t at *
  subst hr0
  refine zo fun r hr0=>?_
  walk_at "ra"
  refine ⟨_,jk hx _,n,by rw [List.length_map,ol],hn,?_⟩
  subst hr0
  refine zo fun r hr0=>?_
  show kZ _ _ _ _ _ _
  unfold kZ
  refine ⟨fun m ρ M'=>M=M'/\∃ (e:Dat) (b rc:List Int),ρ=[some (.d dx),some (.d (.int many)),some (.d e),some (.d (.int m)),some (.d (ilD rc))]/\ki e=some (b.map .int)/\zd n b/\zd n rc/\aft rc (pwl n b m)=pwl n bs t,⟨t,rfl,d,bs,_,rfl,hd,hb,zd.rng n,ka (jJ hb _).1⟩,?_⟩
  rintro m ρ M' ⟨rfl,e,b,rc,rfl,he,hb2,hrc,eq⟩
  have bl:=hb2.1
  have rl:=hrc.1
  walk_at "ra"
  by_cases c:(0:Int)<m
  ·rw [if_pos c]
   have st:=DP hrc hb2 m
   have bd:∀ p ∈ b,0<=p/\p<(b.length:Int):=fun p hp=>by rw [bl];exact hb2.2.2 p hp
   have rd:∀ p ∈ rc,0<=p/\p<(b.length:Int):=fun p hp=>by rw [bl];exact hrc.2.2 p hp
   refine ⟨by decide,?_⟩
   by_cases c2:(m:Int) % 2=1
   ·rw [if_pos c2]
    rw [if_pos (by walk_at "o")] at st
    exact ⟨_,_,rc,b,rfl,rfl,he,by walk_at "o",by walk_at "o",rd,_,_,b,b,rfl,he,he,rfl,by walk_at "o",bd,⟨by walk_at "o",by walk_at "o"⟩,m / 2,by walk_at "o",rfl,_,rfl,by walk_at "o",aft b b,aft rc b,rfl,rfl,hb2.aft hb2,hrc.aft hb2,by rw [st];exact eq⟩
   ·rw [if_neg c2]
    rw [if_neg (by walk_at "o")] at st
    exact ⟨_,_,b,b,rfl,he,he,rfl,by walk_at "o",bd,⟨by walk_at "o",by walk_at "o"⟩,m / 2,by walk_at "o",rfl,_,rfl,by walk_at "o",aft b b,rc,rfl,rfl,hb2.aft hb2,hrc,by rw [st];exact eq⟩
  ·rw [if_neg c]
   have m0:m=0:=by walk_at "o"
   subst m0
   subst hr0
   walk_at "ra"
   rw [<- eq,show pwl n b 0=zW 0 1 n from rfl,xB hrc] at q
   exact wy Fr.refl q
 by_cases c:0<=many
 ·rw [if_pos c]
  exact key dx (by rw [hp c];exact hx)
 ·rw [if_neg c]
  refine ⟨dx,n,os,rfl,hx,ho,by walk_at "o",fun bs' hb'=>?_⟩
  exact key _ (by rw [zV.same ho (hm (by walk_at "o")) hb'];rfl)
theorem EN {n:Nat}{os:List Int}(h:zd n os){r:List Int}(hr:r ∈ zh os n):2<=r.length/\r.length<=n:=by
 obtain ⟨k,hk,hL,hp,rfl⟩:=vb hr
 obtain ⟨m,hm,hmn⟩:=qT h (p:=(k:Int)) (by walk_at "o") (by walk_at "o")
 unfold zt
 rw [qj,hm.per] at *
 walk_at "o"
noncomputable def Jk:ASp:=fun xs M Q=>∃ (x:AV) (n:Nat) (os:List Int),xs=[x]/\qm x M=some (os.map fun i=>.d (.int i))/\zd n os/\n<=1000/\Q (.d (.int (wx (zh os n):Nat))) M
noncomputable abbrev yH:Stmt:=top 19
theorem wv:zw ["order","turns","ring"] ["order"] (zi yH):=⟨rfl,rfl,rfl,by decide +kernel,rfl,by decide +kernel,by decide +kernel⟩
theorem K5 (a:At K mg "turns_of" yH)(B:Blt mg)(D_rings:Df P w K mg base "rings" ["order"] 3 (cSp yA))(D_common_divisor:Df P w K mg base "common_divisor" ["one","other"] 3 (cSp Le)):Df P w K mg base "turns_of" ["order"] 4 (cSp Jk):=by
 refine dfA (k:=3) a wv (fun _ _ _ _ _ _=>Pn1_ fun _=>rfl) (fun xs M Q h=>?_) (fun f cdv A outer s H E hr=>?_)
 ·obtain ⟨_,_,_,rfl,_⟩:=h;rfl
 have sc:=wv
 have hsl:=hsl
 refine ⟨_,(zc (zr (i:=1) sc.nd rfl (by first | exact Or.inl rfl | exact Or.inr rfl) zg)
  (zc (qi PassesOwn.never rfl (jq (zu D_rings hr rfl (za (pv 0) zb))) (zy (i:=2) sc.nd rfl (by first | exact Or.inl rfl | exact Or.inr rfl)) (ze (zr (i:=1) sc.nd rfl (by first | exact Or.inl rfl | exact Or.inr rfl) (zp jn (zp xj (pv 1) (zu D_common_divisor hr rfl (za (pv 1) (za (zn zl rfl B.len zM (za (pv 2) zb)) zb)))) (zn zl rfl B.len zM (za (pv 2) zb))))))
  (ze (zx (pv 1))))),?_⟩
 refine ex2 (by walk_at "sim") ?_
 rintro xs M Q ⟨x,n,os,rfl,hx,ho,hn,q⟩
 rw [show qd ["order","turns","ring"] [x]=[some x,none,none] from rfl]
 refine zo fun r hr0=>?_
 walk_at "ra"
 subst hr0
 refine zo fun r hr0=>?_
 walk_at "ra"
 refine ⟨x,n,os,rfl,hx,ho,hn,_,rfl,?_⟩
 have lr:=qz os n
 refine ⟨fun i ρ M'=>M=M'/\∃ u,ρ=[some x,some (.d (.int (wx ((zh os n).take i):Nat))),u],⟨rfl,_,rfl⟩,?_,?_⟩
 ·rintro i y ρ M' hy ⟨rfl,u,rfl⟩
  rw [List.map_map,List.getElem?_map] at hy
  cases e:(zh os n)[i]? with
  | none=>rw [e] at hy;cases hy
  | some rg=>
   rw [e] at hy
   cases hy
   obtain ⟨b1,b2⟩:=EN ho (List.mem_of_getElem? e)
   have st:wx ((zh os n).take (i+1))=vN (wx ((zh os n).take i)) rg.length:=by
    rw [List.take_succ,e]
    show wx (_ ++ [rg])=_
    unfold wx
    rw [List.foldl_append];rfl
   have sr:qm ((AV.d ∘ ilD) rg) M=some (rg.map fun i=>.d (.int i)):=by rw [<- jH];rfl
   have gp:0<Nat.gcd (wx ((zh os n).take i)) rg.length:=Nat.gcd_pos_of_pos_right _ (by walk_at "o")
   have gl:Nat.gcd (wx ((zh os n).take i)) rg.length<=rg.length:=Nat.gcd_le_right _ (by walk_at "o")
   refine ⟨rfl,?_⟩
   show jj _ _ _ _ _
   walk_at "ra"
   refine ⟨_,sr,_,rg.length,by rw [List.length_map],_,rfl,Yi (by walk_at "o") (by walk_at "o"),_,sr,KW (by walk_at "o") (by rw [List.length_map];walk_at "o"),?_⟩
   rw [st,List.length_map]
   unfold vN
   push_cast
   exact ⟨rfl,rfl,_,rfl⟩
 ·rintro ρ M' ⟨rfl,u,rfl⟩
  subst hr0
  walk_at "ra"
  rw [List.take_length]
  exact wy Fr.refl q
noncomputable def Gq:ASp:=fun xs M Q=>∃ (x:AV) (n:Nat) (os:List Int),xs=[x]/\qm x M=some (os.map fun i=>.d (.int i))/\os.length=n/\n<=1000/\Q (.d (.int (xv os n:Nat))) M
noncomputable abbrev W6:Stmt:=top 11
theorem Wa:zw ["order","place","goal"] ["order"] (zi W6):=⟨rfl,rfl,rfl,by decide +kernel,rfl,by decide +kernel,by decide +kernel⟩
theorem Iq (a:At K mg "off" W6)(B:Blt mg):Df P w K mg base "off" ["order"] 1 (cSp Gq):=by
 refine dfA (k:=0) a Wa (fun _ _ _ _ _ _=>Pn1_ fun _=>rfl) (fun xs M Q h=>?_) (fun f cdv A outer s H E hr=>?_)
 ·obtain ⟨_,_,_,rfl,_⟩:=h;rfl
 have sc:=Wa
 have hsl:=hsl
 refine ⟨_,(ze (zx (zn zl rfl B.len zM (za (qQ (ts:=[1,2]) rfl rfl (xi rfl B.enumerate (za (pv 0) zb)) (fun _ _ _ _=>(jG (K:=K) 2 rfl rfl (zZ (zy (i:=1) sc.nd rfl (by first | exact Or.inl rfl | exact Or.inr rfl)) (zZ (zy (i:=2) sc.nd rfl (by first | exact Or.inl rfl | exact Or.inr rfl)) jE)))) (fun _ _ _ _=>yl (zB (qW hr.units) (pv 1) (pv 2) (zD _))) (fun _ _ _ _=>(pv 1))) zb)))),?_⟩
 refine ex2 (by walk_at "sim") ?_
 rintro xs M Q ⟨x,n,os,rfl,hx,ho,hn,q⟩
 rw [show qd ["order","place","goal"] [x]=[some x,none,none] from rfl]
 walk_at "ra"
 refine ⟨_,hx,_,zT _,?_⟩
 refine ⟨fun i acc ρ M'=>M=M'/\(∃ ks:List Int,acc=ks.map (fun k=>AV.d (.int k))/\ks.length=xv os i)/\∃ u v,ρ=[some x,u,v],⟨rfl,⟨[],rfl,rfl⟩,_,_,rfl⟩,?_,?_⟩
 ·rintro i y acc ρ M' hy ⟨rfl,⟨ks,rfl,lk⟩,u,v,rfl⟩
  refine ⟨hx,?_⟩
  obtain ⟨d,hd,rfl⟩:=jV hy
  rw [List.getElem?_map] at hd
  cases e:os[i]? with
  | none=>rw [e] at hd;cases hd
  | some k=>
   rw [e] at hd
   cases hd
   have hk:os.getD i 0=k:=by rw [List.getD_eq_getElem?_getD,e];rfl
   have st:xv os (i+1)=xv os i+if k=(i:Int) then 0 else 1:=by
    unfold xv
    rw [List.range_succ,List.filter_append,List.length_append]
    congr 1
    simp only [List.filter_cons,List.filter_nil,hk]
    by_cases c:k=(i:Int)
    ·simp [c]
    ·simp [c]
   have hi:=(List.getElem?_eq_some_iff.mp e).1
   have le:xv os i<=i:=by have:=List.length_filter_le (fun (i:Nat)=>!decide (os.getD i 0=(i:Int))) (List.range i);rw [List.length_range] at this;exact this
   walk_at "ra"
   by_cases c:k=(i:Int)
   ·rw [if_pos c] at st
    rw [if_neg (not_not_intro c.symm)]
    exact ⟨⟨ks,rfl,by walk_at "o"⟩,_,rfl⟩
   ·rw [if_neg c] at st
    rw [if_pos (fun z=>c z.symm)]
    exact ⟨Nat.lt_of_lt_of_le (show ks.length<1001 by walk_at "o") (by decide),⟨ks ++ [(i:Int)],by rw [List.map_append];rfl,by rw [List.length_append];show _+1=_;walk_at "o"⟩,_,rfl⟩
 ·rintro acc ρ M' ⟨rfl,⟨ks,rfl,lk⟩,u,v,rfl⟩
  refine ⟨hx,_,zT _,?_⟩
  rw [List.length_map,lk,jt,List.length_map,ho]
  exact wy Fr.refl q
noncomputable def FT:ASp:=fun xs M Q=>∃ (x:AV) (n:Nat) (os:List Int),xs=[x]/\qm x M=some (os.map fun i=>.d (.int i))/\zd n os/\n<=1000/\Q (.d (.int (xv os n+(zh os n).length))) M
noncomputable abbrev Kx:Stmt:=top 32
theorem X2:zw ["order"] ["order"] (zi Kx):=⟨rfl,rfl,rfl,by decide +kernel,rfl,by decide +kernel,by decide +kernel⟩
theorem DK (a:At K mg "fewest_moves" Kx)(B:Blt mg)(D_off:Df P w K mg base "off" ["order"] 3 (cSp Gq))(D_rings:Df P w K mg base "rings" ["order"] 3 (cSp yA)):Df P w K mg base "fewest_moves" ["order"] 4 (cSp FT):=by
 refine dfA (k:=3) a X2 (fun _ _ _ _ _ _=>Pn1_ fun _=>rfl) (fun xs M Q h=>?_) (fun f cdv A outer s H E hr=>?_)
 ·obtain ⟨_,_,_,rfl,_⟩:=h;rfl
 have sc:=X2
 have hsl:=hsl
 refine ⟨_,(ze (zx (zp zS (zu D_off hr rfl (za (pv 0) zb)) (zn zl rfl B.len zM (za (zu D_rings hr rfl (za (pv 0) zb)) zb))))),?_⟩
 refine ex2 (by walk_at "sim") ?_
 rintro xs M Q ⟨x,n,os,rfl,hx,ho,hn,q⟩
 rw [show qd ["order"] [x]=[some x] from rfl]
 walk_at "ra"
 refine ⟨x,n,os,rfl,hx,ho.1,hn,x,n,os,rfl,hx,ho,hn,_,rfl,_,rfl,?_⟩
 rw [List.length_map,List.length_map]
 exact wy Fr.refl q
noncomputable def X5:ASp:=fun xs M Q=>∃ (x:AV) (n mk:Nat) (os:List Int),xs=[x,.d (.int mk)]/\qm x M=some (os.map fun i=>.d (.int i))/\zd n os/\n<=1000/\mk<=n/\Q (.d (ilD (xw os mk n))) M
theorem VT (vs:List V)(H:Hp)(Q:VK)(E:XK)(h:cSp X5 vs H Q E):Jx K vs H Q E:=by
 obtain ⟨xs,M,O,Q',w,r,⟨x,n,mk,os,rfl,hx,ho,hn,hm,q⟩,k⟩:=h
 obtain ⟨v,u,rfl,rv,ru⟩:=jP r
 obtain ⟨a,rfl,ha⟩:=v6 w rv hx
 rw [zL ru]
 refine ⟨a,n,mk,os,rfl,ha.elim (fun h=>.inl (SqL.of h)) (fun h=>.inr (SqT.of h)),ho,hn,hm,fun p H' kp hp h1=>?_⟩
 obtain ⟨e1,w1⟩:=vR w kp
 exact k _ _ _ _ _ q e1 w1 (kE (w.fresh hp).1 h1)
theorem yD {os:List Int}{r:List Int}:∀ {i:Nat},r ∈ zh os i->∃ p:Nat,p<i/\r=zt os (p:Int)
 | 0,h=>by simp [zh] at h
 | i+1,h=>by
  unfold zh at h
  rcases List.mem_append.mp h with z | z
  ·obtain ⟨p,hp,e⟩:=yD z
   exact ⟨p,by walk_at "o",e⟩
  ·by_cases c:qN os i/\1<per os (i:Int)
   ·rw [if_pos c] at z
    exact ⟨i,by walk_at "o",List.mem_singleton.mp z⟩
   ·rw [if_neg c] at z;cases z
theorem Fn {n:Nat}{os:List Int}(h:zd n os){r:List Int}(hr:r ∈ zh os n):∀ x ∈ r,0<=x/\x<(n:Int):=by
 obtain ⟨p,hp,e⟩:=yD hr
 subst e
 intro x hx
 obtain ⟨k,_,ek⟩:=qM.mp hx
 rw [<- ek]
 exact qc h (by walk_at "o") (by walk_at "o") k
theorem Vw {n:Nat}{os:List Int}(h:zd n os){r:List Int}(hr:r ∈ zh os n){k:Nat}(hk:k<r.length):os.getD (r.getD k 0).toNat 0=if k+1=r.length then r.getD 0 0 else r.getD (k+1) 0:=by
 obtain ⟨p,hp,e⟩:=yD hr
 obtain ⟨M,hM,_⟩:=qT h (p:=(p:Int)) (by walk_at "o") (by walk_at "o")
 have hM1:=hM.1
 unfold zt at e
 rw [hM.per] at e
 have lr:r.length=M:=by rw [e,qj]
 have cg:∀ k,k<M->r.getD k 0=itn os k (p:Int):=fun k hk=>by
  rw [e,List.getD_eq_getElem?_getD]
  unfold itl
  rw [List.getElem?_map,List.getElem?_range hk];rfl
 rw [lr] at hk ⊢
 rw [cg k hk]
 show itn os (k+1) (p:Int)=_
 split
 ·rename_i z
  rw [z,hM.2.1,cg 0 (by walk_at "o")];rfl
 ·rw [cg (k+1) (by walk_at "o")]
theorem v7 {n:Nat}{os:List Int}(h:zd n os){p:Nat}(hp:p<n){x:Int}:x ∈ zt os (p:Int) ↔ Rch os (p:Int) x:=by
 obtain ⟨m,hm,_⟩:=qT h (p:=(p:Int)) (by walk_at "o") (by walk_at "o")
 unfold zt
 rw [hm.per]
 exact (Rch.mem_ring hm).symm
theorem Zn {n:Nat}{os:List Int}(h:zd n os){p:Nat}(hp:p<n):(zt os (p:Int)).Nodup:=by
 obtain ⟨m,hm,_⟩:=qT h (p:=(p:Int)) (by walk_at "o") (by walk_at "o")
 unfold zt
 rw [hm.per]
 exact Zw h (by walk_at "o") (by walk_at "o") hm
theorem vC {n:Nat}{os:List Int}(h:zd n os):∀ i,i<=n->(zh os i).flatten.Nodup/\∀ x ∈ (zh os i).flatten,qx os i x
 | 0,_=>by simp [zh]
 | i+1,hi=>by
  obtain ⟨n1,s1⟩:=vC h i (by walk_at "o")
  unfold zh
  by_cases c:qN os i/\1<per os (i:Int)
  ·rw [if_pos c,List.flatten_append,List.flatten_singleton]
   refine ⟨List.nodup_append.mpr ⟨n1,Zn h (by walk_at "o"),fun a ha b hb e=>?_⟩,fun x hx=>?_⟩
   ·subst e
    obtain ⟨q,hq,r⟩:=s1 a ha
    have r2:=(v7 h (by walk_at "o")).mp hb
    have a0:=r2
    exact c.1 q hq (r.trans (r2.symm h (by walk_at "o") (by walk_at "o")))
   ·rcases List.mem_append.mp hx with z | z
    ·exact qx.succ.mpr (.inl (s1 x z))
    ·exact qx.succ.mpr (.inr ((v7 h (by walk_at "o")).mp z))
  ·rw [if_neg c,List.append_nil]
   exact ⟨n1,fun x hx=>qx.succ.mpr (.inl (s1 x hx))⟩
structure Yv (n:Nat)(os:List Int)(rs:List (List Int)):Prop where
 len:∀ r ∈ rs,2<=r.length/\r.length<=n
 bd:∀ r ∈ rs,∀ x ∈ r,0<=x/\x<(n:Int)
 nx:∀ r ∈ rs,∀ k,k<r.length->os.getD (r.getD k 0).toNat 0=r.getD ((k+1) % r.length) 0
 nd:rs.flatten.Nodup
 st:∀ x:Nat,x<n->(x:Int) ∉ rs.flatten->os.getD x 0=(x:Int)
theorem xN {n:Nat}{os:List Int}(h:zd n os):Yv n os (zh os n):=by
 refine ⟨fun r hr=>?_,fun r hr=>Fn h hr,fun r hr k hk=>?_,(vC h n (Nat.le_refl n)).1,fun x hx hn=>?_⟩
 ·have:=qX h (Nat.le_refl n) hr;walk_at "o"
 ·rw [Vw h hr hk]
  by_cases c:k+1=r.length
  ·rw [if_pos c,c,Nat.mod_self]
  ·rw [if_neg c,Nat.mod_eq_of_lt (by walk_at "o")]
 ·rcases ZA h hx with ⟨r,hr,hm⟩ | hp
  ·exact absurd (List.mem_flatten.mpr ⟨r,hr,hm⟩) hn
  ·have:os.getD ((x:Int)).toNat 0=(x:Int):=hp.2.1
   rw [Int.toNat_natCast] at this;exact this
noncomputable def Yf (a b:List Int):Prop:=∃ k,k<b.length/\a=b.drop k ++ b.take k
theorem Qx {b:List Int}{k j:Nat}(hk:k<b.length)(hj:j<b.length):(b.drop k ++ b.take k).getD j 0=b.getD ((j+k) % b.length) 0:=by
 rw [List.getD_eq_getElem?_getD,List.getD_eq_getElem?_getD]
 by_cases c:j<b.length - k
 ·rw [List.getElem?_append_left (by rw [List.length_drop];exact c),List.getElem?_drop,Nat.mod_eq_of_lt (by walk_at "o"),Nat.add_comm]
 ·rw [List.getElem?_append_right (by rw [List.length_drop];walk_at "o"),List.length_drop,List.getElem?_take_of_lt (by walk_at "o")]
  congr 2
  rw [Nat.mod_eq_sub_mod (by walk_at "o"),Nat.mod_eq_of_lt (by walk_at "o")]
  walk_at "o"
theorem Yd {a b:List Int}(h:Yf a b):a.length=b.length:=by
 obtain ⟨k,hk,rfl⟩:=h
 rw [List.length_append,List.length_drop,List.length_take];walk_at "o"
theorem QI {a b:List Int}(h:Yf a b):a.Perm b:=by
 obtain ⟨k,hk,rfl⟩:=h
 exact List.perm_append_comm.trans (by rw [List.take_append_drop])
theorem VZ {n:Nat}{os:List Int}{rs rs':List (List Int)}(g:Yv n os rs)(h1:∀ r' ∈ rs',∃ r ∈ rs,Yf r' r)(h2:rs'.flatten.Perm rs.flatten):Yv n os rs':=by
 refine ⟨fun r' hr'=>?_,fun r' hr' x hx=>?_,fun r' hr' k hk=>?_,h2.nodup_iff.mpr g.nd,fun x hx hn=>g.st x hx fun z=>hn (h2.mem_iff.mpr z)⟩
 ·obtain ⟨r,hr,ro⟩:=h1 r' hr'
  rw [Yd ro];exact g.len r hr
 ·obtain ⟨r,hr,ro⟩:=h1 r' hr'
  exact g.bd r hr x ((QI ro).mem_iff.mp hx)
 ·obtain ⟨r,hr,ro⟩:=h1 r' hr'
  have rl:=Yd ro
  obtain ⟨j,hj,rfl⟩:=ro
  rw [rl] at hk ⊢
  have hl:=(g.len r hr).1
  rw [Qx hj hk,Qx hj (Nat.mod_lt _ (by walk_at "o")),g.nx r hr _ (Nat.mod_lt _ (by walk_at "o"))]
  congr 1
  rw [Nat.mod_add_mod,Nat.mod_add_mod]
  congr 1
  walk_at "o"
theorem Ys {M:MH}{p:Addr}{o:MO}(h:M p=some o):mup M p o=M:=by
 funext q
 unfold mup
 split
 ·rename_i z;rw [z,h]
 ·rfl
noncomputable abbrev blA (bs:List Bool):List AV:=bs.map fun b=>AV.d (.bl b)
theorem EH {bs:List Bool}{r:Addr}:AV.ref r ∉ blA bs:=fun h=>by
 obtain ⟨b,_,z⟩:=List.mem_map.mp h
 cases z
theorem XT {M:MH}{p:Addr}{l:List AV}{cs:List Bool}(h:M p=some (.lst l)){d:Dat}:ZR M (mup M p (.lst (blA cs))) (.d d) (.d d) (mup M p (.lst (blA cs))):=by
 refine ⟨fun q=>.inl rfl,fun q o e=>?_,.inl ⟨rfl,fun p z=>nomatch z⟩⟩
 by_cases c:q=p
 ·subst c
  rw [zm] at e
  cases e
  exact .inr fun r hr=>absurd hr EH
 ·rw [zI c] at e;exact .inl e
noncomputable def mk0 (bs:List Bool)(d:Dat):Option (List Bool):=match d with
 | .int k=>if 0<=k/\k<(bs.length:Int)/\bs.getD k.toNat true=false then some (bs.set k.toNat true) else none
 | _=>none
noncomputable def mk1:List Bool->List Dat->Option (List Bool)
 | bs,[]=>some bs
 | bs,d :: r=>match mk0 bs d with
  | some cs=>mk1 cs r
  | none=>none
theorem Zy:∀ (bs:List Bool) (a b:List Dat),mk1 bs (a ++ b)=match mk1 bs a with | some cs=>mk1 cs b | none=>none
 | bs,[],b=>rfl
 | bs,d :: a,b=>by
  show (match mk0 bs d with | some cs=>mk1 cs (a ++ b) | none=>none)=match (match mk0 bs d with | some cs=>mk1 cs a | none=>none) with | some cs=>mk1 cs b | none=>none
  cases mk0 bs d with
  | none=>rfl
  | some cs=>exact Zy cs a b
theorem YM {bs cs:List Bool}{d:Dat}(h:mk0 bs d=some cs):cs.length=bs.length:=by
 cases d with
 | int k=>
  unfold mk0 at h
  dsimp only at h
  split at h
  ·cases h;exact List.length_set
  ·cases h
 | _=>cases h
theorem ZL:∀ {l:List Dat} {bs cs:List Bool},mk1 bs l=some cs->cs.length=bs.length
 | [],bs,cs,h=>by cases h;rfl
 | d :: r,bs,cs,h=>by
  unfold mk1 at h
  cases e:mk0 bs d with
  | none=>rw [e] at h;cases h
  | some ds=>rw [e] at h;rw [ZL h,YM e]
theorem Yb {bs cs:List Bool}{l:List Dat}{i:Nat}{d:Dat}(h:mk1 bs (l.take i)=some cs)(hd:l[i]?=some d)(hb:mk0 cs d=none):mk1 bs l=none:=by
 have hi:=(List.getElem?_eq_some_iff.mp hd).1
 have e:l=l.take i ++ d :: l.drop (i+1):=by
  rw [<- (List.getElem?_eq_some_iff.mp hd).2,<- List.drop_eq_getElem_cons hi,List.take_append_drop]
 rw [e,Zy,h]
 show (match mk0 cs d with | some cs=>mk1 cs _ | none=>none)=none
 rw [hb]
theorem Wu {bs cs ds:List Bool}{l:List Dat}{i:Nat}{d:Dat}(h:mk1 bs (l.take i)=some cs)(hd:l[i]?=some d)(hb:mk0 cs d=some ds):mk1 bs (l.take (i+1))=some ds:=by
 rw [List.take_succ,hd,Zy,h]
 show (match mk0 cs d with | some cs=>mk1 cs [] | none=>none)=some ds
 rw [hb];rfl
noncomputable def sqD (x:Dat):Option (List Dat):=match x with
 | .lst l=>some l
 | .tup l=>some l
 | _=>none
theorem qy {x:Dat}{l:List Dat}(h:sqD x=some l)(M:MH):qm (.d x) M=some (l.map .d):=by
 cases x <;> first | (cases h;rfl) | cases h
noncomputable def Av (C:Addr):Jd:=fun xs M Q E=>∃ (x:Dat) (l:List Dat) (p:Addr) (bs:List Bool),xs=[.d x,.ref p]/\sqD x=some l/\M p=some (.lst (blA bs))/\l.length<=1000/\(∀ d ∈ l,dp d<=50)/\bs.length<=1000 /\
 (2<=l.length->∀ cs,mk1 bs l=some cs->Q (.d .non) (mup M p (.lst (blA cs))))/\(l.length<2 \/ mk1 bs l=none->∀ cs:List Bool,E C [] (mup M p (.lst (blA cs))))
noncomputable abbrev ZZ:Stmt:=top 16
theorem Js:zw ["ring","seen","place"] ["ring","seen"] (zi ZZ):=⟨rfl,rfl,rfl,by decide +kernel,rfl,by decide +kernel,by decide +kernel⟩
theorem W1 (a:At K mg "mark_ring" ZZ)(B:Blt mg){cBadRing:Addr}(XI_BadRing:PySem.W.excIn K cBadRing BX "ValueError.__new__"=true)(XG_BadRing:mg "BadRing"=some (.ref cBadRing))(D_is_place:Df P w K mg base "is_place" ["thing","n"] 1 (cSp kW)):DfX P w K mg base "mark_ring" ["ring","seen"] 2 (JB (Av cBadRing)):=by
 refine I0 (k:=1) a Js (fun _ _ _ _ _ _=>Pn2_ fun _ _=>rfl) (fun xs M Q E h=>?_) (fun f cdv A outer s H HX OX MX E1 hr hD=>?_)
 ·obtain ⟨_,_,_,_,rfl,_⟩:=h;rfl
 have sc:=Js
 have hsl:=hsl
 refine ⟨_,(zc (qg (zB wJ (zn zl rfl B.len zM (za (pv 0) zb)) zg (zD _)) (ze (vI hD rfl XI_BadRing rfl XG_BadRing (za kK zb))) zG)
  (ze (qi hD.po rfl (jq (pv 0)) (zy (i:=2) sc.nd rfl (by first | exact Or.inl rfl | exact Or.inr rfl)) (zc (qg (jN (qE (zu D_is_place hr rfl (za (pv 2) (za (zn zl rfl B.len zM (za (pv 1) zb)) zb))) (fun _=>rfl))) (ze (vI hD rfl XI_BadRing rfl XG_BadRing (za kK zb))) zG)
  (zc (qg (qE (zJ qU (pv 1) (pv 2) (fun _ _=>rfl)) (fun _=>rfl)) (ze (vI hD rfl XI_BadRing rfl XG_BadRing (za kK zb))) zG)
  (ze (ji qI (qV (pv 1) (pv 2) qb)))))))),?_⟩
 refine exX (by walk_at "sim") ?_
 rintro xs Q E0 rfl ⟨x,l,p,bs,rfl,hx,hp,ll,hdp,lb,q,qe⟩
 rw [show qd ["ring","seen","place"] [.d x,.ref p]=[some (.d x),some (.ref p),none] from rfl]
 have rs:∀ cs:List Bool,(l.length<2 \/ mk1 bs l=none)->exA MX E0 cBadRing [] (mup MX p (.lst (blA cs))):=fun cs h=>⟨_,XT hp,qe h cs⟩
 refine zo fun r hr0=>?_
 walk_at "ra"
 refine ⟨_,qy hx MX,?_⟩
 rw [List.length_map]
 by_cases c2:l.length<2
 ·rw [if_pos (by walk_at "o")]
  have:=rs bs (.inl c2)
  rw [Ys hp] at this
  exact ⟨by walk_at "o",this⟩
 rw [if_neg (by walk_at "o")]
 subst hr0
 walk_at "ra"
 refine ⟨_,qy hx MX,?_⟩
 refine ⟨fun i ρ M'=>∃ (u:Option AV) (cs:List Bool),ρ=[some (.d x),some (.ref p),u]/\M'=mup MX p (.lst (blA cs))/\mk1 bs (l.take i)=some cs,⟨none,bs,rfl,(Ys hp).symm,rfl⟩,?_,?_⟩
 ·rintro i y ρ M' hy ⟨u,cs,rfl,rfl,hc⟩
  rw [List.getElem?_map] at hy
  cases e:l[i]? with
  | none=>rw [e] at hy;cases hy
  | some d=>
   rw [e] at hy
   cases hy
   have lc:=ZL hc
   refine ⟨qy hx _,?_⟩
   show kZ _ _ _ _ _ _
   walk_at "ra"
   refine ⟨_,jR zm,_,_,rfl,Nat.le_trans (hdp d (List.mem_of_getElem? e)) (by decide),?_⟩
   walk_at "ra"
   by_cases hpl:qo d (cs.length:Int)=false
   ·rw [if_pos hpl]
    refine ⟨by walk_at "o",rs cs (.inr (Yb hc e ?_))⟩
    cases d with
    | int k=>
     unfold mk0
     dsimp only
     rw [if_neg]
     intro z
     have:qo (.int k) (cs.length:Int)=true:=by show decide _=true;rw [decide_eq_true_eq];exact ⟨z.1,z.2.1⟩
     rw [hpl] at this;cases this
    | _=>rfl
   ·rw [if_neg hpl]
    obtain ⟨k,rfl,k0,k1⟩:∃ k:Int,d=.int k/\0<=k/\k<(cs.length:Int):=by
     cases d with
     | int k=>
      have:qo (.int k) (cs.length:Int)=true:=by cases z:qo (.int k) (cs.length:Int) with | true=>rfl | false=>exact absurd z hpl
      have:decide (0<=k/\k<(cs.length:Int))=true:=this
      rw [decide_eq_true_eq] at this
      exact ⟨k,rfl,this⟩
     | _=>exact absurd rfl hpl
    obtain ⟨n,rfl⟩:∃ n:Nat,k=n:=⟨k.toNat,by walk_at "o"⟩
    have hn:n<cs.length:=by walk_at "o"
    have a1:atI (blA cs) (n:Int)=some (.d (.bl cs[n])):=by
     unfold atI
     rw [List.length_map,xK (by walk_at "o") (by walk_at "o")]
     show (cs.map fun b=>AV.d (.bl b))[(n:Int).toNat]?=_
     rw [Int.toNat_natCast,List.getElem?_map,List.getElem?_eq_getElem hn];rfl
    have gd:cs.getD (n:Int).toNat true=cs[n]:=by rw [Int.toNat_natCast,List.getD_eq_getElem?_getD,List.getElem?_eq_getElem hn];rfl
    refine ⟨_,jR zm,_,rfl,_,a1,_,rfl,?_⟩
    by_cases cb:cs[n]=true
    ·rw [if_pos cb]
     refine ⟨by walk_at "o",rs cs (.inr (Yb hc e ?_))⟩
     unfold mk0
     dsimp only
     rw [if_neg]
     intro z
     rw [gd,cb] at z
     exact absurd z.2.2 (by decide)
    ·rw [if_neg cb]
     refine ⟨_,_,rfl,zm,n,by rw [List.length_map,xK (by walk_at "o") (by walk_at "o")];rfl,cs.set n true,by unfold blA;rw [List.map_set],Wu hc e ?_⟩
     unfold mk0
     dsimp only
     rw [if_pos ⟨by walk_at "o",by walk_at "o",by rw [gd];cases z:cs[n] with | true=>exact absurd z cb | false=>rfl⟩,Int.toNat_natCast]
 ·rintro ρ M' ⟨u,cs,rfl,rfl,hc⟩
  refine ⟨qy hx _,?_⟩
  walk_at "ra"
  rw [List.length_map,List.take_length] at hc
  exact ⟨_,_,XT hp,q (by walk_at "o") cs hc⟩
noncomputable def qJ {α β:Type}(f:β->α->Option β):β->List α->Option β
 | b,[]=>some b
 | b,a :: r=>match f b a with
  | some c=>qJ f c r
  | none=>none
theorem yB {α β:Type}(f:β->α->Option β):∀ (b:β) (x y:List α),qJ f b (x ++ y)=match qJ f b x with | some c=>qJ f c y | none=>none
 | b,[],y=>rfl
 | b,a :: x,y=>by
  show (match f b a with | some c=>qJ f c (x ++ y) | none=>none)=match (match f b a with | some c=>qJ f c x | none=>none) with | some c=>qJ f c y | none=>none
  cases f b a with
  | none=>rfl
  | some c=>exact yB f c x y
theorem Y8 {α β:Type}{f:β->α->Option β}{b c:β}{l:List α}{i:Nat}{d:α}(h:qJ f b (l.take i)=some c)(hd:l[i]?=some d)(hb:f c d=none):qJ f b l=none:=by
 have hi:=(List.getElem?_eq_some_iff.mp hd).1
 have e:l=l.take i ++ d :: l.drop (i+1):=by
  rw [<- (List.getElem?_eq_some_iff.mp hd).2,<- List.drop_eq_getElem_cons hi,List.take_append_drop]
 rw [e,yB,h]
 show (match f c d with | some c=>qJ f c _ | none=>none)=none
 rw [hb]
theorem Xz {α β:Type}{f:β->α->Option β}{b c e:β}{l:List α}{i:Nat}{d:α}(h:qJ f b (l.take i)=some c)(hd:l[i]?=some d)(hb:f c d=some e):qJ f b (l.take (i+1))=some e:=by
 rw [List.take_succ,hd,yB,h]
 show (match f c d with | some c=>qJ f c [] | none=>none)=some e
 rw [hb];rfl
noncomputable def La:Dat->Int
 | .int k=>k
 | _=>0
noncomputable def prn (l:List Dat):Nat->List Dat->List Dat
 | 0,os=>os
 | j+1,os=>(prn l j os).set (La (l.getD (if j=0 then l.length - 1 else j - 1) .non)).toNat (l.getD j .non)
theorem yd (l:List Dat):∀ (j:Nat) (os:List Dat),(prn l j os).length=os.length
 | 0,os=>rfl
 | j+1,os=>by unfold prn;rw [List.length_set,yd l j os]
noncomputable def obs (st:List Bool × List Dat)(l:List Dat):Option (List Bool × List Dat):=if l.length<2 then none else match mk1 st.1 l with
 | some cs=>some (cs,prn l l.length st.2)
 | none=>none
noncomputable def ob0 (n:Nat):List Bool × List Dat:=(List.replicate n false,(zW 0 1 n).map .int)
theorem JQ:∀ {l:List Dat} {bs cs:List Bool},mk1 bs l=some cs->∀ d ∈ l,∃ k:Nat,d=.int k/\k<bs.length
 | [],_,_,_,d,hd=>by simp at hd
 | a :: r,bs,cs,h,d,hd=>by
  unfold mk1 at h
  cases e:mk0 bs a with
  | none=>rw [e] at h;cases h
  | some ds=>
   rw [e] at h
   rcases List.mem_cons.mp hd with rfl | hd
   ·cases d with
    | int k=>
     unfold mk0 at e
     dsimp only at e
     split at e
     ·rename_i z;exact ⟨k.toNat,by rw [Int.toNat_of_nonneg z.1],by walk_at "o"⟩
     ·cases e
    | _=>cases e
   ·obtain ⟨k,e1,e2⟩:=JQ h d hd
    exact ⟨k,e1,by rw [YM e] at e2;exact e2⟩
theorem Ek {st st':List Bool × List Dat}{l:List Dat}(h:obs st l=some st'):st'.1.length=st.1.length/\st'.2.length=st.2.length:=by
 unfold obs at h
 split at h
 ·cases h
 ·cases e:mk1 st.1 l with
  | none=>rw [e] at h;cases h
  | some cs=>rw [e] at h;cases h;exact ⟨ZL e,yd _ _ _⟩
theorem XG {n:Nat}:∀ {ls:List (List Dat)} {st st':List Bool × List Dat},qJ obs st ls=some st'->st.1.length=n/\st.2.length=n->st'.1.length=n/\st'.2.length=n
 | [],st,st',h,k=>by cases h;exact k
 | l :: r,st,st',h,k=>by
  unfold qJ at h
  cases e:obs st l with
  | none=>rw [e] at h;cases h
  | some s2=>rw [e] at h;exact XG h (by have:=Ek e;walk_at "o")
theorem BQ {M:MH}{p q:Addr}{a b c:MO}(h:q ≠ p):mup (mup (mup M p a) q b) p c=mup (mup M p c) q b:=by
 funext z
 unfold mup
 by_cases c1:z=p
 ·subst c1
  have e1:z ≠ q:=fun e=>h e.symm
  rw [if_pos rfl,if_neg e1,if_pos rfl]
 ·by_cases c2:z=q
  ·rw [if_neg c1,if_pos c2,if_pos c2]
  ·rw [if_neg c1,if_neg c2,if_neg c1,if_neg c2,if_neg c1]
noncomputable def wI (C:Addr):Jd:=fun xs M Q E=>∃ (n:Nat) (x:Dat) (rl:List Dat) (ls:List (List Dat)),xs=[.d (.int n),.d x]/\sqD x=some rl/\rl.map sqD=ls.map some/\n<=1000/\ls.length<=1000/\(∀ l ∈ ls,l.length<=1000/\∀ d ∈ l,dp d<=50) /\
 (∀ st,qJ obs (ob0 n) ls=some st->∀ p,M p=none->Q (.ref p) (mup M p (.lst (st.2.map .d))))/\(qJ obs (ob0 n) ls=none->E C [] M)
noncomputable abbrev yy:Stmt:=top 17
theorem wq:zw ["n","rings_told","order","seen","ring","at","place"] ["n","rings_told"] (zi yy):=⟨rfl,rfl,rfl,by decide +kernel,rfl,by decide +kernel,by decide +kernel⟩
theorem K0 (a:At K mg "order_by" yy)(B:Blt mg){cBadRing:Addr}(XI_BadRing:PySem.W.excIn K cBadRing BX "ValueError.__new__"=true)(XG_BadRing:mg "BadRing"=some (.ref cBadRing))(D_staying_o:Df P w K mg base "staying" ["n"] 2 (cSp yI))(DX_mark_ring:DfX P w K mg base "mark_ring" ["ring","seen"] 2 (JB (Av cBadRing))):DfX P w K mg base "order_by" ["n","rings_told"] 3 (JB (wI cBadRing)):=by
 refine I0 (k:=2) a wq (fun _ _ _ _ _ _=>Pn2_ fun _ _=>rfl) (fun xs M Q E h=>?_) (fun f cdv A outer s H HX OX MX E1 hr hD=>?_)
 ·obtain ⟨_,_,_,_,rfl,_⟩:=h;rfl
 have sc:=wq
 have hsl:=hsl
 refine ⟨_,(zc (zr (i:=2) sc.nd rfl (by first | exact Or.inl rfl | exact Or.inr rfl) (zu D_staying_o hr rfl (za (pv 0) zb)))
  (zc (zr (i:=3) sc.nd rfl (by first | exact Or.inl rfl | exact Or.inr rfl) (j8 (zp yz (qk (za qI zb)) (pv 0))))
  (zc (qi hD.po rfl (jq (pv 1)) (zy (i:=4) sc.nd rfl (by first | exact Or.inl rfl | exact Or.inr rfl)) (zc (qC (Fz DX_mark_ring hr rfl hD.passX (za (pv 4) (za (pv 3) zb))))
  (ze (qi hD.po rfl (xi rfl B.enumerate (za (pv 4) zb)) (jG (K:=K) 2 rfl rfl (zZ (zy (i:=5) sc.nd rfl (by first | exact Or.inl rfl | exact Or.inr rfl)) (zZ (zy (i:=6) sc.nd rfl (by first | exact Or.inl rfl | exact Or.inr rfl)) jE))) (ze (ji (pv 6) (qV (pv 2) (zJ qU (pv 4) (zp xO (pv 5) zg) (fun _ _=>rfl)) qb)))))))
  (ze (zx (pv 2)))))),?_⟩
 refine exX (by walk_at "sim") ?_
 rintro xs Q E0 rfl ⟨n,x,rl,ls,rfl,hx,hls,hn,hl,hdp,q,qe⟩
 rw [show qd ["n","rings_told","order","seen","ring","at","place"] [.d (.int n),.d x]=[some (.d (.int n)),some (.d x),none,none,none,none,none] from rfl]
 refine zo fun r hr0=>?_
 walk_at "ra"
 refine ⟨n,rfl,hn,fun p hp=>?_⟩
 subst hr0
 refine zo fun r hr0=>?_
 walk_at "ra"
 refine ⟨by walk_at "o",by walk_at "o",by walk_at "o",by walk_at "o",fun s0 hs0 hs1=>?_⟩
 subst hr0
 have e0:(List.replicate ((n:Int).toNat) [AV.d (Dat.bl false)]).flatten=blA (List.replicate n false):=by rw [Jt,Int.toNat_natCast];simp
 rw [e0]
 have hsp:s0 ≠ p:=fun z=>by rw [z,zm] at hs1;cases hs1
 have hM0:MX s0=none:=by rw [zI hsp] at hs1;exact hs1
 refine zo fun r hr0=>?_
 walk_at "ra"
 refine ⟨_,qy hx _,?_⟩
 have lls:rl.length=ls.length:=by simpa using congrArg List.length hls
 have st0:((ob0 n).2.map AV.d)=(zW 0 1 n).map fun i=>AV.d (.int i):=by unfold ob0;rw [List.map_map];rfl
 refine ⟨fun i ρ M'=>∃ (u v w:Option AV) (st:List Bool × List Dat),ρ=[some (.d (.int n)),some (.d x),some (.ref p),some (.ref s0),u,v,w]/\M'=mup (mup MX p (.lst (st.2.map .d))) s0 (.lst (blA st.1))/\qJ obs (ob0 n) (ls.take i)=some st,⟨none,none,none,ob0 n,rfl,by rw [st0];rfl,rfl⟩,?_,?_⟩
 ·rintro i y ρ M' hy ⟨u,v,w,st,rfl,rfl,hf⟩
  rw [List.getElem?_map] at hy
  cases e:rl[i]? with
  | none=>rw [e] at hy;cases hy
  | some rg=>
   rw [e] at hy
   cases hy
   obtain ⟨l,el,hsq⟩:∃ l,ls[i]?=some l/\sqD rg=some l:=by
    have:=congrArg (fun z:List (Option (List Dat))=>z[i]?) hls
    simp only [List.getElem?_map,e,Option.map_some] at this
    cases z:ls[i]? with
    | none=>rw [z] at this;cases this
    | some l=>rw [z] at this;exact ⟨l,rfl,Option.some.inj this⟩
   obtain ⟨ll,hd50⟩:=hdp l (List.mem_of_getElem? el)
   have sl:=XG (n:=n) hf ⟨by simp [ob0],by simp [ob0,zC]⟩
   refine ⟨qy hx _,?_⟩
   show kZ _ _ _ _ _ _
   refine zo fun r2 hr2=>?_
   walk_at "ra"
   refine ⟨rg,l,s0,st.1,rfl,hsq,zm,ll,hd50,by walk_at "o",fun l2 cs hcs=>?_,fun hb cs=>?_⟩
   ·subst hr2
    rw [vo]
    walk_at "ra"
    have hob:obs st l=some (cs,prn l l.length st.2):=by unfold obs;rw [if_neg (by walk_at "o"),hcs]
    have his:=JQ hcs
    refine ⟨_,qy hsq _,l,qf l,?_⟩
    refine ⟨fun j ρ M'=>∃ (v w:Option AV),ρ=[some (.d (.int n)),some (.d x),some (.ref p),some (.ref s0),some (.d rg),v,w]/\M'=mup (mup MX p (.lst ((prn l j st.2).map .d))) s0 (.lst (blA cs)),⟨_,_,rfl,rfl⟩,?_,?_⟩
    ·rintro j y ρ M' hy ⟨v,w,rfl,rfl⟩
     obtain ⟨d,hd,rfl⟩:=jV hy
     have hj:=(List.getElem?_eq_some_iff.mp hd).1
     obtain ⟨k,rfl,hk⟩:=his d (List.mem_of_getElem? hd)
     refine ⟨qy hsq _,?_⟩
     walk_at "ra"
     obtain ⟨k2,ek2,hk2⟩:∃ k2:Nat,l.getD (if j=0 then l.length - 1 else j - 1) .non=.int k2/\k2<st.1.length:=by
      have hlt:(if j=0 then l.length - 1 else j - 1)<l.length:=by split <;> walk_at "o"
      rw [List.getD_eq_getElem?_getD,List.getElem?_eq_getElem hlt]
      exact his _ (List.getElem_mem hlt)
     have a1:atI (l.map AV.d) ((j:Int) - 1)=some (.d (.int k2)):=by
      have hlt:(if j=0 then l.length - 1 else j - 1)<l.length:=by split <;> walk_at "o"
      unfold atI
      have:ixN (l.map AV.d).length ((j:Int) - 1)=some (if j=0 then l.length - 1 else j - 1):=by
       rw [List.length_map]
       by_cases c:j=0
       ·rw [if_pos c]
        unfold ixN
        rw [if_neg (by walk_at "o"),if_pos (by walk_at "o")]
        congr 1
        walk_at "o"
       ·rw [if_neg c,xK (by walk_at "o") (by walk_at "o")]
        congr 1
        walk_at "o"
      rw [this]
      show (l.map AV.d)[(if j=0 then l.length - 1 else j - 1)]?=_
      rw [List.getElem?_map,List.getElem?_eq_getElem hlt]
      rw [List.getD_eq_getElem?_getD,List.getElem?_eq_getElem hlt] at ek2
      exact congrArg (fun d=>some (AV.d d)) ek2
     refine ⟨_,qy hsq _,_,a1,_,_,rfl,by rw [zI (Ne.symm hsp),zm],k2,by rw [List.length_map,yd,xK (by walk_at "o") (by walk_at "o")];rfl,?_⟩
     rw [BQ hsp]
     congr 2
     show _=MO.lst _
     congr 1
     show _=List.map AV.d ((prn l j st.2).set _ _)
     rw [List.map_set,ek2,List.getD_eq_getElem?_getD,hd]
     rfl
    ·rintro ρ M' ⟨v,w,rfl,rfl⟩
     refine ⟨qy hsq _,?_⟩
     dsimp only
     exact ⟨⟨_,_,_,rfl⟩,(cs,prn l l.length st.2),by rw [jt],Xz hf el hob⟩
   ·refine ⟨MX,?_,qe ?_⟩
    ·rw [vo]
     exact J9 ((Fr.refl.mup hp _).mup hM0 _) .non
    ·refine Y8 hf el ?_
     unfold obs
     rcases hb with hb | hb
     ·rw [if_pos hb]
     ·split
      ·rfl
      ·rw [hb]
 ·rintro ρ M' ⟨u,v,w,st,rfl,rfl,hf⟩
  refine ⟨qy hx _,?_⟩
  subst hr0
  walk_at "ra"
  rw [List.length_map,lls,List.take_length] at hf
  refine ⟨_,_,?_,q st hf p hp⟩
  refine ⟨fun z=>?_,fun z o ez=>?_,.inl ⟨rfl,fun z ez=>by cases ez;rw [zm];exact fun z=>nomatch z⟩⟩
  ·by_cases c1:z=s0
   ·refine .inr ⟨by rw [c1];exact hM0,by rw [c1,zI hsp];exact hM0⟩
   ·exact .inl (by rw [zI c1])
  ·by_cases c1:z=p
   ·rw [c1,zm] at ez
    cases ez
    exact .inr fun r hr=>absurd hr (vp (qf st.2) r)
   ·rw [zI c1] at ez;exact .inl ez
theorem W2:∀ {l:List Int} {bs:List Bool},l.Nodup->(∀ x ∈ l,0<=x/\x<(bs.length:Int)/\bs.getD x.toNat true=false)->∃ cs,mk1 bs (l.map .int)=some cs/\cs.length=bs.length/\∀ i:Nat,i<bs.length->(cs.getD i true=false ↔ bs.getD i true=false/\(i:Int) ∉ l)
 | [],bs,_,_=>⟨bs,rfl,rfl,fun i _=>by simp⟩
 | x :: r,bs,nd,hb=>by
  obtain ⟨x0,x1,x2⟩:=hb x List.mem_cons_self
  have nd':=List.nodup_cons.mp nd
  obtain ⟨cs,h1,h2,h3⟩:=W2 (l:=r) (bs:=bs.set x.toNat true) nd'.2 fun y hy=>by
   obtain ⟨y0,y1,y2⟩:=hb y (List.mem_cons_of_mem _ hy)
   refine ⟨y0,by rw [List.length_set];exact y1,?_⟩
   have:y ≠ x:=fun e=>nd'.1 (by rw [<- e];exact hy)
   rw [List.getD_eq_getElem?_getD,List.getElem?_set_ne (by walk_at "o"),<- List.getD_eq_getElem?_getD];exact y2
  refine ⟨cs,?_,by rw [h2,List.length_set],fun i hi=>?_⟩
  ·show (match mk0 bs (.int x) with | some cs=>mk1 cs (r.map .int) | none=>none)=some cs
   have:mk0 bs (.int x)=some (bs.set x.toNat true):=by unfold mk0;dsimp only;rw [if_pos ⟨x0,x1,x2⟩]
   rw [this];exact h1
  ·rw [h3 i (by rw [List.length_set];exact hi)]
   by_cases c:x.toNat=i
   ·have e:(bs.set x.toNat true).getD i true=true:=by rw [List.getD_eq_getElem?_getD,c,List.getElem?_set_self hi];rfl
    have m:(i:Int) ∈ x :: r:=by rw [show (i:Int)=x by walk_at "o"];exact List.mem_cons_self
    rw [e]
    exact ⟨fun z=>absurd z.1 (by decide),fun z=>absurd m z.2⟩
   ·have e:(bs.set x.toNat true).getD i true=bs.getD i true:=by rw [List.getD_eq_getElem?_getD,List.getElem?_set_ne c,<- List.getD_eq_getElem?_getD]
    rw [e]
    refine and_congr_right fun _=>?_
    rw [List.mem_cons,not_or]
    exact ⟨fun z=>⟨fun y=>c (by walk_at "o"),z⟩,fun z=>z.2⟩
theorem yF {l:List Int}{i:Nat}(h:i<l.length):(l.map Dat.int).getD i .non=.int (l.getD i 0):=by
 rw [List.getD_eq_getElem?_getD,List.getElem?_map,List.getElem?_eq_getElem h,List.getD_eq_getElem?_getD,List.getElem?_eq_getElem h];rfl
theorem XF {n:Nat}{os:List Int}{l:List Int}(hl:2<=l.length)(hb:∀ x ∈ l,0<=x/\x<(n:Int))(nx:∀ k,k<l.length->os.getD (l.getD k 0).toNat 0=l.getD ((k+1) % l.length) 0){os':List Dat}(ho:os'.length=n) :
  ∀ j,j<=l.length->∀ x:Nat,x<n->(prn (l.map .int) j os').getD x .non=if (∃ k,k<j/\l.getD (if k=0 then l.length - 1 else k - 1) 0=(x:Int)) then .int (os.getD x 0) else os'.getD x .non
 | 0,_,x,_=>by rw [if_neg (by rintro ⟨k,hk,_⟩;walk_at "o")];rfl
 | j+1,hj,x,hx=>by
  have ih:=XF hl hb nx ho j (by walk_at "o") x hx
  have pl:(if j=0 then l.length - 1 else j - 1)<l.length:=by split <;> walk_at "o"
  have gi:=hb _ (List.getElem_mem pl)
  have ge:l.getD (if j=0 then l.length - 1 else j - 1) 0=l[(if j=0 then l.length - 1 else j - 1)]:=by rw [List.getD_eq_getElem?_getD,List.getElem?_eq_getElem pl];rfl
  rw [<- ge] at gi
  unfold prn
  rw [List.length_map,yF pl,yF (by walk_at "o")]
  show ((prn (l.map .int) j os').set (l.getD (if j=0 then l.length - 1 else j - 1) 0).toNat _).getD x .non=_
  by_cases c:l.getD (if j=0 then l.length - 1 else j - 1) 0=(x:Int)
  ·rw [if_pos (show ∃ k,k<j+1/\l.getD (if k=0 then l.length - 1 else k - 1) 0=(x:Int) from ⟨j,by walk_at "o",c⟩),c,Int.toNat_natCast,List.getD_eq_getElem?_getD,List.getElem?_set_self (by rw [yd,ho];exact hx)]
   have:=nx _ pl
   rw [c,Int.toNat_natCast] at this
   have em:((if j=0 then l.length - 1 else j - 1)+1) % l.length=j:=by
    by_cases z:j=0
    ·rw [if_pos z,z,Nat.sub_add_cancel (by walk_at "o"),Nat.mod_self]
    ·rw [if_neg z,Nat.sub_add_cancel (by walk_at "o"),Nat.mod_eq_of_lt (by walk_at "o")]
   rw [em] at this
   rw [this];rfl
  ·rw [List.getD_eq_getElem?_getD,List.getElem?_set_ne (by walk_at "o"),<- List.getD_eq_getElem?_getD,ih]
   by_cases c2:∃ k,k<j/\l.getD (if k=0 then l.length - 1 else k - 1) 0=(x:Int)
   ·rw [if_pos c2,if_pos (let ⟨k,h1,h2⟩:=c2;⟨k,by walk_at "o",h2⟩)]
   ·rw [if_neg c2,if_neg]
    rintro ⟨k,h1,h2⟩
    by_cases e:k=j
    ·subst e;exact c h2
    ·exact c2 ⟨k,by walk_at "o",h2⟩
theorem XR {l:List Int}(hl:2<=l.length)(x:Nat):(∃ k,k<l.length/\l.getD (if k=0 then l.length - 1 else k - 1) 0=(x:Int)) ↔ (x:Int) ∈ l:=by
 constructor
 ·rintro ⟨k,hk,e⟩
  have pl:(if k=0 then l.length - 1 else k - 1)<l.length:=by split <;> walk_at "o"
  rw [List.getD_eq_getElem?_getD,List.getElem?_eq_getElem pl] at e
  rw [<- e];exact List.getElem_mem pl
 ·intro h
  obtain ⟨i,hi,e⟩:=List.getElem_of_mem h
  refine ⟨(i+1) % l.length,Nat.mod_lt _ (by walk_at "o"),?_⟩
  have:(if (i+1) % l.length=0 then l.length - 1 else (i+1) % l.length - 1)=i:=by
   by_cases c:i+1=l.length
   ·rw [c,Nat.mod_self,if_pos rfl];walk_at "o"
   ·rw [Nat.mod_eq_of_lt (by walk_at "o"),if_neg (by walk_at "o")];walk_at "o"
  rw [this,List.getD_eq_getElem?_getD,List.getElem?_eq_getElem hi];exact e
noncomputable abbrev dIs (rs:List (List Int)):List (List Dat):=rs.map fun r=>r.map .int
theorem XQ {n:Nat}{os:List Int}:∀ {rs:List (List Int)} {bs:List Bool} {o:List Dat} {D:List Int},bs.length=n->o.length=n->(∀ r ∈ rs,2<=r.length)->(∀ r ∈ rs,∀ x ∈ r,0<=x/\x<(n:Int))->(∀ r ∈ rs,∀ k,k<r.length->os.getD (r.getD k 0).toNat 0=r.getD ((k+1) % r.length) 0)->(D ++ rs.flatten).Nodup ->
  (∀ i:Nat,i<n->(bs.getD i true=false ↔ (i:Int) ∉ D))->(∀ x:Nat,x<n->o.getD x .non=if (x:Int) ∈ D then .int (os.getD x 0) else .int x) ->
  ∃ st,qJ obs (bs,o) (dIs rs)=some st/\st.2.length=n/\∀ x:Nat,x<n->st.2.getD x .non=if (x:Int) ∈ D ++ rs.flatten then .int (os.getD x 0) else .int x
 | [],bs,o,D,hb,ho,_,_,_,_,_,h2=>⟨(bs,o),rfl,ho,fun x hx=>by rw [List.flatten_nil,List.append_nil];exact h2 x hx⟩
 | r :: rs,bs,o,D,hb,ho,hl,hbd,hnx,nd,h1,h2=>by
  have hl0:=hl r List.mem_cons_self
  have hbd0:=hbd r List.mem_cons_self
  have hnx0:=hnx r List.mem_cons_self
  rw [List.flatten_cons,<- List.append_assoc] at nd
  have nd1:=(List.nodup_append.mp nd).1
  have ndr:=(List.nodup_append.mp nd1).2.1
  have dj:=(List.nodup_append.mp nd1).2.2
  obtain ⟨cs,c1,c2,c3⟩:=W2 (l:=r) (bs:=bs) ndr fun x hx=>by
   have:=hbd0 x hx
   refine ⟨this.1,by walk_at "o",?_⟩
   refine (h1 x.toNat (by walk_at "o")).mpr fun z=>?_
   rw [Int.toNat_of_nonneg this.1] at z
   exact dj x z x hx rfl
  obtain ⟨st,e1,e2,e3⟩:=XQ (rs:=rs) (bs:=cs) (o:=prn (r.map .int) (r.map Dat.int).length o) (D:=D ++ r) (by walk_at "o") (by rw [yd];exact ho) (fun r' hr'=>hl r' (List.mem_cons_of_mem _ hr')) (fun r' hr'=>hbd r' (List.mem_cons_of_mem _ hr')) (fun r' hr'=>hnx r' (List.mem_cons_of_mem _ hr')) nd
   (fun i hi=>by rw [c3 i (by walk_at "o"),h1 i hi,List.mem_append,not_or])
   (fun x hx=>by
    rw [List.length_map,XF (os:=os) hl0 hbd0 hnx0 ho _ (Nat.le_refl _) x hx]
    by_cases c:(x:Int) ∈ r
    ·rw [if_pos ((XR hl0 x).mpr c),if_pos (List.mem_append_right _ c)]
    ·rw [if_neg (fun z=>c ((XR hl0 x).mp z)),h2 x hx]
     by_cases d:(x:Int) ∈ D
     ·rw [if_pos d,if_pos (List.mem_append_left _ d)]
     ·rw [if_neg d,if_neg (fun z=>(List.mem_append.mp z).elim d c)])
  refine ⟨st,?_,e2,fun x hx=>?_⟩
  ·have:obs (bs,o) (r.map .int)=some (cs,prn (r.map .int) (r.map Dat.int).length o):=by unfold obs;rw [if_neg (by rw [List.length_map];walk_at "o"),c1]
   rw [show dIs (r :: rs)=r.map .int :: dIs rs from rfl]
   unfold qJ
   rw [this];exact e1
  ·rw [e3 x hx,List.flatten_cons,List.append_assoc]
theorem EG {n:Nat}{os:List Int}{rs:List (List Int)}(h:zd n os)(g:Yv n os rs):∃ st,qJ obs (ob0 n) (dIs rs)=some st/\st.2=os.map .int:=by
 obtain ⟨st,e1,e2,e3⟩:=XQ (n:=n) (os:=os) (rs:=rs) (bs:=List.replicate n false) (o:=(zW 0 1 n).map .int) (D:=[]) (by simp) (by rw [List.length_map,zC]) (fun r hr=>(g.len r hr).1) g.bd g.nx (by rw [List.nil_append];exact g.nd)
  (fun i hi=>by rw [List.getD_eq_getElem?_getD,List.getElem?_replicate,if_pos hi];simp)
  (fun x hx=>by rw [if_neg (by simp),yF (by rw [zC];exact hx),qa n hx])
 refine ⟨st,e1,?_⟩
 refine List.ext_getElem (by rw [e2,List.length_map,h.1]) fun x h1 h2=>?_
 have:=e3 x (by walk_at "o")
 rw [List.nil_append,List.getD_eq_getElem?_getD,List.getElem?_eq_getElem h1] at this
 have this:st.2[x]=_:=this
 rw [this,List.getElem_map]
 have eo:os.getD x 0=os[x]'(by rw [h.1];walk_at "o"):=by rw [List.getD_eq_getElem?_getD,List.getElem?_eq_getElem (by rw [h.1];walk_at "o")];rfl
 by_cases c:(x:Int) ∈ rs.flatten
 ·rw [if_pos c,eo]
 ·rw [if_neg c,<- eo,g.st x (by walk_at "o") c]
theorem W4 {n:Nat}{os:List Int}(h:zd n os){i:Nat}(hi:i<n):qF os (i:Int) (wkM os (i:Int)) (wkE os (i:Int)):=by
 obtain ⟨m,e,hw,_⟩:=vg h (p:=(i:Int)) (by walk_at "o") (by walk_at "o")
 rw [hw.wkM,hw.wkE];exact hw
theorem vT {n:Nat}{os:List Int}(h:zd n os){i:Nat}(hi:i<n)(hL:qN os i):jw os (i:Int) (wkM os (i:Int)):=(W4 h hi).per ((ju h hi).mpr hL)
theorem JG {n:Nat}{os:List Int}(h:zd n os){i:Nat}(hi:i<n)(hL:qN os i):wkM os (i:Int)=per os (i:Int):=(vT h hi hL).per.symm
theorem yj {n:Nat}{os:List Int}(h:zd n os)(mk:Nat){x:Int}:∀ {i:Nat},i<=n->(Mkd os mk i x ↔ qx os i x/\x<(mk:Int))
 | 0,_=>⟨fun z=>z.elim,fun ⟨⟨q,hq,_⟩,_⟩=>by walk_at "o"⟩
 | i+1,hi=>by
  have ih:=yj h mk (x:=x) (i:=i) (by walk_at "o")
  have ii:=yj h mk (x:=(i:Int)) (i:=i) (by walk_at "o")
  show Mkd os mk i x \/ (¬ Mkd os mk i (i:Int)/\wkE os (i:Int)=(i:Int)/\Rch os (i:Int) x/\x<(mk:Int)) ↔ _
  rw [ih,ii,ju h (by walk_at "o"),jz]
  by_cases hs:qx os i (i:Int)
  ·rw [qx.step h (by walk_at "o") hs]
   constructor
   ·rintro (z | z)
    ·exact z
    ·exact absurd hs z.2.1
   ·exact .inl
  ·rw [qx.succ]
   constructor
   ·rintro (z | z)
    ·exact ⟨.inl z.1,z.2⟩
    ·exact ⟨.inr z.2.2.1,z.2.2.2⟩
   ·rintro ⟨z | z,y⟩
    ·exact .inl ⟨z,y⟩
    ·exact .inr ⟨fun w=>hs w.1,hs,z,y⟩
theorem BP {n:Nat}{os:List Int}(h:zd n os)(mk:Nat){i:Nat}(hi:i<n)(hL:qN os i):cnt os mk i=(wkM os (i:Int):Nat):=by
 unfold L2.cnt
 rw [if_neg (fun z=>jz.mp hL ((yj h mk (by walk_at "o")).mp z).1)]
theorem Lr {n:Nat}{os:List Int}(h:zd n os){mk:Nat}{i:Nat}(hi:i<n)(hm:mk<=i):cnt os mk i=(wkM os (i:Int):Nat):=by
 unfold L2.cnt
 rw [if_neg (fun z=>by have:=((yj h mk (by walk_at "o")).mp z).2;walk_at "o")]
theorem GZ {n:Nat}{os:List Int}(h:zd n os){mk:Nat}{i:Nat}(hi:i<n)(hm:i<mk)(hL:¬ qN os i):cnt os mk i=0:=by
 unfold L2.cnt
 rw [if_pos ((yj h mk (by walk_at "o")).mpr ⟨Classical.byContradiction fun z=>hL (jz.mpr z),by walk_at "o"⟩)]
theorem Dr (l:List Int)(x:Int):(l ++ [x]).sum=l.sum+x:=by rw [List.sum_append];simp
theorem QN {n:Nat}{os:List Int}(h:zd n os):∀ k,k<=n->(xw os n k).sum+xv os k=(kC (zh os k):Int)+k
 | 0,_=>by simp [xw,xv,zh,kC]
 | k+1,hk=>by
  have ih:=QN h k (by walk_at "o")
  rw [yo,Dr]
  have ho:xv os (k+1)=xv os k+if os.getD k 0=(k:Int) then 0 else 1:=by
   unfold xv
   rw [List.range_succ,List.filter_append,List.length_append]
   by_cases c:os.getD k 0=(k:Int)
   ·rw [if_pos c,List.filter_cons_of_neg (by rw [decide_eq_true c];decide)];rfl
   ·rw [if_neg c,List.filter_cons_of_pos (by rw [decide_eq_false c];rfl)];rfl
  rw [ho]
  have fi:=ZC h (i:=k) (by walk_at "o")
  show _=((kC (zh os k ++ _):Nat):Int)+_
  rw [Jp]
  by_cases hL:qN os k
  ·rw [BP h n (by walk_at "o") hL,JG h (by walk_at "o") hL]
   by_cases c:os.getD k 0=(k:Int)
   ·have p1:¬ 1<per os (k:Int):=fun z=>fi.mp z c
    have p0:=(vT h (by walk_at "o") hL).1
    rw [JG h (by walk_at "o") hL] at p0
    rw [if_pos c,if_neg (show ¬ (qN os k/\1<per os (k:Int)) from fun z=>p1 z.2)]
    have:kC []=0:=rfl
    push_cast
    walk_at "o"
   ·have p1:=fi.mpr c
    have hlen:(zt os (k:Int)).length=per os (k:Int):=by unfold zt;rw [qj]
    rw [if_neg c,if_pos (show qN os k/\1<per os (k:Int) from ⟨hL,p1⟩)]
    have:kC [zt os (k:Int)]=per os (k:Int):=by unfold kC;simp [hlen]
    push_cast
    walk_at "o"
  ·rw [GZ h (by walk_at "o") (by walk_at "o") hL,if_neg (show ¬ (qN os k/\1<per os (k:Int)) from fun z=>hL z.1)]
   have c:¬ os.getD k 0=(k:Int):=by
    obtain ⟨q,hq,r⟩:∃ q:Nat,q<k/\Rch os (q:Int) (k:Int):=Classical.byContradiction fun z=>hL fun q hq r=>z ⟨q,hq,r⟩
    intro e
    obtain ⟨j,hj⟩:=r.symm h (by walk_at "o") (by walk_at "o")
    have fx:∀ j,itn os j (k:Int)=(k:Int):=fun j=>by
     induction j with
     | zero=>rfl
     | succ j ih=>show os.getD (itn os j (k:Int)).toNat 0=_;rw [ih,Int.toNat_natCast];exact e
    rw [fx] at hj
    walk_at "o"
   rw [if_neg c]
   have:kC []=0:=rfl
   push_cast
   walk_at "o"
theorem Wi {n:Nat}{os:List Int}(h:zd n os):(xw os n n).sum=(n:Int):=by
 have:=QN h n (Nat.le_refl _)
 rw [Kb h] at this
 walk_at "o"
theorem QE {n:Nat}{os bs:List Int}(h:zd n os)(hb:zV os bs):∀ k,k<=n->ldL bs k=ldL os k
 | 0,_=>rfl
 | k+1,hk=>by
  have e1:=Vu h hb (i:=k) (by walk_at "o")
  have e2:=WG h hb (i:=k) (by walk_at "o")
  show ldL bs k ++ _=ldL os k ++ _
  rw [QE h hb k (by walk_at "o")]
  congr 1
  have:(¬ (k:Int)=bs.getD k 0/\wkE bs (k:Int)=(k:Int)) ↔ (¬ (k:Int)=os.getD k 0/\wkE os (k:Int)=(k:Int)):=by
   rw [ju (hb.ord h) (by walk_at "o"),ju h (by walk_at "o"),e1,show ((k:Int)=bs.getD k 0) ↔ ((k:Int)=os.getD k 0) from ⟨fun z=>(e2.mp z.symm).symm,fun z=>(e2.mpr z.symm).symm⟩]
  simp only [this]
open Classical in
noncomputable def jQ (os:List Int)(n:Nat):List Int:=((List.range n).filter fun (i:Nat)=>!decide (os.getD i 0=(i:Int))).map fun (i:Nat)=>(i:Int)
theorem QR {os:List Int}{n:Nat}{x:Int}:x ∈ jQ os n ↔ ∃ i:Nat,x=(i:Int)/\i<n/\os.getD i 0 ≠ (i:Int):=by
 unfold jQ
 rw [List.mem_map]
 constructor
 ·rintro ⟨i,hi,rfl⟩
  obtain ⟨h1,h2⟩:=List.mem_filter.mp hi
  exact ⟨i,rfl,List.mem_range.mp h1,by simpa using h2⟩
 ·rintro ⟨i,rfl,h1,h2⟩
  exact ⟨i,List.mem_filter.mpr ⟨List.mem_range.mpr h1,by simpa using h2⟩,rfl⟩
theorem XN (os:List Int)(n:Nat):(jQ os n).Pairwise (·<·):=by
 unfold jQ
 refine List.pairwise_map.mpr ?_
 exact (List.Pairwise.filter _ List.pairwise_lt_range).imp fun h=>Int.ofNat_lt.mpr h
theorem Fv {l:List Int}(h:l.Nodup){i j:Nat}(hi:i<l.length)(hj:j<l.length)(e:l.getD i 0=l.getD j 0):i=j:=by
 rw [List.getD_eq_getElem?_getD,List.getD_eq_getElem?_getD,List.getElem?_eq_getElem hi,List.getElem?_eq_getElem hj] at e
 exact (List.getElem_inj h).mp e
theorem X9 {n:Nat}{os:List Int}(h:zd n os){r:List Int}(hr:r ∈ zh os n):r.Nodup:=by
 obtain ⟨k,hk,_,_,rfl⟩:=vb hr
 exact Zn h hk
theorem wZ {n:Nat}{os:List Int}(h:zd n os):(zh os n).flatten.Perm (jQ os n):=by
 have G:=xN h
 refine (List.perm_ext_iff_of_nodup G.nd ((XN os n).imp fun z=>Int.ne_of_lt z)).mpr fun x=>⟨fun hx=>?_,fun hx=>?_⟩
 ·obtain ⟨r,hr,hxr⟩:=List.mem_flatten.mp hx
  obtain ⟨b0,b1⟩:=G.bd r hr x hxr
  obtain ⟨k,hk⟩:=List.getElem?_of_mem hxr
  have hl:=(List.getElem?_eq_some_iff.mp hk).1
  have e:r.getD k 0=x:=by rw [List.getD_eq_getElem?_getD,hk];rfl
  have nx:=G.nx r hr k hl
  have l2:=(G.len r hr).1
  rw [e] at nx
  refine QR.mpr ⟨x.toNat,by walk_at "o",by walk_at "o",fun z=>?_⟩
  rw [nx,show ((x.toNat:Nat):Int)=x by walk_at "o",<- e] at z
  have:=Fv (X9 h hr) (Nat.mod_lt _ (by walk_at "o")) hl z
  by_cases c:k+1=r.length
  ·rw [c,Nat.mod_self] at this;walk_at "o"
  ·rw [Nat.mod_eq_of_lt (by walk_at "o")] at this;walk_at "o"
 ·obtain ⟨i,rfl,hi,ne⟩:=QR.mp hx
  exact Classical.byContradiction fun z=>ne (G.st i hi z)
theorem Wc {a b:List Int}(p:a.Perm b)(h1:a.Pairwise (·<=·))(h2:b.Pairwise (·<=·)):a=b:=p.eq_of_pairwise (fun _ _ _ _ x y=>Int.le_antisymm x y) h1 h2
noncomputable def VF:Dd->Bool
 | .take _=>true
 | _=>false
noncomputable def K3:Dd->Bool
 | .lay _=>true
 | _=>false
noncomputable def Bc:Dd->Int
 | .take p=>(p:Int)
 | _=>0
theorem FA:∀ (ps:List Nat) (g:Nat),(mvP g ps).filter VF=[]/\(mvP g ps).filter K3=[]
 | [],_=>⟨rfl,rfl⟩
 | p :: ps,g=>FA ps p
theorem Fg (c:List Nat):((jo c).filter VF).map Bc=[((c.getD 0 0:Nat):Int)]/\((jo c).filter K3).length=1:=by
 unfold jo
 obtain ⟨h1,h2⟩:=FA (c.drop 1).reverse (c.getD 0 0)
 rw [List.cons_append,List.filter_cons,List.filter_cons,List.filter_append,List.filter_append,h1,h2]
 exact ⟨rfl,rfl⟩
theorem II {r:List Int}(h:∀ x ∈ r,0<=x)(hl:1<=r.length):(((r.map Int.toNat).getD 0 0:Nat):Int)=r.getD 0 0:=by
 cases r with
 | nil=>simp at hl
 | cons x r=>have:=h x (List.mem_cons_self ..);show ((x.toNat:Nat):Int)=x;walk_at "o"
theorem Zm:∀ (rs:List (List Int)),(∀ r ∈ rs,(∀ x ∈ r,0<=x)/\1<=r.length)->(((rs.map fun r=>jo (r.map Int.toNat)).flatten).filter VF).map Bc=rs.map (fun r=>r.getD 0 0)/\(((rs.map fun r=>jo (r.map Int.toNat)).flatten).filter K3).length=rs.length
 | [],_=>⟨rfl,rfl⟩
 | r :: rs,h=>by
  obtain ⟨i1,i2⟩:=Zm rs fun q hq=>h q (List.mem_cons_of_mem _ hq)
  obtain ⟨a1,a2⟩:=h r (List.mem_cons_self ..)
  obtain ⟨t1,t2⟩:=Fg (r.map Int.toNat)
  rw [List.map_cons,List.flatten_cons,List.filter_append,List.filter_append,List.map_append,List.length_append,t1,t2,i1,i2,II a1 a2,List.map_cons,List.length_cons]
  exact ⟨rfl,by walk_at "o"⟩
noncomputable def unO (n:Nat)(os o2:List Int):List Int:=os ++ o2.map fun x=>(n:Int)+x
section
variable {n m:Nat}{os o2:List Int}
theorem Ia (h:zd n os)(g:zd m o2):zd (n+m) (unO n os o2):=by
 obtain ⟨h1,h2,h3⟩:=h
 obtain ⟨g1,g2,g3⟩:=g
 unfold unO
 refine ⟨by rw [List.length_append,List.length_map,h1,g1],List.nodup_append.mpr ⟨h2,?_,fun a ha b hb e=>?_⟩,fun x hx=>?_⟩
 ·exact List.Pairwise.map _ (fun a b (z:a ≠ b) w=>z (by walk_at "o")) g2
 ·obtain ⟨y,hy,rfl⟩:=List.mem_map.mp hb
  have:=h3 a ha;have:=g3 y hy;walk_at "o"
 ·rcases List.mem_append.mp hx with hx | hx
  ·have:=h3 x hx;walk_at "o"
  ·obtain ⟨y,hy,rfl⟩:=List.mem_map.mp hx
   have:=g3 y hy;walk_at "o"
theorem Ah (h:zd n os){p:Int}(p0:0<=p)(p1:p<n):nxt (unO n os o2) p=nxt os p:=by
 have h1:=h.1
 unfold nxt unO
 rw [List.getD_eq_getElem?_getD,List.getD_eq_getElem?_getD,List.getElem?_append_left (by walk_at "o")]
theorem Wj (h:zd n os)(g:zd m o2){p:Int}(p0:0<=p)(p1:p<m):nxt (unO n os o2) ((n:Int)+p)=(n:Int)+nxt o2 p:=by
 have h1:=h.1
 have g1:=g.1
 unfold nxt unO
 rw [List.getD_eq_getElem?_getD,List.getD_eq_getElem?_getD,List.getElem?_append_right (by walk_at "o"),show ((n:Int)+p).toNat - os.length=p.toNat by walk_at "o",List.getElem?_map,List.getElem?_eq_getElem (show p.toNat<o2.length by walk_at "o")]
 rfl
theorem Bf (h:zd n os){p:Int}(p0:0<=p)(p1:p<n):∀ t,itn (unO n os o2) t p=itn os t p
 | 0=>rfl
 | t+1=>by
  show nxt _ (itn (unO n os o2) t p)=nxt os (itn os t p)
  rw [Bf h p0 p1 t,Ah h (qc h p0 p1 t).1 (qc h p0 p1 t).2]
theorem Aw (h:zd n os)(g:zd m o2){p:Int}(p0:0<=p)(p1:p<m):∀ t,itn (unO n os o2) t ((n:Int)+p)=(n:Int)+itn o2 t p
 | 0=>rfl
 | t+1=>by
  show nxt _ (itn (unO n os o2) t ((n:Int)+p))=(n:Int)+nxt o2 (itn o2 t p)
  rw [Aw h g p0 p1 t,Wj h g (qc g p0 p1 t).1 (qc g p0 p1 t).2]
theorem Wd (h:zd n os){i:Nat}(hi:i<n):wkM (unO n os o2) (i:Int)=wkM os (i:Int)/\wkE (unO n os o2) (i:Int)=wkE os (i:Int):=by
 obtain ⟨a,b,c,d⟩:=W4 h hi
 have it:=Bf (o2:=o2) h (p:=(i:Int)) (by walk_at "o") (by walk_at "o")
 have W:qF (unO n os o2) (i:Int) (wkM os (i:Int)) (wkE os (i:Int)):=⟨a,by rw [it];exact b,c,fun j j1 j2=>by rw [it];exact d j j1 j2⟩
 exact ⟨W.wkM,W.wkE⟩
theorem BE (h:zd n os)(g:zd m o2){i:Nat}(hi:i<m):wkM (unO n os o2) ((n:Int)+(i:Int))=wkM o2 (i:Int)/\wkE (unO n os o2) ((n:Int)+(i:Int))=(n:Int)+wkE o2 (i:Int):=by
 obtain ⟨a,b,c,d⟩:=W4 g hi
 have it:=Aw h g (p:=(i:Int)) (by walk_at "o") (by walk_at "o")
 have W:qF (unO n os o2) ((n:Int)+(i:Int)) (wkM o2 (i:Int)) ((n:Int)+wkE o2 (i:Int)):=⟨a,by rw [it,<- b],by walk_at "o",fun j j1 j2=>by rw [it];have:=d j j1 j2;walk_at "o"⟩
 exact ⟨W.wkM,W.wkE⟩
theorem Ge (h:zd n os)(g:zd m o2):wkL (unO n os o2) (n+m)=wkL os n ++ wkL o2 m:=by
 unfold wkL
 rw [List.range_add,List.map_append,List.map_map]
 congr 1
 ·exact List.map_congr_left fun i hi=>by rw [(Wd h (List.mem_range.mp hi)).1]
 ·refine List.map_congr_left fun i hi=>?_
  have:=(BE h g (List.mem_range.mp hi)).1
  show ((wkM _ ((n+i:Nat):Int):Nat):Int)=_
  rw [Int.natCast_add,this]
theorem Wh (h:zd n os):∀ k,k<=n->ldL (unO n os o2) k=ldL os k
 | 0,_=>rfl
 | k+1,hk=>by
  show ldL (unO n os o2) k ++ _=ldL os k ++ _
  have e:(unO n os o2).getD k 0=os.getD k 0:=by have:=Ah (o2:=o2) h (p:=(k:Int)) (by walk_at "o") (by walk_at "o");unfold nxt at this;rwa [Int.toNat_natCast] at this
  rw [Wh h k (by walk_at "o"),e,(Wd h (by walk_at "o")).2]
theorem A0 (h:zd n os)(g:zd m o2):∀ k,k<=m->ldL (unO n os o2) (n+k)=ldL os n ++ (ldL o2 k).map fun x=>(n:Int)+x
 | 0,_=>by rw [Nat.add_zero,Wh h n (Nat.le_refl _)];simp [ldL]
 | k+1,hk=>by
  show ldL (unO n os o2) (n+k) ++ (if ¬ ((n+k:Nat):Int)=(unO n os o2).getD (n+k) 0/\wkE (unO n os o2) ((n+k:Nat):Int)=((n+k:Nat):Int) then [((n+k:Nat):Int)] else [])=ldL os n ++ (ldL o2 k ++ if ¬ (k:Int)=o2.getD k 0/\wkE o2 (k:Int)=(k:Int) then [(k:Int)] else []).map fun x=>(n:Int)+x
  have e:(unO n os o2).getD (n+k) 0=(n:Int)+o2.getD k 0:=by
   have:=Wj h g (p:=(k:Int)) (by walk_at "o") (by walk_at "o")
   unfold nxt at this
   rwa [show ((n:Int)+(k:Int)).toNat=n+k by walk_at "o",Int.toNat_natCast] at this
  rw [A0 h g k (by walk_at "o"),e,Int.natCast_add,(BE h g (by walk_at "o")).2,List.map_append,List.append_assoc]
  congr 2
  by_cases c:¬ (k:Int)=o2.getD k 0/\wkE o2 (k:Int)=(k:Int)
  ·rw [if_pos c,if_pos ⟨fun z=>c.1 (by walk_at "o"),by rw [c.2]⟩];rfl
  ·rw [if_neg c,if_neg fun z=>c ⟨fun w=>z.1 (by walk_at "o"),by have:=z.2;walk_at "o"⟩];rfl
end
theorem Z0 {n:Nat}{os:List Int}(h:zd n os):ldL os n=jC os n:=by
 rw [<- YF h n (Nat.le_refl _)]
 unfold hds jC
 rw [yT]
noncomputable def Pu (M0 M:MH):Prop:=∀ q o,M q=some o->M0 q=some o \/ ∀ r,¬ vF r o
theorem Pu.refl {M:MH}:Pu M M:=fun _ _ h=>.inl h
theorem Pu.mup {M0 M:MH}(h:Pu M0 M)(p:Addr)(l:List Dat):Pu M0 (mup M p (.lst (l.map .d))):=fun q o e=>by
 by_cases c:q=p
 ·rw [c,zm] at e
  cases e
  exact .inr fun r hr=>vp (qf l) r hr
 ·rw [zI c] at e;exact h q o e
theorem Pu.mdel {M0 M:MH}(h:Pu M0 M)(p:Addr):Pu M0 (mdel M p):=fun q o e=>by
 by_cases c:q=p
 ·rw [c,yw] at e;cases e
 ·rw [ja c] at e;exact h q o e
theorem Pu.box {M0 M M':MH}(h:Pu M0 M){b:Addr}{o:MO}(e:M'=L2.mup M b o){N:Nat}(hb:BxM M' b N):Pu M0 M':=by
 obtain ⟨x,y,z,h1,_⟩:=hb
 subst e
 rw [zm] at h1
 cases h1
 exact h.mup b ([x,y,z].map .int)
theorem Pu.bx {M0 M M':MH}(h:Pu M0 M){b:Addr}{N:Nat}(s:BxS M M' b N):Pu M0 M':=by
 obtain ⟨hb,o,e⟩:=s
 exact h.box e hb
noncomputable def Fw:ASp:=fun xs M Q=>∃ (n:Nat) (os:List Int),xs=[.d (ilD os),.d (ilD (jC os n))]/\zd n os/\n<=1000/\Q (.d (.lst ((zh os n).map ilD))) M
noncomputable abbrev vQ:Stmt:=top 43
theorem Zh:zw ["_law_order_here","_law_led","_law_found","_law_leader","_law_ring","_law_here"] ["_law_order_here","_law_led"] (zi vQ):=⟨rfl,rfl,rfl,by decide +kernel,rfl,by decide +kernel,by decide +kernel⟩
theorem Vf (a:At K mg "_law_gone" vQ)(B:Blt mg):Df P w K mg base "_law_gone" ["_law_order_here","_law_led"] 1 (cSp Fw):=by
 refine dfA (k:=0) a Zh (fun _ _ _ _ _ _=>Pn2_ fun _ _=>rfl) (fun xs M Q h=>?_) (fun f cdv A outer s H E hr=>?_)
 ·obtain ⟨_,_,rfl,_⟩:=h;rfl
 have sc:=Zh
 have hsl:=hsl
 refine ⟨_,(zc (zr (i:=2) sc.nd rfl (by first | exact Or.inl rfl | exact Or.inr rfl) (j8 (qk zb)))
  (zc (qi PassesOwn.never rfl (jq (pv 1)) (zy (i:=3) sc.nd rfl (by first | exact Or.inl rfl | exact Or.inr rfl)) (zc (KO (i:=4) (j:=5) rfl sc.nd rfl rfl (by decide) rfl rfl (za (j8 (qk (za (pv 3) zb))) (za (zJ qU (pv 0) (pv 3) (fun _ _=>rfl)) zb)) rfl)
  (zc (xa PassesOwn.never (PW.pt (Kj (zB (qW hr.units) (pv 5) (pv 3) (zD _)) (Qi (zB FX (zn zl rfl B.len zM (za (pv 4) zb)) (zn zl rfl B.len zM (za (pv 0) zb)) (zD _))))) (zc (qC (ky PySem.F.plainAttrs_list PySem.F.slot_list_append PySem.F.type_list_append qL (pv 4) (za (pv 5) zb)))
  (ze (zr (i:=5) sc.nd rfl (by first | exact Or.inl rfl | exact Or.inr rfl) (zJ qU (pv 0) (pv 5) (fun _ _=>rfl))))))
  (Yc 4 (ze (qC (ky PySem.F.plainAttrs_list PySem.F.slot_list_append PySem.F.type_list_append qL (pv 2) (za (pv 4) zb))))))))
  (ze (zx (pv 2))))),?_⟩
 refine ex2 (by walk_at "sim") ?_
 rintro xs M Q ⟨n,os,rfl,ho,hn,q⟩
 rw [show qd ["_law_order_here","_law_led","_law_found","_law_leader","_law_ring","_law_here"] [.d (ilD os),.d (ilD (jC os n))]=[some (.d (ilD os)),some (.d (ilD (jC os n))),none,none,none,none] from rfl]
 refine zo fun r hr0=>?_
 walk_at "ra"
 intro f _ hf
 subst hr0
 refine zo fun r hr0=>?_
 have lr:=qz os n
 have l1:=ho.1
 have G:=xN ho
 walk_at "ra"
 refine ⟨fun i ρ M'=>Fr M M'/\Pu (mup M f (.lst [])) M'/\M' f=some (.lst ((((zh os n).take i).map ilD).map .d))/\∃ a b c,ρ=[some (.d (ilD os)),some (.d (ilD (jC os n))),some (.ref f),a,b,c],⟨Fr.refl.mup hf _,Pu.refl,zm,_,_,_,rfl⟩,?_,?_⟩
 ·rintro i y ρ M1 hy ⟨fr,pu,hl,a,b,c,rfl⟩
  unfold jC at hy
  rw [List.getElem?_map,List.getElem?_map] at hy
  cases e:(zh os n)[i]? with
  | none=>rw [e] at hy;cases hy
  | some g=>
   rw [e] at hy
   cases hy
   have hi:=(List.getElem?_eq_some_iff.mp e).1
   have hg:=List.mem_of_getElem? e
   obtain ⟨g2,gn⟩:=G.len g hg
   have bd:=G.bd g hg
   have at_:∀ k,k<g.length->∃ z:Nat,g.getD k 0=(z:Int)/\z<n:=fun k hk=>by
    have hm:g.getD k 0 ∈ g:=by rw [List.getD_eq_getElem?_getD,List.getElem?_eq_getElem hk];exact List.getElem_mem _
    obtain ⟨b0,b1⟩:=bd _ hm
    exact ⟨(g.getD k 0).toNat,by walk_at "o",by walk_at "o"⟩
   have nx:∀ k,k<g.length->atI (os.map fun i=>AV.d (.int i)) (g.getD k 0)=some (.d (.int (g.getD ((k+1) % g.length) 0))):=fun k hk=>by
    obtain ⟨z,z1,z2⟩:=at_ k hk
    rw [xg (by walk_at "o") (by walk_at "o"),G.nx g hg k hk]
   refine ⟨trivial,?_⟩
   show kZ _ _ _ _ _ _
   refine zo fun r2 hr2=>?_
   walk_at "ra"
   refine ⟨by walk_at "o",fun p hp _=>⟨_,nx 0 (by walk_at "o"),?_⟩⟩
   rw [Nat.mod_eq_of_lt (by walk_at "o")]
   have pf:f ≠ p:=fun z=>by rw [<- z,hl] at hp;cases hp
   subst hr2
   refine zo fun r2 hr2=>?_
   unfold kZ
   refine ⟨fun m ρ M'=>∃ j,m+j=g.length/\1<=j/\Fr M M'/\Pu (mup M f (.lst [])) M'/\M' f=some (.lst ((((zh os n).take i).map ilD).map .d))/\M' p=some (.lst (((g.take j).map .int).map .d))/\ρ=[some (.d (ilD os)),some (.d (ilD (jC os n))),some (.ref f),some (.d (.int (g.getD 0 0))),some (.ref p),some (.d (.int (g.getD (j % g.length) 0)))],⟨g.length - 1,1,by walk_at "o",by walk_at "o",fr.mup (fr.non hp) _,pu.mup p [.int (g.getD 0 0)],by rw [zI pf];exact hl,?_,by rw [Nat.mod_eq_of_lt (by walk_at "o")]⟩,?_⟩
   ·rw [zm]
    cases g with
    | nil=>simp at g2
    | cons x g=>rfl
   rintro m ρ M' ⟨j,mj,j1,fr',pu',hl',hp2,rfl⟩
   walk_at "ra"
   by_cases c:j=g.length
   ·rw [c,Nat.mod_self,if_neg (fun z=>z rfl)]
    subst c
    rw [List.take_length] at hp2
    subst hr2
    walk_at "ra"
    have mp:M p=none:=fr.non hp
    have hm:mdel M' p f=some (.lst ((((zh os n).take i).map ilD).map .d)):=by rw [ja pf];exact hl'
    refine ⟨_,hp2,_,qf _,by rw [zI (Ne.symm pf)];exact mp,fun j hj=>?_,fun q o hq e=>(pu' q o e).imp (fun z=>z) fun z=>z p,⟨_,je hm⟩,_,hm,by rw [List.length_map,List.length_map,List.length_take];walk_at "o",?_⟩
    ·match j,hj with
     | 0,_ | 1,_ | 3,_ | 5,_=>exact fun z=>by cases z
     | 2,_=>exact fun z=>pf (by cases z;rfl)
     | (j+6),_=>exact fun z=>by cases z
    have tk:((zh os n).take (i+1)).map ilD=((zh os n).take i).map ilD ++ [ilD g]:=by rw [List.take_succ,e,List.map_append];rfl
    refine ⟨fun q hq=>?_,?_,?_,_,rfl⟩
    ·have q1:q ≠ p:=fun z=>hq (z ▸ mp)
     have q2:q ≠ f:=fun z=>hq (z ▸ hf)
     rw [zI q2,ja q1];exact fr' q hq
    ·have:=(pu'.mdel p).mup f (((zh os n).take (i+1)).map ilD)
     rw [tk,List.map_append] at this;exact this
    ·rw [zm,tk,List.map_append];rfl
   ·have jl:j<g.length:=by walk_at "o"
    rw [Nat.mod_eq_of_lt jl,if_pos fun z=>by have:=Fv (X9 ho hg) jl (by walk_at "o") z;walk_at "o"]
    refine ⟨_,jR hp2,?_⟩
    rw [if_pos (by rw [List.length_map,List.length_map,List.length_take];walk_at "o")]
    refine ⟨⟨_,je hp2⟩,_,hp2,by rw [List.length_map,List.length_map,List.length_take];walk_at "o",_,nx j jl,m - 1,by walk_at "o",j+1,by walk_at "o",by walk_at "o",fr'.mup (fr.non hp) _,?_,by rw [zI pf];exact hl',?_,rfl⟩
    ·have:=pu'.mup p ((g.take (j+1)).map .int)
     rwa [List.take_succ,List.getElem?_eq_getElem jl,List.map_append,List.map_append,<- show g.getD j 0=g[j] by rw [List.getD_eq_getElem?_getD,List.getElem?_eq_getElem jl];rfl] at this
    ·have e2:g.take (j+1)=g.take j ++ [g[j]]:=List.take_succ_eq_append_getElem jl
     rw [zm,show g.getD j 0=g[j] by rw [List.getD_eq_getElem?_getD,List.getElem?_eq_getElem jl];rfl,e2]
     simp only [List.map_append,List.map_map,List.map_cons,List.map_nil,Function.comp_def]
 ·rintro ρ M1 ⟨fr,pu,hl,a,b,c,rfl⟩
  refine ⟨trivial,?_⟩
  subst hr0
  walk_at "ra"
  rw [List.length_map,show (jC os n).length=(zh os n).length from List.length_map _,List.take_length] at hl
  exact ⟨_,_,xV fr hf hl (qf _),q⟩
theorem vW {α τ:Type}(R:τ->ASt)(g f:α->AV)(p:α->Bool)(xs:List α){ag:AG}{at_:AT}{ae:AE}{G:MH->Prop}{N:List AV->ASt->MH->Prop}{ρ:ASt}{M:MH}(h0:∃ o,ρ=R o)(hG:G M)(hl:xs.length<=100000)
  (hs:∀ (o:τ) (x:α) (Q:Option AV->ASt->MH->Prop),x ∈ xs->(∀ o',Q (if p x then some (f x) else none) (R o') M)->ag (g x) (R o) M fun ρ2 M2=>at_ ρ2 M2 fun b M3=>if b=true then ae ρ2 M3 fun y M4=>Q (some y) ρ2 M4 else Q none ρ2 M3)
  (hN:∀ o,N ((xs.filter p).map f) (R o) M):WD ag at_ (wV ae) G N (xs.map g) [] ρ M:=by
 have hsl:100000<sizeLine:=by rw [sizeLine_eq];decide
 refine ⟨fun i acc ρ' M'=>i<=xs.length/\acc=((xs.take i).filter p).map f/\M'=M/\∃ o,ρ'=R o,⟨Nat.zero_le _,rfl,rfl,h0⟩,?_,?_⟩
 ·rintro i z acc ρ' M' hx ⟨hi,rfl,rfl,o,rfl⟩
  rw [List.getElem?_map] at hx
  cases e0:xs[i]? with
  | none=>rw [e0] at hx;cases hx
  | some x=>
   rw [e0] at hx
   cases hx
   have hil:=(List.getElem?_eq_some_iff.mp e0).1
   have tk:xs.take (i+1)=xs.take i ++ [x]:=by rw [List.take_add_one,e0];rfl
   have hlen:(((xs.take i).filter p).map f).length<=i:=by
    rw [List.length_map]
    exact Nat.le_trans (List.length_filter_le _ _) (by rw [List.length_take];walk_at "o")
   refine ⟨hG,?_⟩
   refine hs o x (fun y ρ2 M3=>match y with | some y=>(((xs.take i).filter p).map f).length<sizeLine/\(i+1<=xs.length/\((xs.take i).filter p).map f ++ [y]=((xs.take (i+1)).filter p).map f/\M3=M'/\∃ o,ρ2=R o) | none=>i+1<=xs.length/\((xs.take i).filter p).map f=((xs.take (i+1)).filter p).map f/\M3=M'/\∃ o,ρ2=R o) (List.mem_of_getElem? e0) fun o'=>?_
   rw [tk,List.filter_append]
   cases e:p x with
   | true=>rw [if_pos rfl];exact ⟨by walk_at "o",hil,by rw [List.filter_cons_of_pos e,List.map_append];rfl,rfl,o',rfl⟩
   | false=>rw [if_neg (by decide)];exact ⟨hil,by rw [List.filter_cons_of_neg (by rw [e];decide),List.filter_nil,List.append_nil],rfl,o',rfl⟩
 ·rintro acc ρ' M' ⟨_,rfl,rfl,o,rfl⟩
  rw [List.length_map,List.take_length]
  exact ⟨hG,hN o⟩
noncomputable def BW:ASp:=fun xs M Q=>∃ (b:Addr) (n N:Nat) (os:List Int),xs=[.ref b,.d (ilD os)]/\BxM M b N/\N<100000/\zd n os/\n<=200/\∀ M',BxS M M' b (N+2000)->Q (.d (.bl true)) M'
theorem Ir {M0 M:MH}{b p:Addr}{N:Nat}(s:SB M0 M b N)(h0:M0 p=none)(hb:p ≠ b):SB M0 (mdel M p) b N:=by
 refine ⟨?_,fun q hq hqb=>?_,s.b0⟩
 ·obtain ⟨x,y,z,h,r⟩:=s.bx
  exact ⟨x,y,z,by rw [ja (Ne.symm hb)];exact h,r⟩
 ·rw [ja fun (z:q=p)=>hq (by rw [z];exact h0)];exact s.fr q hq hqb
theorem XW {n:Nat}{os:List Int}(h:zd n os)(i:Nat):((zh os n).take i).flatten.length<=n:=by
 have e:=(wZ h).length_eq
 have l:(jQ os n).length<=n:=by
  unfold jQ
  rw [List.length_map]
  exact Nat.le_trans (List.length_filter_le _ _) (by rw [List.length_range];exact Nat.le_refl _)
 have:=ya (fun x:List Int=>x) (zh os n) i
 rw [List.map_id',List.map_id'] at this
 walk_at "o"
theorem vK (rs:List (List Int)):dp (.lst (rs.map ilD))<=40:=by
 have:dps (rs.map ilD)<=20:=yp fun d hd=>by
  obtain ⟨r,_,rfl⟩:=List.mem_map.mp hd
  exact Nat.le_trans (L2.dp_ints r) (by walk_at "o")
 rw [dp];walk_at "o"
noncomputable def wdD:Dd->Str
 | .take _=>"take"
 | .move _ _=>"move"
 | .lay _=>"lay"
theorem JV:∀ ds:List Dd,KG ((ds.map fun d=>Dat.str (wdD d)).map AV.d)=some (ds.map fun d=>V.str (wdD d))
 | []=>rfl
 | d :: ds=>by
  rw [List.map_cons,List.map_cons,List.map_cons]
  unfold KG
  rw [JV ds];rfl
theorem YH:∀ ds:List Dd,(ds.map fun d=>V.str (wdD d)).countP (fun y=>eqV y (.str "lay"))=(ds.filter K3).length
 | []=>rfl
 | d :: ds=>by
  rw [List.map_cons,List.countP_cons,YH ds]
  cases d with
  | take x=>rw [List.filter_cons_of_neg (show ¬ K3 (Dd.take x)=true from Bool.false_ne_true),if_neg (show ¬ eqV (V.str (wdD (Dd.take x))) (V.str "lay")=true from show ¬ eqV (V.str "take") (V.str "lay")=true by decide +kernel),Nat.add_zero]
  | move x y=>rw [List.filter_cons_of_neg (show ¬ K3 (Dd.move x y)=true from Bool.false_ne_true),if_neg (show ¬ eqV (V.str (wdD (Dd.move x y))) (V.str "lay")=true from show ¬ eqV (V.str "move") (V.str "lay")=true by decide +kernel),Nat.add_zero]
  | lay x=>rw [List.filter_cons_of_pos rfl,if_pos (show eqV (V.str (wdD (Dd.lay x))) (V.str "lay")=true from show eqV (V.str "lay") (V.str "lay")=true by decide +kernel),List.length_cons]
theorem DI {n:Nat}{os:List Int}(h:zd n os)(hn:n<=1000)(mk:Nat):∀ x ∈ xw os mk n,0<=x/\x<=(1000000:Int):=by
 intro x hx
 unfold xw at hx
 obtain ⟨i,hi,e⟩:=List.mem_map.mp hx
 have hi':i<n:=by simpa using hi
 obtain ⟨m,e2,hw,hm⟩:=vg h (p:=(i:Int)) (by walk_at "o") (by walk_at "o")
 have:=hw.wkM
 unfold L2.cnt at e
 split at e <;> walk_at "o"
noncomputable abbrev yu:Stmt:=top 44
theorem wf:zw ["_law_box_here","_law_order_here","_law_n","_law_led","_law_some","_law_places","_law_ring","_law_away","_law_begun","_law_plan","_law_taken","_law_at","_law_place","_law_deed"] ["_law_box_here","_law_order_here"] (zi yu):=⟨rfl,rfl,rfl,by decide +kernel,rfl,by decide +kernel,by decide +kernel⟩
theorem Ks (a:At K mg "_law_right" yu)(B:Blt mg)(Bsum:mg "sum"=none)(DX_order_by_o:DfX P w K mg base "order_by" ["n","rings_told"] 9 (JB (wI cBadRing)))(D_law_take:Df P w K mg base "_law_take" ["_law_box_here","_law_many"] 9 (cSp BG))(D_leaders_found:Df P w K mg base "leaders_found" ["order"] 9 (cSp Qt))(D_law_gone:Df P w K mg base "_law_gone" ["_law_order_here","_law_led"] 9 (cSp Fw))(D_rings:Df P w K mg base "rings" ["order"] 9 (cSp yA))(D_by_rings:Df P w K mg base "by_rings" ["order"] 9 (cSp QP))(D_off:Df P w K mg base "off" ["order"] 9 (cSp Gq))(D_fewest_moves:Df P w K mg base "fewest_moves" ["order"] 9 (cSp FT))(D_times:Df P w K mg base "times" ["order","many"] 9 (cSp Dm))(D_turns_of:Df P w K mg base "turns_of" ["order"] 9 (cSp Jk))(D_staying:Df P w K mg base "staying" ["n"] 9 (cSp vZ))(D_back_of:Df P w K mg base "back_of" ["order"] 9 (cSp BC))(D_walks_marked:Df P w K mg base "walks_marked" ["order","marks"] 9 (cSp X5)):Df P w K mg base "_law_right" ["_law_box_here","_law_order_here"] 10 (cSp BW):=by
 refine dfA (k:=9) a wf (fun _ _ _ _ _ _=>Pn2_ fun _ _=>rfl) (fun xs M Q h=>?_) (fun f cdv A outer s H E hr=>?_)
 ·obtain ⟨_,_,_,_,rfl,_⟩:=h;rfl
 have sc:=wf
 have hsl:=hsl
 refine ⟨_,(zc (zr (i:=2) sc.nd rfl (by first | exact Or.inl rfl | exact Or.inr rfl) (zn zl rfl B.len zM (za (pv 1) zb)))
  (zc (zr (i:=3) sc.nd rfl (by first | exact Or.inl rfl | exact Or.inr rfl) (zJ qU (zu D_leaders_found hr rfl (za (pv 1) zb)) zg (fun _ _=>rfl)))
  (zc (zr (i:=4) sc.nd rfl (by first | exact Or.inl rfl | exact Or.inr rfl) (zu D_law_gone hr rfl (za (pv 1) (za (pv 3) zb))))
  (zc (zr (i:=5) sc.nd rfl (by first | exact Or.inl rfl | exact Or.inr rfl) (qk zb))
  (zc (qi PassesOwn.never rfl (jq (pv 4)) (zy (i:=6) sc.nd rfl (by first | exact Or.inl rfl | exact Or.inr rfl)) (ze (zr (i:=5) sc.nd rfl (by first | exact Or.inl rfl | exact Or.inr rfl) (zp xH (pv 5) (pv 6)))))
  (zc (vj (j:=7) rfl sc.nd rfl (by first | exact Or.inl rfl | exact Or.inr rfl) (ts:=[12]) rfl (qu rfl B.range (za (pv 2) zb)) (fun _ _ _ _=>(zy (i:=12) sc.nd rfl (by first | exact Or.inl rfl | exact Or.inr rfl))) (fun _ _ _ _=>yl (zB (qW hr.units) (zJ (yN (K:=K) rfl) (pv 1) (pv 12) (fun _ _=>rfl)) (pv 12) (zD _))) (fun _ _ _ _=>(pv 12)))
  (zc (qg (PW.pt (yc (zB (qW hr.units) (pv 4) (zu D_rings hr rfl (za (pv 1) zb)) (zD _)) (j4 (zB (qW hr.units) (zn wF rfl B.sorted Zf (za (pv 5) zb)) (pv 7) (zD _))))) (ze (zx qI)) zG)
  (zc (zr (i:=8) sc.nd rfl (by first | exact Or.inl rfl | exact Or.inr rfl) (j8 (qk zb)))
  (zc (qi PassesOwn.never rfl (jq (pv 4)) (zy (i:=6) sc.nd rfl (by first | exact Or.inl rfl | exact Or.inr rfl)) (zc (zr (i:=11) sc.nd rfl (by first | exact Or.inl rfl | exact Or.inr rfl) (zu D_law_take hr rfl (za (pv 0) (za (zn zl rfl B.len zM (za (pv 6) zb)) zb))))
  (ze (qC (ky PySem.F.plainAttrs_list PySem.F.slot_list_insert PySem.F.type_list_insert Zt (pv 8) (za (zu D_law_take hr rfl (za (pv 0) (za (zp zS (zn zl rfl B.len zM (za (pv 8) zb)) zg) zb))) (za (zp xH (kS xU (pv 6) (jD (pv 11)) yh) (kS xU (pv 6) yh (jD (pv 11)))) zb)))))))
  (Yc 8 (zc (zr (i:=9) sc.nd rfl (by first | exact Or.inl rfl | exact Or.inr rfl) (zu D_by_rings hr rfl (za (pv 1) zb)))
  (zc (vj (j:=10) rfl sc.nd rfl (by first | exact Or.inl rfl | exact Or.inr rfl) (ts:=[13]) rfl (jq (pv 9)) (fun _ _ _ _=>(zy (i:=13) sc.nd rfl (by first | exact Or.inl rfl | exact Or.inr rfl))) (fun _ _ _ _=>yl (zB (v9 hr.units) (zJ (yN (K:=K) rfl) (pv 13) zg (fun _ _=>rfl)) kK (zD _))) (fun _ _ _ _=>(zJ (yN (K:=K) rfl) (pv 13) zg (fun _ _=>rfl))))
  (zc (qg (PW.pt (yc (zB (qW hr.units) (Fz DX_order_by_o hr rfl Gr (za (pv 2) (za (pv 8) zb))) (pv 1) (zD _)) (j4 (zB (qW hr.units) (pv 10) (pv 3) (zD _))))) (ze (zx qI)) zG)
  (zc (qg (PW.pt (yc (zB (qW hr.units) (ky PySem.F.plainAttrs_list PySem.F.slot_list_count PySem.F.type_list_count AY (qQ (ts:=[13]) rfl rfl (jq (pv 9)) (fun _ _ _ _=>(zy (i:=13) sc.nd rfl (by first | exact Or.inl rfl | exact Or.inr rfl))) (fun _ _ _ _=>jb) (fun _ _ _ _=>(zJ (yN (K:=K) rfl) (pv 13) zg (fun _ _=>rfl)))) (za kK zb)) (zn zl rfl B.len zM (za (pv 3) zb)) (zD _)) (j4 (zB (qW hr.units) (zn zl rfl B.len zM (za (pv 9) zb)) (zp zS (zu D_off hr rfl (za (pv 1) zb)) (zn zl rfl B.len zM (za (pv 3) zb))) (zD _))))) (ze (zx qI)) zG)
  (zc (qg (PW.pt (yc (zB (qW hr.units) (zu D_fewest_moves hr rfl (za (pv 1) zb)) (zn zl rfl B.len zM (za (pv 9) zb)) (zD _)) (j4 (zB (qW hr.units) (zu D_times hr rfl (za (pv 1) (za (zu D_turns_of hr rfl (za (pv 1) zb)) zb))) (zu D_staying hr rfl (za (pv 2) zb)) (zD _))))) (ze (zx qI)) zG)
  (ze (zx (Gu (xt (v9 hr.units) (zJ qU (zu D_leaders_found hr rfl (za (zu D_back_of hr rfl (za (pv 1) zb)) zb)) zg (fun _ _=>rfl)) (pv 3) (zD _)) (Ih (xt (v9 hr.units) (zn (Zj rfl) rfl Bsum Aj (za (zu D_walks_marked hr rfl (za (pv 1) (za (pv 2) zb))) zb)) (pv 2) (zD _))))))))))))))))))))),?_⟩
 refine ex2 (by walk_at "sim") ?_
 rintro xs M Q ⟨b,n,N,os,rfl,hb,hN,ho,hn,q⟩
 rw [show qd ["_law_box_here","_law_order_here","_law_n","_law_led","_law_some","_law_places","_law_ring","_law_away","_law_begun","_law_plan","_law_taken","_law_at","_law_place","_law_deed"] [.ref b,.d (ilD os)]=[some (.ref b),some (.d (ilD os)),none,none,none,none,none,none,none,none,none,none,none,none] from rfl]
 have l1:=ho.1
 have lr:=qz os n
 have G:=xN ho
 have hs:∀ M,qm (.d (ilD os)) M=some (os.map fun i=>.d (.int i)):=fun M=>by rw [<- jH];rfl
 have ll:(ldL os n).length=(zh os n).length:=by rw [Z0 ho];exact List.length_map _
 refine zo fun r hr0=>?_
 walk_at "ra"
 rw [l1]
 subst hr0
 refine zo fun r hr0=>?_
 walk_at "ra"
 refine ⟨_,n,os,rfl,hs _,ho,by walk_at "o",_,rfl,_,rfl,?_⟩
 subst hr0
 refine zo fun r hr0=>?_
 walk_at "ra"
 refine ⟨n,os,by rw [Z0 ho],ho,by walk_at "o",?_⟩
 subst hr0
 refine zo fun r hr0=>?_
 walk_at "ra"
 subst hr0
 refine zo fun r hr0=>?_
 walk_at "ra"
 refine ⟨fun i ρ M'=>M=M'/\∃ u:Option Dat,ρ=[some (.ref b),some (.d (ilD os)),some (.d (.int n)),some (.d (ilD (ldL os n))),some (.d (.lst ((zh os n).map ilD))),some (.d (ilD ((zh os n).take i).flatten)),u.map .d,none,none,none,none,none,none,none],⟨rfl,none,rfl⟩,?_,?_⟩
 ·rintro i y ρ M' hy ⟨rfl,u,rfl⟩
  rw [List.getElem?_map,List.getElem?_map] at hy
  cases e:(zh os n)[i]? with
  | none=>rw [e] at hy;cases hy
  | some g=>
   rw [e] at hy
   cases hy
   refine ⟨trivial,?_⟩
   show jj _ _ _ _ _
   walk_at "ra"
   have fl:=XW ho (i+1)
   have tk:((zh os n).take (i+1)).flatten=((zh os n).take i).flatten ++ g:=by rw [List.take_succ,e,List.flatten_append];simp
   rw [tk,List.length_append] at fl
   refine ⟨by walk_at "o",_,by rw [<- List.map_append];exact zT _,by rw [tk],some (ilD g),rfl⟩
 rintro ρ M' ⟨rfl,u,rfl⟩
 rw [List.length_map,List.length_map,List.take_length]
 refine ⟨trivial,?_⟩
 dsimp only
 subst hr0
 refine zo fun r hr0=>?_
 walk_at "ra"
 refine ⟨by walk_at "o",by walk_at "o",?_⟩
 rw [Int.toNat_natCast,show Qh 0 1 n=(List.range n).map fun (i:Nat)=>AV.d (.int (i:Int)) from EW n]
 refine vW (fun o=>[some (.ref b),some (.d (ilD os)),some (.d (.int n)),some (.d (ilD (ldL os n))),some (.d (.lst ((zh os n).map ilD))),some (.d (ilD (zh os n).flatten)),u.map .d,none,none,none,none,none,o,none]) _ (fun (i:Nat)=>AV.d (.int (i:Int))) (fun (i:Nat)=>!decide (os.getD i 0=(i:Int))) _ ⟨_,rfl⟩ trivial (by rw [List.length_range];walk_at "o") (fun o i Q hi q=>?_) fun o=>?_
 ·have hi:=List.mem_range.mp hi
  walk_at "ra"
  refine ⟨_,xg (by walk_at "o") (by walk_at "o"),_,rfl,by rw [yE];walk_at "o",?_⟩
  rw [Kl,Int.toNat_natCast]
  have q:=q (some (.d (.int (i:Int))))
  by_cases c:os.getD i 0=(i:Int)
  ·rw [decide_eq_true c] at q ⊢
   exact q
  ·rw [decide_eq_false c] at q ⊢
   exact q
 rw [show ((List.range n).filter fun (i:Nat)=>!decide (os.getD i 0=(i:Int))).map (fun (i:Nat)=>AV.d (.int (i:Int)))=(jQ os n).map fun i=>AV.d (.int i) by unfold jQ;rw [List.map_map];rfl]
 refine ⟨_,zT _,?_⟩
 have fle:=XW ho n
 rw [List.take_of_length_le lr] at fle
 subst hr0
 refine zo fun r hr0=>?_
 walk_at "ra"
 refine ⟨_,n,os,rfl,hs _,ho,by walk_at "o",_,rfl,vK _,vK _,?_⟩
 rw [jy (Nat.lt_of_le_of_lt (vK _) (by walk_at "o")),if_neg (by decide)]
 refine ⟨_,rfl,by walk_at "o",fun ns' z1 z2=>?_⟩
 have ea:ns'=jQ os n:=Wc (z1.trans (wZ ho)) z2 ((XN os n).imp Int.le_of_lt)
 subst ea
 refine ⟨dp_ints _,dp_ints _,?_⟩
 rw [QL,decide_eq_true rfl,if_neg (by decide)]
 clear z1 z2
 subst hr0
 refine zo fun r hr0=>?_
 walk_at "ra"
 intro p hp _
 have sb0:=SB.refl hb
 have hpb:=(sb0.new hp).2
 subst hr0
 refine zo fun r hr0=>?_
 walk_at "ra"
 refine ⟨fun i ρ M'=>∃ (v w:Option Dat) (rs':List (List Int)),ρ=[some (.ref b),some (.d (ilD os)),some (.d (.int n)),some (.d (ilD (ldL os n))),some (.d (.lst ((zh os n).map ilD))),some (.d (ilD (zh os n).flatten)),v.map .d,some (.d (ilD (jQ os n))),some (.ref p),none,none,w.map .d,none,none]/\SB M M' b (N+2 * i)/\Pu M M'/\M' p=some (.lst (rs'.map fun r=>.d (ilD r)))/\(∀ r' ∈ rs',∃ r ∈ zh os n,Yf r' r)/\rs'.flatten.Perm ((zh os n).take i).flatten/\rs'.length=i,⟨u,none,[],rfl,sb0.put hp hpb _,Pu.refl.mup p [],zm,fun r hr=>(nomatch hr),List.Perm.refl _,rfl⟩,?_,?_⟩
 ·rintro i y ρ M' hy ⟨v,w',rs',rfl,sb,pu,hp',h1,h2,h3⟩
  rw [List.getElem?_map,List.getElem?_map] at hy
  cases e:(zh os n)[i]? with
  | none=>rw [e] at hy;cases hy
  | some g=>
   rw [e] at hy
   cases hy
   have hi:=(List.getElem?_eq_some_iff.mp e).1
   have hg:=List.mem_of_getElem? e
   obtain ⟨g0,g1⟩:=G.len g hg
   refine ⟨trivial,?_⟩
   show kZ _ _ _ _ _ _
   refine zo fun r2 hr2=>?_
   walk_at "ra"
   refine ⟨b,g.length,_,rfl,sb.bx,by walk_at "o",by walk_at "o",by walk_at "o",fun k M2 s2 k0 k1=>?_⟩
   obtain ⟨k,rfl⟩:∃ j:Nat,k=j:=⟨k.toNat,by walk_at "o"⟩
   have sb2:=sb.go s2
   subst hr2
   walk_at "ra"
   have hm:=(s2.at hpb).trans hp'
   refine ⟨⟨_,je hm⟩,_,jR hm,b,(i:Int)+1,_,by rw [List.length_map,h3],sb2.bx,by walk_at "o",by walk_at "o",by walk_at "o",fun j M3 s3 j0 j1=>?_⟩
   obtain ⟨j,rfl⟩:∃ z:Nat,j=z:=⟨j.toNat,by walk_at "o"⟩
   have sb3:=sb2.go s3
   have pu3:=(pu.bx s2).bx s3
   have em:(rs'.map fun r=>AV.d (ilD r)).take ((j:Int)).toNat ++ AV.d (.lst ((g.drop k).map .int ++ (g.take k).map .int)) :: (rs'.map fun r=>AV.d (ilD r)).drop ((j:Int)).toNat=((rs'.take j ++ (g.drop k ++ g.take k) :: rs'.drop j).map ilD).map .d:=by
    rw [Int.toNat_natCast]
    simp only [ilD,List.map_append,List.map_cons,List.map_map,Function.comp_def,List.map_take,List.map_drop]
   refine ⟨_,Vz _ _,_,E6 _ _,?_,_,Ew _ _,_,_,rfl,(s3.at hpb).trans hm,by walk_at "o",by rw [List.length_map];walk_at "o",?_,⟨some (ilD g),rfl⟩,⟨some (.int (k:Int)),rfl⟩,(sb3.put hp hpb _).mono (by walk_at "o"),?_,rs'.take j ++ (g.drop k ++ g.take k) :: rs'.drop j,?_,?_,?_,?_⟩
   ·rw [List.length_map,List.length_map,List.length_drop,List.length_take];walk_at "o"
   ·rw [List.length_map];walk_at "o"
   ·rw [em];exact pu3.mup p _
   ·rw [zm,Int.toNat_natCast,List.map_append,List.map_cons,List.map_take,List.map_drop]
    show some (MO.lst (_ ++ AV.d (.lst _) :: _))=some (MO.lst (_ ++ AV.d (.lst _) :: _))
    rw [List.map_append]
    simp only [List.map_take,List.map_drop]
   ·intro r' hr'
    rcases List.mem_append.mp hr' with z | z
    ·exact h1 r' (List.mem_of_mem_take z)
    ·rcases List.mem_cons.mp z with rfl | z
     ·exact ⟨g,hg,k,by walk_at "o",rfl⟩
     ·exact h1 r' (List.mem_of_mem_drop z)
   ·rw [List.take_succ,e,List.flatten_append,List.flatten_append,List.flatten_cons]
    have p1:(g.drop k ++ g.take k).Perm g:=QI ⟨k,by walk_at "o",rfl⟩
    have p2:(rs'.take j).flatten ++ (rs'.drop j).flatten=rs'.flatten:=by rw [<- List.flatten_append,List.take_append_drop]
    have p3:((rs'.take j).flatten ++ ((g.drop k ++ g.take k) ++ (rs'.drop j).flatten)).Perm (((rs'.take j).flatten ++ (rs'.drop j).flatten) ++ (g.drop k ++ g.take k)):=by
     rw [List.append_assoc (rs'.take j).flatten]
     exact List.Perm.append_left _ List.perm_append_comm
    rw [p2] at p3
    refine p3.trans ?_
    show (rs'.flatten ++ (g.drop k ++ g.take k)).Perm (((zh os n).take i).flatten ++ [g].flatten)
    rw [List.flatten_singleton]
    exact h2.append p1
   ·rw [List.length_append,List.length_cons,List.length_take,List.length_drop];walk_at "o"
 rintro ρ M' ⟨v,w',rs',rfl,sb,pu,hp',h1,h2,h3⟩
 rw [List.length_map,List.length_map] at sb h2 h3
 rw [List.take_length] at h2
 refine ⟨trivial,?_⟩
 dsimp only
 subst hr0
 have G2:=VZ G h1 h2
 have e:(rs'.map fun r=>AV.d (ilD r))=(rs'.map ilD).map .d:=by rw [List.map_map];rfl
 rw [e] at hp'
 refine ⟨p,_,_,rfl,hp',qf _,hp,fun j hj=>?_,fun q o hq e=>(pu q o e).imp (fun z=>z) fun z=>z p,?_⟩
 ·match j,hj with
  | 0,_=>exact fun z=>hpb (by cases z;rfl)
  | 1,_ | 2,_ | 3,_ | 4,_ | 5,_ | 7,_ | 9,_ | 10,_ | 12,_ | 13,_=>exact fun z=>by cases z
  | 6,_=>exact fun z=>by cases v <;> cases z
  | 11,_=>exact fun z=>by cases w' <;> cases z
  | (j+14),_=>exact fun z=>by cases z
 have sb:=Ir sb hp hpb
 generalize mdel M' p=M2 at *
 show kZ _ _ _ _ _ _
 refine zo fun r hr0=>?_
 rw [List.set_cons_succ]
 simp only [List.set_cons_succ,List.set_cons_zero]
 walk_at "ra"
 refine ⟨_,n,os,rfl,hs _,ho,by walk_at "o",?_⟩
 subst hr0
 refine zo fun r hr0=>?_
 walk_at "ra"
 obtain ⟨tk1,tk2⟩:=Zm (zh os n) fun r hr=>⟨fun x hx=>(G.bd r hr x hx).1,by have:=(G.len r hr).1;walk_at "o"⟩
 have tk:((jx os n).filter VF).map Bc=ldL os n:=by rw [Z0 ho];exact tk1
 have lpl:=v8 ho
 have ofl:=Fy os n
 rw [List.map_map]
 refine vW (fun o=>[some (.ref b),some (.d (ilD os)),some (.d (.int n)),some (.d (ilD (ldL os n))),some (.d (.lst ((zh os n).map ilD))),some (.d (ilD (zh os n).flatten)),v.map .d,some (.d (ilD (jQ os n))),some (.d (.lst (rs'.map ilD))),some (.d (.lst ((jx os n).map ddD))),none,w'.map .d,none,o]) _ (fun d=>AV.d (.int (Bc d))) VF _ ⟨_,rfl⟩ trivial (by walk_at "o") (fun o d Q hd q=>?_) fun o=>?_
 ·cases d with
  | take x=>
   have q:=q (some (.d (ddD (.take x))))
   show jj 13 (AV.d (.tup [.str "take",.int (x:Int)])) _ _ _
   walk_at "ra"
   refine ⟨_,rfl,_,rfl,by decide +kernel,?_⟩
   rw [if_pos (by decide +kernel)]
   exact ⟨_,rfl,q⟩
  | move x y=>
   have q:=q (some (.d (ddD (.move x y))))
   show jj 13 (AV.d (.tup [.str "move",.int (x:Int),.int (y:Int)])) _ _ _
   walk_at "ra"
   refine ⟨_,rfl,_,rfl,by decide +kernel,?_⟩
   rw [if_neg (by decide +kernel)]
   exact q
  | lay x=>
   have q:=q (some (.d (ddD (.lay x))))
   show jj 13 (AV.d (.tup [.str "lay",.int (x:Int)])) _ _ _
   walk_at "ra"
   refine ⟨_,rfl,_,rfl,by decide +kernel,?_⟩
   rw [if_neg (by decide +kernel)]
   exact q
 rw [show ((jx os n).filter VF).map (fun d=>AV.d (.int (Bc d)))=(ldL os n).map fun i=>AV.d (.int i) by rw [<- tk,List.map_map];rfl]
 refine ⟨_,zT _,?_⟩
 subst hr0
 refine zo fun r hr0=>?_
 walk_at "ra"
 obtain ⟨st,st1,st2⟩:=EG ho G2
 refine ⟨n,_,rs'.map ilD,dIs rs',rfl,rfl,by rw [List.map_map,List.map_map];rfl,by walk_at "o",by rw [List.length_map];walk_at "o",fun l hl=>?_,fun st' e' p' hp'=>?_,fun z=>by rw [st1] at z;cases z⟩
 ·obtain ⟨r,hr,rfl⟩:=List.mem_map.mp hl
  have:=G2.len r hr
  refine ⟨by rw [List.length_map];walk_at "o",fun d hd=>?_⟩
  obtain ⟨x,_,rfl⟩:=List.mem_map.mp hd
  rw [yE];walk_at "o"
 rw [st1] at e'
 cases e'
 rw [st2]
 obtain ⟨p0',hpb'⟩:=sb.new hp'
 refine ⟨_,V9 zm (qf _),dp_ints _,dp_ints _,?_⟩
 rw [show eqD (.lst (os.map .int)) (ilD os)=true from jy (Nat.lt_of_le_of_lt (L2.dp_ints os) (by walk_at "o")),if_neg (by decide)]
 refine ⟨dp_ints _,dp_ints _,?_⟩
 rw [show eqD (.lst ((ldL os n).map .int)) (ilD (ldL os n))=true from jy (Nat.lt_of_le_of_lt (L2.dp_ints (ldL os n)) (by walk_at "o")),if_neg (by decide)]
 have sb:=sb.put p0' hpb' (.lst ((os.map .int).map .d))
 generalize mup M2 p' _=M3 at *
 subst hr0
 refine zo fun r hr0=>?_
 walk_at "ra"
 rw [List.map_map]
 refine Zx (fun o=>[some (.ref b),some (.d (ilD os)),some (.d (.int n)),some (.d (ilD (ldL os n))),some (.d (.lst ((zh os n).map ilD))),some (.d (ilD (zh os n).flatten)),v.map .d,some (.d (ilD (jQ os n))),some (.d (.lst (rs'.map ilD))),some (.d (.lst ((jx os n).map ddD))),some (.d (ilD (ldL os n))),w'.map .d,none,o]) _ (fun d=>AV.d (.str (wdD d))) _ ⟨_,rfl⟩ trivial (by walk_at "o") (fun o d Q hd q=>?_) fun o=>?_
 ·have q:=q (some (.d (ddD d)))
  cases d with
  | take x=>
   show jj 13 (AV.d (.tup [.str "take",.int (x:Int)])) _ _ _
   walk_at "ra"
   exact ⟨_,rfl,q⟩
  | move x y=>
   show jj 13 (AV.d (.tup [.str "move",.int (x:Int),.int (y:Int)])) _ _ _
   walk_at "ra"
   exact ⟨_,rfl,q⟩
  | lay x=>
   show jj 13 (AV.d (.tup [.str "lay",.int (x:Int)])) _ _ _
   walk_at "ra"
   exact ⟨_,rfl,q⟩
 rw [show (jx os n).map (fun d=>AV.d (.str (wdD d)))=((jx os n).map fun d=>Dat.str (wdD d)).map .d by rw [List.map_map];rfl]
 refine ⟨_,qf _,⟨_,rfl⟩,_,JV _,_,rfl,?_⟩
 rw [YH,show ((jx os n).filter K3).length=(zh os n).length from tk2,ll,if_neg (fun z=>z rfl)]
 refine ⟨_,n,os,rfl,hs _,l1,by walk_at "o",_,rfl,?_⟩
 rw [if_neg (fun z=>z (by rw [lpl];push_cast;rfl))]
 subst hr0
 refine zo fun r hr0=>?_
 walk_at "ra"
 refine ⟨_,n,os,rfl,hs _,ho,by walk_at "o",_,rfl,by rw [yE];walk_at "o",?_⟩
 rw [Kl,decide_eq_true (by rw [lpl];push_cast;rfl),if_neg (by decide)]
 refine ⟨_,n,os,rfl,hs _,ho,by walk_at "o",ilD os,n,os,zW 0 1 n,_,rfl,rfl,ho,by walk_at "o",⟨os,ho,fun _=>rfl,fun z=>absurd z (by walk_at "o"),by rw [Int.natAbs_natCast];exact (Vn ho (VU ho)).symm⟩,n,rfl,by walk_at "o",_,rfl,_,rfl,dp_ints _,dp_ints _,?_⟩
 rw [jy (Nat.lt_of_le_of_lt (L2.dp_ints _) (by walk_at "o")),if_neg (by decide)]
 subst hr0
 walk_at "ra"
 refine ⟨ilD os,n,os,rfl,rfl,ho,by walk_at "o",fun bs hbs=>?_⟩
 have hob:=hbs.ord ho
 refine ⟨_,n,bs,rfl,by rw [<- jH];rfl,hob,by walk_at "o",?_⟩
 refine ⟨_,rfl,_,rfl,_,rfl,dp_ints _,dp_ints _,?_⟩
 rw [QE ho hbs n (Nat.le_refl _),show eqD (ilD (ldL os n)) (ilD (ldL os n))=true from jy (Nat.lt_of_le_of_lt (L2.dp_ints (ldL os n)) (by walk_at "o")),if_pos rfl]
 refine ⟨_,n,n,os,rfl,hs _,ho,by walk_at "o",Nat.le_refl _,xw os n n,by rw [<- jH];rfl,DI ho (by walk_at "o") n,by rw [wg];walk_at "o",?_⟩
 rw [Wi ho,decide_eq_true rfl]
 exact (sb.mono (by walk_at "o")).rt fun M' s=>q M' s
noncomputable abbrev Wy:Stmt:=top 45
theorem Ax:zw ["_law_script","_law_cells","_law_k","_law_box_here","_law_order_here","_law_other","_law_both","_law_led","_law_steps","_law_goal","_law_one"] ["_law_script"] (zi Wy):=⟨rfl,rfl,rfl,by decide +kernel,rfl,by decide +kernel,by decide +kernel⟩
noncomputable def Yx (K:PySem.W.Frag):Sp:=fun vs H Q _=>∃ (a:Addr) (ns:List Int),vs=[.ref a]/\SqL K H a (ns.map V.int)/\ns.length<=63/\∀ H',Q (.bl true) H'
noncomputable def IG (K:PySem.W.Frag):ASp:=fun xs M Q=>∃ ns:List Int,xs=[.d (.scr K ns)]/\ns.length<=63/\Q (.d (.bl true)) M
theorem sp_law (vs:List V)(H:Hp)(Q:VK)(E:XK)(h:Yx K vs H Q E):cSp (IG K) vs H Q E:=by
 obtain ⟨a,ns,rfl,ha,hn,q⟩:=h
 refine ⟨[.d (.scr K ns)],fun _=>none,fun _=>False,fun x _=>x=.d (.bl true),⟨(fun a o e=>nomatch e),(fun a h=>h rfl),fun a h=>h.elim⟩,.cons (Eg (fun _ z=>z) ha) .nil,⟨ns,rfl,hn,rfl⟩,fun x M' v H' O' hx _ _ r=>?_⟩
 subst hx
 rw [yM r]
 exact q H'
theorem Ho (a:At K mg "law" Wy)(B:Blt mg)(D_law_take:Df P w K mg base "_law_take" ["_law_box_here","_law_many"] 19 (cSp BG))(D_law_box:Df P w K mg base "_law_box" ["_law_script","_law_k"] 19 (cSp IP))(D_law_folded:Df P w K mg base "_law_folded" ["_law_script","_law_many"] 19 (cSp (YE K)))(D_law_length:Df P w K mg base "_law_length" ["_law_box_here","_law_most"] 19 (cSp YI))(D_law_order:Df P w K mg base "_law_order" ["_law_box_here","_law_n"] 19 (cSp W8))
  (D_law_right:Df P w K mg base "_law_right" ["_law_box_here","_law_order_here"] 19 (cSp BW)) (D_leaders_found:Df P w K mg base "leaders_found" ["order"] 19 (cSp Qt)) (D_shows_leaders:Df P w K mg base "shows_leaders" ["order","thing"] 19 (cSp X1)) :
  Df P w K mg base "law" ["_law_script"] 20 (cSp (IG K)):=by
 refine dfA (k:=19) a Ax (fun _ _ _ _ _ _=>Pn1_ fun _=>rfl) (fun xs M Q h=>?_) (fun f cdv A outer s H E hr=>?_)
 ·obtain ⟨_,rfl,_⟩:=h;rfl
 have sc:=Ax
 have hsl:=hsl
 refine ⟨_,(zc (zr (i:=1) sc.nd rfl (by first | exact Or.inl rfl | exact Or.inr rfl) (zu D_law_folded hr rfl (za (pv 0) (za zg zb))))
  (zc (qi PassesOwn.never rfl (qu rfl B.range (za (zn (wK rfl) rfl B.max WC (za zg (za (zn zl rfl B.len zM (za (pv 1) zb)) zb))) zb)) (zy (i:=2) sc.nd rfl (by first | exact Or.inl rfl | exact Or.inr rfl)) (zc (zr (i:=3) sc.nd rfl (by first | exact Or.inl rfl | exact Or.inr rfl) (zu D_law_box hr rfl (za (pv 1) (za (pv 2) zb))))
  (zc (zr (i:=4) sc.nd rfl (by first | exact Or.inl rfl | exact Or.inr rfl) (zu D_law_order hr rfl (za (pv 3) (za (zu D_law_length hr rfl (za (pv 3) (za zg zb))) zb))))
  (zc (zr (i:=5) sc.nd rfl (by first | exact Or.inl rfl | exact Or.inr rfl) (zu D_law_order hr rfl (za (pv 3) (za (zu D_law_take hr rfl (za (pv 3) (za zg zb))) zb))))
  (zc (qg (jN (qE (zu D_law_right hr rfl (za (pv 3) (za (pv 4) zb))) (fun _=>rfl))) (ze (zx qI)) zG)
  (zc (zr (i:=6) sc.nd rfl (by first | exact Or.inl rfl | exact Or.inr rfl) (zp xH (pv 4) (qQ (ts:=[9]) rfl rfl (jq (pv 5)) (fun _ _ _ _=>(zy (i:=9) sc.nd rfl (by first | exact Or.inl rfl | exact Or.inr rfl))) (fun _ _ _ _=>jb) (fun _ _ _ _=>(zp zS (zn (jL (K:=K) rfl) rfl B.len zM (za (pv 4) zb)) (pv 9))))))
  (zc (zr (i:=7) sc.nd rfl (by first | exact Or.inl rfl | exact Or.inr rfl) (zp xH (zJ qU (zu D_leaders_found hr rfl (za (pv 4) zb)) zg (fun _ _=>rfl)) (qQ (ts:=[10]) rfl rfl (jq (zJ qU (zu D_leaders_found hr rfl (za (pv 5) zb)) zg (fun _ _=>rfl))) (fun _ _ _ _=>(zy (i:=10) sc.nd rfl (by first | exact Or.inl rfl | exact Or.inr rfl))) (fun _ _ _ _=>jb) (fun _ _ _ _=>(zp zS (zn (jL (K:=K) rfl) rfl B.len zM (za (pv 4) zb)) (pv 10))))))
  (zc (zr (i:=8) sc.nd rfl (by first | exact Or.inl rfl | exact Or.inr rfl) (zp zS (zJ qU (zu D_leaders_found hr rfl (za (pv 4) zb)) zg (fun _ _=>rfl)) (zJ qU (zu D_leaders_found hr rfl (za (pv 5) zb)) zg (fun _ _=>rfl))))
  (ze (qg (PW.pt (yc (zB (qW hr.units) (zu D_leaders_found hr rfl (za (pv 6) zb)) (kj (za (pv 7) (za (pv 8) zb))) (zD _)) (j4 (jN (qE (zu D_shows_leaders hr rfl (za (pv 6) (za (pv 7) zb))) (fun _=>rfl)))))) (ze (zx qI)) zG))))))))))
  (ze (zx qI)))),?_⟩
 refine ex2 (by walk_at "sim") ?_
 rintro xs M Q ⟨ns,rfl,hn,q⟩
 rw [show qd ["_law_script","_law_cells","_law_k","_law_box_here","_law_order_here","_law_other","_law_both","_law_led","_law_steps","_law_goal","_law_one"] [.d (.scr K ns)]=[some (.d (.scr K ns)),none,none,none,none,none,none,none,none,none,none] from rfl]
 refine zo fun r hr0=>?_
 walk_at "ra"
 refine ⟨4,ns,rfl,by walk_at "o",by walk_at "o",hn,fun cs lc=>?_⟩
 subst hr0
 refine zo fun r hr0=>?_
 walk_at "ra"
 refine ⟨by split <;> walk_at "o",by split <;> walk_at "o",?_⟩
 refine ⟨fun i ρ M'=>(∃ x2 x3 x4 x5 x6 x7 x8 x9 x10,ρ=[some (.d (.scr K ns)),some (.d (ilD cs)),x2,x3,x4,x5,x6,x7,x8,x9,x10])/\Fr M M',⟨⟨_,_,_,_,_,_,_,_,_,rfl⟩,Fr.refl⟩,?_,?_⟩
 ·rintro i y ρ M1 hy ⟨⟨x2,x3,x4,x5,x6,x7,x8,x9,x10,rfl⟩,f1⟩
  obtain ⟨hi,rfl⟩:=Kc hy
  have hi':(i:Int)<=1000:=by
   have:(i:Int)<(if (cs.length:Int) > 1 then (cs.length:Int) else 1):=by walk_at "o"
   split at this <;> walk_at "o"
  refine ⟨trivial,?_⟩
  rw [Int.zero_add,Int.mul_one]
  show kZ _ _ _ _ _ _
  refine zo fun r2 hr2=>?_
  walk_at "ra"
  refine ⟨_,i,cs,rfl,Yn _ _,by walk_at "o",by walk_at "o",by walk_at "o",fun b o hb bx=>?_⟩
  have b0:=f1.non hb
  have f2:=f1.mup b0 o
  have sb:=SB.refl bx
  generalize mup M1 b o=M2 at *
  subst hr2
  refine zo fun r2 hr2=>?_
  walk_at "ra"
  refine ⟨b,100,0,rfl,sb.bx,by walk_at "o",by walk_at "o",by walk_at "o",fun n M3 s3 n0 n1=>?_⟩
  have sb:=sb.go s3
  obtain ⟨n,rfl⟩:∃ k:Nat,n=k:=⟨n.toNat,by walk_at "o"⟩
  refine ⟨b,n,_,rfl,sb.bx,by walk_at "o",by walk_at "o",fun os M4 s4 ho=>?_⟩
  have sb:=sb.go s4
  have h1:=ho.1
  subst hr2
  refine zo fun r2 hr2=>?_
  walk_at "ra"
  refine ⟨b,9,_,rfl,sb.bx,by walk_at "o",by walk_at "o",by walk_at "o",fun m M5 s5 m0 m1=>?_⟩
  have sb:=sb.go s5
  obtain ⟨m,rfl⟩:∃ k:Nat,m=k:=⟨m.toNat,by walk_at "o"⟩
  refine ⟨b,m,_,rfl,sb.bx,by walk_at "o",by walk_at "o",fun o2 M6 s6 ho2=>?_⟩
  have sb:=sb.go s6
  have h2:=ho2.1
  subst hr2
  refine zo fun r2 hr2=>?_
  walk_at "ra"
  refine ⟨b,n,_,os,rfl,sb.bx,by walk_at "o",ho,by walk_at "o",fun M7 s7=>⟨_,rfl,?_⟩⟩
  have sb:=sb.go s7
  rw [if_neg (by decide)]
  have so:∀ M:MH,qm (.d (ilD os)) M=some (os.map fun i=>.d (.int i)):=fun M=>by rw [<- jH];rfl
  have so2:∀ M:MH,qm (.d (ilD o2)) M=some (o2.map fun i=>.d (.int i)):=fun M=>by rw [<- jH];rfl
  subst hr2
  refine zo fun r2 hr2=>?_
  walk_at "ra"
  refine Zx (fun o=>[some (.d (.scr K ns)),some (.d (ilD cs)),some (.d (.int i)),some (.ref b),some (.d (ilD os)),some (.d (ilD o2)),x6,x7,x8,o,x10]) _ (fun x=>AV.d (.int ((n:Int)+x))) _ ⟨_,rfl⟩ trivial (by walk_at "o") (fun o x Q hx q=>?_) fun o=>?_
  ·walk_at "ra"
   rw [h1]
   exact q _
  rw [show o2.map (fun x=>AV.d (.int ((n:Int)+x)))=(o2.map fun x=>(n:Int)+x).map fun i=>AV.d (.int i) by rw [List.map_map];rfl]
  refine ⟨_,zT _,by rw [List.length_map,List.length_map];walk_at "o",_,by rw [jH,<- List.map_append];exact zT _,?_⟩
  rw [show os ++ o2.map (fun x=>(n:Int)+x)=unO n os o2 from rfl]
  have hu:=Ia ho ho2
  have su:∀ M:MH,qm (.d (ilD (unO n os o2))) M=some ((unO n os o2).map fun i=>.d (.int i)):=fun M=>by rw [<- jH];rfl
  have l1:=xR os n
  have l2:=xR o2 m
  subst hr2
  refine zo fun r2 hr2=>?_
  walk_at "ra"
  refine ⟨_,n,os,rfl,so _,ho,by walk_at "o",_,rfl,_,rfl,_,m,o2,rfl,so2 _,ho2,by walk_at "o",_,rfl,_,rfl,?_⟩
  have si:∀ (l:List Int) (M:MH),qm (.d (ilD l)) M=some (l.map fun i=>.d (.int i)):=fun l M=>by rw [<- jH];rfl
  refine ⟨_,si _ _,?_⟩
  refine Zx (fun o=>[some (.d (.scr K ns)),some (.d (ilD cs)),some (.d (.int i)),some (.ref b),some (.d (ilD os)),some (.d (ilD o2)),some (.d (ilD (unO n os o2))),x7,x8,x9,o]) _ (fun x=>AV.d (.int ((n:Int)+x))) _ ⟨_,rfl⟩ (si _ _) (by walk_at "o") (fun o x Q hx q=>?_) fun o=>?_
  ·walk_at "ra"
   rw [h1]
   exact q _
  rw [show (ldL o2 m).map (fun x=>AV.d (.int ((n:Int)+x)))=((ldL o2 m).map fun x=>(n:Int)+x).map fun i=>AV.d (.int i) by rw [List.map_map];rfl]
  refine ⟨_,zT _,_,Yn _ _,by rw [List.length_map,List.length_map,List.length_map];walk_at "o",_,by rw [jH,<- List.map_append];exact zT _,?_⟩
  have e1:=A0 ho ho2 m (Nat.le_refl _)
  have e2:=Ge ho ho2
  rw [<- e1]
  subst hr2
  refine zo fun r2 hr2=>?_
  walk_at "ra"
  refine ⟨_,n,os,rfl,so _,ho,by walk_at "o",_,rfl,_,rfl,_,m,o2,rfl,so2 _,ho2,by walk_at "o",_,rfl,_,rfl,?_⟩
  refine ⟨_,rfl,_,rfl,?_⟩
  rw [show (wkL os n).sum+(wkL o2 m).sum=(wkL (unO n os o2) (n+m)).sum by rw [e2,List.sum_append]]
  have hld:xC (unO n os o2) (n+m) (ilD (ldL (unO n os o2) (n+m)))=true:=yr.mpr (by rw [<- Z0 hu];rfl)
  have l3:=xR (unO n os o2) (n+m)
  have dpt:dp (.tup [ilD (ldL (unO n os o2) (n+m)),.int (wkL (unO n os o2) (n+m)).sum])<=40:=by
   have:dps [ilD (ldL (unO n os o2) (n+m)),.int (wkL (unO n os o2) (n+m)).sum]<=20:=yp fun d hd=>by
    simp only [List.mem_cons,List.not_mem_nil,or_false] at hd
    rcases hd with rfl | rfl
    ·exact Nat.le_trans (L2.dp_ints _) (by walk_at "o")
    ·rw [yE];walk_at "o"
   rw [dp];walk_at "o"
  subst hr2
  walk_at "ra"
  refine ⟨_,n+m,unO n os o2,rfl,su _,hu,by walk_at "o",by walk_at "o",_,rfl,dpt,dpt,?_⟩
  rw [jy (Nat.lt_of_le_of_lt dpt (by walk_at "o")),if_neg (by decide)]
  refine ⟨_,_,n+m,unO n os o2,rfl,rfl,hu,by walk_at "o",(xr (by walk_at "o")).mono (by walk_at "o"),_,rfl,?_⟩
  rw [show xC (unO n os o2) (n+m) (.lst ((ldL (unO n os o2) (n+m)).map .int))=true from hld,if_neg (by decide)]
  exact ⟨⟨_,rfl⟩,SB.frm f2 b0 sb⟩
 ·rintro ρ M2 ⟨⟨x2,x3,x4,x5,x6,x7,x8,x9,x10,rfl⟩,f2⟩
  refine ⟨trivial,?_⟩
  subst hr0
  walk_at "ra"
  exact wy f2 q
end
theorem all_mk {l:PySem.W.OpenLaw}{w:World}{K:PySem.W.Frag}{h:Heap}{mg:Str->Option Value}{fa cBadRing:Addr}(X:K.In h)(G:h.Ns mainGlobals mg)(hfa:mg "law"=some (.ref fa))(a:At K mg "law" Wy)(B:Blt mg)(Ball:mg "all"=none)(Bsum:mg "sum"=none)
  (a__law_take:At K mg "_law_take" Xy) (a__law_box:At K mg "_law_box" WS) (a__law_folded:At K mg "_law_folded" wa) (a__law_length:At K mg "_law_length" vD) (a__law_shuffled:At K mg "_law_shuffled" xJ) (a__law_ringed:At K mg "_law_ringed" v0) (a__law_exchanged:At K mg "_law_exchanged" kO) (a__law_table:At K mg "_law_table" ZJ) (a__law_order:At K mg "_law_order" Qr) (a_ring_from:At K mg "ring_from" kI) (a_rings:At K mg "rings" Z5) (a_walk_of:At K mg "walk_of" ym) (a_steps_from:At K mg "steps_from" jY) (a_leads:At K mg "leads" Qv) (a_walks:At K mg "walks" ZE) (a_leaders_found:At K mg "leaders_found" vA) (a_set_marks:At K mg "set_marks" xb) (a_walks_marked:At K mg "walks_marked" GL) (a_is_place:At K mg "is_place" xP) (a_is_order:At K mg "is_order" yG) (a_leaders:At K mg "leaders" yO) (a_shows_leaders:At K mg "shows_leaders" Z4) (a_round_ring:At K mg "round_ring" kc) (a_by_rings:At K mg "by_rings" xM) (a_common_divisor:At K mg "common_divisor" Dw) (a_turns_of:At K mg "turns_of" yH) (a_staying:At K mg "staying" yK) (a_after:At K mg "after" Qu) (a_back_of:At K mg "back_of" Xi) (a_times:At K mg "times" Z8) (a_off:At K mg "off" W6) (a_fewest_moves:At K mg "fewest_moves" Kx) (a_mark_ring:At K mg "mark_ring" ZZ) (a_order_by:At K mg "order_by" yy) (a__law_gone:At K mg "_law_gone" vQ) (a__law_right:At K mg "_law_right" yu)
  (ag_BadRing:PySem.W.nsIn K mainGlobals "BadRing"=some (some (.ref cBadRing)))
  (XI_BadRing:PySem.W.excIn K cBadRing BX "ValueError.__new__"=true)
 :∃ fd:FuncData,(∀ (s:Shared) (v:Value),BindsTo s fd ⟨[v],[]⟩ [("_law_script",v)])/\∀ base:Heap,K.In base->base.Ns mainGlobals mg->kz l.prog w K mg base CX0 20 fa fd ["_law_script"] (Yx K):=by
 obtain ⟨f,fd,F,m⟩:=id a
 obtain rfl:fa=f:=by rw [hfa] at m;cases m;rfl
 obtain ⟨oc,od,kV,doc,pm,an,cdv,ct,osl,e,lk,hcd⟩:=F.ex
 refine ⟨fd,fun s v=>?_,fun base _ _=>?_⟩
 ·subst e;exact .of_eq rfl
 ·have T:=EL (P:=l.prog) (w:=w) (base:=base) a__law_take B
  have XG_BadRing:=PySem.W.mg_of X G ag_BadRing
  have tk:=T.imp' EV
  have sh:=QB (P:=l.prog) (w:=w) (base:=base) a__law_shuffled B T
  have od:=Ap (P:=l.prog) (w:=w) (base:=base) a__law_order B (T.mono (by decide)) (sh.mono (by decide)) (V0 a__law_ringed B (T.mono (by decide)) sh) (Qp a__law_exchanged B (T.mono (by decide)) sh) ((AL a__law_table B).mono (by decide))
  have rf:=Z7 (P:=l.prog) (w:=w) (base:=base) a_ring_from B
  have rg:=(WP (P:=l.prog) (w:=w) (base:=base) a_rings B rf).imp' AB
  have ip:=Q5 (P:=l.prog) (w:=w) (base:=base) a_is_place B
  have sl:=BR (P:=l.prog) (w:=w) (base:=base) a_shows_leaders B Ball ((Kf a_is_order B ip).mono (by decide)) (ip.mono (by decide)) (KI a_leaders B rg)
  have wo:=Xx (P:=l.prog) (w:=w) (base:=base) a_walk_of B
  have sf:=ww (P:=l.prog) (w:=w) (base:=base) a_steps_from B wo
  have ld:=Dz (P:=l.prog) (w:=w) (base:=base) a_leads B wo
  have wk:=Au (P:=l.prog) (w:=w) (base:=base) a_walks B sf
  have wm:=(IM (P:=l.prog) (w:=w) (base:=base) a_walks_marked B sf ld (ZH a_set_marks B rf)).imp' VT
  have lf:=(Vr (P:=l.prog) (w:=w) (base:=base) a_leaders_found B Bsum (ld.mono (by decide)) wk).imp' Y3
  have gc:=HI (P:=l.prog) (w:=w) (base:=base) a_common_divisor B
  have tn:=K5 (P:=l.prog) (w:=w) (base:=base) a_turns_of B (rg.mono (by decide)) (gc.mono (by decide))
  have st0:=Ke (P:=l.prog) (w:=w) (base:=base) a_staying B
  have st:=st0.imp' Xr
  have af:=BM (P:=l.prog) (w:=w) (base:=base) a_after B
  have bk:=EX (P:=l.prog) (w:=w) (base:=base) a_back_of B
  have tm:=Wv (P:=l.prog) (w:=w) (base:=base) a_times B (st.mono (by decide)) (af.mono (by decide)) (bk.mono (by decide))
  have ofs:=Iq (P:=l.prog) (w:=w) (base:=base) a_off B
  have fm:=DK (P:=l.prog) (w:=w) (base:=base) a_fewest_moves B (ofs.mono (by decide)) (rg.mono (by decide))
  have ob:=K0 (P:=l.prog) (w:=w) (base:=base) a_order_by B XI_BadRing XG_BadRing (st0.mono (by decide)) (W1 a_mark_ring B XI_BadRing XG_BadRing ip)
  have br:=Jq (P:=l.prog) (w:=w) (base:=base) a_by_rings B rg ((wz a_round_ring B).mono (by decide))
  have go:=Vf (P:=l.prog) (w:=w) (base:=base) a__law_gone B
  have ri:=Ks (P:=l.prog) (w:=w) (base:=base) a__law_right B Bsum (ob.mono (by decide)) (tk.mono (by decide)) (lf.mono (by decide)) (go.mono (by decide)) (rg.mono (by decide)) (br.mono (by decide)) (ofs.mono (by decide)) (fm.mono (by decide)) (tm.mono (by decide)) (tn.mono (by decide)) (st.mono (by decide)) (bk.mono (by decide)) (wm.mono (by decide))
  have L:=Ho (P:=l.prog) (w:=w) (base:=base) a B (tk.mono (by decide)) (((Gg a__law_box B).imp' Ie).mono (by decide)) (((Vs a__law_folded B).imp' VR).mono (by decide)) (((Y6 a__law_length B T).imp' VC).mono (by decide)) ((od.imp' Da).mono (by decide)) (ri.mono (by decide)) (lf.mono (by decide)) (sl.mono (by decide))
  exact (L.imp' (sp_law (K:=K))).fn m lk
theorem walk {l:PySem.W.OpenLaw}{q:Program}{loose:List Str}{XP:(Str->Option Value)->Heap->Prop}{YP:World->Heap->Prop}{d:DefRec}{K:Params->PySem.W.Frag}(hn:l.most=some 63)(hdf:d.params.defaults=[])
  (hY:∀ (w:World) (h:Heap),YP w h->(K w.params).In h)
  (F:∀ (w:World) (mg:Str->Option Value) (fa:Addr) (h:Heap),(K w.params).In h->h.Ns mainGlobals mg->mg d.name=some (.ref fa) ->
   ∃ fd:FuncData,(∀ (s:Shared) (u:Value),BindsTo s fd ⟨[u],[]⟩ [("_law_script",u)])/\∀ base:Heap,(K w.params).In base->base.Ns mainGlobals mg->kz l.prog w (K w.params) mg base CX0 20 fa fd ["_law_script"] (Yx (K w.params))) :
  PySem.W.WalkO q loose XP YP l.row.toRowW d [] (fun f vs=>PySem.call f vs):=
 L2.walk_of (n:=63) (k:=20) (x:="_law_script") (CX:=fun _=>CX0) (sp:=fun w=>Yx (K w.params)) hn (by decide) hdf ⟨rfl,rfl,by decide,by decide⟩ hY F (fun _ _ a ns hl _ hS=>⟨a,ns,rfl,hS,hl,fun _=>rfl⟩) fun _ _ _ _ _ z=>z
end Ot
theorem PySem.W.Fast.te16657299360220319566:True:=trivial
theorem PySem.W.Fast.te12284142433649765037:True:=trivial
theorem PySem.W.Fast.te4355642066082864375:True:=trivial
namespace PySem.W.Fast
def tw934767253493348296:=()
def tw1701519914545724961:=()
def tw10343642178180635797:=()
def tw15293649219554467376:=()
def tw16624027350364590822:=()
def tw18160211266375814549:=()
def tw276406901958673546:=()
def tw16337235873175389450:=()
def tw8484751141419133357:=()
def tw16612421899067459544:=()
def tw15172344087292483762:=()
def tw7606404949585181836:=()
def tw18125603791179975608:=()
def tw5417187858091391646:=()
def tw11152822848894630339:=()
def tw11948311198784483135:=()
def tw10348882848786058930:=()
def tw11523219949955241801:=()
def tw3988381246979126669:=()
def tw17469556355670160557:=()
def tw3488722952717642813:=()
def tw10562403878968556006:=()
def tw14498597681093049902:=()
def tw15565781201551977094:=()
def tw6620195504899101161:=()
def tw15428874002463887933:=()
def tw7154768730147996740:=()
def tw9910259692451938102:=()
def tw2987672870131638188:=()
def tw15769705919237454902:=()
def tw13046223269776889116:=()
def tw2530363626686974672:=()
def tw17574120586577207450:=()
def tw15718541184162050529:=()
def tw1415001673022133431:=()
def tw14849543074347334425:=()
def tw12911439023176229531:=()
def tw4106218633865578155:=()
def tw10262228106040491829:=()
def tw12061417303339941178:=()
def tw5063898997999638067:=()
def tw17881886245581154702:=()
def tw17509038178336795483:=()
def tw8298608467958054327:=()
def tw5691488703138038030:=()
def tw936017761871235853:=()
def tw2560976326170970175:=()
def tw12143432260512850627:=()
def tw14186347318050954607:=()
def tw2364267320006020556:=()
def tw6212363341619793035:=()
def tw9668943503659031184:=()
def tw4577417480163215094:=()
def tw9355530192937718061:=()
def tw11328308786328165818:=()
def tw14794897823838688903:=()
def tw8524692918592807314:=()
def tw11799723711100174973:=()
def tw2167943585174212336:=()
def tw7302511203690512887:=()
def tw3117931223451548159:=()
def tw15186060813891248510:=()
def tw12972897827219411052:=()
def tw12597628101132097414:=()
def tw2415549640679011341:=()
def tw7744605103284708732:=()
def tw6687385431383949073:=()
def tw4251458612602515601:=()
def tw5517507863379615997:=()
def tw10920934701638380460:=()
def tw7218124034567324806:=()
def tw2342804250169779843:=()
def tw4645052537459390206:=()
def tw18152350914783234685:=()
def tw5382150192066191491:=()
def tw16082785037196299671:=()
def tw2027486988832878048:=()
def tw15755924999009370346:=()
def tw4482363722470681362:=()
def tw9156687195755212306:=()
def tw9578338828057271743:=()
def tw8727945739406934044:=()
def tw10185624828863560767:=()
def tw15750727747865730224:=()
def tw2708952451974988172:=()
def tw10577566722352532248:=()
def tw3819010472996596711:=()
def tw10977673646290482022:=()
def tw7635419197408318453:=()
def tw6478932492353842348:=()
def tw13710693848048488396:=()
def tw10840070775466826729:=()
def tw1406129555809636608:=()
def tw11537025622243174376:=()
def tw11664338175172455984:=()
def tw13784064821509413857:=()
def tw2645986919913364939:=()
def tw8505937411356212242:=()
def tw14158678202886337838:=()
def tw6484327039040289537:=()
def tw11751627352852408921:=()
def tw9298876839019190324:=()
def tw5341576053678980996:=()
def tw5458707637908812035:=()
def tw912338505832038066:=()
def tw4551553859272827322:=()
def tw3640635676166149258:=()
def tw3033219943787004195:=()
def tw17362027960613990194:=()
def tw4603452482703825147:=()
def tw1796666540820468148:=()
def tw9204228020980713005:=()
def tw6241292614657326050:=()
def tw80913849814023086:=()
def tw830711396481642557:=()
def tw14186027128195700105:=()
def tw5818602436038932817:=()
def tw4895703899002068549:=()
def tw4723319760302863177:=()
def tw3117543389480109210:=()
def tw3456796564782042238:=()
def tw16837941717865059014:=()
def tw1546097034227815539:=()
def tw14700244181044983836:=()
def tw11043370655177121049:=()
def tw16904102517133322944:=()
def tw844074496826181066:=()
def tw10039959672505831275:=()
def tw17106903304754784579:=()
def tw9141698989816597217:=()
def tw5509542682723829101:=()
def tw13093061623442599943:=()
def tw6433674959204512485:=()
def tw14835388382398221046:=()
def tw6373532534381252787:=()
def tw7841816820011876769:=()
def tw3831537451963969893:=()
def tw5740021694998785770:=()
def tw16509821745516843760:=()
def tw12550277801641301259:=()
def tw9403731947272641497:=()
def tw5739067737017842699:=()
def tw18430851640842397843:=()
def tw9968834067677121959:=()
def tw5968509579044052958:=()
def tw11808278949077545535:=()
def tw12754346793782999050:=()
def tw2209576010547826328:=()
def tw17081993494140083264:=()
def tw16005414213097117870:=()
def tw12952073714508823880:=()
def tw15886257056719876067:=()
def tw367817121481916716:=()
def tw2157434393328465442:=()
def tw13510667167380268695:=()
def tw1779416509293695793:=()
def tw13902589072683372587:=()
def tw5935563440841667969:=()
def tw4068403292490872534:=()
def tw3916922625245016786:=()
def tw15586702862429157004:=()
def tw2405416914215883631:=()
def tw16532021918877752249:=()
def tw11524233742314513174:=()
def tw902850739186726911:=()
def tw1579691955619385561:=()
def tw8332454201942158279:=()
def tw2536633267936995985:=()
def tw2520911739459405408:=()
def tw13224748012737025477:=()
def tw12397597536185592040:=()
def tw15124514492915393010:=()
def tw7959266893329719194:=()
def tw3877772684009168945:=()
def tw10155675753490031567:=()
def tw12241648881516592291:=()
def tw5643906498511404311:=()
def tw7566688435212419735:=()
def tw10248959986369143802:=()
def tw5309944581218338476:=()
def tw16722899651282276392:=()
def tw7606854883386171768:=()
def tw13096588199090778650:=()
def tw13442678109756115915:=()
def tw11534853884087856168:=()
def tw3886615474143731807:=()
def tw17643914974668279984:=()
def tw17166910674015512633:=()
def tw9271286392728823161:=()
def tw10869595124176426605:=()
def tw12365119433971493429:=()
def tw2888950056522151005:=()
def tw13480649860591150684:=()
def tw4135899082099389812:=()
def tw4171795499603095298:=()
def tw7431777042982749482:=()
def tw2296276924613339166:=()
def tw11285436408058503013:=()
def tw12803188453264249260:=()
def tw13616586679062713321:=()
def tw11281236854394811056:=()
def tw7326343699789288945:=()
def tw9887604268325506649:=()
def tw15134205991597297010:=()
def tw11930114841222307901:=()
def tw11327390752849810141:=()
def tw1738065214919898818:=()
def tw726003632307364815:=()
def tw875444076356151969:=()
def tw17897246549363867185:=()
def tw6896453334526945220:=()
def tw7638639002164915266:=()
def tw2482952384634956701:=()
def tw508506755793802857:=()
def tw612817507586329027:=()
def tw7438660965589135595:=()
def tw9272739429750585848:=()
def tw961443369909564332:=()
def tw4556398578767299606:=()
def tw15071719707647543887:=()
def tw14182969688558204651:=()
def tw8836510325945365359:=()
def tw7978200446280442813:=()
def tw13613582609200305848:=()
def tw8199404010147107590:=()
def tw14001924783035275422:=()
def tw16030848618435906681:=()
def tw13052642144018136679:=()
def tw15917453860904081227:=()
def tw10666812632372623515:=()
def tw1871659946652622238:=()
def tw14267045653935277857:=()
def tw14119517619316828953:=()
def tw16551527372924014615:=()
def tw16134398742943788965:=()
def tw6490896585373378525:=()
def tw4478225547969264280:=()
def tw12671342585680322825:=()
def tw13288642244648914118:=()
def tw17585724251815989605:=()
def tw2798452026447374494:=()
def tw10810506730924240379:=()
def tw16833616621128951238:=()
def tw10253166162716092960:=()
def tw1496178417726184615:=()
def tw13808261846398114880:=()
def tw17993935905550303000:=()
def tw4316453448034814214:=()
def tw13989279097341612359:=()
def tw10118859725730478315:=()
def tw14149022633194651424:=()
def tw2316084321320580230:=()
def tw3965417766966692856:=()
def tw9039152875128065281:=()
def tw4219610933740974441:=()
def tw8872826233299355756:=()
def tw7754231219546732149:=()
def tw14531743773303879373:=()
def tw4491676859056058666:=()
def tw18211948567927267672:=()
def tw17914020042709805804:=()
def tw4664961449779879352:=()
def tw169382337211916907:=()
def tw3000394444436121016:=()
end PySem.W.Fast
open PySem PySem.W PyProof.Rows
set_option maxRecDepth 100000 in
set_option maxHeartbeats 0 in
theorem PySem.Challenge.cw_ownturn_k69_whole_leaders_go_round_holds : PySem.Challenge.rw_ownturn_k69_whole_leaders_go_round.Holds := by
 w_on; o_law; k_head; (case hw => w_witness2)
 k_fill
 refine Ot.walk (l := PySem.Challenge.rw_ownturn_k69_whole_leaders_go_round) rfl rfl (fun w h Y => PySem.W.kIn_of Y) ?F
 case F =>
  intro w mg fa h KX G hmg
  refine' Ot.all_mk KX G hmg (L2.at_mk KX G ?a0 ?l0 ?c0 ?k0) (L2.blt_mk KX G ?z1 ?z2 ?z3 ?z4 ?z5 ?z6 ?z7 ?z8 ?z9 ?z10 ?z11 ?z12 ?z13 ?z14 ?z15 ?z16) (PySem.W.mg_none_of KX G ?zall) (PySem.W.mg_none_of KX G ?zsum) (L2.at_mk KX G ?a1 ?l1 ?c1 ?k1) (L2.at_mk KX G ?a2 ?l2 ?c2 ?k2) (L2.at_mk KX G ?a3 ?l3 ?c3 ?k3) (L2.at_mk KX G ?a4 ?l4 ?c4 ?k4) (L2.at_mk KX G ?a5 ?l5 ?c5 ?k5) (L2.at_mk KX G ?a6 ?l6 ?c6 ?k6) (L2.at_mk KX G ?a7 ?l7 ?c7 ?k7) (L2.at_mk KX G ?a8 ?l8 ?c8 ?k8) (L2.at_mk KX G ?a9 ?l9 ?c9 ?k9) (L2.at_mk KX G ?a10 ?l10 ?c10 ?k10) (L2.at_mk KX G ?a11 ?l11 ?c11 ?k11) (L2.at_mk KX G ?a12 ?l12 ?c12 ?k12) (L2.at_mk KX G ?a13 ?l13 ?c13 ?k13) (L2.at_mk KX G ?a14 ?l14 ?c14 ?k14) (L2.at_mk KX G ?a15 ?l15 ?c15 ?k15) (L2.at_mk KX G ?a16 ?l16 ?c16 ?k16) (L2.at_mk KX G ?a17 ?l17 ?c17 ?k17) (L2.at_mk KX G ?a18 ?l18 ?c18 ?k18) (L2.at_mk KX G ?a19 ?l19 ?c19 ?k19) (L2.at_mk KX G ?a20 ?l20 ?c20 ?k20) (L2.at_mk KX G ?a21 ?l21 ?c21 ?k21) (L2.at_mk KX G ?a22 ?l22 ?c22 ?k22) (L2.at_mk KX G ?a23 ?l23 ?c23 ?k23) (L2.at_mk KX G ?a24 ?l24 ?c24 ?k24) (L2.at_mk KX G ?a25 ?l25 ?c25 ?k25) (L2.at_mk KX G ?a26 ?l26 ?c26 ?k26) (L2.at_mk KX G ?a27 ?l27 ?c27 ?k27) (L2.at_mk KX G ?a28 ?l28 ?c28 ?k28) (L2.at_mk KX G ?a29 ?l29 ?c29 ?k29) (L2.at_mk KX G ?a30 ?l30 ?c30 ?k30) (L2.at_mk KX G ?a31 ?l31 ?c31 ?k31) (L2.at_mk KX G ?a32 ?l32 ?c32 ?k32) (L2.at_mk KX G ?a33 ?l33 ?c33 ?k33) (L2.at_mk KX G ?a34 ?l34 ?c34 ?k34) (L2.at_mk KX G ?a35 ?l35 ?c35 ?k35) (L2.at_mk KX G ?a36 ?l36 ?c36 ?k36) ?xgBadRing ?xiBadRing
  (case xgBadRing => k_is)
  (case xiBadRing => k_exc)
  (case a0 => k_is); (case l0 => k_is); (case c0 => k_is); (case k0 => k_is)
  (case a1 => k_is); (case l1 => k_is); (case c1 => k_is); (case k1 => k_is)
  (case a2 => k_is); (case l2 => k_is); (case c2 => k_is); (case k2 => k_is)
  (case a3 => k_is); (case l3 => k_is); (case c3 => k_is); (case k3 => k_is)
  (case a4 => k_is); (case l4 => k_is); (case c4 => k_is); (case k4 => k_is)
  (case a5 => k_is); (case l5 => k_is); (case c5 => k_is); (case k5 => k_is)
  (case a6 => k_is); (case l6 => k_is); (case c6 => k_is); (case k6 => k_is)
  (case a7 => k_is); (case l7 => k_is); (case c7 => k_is); (case k7 => k_is)
  (case a8 => k_is); (case l8 => k_is); (case c8 => k_is); (case k8 => k_is)
  (case a9 => k_is); (case l9 => k_is); (case c9 => k_is); (case k9 => k_is)
  (case a10 => k_is); (case l10 => k_is); (case c10 => k_is); (case k10 => k_is)
  (case a11 => k_is); (case l11 => k_is); (case c11 => k_is); (case k11 => k_is)
  (case a12 => k_is); (case l12 => k_is); (case c12 => k_is); (case k12 => k_is)
  (case a13 => k_is); (case l13 => k_is); (case c13 => k_is); (case k13 => k_is)
  (case a14 => k_is); (case l14 => k_is); (case c14 => k_is); (case k14 => k_is)
  (case a15 => k_is); (case l15 => k_is); (case c15 => k_is); (case k15 => k_is)
  (case a16 => k_is); (case l16 => k_is); (case c16 => k_is); (case k16 => k_is)
  (case a17 => k_is); (case l17 => k_is); (case c17 => k_is); (case k17 => k_is)
  (case a18 => k_is); (case l18 => k_is); (case c18 => k_is); (case k18 => k_is)
  (case a19 => k_is); (case l19 => k_is); (case c19 => k_is); (case k19 => k_is)
  (case a20 => k_is); (case l20 => k_is); (case c20 => k_is); (case k20 => k_is)
  (case a21 => k_is); (case l21 => k_is); (case c21 => k_is); (case k21 => k_is)
  (case a22 => k_is); (case l22 => k_is); (case c22 => k_is); (case k22 => k_is)
  (case a23 => k_is); (case l23 => k_is); (case c23 => k_is); (case k23 => k_is)
  (case a24 => k_is); (case l24 => k_is); (case c24 => k_is); (case k24 => k_is)
  (case a25 => k_is); (case l25 => k_is); (case c25 => k_is); (case k25 => k_is)
  (case a26 => k_is); (case l26 => k_is); (case c26 => k_is); (case k26 => k_is)
  (case a27 => k_is); (case l27 => k_is); (case c27 => k_is); (case k27 => k_is)
  (case a28 => k_is); (case l28 => k_is); (case c28 => k_is); (case k28 => k_is)
  (case a29 => k_is); (case l29 => k_is); (case c29 => k_is); (case k29 => k_is)
  (case a30 => k_is); (case l30 => k_is); (case c30 => k_is); (case k30 => k_is)
  (case a31 => k_is); (case l31 => k_is); (case c31 => k_is); (case k31 => k_is)
  (case a32 => k_is); (case l32 => k_is); (case c32 => k_is); (case k32 => k_is)
  (case a33 => k_is); (case l33 => k_is); (case c33 => k_is); (case k33 => k_is)
  (case a34 => k_is); (case l34 => k_is); (case c34 => k_is); (case k34 => k_is)
  (case a35 => k_is); (case l35 => k_is); (case c35 => k_is); (case k35 => k_is)
  (case a36 => k_is); (case l36 => k_is); (case c36 => k_is); (case k36 => k_is)
  (case zall => k_is)
  (case zsum => k_is)
  (case z1 => k_is)
  (case z2 => k_is)
  (case z3 => k_is)
  (case z4 => k_is)
  (case z5 => k_is)
  (case z6 => k_is)
  (case z7 => k_is)
  (case z8 => k_is)
  (case z9 => k_is)
  (case z10 => k_is)
  (case z11 => k_is)
  (case z12 => k_is)
  (case z13 => k_is)
  (case z14 => k_is)
  (case z15 => k_is)
  (case z16 => k_is)
