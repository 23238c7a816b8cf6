import PyProof.Rows.All
import Wide.All
import OpenK.AllK
import Wide.FinOn
import Lean
import PyProof.EqAt
import PyProof.EqKinds
import PyProof.TupleCall
import Lean
import PyProof.ExcInit
import PyProof.ExcClass3
import PyProof.InstStoreFacts
import KE.KIsAll
import KE.KTryMore
import PyProof.ExcBaseAll.ValueError
import PyProof.ExcArgsOwn
import KE.RegKIsAll
import KE.RegKTryMore
import PyProof.RulesAs
import PyProof.WalksMore
import PySem.Challenge.RW_ownturn_k55_orders_done
local macro_rules | `(tactic| omega) => `(tactic| lia)
set_option compiler.extract_closed false
set_option Elab.async false
set_option linter.all false
set_option maxRecDepth 100000
namespace L2
open PySem PySem.Spec PyProof.Rows
noncomputable abbrev Key:=Sum Int Str
noncomputable def Zk:Key->Value->Bool
 | .inl k,v=>Value.isInt k v
 | .inr x,v=>Value.isStrOf x v
noncomputable def L5 (w:World):Key->Int
 | .inl k=>hashInt k
 | .inr x=>hashStr w x
theorem ql:∀ {k:Key} {v:Value},Zk k v=true->(∃ i t,k=Sum.inl i/\v=Value.int i t) \/ (∃ x t,k=Sum.inr x/\v=Value.str x t)
 | .inl i,v,h=>by
  obtain ⟨t,e⟩:=Value.isInt_shape (k:=i) (v:=v) h
  exact .inl ⟨i,t,rfl,e⟩
 | .inr x,v,h=>by
  obtain ⟨t,e⟩:=Value.isStrOf_shape (x:=x) (v:=v) h
  exact .inr ⟨x,t,rfl,e⟩
theorem Yw (i:Int)(t:Tok):Zk (.inl i) (.int i t)=true:=by simp [Zk,Value.isInt]
theorem YY (x:Str)(t:Tok):Zk (.inr x) (.str x t)=true:=by simp [Zk,Value.isStrOf]
theorem HG (a b:Int):decide ((Sum.inl a:Key)=Sum.inl b)=(a == b):=by
 by_cases e:a=b
 ·subst e;simp
 ·have h:¬ (Sum.inl a:Key)=Sum.inl b:=fun q=>e (Sum.inl.inj q)
  rw [decide_eq_false h]
  exact (beq_eq_false_iff_ne.mpr e).symm
theorem Hk (a b:Str):decide ((Sum.inr a:Key)=Sum.inr b)=decide (a=b):=by
 by_cases e:a=b
 ·subst e;simp
 ·have h:¬ (Sum.inr a:Key)=Sum.inr b:=fun q=>e (Sum.inr.inj q)
  rw [decide_eq_false h,decide_eq_false e]
theorem G2 (a:Int)(b:Str):decide ((Sum.inl a:Key)=Sum.inr b)=false:=decide_eq_false (fun q=>nomatch q)
theorem Iq (a:Str)(b:Int):decide ((Sum.inr a:Key)=Sum.inl b)=false:=decide_eq_false (fun q=>nomatch q)
noncomputable def jF (prog:Program)(w:World):PySem.KeyKind prog w Key where
 is:=Zk
 hash:=L5 w
 inj:=fun v a b ha hb=>by
  rcases ql ha with ⟨i,t,rfl,rfl⟩ | ⟨x,t,rfl,rfl⟩
  ·rcases ql hb with ⟨j,u,rfl,e⟩ | ⟨y,u,rfl,e⟩
   ·injection e with e1 _;rw [e1]
   ·exact nomatch e
  ·rcases ql hb with ⟨j,u,rfl,e⟩ | ⟨y,u,rfl,e⟩
   ·exact nomatch e
   ·injection e with e1 _;rw [e1]
 byValue:=fun k v h=>by
  rcases ql h with ⟨i,t,rfl,rfl⟩ | ⟨x,t,rfl,rfl⟩ <;> rfl
 pyHash:=fun hv h=>by
  rcases ql hv with ⟨i,t,rfl,rfl⟩ | ⟨x,t,rfl,rfl⟩
  ·exact wpAny_pyHash_int h
  ·exact wpAny_pyHash_str h
 eqBool:=fun hu hv h=>by
  rcases ql hu with ⟨i,t,rfl,rfl⟩ | ⟨x,t,rfl,rfl⟩
  ·rcases ql hv with ⟨j,u,rfl,rfl⟩ | ⟨y,u,rfl,rfl⟩
   ·rw [HG] at h;exact wpAny_eqBool_int h
   ·rw [G2] at h;exact SeqAt.EqAt.int_str i t y u _ _ _ _ h
  ·rcases ql hv with ⟨j,u,rfl,rfl⟩ | ⟨y,u,rfl,rfl⟩
   ·rw [Iq] at h;exact SeqAt.EqAt.str_int x t j u _ _ _ _ h
   ·rw [Hk] at h;exact wpAny_eqBool_str h
 «strs»:=fun k x t v h=>by
  rcases ql h with ⟨i,u,rfl,e⟩ | ⟨y,u,rfl,e⟩
  ·exact nomatch e
  ·injection e with e1 _
   subst e1
   cases v <;> rfl
theorem QO (prog:Program)(w:World)(i:Int)(t:Tok):(jF prog w).is (.inl i) (.int i t)=true:=Yw i t
theorem QG (prog:Program)(w:World)(x:Str)(t:Tok):(jF prog w).is (.inr x) (.str x t)=true:=YY x t
inductive V where
 | non | bl (b:Bool) | int (i:Int) | str (x:Str) | byt (b:Array UInt8) | flt (b:UInt64) | ref (a:Addr) | ty (n:String)
 deriving DecidableEq
noncomputable def zz:V->Value->Prop
 | .non,u=>u=Value.none
 | .bl b,u=>u=Value.bool b
 | .int i,u=>∃ t,u=Value.int i t
 | .str x,u=>∃ t,u=Value.str x t
 | .byt b,u=>∃ t,u=Value.bytes b t
 | .flt b,u=>∃ t,u=Value.float b t
 | .ref a,u=>u=Value.ref a
 | .ty n,u=>u=Value.type n
noncomputable abbrev zB:List V->List Value->Prop:=Paired zz
variable {us:List Value}
theorem zB.length {xs:List V} (r:zB xs us):xs.length=us.length:=Paired.length r
theorem zB.get:∀ {xs:List V} {us:List Value} {i:Nat} {x:V},zB xs us->xs[i]?=some x->∃ u,us[i]?=some u/\zz x u
 | _,_,_,_,.nil,e=>by simp at e
 | _,_,0,_,.cons r _,e=>by simp at e;subst e;exact ⟨_,rfl,r⟩
 | _,_,i+1,x,.cons _ t,e=>by
  obtain ⟨u,h1,h2⟩:=zB.get (i:=i) (x:=x) t (by simpa using e)
  exact ⟨u,by simpa using h1,h2⟩
theorem zB.set {x:V}{u:Value}(r:zz x u):∀ {xs:List V} {us:List Value} (i:Nat),zB xs us->zB (xs.set i x) (us.set i u)
 | _,_,_,.nil=>.nil
 | _,_,0,.cons _ t=>.cons r t
 | _,_,i+1,.cons q t=>.cons q (zB.set r i t)
theorem zB.append:∀ {xs ys:List V} {us ws:List Value},zB xs us->zB ys ws->zB (xs ++ ys) (us ++ ws)
 | _,_,_,_,.nil,s=>s
 | _,_,_,_,.cons r t,s=>.cons r (zB.append t s)
theorem zB.take:∀ {xs:List V} {us:List Value} (n:Nat),zB xs us->zB (xs.take n) (us.take n)
 | _,_,0,_=>.nil
 | _,_,_+1,.nil=>.nil
 | _,_,n+1,.cons r t=>.cons r (zB.take n t)
theorem zB.drop:∀ {xs:List V} {us:List Value} (n:Nat),zB xs us->zB (xs.drop n) (us.drop n)
 | _,_,0,r=>r
 | _,_,_+1,.nil=>.nil
 | _,_,n+1,.cons _ t=>zB.drop n t
noncomputable def xN:Option V->Option Value->Prop
 | some v,some u=>zz v u
 | none,none=>True
 | _,_=>False
noncomputable def KV {κ:Type}:List (κ × V)->List (κ × Value)->Prop:=Paired fun (p:κ × V) (q:κ × Value)=>p.1=q.1/\zz p.2 q.2
noncomputable def kV:Key->V
 | .inl i=>.int i
 | .inr x=>.str x
inductive HO where
  | lst (xs:List V)
  | tup (xs:List V)
  | dK (kvs:List (Key × V)) | dT (kvs:List (List Key × V))
  | set (S:Int->Bool) (n:Nat)
  | ins (C dx:Addr) (fs:List (Str × V))
  | own (x:Addr)
  | xd (fs:List (Str × V))
  | met (f x:Addr)
  | rng (lo hi:Int)
  | frz (o:Obj) (u:HO)
  | tbl (ps:Array Value)
  | ext (φ:Heap->Prop)
noncomputable abbrev Hp:=Addr->Option HO
noncomputable def upd (H:Hp)(a:Addr)(o:HO):Hp:=fun b=>if b=a then some o else H b
variable {H:Hp} {a:Addr} {o:HO}
theorem zk:upd H a o a=some o:=by unfold upd;rw [if_pos rfl]
variable {b:Addr}
theorem zh (h:b ≠ a):upd H a o b=H b:=by unfold upd;rw [if_neg h]
variable {u:HO}
theorem xj:upd (upd H a o) a u=upd H a u:=by
 funext b;unfold upd;split <;> rfl
theorem QK (h:H a=some o)(h':H b=some u)(d:o ≠ u):a ≠ b:=by
 intro e;subst e;rw [h] at h';exact d (Option.some.inj h')
theorem zl (h:H a=some o)(h':H b=none):a ≠ b:=by
 intro e;subst e;rw [h] at h';cases h'
noncomputable def Qc (h:Heap)(a:Addr)(items:Array Value):Prop:=∃ o,h.get? a=some o/\o.cls=.type "tuple"/\(∃ n,o.data=.seq items n)/\o.dict=none
variable {items:Array Value}
theorem Qc.is {h:Heap} (x:Qc h a items):IsTup h a items:=let ⟨o,e,c,n,_⟩:=x;⟨o,e,c,n⟩
theorem Qc.lt {h:Heap} (x:Qc h a items):a<h.objs.size:=x.is.lt
theorem Qc.new (h:Heap)(items:Array Value):Qc (h.push { cls:=.type "tuple",data:=.seq items }) h.objs.size items:=⟨_,Heap.get?_push_size _ rfl,rfl,⟨_,rfl⟩,rfl⟩
section
variable (P:Program)(w:World)
noncomputable def zR (H:Hp)(h:Heap)(a:Addr):HO->Prop
  | .lst xs=>xs.length<=sizeLine/\∃ (its:List Value) (n:Nat),zB xs its/\h.get? a=some { cls:=.type "list",data:=.seq its.toArray n }
  | .tup xs=>xs.length<=sizeLine/\∃ its:List Value,zB xs its/\Qc h a its.toArray
  | .dK kvs=>kvs.length<=sizeLine/\(a == sysModules)=false/\∃ vs,KV kvs vs/\h.DictOf (jF P w) a vs
  | .dT kvs => kvs.length <= sizeLine /\ (a == sysModules) = false /\ ∃ xs : List (List Key × Addr × Value),
      Paired (fun (p:List Key × V) (q:List Key × Addr × Value)=>p.1=q.1/\H q.2.1=some (.tup (p.1.map kV))/\zz p.2 q.2.2) kvs xs /\
      ∃ o es ep,h.get? a=some o/\o.ExactDict/\o.data=.dict es ep/\es.toList=xs.map (entryOfKey (tupleKind (jF P w)))/\(xs.map (·.1)).Nodup
  | .set S n=>h.SetOf (intKind P w) a S n
  | .ins C dx fs => H dx = some (.own a) /\ fs.length <= 1000 /\ dx ≠ a /\ h.get? a = some (PySem.W.instObj C dx) /\
      ∃ mA,h.Ns1 dx mA/\(∀ f,xN (fs.lookup f) (mA f))/\PySem.Within mA (fs.map (·.1))
  | .own _=>∃ o,h.get? a=some o
  | .xd fs=>∃ mA,h.Ns1 a mA/\∀ f,xN (fs.lookup f) (mA f)
  | .rng lo hi=>∃ t u v,h.get? a=some { cls:=.type "range",data:=.fields #[.int lo t,.int hi u,.int 1 v] }
  | .frz o u=>h.get? a=some o/\zR H h a u
  | .tbl ps=>h.get? a=some { cls:=.none,data:=.fields ps }
  | .met f x=>h.get? a=some (PySem.W.methodObj (.ref f) (.ref x))
  | .ext φ=>φ h/\(∃ o,h.get? a=some o)/\∀ h1 h2:Heap,φ h1->(∀ o,h1.get? a=some o->h2.get? a=some o)->φ h2
noncomputable def HOk (H:Hp)(h:Heap):Prop:=∀ a o,H a=some o->zR P w H h a o
end
section
variable {P:Program}{w:World}{H H':Hp}{h h':Heap}{a:Addr}{o:HO}
theorem zR.lt (x:zR P w H h a o):a<h.objs.size:=by
 cases o with
 | lst xs=>obtain ⟨_,_,_,_,e⟩:=x;exact Heap.lt_size e
 | tup xs=>obtain ⟨_,_,_,p⟩:=x;exact p.lt
 | dK kvs=>obtain ⟨_,_,_,_,o,_,_,e,_⟩:=x;exact Heap.lt_size e
 | dT kvs=>obtain ⟨_,_,_,_,o,_,_,e,_⟩:=x;exact Heap.lt_size e
 | set S n=>obtain ⟨o,_,_,_,e,_⟩:=x;exact Heap.lt_size e
 | ins C dx fs=>obtain ⟨_,_,_,e,_⟩:=x;exact Heap.lt_size e
 | own y=>obtain ⟨_,e⟩:=x;exact Heap.lt_size e
 | xd fs=>obtain ⟨_,⟨_,_,_,e,_⟩,_⟩:=x;exact Heap.lt_size e
 | rng lo hi=>obtain ⟨_,_,_,e⟩:=x;exact Heap.lt_size e
 | frz ob u=>obtain ⟨e,_⟩:=x;exact Heap.lt_size e
 | tbl ps=>exact Heap.lt_size (show h.get? a=some _ from x)
 | met f y=>exact Heap.lt_size (show h.get? a=some _ from x)
 | ext φ=>obtain ⟨_,⟨_,e⟩,_⟩:=x;exact Heap.lt_size e
theorem Paired.mapP {α β:Type}{F G:α->β->Prop}:∀ {l₁:List α} {l₂:List β},Paired F l₁ l₂->(∀ a b,F a b->G a b)->Paired G l₁ l₂
 | _,_,.nil,_=>.nil
 | _,_,.cons r t,f=>.cons (f _ _ r) (Paired.mapP t f)
theorem zR.stay (x:zR P w H h a o)(k:∀ b u,(b=a \/ H b=some (.own a))->h.get? b=some u->h'.get? b=some u)
  (ho:∀ b,H b=some (.own a)->H' b=some (.own a)) (ht:∀ b xs,H b=some (.tup xs)->H' b=some (.tup xs)):zR P w H' h' a o:=by
 induction o with
 | lst xs=>obtain ⟨z,its,n,r,e⟩:=x;exact ⟨z,its,n,r,k _ _ (.inl rfl) e⟩
 | tup xs=>obtain ⟨z,its,r,ob,e,c⟩:=x;exact ⟨z,its,r,ob,k _ _ (.inl rfl) e,c⟩
 | dK kvs=>obtain ⟨z,y,vs,r,ob,es,ep,e,c⟩:=x;exact ⟨z,y,vs,r,ob,es,ep,k _ _ (.inl rfl) e,c⟩
 | dT kvs=>
  obtain ⟨z,y,xs,r,ob,es,ep,e,c⟩:=x
  exact ⟨z,y,xs,Paired.mapP r fun p q z=>⟨z.1,ht _ _ z.2.1,z.2.2⟩,ob,es,ep,k _ _ (.inl rfl) e,c⟩
 | set S n=>obtain ⟨ob,es,ep,t,e,c⟩:=x;exact ⟨ob,es,ep,t,k _ _ (.inl rfl) e,c⟩
 | ins C dx fs=>
  obtain ⟨d,z,ne,e,mA,⟨od,es,ep,e2,c⟩,r⟩:=x
  exact ⟨ho _ d,z,ne,k _ _ (.inl rfl) e,mA,⟨od,es,ep,k _ _ (.inr d) e2,c⟩,r⟩
 | own y=>obtain ⟨ob,e⟩:=x;exact ⟨ob,k _ _ (.inl rfl) e⟩
 | xd fs=>obtain ⟨mA,⟨od,es,ep,e,c⟩,r⟩:=x;exact ⟨mA,⟨od,es,ep,k _ _ (.inl rfl) e,c⟩,r⟩
 | rng lo hi=>obtain ⟨t,u,v,e⟩:=x;exact ⟨t,u,v,k _ _ (.inl rfl) e⟩
 | frz ob u ih=>obtain ⟨e,q⟩:=x;exact ⟨k _ _ (.inl rfl) e,ih q⟩
 | tbl ps=>
  have e:h.get? a=some { cls:=.none,data:=.fields ps }:=x
  show h'.get? a=some { cls:=.none,data:=.fields ps }
  exact k a _ (.inl rfl) e
 | met f y=>
  have e:h.get? a=some (PySem.W.methodObj (.ref f) (.ref y)):=x
  show h'.get? a=some (PySem.W.methodObj (.ref f) (.ref y))
  exact k a _ (.inl rfl) e
 | ext φ=>obtain ⟨p,⟨o,e⟩,st⟩:=x;exact ⟨st _ _ p fun o q=>k _ _ (.inl rfl) q,⟨o,k _ _ (.inl rfl) e⟩,st⟩
theorem HOk.lt (x:HOk P w H h)(e:H a=some o):a<h.objs.size:=(x a o e).lt
theorem HOk.fresh (x:HOk P w H h)(e:h.objs.size<=a):H a=none:=by
 cases q:H a with
 | none=>rfl
 | some u=>exact absurd (Nat.lt_of_lt_of_le (x.lt q) e) (Nat.lt_irrefl _)
theorem HOk.kept (x:HOk P w H h)(k:∀ b u,h.get? b=some u->h'.get? b=some u):HOk P w H h':=fun a o e=>
 (x a o e).stay (fun b u _ q=>k b u q) (fun _ q=>q) fun _ _ q=>q
theorem HOk.laid (x:HOk P w H h)(k:∀ b u,h.get? b=some u->h'.get? b=some u)(hp:h.objs.size<=a)(new:zR P w (upd H a o) h' a o):HOk P w (upd H a o) h':=fun b u e=>by
 have hn:=x.fresh hp
 by_cases hb:b=a
 ·subst hb;rw [zk] at e;cases e;exact new
 ·rw [zh hb] at e
  exact (x b u e).stay (fun c v _ q=>k c v q) (fun c q=>by rw [zh (zl q hn)];exact q) fun c xs q=>by rw [zh (zl q hn)];exact q
end
noncomputable def Rd (H:Hp)(a:Addr)(u:HO):Prop:=H a=some u \/ ∃ o,H a=some (.frz o u)
variable {P:Program} {w:World}
theorem Rd.ok {h:Heap} (r:Rd H a u)(x:HOk P w H h):zR P w H h a u:=by
 rcases r with r | ⟨o,r⟩
 ·exact x a u r
 ·obtain ⟨_,q⟩:=x a _ r
  exact q
noncomputable def Mut:Option HO->Prop
 | some (.lst _)=>True
 | some (.dK _)=>True
 | some (.dT _)=>True
 | some (.set _ _)=>True
 | some (.ins _ _ _)=>True
 | some (.ext _)=>True
 | _=>False
section
variable {P:Program}{w:World}{H:Hp}{h h':Heap}{x e:Addr}{o':HO}
theorem HOk.write (ok : HOk P w H h)(mu : Mut (H x))(he : e = x \/ H e = some (.own x))(k : ∀ b u, b ≠ e -> h.get? b = some u -> h'.get? b = some u)(heo : ∃ u, h'.get? e = some u)
    (new:zR P w (upd H x o') h' x o'):HOk P w (upd H x o') h':=fun b u q=>by
  have nown:∀ c y,H c=some (.own y)->c ≠ x:=fun c y r z=>by subst z;rw [r] at mu;exact mu
  have ntup:∀ c xs,H c=some (.tup xs)->c ≠ x:=fun c xs r z=>by subst z;rw [r] at mu;exact mu
  by_cases hb:b=x
  · subst hb;rw [zk] at q;cases q;exact new
  · rw [zh hb] at q
    by_cases hbe:b=e
    · have q' : H b = some (.own x) := by
        rcases he with z | z
        · exact absurd (hbe.trans z) hb
        · rw [hbe];exact z
      rw [q] at q';cases q'
      obtain ⟨v,hv⟩:=heo
      exact ⟨v,by rw [hbe];exact hv⟩
    · refine (ok b u q).stay (fun c v hc r=>k c v ?_ r) (fun c r=>by rw [zh (nown c b r)];exact r) fun c xs r=>by rw [zh (ntup c xs r)];exact r
      rcases hc with rfl | hc
      · exact hbe
      · rintro rfl
        rcases he with z | z
        · exact nown c b hc z
        · rw [hc] at z;cases z;exact hb rfl
end
structure Un (fs ex:List Addr)(H H':Hp)(h h':Heap):Prop where
 keep:∀ b o,h.get? b=some o->H b=none->b ∉ fs->b ∉ ex->h'.get? b=some o
 slot:∀ b o,h.get? b=some o->H b=none->b ∈ fs->b ∉ ex->∃ sl,h'.get? b=some { o with slots:=sl }
 free:∀ b o,h.get? b=some o->H b=none->b ∉ ex->H' b=none
 there:∀ b o,h.get? b=some o->b ∉ ex->∃ o',h'.get? b=some o'
 tups:∀ b xs,H b=some (.tup xs)->H' b=some (.tup xs)
 frzs:∀ b o u,H b=some (.frz o u)->H' b=some (.frz o u)
 tbls:∀ b ps,H b=some (.tbl ps)->∃ more,H' b=some (.tbl (ps ++ more))
section
variable {fs fs' ex ex':List Addr}{H H1 H2:Hp}{h h1 h2 h':Heap}{a x e:Addr}{o:HO}
theorem Un.any (u:Un fs ex H H1 h h1) {ob:Obj}(q:h.get? b=some ob)(n:H b=none)(hx:b ∉ ex):∃ sl,h1.get? b=some { ob with slots:=sl }:=by
 by_cases hb:b ∈ fs
 ·exact u.slot b ob q n hb hx
 ·exact ⟨ob.slots,u.keep b ob q n hb hx⟩
theorem Un.kept (k:∀ b u,h.get? b=some u->h'.get? b=some u):Un fs ex H H h h':=
 ⟨fun b ob q _ _ _=>k b ob q,fun b ob q _ _ _=>⟨ob.slots,k b ob q⟩,fun _ _ _ n _=>n,fun b ob q _=>⟨ob,k b ob q⟩,fun _ _ q=>q,fun _ _ _ q=>q,fun _ ps q=>⟨#[],by rw [q];simp⟩⟩
theorem Un.refl:Un fs ex H H h h:=Un.kept fun _ _ q=>q
theorem Un.laid (k:∀ b u,h.get? b=some u->h'.get? b=some u)(hp:h.objs.size<=a)(hn:H a=none):Un fs ex H (upd H a o) h h' where
 keep:=fun b u q _ _ _=>k b u q
 slot:=fun b u q _ _ _=>⟨u.slots,k b u q⟩
 free:=fun b u q n _=>by rw [zh (Nat.ne_of_lt (Nat.lt_of_lt_of_le (Heap.lt_size q) hp))];exact n
 there:=fun b u q _=>⟨u,k b u q⟩
 tups:=fun b xs q=>by rw [zh (zl q hn)];exact q
 frzs:=fun b u xs q=>by rw [zh (zl q hn)];exact q
 tbls:=fun b ps q=>⟨#[],by rw [zh (zl q hn),q];simp⟩
theorem Un.write (mu:Mut (H x))(he:e=x \/ H e=some (.own x))(k:∀ b u,b ≠ e->h.get? b=some u->h'.get? b=some u)(heo:∃ u,h'.get? e=some u):Un fs ex H (upd H x o) h h':=by
 have hx:∀ b,H b=none->b ≠ x:=fun b n z=>by subst z;rw [n] at mu;exact mu
 have hb:∀ b,H b=none->b ≠ e:=fun b n z=>by
  subst z
  rcases he with r | r
  ·exact hx b n r
  ·rw [n] at r;cases r
 have hm:∀ b u,H b=some u->¬ Mut (some u)->b ≠ x:=fun b u q nm z=>by subst z;rw [q] at mu;exact nm mu
 refine ⟨fun b u q n _ _=>k b u (hb b n) q,fun b u q n _ _=>⟨u.slots,k b u (hb b n) q⟩,fun b u q n _=>by rw [zh (hx b n)];exact n,fun b u q _=>?_,
  fun b xs q=>by rw [zh (hm b _ q fun z=>z)];exact q,fun b u xs q=>by rw [zh (hm b _ q fun z=>z)];exact q,fun b ps q=>⟨#[],by rw [zh (hm b _ q fun z=>z),q];simp⟩⟩
 by_cases hbe:b=e
 ·subst hbe;exact heo
 ·exact ⟨u,k b u hbe q⟩
end
noncomputable def trk (h:Heap)(H:Hp):List Addr:=(List.range h.objs.size).filter fun a=>(H a).isSome
noncomputable def ZR (h:Heap)(H:Hp):Heap:=PySem.W.hideAll h (trk h H)
theorem YI (h:Heap)(H:Hp):(ZR h H).objs.size=h.objs.size:=PySem.W.hideAll_size _ _
theorem B7 {h:Heap} {o:Obj}(e:h.get? b=some o)(n:H b=none):(ZR h H).get? b=some o:=
 PySem.W.hideAll_get _ e fun hm=>by
  have q:(H b).isSome=true:=(List.mem_filter.mp hm).2
  rw [n] at q;simp at q
theorem DJ {h:Heap}{H:Hp}{b:Addr}{o:Obj}(e:(ZR h H).get? b=some o):h.get? b=some o/\H b=none:=by
 have e':h.get? b=some o:=PySem.W.of_hideAll (trk h H) e
 refine ⟨e',?_⟩
 cases q:H b with
 | none=>rfl
 | some x=>
  have hm:b ∈ trk h H:=List.mem_filter.mpr ⟨List.mem_range.mpr (Heap.lt_size e'),by simp [q]⟩
  have z:(ZR h H).get? b=none:=PySem.W.hideAll_none (trk h H) hm
  rw [z] at e;cases e
noncomputable def Ep (g h:Heap)(L:Addr):List (Addr × Obj):=(List.range h.objs.size).filterMap fun a=>if a=L \/ (g.get? a).isSome=true then none else (h.get? a).map fun o=>(a,o)
noncomputable def qG (g h:Heap)(L d:Addr):List (Addr × Obj):=(Ep g h L).filter fun p=>decide (p.1 ≠ d)
structure Mod (K:PySem.W.Frag)(mg:Str->Option Value)(base:Heap):Prop where
 kin:K.In base
 glob:base.Ns mainGlobals mg
 blt:∃ mb,base.Ns builtinsNs mb/\∀ x:Str,x ≠ "__name__"->mb x=bootBuiltins x
 nolimit:base.NoLimit
structure Cx where
 prog:Program
 w:World
 K:PySem.W.Frag
 mg:Str->Option Value
 base:Heap
 A:Around
 N:List Str
 s₀:Shared
 H₀:Hp
 env:Env
 outer:List Env
 stack:List Env
 ex:List Addr
 fn:Str->Bool
 calm:Bool
 pn:List (Addr × Obj)
 xe:Value->Shared->Prop
noncomputable def frs (l:List Env):List Addr:=l.filterMap (·.frame)
noncomputable abbrev Cx.fs (X:Cx):List Addr:=frs X.outer
noncomputable def Vis (sc:Scope)(x:Str):Prop:=sc.names.lookup x=some .local \/ sc.names.lookup x=some .cell \/ sc.names.lookup x=some .free
noncomputable def Loc (sc:Scope)(x:Str):Prop:=sc.names.lookup x=some .local \/ sc.names.lookup x=some .cell
noncomputable def LQ (env:Env)(h:Heap)(m:Str->Option Value)(x:Str)(u:Value):Prop:=
 (env.kindOf x=some .local/\m x=some u) \/ ((env.kindOf x=some .cell \/ env.kindOf x=some .free)/\∃ c,env.cells.lookup x=some c/\h.IsCell c (some u))
structure Cx.Ok (X:Cx):Prop where
 mod:Mod X.K X.mg X.base
 kind:X.env.scope.kind=.function
 glob:X.env.globals=mainGlobals
 blt:X.env.builtins=builtinsNs
 above:X.s₀.heap.objs.size<=X.env.locals
 inj:∀ x y c,X.env.cells.lookup x=some c->X.env.cells.lookup y=some c->x=y
 has:∀ x,(X.env.kindOf x=some .cell \/ X.env.kindOf x=some .free)->∃ c,X.env.cells.lookup x=some c
 cab:∀ x c,X.fn x=true->X.env.cells.lookup x=some c->X.s₀.heap.objs.size<=c
 hd:X.calm=true->X.A.handled=none
 frames:X.A.frames=some X.stack
 stk:X.stack=X.outer \/ (X.stack=X.env :: X.outer/\X.env.frame=some X.env.locals)
 exf:∀ b ∈ X.ex,b ≠ X.env.locals/\∀ x c,X.env.cells.lookup x=some c->c ≠ b
 bs:∀ b o,X.base.get? b=some o->X.s₀.heap.get? b=some o/\X.H₀ b=none
 bsz:X.base.objs.size<=X.s₀.heap.objs.size
 noex:∀ b o,X.base.get? b=some o->b ∉ X.ex
 exfs:∀ b ∈ X.ex,b ∉ X.fs
 funs:X.s₀.heap.FunFrames X.base X.outer
 frf:∀ b ∈ X.fs,X.H₀ b=none
structure Inv (X:Cx)(pins:List (Addr × Obj))(σ:List (Option V))(H:Hp)(s:Shared):Prop where
 ok:X.Ok
 os:s.os=X.s₀.os
 bare:AllBare s.gens
 base:Un X.fs X.ex X.H₀ H X.s₀.heap s.heap
 loc:∃ m,s.heap.Ns X.env.locals m/\∀ (i:Nat) (x:Str) (v:V),X.N[i]?=some x->σ[i]?=some (some v)->Vis X.env.scope x->∃ u,zz v u/\LQ X.env s.heap m x u
 cell:∀ x c,X.env.cells.lookup x=some c->∃ v,s.heap.IsCell c v
 free:H X.env.locals=none
 freeC:∀ x c,X.env.cells.lookup x=some c->H c=none
 pin:∀ p ∈ X.pn ++ pins,s.heap.get? p.1=some p.2/\H p.1=none/\p.1 ≠ X.env.locals/\p.1 ∉ X.fs/\∀ v,p.2.data ≠ .cell v
 hok:HOk X.prog X.w H s.heap
 len:σ.length=X.N.length
section
variable {X:Cx}{pins:List (Addr × Obj)}{σ:List (Option V)}{H H':Hp}{s:Shared}{h':Heap}
theorem Cx.Ok.nofr (ok:X.Ok) {o:Obj}(e:X.base.get? b=some o):b ∉ X.fs:=fun hb=>by
 have:=(ok.funs.mem hb).1
 rw [e] at this;cases this
theorem Inv.bs (I:Inv X pins σ H s):∀ b o,X.base.get? b=some o->s.heap.get? b=some o/\H b=none:=fun b o e=>
 ⟨I.base.keep b o (I.ok.bs b o e).1 (I.ok.bs b o e).2 (I.ok.nofr e) (I.ok.noex b o e),I.base.free b o (I.ok.bs b o e).1 (I.ok.bs b o e).2 (I.ok.noex b o e)⟩
theorem Inv.bk (I:Inv X pins σ H s):∀ b o,X.base.get? b=some o->s.heap.get? b=some o:=fun b o e=>(I.bs b o e).1
theorem Inv.mod (I:Inv X pins σ H s):Mod X.K X.mg X.base:=I.ok.mod
theorem Inv.kIn (I:Inv X pins σ H s):X.K.In s.heap:=I.ok.mod.kin.keeps I.bk
theorem Inv.lt (I:Inv X pins σ H s):X.env.locals<s.heap.objs.size:=let ⟨_,hn,_⟩:=I.loc;hn.lt
theorem Inv.sz (I:Inv X pins σ H s):X.s₀.heap.objs.size<=s.heap.objs.size:=Nat.le_trans I.ok.above (Nat.le_of_lt I.lt)
theorem Inv.nofs (I:Inv X pins σ H s) (h:s.heap.objs.size<=a):a ∉ X.fs:=fun hb=>by
 obtain ⟨_,o,ho,_⟩:=I.ok.funs.mem hb
 exact absurd (Nat.lt_of_lt_of_le (Heap.lt_size ho) (Nat.le_trans I.sz h)) (Nat.lt_irrefl _)
theorem Inv.cne (I:Inv X pins σ H s):∀ x c,X.env.cells.lookup x=some c->c ≠ X.env.locals:=fun x c e z=>by
 obtain ⟨v,o,ho,hd⟩:=I.cell x c e
 obtain ⟨m,⟨o',es,ep,ho',hd',_⟩,_⟩:=I.loc
 rw [z,ho'] at ho;cases ho;rw [hd'] at hd;cases hd
theorem Inv.funs (I:Inv X pins σ H s):s.heap.FunFrames X.base X.outer:=by
 have all:∀ (l:List Env),(∀ b ∈ frs l,b ∈ X.fs)->X.s₀.heap.FunFrames X.base l->s.heap.FunFrames X.base l:=by
  intro l
  induction l with
  | nil=>intro _ _;trivial
  | cons env r ih=>
   intro hs hl
   obtain ⟨hk,⟨L,o,hf,hn,ho,hd⟩,hr⟩:=hl
   have hL:L ∈ X.fs:=hs L (by unfold frs;rw [List.filterMap_cons,hf];exact List.mem_cons_self)
   obtain ⟨sl,e⟩:=I.base.slot L o ho (I.ok.frf L hL) hL fun z=>I.ok.exfs L z hL
   exact ⟨hk,⟨L,_,hf,hn,e,hd⟩,ih (fun b hb=>hs b (by unfold frs;rw [List.filterMap_cons,hf];exact List.mem_cons_of_mem _ hb)) hr⟩
 exact all X.outer (fun _ hb=>hb) I.ok.funs
theorem Inv.stack (I:Inv X pins σ H s):s.heap.FunFrames X.base X.stack:=by
 rcases I.ok.stk with e | ⟨e,hf⟩
 ·rw [e];exact I.funs
 ·rw [e]
  obtain ⟨m,hn,_⟩:=I.loc
  refine .cons (by rw [I.ok.kind];decide) hf hn ?_ I.funs
  exact Heap.get?_none_of_le (Nat.le_trans I.ok.bsz I.ok.above)
theorem Inv.stkSub (I:Inv X pins σ H s):∀ b ∈ frs X.stack,b ∈ X.env.locals :: X.fs:=fun b hb=>by
 rcases I.ok.stk with e | ⟨e,hf⟩
 ·rw [e] at hb;exact List.mem_cons_of_mem _ hb
 ·rw [e] at hb
  unfold frs at hb
  rw [List.filterMap_cons,hf] at hb
  exact hb
theorem Inv.stkFree (I:Inv X pins σ H s):∀ b ∈ frs X.stack,H b=none:=fun b hb=>by
 rcases List.mem_cons.mp (I.stkSub b hb) with e | hb
 ·rw [e];exact I.free
 ·obtain ⟨_,o,ho,_⟩:=I.ok.funs.mem hb
  exact I.base.free b o ho (I.ok.frf b hb) fun z=>I.ok.exfs b z hb
variable {g':Array GenState} {t':Nat} {d':Drawn} {ch:List Addr}
theorem Inv.step (I:Inv X pins σ H s)
  (hch:∀ b ∈ ch,(b ∈ X.ex \/ X.s₀.heap.objs.size<=b)/\b ≠ X.env.locals/\(∀ x c,X.env.cells.lookup x=some c->c ≠ b)/\∀ p ∈ X.pn ++ pins,p.1 ≠ b)
  (keep:∀ b o,b ≠ X.env.locals->b ∉ X.fs->b ∉ ch->s.heap.get? b=some o->H b=none->h'.get? b=some o)
  (slot:∀ b o,b ≠ X.env.locals->b ∈ X.fs->b ∉ ch->s.heap.get? b=some o->H b=none->∃ sl,h'.get? b=some { o with slots:=sl }) (free:∀ b o,b ∉ ch->s.heap.get? b=some o->H b=none->H' b=none)
  (there:∀ b o,b ∉ ch->s.heap.get? b=some o->∃ o',h'.get? b=some o')
  (tups:∀ b xs,H b=some (.tup xs)->H' b=some (.tup xs)) (frzs:∀ b o u,H b=some (.frz o u)->H' b=some (.frz o u)) (tbls:∀ b ps,H b=some (.tbl ps)->∃ more,H' b=some (.tbl (ps ++ more)))
  (ns:∀ m,s.heap.Ns X.env.locals m->h'.Ns X.env.locals m) (hok:HOk X.prog X.w H' h') (hg:AllBare g') :
  Inv X pins σ H' { s with heap:=h',gens:=g',drawn:=d',toks:=t' }:=by
 have neL:∀ b o,X.s₀.heap.get? b=some o->b ≠ X.env.locals:=fun b o e=>Nat.ne_of_lt (Nat.lt_of_lt_of_le (Heap.lt_size e) I.ok.above)
 have neC:∀ b o,X.s₀.heap.get? b=some o->b ∉ X.ex->b ∉ ch:=fun b o e hx hb=>by
  rcases (hch b hb).1 with z | z
  ·exact hx z
  ·exact absurd (Nat.lt_of_lt_of_le (Heap.lt_size e) z) (Nat.lt_irrefl _)
 have cellK:∀ x c,X.env.cells.lookup x=some c->∀ v,s.heap.IsCell c v->h'.IsCell c v:=fun x c e v ⟨o,ho,hd⟩=>by
  have nch:c ∉ ch:=fun z=>(hch c z).2.2.1 x c e rfl
  by_cases hc:c ∈ X.fs
  ·obtain ⟨sl,q⟩:=slot c o (I.cne x c e) hc nch ho (I.freeC x c e)
   exact ⟨_,q,hd⟩
  ·exact ⟨o,keep c o (I.cne x c e) hc nch ho (I.freeC x c e),hd⟩
 refine ⟨I.ok,I.os,hg,⟨fun b o e n hb hx=>?_,fun b o e n hb hx=>?_,fun b o e n hx=>?_,fun b o e hx=>?_,fun b xs e=>tups b xs (I.base.tups b xs e),fun b o xs e=>frzs b o xs (I.base.frzs b o xs e),fun b ps e=>?_⟩,?_,fun x c e=>?_,?_,fun x c e=>?_,fun p hp=>?_,hok,I.len⟩
 ·exact keep b o (neL b o e) hb (neC b o e hx) (I.base.keep b o e n hb hx) (I.base.free b o e n hx)
 ·obtain ⟨sl,e1⟩:=I.base.slot b o e n hb hx
  obtain ⟨sl',e2⟩:=slot b _ (neL b o e) hb (neC b o e hx) e1 (I.base.free b o e n hx)
  exact ⟨sl',e2⟩
 ·obtain ⟨o',e1⟩:=I.base.there b o e hx
  exact free b o' (neC b o e hx) e1 (I.base.free b o e n hx)
 ·obtain ⟨o',e1⟩:=I.base.there b o e hx
  exact there b o' (neC b o e hx) e1
 ·obtain ⟨m1,e1⟩:=I.base.tbls b ps e
  obtain ⟨m2,e2⟩:=tbls b _ e1
  exact ⟨m1 ++ m2,by rw [e2,Array.append_assoc]⟩
 ·obtain ⟨m,hn,hl⟩:=I.loc
  refine ⟨m,ns m hn,fun i x v e1 e2 e3=>?_⟩
  obtain ⟨u,r,l⟩:=hl i x v e1 e2 e3
  refine ⟨u,r,?_⟩
  rcases l with l | ⟨k,c,e,z⟩
  ·exact .inl l
  ·exact .inr ⟨k,c,e,cellK x c e _ z⟩
 ·obtain ⟨v,z⟩:=I.cell x c e
  exact ⟨v,cellK x c e v z⟩
 ·obtain ⟨m,⟨o,_,_,ho,_⟩,_⟩:=I.loc
  exact free _ o (fun z=>(hch _ z).2.1 rfl) ho I.free
 ·obtain ⟨v,o,ho,hd⟩:=I.cell x c e
  exact free c o (fun z=>(hch c z).2.2.1 x c e rfl) ho (I.freeC x c e)
 ·obtain ⟨e,n,ne,nf,d⟩:=I.pin p hp
  have nch:p.1 ∉ ch:=fun z=>(hch p.1 z).2.2.2 p hp rfl
  exact ⟨keep p.1 p.2 ne nf nch e n,free p.1 p.2 nch e n,ne,nf,d⟩
theorem Inv.un (I:Inv X pins σ H s)(u:Un X.fs [] H H' s.heap h')(hok:HOk X.prog X.w H' h'):Inv X pins σ H' { s with heap:=h',toks:=t' }:=by
 obtain ⟨m,⟨o,es,ep,ho,r⟩,_⟩:=id I.loc
 obtain ⟨sl,hL⟩:=u.any ho I.free (by simp)
 exact I.step (g':=s.gens) (d':=s.drawn) (ch:=[]) (fun _ z=>nomatch z) (fun b o _ hb _ e n=>u.keep b o e n hb (by simp)) (fun b o _ hb _ e n=>u.slot b o e n hb (by simp)) (fun b o _ e n=>u.free b o e n (by simp)) (fun b o _ e=>u.there b o e (by simp)) u.tups u.frzs u.tbls (fun m' hm=>by
  obtain ⟨o',es',ep',ho',r'⟩:=hm
  rw [ho] at ho';cases ho'
  exact ⟨_,es',ep',hL,r'⟩) hok I.bare
theorem Inv.call (I:Inv X pins σ H s)(u:Un (frs X.stack) ch H H' s.heap h')(hok:HOk X.prog X.w H' h')(hg:AllBare g')
  (hch:∀ b ∈ ch,(b ∈ X.ex \/ X.s₀.heap.objs.size<=b)/\b ≠ X.env.locals/\(∀ x c,X.env.cells.lookup x=some c->c ≠ b)/\∀ p ∈ X.pn ++ pins,p.1 ≠ b) :
  Inv X pins σ H' { s with heap:=h',gens:=g',drawn:=d',toks:=t' }:=by
 obtain ⟨m,⟨o,es,ep,ho,r⟩,_⟩:=id I.loc
 obtain ⟨sl,hL⟩:=u.any ho I.free fun z=>(hch _ z).2.1 rfl
 exact I.step (ch:=ch) hch (fun b o hL hb hc e n=>u.keep b o e n (fun z=>(List.mem_cons.mp (I.stkSub b z)).elim hL hb) hc) (fun b o _ _ hc e n=>u.any e n hc) (fun b o hc e n=>u.free b o e n hc) (fun b o hc e=>u.there b o e hc) u.tups u.frzs u.tbls (fun m' hm=>by
  obtain ⟨o',es',ep',ho',r'⟩:=hm
  rw [ho] at ho';cases ho'
  exact ⟨_,es',ep',hL,r'⟩) hok hg
theorem Inv.turned {it:Addr}(I:Inv X pins σ H s)(k:∀ b o,b ≠ it->s.heap.get? b=some o->h'.get? b=some o)(hn:H it=none)(hL:it ≠ X.env.locals)
  (h1:it ∈ X.ex \/ X.s₀.heap.objs.size<=it) (h2:∀ x c,X.env.cells.lookup x=some c->c ≠ it) (h3:∀ p ∈ X.pn ++ pins,p.1 ≠ it):Inv X pins σ H { s with heap:=h',toks:=t' }:=by
 have nit:∀ b u,H b=some u->b ≠ it:=fun b u e z=>by rw [z,hn] at e;cases e
 refine I.step (g':=s.gens) (d':=s.drawn) (ch:=[it]) (fun b hb=>?_) (fun b o _ _ hc e _=>k b o (fun z=>hc (by simp [z])) e) (fun b o _ _ hc e _=>⟨o.slots,k b o (fun z=>hc (by simp [z])) e⟩) (fun _ _ _ _ n=>n)
  (fun b o hc e=>⟨o,k b o (fun z=>hc (by simp [z])) e⟩) (fun _ _ e=>e) (fun _ _ _ e=>e) (fun b ps e=>⟨#[],by rw [e];simp⟩) (fun m hm=>?_) (fun b u e=>?_) I.bare
 ·have e:b=it:=by simpa using hb
  subst e
  exact ⟨h1,hL,h2,h3⟩
 ·obtain ⟨o,es,ep,ho,r⟩:=hm
  exact ⟨o,es,ep,k _ o (Ne.symm hL) ho,r⟩
 ·refine (I.hok b u e).stay (fun c v hc q=>k c v ?_ q) (fun _ q=>q) fun _ _ q=>q
  rcases hc with z | z
  ·rw [z];exact nit b u e
  ·exact nit c _ z
theorem Inv.tok (I:Inv X pins σ H s)(t:Nat):Inv X pins σ H { s with toks:=t }:=I.un (h':=s.heap) (t':=t) Un.refl I.hok
theorem Inv.kept (I:Inv X pins σ H s)(k:∀ b u,s.heap.get? b=some u->h'.get? b=some u):Inv X pins σ H { s with heap:=h',toks:=t' }:=I.un (Un.kept k) (I.hok.kept k)
theorem Inv.laid (I:Inv X pins σ H s)(k:∀ b u,s.heap.get? b=some u->h'.get? b=some u)(hp:s.heap.objs.size<=a)(new:zR X.prog X.w (upd H a o) h' a o) :
  Inv X pins σ (upd H a o) { s with heap:=h',toks:=t' }:=I.un (Un.laid k hp (I.hok.fresh hp)) (I.hok.laid k hp new)
theorem Inv.write {x e:Addr} (I:Inv X pins σ H s)(mu:Mut (H x))(he:e=x \/ H e=some (.own x))(k:∀ b u,b ≠ e->s.heap.get? b=some u->h'.get? b=some u)(heo:∃ u,h'.get? e=some u)
  (new:zR X.prog X.w (upd H x o) h' x o):Inv X pins σ (upd H x o) { s with heap:=h',toks:=t' }:=I.un (Un.write mu he k heo) (I.hok.write mu he k heo new)
theorem Inv.pins_of {pins':List (Addr × Obj)}(I:Inv X pins σ H s)(h:∀ p ∈ pins',s.heap.get? p.1=some p.2/\H p.1=none/\p.1 ≠ X.env.locals/\p.1 ∉ X.fs/\∀ v,p.2.data ≠ .cell v):Inv X pins' σ H s:=
 ⟨I.ok,I.os,I.bare,I.base,I.loc,I.cell,I.free,I.freeC,fun p hp=>(List.mem_append.mp hp).elim (fun z=>I.pin p (List.mem_append_left _ z)) (h p),I.hok,I.len⟩
theorem vw {N:List Str}(hN:N.Nodup){i j:Nat}{x:Str}(a:N[i]?=some x)(b:N[j]?=some x):i=j:=by
 obtain ⟨h1,e1⟩:=List.getElem?_eq_some_iff.mp a
 obtain ⟨h2,e2⟩:=List.getElem?_eq_some_iff.mp b
 exact (List.getElem_inj hN).mp (e1.trans e2.symm)
theorem Za {M : Model}{A : Around}{E : Value -> Shared -> Prop}{i : Nat}{x : Str}{v : V}{u : Value}{Q : Unit -> Shared -> Prop}(I : Inv X pins σ H s)(hN : X.N.Nodup)(hi : X.N[i]? = some x)(hx : Loc X.env.scope x)(r : zz v u)
    (h:∀ s',Inv X pins (σ.set i (some v)) H s'->(∃ a,Heap.SameBut a s.heap s'.heap/\(a=X.env.locals \/ X.env.cells.lookup x=some a))->Q () s') (hf:X.fn x=true \/ X.env.scope.names.lookup x=some .local:=by first | exact .inl rfl | exact .inr rfl | assumption):wpAny M A (storeName X.env x u) Q E s:=by
  obtain ⟨m,hn,hl⟩:=id I.loc
  have hcls:(X.env.scope.kind == .class || (X.env.scope.kind == .module && X.env.locals != X.env.globals))=false:=by rw [I.ok.kind];rfl
  have hiσ:i<σ.length:=by rw [I.len];exact (List.getElem?_eq_some_iff.mp hi).1
  have cne:=I.cne
  have tracked:∀ {a:Addr} {h':Heap},(∃ o,s.heap.get? a=some o/\H a=none)->Heap.SameBut a s.heap h'->HOk X.prog X.w H h':=fun {a h'} ha hs b ob e=>by
    obtain ⟨_,_,hfree⟩:=ha
    refine (I.hok b ob e).stay (fun c w' hc q=>(hs.2 c ?_).trans q) (fun _ q=>q) fun _ _ q=>q
    rintro rfl
    rcases hc with rfl | hc
    · rw [hfree] at e;cases e
    · rw [hfree] at hc;cases hc
  rcases hx with hk | hk
  · refine wpAny_storeName_local hk hn (fun h' hn' hs=>?_) hcls
    obtain ⟨oL,_,_,hoL,_⟩:=id hn
    refine h _ ⟨I.ok,I.os,I.bare,⟨fun b o e n hb hx=>?_,fun b o e n hb hx=>?_,I.base.free,fun b o e hx=>?_,I.base.tups,I.base.frzs,I.base.tbls⟩,⟨_,hn',fun j y v' e1 e2 e3=>?_⟩,fun y c e=>?_,I.free,I.freeC,fun p hp=>?_,tracked ⟨oL,hoL,I.free⟩ hs,by simpa using I.len⟩ ⟨_,hs,.inl rfl⟩
    · exact (hs.2 b (Nat.ne_of_lt (Nat.lt_of_lt_of_le (Heap.lt_size e) I.ok.above))).trans (I.base.keep b o e n hb hx)
    · obtain ⟨sl,e1⟩:=I.base.slot b o e n hb hx
      exact ⟨sl,(hs.2 b (Nat.ne_of_lt (Nat.lt_of_lt_of_le (Heap.lt_size e) I.ok.above))).trans e1⟩
    · obtain ⟨o',e1⟩:=I.base.there b o e hx
      exact ⟨o',(hs.2 b (Nat.ne_of_lt (Nat.lt_of_lt_of_le (Heap.lt_size e) I.ok.above))).trans e1⟩
    · by_cases hj:j=i
      · subst hj
        rw [hi] at e1;cases e1
        rw [List.getElem?_set_self hiσ] at e2
        cases e2
        exact ⟨u,r,.inl ⟨hk,by simp⟩⟩
      · rw [List.getElem?_set_ne (Ne.symm hj)] at e2
        obtain ⟨u',r',q⟩:=hl j y v' e1 e2 e3
        refine ⟨u',r',?_⟩
        rcases q with ⟨k,e⟩ | ⟨k,c,e,z⟩
        · refine .inl ⟨k,?_⟩
          have:y ≠ x:=fun e=>hj (vw hN e1 (e ▸ hi))
          simp [this,e]
        · exact .inr ⟨k,c,e,z.sameBut hs (cne y c e)⟩
    · obtain ⟨w',z⟩:=I.cell y c e
      exact ⟨w',z.sameBut hs (cne y c e)⟩
    · obtain ⟨e,n,ne,nf,d⟩:=I.pin p hp
      exact ⟨(hs.2 p.1 ne).trans e,n,ne,nf,d⟩
  · have hfn : X.fn x = true := by
      rcases hf with z | z
      · exact z
      · rw [z] at hk;cases hk
    obtain ⟨c,hc⟩:=I.ok.has x (.inl hk)
    obtain ⟨w',z⟩:=I.cell x c hc
    refine wpAny_storeName_cell I.ok.kind hk hc z (fun h' hc' hs=>?_)
    obtain ⟨oc,hoc,hocd⟩:=id z
    refine h { s with heap:=h' } ⟨I.ok,I.os,I.bare,⟨fun b o e n hb hx=>?_,fun b o e n hb hx=>?_,I.base.free,fun b o e hx=>?_,I.base.tups,I.base.frzs,I.base.tbls⟩,⟨m,hn.sameBut hs (Ne.symm (cne x c hc)),fun j y v' e1 e2 e3=>?_⟩,fun y c' e=>?_,I.free,I.freeC,fun p hp=>?_,tracked ⟨oc,hoc,I.freeC x c hc⟩ hs,by simpa using I.len⟩ ⟨c,hs,.inr hc⟩
    · exact (hs.2 b (Nat.ne_of_lt (Nat.lt_of_lt_of_le (Heap.lt_size e) (I.ok.cab x c hfn hc)))).trans (I.base.keep b o e n hb hx)
    · obtain ⟨sl,e1⟩:=I.base.slot b o e n hb hx
      exact ⟨sl,(hs.2 b (Nat.ne_of_lt (Nat.lt_of_lt_of_le (Heap.lt_size e) (I.ok.cab x c hfn hc)))).trans e1⟩
    · obtain ⟨o',e1⟩:=I.base.there b o e hx
      exact ⟨o',(hs.2 b (Nat.ne_of_lt (Nat.lt_of_lt_of_le (Heap.lt_size e) (I.ok.cab x c hfn hc)))).trans e1⟩
    · by_cases hj:j=i
      · subst hj
        rw [hi] at e1;cases e1
        rw [List.getElem?_set_self hiσ] at e2
        cases e2
        exact ⟨u,r,.inr ⟨.inl hk,c,hc,hc'⟩⟩
      · rw [List.getElem?_set_ne (Ne.symm hj)] at e2
        obtain ⟨u',r',q⟩:=hl j y v' e1 e2 e3
        refine ⟨u',r',?_⟩
        rcases q with q | ⟨k,c',e,z'⟩
        · exact .inl q
        · refine .inr ⟨k,c',e,z'.sameBut hs ?_⟩
          rintro rfl
          exact hj (vw hN e1 (I.ok.inj _ _ _ e hc ▸ hi))
    · by_cases hcc:c'=c
      · subst hcc;exact ⟨_,hc'⟩
      · obtain ⟨w2,z2⟩:=I.cell y c' e
        exact ⟨w2,z2.sameBut hs hcc⟩
    · obtain ⟨e,n,ne,nf,d⟩:=I.pin p hp
      refine ⟨(hs.2 p.1 ?_).trans e,n,ne,nf,d⟩
      intro q
      rw [q,hoc] at e
      have q':oc=p.2:=Option.some.inj e
      exact d w' (by rw [<- q'];exact hocd)
theorem je {M:Model}{A:Around}{E:Value->Shared->Prop}{i:Nat}{x:Str}{v:V}{u:Value}{Q:Unit->Shared->Prop}(I:Inv X pins σ H s)(hN:X.N.Nodup)(hi:X.N[i]?=some x)(hx:Loc X.env.scope x)(r:zz v u)
  (h:∀ s',Inv X pins (σ.set i (some v)) H s'->Q () s') (hf:X.fn x=true \/ X.env.scope.names.lookup x=some .local:=by first | exact .inl rfl | exact .inr rfl | assumption):wpAny M A (storeName X.env x u) Q E s:=
 Za I hN hi hx r (fun s' I' _=>h s' I') hf
theorem Inv.call' {s':Shared} (I:Inv X pins σ H s)(ho:s'.os=s.os)(u:Un (frs X.stack) ch H H' s.heap s'.heap)(hok:HOk X.prog X.w H' s'.heap)(hg:AllBare s'.gens)
  (hch:∀ b ∈ ch,(b ∈ X.ex \/ X.s₀.heap.objs.size<=b)/\b ≠ X.env.locals/\(∀ x c,X.env.cells.lookup x=some c->c ≠ b)/\∀ p ∈ X.pn ++ pins,p.1 ≠ b):Inv X pins σ H' s':=by
 obtain ⟨h',g',d',t',o'⟩:=s'
 have e:o'=s.os:=ho
 subst e
 exact I.call (g':=g') (t':=t') (d':=d') u hok hg hch
end
noncomputable abbrev XK:=Value->Option Addr->Hp->Prop
noncomputable abbrev St:=List (Option V)
noncomputable abbrev VK:=V->Hp->Prop
noncomputable abbrev TE:=St->Hp->VK->Prop
noncomputable abbrev TT:=St->Hp->(Bool->Hp->Prop)->Prop
noncomputable abbrev TA:=St->Hp->(List V->Hp->Prop)->Prop
structure kC where
 nx:St->Hp->Prop
 rt:VK
 bk:St->Hp->Prop:=fun _ _=>False
 ct:St->Hp->Prop:=fun _ _=>False
noncomputable abbrev TS:=kC->St->Hp->Prop
noncomputable def EP (X:Cx)(pins:List (Addr × Obj))(σ:St)(Q:VK)(u:Value)(s':Shared):Prop:=∃ v H',Inv X pins σ H' s'/\zz v u/\Q v H'
noncomputable def TP (X:Cx)(pins:List (Addr × Obj))(σ:St)(Q:Bool->Hp->Prop)(b:Bool)(s':Shared):Prop:=∃ H',Inv X pins σ H' s'/\Q b H'
noncomputable def AP (X:Cx)(pins:List (Addr × Obj))(σ:St)(Q:List V->Hp->Prop)(us:List Value)(s':Shared):Prop:=∃ vs H',Inv X pins σ H' s'/\zB vs us/\Q vs H'
noncomputable def SP (X:Cx)(pins:List (Addr × Obj))(D:kC)(f:Flow)(s':Shared):Prop:=
 match f with
 | .next=>∃ σ' H',Inv X pins σ' H' s'/\D.nx σ' H'
 | .brk=>∃ σ' H',Inv X pins σ' H' s'/\D.bk σ' H'
 | .cont=>∃ σ' H',Inv X pins σ' H' s'/\D.ct σ' H'
 | .ret u=>∃ v σ' H',Inv X pins σ' H' s'/\zz v u/\D.rt v H'
noncomputable def PE (X:Cx)(e:Expr)(t:TE):Prop:=
 ∀ (pins:List (Addr × Obj)) (s:Shared) (σ:St) (H:Hp) (Q:VK),Inv X pins σ H s->t σ H Q->wpAny (model X.prog X.w) X.A (eval e X.env) (EP X pins σ Q) X.xe s
noncomputable def PT (X:Cx)(e:Expr)(t:TT):Prop:=
 ∀ (pins:List (Addr × Obj)) (s:Shared) (σ:St) (H:Hp) (Q:Bool->Hp->Prop),Inv X pins σ H s->t σ H Q->wpAny (model X.prog X.w) X.A (isTrue e X.env (eval e X.env)) (TP X pins σ Q) X.xe s
noncomputable def PW (X:Cx)(e:Expr)(t:TT):Prop:=
 ∀ (whole:Sem Value) (pins:List (Addr × Obj)) (s:Shared) (σ:St) (H:Hp) (Q:Bool->Hp->Prop),Inv X pins σ H s->t σ H Q->wpAny (model X.prog X.w) X.A (isTrue e X.env whole) (TP X pins σ Q) X.xe s
variable {X:Cx} {e:Expr}
theorem PW.pt {t:TT}(h:PW X e t):PT X e t:=h _
noncomputable def PA (X:Cx)(es:List Expr)(t:TA):Prop:=
 ∀ (pos:Pos) (pins:List (Addr × Obj)) (s:Shared) (σ:St) (H:Hp) (Q:List V->Hp->Prop),Inv X pins σ H s->t σ H Q->wpAny (model X.prog X.w) X.A (spliced (backTo pos (starEach es X.env))) (AP X pins σ Q) X.xe s
noncomputable def PS (X:Cx)(st:Stmt)(t:TS):Prop:=
 ∀ (pins:List (Addr × Obj)) (s:Shared) (σ:St) (H:Hp) (D:kC),Inv X pins σ H s->t D σ H->wpAny (model X.prog X.w) X.A (exec st X.env) (SP X pins D) X.xe s
noncomputable def PSs (X:Cx)(st:List Stmt)(t:TS):Prop:=
 ∀ (pins:List (Addr × Obj)) (s:Shared) (σ:St) (H:Hp) (D:kC),Inv X pins σ H s->t D σ H->wpAny (model X.prog X.w) X.A (execs st X.env) (SP X pins D) X.xe s
variable {A:Around} {E:Value->Shared->Prop} {s:Shared}
theorem thn {α:Type}{t:Sem α}{Q Q':α->Shared->Prop}{M:Model} (h:wpAny M A t Q E s)(hQ:∀ a s,Q a s->Q' a s):wpAny M A t Q' E s:=wpAny_mono h hQ fun _ _ x=>x
section
variable {X:Cx}
variable {pins:List (Addr × Obj)} {σ:St}
theorem bin {a b:Expr}{ta tb:TE}(ha:PE X a ta)(hb:PE X b tb) {R:V->V->Hp->Prop}(I:Inv X pins σ H s)(h:ta σ H fun x H1=>tb σ H1 fun y H2=>R x y H2)
  {α:Type} {Q:α->Shared->Prop} {f:Value->Value->Sem α}
  (hf:∀ v u s2 x y H2,Inv X pins σ H2 s2->zz x v->zz y u->R x y H2->wpAny (model X.prog X.w) X.A (f v u) Q X.xe s2) :
  wpAny (model X.prog X.w) X.A (eval a X.env) (fun v s₁=>wpAny (model X.prog X.w) X.A (eval b X.env) (fun u s₂=>wpAny (model X.prog X.w) X.A (f v u) Q X.xe s₂) X.xe s₁) X.xe s:=by
 refine thn (ha pins s σ H _ I h) fun v s1 ⟨x,H1,I1,r1,q1⟩=>?_
 refine thn (hb pins s1 σ H1 _ I1 q1) fun u s2 ⟨y,H2,I2,r2,q2⟩=>?_
 exact hf v u s2 x y H2 I2 r1 r2 q2
noncomputable def wu (i:Nat):TE:=fun σ H Q=>∃ v,σ[i]?=some (some v)/\Q v H
noncomputable def tC (v:V):TE:=fun _ H Q=>Q v H
variable {pos:Pos}
theorem Hg {i:Nat}{x:Str} (hN:X.N[i]?=some x)(hv:Vis X.env.scope x)(hd:(x == ("__debug__":Str))=false:=by decide)(hcd:(x == ("__classdict__":Str))=false:=by decide):PE X (.Name x pos) (wu i):=by
 intro pins s σ H Q I h
 obtain ⟨v,e,h⟩:=h
 obtain ⟨m,hn,hl⟩:=I.loc
 obtain ⟨u,r,l⟩:=hl i x v hN e hv
 have fin:EP X pins σ Q u s:=⟨v,H,I,r,h⟩
 rcases l with ⟨hk,hm⟩ | ⟨hk,c,hc,hcell⟩
 ·exact wpAny_Name (wpAny_loadName_local I.ok.kind hk hn hm fin) hd
 ·rcases hk with hk | hk
  ·exact wpAny_Name (wpAny_loadName_cell I.ok.kind hk hc hcell fin) hd
  ·exact wpAny_Name (wpAny_loadName_free I.ok.kind hk hc hcell fin hcd) hd
theorem ze {i j pos}:PE X (.Constant (.int i) j pos) (tC (.int i)):=fun _ _ _ H _ I h=>wpAny_Constant_int ⟨.int i,H,I.tok _,⟨_,rfl⟩,h⟩
theorem vG {b j pos}:PE X (.Constant (.bool b) j pos) (tC (.bl b)):=fun _ _ _ H _ I h=>Constant_bool ⟨.bl b,H,I,rfl,h⟩
theorem zL {j pos}:PE X (.Constant .none j pos) (tC .non):=fun _ _ _ H _ I h=>Constant_none ⟨.non,H,I,rfl,h⟩
theorem zp {x j pos}:PE X (.Constant (.str x) j pos) (tC (.str x)):=fun _ _ _ H _ I h=>Calls.Constant_str ⟨.str x,H,I.tok _,⟨_,rfl⟩,h⟩
noncomputable def Gl (X:Cx)(x:Str):Prop:=X.env.kindOf x=some .globalImplicit
variable {Q:Value->Shared->Prop}
theorem jo {x:Str}{u:Value} (I:Inv X pins σ H s)(hg:Gl X x)(hm:X.mg x=some u)(h:Q u s)
  (hd:(x == ("__debug__":Str))=false:=by decide):wpAny (model X.prog X.w) X.A (eval (.Name x pos) X.env) Q E s:=
 Calls.Name_function_global I.ok.kind hg (Calls.loadGlobal_global (by rw [I.ok.glob];exact I.mod.glob.keeps I.bk) hm h) hd
theorem jN {x:Str}{u:Value} (I:Inv X pins σ H s)(hg:Gl X x)(hm:X.mg x=none)(hv:bootBuiltins x=some u)(h:Q u s)
  (hn:x ≠ "__name__":=by decide) (hd:(x == ("__debug__":Str))=false:=by decide):wpAny (model X.prog X.w) X.A (eval (.Name x pos) X.env) Q E s:=by
 obtain ⟨mb,h1,h2⟩:=I.mod.blt
 exact Calls.Name_function_global I.ok.kind hg (Calls.loadGlobal_builtin (by rw [I.ok.glob];exact I.mod.glob.keeps I.bk) hm (by rw [I.ok.blt];exact h1.keeps I.bk) ((h2 x hn).trans hv) h) hd
theorem zS {x:Str}{v:V}{u:Value} (hg:Gl X x)(hm:X.mg x=none)(hv:bootBuiltins x=some u)(r:zz v u)(hn:x ≠ "__name__":=by decide)(hd:(x == ("__debug__":Str))=false:=by decide):PE X (.Name x pos) (tC v):=
 fun _ _ _ H _ I h=>jN I hg hm hv ⟨v,H,I,r,h⟩ hn hd
variable {a b:Expr}{ta tb:TE}{pos:Pos}
noncomputable def PC (X:Cx)(op:CmpOp)(a b:Expr)(t:TE):Prop:=
 ∀ (pins:List (Addr × Obj)) (s:Shared) (σ:St) (H:Hp) (Q:VK),Inv X pins σ H s->t σ H Q ->
  wpAny (model X.prog X.w) X.A (eval a X.env) (fun v s₁=>wpAny (model X.prog X.w) X.A (eval b X.env) (fun u s₂=>wpAny (model X.prog X.w) X.A (compareOp op v u) (EP X pins σ Q) X.xe s₂) X.xe s₁) X.xe s
variable {op:CmpOp}
theorem BG (b:Expr) (h:op ≠ .In)(h2:op ≠ .NotIn):behindInMarks op b=false:=by
 have e1:(op == CmpOp.In)=false:=by cases op <;> first | rfl | exact absurd rfl h
 have e2:(op == CmpOp.NotIn)=false:=by cases op <;> first | rfl | exact absurd rfl h2
 cases b <;> simp [behindInMarks,e1,e2]
noncomputable def tB (t:TE):TT:=fun σ H Q=>t σ H fun x H1=>∃ c,x=.bl c/\Q c H1
variable {t:TE}
theorem LY (h:PC X op a b t)(h1:behindInMarks op b=false:=by first | exact BG _ (by decide) (by decide) | rfl):PT X (.Compare a [op] [b] pos) (tB t):=by
 intro pins s σ H Q I hw
 refine wpAny_isTrue_Compare1 (thn (h pins s σ H _ I hw) fun v s1 h1=>thn h1 fun u s2 h2=>thn h2 fun c s3 ⟨x,H1,I1,r1,q1⟩=>?_) h1
 obtain ⟨d,rfl,q⟩:=q1
 cases r1
 exact wpAny_truthy_bool ⟨H1,I1,q⟩
theorem qJ (h:PE X e t)(he:∀ whole,isTrue e X.env whole=(do let v <- whole;standAt e.pos;holding [v] (truthy v)):=by intro _;rfl):PT X e (tB t):=by
 intro pins s σ H Q I hw
 refine isTrue_plain (thn (h pins s σ H _ I hw) fun v s1 ⟨x,H1,I1,r1,q1⟩=>?_) (he _)
 obtain ⟨d,rfl,q⟩:=q1
 cases r1
 exact wpAny_truthy_bool ⟨H1,I1,q⟩
variable {tA tB':TT}{qG:List Expr}
noncomputable def Hv (t u:TT):TT:=fun σ H Q=>t σ H fun c H1=>if c=true then u σ H1 Q else Q false H1
noncomputable def tOr (t u:TT):TT:=fun σ H Q=>t σ H fun c H1=>if c=true then Q true H1 else u σ H1 Q
noncomputable def G6 (t:TT):TT:=fun σ H Q=>t σ H fun c H1=>Q (!c) H1
theorem kl (ha:PT X a tA):PW X (.BoolOp .And [a] pos) tA:=by
 intro wh pins s σ H Q I h
 refine isTrue_and (thn (ha pins s σ H Q I h) fun c s1 e=>?_)
 cases c with
 | true=>exact isTrue_and_nil e
 | false=>exact e
theorem jx (ha:PT X a tA):PW X (.BoolOp .Or [a] pos) tA:=by
 intro wh pins s σ H Q I h
 refine isTrue_or (thn (ha pins s σ H Q I h) fun c s1 e=>?_)
 cases c with
 | false=>exact isTrue_or_nil e
 | true=>exact e
theorem xO (ha:PT X a tA)(hb:PW X (.BoolOp .And (b :: qG) pos) tB'):PW X (.BoolOp .And (a :: b :: qG) pos) (Hv tA tB'):=by
 intro wh pins s σ H Q I h
 refine isTrue_and (thn (ha pins s σ H _ I h) fun c s1 ⟨H1,I1,q1⟩=>?_)
 cases c with
 | true=>exact hb wh pins s1 σ H1 Q I1 q1
 | false=>exact ⟨H1,I1,q1⟩
theorem jS (ha:PT X a tA)(hb:PW X (.BoolOp .Or (b :: qG) pos) tB'):PW X (.BoolOp .Or (a :: b :: qG) pos) (tOr tA tB'):=by
 intro wh pins s σ H Q I h
 refine isTrue_or (thn (ha pins s σ H _ I h) fun c s1 ⟨H1,I1,q1⟩=>?_)
 cases c with
 | true=>exact ⟨H1,I1,q1⟩
 | false=>exact hb wh pins s1 σ H1 Q I1 q1
theorem jM (ha:PT X a tA):PT X (.UnaryOp .Not a pos) (G6 tA):=by
 intro pins s σ H Q I h
 exact isTrue_not (ha pins s σ H (fun c H1=>Q (!c) H1) I h)
noncomputable def Wu (ta tb:TE):TE:=fun σ H Q=>ta σ H fun x H1=>∃ c,x=.bl c/\if c=true then tb σ H1 Q else Q (.bl false) H1
theorem KJ {op} (h:PE X a t):PE X (.BoolOp op [a] pos) t:=fun pins s σ H Q I hw=>BoolOp_one (h pins s σ H Q I hw)
theorem Qg (ha:PE X a ta)(hb:PE X (.BoolOp .And (b :: qG) pos) tb):PE X (.BoolOp .And (a :: b :: qG) pos) (Wu ta tb):=by
 intro pins s σ H Q I h
 refine BoolOp_and (thn (ha pins s σ H _ I h) fun v s1 ⟨x,H1,I1,r1,q1⟩=>?_)
 obtain ⟨c,rfl,q1⟩:=q1
 cases r1
 refine wpAny_truthy_bool ?_
 cases c with
 | true=>exact hb pins s1 σ H1 Q I1 q1
 | false=>exact ⟨.bl false,H1,I1,rfl,q1⟩
noncomputable def tIf (t:TT)(ta tb:TE):TE:=fun σ H Q=>t σ H fun c H1=>if c=true then ta σ H1 Q else tb σ H1 Q
theorem kZ {c:Expr}(hc:PT X c tA)(ha:PE X a ta)(hb:PE X b tb):PE X (.IfExp c a b pos) (tIf tA ta tb):=by
 intro pins s σ H Q I h
 refine wpAny_IfExp (thn (hc pins s σ H _ I h) fun d s1 ⟨H1,I1,q1⟩=>?_)
 cases d with
 | true=>exact ha pins s1 σ H1 Q I1 q1
 | false=>exact hb pins s1 σ H1 Q I1 q1
end
noncomputable def SqL (K:PySem.W.Frag)(H:Hp)(a:Addr)(xs:List V):Prop:=
 Rd H a (.lst xs) \/
  ∃ (o:Obj) (its:Array Value) (n:Nat),K.lookup a=some o/\o.cls=.type "list"/\o.dict=none/\o.data=.seq its n/\its.size<=sizeLine/\zB xs its.toList
noncomputable def SqT (K:PySem.W.Frag)(H:Hp)(a:Addr)(xs:List V):Prop:=
 Rd H a (.tup xs) \/
  ∃ (o:Obj) (its:Array Value) (n:Nat),K.lookup a=some o/\o.cls=.type "tuple"/\o.data=.seq its n/\its.size<=sizeLine/\zB xs its.toList
noncomputable def LM:Value->Option V
 | .none=>some .non
 | .bool b=>some (.bl b)
 | .int i _=>some (.int i)
 | .str x _=>some (.str x)
 | .bytes b _=>some (.byt b)
 | .float b _=>some (.flt b)
 | .ref a=>some (.ref a)
 | .type n=>some (.ty n)
 | _=>none
theorem zz.abs {x:V}{u:Value}(r:zz x u):LM u=some x:=by
 cases x with
 | non=>cases r;rfl
 | bl _=>cases r;rfl
 | int _=>obtain ⟨t,rfl⟩:=r;rfl
 | str _=>obtain ⟨t,rfl⟩:=r;rfl
 | byt _=>obtain ⟨t,rfl⟩:=r;rfl
 | flt _=>obtain ⟨t,rfl⟩:=r;rfl
 | ref _=>cases r;rfl
 | ty _=>cases r;rfl
theorem zz.inj {x y:V}{u:Value}(r:zz x u)(q:zz y u):x=y:=Option.some.inj (r.abs.symm.trans q.abs)
theorem zB.inj:∀ {xs ys:List V} {us:List Value},zB xs us->zB ys us->xs=ys
 | _,_,_,.nil,.nil=>rfl
 | _,_,_,.cons r t,.cons r' t'=>by rw [r.inj r',zB.inj t t']
section
variable {X:Cx}{pins:List (Addr × Obj)}{σ:St}{H:Hp}{s:Shared}{a:Addr}{xs ys:List V}
variable {K:PySem.W.Frag}
theorem SqL.of (h:H a=some (.lst xs)):SqL K H a xs:=.inl (.inl h)
theorem SqT.of (h:H a=some (.tup xs)):SqT K H a xs:=.inl (.inl h)
theorem Inv.list (I:Inv X pins σ H s)(h:SqL X.K H a xs):∃ its:List Value,zB xs its/\PlainL s.heap a its.toArray/\xs.length<=sizeLine:=by
 rcases h with h | ⟨o,its,n,hk,hc,hd,hs,hz,r⟩
 ·obtain ⟨z,its,n,r,e⟩:=h.ok I.hok
  exact ⟨its,r,⟨_,n,e,rfl,rfl,rfl⟩,z⟩
 ·refine ⟨its.toList,r,⟨o,n,I.kIn a o hk,hc,hd,by simpa using hs⟩,?_⟩
  have e:=r.length
  simp only [Array.length_toList] at e
  omega
theorem Inv.tuple (I:Inv X pins σ H s)(h:SqT X.K H a xs):∃ its:List Value,zB xs its/\IsTup s.heap a its.toArray/\xs.length<=sizeLine:=by
 rcases h with h | ⟨o,its,n,hk,hc,hs,hz,r⟩
 ·obtain ⟨z,its,r,p⟩:=h.ok I.hok
  exact ⟨its,r,p.is,z⟩
 ·refine ⟨its.toList,r,⟨o,I.kIn a o hk,hc,n,by simpa using hs⟩,?_⟩
  have e:=r.length
  simp only [Array.length_toList] at e
  omega
theorem Inv.list_inj (I:Inv X pins σ H s)(h:SqL X.K H a xs)(h':SqL X.K H a ys):xs=ys:=by
 obtain ⟨its,r,⟨o,n,e,_,_,d⟩,_⟩:=I.list h
 obtain ⟨its',r',⟨o',n',e',_,_,d'⟩,_⟩:=I.list h'
 rw [e] at e';cases e'
 rw [d] at d'
 injection d' with d1 _
 have:its=its':=by simpa using congrArg Array.toList d1
 subst this
 exact r.inj r'
theorem Inv.tuple_inj (I:Inv X pins σ H s)(h:SqT X.K H a xs)(h':SqT X.K H a ys):xs=ys:=by
 obtain ⟨its,r,⟨o,e,_,n,d⟩,_⟩:=I.tuple h
 obtain ⟨its',r',⟨o',e',_,n',d'⟩,_⟩:=I.tuple h'
 rw [e] at e';cases e'
 rw [d] at d'
 injection d' with d1 _
 have:its=its':=by simpa using congrArg Array.toList d1
 subst this
 exact r.inj r'
end
noncomputable abbrev Cx.wish (X:Cx)(E:Value->Shared->Prop):Cx:={ X with xe:=E }
noncomputable abbrev Cx.nox (X:Cx):Cx:=X.wish fun _ _=>False
theorem Cx.Ok.wish (ok:X.Ok)(E:Value->Shared->Prop):(X.wish E).Ok:=
 ⟨ok.mod,ok.kind,ok.glob,ok.blt,ok.above,ok.inj,ok.has,ok.cab,ok.hd,ok.frames,ok.stk,ok.exf,ok.bs,ok.bsz,ok.noex,ok.exfs,ok.funs,ok.frf⟩
theorem Cx.Ok.unwish (ok:(X.wish E).Ok):X.Ok:=
 ⟨ok.mod,ok.kind,ok.glob,ok.blt,ok.above,ok.inj,ok.has,ok.cab,ok.hd,ok.frames,ok.stk,ok.exf,ok.bs,ok.bsz,ok.noex,ok.exfs,ok.funs,ok.frf⟩
section
variable {X:Cx}{pins:List (Addr × Obj)}{σ:St}{H:Hp}{s:Shared}{E:Value->Shared->Prop}
theorem Inv.wish (I:Inv X pins σ H s)(E:Value->Shared->Prop):Inv (X.wish E) pins σ H s:=⟨I.ok.wish E,I.os,I.bare,I.base,I.loc,I.cell,I.free,I.freeC,I.pin,I.hok,I.len⟩
theorem Inv.unwish (I:Inv (X.wish E) pins σ H s):Inv X pins σ H s:=⟨I.ok.unwish,I.os,I.bare,I.base,I.loc,I.cell,I.free,I.freeC,I.pin,I.hok,I.len⟩
theorem SP.unwish {D:kC}{f:Flow}{s':Shared}(h:SP (X.wish E) pins D f s'):SP X pins D f s':=by
 cases f with
 | next=>obtain ⟨σ',H',I,q⟩:=h;exact ⟨σ',H',I.unwish,q⟩
 | brk=>obtain ⟨σ',H',I,q⟩:=h;exact ⟨σ',H',I.unwish,q⟩
 | cont=>obtain ⟨σ',H',I,q⟩:=h;exact ⟨σ',H',I.unwish,q⟩
 | ret u=>obtain ⟨v,σ',H',I,r,q⟩:=h;exact ⟨v,σ',H',I.unwish,r,q⟩
theorem PSs.nox {st:List Stmt}{t:TS}(h:PSs X.nox st t):PSs X st t:=fun pins s σ H D I hw=>
 wpAny_mono (h pins s σ H D (I.wish _) hw) (fun _ _ q=>q.unwish) fun _ _ z=>False.elim z
end
section
variable {X:Cx}{st:Stmt}{qG:List Stmt}{t u:TS}{e:Expr}{te:TE}{pos:Pos}
noncomputable def WQ:TS:=fun D σ H=>D.nx σ H
noncomputable def YW (t u:TS):TS:=fun D σ H=>t { D with nx:=u D } σ H
theorem zv:PSs X [] WQ:=fun _ _ σ H _ I h=>wpAny_execs_nil ⟨σ,H,I,h⟩
theorem zc (h1:PS X st t)(h2:PSs X qG u):PSs X (st :: qG) (YW t u):=by
 intro pins s σ H D I h
 refine wpAny_execs_cons (thn (h1 pins s σ H { D with nx:=u D } I h) fun f s1 q=>?_)
 cases f with
 | next=>
  obtain ⟨σ',H',I',q⟩:=q
  exact h2 pins s1 σ' H' D I' q
 | ret v=>exact q
 | brk=>exact q
 | cont=>exact q
theorem zf (h1:PS X st t):PSs X [st] t:=by
 intro pins s σ H D I h
 refine wpAny_execs_cons (thn (h1 pins s σ H D I h) fun f s1 q=>?_)
 cases f with
 | next=>exact wpAny_execs_nil q
 | ret v=>exact q
 | brk=>exact q
 | cont=>exact q
theorem Inv.quiet {pins:List (Addr × Obj)}{σ:St} (I:Inv X pins σ H s):interactive X.env=false:=by simp [interactive,I.ok.kind]
noncomputable def Xt (te:TE):TS:=fun D σ H=>te σ H fun _ H1=>D.nx σ H1
theorem qS (he:PE X e te)(hs:swapsWith e none pos.line X.env=pure false:=by rfl):PS X (.Expr e pos) (Xt te):=by
 intro pins s σ H D I h
 exact wpAny_Expr_any (thn (he pins s σ H _ I h) fun v s1 ⟨x,H1,I1,r1,q1⟩=>⟨σ,H1,I1,q1⟩) I.quiet hs
noncomputable def E9 (te:TE):TS:=fun D σ H=>te σ H D.rt
theorem zA (he:PE X e te):PS X (.Return (some e) pos) (E9 te):=by
 intro pins s σ H D I h
 exact wpAny_Return_some (thn (he pins s σ H _ I h) fun v s1 ⟨x,H1,I1,r1,q1⟩=>⟨x,σ,H1,I1,r1,q1⟩)
noncomputable def EV (c:TT)(t u:TS):TS:=fun D σ H=>c σ H fun b H1=>if b=true then t D σ H1 else u D σ H1
theorem zH {c:Expr}{a b:List Stmt}{tc:TT}(hc:PT X c tc)(ha:PSs X a t)(hb:PSs X b u):PS X (.If c a b pos) (EV tc t u):=by
 intro pins s σ H D I h
 refine wpAny_If (thn (hc pins s σ H _ I h) fun d s1 ⟨H1,I1,q1⟩=>?_)
 cases d with
 | true=>exact ha pins s1 σ H1 D I1 q1
 | false=>exact hb pins s1 σ H1 D I1 q1
end
noncomputable abbrev TG:=V->St->Hp->(St->Hp->Prop)->Prop
noncomputable abbrev TGs:=List V->St->Hp->(St->Hp->Prop)->Prop
noncomputable def PG (X:Cx)(target:Expr)(t:TG):Prop:=
 ∀ (pins:List (Addr × Obj)) (s:Shared) (σ:St) (H:Hp) (v:V) (u:Value) (Q:St->Hp->Prop),Inv X pins σ H s->zz v u->t v σ H Q ->
  wpAny (model X.prog X.w) X.A (assign target X.env u) (fun _ s'=>∃ σ' H',Inv X pins σ' H' s'/\Q σ' H') X.xe s
noncomputable def PGs (X:Cx)(ts:List Expr)(t:TGs):Prop:=
 ∀ (pins:List (Addr × Obj)) (s:Shared) (σ:St) (H:Hp) (vs:List V) (us:List Value) (Q:St->Hp->Prop),Inv X pins σ H s->zB vs us->t vs σ H Q ->
  wpAny (model X.prog X.w) X.A (assignInOrder ((assignEach ts X.env).map (·.2)) us) (fun _ s'=>∃ σ' H',Inv X pins σ' H' s'/\Q σ' H') X.xe s
noncomputable abbrev QE:=V->V->V->Hp->(Hp->Prop)->Prop
noncomputable def DT (X:Cx)(t:QE):Prop:=
 ∀ (pins:List (Addr × Obj)) (s:Shared) (σ:St) (H:Hp) (o i v:V) (ov iv u:Value) (Q:Hp->Prop),Inv X pins σ H s->zz o ov->zz i iv->zz v u->t o i v H Q ->
  wpAny (model X.prog X.w) X.A (setItem ov iv u) (fun _ s'=>∃ H',Inv X pins σ H' s'/\Q H') X.xe s
noncomputable abbrev TIp:=V->V->Hp->VK->Prop
noncomputable def PIp (X:Cx)(op:Operator)(t:TIp):Prop:=
 ∀ (pins:List (Addr × Obj)) (s:Shared) (σ:St) (H:Hp) (x y:V) (v u:Value) (Q:VK),Inv X pins σ H s->zz x v->zz y u->t x y H Q ->
  wpAny (model X.prog X.w) X.A (inplaceOp op v u) (EP X pins σ Q) X.xe s
section
variable {X:Cx}{pos:Pos}
noncomputable def Qo (i:Nat):TG:=fun v σ H Q=>Q (σ.set i (some v)) H
variable {i:Nat}
theorem zD {x:Str}(hN:X.N.Nodup)(hi:X.N[i]?=some x)(hx:Loc X.env.scope x)(hf:X.fn x=true \/ X.env.scope.names.lookup x=some .local:=by first | exact .inl rfl | exact .inr rfl | assumption):PG X (.Name x pos) (Qo i):=by
 intro pins s σ H v u Q I r h
 exact wpAny_assign_Name (je I hN hi hx r (fun s' I'=>⟨_,H,I',h⟩) hf)
noncomputable def GI:TGs:=fun vs σ H Q=>vs=[]/\Q σ H
noncomputable def By (t:TG)(u:TGs):TGs:=fun vs σ H Q=>∃ v r,vs=v :: r/\t v σ H fun σ' H'=>u r σ' H' Q
theorem qD:PGs X [] GI:=by
 intro pins s σ H vs us Q I r h
 obtain ⟨e,h⟩:=h
 subst e
 cases r
 exact assignInOrder_nil ⟨σ,H,I,h⟩
theorem zC {e:Expr}{es:List Expr}{t:TG}{u:TGs}(h1:PG X e t)(h2:PGs X es u)
  (hs:(assignEach (e :: es) X.env).map (·.2)=assign e X.env :: (assignEach es X.env).map (·.2):=by rfl):PGs X (e :: es) (By t u):=by
 intro pins s σ H vs us Q I r h
 obtain ⟨v,vr,e1,h⟩:=h
 subst e1
 cases r with
 | cons r rr=>
  rw [hs]
  refine assignInOrder_cons (thn (h1 pins s σ H _ _ _ I r h) fun _ s1 ⟨σ1,H1,I1,q1⟩=>?_)
  exact h2 pins s1 σ1 H1 _ _ Q I1 rr q1
noncomputable def Vs (K:PySem.W.Frag)(n:Nat)(t:TGs):TG:=fun v σ H Q=>∃ a xs,v=.ref a/\SqT K H a xs/\xs.length=n/\t xs σ H Q
theorem HU {es:List Expr}{k:Nat}{t:TGs}{n:Nat}(hc:X.calm=true)(h:PGs X es t)
  (hn:(assignEach es X.env).length=n:=by rfl) (hst:(assignEach es X.env).findIdx? (·.1)=none:=by rfl):PG X (.Tuple es k pos) (Vs X.K n t):=by
 intro pins s σ H v u Q I r hw
 obtain ⟨a,xs,e1,hq,hl,hw⟩:=hw
 subst e1
 cases r
 obtain ⟨its,rv,ht,hz⟩:=I.tuple hq
 refine assign_Tuple_tuple (I.ok.hd hc) ht (by simp [hn,<- hl,rv.length]) hst fun h' hx=>?_
 have I1:Inv X pins σ H { s with heap:=h' }:=I.kept (t':=s.toks) fun b o e=>hx b o (Nat.ne_of_lt (Heap.lt_size e)) e
 exact h pins _ σ H xs _ Q I1 (by simpa using rv) hw
noncomputable def HC (to ti:TE)(t:QE):TG:=fun v σ H Q=>to σ H fun o H1=>ti σ H1 fun i H2=>t o i v H2 fun H3=>Q σ H3
theorem qO {o i:Expr}{to ti:TE}{t:QE}(ho:PE X o to)(hi:PE X i ti)(hs:DT X t)
  (ha:∀ v,assign (.Subscript o i pos) X.env v=(do
   let ov <- holding [v] (eval o X.env)
   let iv <- holding [v,ov] (eval i X.env)
   standAt pos
   holding [v,ov,iv] (setItem ov iv v)
   release [v,ov,iv] []):=by intro _;rfl):PG X (.Subscript o i pos) (HC to ti t):=by
 intro pins s σ H v u Q I r h
 rw [ha]
 refine wpAny_bind (wpAny_holding (thn (ho pins s σ H _ I h) fun ov s1 ⟨x,H1,I1,r1,q1⟩=>?_))
 refine wpAny_bind (wpAny_holding (thn (hi pins s1 σ H1 _ I1 q1) fun iv s2 ⟨y,H2,I2,r2,q2⟩=>?_))
 refine wpAny_bind (wpAny_standAt (wpAny_bind (wpAny_holding (thn (hs pins s2 σ H2 x y v ov iv u _ I2 r1 r2 r q2) fun _ s3 ⟨H3,I3,q3⟩=>?_))))
 exact wpAny_release ⟨σ,H3,I3,q3⟩
noncomputable def Zv (te:TE)(g:TG):TS:=fun D σ H=>te σ H fun x H1=>g x σ H1 D.nx
variable {te:TE}
theorem qy {tg e:Expr} {g:TG}(he:PE X e te)(hg:PG X tg g)(hs:swapsWithSole [tg] e pos.line X.env=pure false:=by rfl)(hw:swappedStores [tg] e X.env=pure none:=by rfl)
  (h1:(assignEach [tg] X.env).map (·.2)=[assign tg X.env]:=by rfl):PS X (.Assign [tg] e pos) (Zv te g):=by
 intro pins s σ H D I h
 refine wpAny_Assign_stores (thn (he pins s σ H _ I h) fun v s1 ⟨x,H1,I1,r1,q1⟩=>?_) hs hw
 rw [h1]
 exact thn (hg pins s1 σ H1 x v _ I1 r1 q1) fun _ s2 q=>q
theorem zN {x:Str} {pos':Pos}(hN:X.N.Nodup)(hi:X.N[i]?=some x)(hx:Loc X.env.scope x)(he:PE X e te)(hs:swapsWith e (some (.Name x pos')) pos.line X.env=pure false:=by rfl)(hf:X.fn x=true \/ X.env.scope.names.lookup x=some .local:=by first | exact .inl rfl | exact .inr rfl | assumption) :
  PS X (.Assign [.Name x pos'] e pos) (Zv te (Qo i)):=by
 intro pins s σ H D I h
 refine wpAny_Assign_Name (thn (he pins s σ H _ I h) fun v s1 ⟨y,H1,I1,r1,q1⟩=>?_) hs
 exact je I1 hN hi hx r1 (fun s2 I2=>⟨_,H1,I2,q1⟩) hf
noncomputable def Ho (i j:Nat)(ta:TA):TS:=fun D σ H=>ta σ H fun vs H1=>∃ v w,vs=[v,w]/\D.nx ((σ.set i (some v)).set j (some w)) H1
theorem BC {i j:Nat}{x y:Str}{a b:Expr}{ta:TA}{px py pt:Pos}{kt k2 pt2}(hc:X.calm=true)(hN:X.N.Nodup)(hi:X.N[i]?=some x)(hj:X.N[j]?=some y)(hij:i ≠ j)
  (hx:X.env.scope.names.lookup x=some .local) (hy:X.env.scope.names.lookup y=some .local) (ha:PA X [a,b] ta)
  (hw:swappedStores [.Tuple [.Name x px,.Name y py] kt pt] (.Tuple [a,b] k2 pt2) X.env=pure (some [x,y]))
  (hs:swapsWithSole [.Tuple [.Name x px,.Name y py] kt pt] (.Tuple [a,b] k2 pt2) pos.line X.env=pure false:=by rfl) :
  PS X (.Assign [.Tuple [.Name x px,.Name y py] kt pt] (.Tuple [a,b] k2 pt2) pos) (Ho i j ta):=by
 intro pins s σ H D I h
 rw [exec_Assign_arm]
 refine wpAny_bind (wpAny_standAt ?_)
 rw [hs]
 refine wpAny_bind (wpAny_pure ?_)
 rw [if_neg (by decide)]
 refine wpAny_bind (Tuple_ (thn (ha _ pins s σ H _ I h) fun us s1 ⟨vs,H1,I1,r1,q1⟩=>?_))
 obtain ⟨v,w,e1,q1⟩:=q1
 subst e1
 obtain ⟨u1,u2,rfl,rv,rw'⟩:∃ u1 u2,us=[u1,u2]/\zz v u1/\zz w u2:=by
  cases r1 with
  | cons p q=>
   cases q with
   | cons p' q'=>
    cases q'
    exact ⟨_,_,rfl,p,p'⟩
 refine wpAny_newObj_type ?_ (by show 2<=sizeLine;decide)
 have I2:Inv X pins σ H1 { s1 with heap:=s1.heap.push { cls:=.type "tuple",data:=.seq [u1,u2].toArray } }:=I1.kept (t':=s1.toks) fun b o e=>Heap.get?_push_of_some _ e
 rw [hw]
 refine wpAny_bind (wpAny_pure ?_)
 show wpAny (model X.prog X.w) X.A (do rule "assign.swapped-stores";let items <- unpackItems (.ref s1.heap.objs.size) 2 none;assignInOrder [fun v=>bindName X.env y v,fun v=>bindName X.env x v] items.reverse;pure Flow.next) _ _ _
 refine wpAny_bind (wpAny_rule (wpAny_bind (unpackItems_tuple (items:=#[u1,u2]) (I.ok.hd hc) (IsTup.new s1.heap _) fun h' hx'=>?_)))
 have I3:=I2.kept (h':=h') (t':=s1.toks) fun b o e=>hx' b o (Nat.ne_of_lt (Heap.lt_size e)) e
 show wpAny _ _ (assignInOrder [fun v=>bindName X.env y v,fun v=>bindName X.env x v] [u2,u1] >>= fun _=>pure Flow.next) _ _ _
 refine wpAny_bind (assignInOrder_cons (wpAny_bindName (je I3 hN hj (.inl hy) rw' (fun s2 I4=>?_) (.inr hy))))
 refine assignInOrder_cons (wpAny_bindName (je I4 hN hi (.inl hx) rv (fun s3 I5=>assignInOrder_nil (wpAny_pure ?_)) (.inr hx)))
 rw [List.set_comm _ _ (Ne.symm hij)] at I5
 exact ⟨_,H1,I5,q1⟩
noncomputable def AZ (to ti te:TE)(tget:V->V->Hp->VK->Prop)(tip:TIp)(tset:QE):TS:=fun D σ H=>to σ H fun o H1=>ti σ H1 fun i H2=>tget o i H2 fun x H3=>te σ H3 fun y H4=>tip x y H4 fun z H5=>tset o i z H5 fun H6=>D.nx σ H6
noncomputable def Lb (X:Cx)(t:V->V->Hp->VK->Prop):Prop:=
 ∀ (pins:List (Addr × Obj)) (s:Shared) (σ:St) (H:Hp) (o i:V) (ov iv:Value) (Q:VK),Inv X pins σ H s->zz o ov->zz i iv->t o i H Q ->
  wpAny (model X.prog X.w) X.A (getItem ov iv) (EP X pins σ Q) X.xe s
theorem vn {o i e:Expr}{to ti te:TE}{tget:V->V->Hp->VK->Prop}{tip:TIp}{tset:QE}{op:Operator}{tpos:Pos}(ho:PE X o to)(hi:PE X i ti)(hg:Lb X tget)(he:PE X e te)(hp:PIp X op tip)(hs:DT X tset)
  (ha:∀ ov iv new,augStore i ov iv new=(do holding [new,ov,iv] (setItem ov iv new);release [new,ov,iv] [];pure .next):=by intros;rfl):PS X (.AugAssign (.Subscript o i tpos) op e pos) (AZ to ti te tget tip tset):=by
 intro pins s σ H D I h
 refine wpAny_AugAssign_SubscriptAny (thn (ho pins s σ H _ I h) fun ov s1 ⟨x1,H1,I1,r1,q1⟩=>?_) ha
 refine thn (hi pins s1 σ H1 _ I1 q1) fun iv s2 ⟨x2,H2,I2,r2,q2⟩=>?_
 refine thn (hg pins s2 σ H2 x1 x2 ov iv _ I2 r1 r2 q2) fun old s3 ⟨x3,H3,I3,r3,q3⟩=>?_
 refine thn (he pins s3 σ H3 _ I3 q3) fun v s4 ⟨x4,H4,I4,r4,q4⟩=>?_
 refine thn (hp pins s4 σ H4 x3 x4 old v _ I4 r3 r4 q4) fun new s5 ⟨x5,H5,I5,r5,q5⟩=>?_
 exact thn (hs pins s5 σ H5 x1 x2 x5 ov iv new _ I5 r1 r2 r5 q5) fun _ s6 ⟨H6,I6,q6⟩=>⟨σ,H6,I6,q6⟩
noncomputable def ipI (f:Int->Int->Int):TIp:=fun x y H Q=>∃ i j,x=.int i/\y=.int j/\Q (.int (f i j)) H
theorem ZK:PIp X .Add (ipI fun i j=>i+j):=by
 intro pins s σ H x y v u Q I r1 r2 h
 obtain ⟨i,j,e1,e2,q⟩:=h
 subst e1;subst e2
 obtain ⟨t,rfl⟩:=r1
 obtain ⟨t',rfl⟩:=r2
 exact iadd_int ⟨.int _,H,I.tok _,⟨_,rfl⟩,q⟩
end
section
variable {X:Cx}{pos:Pos}
end
structure It where
 go:Nat->Hp->Prop
 yld:Nat->Hp->V->Hp->Prop
 stop:Nat->Hp->Prop
noncomputable def y8 (X:Cx)(pins:List (Addr × Obj))(H:Hp)(b:Addr):Prop:=
 H b=none/\b ≠ X.env.locals/\b ∉ X.fs/\(b ∈ X.ex \/ X.s₀.heap.objs.size<=b)/\(∀ x c,X.env.cells.lookup x=some c->c ≠ b)/\∀ p ∈ X.pn ++ pins,p.1 ≠ b
variable {pins:List (Addr × Obj)} {σ:St}
theorem Inv.fpOk {H H':Hp} (I:Inv X pins σ H s)(hb:s.heap.objs.size<=b)(hn:H' b=none):y8 X pins H' b:=by
 refine ⟨hn,Nat.ne_of_gt (Nat.lt_of_lt_of_le I.lt hb),I.nofs hb,.inr (Nat.le_trans I.sz hb),fun x c e z=>?_,fun p hp z=>?_⟩
 ·obtain ⟨v,q⟩:=I.cell x c e
  exact absurd (Nat.lt_of_lt_of_le q.lt (by rw [z];exact hb)) (Nat.lt_irrefl _)
 ·exact absurd (Nat.lt_of_lt_of_le (Heap.lt_size (I.pin p hp).1) (by rw [z];exact hb)) (Nat.lt_irrefl _)
structure QT (P:Program)(w:World)(K:PySem.W.Frag)(tg:Expr)(J:It)(fp:List Addr)(it:Addr)(tn:Nat->Heap->Prop):Prop where
 mem:it ∈ fp
 obj:∀ i h,tn i h->∀ b ∈ fp,∃ o,h.get? b=some o/\∀ v,o.data ≠ .cell v
 keep:∀ i h h',tn i h->(∀ b ∈ fp,∀ o,h.get? b=some o->h'.get? b=some o)->tn i h'
 item:∀ (X:Cx),X.prog=P->X.w=w->X.K=K->X.calm=true->∀ (i:Nat) (pins:List (Addr × Obj)) (s:Shared) (σ:St) (H:Hp) (E:Value->Shared->Prop),Inv X pins σ H s->(∀ b ∈ fp,y8 X pins H b)->tn i s.heap->J.go i H ->
  wpAny (model P w) X.A (pyNext (.ref it)) (fun r s1=>∃ u,r=some u /\
   wpAny (model P w) X.A (letOwnedTupleGo tg (.ref it) u) (fun _ s2=>∃ x H',Inv X pins σ H' s2/\zz x u/\J.yld i H x H'/\tn (i+1) s2.heap/\∀ b ∈ fp,H' b=none) E s1) E s
 done:∀ (X:Cx),X.prog=P->X.w=w->X.K=K->X.calm=true->∀ (i:Nat) (pins:List (Addr × Obj)) (s:Shared) (σ:St) (H:Hp) (E:Value->Shared->Prop),Inv X pins σ H s->(∀ b ∈ fp,y8 X pins H b)->tn i s.heap->J.stop i H ->
  wpAny (model P w) X.A (pyNext (.ref it)) (fun r s1=>r=none/\Inv X pins σ H s1) E s
 self:∀ (A:Around) (i:Nat) (s:Shared) (Q:Value->Shared->Prop) (E:Value->Shared->Prop),tn i s.heap->Q (.ref it) s->wpAny (model P w) A (pyIter (.ref it)) Q E s
noncomputable abbrev TI:=St->Hp->(It->Hp->Prop)->Prop
noncomputable def PIE (X:Cx)(pins:List (Addr × Obj))(σ:St)(tg:Expr)(R:It->Hp->Prop)(itv:Value)(s2:Shared):Prop:=
 ∃ (it:Addr) (fp:List Addr) (tn:Nat->Heap->Prop) (J:It) (H':Hp),itv=.ref it/\Inv X pins σ H' s2/\QT X.prog X.w X.K tg J fp it tn/\tn 0 s2.heap/\(∀ b ∈ fp,y8 X pins H' b)/\R J H'
noncomputable def PI (X:Cx)(tg iter:Expr)(wi:TI):Prop:=
 ∀ (pins:List (Addr × Obj)) (s:Shared) (σ:St) (H:Hp) (R:It->Hp->Prop),Inv X pins σ H s->wi σ H R ->
  wpAny (model X.prog X.w) X.A (eval iter X.env) (fun v s1=>wpAny (model X.prog X.w) X.A (pyIter v) (PIE X pins σ tg R) X.xe s1) X.xe s
theorem WU {M : Model}{A : Around}{E : Value -> Shared -> Prop}{s : Shared}{tg : Expr}{it : Addr}{u : Value}{o : Obj}{n : String}{vs : Array Value}{Q : Unit -> Shared -> Prop}(ho : s.heap.get? it = some o)(hc : o.cls = .type n)(hd : o.data = .fields vs)
    (hn:["enumerate","zip","dict_itemiterator","dict_reverseitemiterator","odict_iterator","itertools.zip_longest","itertools.pairwise"].contains n=false) (hQ:Q () s):wpAny M A (letOwnedTupleGo tg (.ref it) u) Q E s:=by
  unfold letOwnedTupleGo
  cases tg <;> first
    | exact wpAny_pure hQ
    | (cases u <;> first
        | exact wpAny_pure hQ
        | (refine wpAny_bind (wpAny_load ho ?_)
           rw [hc,hd]
           show wpAny M A (if (["enumerate","zip","dict_itemiterator","dict_reverseitemiterator","odict_iterator","itertools.zip_longest","itertools.pairwise"].contains n && vs[0]? == some (rawInt _))=true then _ else _) Q E s
           rw [if_neg (by intro h;rw [hn,Bool.false_and] at h;cases h)]
           exact wpAny_pure hQ))
noncomputable def Itl (K:PySem.W.Frag)(a:Addr):It:=
 ⟨fun i H=>∃ xs x,SqL K H a xs/\xs[i]?=some x,fun i H x H'=>H'=H/\∀ xs,SqL K H a xs->xs[i]?=some x,fun i H=>∃ xs,SqL K H a xs/\xs.length<=i⟩
noncomputable def Itt (K:PySem.W.Frag)(a:Addr):It:=
 ⟨fun i H=>∃ xs x,SqT K H a xs/\xs[i]?=some x,fun i H x H'=>H'=H/\∀ xs,SqT K H a xs->xs[i]?=some x,fun i H=>∃ xs,SqT K H a xs/\xs.length<=i⟩
noncomputable def Itr (lo:Int)(n:Nat):It:=⟨fun i _=>i<n,fun i H x H'=>H'=H/\x=.int (lo+i),fun i _=>n<=i⟩
variable {K:PySem.W.Frag} {tg:Expr}
theorem Ym (a it:Addr):QT P w K tg (Itl K a) [it] it (fun i h=>h.IsListIter it a i) where
 mem:=by simp
 obj:=fun i h st b hb=>by
  have e:b=it:=by simpa using hb
  subst e
  obtain ⟨o,e,c,d⟩:=st
  exact ⟨o,e,fun v z=>by rw [d] at z;cases z⟩
 keep:=fun i h h' st k=>st.at fun o e=>k it (by simp) o e
 item:=by
  intro X hP hw hK hc i pins s σ H E I hf st hg
  subst hP hw hK
  obtain ⟨xs,x,hq,hx⟩:=hg
  obtain ⟨its,rv,p,hz⟩:=I.list hq
  obtain ⟨u,hu,ru⟩:=rv.get hx
  obtain ⟨f0,f1,f2,f3,f4,f5⟩:=hf it (by simp)
  refine wpAny_pyNext_list_item st p.isList (x:=u) (by simpa using hu) fun h' st' sb=>?_
  have I1:Inv X pins σ H { s with heap:=h' }:=I.turned (t':=s.toks) (fun b o hb e=>(sb.2 b hb).trans e) f0 f1 f3 f4 f5
  obtain ⟨o,e,c,d⟩:=id st'
  exact ⟨u,rfl,WU (s:={ s with heap:=h' }) e c d (by decide) ⟨x,H,I1,ru,⟨rfl,fun ys hy=>by rw [I.list_inj hy hq];exact hx⟩,st',fun b hb=>(hf b hb).1⟩⟩
 done:=by
  intro X hP hw hK hc i pins s σ H E I hf st hg
  subst hP hw hK
  obtain ⟨xs,hq,hx⟩:=hg
  obtain ⟨its,rv,p,hz⟩:=I.list hq
  obtain ⟨f0,f1,f2,f3,f4,f5⟩:=hf it (by simp)
  have hl:=rv.length
  exact wpAny_pyNext_list_end (I.ok.hd hc) st p.isList (by simp;omega) fun h' eb=>⟨rfl,I.turned (t':=s.toks) (fun b o hb e=>eb b o hb e) f0 f1 f3 f4 f5⟩
 self:=fun _ _ _ _ _ st h=>wpAny_pyIter_listiter st h
theorem JR (a it:Addr):QT P w K tg (Itt K a) [it] it (fun i h=>h.IsTupleIter it a i) where
 mem:=by simp
 obj:=fun i h st b hb=>by
  have e:b=it:=by simpa using hb
  subst e
  obtain ⟨o,e,c,d⟩:=st
  exact ⟨o,e,fun v z=>by rw [d] at z;cases z⟩
 keep:=fun i h h' st k=>st.at fun o e=>k it (by simp) o e
 item:=by
  intro X hP hw hK hc i pins s σ H E I hf st hg
  subst hP hw hK
  obtain ⟨xs,x,hq,hx⟩:=hg
  obtain ⟨its,rv,p,hz⟩:=I.tuple hq
  obtain ⟨u,hu,ru⟩:=rv.get hx
  obtain ⟨f0,f1,f2,f3,f4,f5⟩:=hf it (by simp)
  refine wpAny_pyNext_tuple_item st (show s.heap.IsTuple a its.toArray from p) (x:=u) (by simpa using hu) fun h' st' sb=>?_
  have I1:Inv X pins σ H { s with heap:=h' }:=I.turned (t':=s.toks) (fun b o hb e=>(sb.2 b hb).trans e) f0 f1 f3 f4 f5
  obtain ⟨o,e,c,d⟩:=id st'
  exact ⟨u,rfl,WU (s:={ s with heap:=h' }) e c d (by decide) ⟨x,H,I1,ru,⟨rfl,fun ys hy=>by rw [I.tuple_inj hy hq];exact hx⟩,st',fun b hb=>(hf b hb).1⟩⟩
 done:=by
  intro X hP hw hK hc i pins s σ H E I hf st hg
  subst hP hw hK
  obtain ⟨xs,hq,hx⟩:=hg
  obtain ⟨its,rv,p,hz⟩:=I.tuple hq
  obtain ⟨f0,f1,f2,f3,f4,f5⟩:=hf it (by simp)
  have hl:=rv.length
  exact wpAny_pyNext_tuple_end (I.ok.hd hc) st (show s.heap.IsTuple a its.toArray from p) (by simp;omega) fun h' eb=>⟨rfl,I.turned (t':=s.toks) (fun b o hb e=>eb b o hb e) f0 f1 f3 f4 f5⟩
 self:=fun _ _ _ _ _ st h=>wpAny_pyIter_tupleiter st h
theorem Kf (it:Addr)(lo:Int)(n:Nat):QT P w K tg (Itr lo n) [it] it (fun i h=>IsRangeIter h it (lo+(i:Nat) * 1) ((n:Int) - (i:Nat)) 1) where
 mem:=by simp
 obj:=fun i h st b hb=>by
  have e:b=it:=by simpa using hb
  subst e
  exact ⟨_,st,fun v z=>by
   have z':Data.fields _=Data.cell v:=z
   cases z'⟩
 keep:=fun i h h' st k=>k it (by simp) _ st
 item:=by
  intro X hP hw hK hc i pins s σ H E I hf st hg
  subst hP hw hK
  obtain ⟨f0,f1,f2,f3,f4,f5⟩:=hf it (by simp)
  have W:=Walks.range (prog:=X.prog) (w:=X.w) (I.ok.hd hc) it lo 1 n
  refine W.item i s _ _ hg st fun v h' tk hv st' kk=>?_
  obtain ⟨t,rfl⟩:=hv
  have I1:Inv X pins σ H { s with heap:=h',toks:=tk }:=I.turned (fun b o hb e=>kk b o (by simpa using hb) e) f0 f1 f3 f4 f5
  refine ⟨_,rfl,WU (s:={ s with heap:=h',toks:=tk }) (n:="range_iterator") st' rfl rfl (by decide) ⟨.int (lo+i),H,I1,⟨t,?_⟩,⟨rfl,rfl⟩,st',fun b hb=>(hf b hb).1⟩⟩
  rw [Int.mul_one]
 done:=by
  intro X hP hw hK hc i pins s σ H E I hf st hg
  subst hP hw hK
  obtain ⟨f0,f1,f2,f3,f4,f5⟩:=hf it (by simp)
  exact wpAny_pyNext_range_end (I.ok.hd hc) st (by have:n<=i:=hg;omega) fun h' eb=>⟨rfl,I.turned (t':=s.toks) (fun b o hb e=>eb b o hb e) f0 f1 f3 f4 f5⟩
 self:=fun _ _ _ _ _ st h=>wpAny_pyIter_rangeiter st h
section
variable {X:Cx}{tg:Expr}
theorem Bt {R:It->Hp->Prop} {lo hi:Int}{t u v:Tok}{tk:Nat}(I:Inv X pins σ H s)(h1:-(2 ^ 62)<=lo)(h2:lo<2 ^ 62)(h3:-(2 ^ 62)<=hi)(h4:hi<2 ^ 62)
  (q:R (Itr lo (hi - lo).toNat) H):wpAny (model X.prog X.w) X.A (pyIter (.ref s.heap.objs.size)) (PIE X pins σ tg R) E { s with heap:=s.heap.push { cls:=.type "range",data:=.fields #[.int lo t,.int hi u,.int 1 v] },toks:=tk }:=by
 refine wpAny_pyIter_range (IsRange.new ..) (small_one h1 h2 h3 h4) ?_
 have I1:Inv X pins σ H { s with heap:=s.heap.push { cls:=.type "range",data:=.fields #[.int lo t,.int hi u,.int 1 v] },toks:=tk }:=I.kept fun b o e=>Heap.get?_push_of_some _ e
 refine ⟨(s.heap.push { cls:=.type "range",data:=.fields #[.int lo t,.int hi u,.int 1 v] }).objs.size,[(s.heap.push { cls:=.type "range",data:=.fields #[.int lo t,.int hi u,.int 1 v] }).objs.size],_,_,H,rfl,
  I1.kept (t':=tk) fun b o e=>Heap.get?_push_of_some _ e,Kf _ lo (hi - lo).toNat,?_,fun b hb=>?_,q⟩
 ·have e1:lo+((0:Nat):Int) * 1=lo:=by simp
  have e2:(((hi - lo).toNat:Nat):Int) - ((0:Nat):Int)=Builtin.Range.rangeSize lo hi 1:=by rw [rangeSize_one];split <;> omega
  show IsRangeIter _ _ (lo+((0:Nat):Int) * 1) ((((hi - lo).toNat:Nat):Int) - ((0:Nat):Int)) 1
  rw [e1,e2]
  exact Heap.get?_push_size _ rfl
 ·have e:b=(s.heap.push { cls:=.type "range",data:=.fields #[.int lo t,.int hi u,.int 1 v] }).objs.size:=by simpa using hb
  subst e
  exact I1.fpOk (Nat.le_refl _) (I1.hok.fresh (Nat.le_refl _))
noncomputable def BW (ta:TA):TI:=fun σ H R=>ta σ H fun vs H1=>∃ j:Int,vs=[.int j]/\-(2 ^ 62)<=j/\j<2 ^ 62/\R (Itr 0 j.toNat) H1
theorem ka {a:Expr}{ta:TA}{p pos:Pos}(hg:Gl X "range")(hm:X.mg "range"=none)(ha:PA X [a] ta)(hs:starEach [a] X.env=[(false,eval a X.env)]:=by rfl):PI X tg (.Call (.Name "range" p) [a] [] pos) (BW ta):=by
 intro pins s σ H R I h
 refine Call_ (jN I hg hm boot_range (PyProof.Rows.callWith_type1 (thn (ha pos pins s σ H _ I h) fun us s1 ⟨vs,H1,I1,r1,q1⟩=>?_) hs rfl))
 obtain ⟨j,e,q1,q2,q⟩:=q1
 subst e
 cases r1 with
 | cons r rr=>
  cases rr
  obtain ⟨t,rfl⟩:=r
  exact call_range_1 (Bt I1 (by omega) (by omega) q1 q2 (by simpa using q))
noncomputable def DO (wi:TI)(g:TG)(tb:TS):TS:=fun D σ H=>wi σ H fun J H1=>∃ W:Nat->Nat->St->Hp->Prop,(∃ m,W 0 m σ H1)/\∀ i m σ H,W i m σ H ->
 (J.stop i H/\D.nx σ H) \/ (J.go i H/\∃ N:St->Hp->Prop,(∀ σ' H',N σ' H'->∃ m',m'<m/\W (i+1) m' σ' H')/\∀ x H',J.yld i H x H'->g x σ H' fun σ2 H2=>tb { D with nx:=N,ct:=N,bk:=D.nx } σ2 H2)
noncomputable def vL (fp:List Addr)(h:Heap):List (Addr × Obj):=fp.filterMap fun b=>(h.get? b).map fun o=>(b,o)
variable {fp:List Addr}
theorem ki {h:Heap} {o:Obj}(hb:b ∈ fp)(e:h.get? b=some o):(b,o) ∈ vL fp h:=List.mem_filterMap.mpr ⟨b,hb,by rw [e];rfl⟩
theorem Y2 {fp:List Addr}{h:Heap}{p:Addr × Obj}(hp:p ∈ vL fp h):p.1 ∈ fp/\h.get? p.1=some p.2:=by
 obtain ⟨b,hb,e⟩:=List.mem_filterMap.mp hp
 cases q:h.get? b with
 | none=>rw [q] at e;cases e
 | some o=>
  rw [q] at e
  have e':(b,o)=p:=Option.some.inj e
  subst e'
  exact ⟨hb,q⟩
theorem Inv.pinned (I:Inv X pins σ H s)(hf:∀ b ∈ fp,y8 X pins H b)(ho:∀ b ∈ fp,∃ o,s.heap.get? b=some o/\∀ v,o.data ≠ .cell v):Inv X (pins ++ vL fp s.heap) σ H s:=
 I.pins_of fun p hp=>(List.mem_append.mp hp).elim (fun z=>I.pin p (List.mem_append_right _ z)) fun z=>by
  obtain ⟨hb,e⟩:=Y2 z
  obtain ⟨f0,f1,f2,_⟩:=hf p.1 hb
  obtain ⟨o,e',d⟩:=ho p.1 hb
  rw [e] at e';cases e'
  exact ⟨e,f0,f1,f2,d⟩
theorem Inv.unpinned {pins pl:List (Addr × Obj)} (I:Inv X (pins ++ pl) σ H s):Inv X pins σ H s:=I.pins_of fun p hp=>I.pin p (List.mem_append_right _ (List.mem_append_left _ hp))
theorem xg {iter:Expr}{body:List Stmt}{wi:TI}{g:TG}{tb:TS}{pos:Pos}(hp:PassesOwn (model X.prog X.w) X.A X.env X.xe)(hc:X.calm=true)(hi:PI X tg iter wi)(hg:PG X tg g)(hb:PSs X body tb)
  (hs:∀ x,foldedSetIterable iter X.env x=pure x:=by intro _;rfl):PS X (.For tg iter body [] pos) (DO wi g tb):=by
 intro pins s σ H D I h
 refine wpAny_For (thn (hi pins s σ H _ I h) fun v s1 h1=>thn h1 fun itv s2 h2=>?_) hs
 obtain ⟨it,fp,tn,J,H2,e,I2,T,st2,f2,W,⟨m0,w0⟩,turn⟩:=h2
 subst e
 have stat:∀ {H':Hp},(∀ b ∈ fp,H' b=none)->∀ b ∈ fp,y8 X pins H' b:=fun hn b hb=>⟨hn b hb,(f2 b hb).2⟩
 refine codeAny_forLoop_any (fun n s'=>∃ i σ' H',Inv X pins σ' H' s'/\tn i s'.heap/\(∀ b ∈ fp,H' b=none)/\W i n σ' H') ?_ m0 ⟨0,σ,H2,I2,st2,fun b hb=>(f2 b hb).1,w0⟩
 rintro n s3 ⟨i,σ3,H3,I3,st3,fr3,w3⟩
 rcases turn i n σ3 H3 w3 with ⟨stop,qn⟩ | ⟨go,N,hN,step⟩
 ·refine wpAny_passesOwn hp (thn (T.done X rfl rfl rfl hc i pins s3 σ3 H3 X.xe I3 (stat fr3) st3 stop) fun r s4 ⟨hr,I4⟩=>?_)
  subst hr
  exact wpAny_execs_nil ⟨σ3,H3,I4,qn⟩
 ·refine wpAny_passesOwn hp (thn (T.item X rfl rfl rfl hc i pins s3 σ3 H3 X.xe I3 (stat fr3) st3 go) fun r s4 ⟨u,hr,h4⟩=>?_)
  subst hr
  refine wpAny_passesOwn hp (thn h4 fun _ s5 ⟨x,H5,I5,r5,y5,st5,fr5⟩=>?_)
  have I5':=I5.pinned (stat fr5) (T.obj _ _ st5)
  refine wpAny_passesOwn hp (thn (hg _ s5 σ3 H5 x u _ I5' r5 (step x H5 y5)) fun _ s6 ⟨σ6,H6,I6,q6⟩=>?_)
  refine wpAny_passesOwn hp (thn (hb _ s6 σ6 H6 _ I6 q6) fun f s7 q7=>?_)
  have again:∀ {σ7:St} {H7:Hp},Inv X (pins ++ vL fp s5.heap) σ7 H7 s7->N σ7 H7->∃ m,m<n/\∃ i σ' H',Inv X pins σ' H' s7/\tn i s7.heap/\(∀ b ∈ fp,H' b=none)/\W i m σ' H':=fun {σ7 H7} I7 n7=>by
   obtain ⟨m',hm,w7⟩:=hN σ7 H7 n7
   refine ⟨m',hm,i+1,σ7,H7,I7.unpinned,T.keep _ _ _ st5 fun b hb o e=>(I7.pin (b,o) (List.mem_append_right _ (List.mem_append_right _ (ki hb e)))).1,fun b hb=>?_,w7⟩
   obtain ⟨o,e,d⟩:=T.obj _ _ st5 b hb
   exact (I7.pin (b,o) (List.mem_append_right _ (List.mem_append_right _ (ki hb e)))).2.1
  cases f with
  | next=>obtain ⟨σ7,H7,I7,n7⟩:=q7;exact again I7 n7
  | cont=>obtain ⟨σ7,H7,I7,n7⟩:=q7;exact again I7 n7
  | brk=>obtain ⟨σ7,H7,I7,q7⟩:=q7;exact ⟨σ7,H7,I7.unpinned,q7⟩
  | ret v=>obtain ⟨x7,σ7,H7,I7,r7,q7⟩:=q7;exact ⟨x7,σ7,H7,I7.unpinned,r7,q7⟩
end
noncomputable abbrev R2:=V->V->Hp->VK->Prop
noncomputable def OpR (X:Cx)(f:Value->Value->Sem Value)(r:R2):Prop:=
 ∀ (pins:List (Addr × Obj)) (s:Shared) (σ:St) (H:Hp) (x y:V) (v u:Value) (Q:VK),Inv X pins σ H s->zz x v->zz y u->r x y H Q ->
  wpAny (model X.prog X.w) X.A (f v u) (EP X pins σ Q) X.xe s
noncomputable def UnR (X:Cx)(f:Value->Sem Value)(r:V->Hp->VK->Prop):Prop:=
 ∀ (pins:List (Addr × Obj)) (s:Shared) (σ:St) (H:Hp) (x:V) (v:Value) (Q:VK),Inv X pins σ H s->zz x v->r x H Q ->
  wpAny (model X.prog X.w) X.A (f v) (EP X pins σ Q) X.xe s
noncomputable def ju (X:Cx)(f:Value)(r:List V->Hp->VK->Prop):Prop:=
 ∀ (pins:List (Addr × Obj)) (s:Shared) (σ:St) (H:Hp) (xs:List V) (us:List Value) (Q:VK),Inv X pins σ H s->zB xs us->r xs H Q ->
  wpAny (model X.prog X.w) X.A (call f us) (EP X pins σ Q) X.xe s
noncomputable def tOp (r:R2)(ta tb:TE):TE:=fun σ H Q=>ta σ H fun x H1=>tb σ H1 fun y H2=>r x y H2 Q
noncomputable def tUn (r:V->Hp->VK->Prop)(ta:TE):TE:=fun σ H Q=>ta σ H fun x H1=>r x H1 Q
noncomputable def rI (C:Int->Int->Prop)(g:Int->Int->V):R2:=fun x y H Q=>∃ i j,x=.int i/\y=.int j/\C i j/\Q (g i j) H
noncomputable def rI0 (g:Int->Int->V):R2:=fun x y H Q=>∃ i j,x=.int i/\y=.int j/\Q (g i j) H
noncomputable def rU (g:Int->V):V->Hp->VK->Prop:=fun x H Q=>∃ i,x=.int i/\Q (g i) H
section
variable {X:Cx}{a b c:Expr}{ta tb tc:TE}{pos:Pos}
variable {f:Value->Value->Sem Value}
theorem HJ (ha:PE X a ta)(hb:PE X b tb) {R:V->V->Hp->Prop}(I:Inv X pins σ H s)
  (h:ta σ H fun x H1=>tb σ H1 fun y H2=>R x y H2) {Q:Value->Shared->Prop}
  (hf:∀ v u s2 x y H2,Inv X pins σ H2 s2->zz x v->zz y u->R x y H2->wpAny (model X.prog X.w) X.A (f v u) Q X.xe s2) :
  wpAny (model X.prog X.w) X.A (eval a X.env) (fun v s₁=>wpAny (model X.prog X.w) X.A (eval b X.env) (fun u s₂=>wpAny (model X.prog X.w) X.A (f v u) Q X.xe s₂) X.xe s₁) X.xe s:=by
 refine thn (ha pins s σ H _ I h) fun v s1 ⟨x,H1,I1,r1,q1⟩=>?_
 refine thn (hb pins s1 σ H1 _ I1 q1) fun u s2 ⟨y,H2,I2,r2,q2⟩=>?_
 exact hf v u s2 x y H2 I2 r1 r2 q2
theorem zJ {op:Operator}{r:R2}(ho:OpR X (binaryOp op) r)(ha:PE X a ta)(hb:PE X b tb):PE X (.BinOp a op b pos) (tOp r ta tb):=by
 intro pins s σ H Q I h
 exact wpAny_BinOp (HJ ha hb I h fun v u s2 x y H2 I2 rx ry q=>ho pins s2 σ H2 x y v u Q I2 rx ry q)
theorem LA {op:UnaryOp}{r:V->Hp->VK->Prop}(ho:UnR X (unaryOp op) r)(ha:PE X a ta):PE X (.UnaryOp op a pos) (tUn r ta):=by
 intro pins s σ H Q I h
 exact UnaryOp_ (thn (ha pins s σ H _ I h) fun v s1 ⟨x,H1,I1,r1,q1⟩=>ho pins s1 σ H1 x v Q I1 r1 q1)
variable {g:Int->Int->Int}
theorem opI {C:Int->Int->Prop}
  (rule:∀ (i j:Int) (t u:Tok) (s:Shared) (Q:Value->Shared->Prop) (E:Value->Shared->Prop),C i j->Q (.int (g i j) s.toks) { s with toks:=s.toks+1 }->wpAny (model X.prog X.w) X.A (f (.int i t) (.int j u)) Q E s) :
  OpR X f (rI C fun i j=>.int (g i j)):=by
 intro pins s σ H x y v u Q I rx ry h
 obtain ⟨i,j,rfl,rfl,hc,q⟩:=h
 obtain ⟨t,rfl⟩:=rx
 obtain ⟨t',rfl⟩:=ry
 exact rule i j t t' s _ _ hc ⟨.int (g i j),H,I.tok _,⟨_,rfl⟩,q⟩
theorem IV
  (rule:∀ (i j:Int) (t u:Tok) (s:Shared) (Q:Value->Shared->Prop) (E:Value->Shared->Prop),Q (.int (g i j) s.toks) { s with toks:=s.toks+1 }->wpAny (model X.prog X.w) X.A (f (.int i t) (.int j u)) Q E s) :
  OpR X f (rI0 fun i j=>.int (g i j)):=by
 intro pins s σ H x y v u Q I rx ry h
 obtain ⟨i,j,rfl,rfl,q⟩:=h
 obtain ⟨t,rfl⟩:=rx
 obtain ⟨t',rfl⟩:=ry
 exact rule i j t t' s _ _ ⟨.int (g i j),H,I.tok _,⟨_,rfl⟩,q⟩
theorem DF {g:Int->Int->Bool}
  (rule:∀ (i j:Int) (t u:Tok) (s:Shared) (Q:Value->Shared->Prop) (E:Value->Shared->Prop),Q (.bool (g i j)) s->wpAny (model X.prog X.w) X.A (f (.int i t) (.int j u)) Q E s) :
  OpR X f (rI0 fun i j=>.bl (g i j)):=by
 intro pins s σ H x y v u Q I rx ry h
 obtain ⟨i,j,rfl,rfl,q⟩:=h
 obtain ⟨t,rfl⟩:=rx
 obtain ⟨t',rfl⟩:=ry
 exact rule i j t t' s _ _ ⟨.bl (g i j),H,I,rfl,q⟩
noncomputable def Ij (i j:Int):Prop:=0<j/\j<1073741824
noncomputable def LS (i j:Int):Prop:=0<=j/\j<=1000000/\i.natAbs<2 ^ 64
noncomputable def WM (i j:Int):Prop:=(-(2 ^ 64)<i/\i<2 ^ 64) \/ (-(2 ^ 64)<j/\j<2 ^ 64)
theorem WM.ok {i j:Int}(h:WM i j):IntMulOk i j:=by
 rcases h with ⟨h1,h2⟩ | ⟨h1,h2⟩
 ·exact .of_left (intBits_le_64 h1 h2)
 ·exact .of_right (intBits_le_64 h1 h2)
theorem ja:OpR X (binaryOp .Add) (rI0 fun i j=>.int (i+j)):=IV fun _ _ _ _ _ _ _ q=>add_int q
theorem vS:OpR X (binaryOp .Sub) (rI0 fun i j=>.int (i - j)):=IV fun _ _ _ _ _ _ _ q=>sub_int q
theorem kQ:OpR X (binaryOp .Mult) (rI WM fun i j=>.int (i * j)):=opI fun _ _ _ _ _ _ _ hc q=>mul_int q hc.ok
theorem X7:OpR X (binaryOp .FloorDiv) (rI Ij fun i j=>.int (i / j)):=opI fun i j _ _ _ _ _ hc q=>by
 have h1:(0:Int)<j:=hc.1
 have h2:j<1073741824:=hc.2
 exact floordiv_int (by omega) (by rw [Int.fdiv_eq_ediv_of_nonneg i (by omega)];exact q) (.inl (PyProof.noPylong_small (by omega)))
theorem j4:OpR X (binaryOp .Mod) (rI (fun _ j=>0<j) fun i j=>.int (i % j)):=opI fun i j _ _ _ _ _ hc q=>by
 have h1:(0:Int)<j:=hc
 exact mod_int' (by omega) (by rw [Int.fmod_eq_emod_of_nonneg i (by omega)];exact q)
theorem HW:OpR X (binaryOp .Pow) (rI LS fun i j=>.int (i ^ j.toNat)):=opI fun _ _ _ _ _ _ _ hc q=>pow_int_small hc.1 hc.2.1 hc.2.2 q
theorem unI {f:Value->Sem Value}{g:Int->Int}
  (rule:∀ (i:Int) (t:Tok) (s:Shared) (Q:Value->Shared->Prop) (E:Value->Shared->Prop),Q (.int (g i) s.toks) { s with toks:=s.toks+1 }->wpAny (model X.prog X.w) X.A (f (.int i t)) Q E s) :
  UnR X f (rU fun i=>.int (g i)):=by
 intro pins s σ H x v Q I rx h
 obtain ⟨i,rfl,q⟩:=h
 obtain ⟨t,rfl⟩:=rx
 exact rule i t s _ _ ⟨.int (g i),H,I.tok _,⟨_,rfl⟩,q⟩
theorem GU:UnR X (unaryOp .USub) (rU fun i=>.int (-i)):=unI fun _ _ _ _ _ q=>neg_int q
end
noncomputable def LO:V->V->Bool
 | .non,.non=>true | .non,.int _=>true | .int _,.non=>true | .non,.bl _=>true | .bl _,.non=>true | .non,.str _=>true | .str _,.non=>true
 | .int _,.int _=>true | .bl _,.bl _=>true | .str _,.str _=>true | .byt _,.byt _=>true
 | .int _,.str _=>true | .str _,.int _=>true | .bl _,.str _=>true | .str _,.bl _=>true
 | _,_=>false
noncomputable def rEq:R2:=fun x y H Q=>LO x y=true/\Q (.bl (decide (x=y))) H
theorem Dt {i j:Int}:decide (V.int i=V.int j)=(i == j):=by
 rw [Bool.eq_iff_iff]
 simp
theorem Hm {i j:Bool}:decide (V.bl i=V.bl j)=(i == j):=by
 rw [Bool.eq_iff_iff]
 simp
theorem D1 {i j:Str}:decide (V.str i=V.str j)=(i == j):=by
 rw [Bool.eq_iff_iff]
 simp
theorem DP {i j:Array UInt8}:decide (V.byt i=V.byt j)=(i.toList == j.toList):=by
 rw [Bool.eq_iff_iff]
 cases i
 cases j
 simp
section
variable {X:Cx}{a b c:Expr}{ta tb tc:TE}{pos:Pos}
theorem qH {Q:VK}{k k':Bool}(I:Inv X pins σ H s)(q:Q (.bl k) H)(e:k=k'):EP X pins σ Q (.bool k') s:=by
 subst e
 exact ⟨.bl k,H,I,rfl,q⟩
theorem Gb:OpR X (compareOp .Eq) rEq:=by
 intro pins s σ H x y v u Q I rx ry h
 obtain ⟨hs,q⟩:=h
 cases x with
 | non=>
  cases rx
  cases y with
  | non=>cases ry;exact PySem.EqNone.eq_none_none (qH I q (by simp))
  | bl j=>cases ry;exact PySem.EqNone.eq_none_bool (qH I q (by simp))
  | int j=>obtain ⟨t',rfl⟩:=ry;exact PySem.EqNone.eq_none_int (qH I q (by simp))
  | str j=>obtain ⟨t',rfl⟩:=ry;exact PySem.EqNone.eq_none_str (qH I q (by simp))
  | _=>exact absurd (show false=true from hs) Bool.false_ne_true
 | bl i=>
  cases rx
  cases y with
  | non=>cases ry;exact PySem.EqNone.eq_bool_none (qH I q (by simp))
  | bl j=>cases ry;exact eq_bool (qH I q Hm)
  | str j=>obtain ⟨t',rfl⟩:=ry;exact PySem.EqMixed.eq_bool_str (qH I q (by simp))
  | _=>exact absurd (show false=true from hs) Bool.false_ne_true
 | int i=>
  obtain ⟨t,rfl⟩:=rx
  cases y with
  | non=>cases ry;exact PySem.EqNone.eq_int_none (qH I q (by simp))
  | int j=>obtain ⟨t',rfl⟩:=ry;exact eq_int (qH I q Dt)
  | str j=>obtain ⟨t',rfl⟩:=ry;exact PySem.EqMixed.eq_int_str (qH I q (by simp))
  | _=>exact absurd (show false=true from hs) Bool.false_ne_true
 | str i=>
  obtain ⟨t,rfl⟩:=rx
  cases y with
  | non=>cases ry;exact PySem.EqNone.eq_str_none (qH I q (by simp))
  | bl j=>cases ry;exact PySem.EqMixed.eq_str_bool (qH I q (by simp))
  | int j=>obtain ⟨t',rfl⟩:=ry;exact PySem.EqMixed.eq_str_int (qH I q (by simp))
  | str j=>obtain ⟨t',rfl⟩:=ry;exact eq_str (qH I q D1)
  | _=>exact absurd (show false=true from hs) Bool.false_ne_true
 | byt i=>
  obtain ⟨t,rfl⟩:=rx
  cases y with
  | byt j=>obtain ⟨t',rfl⟩:=ry;exact PySem.W.eq_bytes (qH I q DP)
  | _=>exact absurd (show false=true from hs) Bool.false_ne_true
 | _=>cases y <;> exact absurd (show false=true from hs) Bool.false_ne_true
theorem Gk:OpR X (compareOp .Lt) (rI0 fun i j=>.bl (decide (i<j))):=DF fun _ _ _ _ _ _ _ q=>lt_int q
theorem FJ:OpR X (compareOp .LtE) (rI0 fun i j=>.bl (decide (i<=j))):=DF fun _ _ _ _ _ _ _ q=>le_int q
theorem F9:OpR X (compareOp .Gt) (rI0 fun i j=>.bl (decide (j<i))):=DF fun _ _ _ _ _ _ _ q=>gt_int q
theorem Lx:OpR X (compareOp .GtE) (rI0 fun i j=>.bl (decide (j<=i))):=DF fun _ _ _ _ _ _ _ q=>ge_int q
theorem kj:OpR X (compareOp .Is) (fun x y H Q=>y=.non/\Q (.bl (decide (x=.non))) H):=by
 intro pins s σ H x y v u Q I rx ry h
 obtain ⟨rfl,q⟩:=h
 cases ry
 refine is_none_gen (qH I q ?_)
 cases x <;> first
  | (cases rx;rfl)
  | (obtain ⟨t,rfl⟩:=rx;rfl)
theorem qX:OpR X (compareOp .IsNot) (fun x y H Q=>y=.non/\Q (.bl (!decide (x=.non))) H):=by
 intro pins s σ H x y v u Q I rx ry h
 obtain ⟨rfl,q⟩:=h
 cases ry
 refine isnot_none_gen (qH I q ?_)
 cases x <;> first
  | (cases rx;rfl)
  | (obtain ⟨t,rfl⟩:=rx;rfl)
variable {op:CmpOp}
theorem zr (b:Expr) (h:op ≠ .In:=by decide)(h2:op ≠ .NotIn:=by decide):behindInMarks op b=false:=by
 have e1:(op == CmpOp.In)=false:=by cases op <;> first | rfl | exact absurd rfl h
 have e2:(op == CmpOp.NotIn)=false:=by cases op <;> first | rfl | exact absurd rfl h2
 cases b <;> simp [behindInMarks,e1,e2]
variable {r:R2}
theorem jR (ho:OpR X (compareOp op) r)(ha:PE X a ta)(hb:PE X b tb)(hm:behindInMarks op b=false):PE X (.Compare a [op] [b] pos) (tOp r ta tb):=by
 intro pins s σ H Q I h
 exact wpAny_Compare1 (HJ ha hb I h fun v u s2 x y H2 I2 rx ry q=>ho pins s2 σ H2 x y v u Q I2 rx ry q) hm
noncomputable def K5 (t:TE):TT:=fun σ H Q=>t σ H fun x H'=>∃ k,x=.bl k/\Q k H'
theorem zn (ho:OpR X (compareOp op) r)(ha:PE X a ta)(hb:PE X b tb)(hm:behindInMarks op b=false):PT X (.Compare a [op] [b] pos) (K5 (tOp r ta tb)):=by
 intro pins s σ H Q I h
 refine wpAny_isTrue_Compare1 (thn (ha pins s σ H _ I h) fun v s1 ⟨x,H1,I1,r1,q1⟩=>thn (hb pins s1 σ H1 _ I1 q1) fun u s2 ⟨y,H2,I2,r2,q2⟩=>
  thn (ho pins s2 σ H2 x y v u _ I2 r1 r2 q2) fun c s3 ⟨z,H3,I3,r3,k,e,q3⟩=>?_) hm
 subst e
 cases r3
 exact wpAny_truthy_bool ⟨H3,I3,q3⟩
noncomputable def Ke (r r':R2)(ta tb tc:TE):TE:=fun σ H Q=>ta σ H fun x H1=>tb σ H1 fun y H2=>r x y H2 fun z H3=>∃ k,z=.bl k /\
 (if k=true then tc σ H3 fun w' H4=>r' y w' H4 Q else Q (.bl false) H3)
theorem WO {op op':CmpOp}{r r':R2}(ho:OpR X (compareOp op) r)(ho':OpR X (compareOp op') r')(ha:PE X a ta)(hb:PE X b tb)(hc:PE X c tc)
  (hm:lastMarks [op,op'] [b,c]=false:=by with_unfolding_all rfl):PE X (.Compare a [op,op'] [b,c] pos) (Ke r r' ta tb tc):=by
 intro pins s σ H Q I h
 refine Compare_chain (thn (ha pins s σ H _ I h) fun v s1 ⟨x,H1,I1,r1,q1⟩=>chain_link (thn (hb pins s1 σ H1 _ I1 q1) fun u s2 ⟨y,H2,I2,r2,q2⟩=>
  thn (ho pins s2 σ H2 x y v u _ I2 r1 r2 q2) fun d s3 ⟨z,H3,I3,r3,k,e,q3⟩=>?_)) hm
 subst e
 cases r3
 refine wpAny_truthy_bool ?_
 cases k with
 | false=>exact ite_ff ⟨.bl false,H3,I3,rfl,q3⟩
 | true=>exact ite_tt (chain_last (thn (hc pins s3 σ H3 _ I3 q3) fun w' s4 ⟨z',H4,I4,r4,q4⟩=>ho' pins s4 σ H4 y z' u w' Q I4 r2 r4 q4))
theorem W8 {op op':CmpOp}{r r':R2}(ho:OpR X (compareOp op) r)(ho':OpR X (compareOp op') r')(ha:PE X a ta)(hb:PE X b tb)(hc:PE X c tc)
  (hm:lastMarks [op,op'] [b,c]=false:=by with_unfolding_all rfl):PT X (.Compare a [op,op'] [b,c] pos) (K5 (Ke r r' ta tb tc)):=by
 intro pins s σ H Q I h
 refine isTrue_chain (thn (ha pins s σ H _ I h) fun v s1 ⟨x,H1,I1,r1,q1⟩=>test_link (thn (hb pins s1 σ H1 _ I1 q1) fun u s2 ⟨y,H2,I2,r2,q2⟩=>
  thn (ho pins s2 σ H2 x y v u _ I2 r1 r2 q2) fun d s3 ⟨z,H3,I3,r3,k,e,q3⟩=>?_)) hm
 subst e
 cases r3
 refine wpAny_truthy_bool ?_
 cases k with
 | false=>
  obtain ⟨k',e',q'⟩:=q3
  cases e'
  exact ite_ff ⟨H3,I3,q'⟩
 | true=>
  refine ite_tt (test_last (thn (hc pins s3 σ H3 _ I3 q3) fun w' s4 ⟨z',H4,I4,r4,q4⟩=>thn (ho' pins s4 σ H4 y z' u w' _ I4 r2 r4 q4) fun d' s5 ⟨z2,H5,I5,r5,k2,e2,q5⟩=>?_))
  subst e2
  cases r5
  exact wpAny_truthy_bool ⟨H5,I5,q5⟩
theorem yA:(sizeLine:Nat)<2 ^ 63:=by rw [sizeLine_eq];decide
theorem kU {x:V}{us:List Value}(r:zB [x] us):∃ u,us=[u]/\zz x u:=by
 cases r with
 | cons r1 r2=>cases r2;exact ⟨_,rfl,r1⟩
theorem QV {x y:V}{us:List Value}(r:zB [x,y] us):∃ u w',us=[u,w']/\zz x u/\zz y w':=by
 cases r with
 | cons r1 r2=>
  cases r2 with
  | cons r3 r4=>cases r4;exact ⟨_,_,rfl,r1,r3⟩
theorem QS:ju X (.builtin "abs") (fun xs H Q=>∃ i,xs=[.int i]/\Q (.int (if i<0 then -i else i)) H):=by
 intro pins s σ H xs us Q I r h
 obtain ⟨i,rfl,q⟩:=h
 obtain ⟨u,rfl,t,rfl⟩:=kU r
 exact call_abs_int fun u tk=>⟨.int (if i<0 then -i else i),H,I.tok _,⟨_,rfl⟩,q⟩
theorem wK (hc:X.calm=true):ju X (.builtin "max") (fun xs H Q=>∃ i j,xs=[.int i,.int j]/\Q (.int (if j > i then j else i)) H):=by
 intro pins s σ H xs us Q I r h
 obtain ⟨i,j,rfl,q⟩:=h
 obtain ⟨u,w',rfl,⟨t,rfl⟩,⟨t',rfl⟩⟩:=QV r
 refine max_two_ints (I.ok.hd hc) fun h' tk k=>⟨_,H,I.kept k,?_,q⟩
 by_cases hj:j > i
 ·rw [if_pos hj,if_pos hj];exact ⟨_,rfl⟩
 ·rw [if_neg hj,if_neg hj];exact ⟨_,rfl⟩
theorem Yu:ju X (.type "int") (fun xs H Q=>(∃ i,xs=[.int i]/\Q (.int i) H) \/ ∃ k,xs=[.bl k]/\Q (.int (if k then 1 else 0)) H):=by
 intro pins s σ H xs us Q I r h
 rcases h with ⟨i,rfl,q⟩ | ⟨k,rfl,q⟩
 ·obtain ⟨u,rfl,t,rfl⟩:=kU r
  exact call_int_int ⟨.int i,H,I,⟨_,rfl⟩,q⟩
 ·obtain ⟨u,rfl,r1⟩:=kU r
  cases r1
  exact call_int_bool ⟨.int (if k then 1 else 0),H,I.tok _,⟨_,rfl⟩,q⟩
theorem Qt:ju X (.builtin "divmod") (fun xs H Q=>∃ i j,xs=[.int i,.int j]/\Ij i j/\∀ p,H p=none->Q (.ref p) (upd H p (.tup [.int (i / j),.int (i % j)]))):=by
 intro pins s σ H xs us Q I r h
 obtain ⟨i,j,rfl,⟨h1,h2⟩,q⟩:=h
 obtain ⟨u,w',rfl,⟨t,rfl⟩,⟨t',rfl⟩⟩:=QV r
 refine divmod_int (by omega) ?_ (.inl (PyProof.noPylong_small (by omega)))
 rw [Int.fdiv_eq_ediv_of_nonneg i (by omega),Int.fmod_eq_emod_of_nonneg i (by omega)]
 have hn:H s.heap.objs.size=none:=I.hok.fresh (Nat.le_refl _)
 refine ⟨.ref s.heap.objs.size,_,?_,rfl,q _ hn⟩
 refine I.laid (fun b o e=>Heap.get?_push_of_some _ e) (Nat.le_refl _) ⟨by simp only [List.length_cons,List.length_nil];rw [sizeLine_eq];decide,[.int (i / j) s.toks,.int (i % j) (s.toks+1)],.cons ⟨_,rfl⟩ (.cons ⟨_,rfl⟩ .nil),?_⟩
 exact ⟨_,Heap.get?_push_size s.heap rfl,rfl,⟨0,rfl⟩,rfl⟩
end
structure Jp (h:Heap)(x dx C:Addr)(mA:Str->Option Value):Prop where
 obj:h.get? x=some (PySem.W.instObj C dx)
 ns:h.Ns1 dx mA
 ne:dx ≠ x
variable {mA:Str->Option Value}
theorem yt {h:Heap}{dx:Addr} (n:h.Ns1 dx mA):∃ od,h.get? dx=some od/\∀ name,PySem.W.lookIn name od=some (mA name):=by
 obtain ⟨o,es,ep,ho,hd,hk,_,hm⟩:=n
 refine ⟨o,ho,fun name=>?_⟩
 have e:=hm name
 unfold nsFind findBy at e
 rw [<- Array.find?_toList] at e
 unfold PySem.W.lookIn
 rw [hd]
 dsimp only
 split
 ·rename_i y q
  rw [q] at e
  exact congrArg some e
 ·rename_i q
  rw [q] at e
  have a:es.toList.any (·.refKey)=false:=by
   rw [List.any_eq_false]
   intro y hy
   obtain ⟨z,t,hkey⟩:=hk y (Array.mem_toList_iff.mp hy)
   simp [DictEntry.refKey,hkey]
  have a':¬ es.toList.any (·.refKey)=true:=by rw [a];exact Bool.false_ne_true
  rw [if_neg a']
  exact congrArg some e
theorem Jp.look {h:Heap}{x dx C:Addr} (I:Jp h x dx C mA):∃ od,PySem.W.InstAt h x (PySem.W.instObj C dx) C (some od)/\∀ name,PySem.W.lookIn name od=some (mA name):=
 let ⟨od,ho,hl⟩:=yt I.ns
 ⟨od,⟨I.obj,rfl,rfl,ho⟩,hl⟩
section
variable {prog:Program}{w:World}{A:Around}{E:Value->Shared->Prop}{s:Shared}{K:PySem.W.Frag}{x dx C f:Addr}{mA:Str->Option Value}{name:Str}{v:Value}
theorem Fp {expr:Bool}{Q:Value->Shared->Prop}(X:K.In s.heap)(I:Jp s.heap x dx C mA)(hg:PySem.W.plainGet K C name=true)(hh:PySem.W.hasDictIn K C=true)
  (ha:PySem.W.findIn K (.ref C) name=some none) (hv:mA name=some v) (hv':PySem.W.handedIn v=true) (h:Q v { s with toks:=s.toks+1 }) :
  wpAny (model prog w) A (getAttr (.ref x) name expr) Q E s:=by
 obtain ⟨od,J,hl⟩:=I.look
 exact PySem.W.get_value X J (PySem.W.plainGet_of hg).1 (PySem.W.findObj_own hh ha rfl (by rw [hl,hv])) hv' h
theorem AC {pl:Sem Bool}{Q:Value × List Value->Shared->Prop}(X:K.In s.heap)(I:Jp s.heap x dx C mA)(hg:PySem.W.plainGet K C name=true)
  (hf:PySem.W.findIn K (.ref C) name=some (some (.ref f))) (ht:PySem.W.isFn K (.ref f)=true) (hv:mA name=none) (h:Q (.ref f,[.ref x]) s) :
  wpAny (model prog w) A (getMethod (.ref x) name pl) Q E s:=by
 obtain ⟨od,J,hl⟩:=I.look
 exact PySem.W.method_fn X J (PySem.W.plainGet_of hg).1 (PySem.W.plainGet_of hg).2 hf (beq_iff_eq.mp ht) (by show (PySem.W.lookIn name od).map (·.isSome)=some false;rw [hl,hv];rfl) h
theorem ZH {ns:List Str}{Q:Unit->Shared->Prop}(X:K.In s.heap)(I:Jp s.heap x dx C mA)
  (hs:PySem.W.findIn K (.ref C) "__setattr__"=some (some (.builtin "object.__setattr__"))) (hp:PySem.W.plainOver K C=true) (ht:PySem.W.takerIn K C name=some none) (hh:PySem.W.hasDictIn K C=true)
  (hw:PySem.Within mA ns) (hsz:ns.length<=sizeLine)
  (h:∀ h',Jp h' x dx C (fun y=>if y=name then some v else mA y)->Heap.SameBut dx s.heap h'->Q () { s with heap:=h',toks:=s.toks+2 }) :
  wpAny (model prog w) A (setAttr (.ref x) name v) Q E s:=by
 obtain ⟨od,J,hl⟩:=I.look
 refine PySem.W.set_plain X J hs (PySem.W.osa_open (s:={ s with toks:=s.toks+1 }) (r:=none) X J hp ht fun b=>?_)
 obtain ⟨cd,hc,hd'⟩:=PySem.W.any_some hh
 have hx:s.heap.get? x=some ⟨.ref C,some dx,.plain,#[]⟩:=I.obj
 refine wpAny_bind (wpAny_pure (wpAny_bind (wpAny_bind (wpAny_loadPart hx (wpAny_bind (PySem.W.Looks.here (s:={ s with toks:=s.toks+1 }) (PySem.W.looks_clsIn X hc) ?_))))))
 rw [hd']
 refine wpAny_pure (a:=some dx) (wpAny_bind (wpAny_pure (wpAny_bind ?_)))
 refine wpAny_nsSet1 (s:={ s with toks:=s.toks+1 }) I.ns fun h' hn2 hs2=>?_
 obtain ⟨oD,esD,epD,hoD,hdD,hcD⟩:=hn2.count (PySem.Within.cons name v hw)
 refine wpAny_bind (wpAny_lookBehind hoD (by rw [hdD];exact pastItsLine_dict (Nat.le_trans hcD (by rw [List.length_cons];omega))) ?_)
 exact wpAny_pure (h _ ⟨(hs2.2 _ (Ne.symm I.ne)).trans I.obj,hn2,I.ne⟩ hs2)
theorem WV {R:Result->Shared->Prop}{vs:List Value}{kw:List (Str × Value)}(X:K.In s.heap)(hm:PySem.W.makesIn K C=true)
  (hi:PySem.W.findIn K (.ref C) "__init__"=some (some (.ref f))) (hf:PySem.W.typeIn K (.ref f)=some (.type "function"))
  (h:codeAny (model prog w) (A.under (.builtin "type.__call__" ⟨.ref C :: vs,kw⟩)) (.call (.ref f) ⟨.ref (s.heap.objs.size+1) :: vs,kw⟩) (PySem.W.InitBack (s.heap.objs.size+1) R)
   { s with heap:=(s.heap.push PySem.W.emptyDict).push (PySem.W.instObj C s.heap.objs.size) }) :
  codeAny (model prog w) A (.call (.ref C) ⟨vs,kw⟩) R s:=by
 obtain ⟨hh,g,d,t,os⟩:=s
 exact PySem.W.make_core (PySem.W.makes_of X hm) (PySem.W.looks_findIn X hi) (fun self=>PySem.W.bind_fn X self hf) (.inl rfl) h
end
noncomputable def jz (f:Str)(v:V):List (Str × V)->List (Str × V)
 | []=>[(f,v)]
 | (g,x) :: r=>if g=f then (g,v) :: r else (g,x) :: jz f v r
theorem jQ (f g:Str)(v:V):∀ fs:List (Str × V),(jz f v fs).lookup g=if g=f then some v else fs.lookup g
 | []=>by
  show List.lookup g [(f,v)]=_
  by_cases h:g=f
  ·have hb:(g == f)=true:=beq_iff_eq.mpr h
   simp only [List.lookup,hb,if_pos h]
  ·have hb:(g == f)=false:=beq_eq_false_iff_ne.mpr h
   simp only [List.lookup,hb,if_neg h]
 | (k,x) :: r=>by
  have ih:=jQ f g v r
  rw [show jz f v ((k,x) :: r)=(if k=f then (k,v) :: r else (k,x) :: jz f v r) from rfl]
  by_cases hk:k=f
  ·rw [if_pos hk]
   by_cases h:g=k
   ·have hb:(g == k)=true:=beq_iff_eq.mpr h
    simp only [List.lookup,hb,if_pos (h.trans hk)]
   ·have hb:(g == k)=false:=beq_eq_false_iff_ne.mpr h
    simp only [List.lookup,hb,if_neg (fun e:g=f=>h (e.trans hk.symm))]
  ·rw [if_neg hk]
   by_cases h:g=k
   ·have hb:(g == k)=true:=beq_iff_eq.mpr h
    simp only [List.lookup,hb,if_neg (fun e:g=f=>hk (h.symm.trans e))]
   ·have hb:(g == k)=false:=beq_eq_false_iff_ne.mpr h
    simp only [List.lookup,hb]
    exact ih
theorem j9 (f:Str)(v:V):∀ fs:List (Str × V),f ∈ (jz f v fs).map (·.1)/\∀ g,g ∈ fs.map (·.1)->g ∈ (jz f v fs).map (·.1)
 | []=>⟨by simp [jz],fun g h=>by simp at h⟩
 | (k,x) :: r=>by
  obtain ⟨i1,i2⟩:=j9 f v r
  rw [show jz f v ((k,x) :: r)=(if k=f then (k,v) :: r else (k,x) :: jz f v r) from rfl]
  by_cases hk:k=f
  ·rw [if_pos hk]
   subst hk
   exact ⟨by simp,fun g h=>by simpa using h⟩
  ·rw [if_neg hk]
   refine ⟨?_,fun g h=>?_⟩
   ·rw [List.map_cons]
    exact List.mem_cons_of_mem _ i1
   ·rw [List.map_cons] at h ⊢
    rcases List.mem_cons.mp h with e | e
    ·exact List.mem_cons.mpr (.inl e)
    ·exact List.mem_cons_of_mem _ (i2 g e)
theorem yS (f:Str)(v:V):∀ fs:List (Str × V),(jz f v fs).length<=fs.length+1
 | []=>by simp [jz]
 | (k,x) :: r=>by
  have ih:=yS f v r
  rw [show jz f v ((k,x) :: r)=(if k=f then (k,v) :: r else (k,x) :: jz f v r) from rfl]
  by_cases hk:k=f
  ·rw [if_pos hk,List.length_cons,List.length_cons];omega
  ·rw [if_neg hk,List.length_cons,List.length_cons];omega
theorem xN.some_of {v:V}{o:Option Value}(r:xN (some v) o):∃ u,o=some u/\zz v u:=by
 cases o with
 | none=>exact (show False from r).elim
 | some u=>exact ⟨u,rfl,r⟩
theorem xN.none_of {o:Option Value}(r:xN none o):o=none:=by
 cases o with
 | none=>rfl
 | some u=>exact (show False from r).elim
theorem yD {v:V}{u:Value}(r:zz v u):PySem.W.handedIn u=true:=by
 cases v with
 | non=>cases (show u=Value.none from r);rfl
 | bl b=>cases (show u=Value.bool b from r);rfl
 | int i=>obtain ⟨t,e⟩:=(show ∃ t,u=Value.int i t from r);cases e;rfl
 | str x=>obtain ⟨t,e⟩:=(show ∃ t,u=Value.str x t from r);cases e;rfl
 | byt b=>obtain ⟨t,e⟩:=(show ∃ t,u=Value.bytes b t from r);cases e;rfl
 | flt b=>obtain ⟨t,e⟩:=(show ∃ t,u=Value.float b t from r);cases e;rfl
 | ref a=>cases (show u=Value.ref a from r);rfl
 | ty n=>cases (show u=Value.type n from r);rfl
section
variable {P:Program}{w:World}{H H':Hp}{h h':Heap}{a C dx:Addr}{fs fs':List (Str × V)}
theorem vi (hok:HOk P w H h)(e:H a=some (.ins C dx fs)):∃ mA,Jp h a dx C mA/\(∀ f,xN (fs.lookup f) (mA f))/\PySem.Within mA (fs.map (·.1))/\fs.length<=1000/\H dx=some (.own a):=by
 obtain ⟨d,z,ne,ob,mA,n,r,q⟩:=(show zR P w H h a (.ins C dx fs) from hok a _ e)
 exact ⟨mA,⟨ob,n,ne⟩,r,q,z,d⟩
end
structure Cls (K:PySem.W.Frag)(C:Addr):Prop where
 pg:PySem.W.plainGet K C Str.empty=true
 hd:PySem.W.hasDictIn K C=true
 po:PySem.W.plainOver K C=true
 sa:PySem.W.findIn K (.ref C) "__setattr__"=some (some (.builtin "object.__setattr__"))
variable {C:Addr}
theorem Cls.get (c:Cls K C)(f:Str):PySem.W.plainGet K C f=true:=c.pg
noncomputable def jO (K:PySem.W.Frag)(C:Addr)(f:Str):Prop:=PySem.W.findIn K (.ref C) f=some none
variable {f:Str}
theorem jO.taker (n:jO K C f):PySem.W.takerIn K C f=some none:=by
 unfold PySem.W.takerIn
 rw [show PySem.W.findIn K (.ref C) f=some none from n]
 rfl
structure Con (K:PySem.W.Frag)(C:Addr)(f:Str)(v:V)(u:Value):Prop where
 at_:PySem.W.findIn K (.ref C) f=some (some u)
 rel:zz v u
 get:PySem.W.specialIn K u "__get__"=some none
 cp:PySem.W.copiedNames.contains f=false
structure JB (K:PySem.W.Frag)(C:Addr)(m:Str)(f:Addr):Prop where
 at_:PySem.W.findIn K (.ref C) m=some (some (.ref f))
 fn:PySem.W.isFn K (.ref f)=true
 kp:PySem.W.keepIn K (.ref f)=true
section
variable {X:Cx}{pins:List (Addr × Obj)}{σ:St}{H:Hp}{s:Shared}{a C dx:Addr}{fs:List (Str × V)}{f:Str}{v:V}{A:Around}{E:Value->Shared->Prop}
variable {Q:Value->Shared->Prop}
theorem JK {b:Bool} (I:Inv X pins σ H s)(e:H a=some (.ins C dx fs))(c:Cls X.K C)(n:jO X.K C f)(l:fs.lookup f=some v)
  (h:∀ u s',Inv X pins σ H s'->zz v u->Q u s'):wpAny (model X.prog X.w) A (getAttr (.ref a) f b) Q E s:=by
 obtain ⟨mA,O,r,_,_,_⟩:=vi I.hok e
 obtain ⟨u,hu,ru⟩:=xN.some_of (v:=v) (o:=mA f) (by rw [<- l];exact r f)
 exact Fp I.kIn O (c.get f) c.hd n hu (yD ru) (h u _ (I.tok _) ru)
theorem ky {m:Str}{g:Addr}{pl:Sem Bool}{Q:Value × List Value->Shared->Prop}(I:Inv X pins σ H s)(e:H a=some (.ins C dx fs))(c:Cls X.K C)(k:JB X.K C m g)(l:fs.lookup m=none)
  (h:Q (.ref g,[.ref a]) s):wpAny (model X.prog X.w) A (getMethod (.ref a) m pl) Q E s:=by
 obtain ⟨mA,O,r,_,_,_⟩:=vi I.hok e
 have hn:mA m=none:=xN.none_of (by rw [<- l];exact r m)
 exact AC I.kIn O (c.get m) k.at_ k.fn hn h
theorem J8 {y:V}{u:Value}{Q:Unit->Shared->Prop}(I:Inv X pins σ H s)(e:H a=some (.ins C dx fs))(c:Cls X.K C)(n:jO X.K C f)(hl:fs.length<1000)(ry:zz y u)
  (h:∀ s',Inv X pins σ (upd H a (.ins C dx (jz f y fs))) s'->Q () s'):wpAny (model X.prog X.w) A (setAttr (.ref a) f u) Q E s:=by
 obtain ⟨mA,O,r,wi,_,ho⟩:=vi I.hok e
 have hz:(fs.map (·.1)).length<=sizeLine:=by rw [List.length_map,sizeLine_eq];omega
 refine ZH I.kIn O c.sa c.po n.taker c.hd wi hz fun h' O' sb=>h _ ?_
 have hd:∃ o,h'.get? dx=some o:=let ⟨o,_,_,e',_⟩:=O'.ns;⟨o,e'⟩
 refine I.write (x:=a) (e:=dx) (by rw [e];exact True.intro) (.inr ho) (fun b q hb z=>(sb.2 b hb).trans z) hd ?_
 refine ⟨by rw [zh O.ne];exact ho,?_,O.ne,O'.obj,_,O'.ns,fun g=>?_,fun g hg=>?_⟩
 ·have:=yS f y fs;omega
 ·show xN ((jz f y fs).lookup g) (if g=f then some u else mA g)
  rw [jQ]
  by_cases q:g=f
  ·rw [if_pos q,if_pos q];exact ry
  ·rw [if_neg q,if_neg q];exact r g
 ·by_cases q:g=f
  ·rw [q];exact (j9 f y fs).1
  ·refine (j9 f y fs).2 g (wi g fun z=>hg ?_)
   show (if g=f then some u else mA g)=none
   rw [if_neg q];exact z
theorem Inv.made (I:Inv X pins σ H s):Inv X pins σ (upd (upd H s.heap.objs.size (.own (s.heap.objs.size+1))) (s.heap.objs.size+1) (.ins C s.heap.objs.size []))
  { s with heap:=(s.heap.push PySem.W.emptyDict).push (PySem.W.instObj C s.heap.objs.size) }:=by
 have e1:(s.heap.push PySem.W.emptyDict).get? s.heap.objs.size=some PySem.W.emptyDict:=Heap.get?_push_size s.heap rfl
 have e2:((s.heap.push PySem.W.emptyDict).push (PySem.W.instObj C s.heap.objs.size)).get? (s.heap.objs.size+1)=some (PySem.W.instObj C s.heap.objs.size):=by
  have:=Heap.get?_push_size (s.heap.push PySem.W.emptyDict) (o:=PySem.W.instObj C s.heap.objs.size) rfl
  rwa [Heap.size_push] at this
 have e3:(s.heap.push PySem.W.emptyDict).Ns s.heap.objs.size (fun _=>none):=⟨PySem.W.emptyDict,#[],_,e1,rfl,(fun e he=>absurd he (by simp)),fun _=>rfl⟩
 have I1:=I.laid (a:=s.heap.objs.size) (o:=.own (s.heap.objs.size+1)) (h':=s.heap.push PySem.W.emptyDict) (t':=s.toks) (fun b u q=>Heap.get?_push_of_some _ q) (Nat.le_refl _) ⟨_,e1⟩
 refine I1.laid (a:=s.heap.objs.size+1) (o:=.ins C s.heap.objs.size []) (t':=s.toks) (fun b u q=>Heap.get?_push_of_some _ q) (Nat.le_of_eq (Heap.size_push _ _)) ?_
 have ne:s.heap.objs.size ≠ s.heap.objs.size+1:=Nat.ne_of_lt (Nat.lt_succ_self _)
 refine ⟨by rw [zh ne,zk],Nat.zero_le _,ne,e2,fun _=>none,(Heap.Ns1.of_empty e3).at fun o q=>Heap.get?_push_of_some _ q,fun _=>True.intro,fun y hy=>absurd rfl hy⟩
theorem ZL {prog:Program} {env:Env} {pos:Pos} (hb:attributeBase e f env (eval e env)=eval e env)
  (h:wpAny (model prog w) A (eval e env) (fun o s₁=>wpAny (model prog w) A (getAttr o f true) Q E s₁) E s):wpAny (model prog w) A (eval (.Attribute e f pos) env) Q E s:=
 Attribute_any_ h (by rw [arm_eval_Attribute,hb])
end
noncomputable def Hh (K:PySem.W.Frag)(ta:TE)(f:Str):TE:=fun σ H Q=>ta σ H fun x H1=>∃ a C dx fs v,x=.ref a/\H1 a=some (.ins C dx fs)/\Cls K C/\jO K C f/\fs.lookup f=some v/\Q v H1
noncomputable def Dv (K:PySem.W.Frag)(ta tv:TE)(f:Str):TS:=fun D σ H=>tv σ H fun y H1=>ta σ H1 fun x H2=>∃ a C dx fs,x=.ref a/\H2 a=some (.ins C dx fs)/\Cls K C/\jO K C f/\fs.length<1000 /\
 D.nx σ (upd H2 a (.ins C dx (jz f y fs)))
section
variable {X:Cx}{o e value:Expr}{f:Str}{pos pos' tpos:Pos}{ta tv:TE}
theorem qd (he:PE X e ta)(hb:attributeBase e f X.env (eval e X.env)=eval e X.env):PE X (.Attribute e f pos) (Hh X.K ta f):=by
 intro pins s σ H Q I h
 refine ZL hb (thn (he pins s σ H _ I h) fun u s1 ⟨x,H1,I1,rx,a,C,dx,fs,v,ex,ea,c,n,l,q⟩=>?_)
 subst ex
 obtain rfl:u=Value.ref a:=rx
 exact JK I1 ea c n l fun u' s2 I2 ru=>⟨v,H1,I2,ru,q⟩
theorem vR (ha:PE X o ta)(hv:PE X value tv)(hs:swapsWith value (some (.Attribute o f pos')) pos.line X.env=pure false):PS X (.Assign [.Attribute o f pos'] value pos) (Dv X.K ta tv f):=by
 intro pins s σ H D I h
 refine plainObj_wpAny_Assign_Attribute (thn (hv pins s σ H _ I h) fun u s1 ⟨y,H1,I1,ry,q⟩=>thn (ha pins s1 σ H1 _ I1 q) fun ov s2 ⟨x,H2,I2,rx,a,C,dx,fs,ex,ea,c,n,l,q2⟩=>?_) hs
 subst ex
 obtain rfl:ov=Value.ref a:=rx
 exact J8 I2 ea c n l ry fun s3 I3=>⟨σ,_,I3,q2⟩
theorem FY {pl:Sem Bool}{m:Str}{apos:Pos}{args:List Expr} {Q:Value->Shared->Prop}{te:TE}(he:PE X e te)(I:Inv X pins σ H s)
  (h:te σ H fun x H1=>∃ a C dx fs g,x=.ref a/\H1 a=some (.ins C dx fs)/\Cls X.K C/\JB X.K C m g/\fs.lookup m=none /\
   ∀ s1,Inv X pins σ H1 s1->wpAny (model X.prog X.w) X.A (callWith pos (.ref g) [.ref a] (backTo pos (starEach args X.env)) (backToKw pos (keywordEach [] X.env))) Q X.xe s1)
  (ht:eval (.Call (.Attribute e m apos) args [] pos) X.env=(do
   let ov <- eval e X.env
   standAt apos.atName
   let (f,first) <- holding [ov] (getMethod ov m pl)
   callWith pos f first (backTo pos (starEach args X.env)) (backToKw pos (keywordEach [] X.env)))) :
  wpAny (model X.prog X.w) X.A (eval (.Call (.Attribute e m apos) args [] pos) X.env) Q X.xe s:=by
 refine PySem.W.methodCall_KW (pl:=pl) (thn (he pins s σ H _ I h) fun u s1 ⟨x,H1,I1,rx,a,C,dx,fs,g,ex,ea,c,k,l,q⟩=>?_) ht
 subst ex
 obtain rfl:u=Value.ref a:=rx
 exact ky I1 ea c k l (q s1 I1)
end
section
variable {X:Cx}{pins:List (Addr × Obj)}{σ:St}{H:Hp}{s:Shared}{A:Around}{E:Value->Shared->Prop}{Q:Value->Shared->Prop}{c:Value}{b:Bool}
inductive xh (K:PySem.W.Frag) (H:Hp):V->Value->Prop where
  | non:xh K H .non (.type "NoneType")
  | bl (x:Bool):xh K H (.bl x) (.type "bool")
  | int (i:Int):xh K H (.int i) (.type "int")
  | str (x:Str):xh K H (.str x) (.type "str")
  | flt (x:UInt64):xh K H (.flt x) (.type "float")
  | lst {a:Addr} {xs:List V} (e:H a=some (.lst xs)):xh K H (.ref a) (.type "list")
  | frz {a:Addr} {o:Obj} {xs:List V} (e:H a=some (.frz o (.lst xs))):xh K H (.ref a) (.type "list")
  | tup {a:Addr} {xs:List V} (e:H a=some (.tup xs)):xh K H (.ref a) (.type "tuple")
  | dK {a:Addr} {kvs:List (Key × V)} (e:H a=some (.dK kvs)):xh K H (.ref a) (.type "dict")
  | dT {a:Addr} {kvs:List (List Key × V)} (e:H a=some (.dT kvs)):xh K H (.ref a) (.type "dict")
  | ins {a C dx : Addr} {fs : List (Str × V)} (e : H a = some (.ins C dx fs)) (cl : Cls K C) (ha : PySem.W.findIn K (.ref C) "__class__" = some (some (.builtin "object.__class__")))
      (hn:PySem.W.specialIn K (.builtin "object.__class__") "__get__"=some (some (.builtin "getset_descriptor.__get__"))) (htk:PySem.W.takesIn K (.builtin "object.__class__")=some true)
      (hm:PySem.W.mroIn K C (.type "object")=some true):xh K H (.ref a) (.ref C)
theorem Yo {x:V}{u t:Value}(I:Inv X pins σ H s)(rx:zz x u)(ty:xh X.K H x t)(e:PySem.W.kitOne X.K t c=some b)(h:∀ tk,Q (.bool b) { s with toks:=tk }) :
  wpAny (model X.prog X.w) A (call (.builtin "isinstance") [u,c]) Q E s:=by
 cases ty with
 | non=>cases (show u=Value.none from rx);exact PySem.W.kia_one PySem.W.kitx_none I.kIn True.intro e (fun z=>nomatch z) h
 | bl y=>cases (show u=Value.bool y from rx);exact PySem.W.kia_one PySem.W.kitx_bool I.kIn True.intro e (fun z=>nomatch z) h
 | int i=>obtain ⟨t,q⟩:=(show ∃ t,u=Value.int i t from rx);cases q;exact PySem.W.kia_one PySem.W.kitx_int I.kIn True.intro e (fun z=>nomatch z) h
 | str y=>obtain ⟨t,q⟩:=(show ∃ t,u=Value.str y t from rx);cases q;exact PySem.W.kia_one PySem.W.kitx_str I.kIn True.intro e (fun z=>nomatch z) h
 | flt y=>obtain ⟨t,q⟩:=(show ∃ t,u=Value.float y t from rx);cases q;exact PySem.W.kia_one PySem.W.kitx_float I.kIn True.intro e (fun z=>nomatch z) h
 | @lst a xs ea=>
  cases (show u=Value.ref a from rx)
  obtain ⟨_,_,n,_,h1⟩:=(show zR X.prog X.w H s.heap a (.lst xs) from I.hok a _ ea)
  exact PySem.W.kia_one PySem.W.kitx_list I.kIn ⟨_,h1,rfl⟩ e (fun z=>nomatch z) h
 | @frz a ob xs ea=>
  cases (show u=Value.ref a from rx)
  obtain ⟨_,_,_,n,_,h1⟩:=(show zR X.prog X.w H s.heap a (.frz ob (.lst xs)) from I.hok a _ ea)
  exact PySem.W.kia_one PySem.W.kitx_list I.kIn ⟨_,h1,rfl⟩ e (fun z=>nomatch z) h
 | @tup a xs ea=>
  cases (show u=Value.ref a from rx)
  obtain ⟨_,_,_,p⟩:=(show zR X.prog X.w H s.heap a (.tup xs) from I.hok a _ ea)
  obtain ⟨o,h1,h2,_⟩:=p
  exact PySem.W.kia_one PySem.W.kitx_tuple I.kIn ⟨o,h1,h2⟩ e (fun z=>nomatch z) h
 | @dK a kvs ea=>
  cases (show u=Value.ref a from rx)
  obtain ⟨_,_,vs,_,p⟩:=(show zR X.prog X.w H s.heap a (.dK kvs) from I.hok a _ ea)
  obtain ⟨o,es,ep,h1,h2,_⟩:=p
  exact PySem.W.kia_one PySem.W.kitx_dict I.kIn ⟨o,h1,h2.1⟩ e (fun z=>nomatch z) h
 | @dT a kvs ea=>
  cases (show u=Value.ref a from rx)
  obtain ⟨_,_,xs,_,o,es,ep,h1,h2,_⟩:=(show zR X.prog X.w H s.heap a (.dT kvs) from I.hok a _ ea)
  exact PySem.W.kia_one PySem.W.kitx_dict I.kIn ⟨o,h1,h2.1⟩ e (fun z=>nomatch z) h
 | @ins a C dx fs ea cl ha hn htk hm=>
  cases (show u=Value.ref a from rx)
  obtain ⟨mA,O,_⟩:=vi I.hok ea
  obtain ⟨od,J,_⟩:=O.look
  exact PySem.W.kia_one (PySem.W.kitx_own (cl.get _) cl.hd ha hn htk hm) I.kIn J e (fun z=>nomatch z) h
end
structure qc (k:Nat)(A:Around):Prop where
 hd:A.handled=none
 gd:A.guards=some []
 dp:A.depth+3 * k+5<recursionLimit
 un:A.units+16 * k+200<cLine
variable {j k:Nat}
theorem qc.mono (r:qc k A)(h:j<=k):qc j A:=⟨r.hd,r.gd,by have:=r.dp;omega,by have:=r.un;omega⟩
theorem qc.deeper (r:qc (k+1) A)(env:Env):qc k (A.deeper env):=
 ⟨r.hd,r.gd,by have:=r.dp;show A.depth+1+3 * k+5<_;omega,by have:=r.un;show A.units+3+16 * k+200<_;omega⟩
variable {kw:List (Str × Value)}
theorem vJ:(A.under (.builtin "type.__call__" ⟨.ref C :: us,kw⟩)).depth=A.depth+1:=by
 first | rfl | simp [Around.under,Code.weight,Code.isCreation,Code.isGuard,Code.isCaller,Code.frames,Code.isFrame,guardIds]
theorem vP:(A.under (.builtin "type.__call__" ⟨.ref C :: us,kw⟩)).units=A.units+1:=by
 first | rfl | simp [Around.under,Code.cUnits,Code.frames,Code.isFrame]
theorem yN:(A.under (.builtin "type.__call__" ⟨.ref C :: us,kw⟩)).guards=A.guards:=by
 first | rfl | (simp [Around.under,Code.guards,pushGuards,Code.isGuard,guardIds])
theorem qc.make (r:qc (k+1) A)(C:Addr)(us:List Value)(kw:List (Str × Value)):qc k (A.under (.builtin "type.__call__" ⟨.ref C :: us,kw⟩)):=
 ⟨r.hd,(yN).trans r.gd,by have:=r.dp;rw [vJ];omega,by have:=r.un;rw [vP];omega⟩
theorem qc.depth (r:qc k A):A.depth<recursionLimit:=by have:=r.dp;omega
theorem qc.units (r:qc k A):A.units+64<cLine:=by have:=r.un;omega
noncomputable def Vp:TA:=fun _ H Q=>Q [] H
noncomputable def Q2 (ta:TE)(tr:TA):TA:=fun σ H Q=>ta σ H fun x H1=>tr σ H1 fun xs H2=>Q (x :: xs) H2
section
variable {X:Cx}{e:Expr}{es:List Expr}{te:TE}{t:TA}{pos:Pos}
theorem zb:PA X [] Vp:=fun _ _ _ _ H Q I h=>Calls.spliced_nil ⟨[],H,I,.nil,h⟩
theorem za (ha:PE X e te)(hr:PA X es t)(hs:starEach (e :: es) X.env=(false,eval e X.env) :: starEach es X.env:=by rfl):PA X (e :: es) (Q2 te t):=by
 intro pos pins s σ H Q I h
 rw [hs]
 show wpAny _ _ (spliced ((false,eval e X.env) :: backTo pos (starEach es X.env))) _ _ s
 refine Calls.spliced_cons (thn (ha pins s σ H _ I h) fun u s1 ⟨x,H1,I1,r1,q1⟩=>?_)
 exact thn (hr pos pins s1 σ H1 _ I1 q1) fun us s2 ⟨xs,H2,I2,r2,q2⟩=>⟨x :: xs,H2,I2,.cons r1 r2,q2⟩
noncomputable def Vd (t:TA):TE:=fun σ H Q=>t σ H fun xs H1=>xs.length<=sizeLine/\∀ p,H1 p=none->Q (.ref p) (upd H1 p (.tup xs))
noncomputable def G9 (t:TA):TE:=fun σ H Q=>t σ H fun xs H1=>xs.length<=sizeLine/\∀ p,H1 p=none->Q (.ref p) (upd H1 p (.lst xs))
theorem zK {x1}(h:PA X es t):PE X (.Tuple es x1 pos) (Vd t):=by
 intro pins s σ H Q I hq
 refine wpAny_Tuple_spliced (thn (h pos pins s σ H _ I hq) fun us s1 ⟨xs,H1,I1,r,z,q⟩=>⟨by rw [<- r.length];exact z,?_⟩)
 have hf:H1 s1.heap.objs.size=none:=I1.hok.fresh (Nat.le_refl _)
 refine ⟨.ref s1.heap.objs.size,upd H1 s1.heap.objs.size (.tup xs),I1.laid (t':=s1.toks) (fun b u e=>Heap.get?_push_of_some _ e) (Nat.le_refl _) ?_,rfl,q _ hf⟩
 exact ⟨z,us,r,⟨_,Heap.get?_push_size _ rfl,rfl,⟨_,rfl⟩,rfl⟩⟩
theorem qL (h:PA X es t):PE X (.List es pos) (G9 t):=by
 intro pins s σ H Q I hq
 refine wpAny_List_spliced (thn (h pos pins s σ H _ I hq) fun us s1 ⟨xs,H1,I1,r,z,q⟩=>⟨by rw [<- r.length];exact z,?_⟩)
 have hf:H1 s1.heap.objs.size=none:=I1.hok.fresh (Nat.le_refl _)
 refine ⟨.ref s1.heap.objs.size,upd H1 s1.heap.objs.size (.lst xs),I1.laid (t':=s1.toks) (fun b u e=>Heap.get?_push_of_some _ e) (Nat.le_refl _) ?_,rfl,q _ hf⟩
 exact ⟨z,us,0,r,Heap.get?_push_size _ rfl⟩
end
noncomputable abbrev Sp:=List V->Hp->VK->XK->Prop
noncomputable abbrev CXT:=List Env->Hp->Shared->XK->Value->Shared->Prop
structure ZP (P:Program)(w:World)(K:PySem.W.Frag)(mg:Str->Option Value)(base:Heap)(A:Around)(outer:List Env)(s:Shared)(H:Hp):Prop where
 frames:A.frames=some outer
 mod:Mod K mg base
 bs:∀ b o,base.get? b=some o->s.heap.get? b=some o/\H b=none
 bsz:base.objs.size<=s.heap.objs.size
 funs:s.heap.FunFrames base outer
 frf:∀ b ∈ frs outer,H b=none
 hok:HOk P w H s.heap
 bare:AllBare s.gens
noncomputable def CE (outer:List Env)(P:Program)(w:World)(H:Hp)(s:Shared)(Q:VK)(u:Value)(s':Shared):Prop:=
 ∃ v H',s'.os=s.os/\AllBare s'.gens/\Un (frs outer) [] H H' s.heap s'.heap/\HOk P w H' s'.heap/\zz v u/\Q v H'
noncomputable def CR (CX:CXT)(outer:List Env)(P:Program)(w:World)(H:Hp)(s:Shared)(Q:VK)(E:XK)(r:Result)(s':Shared):Prop:=
 match r with
 | .ok (.ret u)=>CE outer P w H s Q u s'
 | .ok _=>False
 | .error e=>CX outer H s E e s'
structure jq (P:Program)(w:World)(K:PySem.W.Frag)(mg:Str->Option Value)(base:Heap)(CX:CXT)(k:Nat)(f:Addr)(fd:FuncData)(ps:List Str)(sp:Sp):Prop where
 len:∀ vs H Q E,sp vs H Q E->vs.length=ps.length
 run:∀ (A:Around) (outer:List Env) (s:Shared) (H:Hp) (args:Args) (us:List Value) (vs:List V) (Q:VK) (E:XK),qc k A->ZP P w K mg base A outer s H->BindsTo s fd args (ps.zip us)->zB vs us->sp vs H Q E ->
  codeAny (model P w) A (.call (.ref f) args) (CR CX outer P w H s Q E) s
variable {mg:Str->Option Value} {base:Heap} {CX:CXT} {fd:FuncData} {ps:List Str} {sp:Sp}
theorem jq.mono {f:Addr} (F:jq P w K mg base CX j f fd ps sp)(h:j<=k) :
  jq P w K mg base CX k f fd ps sp:=⟨F.len,fun A outer s H args us vs Q E hr=>F.run A outer s H args us vs Q E (hr.mono h)⟩
theorem jq.imp {f:Addr} {sp sp':Sp}(F:jq P w K mg base CX k f fd ps sp)
  (h:∀ vs H Q E,sp' vs H Q E->sp vs H Q E):jq P w K mg base CX k f fd ps sp':=
 ⟨fun vs H Q E q=>F.len vs H Q E (h _ _ _ _ q),fun A outer s H args us vs Q E hr he hb hv hs=>F.run A outer s H args us vs Q E hr he hb hv (h _ _ _ _ hs)⟩
theorem ZP.make {outer:List Env} (e:ZP P w K mg base A outer s H)(C:Addr)(us:List Value)(kw:List (Str × Value)) :
  ZP P w K mg base (A.under (.builtin "type.__call__" ⟨.ref C :: us,kw⟩)) outer s H:=⟨by first | exact e.frames | (simpa [Around.under,Code.envs,Code.isFrame,pushEnvs] using e.frames),e.mod,e.bs,e.bsz,e.funs,e.frf,e.hok,e.bare⟩
section
variable {X:Cx}{pins:List (Addr × Obj)}{σ:St}{H:Hp}{s s':Shared}
theorem Inv.env0 (I:Inv X pins σ H s):ZP X.prog X.w X.K X.mg X.base X.A X.stack s H:=
 ⟨I.ok.frames,I.ok.mod,I.bs,Nat.le_trans I.ok.bsz I.sz,I.stack,I.stkFree,I.hok,I.bare⟩
theorem Inv.after {Q:VK}{u:Value}(I:Inv X pins σ H s)(h:CE X.stack X.prog X.w H s Q u s'):EP X pins σ Q u s':=by
 obtain ⟨v,H',os,bare,un,hok,r,q⟩:=h
 obtain ⟨hh,g,d,t,os'⟩:=s'
 obtain rfl:os'=s.os:=os
 exact ⟨v,H',I.call (h':=hh) (g':=g) (d':=d) (t':=t) (ch:=[]) un hok bare (fun b z=>absurd z (by simp)),r,q⟩
end
noncomputable def Zl (sp:Sp)(dvs:List V)(E:XK)(t:TA):TE:=fun σ H Q=>t σ H fun vs H1=>sp (vs ++ dvs) H1 Q E
noncomputable def wO (C:Addr)(m:Str)(sp:Sp)(dvs:List V)(E:XK)(ta:TE)(t:TA):TE:=fun σ H Q=>ta σ H fun x H1=>∃ a dx fs,x=.ref a/\H1 a=some (.ins C dx fs)/\fs.lookup m=none /\
 t σ H1 fun vs H2=>sp (x :: (vs ++ dvs)) H2 Q E
noncomputable def Xj (C:Addr)(sp:Sp)(dvs:List V)(E:XK)(t:TA):TE:=fun σ H Q=>t σ H fun vs H1=>∀ x dx,H1 x=none->H1 dx=none->dx ≠ x ->
 sp (.ref x :: (vs ++ dvs)) (upd (upd H1 dx (.own x)) x (.ins C dx [])) (fun v H2=>v=.non/\Q (.ref x) H2) E
noncomputable def jr (K:PySem.W.Frag)(fd:FuncData)(ps:List Str)(ds:List Value):Prop:=
 ∀ (s:Shared) (us:List Value),K.In s.heap->(us ++ ds).length=ps.length->BindsTo s fd ⟨us,[]⟩ (ps.zip (us ++ ds))
theorem jr.all (h:∀ us:List Value,us.length=ps.length->bindArgs fd ⟨us,[]⟩=pure (ps.zip us)):jr K fd ps []:=fun s us _ hl=>by
 rw [List.append_nil] at hl ⊢
 exact .of_eq (h us hl)
noncomputable def kG (CX:CXT)(X:Cx)(E:XK):Prop:=∀ (pins:List (Addr × Obj)) (σ:St) (H:Hp) (s:Shared) (e:Value) (s':Shared),Inv X pins σ H s->CX X.stack H s E e s'->X.xe e s'
section
variable {X:Cx}{CX:CXT}{k:Nat}{f C:Addr}{fd:FuncData}{ps:List Str}{sp:Sp}{dvs:List V}{ds:List Value}{E:XK}{x m:Str}{p pos apos:Pos}{e o:Expr}{es:List Expr}{ta:TE}{t:TA}
theorem Jq {pins:List (Addr × Obj)}{σ:St}{H:Hp}{s:Shared}{Q:VK}{us:List Value}{vs:List V}(F:jq X.prog X.w X.K X.mg X.base CX k f fd ps sp)(hr:qc k X.A)(hb:jr X.K fd ps ds)(hd:zB dvs ds)(hx:kG CX X E)
  (I:Inv X pins σ H s) (r:zB vs us) (h:sp (vs ++ dvs) H Q E):wpAny (model X.prog X.w) X.A (call (.ref f) us) (EP X pins σ Q) X.xe s:=by
 have r2:zB (vs ++ dvs) (us ++ ds):=r.append hd
 have hl:(us ++ ds).length=ps.length:=by rw [<- r2.length];exact F.len _ _ _ _ h
 refine wpAny_call (codeAny_mono (F.run X.A X.stack s H ⟨us,[]⟩ (us ++ ds) (vs ++ dvs) Q E hr I.env0 (hb s us I.kIn hl) r2 h) fun r s' hq=>?_)
 cases r with
 | error e=>exact hx pins σ H s e s' I hq
 | ok fl=>
  cases fl with
  | ret u=>exact I.after hq
  | next=>exact False.elim hq
  | brk=>exact False.elim hq
  | cont=>exact False.elim hq
theorem Fl (F:jq X.prog X.w X.K X.mg X.base CX k f fd ps sp)(hr:qc k X.A)(hg:Gl X x)(hm:X.mg x=some (.ref f))(hk:PySem.W.keepIn X.K (.ref f)=true)(hb:jr X.K fd ps ds)(hd:zB dvs ds)(hx:kG CX X E)
  (ha:PA X (e :: es) t) (hdb:(x == ("__debug__":Str))=false:=by decide) (he:starEach (e :: es) X.env=(false,eval e X.env) :: starEach es X.env:=by rfl) (hpl:(backTo pos (starEach es X.env)).any (·.1)=false:=by rfl) :
  PE X (.Call (.Name x p) (e :: es) [] pos) (Zl sp dvs E t):=by
 intro pins s σ H Q I h
 refine wpAny_Call_Name_kw (jo I hg hm ?_ hdb)
 refine PySem.W.callWith_K (h₀:=X.base) I.ok.mod.kin hk (thn (ha pos pins s σ H _ I h) fun us s1 ⟨vs,H1,I1,r,q⟩=>⟨I1.kIn,?_⟩) he hpl
 exact Jq F hr hb hd hx I1 r q
variable {pl:Sem Bool}
theorem E6 (he:PE X o ta)(c:Cls X.K C)(hm:JB X.K C m f)(F:jq X.prog X.w X.K X.mg X.base CX k f fd ps sp)(hr:qc k X.A)(hb:jr X.K fd ps ds)(hd:zB dvs ds)(hx:kG CX X E)(ha:PA X (e :: es) t)
  (hst:starEach (e :: es) X.env=(false,eval e X.env) :: starEach es X.env:=by rfl) (hpl:(backTo pos (starEach es X.env)).any (·.1)=false:=by rfl)
  (ht:eval (.Call (.Attribute o m apos) (e :: es) [] pos) X.env=(do
   let ov <- eval o X.env
   standAt apos.atName
   let (f,first) <- holding [ov] (getMethod ov m pl)
   callWith pos f first (backTo pos (starEach (e :: es) X.env)) (backToKw pos (keywordEach [] X.env))):=by rfl) :
  PE X (.Call (.Attribute o m apos) (e :: es) [] pos) (wO C m sp dvs E ta t):=by
 intro pins s σ H Q I h
 refine PySem.W.methodCall_KW (pl:=pl) (thn (he pins s σ H _ I h) fun u s1 ⟨x,H1,I1,rx,a,dx,fs,ex,ea,l,q⟩=>?_) ht
 subst ex
 obtain rfl:u=Value.ref a:=rx
 refine ky I1 ea c hm l ?_
 refine PySem.W.callWith_K (first:=[.ref a]) (h₀:=X.base) I.ok.mod.kin hm.kp (thn (ha pos pins s1 σ H1 _ I1 q) fun us s2 ⟨vs,H2,I2,r,q2⟩=>⟨I2.kIn,?_⟩) hst hpl
 exact Jq (us:=.ref a :: us) (vs:=.ref a :: vs) F hr hb hd hx I2 (.cons rfl r) q2
theorem BQ (he:PE X o ta)(c:Cls X.K C)(hm:JB X.K C m f)(F:jq X.prog X.w X.K X.mg X.base CX k f fd ps sp)(hr:qc k X.A)(hb:jr X.K fd ps ds)(hd:zB dvs ds)(hx:kG CX X E)
  (ht:eval (.Call (.Attribute o m apos) [] [] pos) X.env=(do
   let ov <- eval o X.env
   standAt apos.atName
   let (f,first) <- holding [ov] (getMethod ov m pl)
   callWith pos f first (backTo pos (starEach [] X.env)) (backToKw pos (keywordEach [] X.env))):=by rfl) :
  PE X (.Call (.Attribute o m apos) [] [] pos) (wO C m sp dvs E ta Vp):=by
 intro pins s σ H Q I h
 refine PySem.W.methodCall_KW (pl:=pl) (thn (he pins s σ H _ I h) fun u s1 ⟨x,H1,I1,rx,a,dx,fs,ex,ea,l,q⟩=>?_) ht
 subst ex
 obtain rfl:u=Value.ref a:=rx
 refine ky I1 ea c hm l ?_
 exact PySem.W.callWith_K0 (first:=[.ref a]) I1.kIn hm.kp (Jq (us:=[.ref a]) (vs:=[.ref a]) F hr hb hd hx I1 (.cons rfl .nil) q)
structure Mk (K:PySem.W.Frag)(C f:Addr):Prop where
 makes:PySem.W.makesIn K C=true
 init:PySem.W.findIn K (.ref C) "__init__"=some (some (.ref f))
 fn:PySem.W.isFn K (.ref f)=true
 kp:PySem.W.keepIn K (.ref C)=true
theorem BZ {pins:List (Addr × Obj)}{σ:St}{H:Hp}{s:Shared}{Q:VK}{us:List Value}{vs:List V}(M:Mk X.K C f)(F:jq X.prog X.w X.K X.mg X.base CX k f fd ps sp)(hr:qc (k+1) X.A)(hb:jr X.K fd ps ds)(hd:zB dvs ds)
  (hx:kG CX X E) (I:Inv X pins σ H s) (r:zB vs us)
  (h:∀ x dx,H x=none->H dx=none->dx ≠ x->sp (.ref x :: (vs ++ dvs)) (upd (upd H dx (.own x)) x (.ins C dx [])) (fun v H2=>v=.non/\Q (.ref x) H2) E) :
  wpAny (model X.prog X.w) X.A (call (.ref C) us) (EP X pins σ Q) X.xe s:=by
 have hq:=h (s.heap.objs.size+1) s.heap.objs.size (I.hok.fresh (Nat.le_succ _)) (I.hok.fresh (Nat.le_refl _)) (Nat.ne_of_lt (Nat.lt_succ_self _))
 have I2:=Inv.made (C:=C) I
 have r2:zB (V.ref (s.heap.objs.size+1) :: (vs ++ dvs)) (Value.ref (s.heap.objs.size+1) :: (us ++ ds)):=.cons rfl (r.append hd)
 have hl:(Value.ref (s.heap.objs.size+1) :: us ++ ds).length=ps.length:=by
  have e:=r2.length
  rw [F.len _ _ _ _ hq] at e
  exact e.symm
 refine wpAny_call (WV (f:=f) I.kIn M.makes M.init (beq_iff_eq.mp M.fn) (codeAny_mono (F.run _ X.stack _ _ ⟨Value.ref (s.heap.objs.size+1) :: us,[]⟩ (Value.ref (s.heap.objs.size+1) :: (us ++ ds)) _ _ E (hr.make C us [])
  (I2.env0.make C us []) (hb _ (Value.ref (s.heap.objs.size+1) :: us) I2.kIn hl) r2 hq) fun r s' hq'=>?_))
 cases r with
 | error e=>exact hx pins σ _ _ e s' I2 hq'
 | ok fl=>
  cases fl with
  | ret u=>
   obtain ⟨v,H',I3,rv,ev,q3⟩:=I2.after hq'
   subst ev
   exact ⟨rv,⟨V.ref (s.heap.objs.size+1),H',I3,rfl,q3⟩⟩
  | next=>exact False.elim hq'
  | brk=>exact False.elim hq'
  | cont=>exact False.elim hq'
theorem En (M:Mk X.K C f)(F:jq X.prog X.w X.K X.mg X.base CX k f fd ps sp)(hr:qc (k+1) X.A)(hg:Gl X x)(hm:X.mg x=some (.ref C))(hb:jr X.K fd ps ds)(hd:zB dvs ds)(hx:kG CX X E)
  (ha:PA X (e :: es) t) (hdb:(x == ("__debug__":Str))=false:=by decide) (he:starEach (e :: es) X.env=(false,eval e X.env) :: starEach es X.env:=by rfl) (hpl:(backTo pos (starEach es X.env)).any (·.1)=false:=by rfl) :
  PE X (.Call (.Name x p) (e :: es) [] pos) (Xj C sp dvs E t):=by
 intro pins s σ H Q I h
 refine wpAny_Call_Name_kw (jo I hg hm ?_ hdb)
 refine PySem.W.callWith_K (h₀:=X.base) I.ok.mod.kin M.kp (thn (ha pos pins s σ H _ I h) fun us s1 ⟨vs,H1,I1,r,q⟩=>⟨I1.kIn,?_⟩) he hpl
 exact BZ M F hr hb hd hx I1 r q
end
section
variable {X:Cx}{CX:CXT}{k:Nat}{f C:Addr}{fd:FuncData}{ps ks:List Str}{sp:Sp}{E:XK}{x m:Str}{p pos apos kpos:Pos}{e o:Expr}{es:List Expr}{kws:List Keyword}{te ta:TE}{t tk:TA}{nm:Option Str}
structure LZ (K:PySem.W.Frag)(fd:FuncData)(ps ks:List Str)(g:List Value->List Value->List Value)(gV:List V->List V->List V):Prop where
 to:∀ (s:Shared) (us ws:List Value),K.In s.heap->(g us ws).length=ps.length->BindsTo s fd ⟨us,ks.zip ws⟩ (ps.zip (g us ws))
 rel:∀ {vs:List V} {us:List Value} {zs:List V} {ws:List Value},zB vs us->zB zs ws->zB (gV vs zs) (g us ws)
variable {g:List Value->List Value->List Value}{gV:List V->List V->List V}
end
structure zt (N P:List Str)(sc:Scope):Prop where
 kind:sc.kind=.function
 co:sc.isCoroutine=false
 gen:sc.isGenerator=false
 nd:N.Nodup
 pre:N.take P.length=P
 par:∀ x ∈ P,sc.names.lookup x=some .local \/ sc.names.lookup x=some .cell
 nofree:∀ y ∈ sc.names,y.2 ≠ .free
theorem w8 {kindOf:Str->Option NameKind}{x:Str}:∀ {binds:List (Str × Value)} {m:Str->Option Value},(∀ v,(x,v) ∉ binds)->bindL kindOf binds m x=m x
 | [],_,_=>rfl
 | (n,v) :: r,m,h=>by
  unfold bindL
  rw [w8 fun w hw=>h w (List.mem_cons_of_mem _ hw)]
  split
  ·have:x ≠ n:=by rintro rfl;exact h v List.mem_cons_self
   simp [this]
  ·rfl
theorem Zh {kindOf:Str->Option NameKind}{x:Str}:∀ {binds:List (Str × Value)} {m:Str->Option Value},(∀ v,(x,v) ∉ binds)->bindC kindOf binds m x=m x
 | [],_,_=>rfl
 | (n,v) :: r,m,h=>by
  unfold bindC
  rw [Zh fun w hw=>h w (List.mem_cons_of_mem _ hw)]
  split
  ·rfl
  ·have:x ≠ n:=by rintro rfl;exact h v List.mem_cons_self
   simp [this]
theorem wJ {kindOf:Str->Option NameKind}{x:Str}{v:Value}:∀ {P:List Str} {vs:List Value} {i:Nat} {m:Str->Option Value},P.Nodup->P[i]?=some x->vs[i]?=some v->kindOf x=some .local ->
  bindL kindOf (P.zip vs) m x=some v
 | [],_,_,_,_,h,_,_=>by simp at h
 | _ :: _,[],_,_,_,_,h,_=>by simp at h
 | p :: P,w :: vs,0,m,nd,h1,h2,hk=>by
  simp at h1 h2;subst h1;subst h2
  show bindL kindOf ((p,w) :: P.zip vs) m p=_
  unfold bindL
  rw [w8 fun v hv=>(List.nodup_cons.mp nd).1 (List.of_mem_zip hv).1,if_pos hk]
  simp
 | p :: P,w :: vs,i+1,m,nd,h1,h2,hk=>by
  show bindL kindOf ((p,w) :: P.zip vs) m x=_
  unfold bindL
  exact wJ (i:=i) (List.nodup_cons.mp nd).2 (by simpa using h1) (by simpa using h2) hk
theorem wD {kindOf:Str->Option NameKind}{x:Str}{v:Value}:∀ {P:List Str} {vs:List Value} {i:Nat} {m:Str->Option Value},P.Nodup->P[i]?=some x->vs[i]?=some v->kindOf x ≠ some .local ->
  bindC kindOf (P.zip vs) m x=some v
 | [],_,_,_,_,h,_,_=>by simp at h
 | _ :: _,[],_,_,_,_,h,_=>by simp at h
 | p :: P,w :: vs,0,m,nd,h1,h2,hk=>by
  simp at h1 h2;subst h1;subst h2
  show bindC kindOf ((p,w) :: P.zip vs) m p=_
  unfold bindC
  rw [Zh fun v hv=>(List.nodup_cons.mp nd).1 (List.of_mem_zip hv).1,if_neg hk]
  simp
 | p :: P,w :: vs,i+1,m,nd,h1,h2,hk=>by
  show bindC kindOf ((p,w) :: P.zip vs) m x=_
  unfold bindC
  exact wD (i:=i) (List.nodup_cons.mp nd).2 (by simpa using h1) (by simpa using h2) hk
noncomputable def qB (N:List Str)(vs:List V):St:=vs.map some ++ List.replicate (N.length - vs.length) none
noncomputable def jB (CX:CXT)(P:Program)(w:World)(K:PySem.W.Frag)(mg:Str->Option Value)(base:Heap)(N:List Str)(qual:Str)(scope:Scope)(f:Addr)(cd:Value)(A:Around)(outer:List Env)(s:Shared)(H:Hp)(E:XK):Cx where
 prog:=P
 w:=w
 K:=K
 mg:=mg
 base:=base
 A:=A.deeper (envOfC qual scope s.heap.objs.size f cd)
 N:=N
 s₀:=s
 H₀:=H
 env:=envOfC qual scope s.heap.objs.size f cd
 outer:=outer
 stack:=envOfC qual scope s.heap.objs.size f cd :: outer
 ex:=[]
 calm:=true
 fn:=fun _=>true
 pn:=[]
 xe:=fun e s'=>wpAny (model P w) (A.deeper (envOfC qual scope s.heap.objs.size f cd)) (leaving (envOfC qual scope s.heap.objs.size f cd) e) (fun _ s''=>CX outer H s E e s'') (fun e' s''=>CX outer H s E e' s'') s'
theorem QC {sc:Scope}{n:Nat}{x:Str}(h:sc.names.lookup x=some .cell):∃ c,(cellsFrom n sc.names []).lookup x=some c:=by
 have q:=PySem.W.cellsFrom_some sc.names n [] (.inl h)
 exact Option.isSome_iff_exists.mp q
theorem Zg {CX : CXT}{P : Program}{w : World}{K : PySem.W.Frag}{mg : Str -> Option Value}{base : Heap}{N ps : List Str}{qual : Str}{scope : Scope}{f : Addr}{cd : Value}{A : Around}{outer : List Env}{s s1 : Shared}{H : Hp}{E : XK}{us : List Value}{vs : List V}
    (S:zt N ps scope) (hd:A.handled=none) (e0:ZP P w K mg base A outer s H) (hl:vs.length=ps.length) (r:zB vs us)
    (x:InCallC s s.heap.objs.size (bindL (envOfC qual scope s.heap.objs.size f cd).kindOf (ps.zip us) fun _=>none) (cellsFrom (s.heap.objs.size+1) scope.names []) (bindC (envOfC qual scope s.heap.objs.size f cd).kindOf (ps.zip us) fun _=>none) s1) :
    Inv (jB CX P w K mg base N qual scope f cd A outer s H E) [] (qB N vs) H s1:=by
  have hpl:ps.length<=N.length:=by have:=congrArg List.length S.pre;rw [List.length_take] at this;omega
  obtain ⟨h1,tk,rfl,hk⟩:=x.done
  have noA:∀ b:Addr,b ∉ (jB CX P w K mg base N qual scope f cd A outer s H E).ex:=fun b z=>absurd (show b ∈ ([]:List Addr) from z) (by simp)
  refine ⟨⟨e0.mod,S.kind,rfl,rfl,Nat.le_refl _,fun y z c h1 h2=>?_,fun y hy=>?_,fun y c _ h=>?_,fun _=>hd,Around.frames_deeper e0.frames,.inr ⟨rfl,rfl⟩,fun b z=>absurd z (noA b),e0.bs,e0.bsz,fun b _ _=>noA b,fun b z=>absurd z (noA b),e0.funs,e0.frf⟩,
    rfl,e0.bare,Un.kept hk,⟨_,x.toInCall.ns,fun i y v h1 h2 h3=>?_⟩,fun y c h=>⟨_,x.cell y c h⟩,e0.hok.fresh (Nat.le_refl _),fun y c h=>?_,fun p hp=>absurd (show p ∈ ([]:List (Addr × Obj)) from hp) (by simp),e0.hok.kept hk,?_⟩
  · exact name_of_addr x.apart (PySem.mem_of_lookup h1) (PySem.mem_of_lookup h2)
  · have hy:scope.names.lookup y=some .cell \/ scope.names.lookup y=some .free:=hy
    rcases hy with hy | hy
    · exact QC hy
    · exact absurd rfl (S.nofree _ (PySem.mem_of_lookup hy))
  · exact Nat.le_of_lt (x.above y c (PySem.mem_of_lookup h))
  · have hi : i < vs.length := by
      unfold qB at h2
      by_cases hi:i<vs.length
      · exact hi
      · rw [List.getElem?_append_right (by simpa using hi)] at h2
        rw [List.getElem?_replicate] at h2
        split at h2 <;> cases h2
    have ha:vs[i]?=some v:=by
      unfold qB at h2
      rw [List.getElem?_append_left (by simpa using hi),List.getElem?_map] at h2
      cases e:vs[i]? with
      | none=>rw [e] at h2;cases h2
      | some a=>rw [e] at h2;cases h2;rfl
    obtain ⟨u,hu,rv⟩:=r.get ha
    have hp:ps[i]?=some y:=by
      rw [<- S.pre,List.getElem?_take_of_lt (by omega)];exact h1
    have ndP:ps.Nodup:=by rw [<- S.pre];exact S.nd.sublist (List.take_sublist _ _)
    refine ⟨u,rv,?_⟩
    rcases S.par y (List.mem_of_getElem? hp) with k | k
    · exact .inl ⟨k,wJ ndP hp hu k⟩
    · obtain ⟨c,e⟩:=QC (n:=s.heap.objs.size+1) k
      refine .inr ⟨.inl k,c,e,?_⟩
      have q:=x.cell y c e
      rw [wD ndP hp hu (by show scope.names.lookup y ≠ _;rw [k];decide)] at q
      exact q
  · exact e0.hok.fresh (Nat.le_of_lt (x.above y c (PySem.mem_of_lookup h)))
  · unfold qB
    show _=N.length
    rw [List.length_append,List.length_map,List.length_replicate]
    omega
theorem BU {CX:CXT}{P:Program}{w:World}{K:PySem.W.Frag}{mg:Str->Option Value}{base:Heap}{k:Nat}{f:Addr}{name qual:Str}{params:Arguments}{body:List Stmt}{scope:Scope}{dV kV doc pm cdv ct oc:Value}{an od:Option Addr}
  {osl:Array (Option Value)} {N ps:List Str} {sp:Sp} (lk:K.lookup f=some ⟨oc,od,.func (PySem.W.fnOf name qual params body scope dV kV doc pm an cdv ct),osl⟩) (hcd:PySem.W.codeIn K cdv qual=true) (S:zt N ps scope)
  (len:∀ vs H Q E,sp vs H Q E->vs.length=ps.length)
  (hbody:∀ (A:Around) (outer:List Env) (s:Shared) (H:Hp) (vs:List V) (Q:VK) (E:XK),qc k (A.deeper (envOfC qual scope s.heap.objs.size f cdv))->sp vs H Q E ->
   ∃ t,PSs (jB CX P w K mg base N qual scope f cdv A outer s H E) body t/\t { nx:=fun _ H'=>Q .non H',rt:=Q } (qB N vs) H) :
  jq P w K mg base CX (k+1) f (PySem.W.fnOf name qual params body scope dV kV doc pm an cdv ct) ps sp:=by
 refine ⟨len,fun A outer s H args us vs Q E hr e0 hb r hsp=>?_⟩
 have hl:=len _ _ _ _ hsp
 have KX:K.In s.heap:=e0.mod.kin.keeps fun b o e=>(e0.bs b o e).1
 have lim:s.heap.NoLimit:=e0.mod.nolimit.keeps fun b o e=>(e0.bs b o e).1
 have hkind:∀ y ∈ ps.zip us,scope.names.lookup y.1=some .local \/ (scope.names.lookup y.1=some .cell/\((cellsFrom (s.heap.objs.size+1) scope.names []).lookup y.1).isSome=true):=fun ⟨n,v⟩ hy=>by
  rcases S.par n (List.of_mem_zip hy).1 with q | q
  ·exact .inl q
  ·exact .inr ⟨q,PySem.W.cellsFrom_some _ _ _ (.inl q)⟩
 refine codeAny_call_function hr.depth (KX _ _ lk) rfl S.co S.gen rfl (PySem.W.codeRec_of KX hcd) (hb _ _ _ _ ?_)
 refine wpAny_newFunctionEnv_cells S.kind hkind fun env he s1 x=>?_
 subst he
 refine ⟨lim.keeps x.toInCall.keep,codeAny_func ?_⟩
 obtain ⟨t,ht,hq⟩:=hbody A outer s H vs Q E (hr.deeper _) hsp
 have I:Inv (jB CX P w K mg base N qual scope f cdv A outer s H E) [] (qB N vs) H s1:=Zg S hr.hd e0 hl r x
 refine wpAny_mono (ht [] s1 (qB N vs) H _ I hq) (fun fl s' hs=>?_) fun e s' hs=>hs
 have fin:∀ {σ':St} {H':Hp} {v:V} {u:Value},Inv (jB CX P w K mg base N qual scope f cdv A outer s H E) [] σ' H' s'->zz v u->Q v H'->CE outer P w H s Q u s':=
  fun {σ' H' v u} J rv q=>⟨v,H',J.os,J.bare,J.base,J.hok,rv,q⟩
 cases fl with
 | ret u=>
  obtain ⟨v,σ',H',J,rv,q⟩:=hs
  exact fin J rv q
 | next=>
  obtain ⟨σ',H',J,q⟩:=hs
  exact fin (v:=V.non) (u:=Value.none) J rfl q
 | brk=>
  obtain ⟨_,_,_,q⟩:=hs
  exact False.elim q
 | cont=>
  obtain ⟨_,_,_,q⟩:=hs
  exact False.elim q
section
variable {X:Cx}{x:Str}{p pos:Pos}{e:Expr}{es:List Expr}{t:TA}{id T:String}{r:List V->Hp->VK->Prop}
noncomputable def tCB (r:List V->Hp->VK->Prop)(t:TA):TE:=fun σ H Q=>t σ H fun vs H1=>r vs H1 Q
theorem zm (hc:ju X (.builtin id) r)(hg:Gl X x)(hm:X.mg x=none)(hv:bootBuiltins x=some (.builtin id))(ha:PA X (e :: es) t)(hn:x ≠ "__name__":=by decide)(hdb:(x == ("__debug__":Str))=false:=by decide)
  (he:starEach (e :: es) X.env=(false,eval e X.env) :: starEach es X.env:=by rfl) (hpl:(backTo pos (starEach es X.env)).any (·.1)=false:=by rfl):PE X (.Call (.Name x p) (e :: es) [] pos) (tCB r t):=by
 intro pins s σ H Q I h
 refine wpAny_Call_Name_kw (jN I hg hm hv ?_ hn hdb)
 exact PyProof.Rows.callWith_builtin1 (thn (ha pos pins s σ H _ I h) fun us s1 ⟨vs,H1,I1,r1,q1⟩=>hc pins s1 σ H1 vs us Q I1 r1 q1) he hpl
theorem zQ (hc:ju X (.type T) r)(hg:Gl X x)(hm:X.mg x=none)(hv:bootBuiltins x=some (.type T))(ha:PA X (e :: es) t)(hn:x ≠ "__name__":=by decide)(hdb:(x == ("__debug__":Str))=false:=by decide)
  (he:starEach (e :: es) X.env=(false,eval e X.env) :: starEach es X.env:=by rfl) (hpl:(backTo pos (starEach es X.env)).any (·.1)=false:=by rfl):PE X (.Call (.Name x p) (e :: es) [] pos) (tCB r t):=by
 intro pins s σ H Q I h
 refine wpAny_Call_Name_kw (jN I hg hm hv ?_ hn hdb)
 exact PyProof.Rows.callWith_type1 (thn (ha pos pins s σ H _ I h) fun us s1 ⟨vs,H1,I1,r1,q1⟩=>hc pins s1 σ H1 vs us Q I1 r1 q1) he hpl
end
end L2
namespace HT
open PySem PyProof.Rows
section
open PySem.SeqAt
open PySem.AutoSeq1 (wpAny_loadPart')
open PySem.MeetsSeq PySem.MeetsSeq2 PySem.MeetsSeq3
end
section
variable {prog:Program}{w:World}{A:Around}{E:Value->Shared->Prop}{s:Shared}
noncomputable def sIx (n d:Nat):Option Int->Nat
 | none=>d
 | some v=>if v<0 then (v+(n:Int)).toNat else min v.toNat n
theorem sIx_none (n d:Nat):sIx n d none=d:=rfl
theorem sIx_nat (n d k:Nat):sIx n d (some (k:Int))=min k n:=by
 show (if (k:Int)<0 then ((k:Int)+(n:Int)).toNat else min (k:Int).toNat n)=min k n
 rw [if_neg (by omega),Int.toNat_natCast]
theorem GY (n d:Nat)(hd:d<=n)(o:Option Int):sIx n d o<=n:=by
 cases o with
 | none=>exact hd
 | some v=>
  show (if v<0 then (v+(n:Int)).toNat else min v.toNat n)<=n
  by_cases hv:v<0
  ·rw [if_pos hv];omega
  ·rw [if_neg hv];exact Nat.min_le_right _ _
theorem K6 (v:Int)(n d:Nat):(if v<0 then max (v+(n:Int)) 0 else min v (n:Int))=((sIx n d (some v):Nat):Int):=by
 show (if v<0 then max (v+(n:Int)) 0 else min v (n:Int))=(((if v<0 then (v+(n:Int)).toNat else min v.toNat n):Nat):Int)
 by_cases hv:v<0
 ·simp only [if_pos hv];omega
 ·simp only [if_neg hv];omega
theorem Ka (lo hi:Option Int)(n:Nat):Builtin.Slice.sliceAdjust lo hi 1 (n:Int)=(((sIx n 0 lo:Nat):Int),((sIx n n hi:Nat):Int)):=by
 have h1:¬ ((1:Int)<0):=by omega
 unfold Builtin.Slice.sliceAdjust
 simp only [h1,if_false]
 refine Prod.ext ?_ ?_
 ·cases lo with
  | none=>rfl
  | some v=>exact K6 v n 0
 ·cases hi with
  | none=>rfl
  | some v=>exact K6 v n n
theorem Js (i j:Nat):Builtin.Slice.slicePlaces (i:Int) (j:Int) 1=j - i:=by
 unfold Builtin.Slice.slicePlaces
 have h1:(1:Int) > 0:=by omega
 simp only [h1,if_true,Int.ediv_one]
 split <;> omega
theorem vI {v:Value}{o:Option Int}{Q:Option Int->Shared->Prop}(p:IsPart v o)(h:Q o s):wpAny (model prog w) A (Builtin.Slice.slicePartIndex v) Q E s:=by
 cases p with
 | none=>exact slicePart_none h
 | int i t=>exact slicePart_int h
variable {sl:Addr} {vl vu:Value} {lo hi:Option Int}
theorem yJ {n:Nat}{Q:Int × Int × Nat->Shared->Prop}(hs:s.heap.IsSliceOf sl vl vu .none)(pl:IsPart vl lo)(pu:IsPart vu hi)
  (h:Q (((sIx n 0 lo:Nat):Int),1,sIx n n hi - sIx n 0 lo) s):wpAny (model prog w) A (Builtin.Slice.sliceApplied (.ref sl) (pure (n:Int))) Q E s:=by
 obtain ⟨os,hos,hcs,hds⟩:=id hs
 unfold Builtin.Slice.sliceApplied Builtin.Slice.sliceFields
 refine wpAny_bind (wpAny_bind (wpAny_field hos hds (x:=vl) rfl (wpAny_bind (wpAny_field hos hds (x:=vu) rfl (wpAny_bind (wpAny_field hos hds (x:=.none) rfl (wpAny_pure ?_)))))))
 refine wpAny_bind (slicePart_none ?_)
 show wpAny _ _ (if ((1:Int) == 0)=true then _ else _) _ _ s
 rw [if_neg (by decide)]
 refine wpAny_bind (vI pl (wpAny_bind (vI pu (wpAny_bind (wpAny_pure ?_)))))
 show wpAny _ _ (match Builtin.Slice.sliceAdjust lo hi 1 (n:Int) with | (lo,hi)=>pure (lo,(1:Int),Builtin.Slice.slicePlaces lo hi 1)) _ _ s
 rw [Ka lo hi n]
 show wpAny _ _ (pure (((sIx n 0 lo:Nat):Int),(1:Int),Builtin.Slice.slicePlaces ((sIx n 0 lo:Nat):Int) ((sIx n n hi:Nat):Int) 1)) _ _ s
 rw [Js]
 exact wpAny_pure h
theorem Am (xs:Array Value)(i k:Nat):((List.range k).filterMap fun (m:Nat)=>xs[((i:Int)+(m:Int) * 1).toNat]?).toArray=((xs.toList.drop i).take k).toArray:=by
 have e:(fun (m:Nat)=>xs[((i:Int)+(m:Int) * 1).toNat]?)=fun m=>xs[i+m]?:=by
  funext m
  have:((i:Int)+(m:Int) * 1).toNat=i+m:=by omega
  rw [this]
 rw [e]
 have:=pick_run xs i k
 rw [List.filterMap_map] at this
 have e2:((fun x=>xs[x]?) ∘ fun x=>i+x)=fun m=>xs[i+m]?:=rfl
 rw [e2] at this
 rw [this]
theorem getItem_tuple_cut {t sl:Addr}{items:Array Value} {Q:Value->Shared->Prop}(ht:IsTup s.heap t items)(hs:s.heap.IsSliceOf sl vl vu .none)(pl:IsPart vl lo)(pu:IsPart vu hi)
  (hw:¬ (sIx items.size 0 lo=0/\sIx items.size items.size hi=items.size))
  (h:Q (.ref s.heap.objs.size) { s with heap:=s.heap.push { cls:=.type "tuple",data:=.seq ((items.toList.drop (sIx items.size 0 lo)).take (sIx items.size items.size hi - sIx items.size 0 lo)).toArray } })
  (hsz:items.size<=sizeLine):wpAny (model prog w) A (getItem (.ref t) (.ref sl)) Q E s:=by
 have htake:sizeOk (.seq ((items.toList.drop (sIx items.size 0 lo)).take (sIx items.size items.size hi - sIx items.size 0 lo)).toArray):=by
  show ((items.toList.drop (sIx items.size 0 lo)).take (sIx items.size items.size hi - sIx items.size 0 lo)).toArray.size<=sizeLine
  rw [List.size_toArray,List.length_take,List.length_drop,Array.length_toList]
  omega
 have hj:sIx items.size items.size hi<=items.size:=GY _ _ (Nat.le_refl _) hi
 obtain ⟨os,hos,hcs,hds⟩:=id hs
 have hTs:s.TypeIs (.ref sl) "slice":=⟨os,hos,hcs⟩
 unfold getItem
 try with_reducible refine wpAny_holding ?_
 first | refine wpAny_bind (wpAny_pure ?_) | skip
 refine wpAny_bind (wpAny_sequenceKey ht.typeIs (by decide) ?_)
 refine wpAny_bind (wpAny_callSpecial?_slot (name:=Str.ofString "__getitem__") ht.typeIs PyProof.Rows.slot_tuple_getitem
  (wpAny_call_entry PyProof.Rows.slot_tuple_getitem ht.typeIs entry_tuple_getitem ?_ (args_tuple_getitem _ _)))
 show wpAny _ _ (Builtin.Tuple.tupleItemsOf (.ref t) >>= _) _ _ s
 refine wpAny_bind (tupleItemsOf_ ht ?_)
 refine wpAny_bind (wpAny_typeOf hTs ?_)
 rw [if_pos (by decide)]
 refine wpAny_bind (yJ hs pl pu ?_)
 have hno:¬ ((((sIx items.size 0 lo:Nat):Int) == 0 && (1:Int) == 1 && (sIx items.size items.size hi - sIx items.size 0 lo) == items.size)=true):=by
  intro q
  rw [Bool.and_eq_true,Bool.and_eq_true] at q
  have q1:((sIx items.size 0 lo:Nat):Int)=0:=eq_of_beq q.1.1
  have q2:sIx items.size items.size hi - sIx items.size 0 lo=items.size:=eq_of_beq q.2
  exact hw ⟨by omega,by omega⟩
 show wpAny _ _ (if (((sIx items.size 0 lo:Nat):Int) == 0 && (1:Int) == 1 && (sIx items.size items.size hi - sIx items.size 0 lo) == items.size)=true then _ else _) _ _ s
 rw [if_neg hno,Am]
 first
  | exact wpAny_bind (m:=Builtin.Tuple.tupleExact _) (wpAny_newObj_type (wpAny_pure ⟨_,rfl,wpAny_pure h⟩) htake)
  | exact wpAny_bind (m:=Builtin.Tuple.tupleExact _) (wpAny_newObj_type (wpAny_bind (wpAny_pure (wpAny_pure ⟨_,rfl,wpAny_pure h⟩))) htake)
  | exact wpAny_bind (wpAny_bind (m:=Builtin.Tuple.tupleExact _) (wpAny_newObj_type (wpAny_pure (wpAny_pure ⟨_,rfl,wpAny_pure h⟩)) htake))
  | exact wpAny_bind (wpAny_bind (m:=Builtin.Tuple.tupleExact _) (wpAny_newObj_type (wpAny_pure ⟨_,rfl,wpAny_pure h⟩) htake))
end
end HT
namespace L2
open PySem PySem.Spec PyProof.Rows
noncomputable abbrev TO:=St->Hp->(Option Int->Hp->Prop)->Prop
noncomputable def PO (X:Cx)(e:Option Expr)(t:TO):Prop:=
 ∀ (pins:List (Addr × Obj)) (s:Shared) (σ:St) (H:Hp) (Q:Option Int->Hp->Prop),Inv X pins σ H s->t σ H Q ->
  wpAny (model X.prog X.w) X.A (evalPart e X.env) (fun u s'=>∃ o H',Inv X pins σ H' s'/\IsPart u o/\Q o H') X.xe s
noncomputable def ZQ:TO:=fun _ H Q=>Q none H
noncomputable def V0 (t:TE):TO:=fun σ H Q=>t σ H fun x H1=>∃ i,x=.int i/\Q (some i) H1
section
variable {X:Cx}{e:Expr}{te:TE}{lo hi:Option Expr}{tl th:TO}{pos p2:Pos}
theorem vd:PO X none ZQ:=by
 intro pins s σ H Q I h
 rw [evalPart_none]
 exact wpAny_pure ⟨none,H,I,.none,h⟩
theorem jT (h:PE X e te):PO X (some e) (V0 te):=by
 intro pins s σ H Q I hw
 rw [evalPart_some]
 refine thn (h pins s σ H _ I hw) fun u s1 ⟨x,H1,I1,r1,q1⟩=>?_
 obtain ⟨i,rfl,q⟩:=q1
 obtain ⟨t,rfl⟩:=r1
 exact ⟨some i,H1,I1,.int i t,q⟩
noncomputable def SlR (X:Cx)(r:V->Option Int->Option Int->Hp->VK->Prop):Prop:=
 ∀ (pins:List (Addr × Obj)) (s:Shared) (σ:St) (H:Hp) (x:V) (v vl vu:Value) (lo hi:Option Int) (sl:Addr) (Q:VK),Inv X pins σ H s->zz x v->s.heap.IsSliceOf sl vl vu .none->IsPart vl lo->IsPart vu hi->r x lo hi H Q ->
  ∃ T id,typeLookup (.type T) "__getitem__"=pure (some (.builtin id))/\s.TypeIs v T/\wpAny (model X.prog X.w) X.A (getItem v (.ref sl)) (EP X pins σ Q) X.xe s
noncomputable def tSl (r:V->Option Int->Option Int->Hp->VK->Prop)(te:TE)(tl th:TO):TE:=fun σ H Q=>te σ H fun x H1=>tl σ H1 fun l H2=>th σ H2 fun u H3=>r x l u H3 Q
theorem j6 {r:V->Option Int->Option Int->Hp->VK->Prop}(hr:SlR X r)(he:PE X e te)(hl:PO X lo tl)(hu:PO X hi th):PE X (.Subscript e (.Slice lo hi none p2) pos) (tSl r te tl th):=by
 intro pins s σ H Q I h
 refine Subscript_ (thn (he pins s σ H _ I h) fun v s1 ⟨x,H1,I1,r1,q1⟩=>?_)
 refine wpAny_Slice (thn (hl pins s1 σ H1 _ I1 q1) fun vl s2 ⟨l,H2,I2,pl,q2⟩=>thn (hu pins s2 σ H2 _ I2 q2) fun vu s3 ⟨u,H3,I3,pu,q3⟩=>?_)
 rw [evalPart_none]
 refine wpAny_pure ?_
 have I4:Inv X pins σ H3 { s3 with heap:=s3.heap.push { cls:=.type "slice",data:=.fields #[vl,vu,.none] } }:=I3.kept (t':=s3.toks) fun b ob q=>Heap.get?_push_of_some _ q
 obtain ⟨T,id,hT,ht,hg⟩:=hr pins { s3 with heap:=s3.heap.push { cls:=.type "slice",data:=.fields #[vl,vu,.none] } } σ H3 x v vl vu l u s3.heap.objs.size Q I4 r1 (Heap.IsSliceOf.new ..) pl pu q3
 show wpAny (model X.prog X.w) X.A (subscriptTail e (.Slice lo hi none p2) v (.ref s3.heap.objs.size)) (EP X pins σ Q) X.xe { s3 with heap:=s3.heap.push { cls:=.type "slice",data:=.fields #[vl,vu,.none] } }
 exact tail_any (ops:=[.ref s3.heap.objs.size,v]) ht hT hg (by with_unfolding_all rfl)
noncomputable def wv (xs:List V)(lo hi:Option Int):List V:=(xs.drop (HT.sIx xs.length 0 lo)).take (HT.sIx xs.length xs.length hi - HT.sIx xs.length 0 lo)
theorem yX (xs:List V)(lo hi:Option Int):(wv xs lo hi).length<=xs.length:=by
 unfold wv
 rw [List.length_take,List.length_drop]
 omega
noncomputable def Lc (K:PySem.W.Frag):V->Option Int->Option Int->Hp->VK->Prop:=fun x lo hi H Q=>∃ a xs,x=.ref a/\SqT K H a xs /\
 ¬ (HT.sIx xs.length 0 lo=0/\HT.sIx xs.length xs.length hi=xs.length)/\∀ p,H p=none->Q (.ref p) (upd H p (.tup (wv xs lo hi)))
theorem Qd:SlR X (Lc X.K):=by
 intro pins s σ H x v vl vu lo hi sl Q I rx hs pl pu h
 obtain ⟨a,xs,rfl,hx,hw,q⟩:=h
 cases rx
 obtain ⟨its,r,ht,hz⟩:=I.tuple hx
 have hlen:its.toArray.size=xs.length:=by rw [List.size_toArray];exact r.length.symm
 refine ⟨"tuple",_,PyProof.Rows.slot_tuple_getitem.lookup,ht.typeIs,?_⟩
 refine HT.getItem_tuple_cut ht hs pl pu (by rw [hlen];exact hw) ?_ (by rw [hlen];exact hz)
 rw [hlen]
 refine ⟨.ref s.heap.objs.size,_,I.laid (t':=s.toks) (o:=.tup (wv xs lo hi)) (fun b ob q=>Heap.get?_push_of_some _ q) (Nat.le_refl _) ?_,rfl,q _ (I.hok.fresh (Nat.le_refl _))⟩
 exact ⟨Nat.le_trans (yX xs lo hi) hz,_,(r.drop (HT.sIx xs.length 0 lo)).take (HT.sIx xs.length xs.length hi - HT.sIx xs.length 0 lo),Qc.new _ _⟩
end
noncomputable def ixN (n:Nat)(i:Int):Option Nat:=if 0<=i then (if i<n then some i.toNat else none) else if -(n:Int)<=i then some (i+n).toNat else none
noncomputable def atI {α:Type}(xs:List α)(i:Int):Option α:=(ixN xs.length i).bind fun j=>xs[j]?
variable {n j:Nat}
theorem Xb {i:Int} (h:ixN n i=some j):seqIndex? i n=some j/\j<n/\-(n:Int)<=i/\i<n:=by
 unfold ixN at h
 by_cases h0:0<=i
 ·rw [if_pos h0] at h
  by_cases h1:i<n
  ·rw [if_pos h1] at h
   have e:i.toNat=j:=Option.some.inj h
   exact ⟨by rw [seqIndex_of h0 h1,e],by omega,by omega,h1⟩
  ·rw [if_neg h1] at h;cases h
 ·rw [if_neg h0] at h
  by_cases h1:-(n:Int)<=i
  ·rw [if_pos h1] at h
   have e:(i+n).toNat=j:=Option.some.inj h
   exact ⟨by rw [seqIndex_neg (by omega) h1,e],by omega,h1,by omega⟩
  ·rw [if_neg h1] at h;cases h
theorem Qh {α:Type}{xs:List α}{i:Int}{v:α}(h:atI xs i=some v):∃ j,seqIndex? i xs.length=some j/\xs[j]?=some v/\j<xs.length/\-(xs.length:Int)<=i/\i<xs.length:=by
 unfold atI at h
 cases e:ixN xs.length i with
 | none=>rw [e] at h;cases h
 | some j=>
  rw [e] at h
  obtain ⟨h1,h2,h3,h4⟩:=Xb e
  exact ⟨j,h1,h,h2,h3,h4⟩
theorem Ed {α:Type}{xs:List α} {v:α}(h:xs[j]?=some v):atI xs (j:Int)=some v:=by
 have hj:j<xs.length:=(List.getElem?_eq_some_iff.mp h).1
 have e:ixN xs.length (j:Int)=some j:=by
  unfold ixN
  rw [if_pos (by omega),if_pos (by omega)];simp
 unfold atI;rw [e];exact h
noncomputable def Ej (b:Expr):Prop:=∀ o i,subscripted b false o i=operate [o,i] (getItem o i)
noncomputable def IxR (X:Cx)(r:R2):Prop:=
 ∀ (value slice:Expr) (pins:List (Addr × Obj)) (s:Shared) (σ:St) (H:Hp) (x y:V) (v u:Value) (Q:VK),Inv X pins σ H s->zz x v->zz y u->r x y H Q ->
  subscripted slice false v u=operate [v,u] (getItem v u)->wpAny (model X.prog X.w) X.A (subscriptTail value slice v u) (EP X pins σ Q) X.xe s
noncomputable def MtR (X:Cx)(id:String)(r:V->List V->Hp->VK->Prop):Prop:=
 ∀ (pins:List (Addr × Obj)) (s:Shared) (σ:St) (H:Hp) (x:V) (xs:List V) (v:Value) (us:List Value) (Q:VK),Inv X pins σ H s->zz x v->zB xs us->r x xs H Q ->
  wpAny (model X.prog X.w) X.A (call (.builtin id) (v :: us)) (EP X pins σ Q) X.xe s
section
variable {X:Cx}{a b:Expr}{ta tb:TE}{pos:Pos}
theorem zx {r:R2}(hr:IxR X r)(ha:PE X a ta)(hb:PE X b tb)(hs:Ej b):PE X (.Subscript a b pos) (tOp r ta tb):=by
 intro pins s σ H Q I h
 exact Subscript_ (HJ ha hb I h fun v u s2 x y H2 I2 rx ry q=>hr a b pins s2 σ H2 x y v u Q I2 rx ry q (hs _ _))
noncomputable def Dw (K:PySem.W.Frag):R2:=fun x y H Q=>∃ p xs i v,x=.ref p/\y=.int i/\SqL K H p xs/\atI xs i=some v/\Q v H
noncomputable def GX (K:PySem.W.Frag):R2:=fun x y H Q=>∃ p xs i v,x=.ref p/\y=.int i/\SqT K H p xs/\atI xs i=some v/\Q v H
theorem qE:IxR X (Dw X.K):=by
  intro value slice pins s σ H x y v u Q I rx ry h hs
  obtain ⟨p,xs,i,z,rfl,rfl,hq,he,q⟩:=h
  cases rx
  obtain ⟨t,rfl⟩:=ry
  obtain ⟨its,r,pl,hz⟩:=I.list hq
  obtain ⟨j,h1,h2,h3,h4,h5⟩:=Qh he
  obtain ⟨w,ew,rw'⟩:=r.get h2
  have hl:=r.length
  have hn:=yA
  have fin:EP X pins σ Q w s:=⟨z,H,I,rw',q⟩
  by_cases h0:0<=i
  · have hj : i.toNat = j := by
      rw [seqIndex_of h0 h5] at h1
      exact Option.some.inj h1
    exact item_listR pl.isList h0 (by omega) (by rw [hj];simpa using ew) fin hs
  · have hj : (i + (its.toArray.size : Int)).toNat = j := by
      rw [seqIndex_neg (by omega) h4] at h1
      rw [List.size_toArray,<- hl]
      exact Option.some.inj h1
    exact subscriptTail_builtinR (x:=w) pl.isList.typeIs slot_list_getitem.lookup
      (wpAny_getItem_list_neg (Q:=fun r s'=>r=w/\EP X pins σ Q r s') pl.isList (by omega) (by rw [List.size_toArray] <;> omega) (by omega) (by rw [hj];simpa using ew) ⟨rfl,fin⟩) hs
theorem yv:IxR X (GX X.K):=by
 intro value slice pins s σ H x y v u Q I rx ry h hs
 obtain ⟨p,xs,i,z,rfl,rfl,hq,he,q⟩:=h
 cases rx
 obtain ⟨t,rfl⟩:=ry
 obtain ⟨its,r,pl,hz⟩:=I.tuple hq
 obtain ⟨j,h1,h2,h3,h4,h5⟩:=Qh he
 obtain ⟨w,ew,rw'⟩:=r.get h2
 have hl:=r.length
 have hn:=yA
 have fin:EP X pins σ Q w s:=⟨z,H,I,rw',q⟩
 exact subscriptTail_builtinR (x:=w) pl.typeIs slot_tuple_getitem.lookup
  (getItem_tuple (j:=j) (Q:=fun r s'=>r=w/\EP X pins σ Q r s') pl (by omega) (by omega) (by rw [List.size_toArray,<- hl];exact h1) (by simpa using ew) ⟨rfl,fin⟩) hs
theorem JM (its:List Value)(n j:Nat)(u:Value):Obj.mapSeq (·.setIfInBounds j u) { cls:=.type "list",data:=.seq its.toArray n }={ cls:=.type "list",data:=.seq (its.set j u).toArray n }:=by
 simp [Obj.mapSeq]
variable {pins:List (Addr × Obj)} {σ:St} {H:Hp} {s:Shared} {p:Addr} {xs:List V}
theorem Inv.lst (I:Inv X pins σ H s)(h:H p=some (.lst xs)) :
  ∃ (its:List Value) (n:Nat),zB xs its/\s.heap.get? p=some { cls:=.type "list",data:=.seq its.toArray n }/\xs.length<=sizeLine:=by
 obtain ⟨z,its,n,r,e⟩:=I.hok p _ h
 exact ⟨its,n,r,e,z⟩
theorem Inv.lstUpd {xs ys:List V}{its its':List Value}{n n':Nat}{f:Obj->Obj}(I:Inv X pins σ H s)(h:H p=some (.lst xs))
  (ho:s.heap.get? p=some { cls:=.type "list",data:=.seq its.toArray n }) (hf:f { cls:=.type "list",data:=.seq its.toArray n }={ cls:=.type "list",data:=.seq its'.toArray n' }) (r:zB ys its') (hz:ys.length<=sizeLine) (t:Nat) :
  Inv X pins σ (upd H p (.lst ys)) { s with heap:=s.heap.update p f,toks:=t }:=by
 have e:(s.heap.update p f).get? p=some { cls:=.type "list",data:=.seq its'.toArray n' }:=by
  rw [Heap.get?_update_self f ho (by rw [hf] <;> rfl),hf]
 refine I.write (x:=p) (e:=p) (by rw [h];trivial) (.inl rfl) (fun b u hb q=>(Heap.get?_update_other _ _ (Ne.symm hb)).trans q) ⟨_,e⟩ ?_
 exact ⟨hz,its',n',r,e⟩
noncomputable def F0:V->V->V->Hp->(Hp->Prop)->Prop:=fun o i v H Q=>∃ p xs k j,o=.ref p/\i=.int k/\H p=some (.lst xs)/\ixN xs.length k=some j/\Q (upd H p (.lst (xs.set j v)))
theorem W2:DT X F0:=by
  intro pins s σ H o i v ov iv u Q I ro ri rv h
  obtain ⟨p,xs,k,j,rfl,rfl,hp,hj,q⟩:=h
  cases ro
  obtain ⟨t,rfl⟩:=ri
  obtain ⟨its,n,r,ho,hz⟩:=I.lst hp
  obtain ⟨h1,h2,h3,h4⟩:=Xb hj
  have hl:=r.length
  have hn:=yA
  have I':Inv X pins σ (upd H p (.lst (xs.set j v))) { s with heap:=s.heap.update p (Obj.mapSeq (·.setIfInBounds j u)) }:=
    I.lstUpd hp ho (JM its n j u) (r.set rv j) (by rw [List.length_set];exact hz) s.toks
  by_cases h0:0<=k
  · have hk : k.toNat = j := by
      rw [seqIndex_of h0 h4] at h1
      exact Option.some.inj h1
    exact PySem.W.ki_setAt ho h0 (by omega) (by rw [List.size_toArray,<- hl];exact h4) (by rw [hk];exact ⟨_,I',q⟩)
  · have hk : (k + (its.toArray.size : Int)).toNat = j := by
      rw [seqIndex_neg (by omega) h3] at h1
      rw [List.size_toArray,<- hl]
      exact Option.some.inj h1
    exact PySem.W.ki_setBack ho (by omega) (by rw [List.size_toArray,<- hl];exact h3) (by omega) (by rw [hk];exact ⟨_,I',q⟩)
theorem Z0 (lo hi:Option Int)(n:Nat):(sliceBounds lo hi none n).1=((HT.sIx n 0 lo:Nat):Int)/\(sliceBounds lo hi none n).2.1=((HT.sIx n n hi:Nat):Int)/\(sliceBounds lo hi none n).2.2=1:=by
 refine ⟨?_,?_,rfl⟩
 ·cases lo with
  | none=>simp [sliceBounds,HT.sIx]
  | some i=>
   simp only [sliceBounds,HT.sIx,Option.getD_none,show (1:Int) > 0 by decide,if_true]
   by_cases h:i<0
   ·simp only [h,if_true] <;> omega
   ·simp only [h,if_false] <;> omega
 ·cases hi with
  | none=>simp [sliceBounds,HT.sIx]
  | some i=>
   simp only [sliceBounds,HT.sIx,Option.getD_none,show (1:Int) > 0 by decide,if_true]
   by_cases h:i<0
   ·simp only [h,if_true] <;> omega
   ·simp only [h,if_false] <;> omega
theorem ww (its:List Value)(lo hi:Option Int):slicePick its.toArray lo hi none=((its.drop (HT.sIx its.length 0 lo)).take (HT.sIx its.length its.length hi - HT.sIx its.length 0 lo)).toArray:=by
 obtain ⟨h1,h2,h3⟩:=Z0 lo hi its.toArray.size
 unfold slicePick
 rw [h1,h2,h3]
 simp only [sliceRange_one,pick_run,List.size_toArray] <;> rfl
noncomputable def IY (K:PySem.W.Frag):V->Option Int->Option Int->Hp->VK->Prop:=fun x lo hi H Q=>∃ a xs,x=.ref a/\SqL K H a xs/\∀ p,H p=none->Q (.ref p) (upd H p (.lst (wv xs lo hi)))
theorem Xk:SlR X (IY X.K):=by
 intro pins s σ H x v vl vu lo hi sl Q I rx hs pl pu h
 obtain ⟨a,xs,rfl,hx,q⟩:=h
 cases rx
 obtain ⟨its,r,ht,hz⟩:=I.list hx
 have hlen:=r.length
 refine ⟨"list",_,slot_list_getitem.lookup,ht.isList.typeIs,?_⟩
 refine wpAny_getItem_list_slice ht.isList hs pl pu .none (by simp) ?_ (by rw [List.size_toArray] <;> omega)
 rw [ww,<- hlen]
 refine ⟨.ref s.heap.objs.size,_,I.laid (t':=s.toks) (o:=.lst (wv xs lo hi)) (fun b ob q=>Heap.get?_push_of_some _ q) (Nat.le_refl _) ?_,rfl,q _ (I.hok.fresh (Nat.le_refl _))⟩
 exact ⟨Nat.le_trans (yX xs lo hi) hz,_,0,(r.drop (HT.sIx xs.length 0 lo)).take (HT.sIx xs.length xs.length hi - HT.sIx xs.length 0 lo),Heap.get?_push_size _ rfl⟩
noncomputable def kg:V->Bool
 | .non=>true
 | .bl _=>true
 | .int _=>true
 | .str _=>true
 | _=>false
noncomputable def eqV:V->V->Bool
 | .non,.non=>true
 | .bl a,.bl b=>a == b
 | .bl a,.int b=>(if a then 1 else 0) == b
 | .int a,.bl b=>a == (if b then 1 else 0)
 | .int a,.int b=>a == b
 | .str a,.str b=>a == b
 | _,_=>false
theorem GV {A:Around}{s:Shared}{y x:V}{u v:Value}(ry:zz y u)(rx:zz x v)(fy:kg y=true)(fx:kg x=true):SeqAt.EqAt A s u v (eqV y x):=by
 cases y with
 | non=>
  cases ry
  cases x with
  | non=>cases rx;exact SeqAt.EqAt.same _
  | bl b=>cases rx;exact SeqAt.EqAt.none_bool b
  | int b=>obtain ⟨t,rfl⟩:=rx;exact SeqAt.EqAt.none_int b t
  | str b=>obtain ⟨t,rfl⟩:=rx;exact SeqAt.EqAt.none_str b t
  | _=>exact absurd (show false=true from fx) Bool.false_ne_true
 | bl a=>
  cases ry
  cases x with
  | non=>cases rx;exact SeqAt.EqAt.bool_none a
  | bl b=>cases rx;exact SeqAt.EqAt.bool_bool a b
  | int b=>obtain ⟨t,rfl⟩:=rx;exact SeqAt.EqAt.bool_int a b t
  | str b=>obtain ⟨t,rfl⟩:=rx;exact SeqAt.EqAt.bool_str a b t
  | _=>exact absurd (show false=true from fx) Bool.false_ne_true
 | int a=>
  obtain ⟨t',rfl⟩:=ry
  cases x with
  | non=>cases rx;exact SeqAt.EqAt.int_none a t'
  | bl b=>cases rx;exact SeqAt.EqAt.int_bool a t' b
  | int b=>obtain ⟨t,rfl⟩:=rx;exact SeqAt.EqAt.int_int a t' b t
  | str b=>obtain ⟨t,rfl⟩:=rx;exact SeqAt.EqAt.int_str a t' b t
  | _=>exact absurd (show false=true from fx) Bool.false_ne_true
 | str a=>
  obtain ⟨t',rfl⟩:=ry
  cases x with
  | non=>cases rx;exact SeqAt.EqAt.str_none a t'
  | bl b=>cases rx;exact SeqAt.EqAt.str_bool a t' b
  | int b=>obtain ⟨t,rfl⟩:=rx;exact SeqAt.EqAt.str_int a t' b t
  | str b=>obtain ⟨t,rfl⟩:=rx;exact SeqAt.EqAt.str_str a t' b t
  | _=>exact absurd (show false=true from fx) Bool.false_ne_true
 | _=>exact absurd (show false=true from fy) Bool.false_ne_true
noncomputable def eqU (x:V)(u:Value):Bool:=match u with
 | .none=>eqV .non x
 | .bool b=>eqV (.bl b) x
 | .int i _=>eqV (.int i) x
 | .str z _=>eqV (.str z) x
 | _=>false
theorem JA {x y:V}{u:Value}(r:zz y u)(f:kg y=true):eqU x u=eqV y x:=by
 cases y with
 | non=>cases r;rfl
 | bl b=>cases r;rfl
 | int i=>obtain ⟨t,rfl⟩:=r;rfl
 | str z=>obtain ⟨t,rfl⟩:=r;rfl
 | _=>exact absurd (show false=true from f) Bool.false_ne_true
theorem xW {x:V}:∀ {xs:List V} {us:List Value},zB xs us->xs.all kg=true->us.any (eqU x)=xs.any fun y=>eqV y x
 | _,_,.nil,_=>rfl
 | y :: xs,u :: us,.cons r t,f=>by
  rw [List.all_cons,Bool.and_eq_true] at f
  rw [List.any_cons,List.any_cons,JA r f.1,xW t f.2]
theorem jP {A:Around}{s:Shared}{x:V}{v:Value}(rx:zz x v)(fx:kg x=true):∀ {xs:List V} {us:List Value},zB xs us->xs.all kg=true->∀ u ∈ us,SeqAt.EqAt A s u v (eqU x u)
 | _,_,.nil,_=>fun u hu=>by cases hu
 | y :: xs,u :: us,.cons r t,f=>fun u' hu=>by
  rw [List.all_cons,Bool.and_eq_true] at f
  rcases List.mem_cons.mp hu with rfl | hu
  ·rw [JA r f.1];exact GV r rx f.1 fx
  ·exact jP rx fx t f.2 u' hu
noncomputable def inV (x:V)(xs:List V):Bool:=xs.any fun y=>eqV y x
noncomputable def rIn (K:PySem.W.Frag)(neg:Bool):R2:=fun x y H Q=>∃ p xs,y=.ref p/\(SqL K H p xs \/ SqT K H p xs)/\kg x=true/\xs.all kg=true/\Q (.bl (if neg then !inV x xs else inV x xs)) H
theorem yp:OpR X (compareOp .In) (rIn X.K false):=by
 intro pins s σ H x y v u Q I rx ry h
 obtain ⟨p,xs,rfl,hq,fx,fs,q⟩:=h
 cases ry
 rcases hq with hq | hq
 ·obtain ⟨its,r,pl,hz⟩:=I.list hq
  refine SeqAt.in_listAt (eqU x) pl.isList (fun w hw=>jP rx fx r fs w (by simpa using hw)) ⟨.bl _,H,I,rfl,?_⟩
  rw [show its.toArray.any (eqU x)=its.any (eqU x) by simp,xW r fs]
  exact q
 ·obtain ⟨its,r,pl,hz⟩:=I.tuple hq
  refine SeqAt.in_tupleAt (eqU x) pl (fun w hw=>jP rx fx r fs w (by simpa using hw)) ⟨.bl _,H,I,rfl,?_⟩
  rw [show its.toArray.any (eqU x)=its.any (eqU x) by simp,xW r fs]
  exact q
theorem Qf:OpR X (compareOp .NotIn) (rIn X.K true):=by
 intro pins s σ H x y v u Q I rx ry h
 obtain ⟨p,xs,rfl,hq,fx,fs,q⟩:=h
 cases ry
 rcases hq with hq | hq
 ·obtain ⟨its,r,pl,hz⟩:=I.list hq
  refine SeqAt.notIn_listAt (eqU x) pl.isList (fun w hw=>jP rx fx r fs w (by simpa using hw)) ⟨.bl _,H,I,rfl,?_⟩
  rw [show its.toArray.any (eqU x)=its.any (eqU x) by simp,xW r fs]
  exact q
 ·obtain ⟨its,r,pl,hz⟩:=I.tuple hq
  refine SeqAt.notIn_tupleAt (eqU x) pl (fun w hw=>jP rx fx r fs w (by simpa using hw)) ⟨.bl _,H,I,rfl,?_⟩
  rw [show its.toArray.any (eqU x)=its.any (eqU x) by simp,xW r fs]
  exact q
theorem zw:ju X (.builtin "len") (fun xs H Q=>∃ p ys,xs=[.ref p]/\(SqL X.K H p ys \/ SqT X.K H p ys)/\Q (.int ys.length) H):=by
 intro pins s σ H xs us Q I r h
 obtain ⟨p,ys,rfl,hq,q⟩:=h
 obtain ⟨u,rfl,rx⟩:=kU r
 cases rx
 have hn:=yA
 rcases hq with hq | hq
 ·obtain ⟨its,r',pl,hz⟩:=I.list hq
  have hlen:=r'.length
  exact Calls.call_len_list pl.isList (by simp only [List.size_toArray] <;> omega) ⟨.int ys.length,H,I.tok _,⟨s.toks+1,by rw [List.size_toArray,hlen]⟩,q⟩
 ·obtain ⟨its,r',pl,hz⟩:=I.tuple hq
  have hlen:=r'.length
  exact len_tuple pl (by simp only [List.size_toArray] <;> omega) ⟨.int ys.length,H,I.tok _,⟨s.toks+1,by rw [List.size_toArray,hlen]⟩,q⟩
theorem xZ:ju X (.type "list") (fun xs H Q=>∃ p ys,xs=[.ref p]/\(SqL X.K H p ys \/ SqT X.K H p ys)/\∀ l,H l=none->Q (.ref l) (upd H l (.lst ys))):=by
 intro pins s σ H xs us Q I r h
 obtain ⟨p,ys,rfl,hq,q⟩:=h
 obtain ⟨u,rfl,rx⟩:=kU r
 cases rx
 have fin:∀ (its:List Value),zB ys its->ys.length<=sizeLine->∀ (h':Heap) (c':Nat),(∀ b o',s.heap.get? b=some o'->h'.get? b=some o') ->
   h'.get? s.heap.objs.size=some { cls:=.type "list",dict:=none,data:=.seq its.toArray c',slots:=#[] }->EP X pins σ Q (.ref s.heap.objs.size) { s with heap:=h' }:=fun its r' hz h' c' kp e=>
  ⟨.ref s.heap.objs.size,_,I.laid (t':=s.toks) kp (Nat.le_refl _) (show zR X.prog X.w _ h' _ (.lst ys) from ⟨hz,its,c',r',e⟩),rfl,q _ (I.hok.fresh (Nat.le_refl _))⟩
 rcases hq with hq | hq
 ·obtain ⟨its,r',pl,hz⟩:=I.list hq
  have hlen:=r'.length
  obtain ⟨o,ho,hc,n,hd⟩:=pl.isList
  exact call_list_seq p (.inl rfl) ho hc hd (fun h' c' kp e=>fin its r' hz h' c' kp e) (by simp only [List.size_toArray] <;> omega)
 ·obtain ⟨its,r',pl,hz⟩:=I.tuple hq
  have hlen:=r'.length
  obtain ⟨o,ho,hc,n,hd⟩:=pl
  exact call_list_seq p (.inr rfl) ho hc hd (fun h' c' kp e=>fin its r' hz h' c' kp e) (by simp only [List.size_toArray] <;> omega)
theorem j0:ju X (.type "tuple") (fun xs H Q=>∃ p ys,xs=[.ref p]/\((SqL X.K H p ys/\∀ l,H l=none->Q (.ref l) (upd H l (.tup ys))) \/ (SqT X.K H p ys/\Q (.ref p) H))):=by
 intro pins s σ H xs us Q I r h
 obtain ⟨p,ys,rfl,h⟩:=h
 obtain ⟨u,rfl,rx⟩:=kU r
 cases rx
 rcases h with ⟨hq,q⟩ | ⟨hq,q⟩
 ·obtain ⟨its,r',pl,hz⟩:=I.list hq
  have hlen:=r'.length
  refine call_tuple_list pl.isList (fun h' kp=>?_) (by simp only [List.size_toArray] <;> omega)
  have I1:Inv X pins σ H { s with heap:=h' }:=I.kept (t':=s.toks) kp
  have I2:Inv X pins σ (upd H h'.objs.size (.tup ys)) { s with heap:=h'.push { cls:=.type "tuple",data:=.seq its.toArray } }:=
   I1.laid (t':=s.toks) (fun b o e=>Heap.get?_push_of_some _ e) (Nat.le_refl _) (show zR X.prog X.w _ _ _ (.tup ys) from ⟨hz,its,r',Qc.new _ _⟩)
  exact ⟨.ref h'.objs.size,_,I2,rfl,q _ (I1.hok.fresh (Nat.le_refl _))⟩
 ·obtain ⟨its,r',pl,hz⟩:=I.tuple hq
  exact call_tuple_same pl ⟨.ref p,H,I,rfl,q⟩
noncomputable def tyV (K:PySem.W.Frag)(T:String)(x:V)(H:Hp):Prop:=match x with
  | .str _=>T="str"
  | .int _=>T="int"
  | .ref p => (T = "list" /\ ∃ xs, SqL K H p xs) \/ (T = "tuple" /\ ((∃ xs, Rd H p (.tup xs)) \/ ∃ o, K.lookup p = some o /\ o.cls = .type "tuple" /\ o.dict = none)) \/
      (T="dict"/\((∃ kvs,H p=some (.dK kvs)) \/ ∃ kvs,H p=some (.dT kvs))) \/ (T="set"/\∃ S n,H p=some (.set S n))
  | _=>False
theorem Hn {pins : List (Addr × Obj)}{σ : St}{H : Hp}{s : Shared}{T : String}{x : V}{v : Value}(I : Inv X pins σ H s)(r : zz x v)(ty : tyV X.K T x H) :
    s.TypeIs v T/\∀ a,v=.ref a->∃ ob,s.heap.get? a=some ob/\ob.dict=none:=by
  cases x with
  | str z=>
    obtain ⟨t,rfl⟩:=r
    cases (show T="str" from ty)
    exact ⟨typeIs_str s z t,fun _ e=>nomatch e⟩
  | int i=>
    obtain ⟨t,rfl⟩:=r
    cases (show T="int" from ty)
    exact ⟨typeIs_int s i t,fun _ e=>nomatch e⟩
  | ref p=>
    cases r
    rcases ty with ⟨rfl,xs,hq⟩ | ⟨rfl,⟨xs,hx⟩ | ⟨o,hk,hc,hd⟩⟩ | ⟨rfl,hk⟩ | ⟨rfl,S,n,hk⟩
    · obtain ⟨its,_,pl,_⟩:=I.list hq
      refine ⟨pl.isList.typeIs,fun a e=>?_⟩
      cases e
      obtain ⟨o,n,e,c,hd,_⟩:=pl
      exact ⟨o,e,hd⟩
    · obtain ⟨_,its,_,o,e,c,_,hd⟩:=hx.ok I.hok
      refine ⟨⟨o,e,c⟩,fun a e2=>?_⟩
      cases e2
      exact ⟨o,e,hd⟩
    · refine ⟨⟨o,I.kIn p o hk,hc⟩,fun a e=>?_⟩
      cases e
      exact ⟨o,I.kIn _ o hk,hd⟩
    · have z : ∃ o, s.heap.get? p = some o /\ o.ExactDict := by
        rcases hk with ⟨kvs,hk⟩ | ⟨kvs,hk⟩
        · obtain ⟨_,_,_,_,o,_,_,e,ex,_⟩:=I.hok p _ hk
          exact ⟨o,e,ex⟩
        · obtain ⟨_,_,_,_,o,_,_,e,ex,_⟩:=I.hok p _ hk
          exact ⟨o,e,ex⟩
      obtain ⟨o,e,ex⟩:=z
      refine ⟨⟨o,e,ex.1⟩,fun a e2=>?_⟩
      cases e2
      exact ⟨o,e,ex.2.1⟩
    · obtain ⟨o,_,_,_,e,ex,_⟩:=I.hok p _ hk
      refine ⟨⟨o,e,ex.1⟩,fun a e2=>?_⟩
      cases e2
      exact ⟨o,e,ex.2.1⟩
  | _=>exact False.elim ty
noncomputable def tBM (K:PySem.W.Frag)(T:String)(r:V->List V->Hp->VK->Prop)(to:TE)(t:TA):TE:=fun σ H Q=>to σ H fun x H1=>tyV K T x H1/\t σ H1 fun xs H2=>r x xs H2 Q
variable {o e:Expr}{es:List Expr}{to:TE}{t:TA}{name:Str}{apos cpos:Pos}{T id:String}{r:V->List V->Hp->VK->Prop}
theorem ym (pa:PlainAttrs T)(slot:Slot T name id)(hty:typeOf (.builtin id)=pure (.type "method_descriptor"))(hm:MtR X id r)(ho:PE X o to)(ha:PA X (e :: es) t)
  (hbase:attributeBase o name X.env (eval o X.env)=eval o X.env:=by rfl)
  (hfew:((backTo cpos (starEach (e :: es) X.env)).all (fun x=>!x.1) && (backToKw cpos (keywordEach [] X.env)).all (fun x=>x.1.isSome)
   && decide ((e :: es).length+([]:List Keyword).length+(if ([]:List Keyword).isEmpty then 0 else 1)<30))=true:=by rfl)
  (hline:(apos.endLine == cpos.line)=true:=by rfl) (hs:starEach (e :: es) X.env=(false,eval e X.env) :: starEach es X.env:=by rfl) (hplain:(backTo cpos (starEach es X.env)).any (·.1)=false:=by rfl) :
  PE X (.Call (.Attribute o name apos) (e :: es) [] cpos) (tBM X.K T r to t):=by
 intro pins s σ H Q I h
 refine wpAny_Call_method_late hbase hfew hline rfl (thn (ho pins s σ H _ I h) fun v s1 ⟨x,H1,I1,r1,ty,q1⟩=>?_)
 obtain ⟨h1,h2⟩:=Hn I1 r1 ty
 refine ⟨T,id,pa,slot,hty,h1,h2,?_⟩
 have hA:=ha cpos pins s1 σ H1 _ I1 q1
 rw [hs] at hA ⊢
 refine Calls.callWith_builtin (by show (false || (backTo cpos (starEach es X.env)).any (·.1))=false;rw [hplain] <;> rfl) (Calls.evalArgs_plain ?_)
 exact thn hA fun us s2 ⟨vs,H2,I2,r2,q2⟩=>hm pins s2 σ H2 x vs v us Q I2 r1 r2 q2
/- xs.append(e),list.index on a module's tuple .. are MtR facts of 06m -/
end
noncomputable def MtM (X:Cx)(id:String)(r:V->List V->Hp->VK->Prop):Prop:=
 ∀ (pins:List (Addr × Obj)) (s:Shared) (σ:St) (H:Hp) (x:V) (xs:List V) (v:Value) (us:List Value) (Q:VK),Inv X pins σ H s->zz x v->zB xs us->r x xs H Q ->
  wpAny (model X.prog X.w) X.A (call (.builtin id) (v :: us)) (EP X pins σ Q) X.xe s
theorem zB.one:∀ {x:V} {us:List Value},zB [x] us->∃ u,us=[u]/\zz x u
 | _,_,.cons r .nil=>⟨_,rfl,r⟩
theorem zB.two:∀ {x y:V} {us:List Value},zB [x,y] us->∃ u v,us=[u,v]/\zz x u/\zz y v
 | _,_,_,.cons r (.cons q .nil)=>⟨_,_,rfl,r,q⟩
theorem zB.dropLast {xs:List V}{us:List Value}(h:zB xs us):zB xs.dropLast us.dropLast:=by
 induction h with
 | nil=>exact .nil
 | cons r t ih=>
  cases t with
  | nil=>exact .nil
  | cons q t'=>exact .cons r ih
theorem zB.rep {xs:List V}{us:List Value}(h:zB xs us):∀ k:Nat,zB (List.replicate k xs).flatten (List.replicate k us).flatten
 | 0=>.nil
 | k+1=>by
  rw [List.replicate_succ,List.replicate_succ,List.flatten_cons,List.flatten_cons]
  exact zB.append h (zB.rep h k)
theorem wZ (its:List Value):∀ (k:Nat) (acc:List Value),
  List.foldl (fun x1 x2=>x1 ++ x2) acc.toArray (List.replicate k its.toArray)=(acc ++ (List.replicate k its).flatten).toArray
 | 0,acc=>by simp
 | k+1,acc=>by
  have e:acc.toArray ++ its.toArray=(acc ++ its).toArray:=by simp
  have e2:(acc ++ its) ++ (List.replicate k its).flatten=acc ++ (List.replicate (k+1) its).flatten:=by
   rw [List.replicate_succ,List.flatten_cons,List.append_assoc]
  rw [<- e2,<- wZ its k (acc ++ its),<- e,List.replicate_succ,List.foldl_cons]
section
variable {X:Cx}{pins:List (Addr × Obj)}{σ:St}{H:Hp}{s:Shared}{l b:Addr}{xs ys zs:List V}
variable {t':Nat}
theorem Inv.lset {its its':List Value} {f:Array Value->Array Value} (I:Inv X pins σ H s)(hH:H l=some (.lst xs))
  (e:s.heap.get? l=some { cls:=.type "list",data:=.seq its.toArray n }) (hf:f its.toArray=its'.toArray) (hv:zB ys its') (hz:ys.length<=sizeLine) :
  Inv X pins σ (upd H l (.lst ys)) { s with heap:=s.heap.update l (Obj.mapSeq f),toks:=t' }:=by
 have q:=PySem.IsL.update e f
 rw [hf] at q
 refine I.write (x:=l) (e:=l) (by rw [hH];exact trivial) (.inl rfl) (fun b' u hb hu=>(Heap.get?_update_other s.heap (Obj.mapSeq f) (Ne.symm hb)).trans hu) ⟨_,q⟩ ?_
 exact ⟨hz,its',_,hv,q⟩
theorem Inv.lnew {its:List Value} (I:Inv X pins σ H s)(hv:zB ys its)(hz:ys.length<=sizeLine) :
  Inv X pins σ (upd H s.heap.objs.size (.lst ys)) { s with heap:=s.heap.push { cls:=.type "list",data:=.seq its.toArray },toks:=t' }:=
 I.laid (fun _ _ q=>Heap.get?_push_of_some _ q) (Nat.le_refl _) ⟨hz,its,0,hv,Heap.get?_push_size _ rfl⟩
theorem Inv.fresh (I:Inv X pins σ H s):H s.heap.objs.size=none:=I.hok.fresh (Nat.le_refl _)
theorem Inv.lstM (I:Inv X pins σ H s)(hH:H l=some (.lst xs)):xs.length<=sizeLine/\∃ (its:List Value) (n:Nat),zB xs its/\xs.length=its.length/\s.heap.get? l=some { cls:=.type "list",data:=.seq its.toArray n }:=by
 obtain ⟨z,its,n,r,e⟩:=I.hok l _ hH
 exact ⟨z,its,n,r,r.length,e⟩
theorem Qq (h:n<=sizeLine):Builtin.List.listTooLong n=false:=by
 unfold Builtin.List.listTooLong
 exact decide_eq_false (by omega)
end
section
variable {X:Cx}
noncomputable def vk:V->List V->Hp->VK->Prop:=fun x vs H Q=>∃ l xs y,x=.ref l/\vs=[y]/\H l=some (.lst xs)/\xs.length<sizeLine/\Q .non (upd H l (.lst (xs ++ [y])))
theorem Zj:MtM X "list.append" vk:=by
 intro pins s σ H x vs v us Q I rx rv h
 obtain ⟨l,xs,y,rfl,rfl,hH,hz,q⟩:=h
 cases rx
 obtain ⟨u,rfl,ru⟩:=rv.one
 obtain ⟨z,its,n,r,hl,e⟩:=I.lstM hH
 refine call_meets F.slot_list_append ⟨_,e,rfl⟩ F.entry_list_append (F.args_list_append_2 _ _) (PySem.list_append l its.toArray n u (by rw [List.size_toArray];omega)) ⟨e,?_⟩
 refine ⟨.non,_,I.lset (its':=its ++ [u]) hH e (by simp) (r.append (.cons ru .nil)) ?_,rfl,q⟩
 rw [List.length_append,List.length_singleton]
 omega
noncomputable def Xl:V->List V->Hp->VK->Prop:=fun x vs H Q=>∃ l b xs zs,x=.ref l/\vs=[.ref b]/\H l=some (.lst xs)/\H b=some (.lst zs)/\xs.length+zs.length<=sizeLine/\Q .non (upd H l (.lst (xs ++ zs)))
theorem IB:MtM X "list.extend" Xl:=by
 intro pins s σ H x vs v us Q I rx rv h
 obtain ⟨l,b,xs,zs,rfl,rfl,hH,hB,hz,q⟩:=h
 cases rx
 obtain ⟨u,rfl,ru⟩:=rv.one
 cases ru
 obtain ⟨z,its,n,r,hl,e⟩:=I.lstM hH
 obtain ⟨z2,its2,n2,r2,hl2,e2⟩:=I.lstM hB
 have hsz:its.toArray.size+its2.toArray.size<=sizeLine:=by rw [List.size_toArray,List.size_toArray];omega
 have hlong:¬ (!its.toArray.isEmpty && Builtin.List.listTooLong (its.toArray.size+its2.toArray.size))=true:=by
  rw [Qq hsz,Bool.and_false]
  exact Bool.false_ne_true
 refine call_meets F.slot_list_extend ⟨_,e,rfl⟩ F.entry_list_extend (F.args_list_extend_2 _ _)
  (AutoSeq1.list_extend_list_list_0 l its.toArray n b its2.toArray n2 hlong (by rw [List.size_toArray];omega) (by omega)) ⟨e,e2,?_⟩
 refine ⟨.non,_,I.lset (its':=its ++ its2) hH e (by simp) (r.append r2) ?_,rfl,q⟩
 rw [List.length_append]
 omega
noncomputable def Hi:R2:=fun x y H Q=>∃ l b xs zs,x=.ref l/\y=.ref b/\H l=some (.lst xs)/\H b=some (.lst zs)/\xs.length+zs.length<=sizeLine/\∀ p,H p=none->Q (.ref p) (upd H p (.lst (xs ++ zs)))
theorem B1:OpR X (binaryOp .Add) Hi:=by
 intro pins s σ H x y v u Q I rx ry h
 obtain ⟨l,b,xs,zs,rfl,rfl,hH,hB,hz,q⟩:=h
 cases rx
 cases ry
 obtain ⟨z,its,n,r,hl,e⟩:=I.lstM hH
 obtain ⟨z2,its2,n2,r2,hl2,e2⟩:=I.lstM hB
 refine PySem.P.add_list e e2 ?_ (by rw [List.size_toArray,List.size_toArray];omega)
 have ea:its.toArray ++ its2.toArray=(its ++ its2).toArray:=by simp
 rw [ea]
 exact ⟨.ref _,_,I.lnew (t':=s.toks) (r.append r2) (by rw [List.length_append];omega),rfl,q _ I.fresh⟩
noncomputable def DG:R2:=fun x y H Q=>∃ l k xs,x=.ref l/\y=.int k/\H l=some (.lst xs)/\-(2 ^ 63)<=k/\k<2 ^ 63/\xs.length * k.toNat<=sizeLine /\
 ∀ p,H p=none->Q (.ref p) (upd H p (.lst (List.replicate k.toNat xs).flatten))
theorem E2 {α:Type}(xs:List α)(k:Nat):(List.replicate k xs).flatten.length=k * xs.length:=by
 induction k with
 | zero=>simp
 | succ k ih=>rw [List.replicate_succ,List.flatten_cons,List.length_append,ih,Nat.succ_mul,Nat.add_comm]
theorem Z4:OpR X (binaryOp .Mult) DG:=by
 intro pins s σ H x y v u Q I rx ry h
 obtain ⟨l,k,xs,rfl,rfl,hH,h1,h2,hz,q⟩:=h
 cases rx
 obtain ⟨t,rfl⟩:=ry
 obtain ⟨z,its,n,r,hl,e⟩:=I.lstM hH
 have hlen:its.toArray.size * k.toNat<=sizeLine:=by rw [List.size_toArray,<- hl];exact hz
 have hcap:¬ its.toArray.size * k.toNat > (2 ^ 63 - 1) / 8:=by
  have:(sizeLine:Nat)<=(2 ^ 63 - 1) / 8:=by decide
  omega
 have hfit:¬ (!Builtin.List.listFitsIndex k)=true:=by
  rw [fitsIndex_both h1 h2]
  exact Bool.false_ne_true
 have hlong:¬ Builtin.List.listTooLong (its.toArray.size * k.toNat)=true:=by
  rw [Qq hlen]
  exact Bool.false_ne_true
 have hnew:List.foldl (fun x1 x2=>x1 ++ x2) #[] (List.replicate (if its.toArray.isEmpty=true then 0 else k.toNat) its.toArray)=(List.replicate k.toNat its).flatten.toArray:=by
  have f0:∀ m:Nat,List.foldl (fun x1 x2=>x1 ++ x2) #[] (List.replicate m its.toArray)=(List.replicate m its).flatten.toArray:=fun m=>by
   have:=wZ its m []
   rw [List.nil_append] at this
   exact this
  rw [f0]
  cases its with
  | nil=>simp
  | cons a r'=>rw [if_neg (by simp)]
 refine wpAny_binaryOp_repeat_ref (T:="list") (U:="int") (by decide) ⟨_,e,rfl⟩ (fun s'=>typeIs_int s' k t) noFill_list_mul F.fills_int_mul F.slot_int_rmul repeat_list F.slot_int_index.lookup
  (call_meets F.slot_int_rmul (typeIs_int s k t) F.entry_int_rmul (F.args_int_rmul_2 _ _) (int___rmul___int_list k t l its.toArray n)
   ⟨e,rfl,⟨_,e,rfl⟩,call_meets F.slot_list_mul ⟨_,e,rfl⟩ F.entry_list_mul (F.args_list_mul_2 _ _) (AutoListH.list___mul___list_int_3 l its.toArray n k t hfit hcap hlong) ⟨e,?_⟩⟩)
 rw [hnew]
 exact ⟨.ref _,_,I.lnew (t':=s.toks) (r.rep k.toNat) (by rw [E2,Nat.mul_comm];exact hz),rfl,q _ I.fresh⟩
end
section
variable {prog:Program}{w:World}{A:Around}{E:Value->Shared->Prop}{s:Shared}
end
section
variable {X:Cx}
end
end L2
namespace Att
open PySem PySem.W PySem.Calls PyProof.Rows
theorem vc {P:Params}{h:Heap}:∀ (ns:List Int) (vs:List Value),WellAll P h vs (ns.map WData.int)->IntsAre vs ns:=by
 intro ns
 induction ns with
 | nil=>
  intro vs w
  rw [List.map_nil] at w
  cases w
  exact .nil
 | cons n ns ih=>
  intro vs w
  rw [List.map_cons] at w
  cases w with
  | cons a b=>
   cases a
   exact .cons _ _ (ih _ b)
theorem Y0 {l:OpenLaw}{n:Nat}(hn:l.most=some n){P:Params}{h:Heap}{args:List WData}{vals:List Value}
  (hpre:l.row.toRowW.claim.pre args=true) (hwl:WellAll P h vals args) :
  ∃ a vs ns,vals=[Value.ref a]/\args=[WData.list (ns.map WData.int)]/\h.get? a=some { cls:=.type "list",data:=.seq vs.toArray }/\IntsAre vs ns/\ns.length<=n:=by
 have hsh:WShape.hasAll [] args [.list .int]=true:=(pre_splitW hpre).1
 have hc:l.pre.holds [] { args:=args }=true:=(pre_splitW hpre).2
 obtain ⟨d,r,rfl,h1,h2⟩:=hasAllW_cons hsh
 obtain rfl:=hasAllW_nil h2
 obtain ⟨xs,rfl,h3⟩:=hasW_list h1
 obtain ⟨ns,rfl⟩:=items_int h3
 have hlen:ns.length<=n:=by
  unfold OpenLaw.pre at hc
  have h4:(WTm.not (.lt (.lit (.int (n:Int))) (.len (.arg 0)))).holds [] { args:=[.list (ns.map .int)] }=true:=by
   have h4:=(holds_andW hc).1
   rw [hn] at h4
   exact h4
  have h5:=condW_of h4 (w_not (w_lt w_lit (w_len_list (w_arg rfl))))
  rw [List.length_map] at h5
  refine Nat.le_of_not_lt fun q=>?_
  have q':(n:Int)<((ns.length:Nat):Int):=by omega
  first
   | (rw [decide_eq_true q'] at h5;exact absurd h5 (by decide))
   | (simp at h5;omega)
 cases hwl with
 | cons w1 w2=>
  cases w2
  cases w1 with
  | list ho hall=>exact ⟨_,_,ns,rfl,rfl,ho,vc ns _ hall,hlen⟩
theorem Yx (l:OpenLaw)(args:List WData):l.row.toRowW.claim.post args (.bool true) args=true:=
 postW_of (r:=l.row.toRowW) (X:=(true == true))
  (show WShape.has [] (.bool true) .bool=true by first | rfl | decide | simp [WShape.has,WShape.arms,WShape.armsAll])
  (show (WTm.eq .res (.lit (.bool true))).value [] { args:=args,res:=some (.bool true),after:=args }=some (.bool (true == true)) from w_eq_bool (w_res rfl) w_lit) rfl
theorem attach_call {l:OpenLaw}{n:Nat}{q:Program}{loose:List Str}{XP:(Str->Option Value)->Heap->Prop}{YP:World->Heap->Prop}{d:DefRec}
  (hn:l.most=some n) (hdf:d.params.defaults=[])
  (call:∀ (w:World) (s₀ s₁:Shared) (mg mb:Str->Option Value) (fa:Addr) (o:Obj) (pm cd doc:Value) (a:Addr) (vs:List Value) (ns:List Int),
   Ground q loose [] XP w s₀ mg mb s₁.heap->YP w s₁.heap ->
   s₁.heap.get? fa=some o->o.data=.func (docDef d.name d.params d.body d.scope pm cd doc)->s₁.heap.CodeRec cd d.name->mg d.name=some (.ref fa) ->
   s₁.heap.get? a=some { cls:=.type "list",data:=.seq vs.toArray }->IntsAre vs ns->ns.length<=n->s₁.gens=#[] ->
   codeAny (model l.prog w) callerA (.call (.ref fa) ⟨[.ref a],[]⟩) (fun r s'=>r=.ok (.ret (.bool true))/\OldK s₁.heap s'.heap/\s'.os=s₁.os/\AllBare s'.gens) s₁) :
  WalkO q loose XP YP l.row.toRowW d [] (fun f vs=>PySem.call f vs):=by
 intro w s₀ s₁ mg mb G Y fa o pm cd doc dV kV ho hd hcd hD hmg hg args vals as hpre hlay hrd hwl hlo
 obtain rfl:dV=.none:=Dflts.none hD hdf
 obtain rfl:kV=.none:=Dflts.noKw hD
 obtain ⟨a,vs,ns,rfl,rfl,hobj,hints,hlen⟩:=Y0 hn hpre hwl
 refine enter_call (codeAny_mono (call w s₀ s₁ mg mb fa o pm cd doc a vs ns G Y ho (fd_plain hd) hcd hmg hobj hints hlen hg) fun r s' hq=>?_)
 obtain ⟨rfl,h2,h3,h4⟩:=hq
 exact ⟨.inl ⟨.bool true,.bool true,[],rfl,fun _=>rfl,.bool true,Yx l _,fun _=>⟨List.Pairwise.nil,fun _ hm=>(nomatch hm)⟩⟩,h2,h3,h4⟩
section
variable {prog:Program}{w:World}{A:Around}{E:Value->Shared->Prop}{s:Shared}{K:Frag}
noncomputable def LK (h:Heap)(L d:Addr):List (Addr × Obj):=(List.range h.objs.size).filterMap fun a=>if a=L \/ a=d then none else (h.get? a).map fun o=>(a,o)
end
end Att
namespace L2
open PySem PySem.Spec PyProof.Rows
theorem Zf:∀ {vs:List Value} {ns:List Int},IntsAre vs ns->zB (ns.map V.int) vs
 | _,_,.nil=>.nil
 | _,_,.cons n t h=>.cons ⟨t,rfl⟩ (Zf h)
noncomputable def Gx (H:Hp):Prop:=∀ b,H b=none \/ ∃ o xs,H b=some (.frz o (.lst xs))
theorem WI {P:Program}{w:World}{K:PySem.W.Frag}{mg mb:Str->Option Value}{CX:CXT}{k:Nat}{fa a:Addr}{fd:FuncData}{x:Str}{sp:Sp}{s₁:Shared}{vs:List Value}{ns:List Int}
  (KX:K.In s₁.heap) (hns:s₁.heap.Ns mainGlobals mg) (hb:s₁.heap.Ns builtinsNs mb) (hbb:∀ x:Str,x ≠ "__name__"->mb x=bootBuiltins x) (hlim:s₁.heap.NoLimit) (hg:s₁.gens=#[])
  (ha:s₁.heap.get? a=some { cls:=.type "list",data:=.seq vs.toArray }) (hi:IntsAre vs ns) (hl:ns.length<=sizeLine) (hr:qc k callerA)
  (F:∀ base:Heap,K.In base->base.Ns mainGlobals mg->jq P w K mg base CX k fa fd [x] sp) (hbind:∀ (s:Shared) (u:Value),BindsTo s fd ⟨[u],[]⟩ [(x,u)])
  (hsp:∀ H:Hp,Gx H->SqL K H a (ns.map V.int)->sp [.ref a] H (fun v _=>v=.bl true) fun _ _ _=>False)
  (hCX:∀ H e s',CX [] H s₁ (fun _ _ _=>False) e s'->False) :
  codeAny (model P w) callerA (.call (.ref fa) ⟨[.ref a],[]⟩) (fun r s'=>r=.ok (.ret (.bool true))/\OldK s₁.heap s'.heap/\s'.os=s₁.os/\AllBare s'.gens) s₁:=by
 have rv:=Zf hi
 have lenV:=hi.length
 have core:∀ H:Hp,Gx H->SqL K H a (ns.map V.int)->HOk P w H s₁.heap->(∀ b,H b ≠ none->b=a)->(H a ≠ none->K.lookup a=none) ->
   codeAny (model P w) callerA (.call (.ref fa) ⟨[.ref a],[]⟩) (fun r s'=>r=.ok (.ret (.bool true))/\OldK s₁.heap s'.heap/\s'.os=s₁.os/\AllBare s'.gens) s₁:=by
  intro H hO hS hok hA hK
  have base_of:∀ {b:Addr} {o:Obj},s₁.heap.get? b=some o->H b=none->(ZR s₁.heap H).get? b=some o:=fun e n=>B7 e n
  have noA:∀ {b:Addr} {o:Obj} {es:Array DictEntry} {ep:Nat},s₁.heap.get? b=some o->o.data=.dict es ep->H b=none:=fun {b o es ep} e d=>by
   cases q:H b with
   | none=>rfl
   | some u=>
    have e':b=a:=hA b (by rw [q];simp)
    subst e'
    rw [ha] at e;cases e
    have d':Data.seq vs.toArray _=Data.dict es ep:=d
    cases d'
  have nsK:∀ {b:Addr} {m:Str->Option Value},s₁.heap.Ns b m->(ZR s₁.heap H).Ns b m:=fun {b m} ⟨o,es,ep,e,d,r⟩=>⟨o,es,ep,base_of e (noA e d),d,r⟩
  have hKb:K.In (ZR s₁.heap H):=fun b o e=>base_of (KX b o e) (by
   cases q:H b with
   | none=>rfl
   | some u=>
    have e':b=a:=hA b (by rw [q];simp)
    subst e'
    rw [hK (by rw [q];simp)] at e;cases e)
  have hM:Mod K mg (ZR s₁.heap H):=⟨hKb,nsK hns,⟨mb,nsK hb,hbb⟩,let ⟨mc,h1,h2⟩:=hlim;⟨mc,nsK h1,h2⟩⟩
  have e0:ZP P w K mg (ZR s₁.heap H) callerA [] s₁ H:=⟨rfl,hM,fun b o e=>DJ e,Nat.le_of_eq (YI _ _),trivial,fun b hb=>absurd (show b ∈ ([]:List Addr) from hb) (by simp),hok,.of_eq hg⟩
  refine codeAny_mono ((F _ hKb (nsK hns)).run callerA [] s₁ H ⟨[.ref a],[]⟩ [.ref a] [.ref a] _ _ hr e0 (hbind s₁ (.ref a)) (.cons rfl .nil) (hsp H hO hS)) fun r s' h=>?_
  cases r with
  | error e=>exact (hCX H e s' h).elim
  | ok fl=>
   cases fl with
   | next=>exact False.elim h
   | brk=>exact False.elim h
   | cont=>exact False.elim h
   | ret u=>
    obtain ⟨v,H',os,bare,un,hok',r',q⟩:=h
    have q':v=.bl true:=q
    subst q'
    obtain rfl:u=Value.bool true:=r'
    refine ⟨rfl,OldK.of_keep fun b o e=>?_,os,bare⟩
    cases q:H b with
    | none=>exact un.keep b o e q (by intro z;exact absurd (show b ∈ ([]:List Addr) from z) (by simp)) (by simp)
    | some u=>
     rcases hO b with z | ⟨ob,xs,z⟩
     ·rw [q] at z;cases z
     ·have z2:=un.frzs b ob _ z
      obtain ⟨e1,_⟩:=hok b _ z
      obtain ⟨e2,_⟩:=hok' b _ z2
      rw [e] at e1;cases e1
      exact e2
 cases hk:K.lookup a with
 | some o=>
  have e:=KX a o hk
  rw [ha] at e
  cases e
  refine core (fun _=>none) (fun _=>.inl rfl) (.inr ⟨_,vs.toArray,_,hk,rfl,rfl,rfl,by rw [List.size_toArray,lenV];exact hl,by simpa using rv⟩) (fun b u z=>by have z':(none:Option HO)=some u:=z;cases z') (fun b z=>absurd rfl z) fun z=>absurd rfl z
 | none=>
  refine core (fun b=>if b=a then some (.frz { cls:=.type "list",data:=.seq vs.toArray } (.lst (ns.map V.int))) else none) (fun b=>?_) (.inl (.inr ⟨{ cls:=.type "list",data:=.seq vs.toArray },if_pos rfl⟩)) (fun b u z=>?_) (fun b z=>?_) fun _=>hk
  ·by_cases hb:b=a
   ·exact .inr ⟨_,_,if_pos hb⟩
   ·exact .inl (if_neg hb)
  ·by_cases hb:b=a
   ·have z':=(if_pos hb).symm.trans z
    cases z'
    subst hb
    exact ⟨ha,by rw [List.length_map];exact hl,vs,_,rv,ha⟩
   ·have z':=(if_neg hb).symm.trans z
    cases z'
  ·by_cases hb:b=a
   ·exact hb
   ·exact absurd (if_neg hb) z
noncomputable abbrev KOf {K:PySem.W.Frag}{h:Heap}(_:K.In h):PySem.W.Frag:=K
theorem walk_of {l:PySem.W.OpenLaw}{n k:Nat}{q:Program}{loose:List Str}{XP:(Str->Option Value)->Heap->Prop}{YP:World->Heap->Prop}{d:DefRec}{K:Params->PySem.W.Frag}{CX:World->CXT}{sp:World->Sp}{x:Str}
  (hn:l.most=some n) (hn2:n<=sizeLine) (hdf:d.params.defaults=[]) (hr:qc k callerA)
  (hY:∀ (w:World) (h:Heap),YP w h->(K w.params).In h)
  (F:∀ (w:World) (mg:Str->Option Value) (fa:Addr) (h:Heap),(K w.params).In h->h.Ns mainGlobals mg->mg d.name=some (.ref fa) ->
   ∃ fd:FuncData,(∀ (s:Shared) (u:Value),BindsTo s fd ⟨[u],[]⟩ [(x,u)]) /\
    ∀ base:Heap,(K w.params).In base->base.Ns mainGlobals mg->jq l.prog w (K w.params) mg base (CX w) k fa fd [x] (sp w))
  (hsp:∀ (w:World) (H:Hp) (a:Addr) (ns:List Int),ns.length<=n->Gx H->SqL (K w.params) H a (ns.map V.int)->sp w [.ref a] H (fun v _=>v=.bl true) fun _ _ _=>False)
  (hCX:∀ (w:World) (H:Hp) (s:Shared) (e:Value) (s':Shared),CX w [] H s (fun _ _ _=>False) e s'->False) :
  PySem.W.WalkO q loose XP YP l.row.toRowW d [] (fun f vs=>PySem.call f vs):=by
 refine Att.attach_call hn hdf fun w s₀ s₁ mg mb fa o pm cd doc a vs ns G Y ho hd hcd hmg hobj hints hlen hg=>?_
 have KX:=hY w _ Y
 obtain ⟨fd,hb,hF⟩:=F w mg fa _ KX G.T.g hmg
 exact WI KX G.T.g G.T.b G.T.builtins G.T.nolimit hg hobj hints (Nat.le_trans hlen hn2) hr hF hb (fun H hO hS=>hsp w H a ns hlen hO hS) fun H e s'=>hCX w H s₁ e s'
end L2
/- THE LAST THEOREM (shape;LID,My.* are yours):
   My.Adr: a structure of the addresses that your layer names (classes,functions);My.Txt K t: a structure (Prop) of the equations over K;
   My.txt_mk:{K} {implicit addresses ..} (e1:nsIn K mainGlobals "law"=some (some (.ref f))) (e2:K.lookup f=some ⟨oc,od,.func (fnOf "law" "law" params body scope dV kV doc pm an cdv ct),sl⟩) (e3:codeIn K cdv "law"=true) ..:∃ t,My.Txt K t
set_option maxRecDepth 100000 in
set_option maxHeartbeats 0 in
theorem PySem.Challenge.cw_LID_holds:PySem.Challenge.rw_LID.Holds:=by
 w_on;o_law;k_head;(case hw=>w_witness2)
 k_fill
 refine L2.walk_of (l:=PySem.Challenge.rw_LID) (n:=63) (k:=40) (x:="script") (CX:=fun w=>..) (sp:=fun _=>My.sp_law) rfl (by decide) rfl ⟨rfl,by decide,by decide⟩ (fun w h Y=>PySem.W.kIn_of Y) ?F ?S ?C
 case F=>
  intro w mg fa h KX G hmg
  have T:∃ t,My.Txt (L2.KOf KX) t:=by
   dsimp only [L2.KOf]                          -- K must stand as «<heap const> w.params» for k_is
   refine' My.txt_mk ?e1 ?e2 ?e3 ..
   (case e1=>PySem.W.k_is)                    -- in the order: a name->its address->its object->its parts
   (case e2=>PySem.W.k_is)
   ..
  obtain ⟨t,T⟩:=T
  have e0:=hmg.symm.trans (PySem.W.mg_of KX G T.law)
  cases e0                                       -- fa is the law's own address
  exact ⟨_,fun s u=>.of_eq rfl,fun base kb nb=>My.law_fn T kb nb⟩     -- if «.of_eq rfl» comes too early: refine' ⟨_,?b,fun base kb nb=>My.law_fn T kb nb⟩;exact fun s u=>.of_eq rfl
 case S=>exact fun w H a ns hl hO hS=>..
 case C=>exact ..
(the tactic k_is has no namespace: write k_is) -/
namespace L2
open PySem PySem.Spec PyProof.Rows
noncomputable def qM (s:Stmt)(j:Nat):Stmt:=match s with
 | .ClassDef _ _ _ body _ _ _ _ _ _ _=>body.getD j (.Pass ⟨0,0,0,0⟩)
 | _=>.Pass ⟨0,0,0,0⟩
noncomputable def qj (s:Stmt):Arguments:=match s with
 | .FunctionDef _ a _ _ _ _ _ _ _ _=>a
 | _=>{ posonlyargs:=[],args:=[],vararg:=none,kwonlyargs:=[],kw_defaults:=[],kwarg:=none,defaults:=[] }
noncomputable def zF (s:Stmt):List Stmt:=match s with
 | .FunctionDef _ _ b _ _ _ _ _ _ _=>b
 | _=>[]
noncomputable def zd (s:Stmt):Scope:=match s with
 | .FunctionDef _ _ _ _ _ _ sc _ _ _=>sc
 | _=>{ kind:=.function,names:=[],isGenerator:=false,isCoroutine:=false }
noncomputable abbrev CX0:CXT:=fun _ _ _ _ _ _=>False
noncomputable abbrev E0:XK:=fun _ _ _=>False
theorem Xz {X:Cx}:kG CX0 X E0:=fun _ _ _ _ _ _ _ h=>h.elim
structure Fun (K:PySem.W.Frag)(x qual:Str)(st:Stmt)(f:Addr)(fd:FuncData):Prop where
 ex:∃ (oc:Value) (od:Option Addr) (kV doc pm:Value) (an:Option Addr) (cdv ct:Value) (osl:Array (Option Value)),
  fd=PySem.W.fnOf x qual (qj st) (zF st) (zd st) .none kV doc pm an cdv ct/\K.lookup f=some ⟨oc,od,.func fd,osl⟩/\PySem.W.codeIn K cdv qual=true
 kp:PySem.W.keepIn K (.ref f)=true
section
variable {P:Program}{w:World}{K:PySem.W.Frag}{mg:Str->Option Value}{base:Heap}
variable {st:Stmt} {f:Addr} {fd:FuncData}
theorem Fun.ok {x qual:Str} {N ps:List Str}{k:Nat}{sp:Sp}(F:Fun K x qual st f fd)(S:zt N ps (zd st))(len:∀ vs H Q E,sp vs H Q E->vs.length=ps.length)
  (hbody:∀ (cdv:Value) (A:Around) (outer:List Env) (s:Shared) (H:Hp) (vs:List V) (Q:VK) (E:XK),qc k (A.deeper (envOfC qual (zd st) s.heap.objs.size f cdv))->sp vs H Q E ->
   ∃ t,PSs (jB CX0 P w K mg base N qual (zd st) f cdv A outer s H E).nox (zF st) t/\t { nx:=fun _ H'=>Q .non H',rt:=Q } (qB N vs) H):jq P w K mg base CX0 (k+1) f fd ps sp:=by
 obtain ⟨oc,od,kV,doc,pm,an,cdv,ct,osl,rfl,lk,hcd⟩:=F.ex
 refine BU lk hcd S len fun A outer s H vs Q E hr hsp=>?_
 obtain ⟨t,h,q⟩:=hbody cdv A outer s H vs Q E hr hsp
 exact ⟨t,h.nox,q⟩
theorem Fun.binds {x qual:Str} {ps:List Str}(F:Fun K x qual st f fd)
  (h:∀ (kV doc pm:Value) (an:Option Addr) (cdv ct:Value) (us:List Value),us.length=ps.length->bindArgs (PySem.W.fnOf x qual (qj st) (zF st) (zd st) .none kV doc pm an cdv ct) ⟨us,[]⟩=pure (ps.zip us)):jr K fd ps []:=by
 obtain ⟨oc,od,kV,doc,pm,an,cdv,ct,osl,rfl,lk,hcd⟩:=F.ex
 exact .all (h kV doc pm an cdv ct)
theorem fun_mk {x qual:Str} {oc:Value}{od an:Option Addr}{osl:Array (Option Value)}{kV doc pm cdv ct:Value}(l:K.lookup f=some ⟨oc,od,.func (PySem.W.fnOf x qual (qj st) (zF st) (zd st) .none kV doc pm an cdv ct),osl⟩)
  (c:PySem.W.codeIn K cdv qual=true) (k:PySem.W.keepIn K (.ref f)=true):Fun K x qual st f (PySem.W.fnOf x qual (qj st) (zF st) (zd st) .none kV doc pm an cdv ct):=⟨⟨oc,od,kV,doc,pm,an,cdv,ct,osl,rfl,l,c⟩,k⟩
end
theorem Y9 {n:Nat}(h:n<=1000):n<sizeLine:=Nat.lt_of_le_of_lt h (by decide)
section
variable {X:Cx}
theorem pv (i:Nat){x:Str}{pos:Pos}(hN:X.N[i]?=some x:=by rfl)(hv:Vis X.env.scope x:=by first | exact Or.inl rfl | exact Or.inr (Or.inl rfl) | exact Or.inr (Or.inr rfl))(hd:(x == ("__debug__":Str))=false:=by decide)
  (hcd:(x == ("__classdict__":Str))=false:=by decide):PE X (.Name x pos) (wu i):=Hg hN hv hd hcd
end
theorem IG {c A B:Prop}[Decidable c](h1:c->A)(h2:¬ c->B):if c then A else B:=by
 by_cases h:c
 ·rw [if_pos h]
  exact h1 h
 ·rw [if_neg h]
  exact h2 h
section
variable {κ:Type}[DecidableEq κ]
noncomputable def vE (kvs:List (κ × V))(k:κ):Option V:=(kvs.find? fun kv=>decide (kv.1=k)).map (·.2)
variable {p:κ × V} {r:List (κ × V)} {k:κ}
theorem VJ (e:p.1=k):vE (p :: r) k=some p.2:=by simp [vE,List.find?_cons,e]
theorem BJ (e:¬ p.1=k):vE (p :: r) k=vE r k:=by simp [vE,List.find?_cons,e]
theorem xN.getD {o:Option V}{u:Option Value}{d:V}{d':Value}(r:xN o u)(rd:zz d d'):zz (o.getD d) (u.getD d'):=by
 cases o with
 | none=>cases u with
  | none=>exact rd
  | some _=>exact (show False from r).elim
 | some _=>cases u with
  | none=>exact (show False from r).elim
  | some _=>exact r
theorem KV.val {kvs:List (κ × V)}{vs:List (κ × Value)}(r:KV kvs vs)(k:κ):xN (vE kvs k) (valueAt vs k):=by
 unfold KV at r
 induction r with
 | nil=>exact True.intro
 | @cons p q ps qs h t ih=>
  obtain ⟨h1,h2⟩:=h
  by_cases e:p.1=k
  ·have e':q.1=k:=h1.symm.trans e
   have b:valueAt (q :: qs) k=some q.2:=by simp [valueAt,List.find?_cons,e']
   rw [VJ e,b];exact h2
  ·have e':¬ q.1=k:=fun z=>e (h1.trans z)
   have b:valueAt (q :: qs) k=valueAt qs k:=by simp [valueAt,List.find?_cons,e']
   rw [BJ e,b];exact ih
end
theorem LJ {P:Program}{w:World}{k:Key}{u:Value}(r:zz (kV k) u):(jF P w).is k u=true:=by
 cases k with
 | inl i=>obtain ⟨t,e⟩:=(show ∃ t,u=Value.int i t from r);subst e;exact QO P w i t
 | inr x=>obtain ⟨t,e⟩:=(show ∃ t,u=Value.str x t from r);subst e;exact QG P w x t
section
variable {P:Program}{w:World}{H:Hp}{h:Heap}{a:Addr}
end
section
variable {X:Cx}{pins:List (Addr × Obj)}{σ:St}{H:Hp}{s:Shared}{a:Addr}{y v:V}{u r:Value}{o:Option V}{A:Around}{E:Value->Shared->Prop}
end
section
variable {X:Cx}{pins:List (Addr × Obj)}{σ:St}{H:Hp}{s:Shared}{a:Addr}{kvs:List (Key × V)}{k:Key}{u:Value}{A:Around}{E:Value->Shared->Prop}
end
section
variable {X:Cx}{o i e value:Expr}{pos pos' tpos:Pos}{td ty tv:TE}
end
section
variable {X:Cx}{pos:Pos}
end
structure M1 (X:Cx)(o:Expr)(m:Str)(apos:Pos)(e:Expr)(cpos:Pos):Prop where
 base:attributeBase o m X.env (eval o X.env)=eval o X.env
 few:((backTo cpos (starEach [e] X.env)).all (fun x=>!x.1) && (backToKw cpos (keywordEach [] X.env)).all (fun x=>x.1.isSome)
  && decide (([e]:List Expr).length+([]:List Keyword).length+(if ([]:List Keyword).isEmpty then 0 else 1)<30))=true
 line:(apos.endLine == cpos.line)=true
 trees:backTo cpos (starEach [e] X.env)=[(false,eval e X.env)]
structure M2 (X:Cx)(o:Expr)(m:Str)(apos:Pos)(e f:Expr)(cpos:Pos):Prop where
 base:attributeBase o m X.env (eval o X.env)=eval o X.env
 few:((backTo cpos (starEach [e,f] X.env)).all (fun x=>!x.1) && (backToKw cpos (keywordEach [] X.env)).all (fun x=>x.1.isSome)
  && decide (([e,f]:List Expr).length+([]:List Keyword).length+(if ([]:List Keyword).isEmpty then 0 else 1)<30))=true
 line:(apos.endLine == cpos.line)=true
 trees:backTo cpos (starEach [e,f] X.env)=[(false,eval e X.env),(false,eval f X.env)]
section
variable {X:Cx}{pins:List (Addr × Obj)}{σ:St}{H:Hp}{s:Shared}{a:Addr}{y d:V}{u r:Value}{o:Option V}{A:Around}{E:Value->Shared->Prop}
end
section
variable {X:Cx}{o e f:Expr}{apos cpos:Pos}{td ty tx:TE}
end
section
variable {X:Cx}{pins:List (Addr × Obj)}{σ:St}{H:Hp}{s:Shared}{a:Addr}{kvs:List (Key × V)}{A:Around}{E:Value->Shared->Prop}
end
section
variable {X:Cx}{pins:List (Addr × Obj)}{σ:St}{H:Hp}{s:Shared}{a:Addr}{y:V}{u:Value}{A:Around}{E:Value->Shared->Prop}
end
section
variable {κ:Type}[DecidableEq κ]
end
end L2
set_option Elab.async false
set_option linter.all false
set_option maxRecDepth 100000
set_option maxHeartbeats 4000000
namespace L2
open PySem PySem.Spec PyProof.Rows
noncomputable def BV (N:List Str)(ts:List Nat)(sc:Scope)(kind:Str->Option NameKind):Bool:=
 sc.kind == .function && sc.names.all (fun y=>y.2 != .cell && (y.2 != .local || sc.names.lookup y.1 == some .local) && (y.2 != .free || kind y.1 == some .cell || kind y.1 == some .free)) &&
  N.zipIdx.all (fun p=>sc.names.lookup p.1 != some .local || ts.contains p.2)
noncomputable def ji (cells:List (Str × Addr)):List (Str × NameKind)->List (Str × Addr)->List (Str × Addr)
 | [],acc=>acc
 | (n,k) :: r,acc=>ji cells r (if k=.free then (n,(cells.lookup n).getD 0) :: acc else acc)
theorem Z1 {env:Env}:∀ (names:List (Str × NameKind)) (acc:List (Str × Addr)),(∀ y ∈ names,y.2=.free->∃ c,env.cells.lookup y.1=some c) ->
  (forIn names acc fun (x:Str × NameKind) (cs:List (Str × Addr))=>(match x with | (name,kind)=>if (kind == NameKind.free)=true then (do let c <- cellOf env name;pure (ForInStep.yield ((name,c) :: cs))) else pure (ForInStep.yield cs):Sem (ForInStep (List (Str × Addr)))))=pure (ji env.cells names acc)
 | [],acc,_=>rfl
 | (n,k) :: r,acc,h=>by
  rw [List.forIn_cons]
  by_cases hk:k=.free
  ·subst hk
   obtain ⟨c,hc⟩:=h (n,.free) List.mem_cons_self rfl
   have e1:cellOf env n=pure c:=by unfold cellOf;rw [hc]
   simp only [beq_self_eq_true,if_true,e1,pure_bind]
   rw [Z1 r _ fun y hy=>h y (List.mem_cons_of_mem _ hy)]
   show _=pure (ji env.cells r (if NameKind.free=.free then _ else _))
   rw [if_pos rfl,hc];rfl
  ·have hb:(k == NameKind.free)=false:=by simpa using hk
   simp only [hb,Bool.false_eq_true,if_false,pure_bind]
   rw [Z1 r _ fun y hy=>h y (List.mem_cons_of_mem _ hy)]
   show _=pure (ji env.cells r (if k=.free then _ else _))
   rw [if_neg hk]
theorem yq {cells : List (Str × Addr)} : ∀ (names : List (Str × NameKind)) (acc : List (Str × Addr)), (∀ y ∈ names, y.2 = .free -> ∃ c, cells.lookup y.1 = some c) -> (∀ x c, acc.lookup x = some c -> cells.lookup x = some c) ->
    (∀ x c,(ji cells names acc).lookup x=some c->cells.lookup x=some c)/\(∀ x c,acc.lookup x=some c->∃ c',(ji cells names acc).lookup x=some c')/\∀ y ∈ names,y.2=.free->∃ c,(ji cells names acc).lookup y.1=some c
  | [],acc,_,h2=>⟨h2,fun x c e=>⟨c,e⟩,fun y hy=>nomatch hy⟩
  | (n,k) :: r,acc,h1,h2=>by
    by_cases hk:k=.free
    · subst hk
      obtain ⟨c,hc⟩:=h1 (n,.free) List.mem_cons_self rfl
      have hc:cells.lookup n=some c:=hc
      have e:ji cells ((n,.free) :: r) acc=ji cells r ((n,c) :: acc):=by
        show ji cells r (if NameKind.free=.free then _ else _)=_
        rw [if_pos rfl,hc];rfl
      rw [e]
      obtain ⟨q1,q2,q3⟩:=yq (cells:=cells) r ((n,c) :: acc) (fun y hy=>h1 y (List.mem_cons_of_mem _ hy)) (fun x c' e'=>by
        rw [List.lookup_cons] at e'
        cases hx:x == n with
        | true => rw [hx] at e'; have : x = n := by simpa using hx
                  subst this;cases e';exact hc
        | false=>rw [hx] at e';exact h2 x c' e')
      refine ⟨q1,fun x c' e'=>?_,fun y hy hf=>?_⟩
      · cases hx:x == n with
        | true=>exact q2 x c (by rw [List.lookup_cons,hx])
        | false=>exact q2 x c' (by rw [List.lookup_cons,hx];exact e')
      · rcases List.mem_cons.mp hy with rfl | hy
        · exact q2 n c (by rw [List.lookup_cons,beq_self_eq_true])
        · exact q3 y hy hf
    · have e : ji cells ((n, k) :: r) acc = ji cells r acc := by
        show ji cells r (if k=.free then _ else _)=_
        rw [if_neg hk]
      rw [e]
      obtain ⟨q1,q2,q3⟩:=yq (cells:=cells) r acc (fun y hy=>h1 y (List.mem_cons_of_mem _ hy)) h2
      refine ⟨q1,q2,fun y hy hf=>?_⟩
      rcases List.mem_cons.mp hy with rfl | hy
      · exact absurd hf hk
      · exact q3 y hy hf
variable {scope:Scope}
theorem J1 {env:Env}(h:∀ y ∈ scope.names,y.2=.free->∃ c,env.cells.lookup y.1=some c) :
  ∃ cl,closureFor scope env=pure cl/\(∀ x c,cl.lookup x=some c->env.cells.lookup x=some c)/\∀ y ∈ scope.names,y.2=.free->∃ c,cl.lookup y.1=some c:=by
 obtain ⟨q1,_,q3⟩:=yq (cells:=env.cells) scope.names [] h (fun x c e=>nomatch e)
 refine ⟨ji env.cells scope.names [],?_,q1,q3⟩
 unfold closureFor
 have:=Z1 (env:=env) scope.names [] h
 first
  | exact this
  | (simp only [bind_pure];exact this)
  | (refine Eq.trans ?_ this;simp)
theorem yi {env:Env}:∀ {names:List (Str × NameKind)} {x:Str},(names.map fun (n,k)=>if (k == NameKind.free && env.scope.kind == .function && env.kindOf n == some .cell) then (n,NameKind.cell) else (n,k)).lookup x =
  (names.lookup x).map fun k=>if (k == NameKind.free && env.scope.kind == .function && env.kindOf x == some .cell) then NameKind.cell else k
 | [],_=>rfl
 | (n,k) :: r,x=>by
  have ih:=@yi env r x
  rw [List.map_cons]
  cases hx:x == n with
  | true=>
   have e:x=n:=by simpa using hx
   subst e
   rw [List.lookup_cons (as:=r),beq_self_eq_true]
   show List.lookup x ((if (k == NameKind.free && env.scope.kind == .function && env.kindOf x == some .cell)=true then (x,NameKind.cell) else (x,k)) :: _)=some _
   by_cases hc:(k == NameKind.free && env.scope.kind == .function && env.kindOf x == some .cell)=true
   ·rw [if_pos hc,List.lookup_cons,beq_self_eq_true];dsimp only;rw [if_pos hc]
   ·rw [if_neg hc,List.lookup_cons,beq_self_eq_true];dsimp only;rw [if_neg hc]
  | false=>
   rw [List.lookup_cons (as:=r),hx]
   show List.lookup x ((if (k == NameKind.free && env.scope.kind == .function && env.kindOf n == some .cell)=true then (n,NameKind.cell) else (n,k)) :: _)=_
   by_cases hc:(k == NameKind.free && env.scope.kind == .function && env.kindOf n == some .cell)=true
   ·rw [if_pos hc,List.lookup_cons,hx];exact ih
   ·rw [if_neg hc,List.lookup_cons,hx];exact ih
noncomputable abbrev cxC (X:Cx)(scope:Scope)(cl:List (Str × Addr))(s:Shared)(H:Hp)(fp:List Addr):Cx:=
 { X with s₀:=s,H₀:=H,env:=compEnvC scope cl s.heap.objs.size X.env,outer:=X.stack,ex:=fp,fn:=fun _=>false,pn:=[],xe:=fun _ _=>False }
noncomputable def clr:List Nat->St->St
 | [],σ=>σ
 | j :: r,σ=>clr r (σ.set j none)
theorem Xr:∀ (ts:List Nat) (σ:St),(clr ts σ).length=σ.length
 | [],_=>rfl
 | j :: r,σ=>by show (clr r (σ.set j none)).length=_;rw [Xr r];simp
theorem Qj:∀ (ts:List Nat) (σ:St) (i:Nat) (v:V),(clr ts σ)[i]?=some (some v)->i ∉ ts/\σ[i]?=some (some v)
 | [],_,_,_,h=>⟨by simp,h⟩
 | j :: r,σ,i,v,h=>by
  obtain ⟨h1,h2⟩:=Qj r (σ.set j none) i v h
  by_cases e:j=i
  ·subst e
   rw [List.getElem?_set] at h2
   simp at h2
  ·rw [List.getElem?_set_ne e] at h2
   exact ⟨by simp [h1,Ne.symm e],h2⟩
structure ScF (X:Cx)(ts:List Nat)(scope:Scope):Prop where
 kind:scope.kind=.function
 cell:∀ y ∈ scope.names,y.2 ≠ .cell
 loc:∀ y ∈ scope.names,y.2=.local->scope.names.lookup y.1=some .local
 free:∀ y ∈ scope.names,y.2=.free->X.env.kindOf y.1=some .cell \/ X.env.kindOf y.1=some .free
 ts:∀ (i:Nat) x,X.N[i]?=some x->scope.names.lookup x=some .local->i ∈ ts
variable {X:Cx} {ts:List Nat}
theorem Ig (h:BV X.N ts scope X.env.kindOf=true):ScF X ts scope:=by
  unfold BV at h
  simp only [Bool.and_eq_true,List.all_eq_true,bne_iff_ne,ne_eq,Bool.or_eq_true,beq_iff_eq] at h
  obtain ⟨⟨h1,h2⟩,h3⟩:=h
  refine ⟨h1,fun y hy=>(h2 y hy).1.1,fun y hy e=>?_,fun y hy e=>?_,fun i x e1 e2=>?_⟩
  · rcases (h2 y hy).1.2 with z | z
    · exact absurd e z
    · exact z
  · rcases (h2 y hy).2 with (z | z) | z
    · exact absurd e z
    · exact .inl z
    · exact .inr z
  · have hm : (x, i) ∈ X.N.zipIdx := by
      rw [List.mem_zipIdx_iff_getElem?];exact e1
    rcases h3 _ hm with z | z
    · exact absurd e2 z
    · simpa using z
section
variable {X:Cx}{ts:List Nat}{scope:Scope}{pins:List (Addr × Obj)}{σ:St}{H:Hp}{s:Shared}{fp:List Addr}
theorem Jn (I:Inv X pins σ H s)(S:ScF X ts scope)(hf:∀ b ∈ fp,y8 X pins H b)(hfl:∀ b ∈ fp,b<s.heap.objs.size){cl:List (Str × Addr)}(c1:∀ x c,cl.lookup x=some c->X.env.cells.lookup x=some c)
  (c2:∀ y ∈ scope.names,y.2=.free->∃ c,cl.lookup y.1=some c) {h1:Heap} {t1:Nat} (hns:h1.Ns s.heap.objs.size (fun x=>([]:List (Str × Value)).reverse.lookup x))
  (hk:∀ b o,s.heap.get? b=some o->h1.get? b=some o):Inv (cxC X scope cl s H fp) [] (clr ts σ) H { s with heap:=h1,toks:=t1 }:=by
 have hlk:∀ x,(relabel scope X.env).names.lookup x=(scope.names.lookup x).map fun k=>if (k == NameKind.free && X.env.scope.kind == .function && X.env.kindOf x == some .cell) then NameKind.cell else k:=fun x=>yi
 have cfree:∀ x,((relabel scope X.env).names.lookup x=some .cell \/ (relabel scope X.env).names.lookup x=some .free)->(x,NameKind.free) ∈ scope.names:=fun x hx=>by
  rw [hlk] at hx
  cases e:scope.names.lookup x with
  | none=>rw [e] at hx;rcases hx with hx | hx <;> cases hx
  | some k=>
   have hm:=mem_of_lookup_some e
   cases k with
   | free=>exact hm
   | cell=>exact absurd rfl (S.cell _ hm)
   | «local»=>rw [e] at hx;rcases hx with hx | hx <;> cases hx
   | globalExplicit=>rw [e] at hx;rcases hx with hx | hx <;> cases hx
   | globalImplicit=>rw [e] at hx;rcases hx with hx | hx <;> cases hx
 have ccell:∀ x c,cl.lookup x=some c->∃ v,s.heap.IsCell c v:=fun x c e=>I.cell x c (c1 x c e)
 have fpne:∀ b ∈ fp,b ∉ frs X.stack:=fun b hb z=>by
  obtain ⟨_,f1,f2,_⟩:=hf b hb
  rcases List.mem_cons.mp (I.stkSub b z) with e | e
  ·exact f1 e
  ·exact f2 e
 refine ⟨⟨I.ok.mod,S.kind,I.ok.glob,I.ok.blt,Nat.le_refl _,fun x y c e1 e2=>I.ok.inj x y c (c1 x c e1) (c1 y c e2),fun x hx=>c2 (x,.free) (cfree x hx) rfl,(fun x c hx=>nomatch hx),I.ok.hd,I.ok.frames,.inl rfl,fun b hb=>⟨Nat.ne_of_lt (hfl b hb),fun x c e=>(hf b hb).2.2.2.2.1 x c (c1 x c e)⟩,
  I.bs,Nat.le_trans I.ok.bsz I.sz,fun b o e hb=>?_,fpne,I.stack,I.stkFree⟩,rfl,I.bare,Un.kept hk,⟨_,hns,fun i x v e1 e2 e3=>?_⟩,fun x c e=>?_,I.hok.fresh (Nat.le_refl _),fun x c e=>I.freeC x c (c1 x c e),fun p hp=>absurd hp (by simp),I.hok.kept hk,by rw [Xr];exact I.len⟩
 ·rcases (hf b hb).2.2.2.1 with z | z
  ·exact I.ok.noex b o e z
  ·exact absurd (Nat.lt_of_lt_of_le (Heap.lt_size e) (Nat.le_trans I.ok.bsz z)) (Nat.lt_irrefl _)
 ·obtain ⟨nt,e2⟩:=Qj ts σ i v e2
  have e3':(relabel scope X.env).names.lookup x=some .local \/ (relabel scope X.env).names.lookup x=some .cell \/ (relabel scope X.env).names.lookup x=some .free:=e3
  rcases e3' with z | z
  ·rw [hlk] at z
   cases e:scope.names.lookup x with
   | none=>rw [e] at z;cases z
   | some k=>
    rw [e] at z
    have z':(if (k == NameKind.free && X.env.scope.kind == .function && X.env.kindOf x == some .cell)=true then NameKind.cell else k)=.local:=Option.some.inj z
    split at z'
    ·cases z'
    ·subst z'
     exact absurd (S.ts i x e1 e) nt
  ·have hm:=cfree x z
   obtain ⟨c,hc⟩:=c2 _ hm rfl
   obtain ⟨m,hn,hl⟩:=I.loc
   have vis:Vis X.env.scope x:=by
    rcases S.free _ hm rfl with q | q
    ·exact .inr (.inl q)
    ·exact .inr (.inr q)
   obtain ⟨u,r,l⟩:=hl i x v e1 e2 vis
   refine ⟨u,r,.inr ⟨z,c,hc,?_⟩⟩
   rcases l with ⟨q,_⟩ | ⟨_,c',hc',hcell⟩
   ·rcases S.free _ hm rfl with q' | q'
    ·rw [q'] at q;cases q
    ·rw [q'] at q;cases q
   ·rw [c1 x c hc] at hc'
    cases hc'
    obtain ⟨o,ho,hd⟩:=hcell
    exact ⟨o,hk _ _ ho,hd⟩
 ·obtain ⟨v,o,ho,hd⟩:=ccell x c e
  exact ⟨v,o,hk _ _ ho,hd⟩
end
section
variable {prog:Program}{w:World}{A:Around}{R:Result->Shared->Prop}{s:Shared}
theorem xB {elt target iter : Expr}{ifs : List Expr}{scope : Scope}{pos : Pos}{it acc : Value}{env : Env}(I : Nat -> Shared -> Prop)
    (turn:∀ n s,I n s->wpAny (model prog w) A (pyNext it) (fun r s₁=>match r with
      | none=>R (.ok .next) s₁
      | some v => wpAny (model prog w) A (letOwnedTupleGo target it v) (fun _ s₀ => wpAny (model prog w) A (assign target env v) (fun _ s₂ =>
          wpAny (model prog w) A (forIn ifs true fun c r=>if r=true then do let ok <- isTrue c env (eval c env);pure (ForInStep.yield ok) else pure (ForInStep.yield r)) (fun ok s₃=>
            if ok=true then wpAny (model prog w) A (eval elt env) (fun x s₄=>
              wpAny (model prog w) A (call (.builtin "list.append") [acc,x]) (fun _ s₅=>∃ m,m<n/\I m s₅) (fun _ _=>False) s₄) (fun _ _=>False) s₃
            else ∃ m,m<n/\I m s₃) (fun _ _=>False) s₂) (fun _ _=>False) s₀) (fun _ _=>False) s₁) (fun _ _=>False) s)
    (n:Nat) (h:I n s) :
    codeAny (model prog w) A (.compLoop (.ListComp elt [⟨target,iter,ifs,0⟩] scope pos) 0 it acc env) R s:=by
  refine codeAny_loop rfl I (fun n s hI=>?_) n h
  show wpAny _ A ((compTurn (.ListComp elt [⟨target,iter,ifs,0⟩] scope pos) 0 it acc env).onRaise (fun x=>do noteFrame x env;theTreesLotGoes x)) _ _ s
  refine wpAny_noted ?_
  rw [compTurn_list]
  refine wpAny_bind (wpAny_standAt (wpAny_bind (wpAny_mono (turn n s hI) (fun r s₁ h₁=>?_) fun _ _ h'=>h'.elim)))
  cases r with
  | none=>exact wpAny_pure h₁
  | some v=>
    refine wpAny_bind (wpAny_mono h₁ (fun _ s₀ h₀=>?_) fun _ _ h'=>h'.elim)
    refine wpAny_bind (wpAny_mono h₀ (fun _ s₂ h₂=>wpAny_bind (wpAny_mono h₂ (fun ok s₃ h₃=>?_) fun _ _ h'=>h'.elim)) fun _ _ h'=>h'.elim)
    cases ok with
    | false=>exact wpAny_pure ⟨rfl,h₃⟩
    | true=>
      exact wpAny_bind (wpAny_bind (wpAny_mono h₃ (fun x s₄ h₄=>wpAny_bind (wpAny_mono h₄ (fun _ s₅ h₅=>wpAny_pure (wpAny_pure ⟨rfl,h₅⟩)) fun _ _ h'=>h'.elim)) fun _ _ h'=>h'.elim))
end
noncomputable def VI:TT:=fun _ H Q=>Q true H
noncomputable def PIf (X:Cx)(ifs:List Expr)(t:TT):Prop:=
 ∀ (pins:List (Addr × Obj)) (s:Shared) (σ:St) (H:Hp) (Q:Bool->Hp->Prop),Inv X pins σ H s->t σ H Q ->
  wpAny (model X.prog X.w) X.A (forIn ifs true fun c r=>if r=true then do let ok <- isTrue c X.env (eval c X.env);pure (ForInStep.yield ok) else pure (ForInStep.yield r)) (TP X pins σ Q) X.xe s
theorem vg:PIf X [] VI:=fun _ _ _ H _ I h=>wpAny_tests_nil ⟨H,I,h⟩
variable {c:Expr} {t:TT}
theorem XF (h:PT X c t):PIf X [c] t:=fun pins s σ H Q I hq=>wpAny_tests_one (h pins s σ H Q I hq)
noncomputable def QY (ts:List Nat)(wi:TI)(g:TG)(tt:TT)(te:TE):TE:=fun σ H Q=>wi σ H fun J H1=>∀ D,H1 D=none->∃ W:Nat->Nat->St->Hp->Prop,(∃ m,W 0 m (clr ts σ) (upd H1 D (.lst [])))/\∀ i m τ H2,W i m τ H2 ->
 (J.stop i H2/\Q (.ref D) H2) \/ (J.go i H2/\∃ N:St->Hp->Prop,(∀ τ' H',N τ' H'->∃ m',m'<m/\W (i+1) m' τ' H')/\∀ x H',J.yld i H2 x H'->g x τ H' fun τ2 H3=>tt τ2 H3 fun b H4=>
  if b=true then te τ2 H4 fun v H5=>∃ ys,H5 D=some (.lst ys)/\ys.length<sizeLine/\N τ2 (upd H5 D (.lst (ys ++ [v]))) else N τ2 H4)
section
variable {X:Cx}{ts:List Nat}{scope:Scope}{tg iter elt:Expr}{ifs:List Expr}{wi:TI}{g:TG}{tt:TT}{te:TE}{pos:Pos}
theorem Ql (hc:X.calm=true)(hsc:BV X.N ts scope X.env.kindOf=true)(hi:PI X tg iter wi)(hg:∀ cl s H fp,PG (cxC X scope cl s H fp) tg g)(ht:∀ cl s H fp,PIf (cxC X scope cl s H fp) ifs tt)(he:∀ cl s H fp,PE (cxC X scope cl s H fp) elt te)
  {pins:List (Addr × Obj)} {s:Shared} {σ:St} {H:Hp} {Q:VK} (I:Inv X pins σ H s) (h:QY ts wi g tt te σ H Q) {use:Option (Value->Sem Unit)} {Q':Value->Shared->Prop}
  (fin:∀ (D C:Addr) (H':Hp) (s':Shared),Inv X pins σ H' s'->(∃ m,s'.heap.Ns C m)->H' C=none->C ≠ X.env.locals->(∀ x c,X.env.cells.lookup x=some c->c ≠ C)->X.s₀.heap.objs.size<=C->(∀ p ∈ X.pn ++ pins,p.1 ≠ C)->C ∉ X.fs->Q (.ref D) H' ->
   compPost (model X.prog X.w) X.A X.xe use Q' (.ref D) C (.ok .next) s')
  (hs:∀ x,foldedSetIterable iter X.env x=pure x) :
  wpAny (model X.prog X.w) X.A (comprehension (.ListComp elt [⟨tg,iter,ifs,0⟩] scope pos) scope X.env (firstIterPos [⟨tg,iter,ifs,0⟩] pos) (newList []) false (eval iter X.env) use) Q' X.xe s:=by
 have S:=Ig hsc
 obtain ⟨cl,hcl,c1,c2⟩:=J1 (scope:=scope) (env:=X.env) fun y hy e=>I.ok.has y.1 (S.free y hy e)
 refine wpAny_comprehension_free (use:=use) rfl hs hcl S.kind S.loc ?_
 refine wpAny_mono (hi pins s σ H _ I h) (fun v s1 h1=>wpAny_mono h1 (fun itv s2 h2=>?_) fun _ _ e=>e) fun _ _ e=>e
 obtain ⟨it,fp,tn,J,H2,e,I2,T,st2,f2,q2⟩:=h2
 subst e
 have hD:H2 s2.heap.objs.size=none:=I2.hok.fresh (Nat.le_refl _)
 obtain ⟨W,⟨m0,w0⟩,turn⟩:=q2 _ hD
 refine wpAny_newObj_type (wpAny_newFunctionEnv S.cell (by intro y hy;simp at hy) (fun h₁ hns₁ hsb₁=>?_) S.kind)
 dsimp only at hns₁ hsb₁ ⊢
 generalize hh3:s2.heap.push { cls:=.type "list",dict:=none,data:=.seq ([]:List Value).toArray }=g3 at hns₁ hsb₁ ⊢
 have I3:Inv X pins σ (upd H2 s2.heap.objs.size (.lst [])) { s2 with heap:=g3 }:=by
  rw [<- hh3]
  exact I2.laid (t':=s2.toks) (fun b u e=>Heap.get?_push_of_some _ e) (Nat.le_refl _) ⟨Nat.zero_le _,[],_,.nil,Heap.get?_push_size _ rfl⟩
 have st3:tn 0 g3:=T.keep _ _ _ st2 fun b _ o e=>by rw [<- hh3];exact Heap.get?_push_of_some _ e
 have lt2:∀ b ∈ fp,b<s2.heap.objs.size:=fun b hb=>by obtain ⟨o,e,_⟩:=T.obj _ _ st2 b hb;exact Heap.lt_size e
 have hsz3:g3.objs.size=s2.heap.objs.size+1:=by rw [<- hh3,Heap.size_push]
 have f3:∀ b ∈ fp,y8 X pins (upd H2 s2.heap.objs.size (.lst [])) b:=fun b hb=>⟨by rw [zh (Nat.ne_of_lt (lt2 b hb))];exact (f2 b hb).1,(f2 b hb).2⟩
 have lt3:∀ b ∈ fp,b<g3.objs.size:=fun b hb=>by rw [hsz3];exact Nat.lt_succ_of_lt (lt2 b hb)
 have old:∀ b o,g3.get? b=some o->h₁.get? b=some o:=fun b o e=>hsb₁.extBut b o (Nat.ne_of_lt (Heap.lt_size e)) (Heap.get?_push_of_some _ e)
 have hns:h₁.Ns g3.objs.size (fun x=>([]:List (Str × Value)).reverse.lookup x):=hns₁
 have I4:∀ t,Inv (cxC X scope cl { s2 with heap:=g3 } (upd H2 s2.heap.objs.size (.lst [])) fp) [] (clr ts σ) (upd H2 s2.heap.objs.size (.lst [])) { s2 with heap:=h₁,toks:=t }:=fun t=>Jn I3 S f3 lt3 c1 c2 hns old
 have fpne:∀ b ∈ fp,b ∉ frs X.stack:=fun b hb z=>by
  obtain ⟨_,f1,f2,_⟩:=f3 b hb
  rcases List.mem_cons.mp (I3.stkSub b z) with e | e
  ·exact f1 e
  ·exact f2 e
 have stat:∀ {H':Hp},(∀ b ∈ fp,H' b=none)->∀ b ∈ fp,y8 (cxC X scope cl { s2 with heap:=g3 } (upd H2 s2.heap.objs.size (.lst [])) fp) [] H' b:=fun hn b hb=>
  ⟨hn b hb,Nat.ne_of_lt (lt3 b hb),fpne b hb,.inl hb,fun x c e=>(f2 b hb).2.2.2.2.1 x c (c1 x c e),fun p hp=>absurd hp (by simp)⟩
 have loop:∀ t,codeAny (model X.prog X.w) X.A (.compLoop (.ListComp elt [⟨tg,iter,ifs,0⟩] scope pos) 0 (.ref it) (.ref s2.heap.objs.size) (compEnvC scope cl g3.objs.size X.env))
   (compPost (model X.prog X.w) X.A X.xe use Q' (.ref s2.heap.objs.size) g3.objs.size) { s2 with heap:=h₁,toks:=t }:=by
  intro t
  refine xB (fun n s'=>∃ i τ H',Inv (cxC X scope cl { s2 with heap:=g3 } (upd H2 s2.heap.objs.size (.lst [])) fp) [] τ H' s'/\tn i s'.heap/\(∀ b ∈ fp,H' b=none)/\W i n τ H') ?_ m0
   ⟨0,clr ts σ,_,I4 t,T.keep _ _ _ st3 fun b _ o e=>old b o e,fun b hb=>(f3 b hb).1,w0⟩
  rintro n s5 ⟨i,τ,H5,I5,st5,fr5,w5⟩
  rcases turn i n τ H5 w5 with ⟨stop,qn⟩ | ⟨go,N,hN,step⟩
  ·refine thn (T.done (cxC X scope cl { s2 with heap:=g3 } (upd H2 s2.heap.objs.size (.lst [])) fp) rfl rfl rfl hc i [] s5 τ H5 _ I5 (stat fr5) st5 stop) fun r s6 ⟨hr,I6⟩=>?_
   subst hr
   have base:Un (frs X.stack) fp (upd H2 s2.heap.objs.size (.lst [])) H5 g3 s6.heap:=I6.base
   have J6:Inv X pins σ H5 s6:=I3.call' (ch:=fp) I6.os base I6.hok I6.bare fun b hb=>⟨(f3 b hb).2.2.2.1,(f3 b hb).2.1,(f3 b hb).2.2.2.2.1,(f3 b hb).2.2.2.2.2⟩
   obtain ⟨m6,n6,_⟩:=I6.loc
   have hC:g3.get? g3.objs.size=none:=Heap.get?_none_of_le (Nat.le_refl _)
   refine fin _ g3.objs.size H5 s6 J6 ⟨m6,n6⟩ I6.free (Nat.ne_of_gt I3.lt) (fun x c e z=>?_) I3.sz (fun p hp z=>?_) (I3.nofs (Nat.le_refl _)) qn
   ·obtain ⟨v,q⟩:=I3.cell x c e
    exact absurd q.lt (by rw [z];exact Nat.lt_irrefl _)
   ·exact absurd (Heap.lt_size (I3.pin p hp).1) (by rw [z];exact Nat.lt_irrefl _)
  ·refine thn (T.item (cxC X scope cl { s2 with heap:=g3 } (upd H2 s2.heap.objs.size (.lst [])) fp) rfl rfl rfl hc i [] s5 τ H5 _ I5 (stat fr5) st5 go) fun r s6 ⟨u,hr,h6⟩=>?_
   subst hr
   refine thn h6 fun _ s7 ⟨x,H7,I7,r7,y7,st7,fr7⟩=>?_
   have I7':=I7.pinned (stat fr7) (T.obj _ _ st7)
   refine thn (hg cl { s2 with heap:=g3 } _ fp _ s7 τ H7 x u _ I7' r7 (step x H7 y7)) fun _ s8 ⟨τ8,H8,I8,q8⟩=>?_
   refine thn (ht cl { s2 with heap:=g3 } _ fp _ s8 τ8 H8 _ I8 q8) fun b s9 ⟨H9,I9,q9⟩=>?_
   have again:∀ {τ9:St} {H9:Hp} {s9:Shared},Inv (cxC X scope cl { s2 with heap:=g3 } (upd H2 s2.heap.objs.size (.lst [])) fp) ([] ++ vL fp s7.heap) τ9 H9 s9->N τ9 H9 ->
     ∃ m,m<n/\∃ i τ H',Inv (cxC X scope cl { s2 with heap:=g3 } (upd H2 s2.heap.objs.size (.lst [])) fp) [] τ H' s9/\tn i s9.heap/\(∀ b ∈ fp,H' b=none)/\W i m τ H':=fun {τ9 H9 s9} I9 n9=>by
    obtain ⟨m',hm,w9⟩:=hN _ _ n9
    refine ⟨m',hm,i+1,τ9,H9,I9.unpinned,T.keep _ _ _ st7 fun b hb o e=>(I9.pin (b,o) (List.mem_append_right _ (List.mem_append_right _ (ki hb e)))).1,fun b hb=>?_,w9⟩
    obtain ⟨o,e,d⟩:=T.obj _ _ st7 b hb
    exact (I9.pin (b,o) (List.mem_append_right _ (List.mem_append_right _ (ki hb e)))).2.1
   cases b with
   | false=>
    rw [if_neg Bool.false_ne_true] at q9 ⊢
    exact again I9 q9
   | true=>
    rw [if_pos rfl] at q9 ⊢
    refine thn (he cl { s2 with heap:=g3 } _ fp _ s9 τ8 H9 _ I9 q9) fun y s10 ⟨v,H10,I10,r10,ys,hys,hlen,n10⟩=>?_
    exact thn (Zj (X:=cxC X scope cl { s2 with heap:=g3 } (upd H2 s2.heap.objs.size (.lst [])) fp) _ s10 τ8 H10 (.ref s2.heap.objs.size) [v] (.ref s2.heap.objs.size) [y] (fun _ H11=>N τ8 H11) I10 rfl (.cons r10 .nil) ⟨_,ys,v,rfl,rfl,hys,hlen,n10⟩) fun _ s11 ⟨_,H11,I11,_,n11⟩=>again I11 n11
 have LW:=loop (s2.toks+([]:List (Str × Value)).length)
 exact codeAny_compStart_list LW (T.self _ 0 _ _ _ (T.keep _ _ _ st3 fun b _ o e=>old b o e) LW)
end
section
variable {X:Cx}{ts:List Nat}{scope:Scope}{tg iter elt:Expr}{ifs:List Expr}{wi:TI}{g:TG}{tt:TT}{te:TE}{pos:Pos}
theorem vt (hc:X.calm=true)(hsc:BV X.N ts scope X.env.kindOf=true)(hi:PI X tg iter wi)(hg:∀ cl s H fp,PG (cxC X scope cl s H fp) tg g)(ht:∀ cl s H fp,PIf (cxC X scope cl s H fp) ifs tt)(he:∀ cl s H fp,PE (cxC X scope cl s H fp) elt te)
  (hs:∀ x,foldedSetIterable iter X.env x=pure x:=by intro _;rfl):PE X (.ListComp elt [⟨tg,iter,ifs,0⟩] scope pos) (QY ts wi g tt te):=by
 intro pins s σ H Q I h
 rw [eval_ListComp]
 refine Ql hc hsc hi hg ht he I h (use:=none) (fun D C H' s' I' ⟨m,hn⟩ hC hL hce hsz hp hfs q=>⟨m,hn,fun h' hs'=>?_⟩) hs
 exact ⟨.ref D,H',I'.turned (t':=s'.toks) (it:=C) (fun b o hb e=>(hs'.2 b hb).trans e) hC hL (.inr hsz) hce hp,rfl,q⟩
theorem Xv {j:Nat}{y:Str}{py spos:Pos}(hc:X.calm=true)(hN:X.N.Nodup)(hj:X.N[j]?=some y)(hy:Loc X.env.scope y)(hsc:BV X.N ts scope X.env.kindOf=true)(hi:PI X tg iter wi)(hg:∀ cl s H fp,PG (cxC X scope cl s H fp) tg g)(ht:∀ cl s H fp,PIf (cxC X scope cl s H fp) ifs tt)(he:∀ cl s H fp,PE (cxC X scope cl s H fp) elt te)
  (hsw:swapsWith (.ListComp elt [⟨tg,iter,ifs,0⟩] scope pos) (some (.Name y py)) spos.line X.env=pure true:=by rfl)
  (hs:∀ x,foldedSetIterable iter X.env x=pure x:=by intro _;rfl) (hf:X.fn y=true \/ X.env.scope.names.lookup y=some .local:=by first | exact .inl rfl | exact .inr rfl | assumption) :
  PS X (.Assign [.Name y py] (.ListComp elt [⟨tg,iter,ifs,0⟩] scope pos) spos) (Zv (QY ts wi g tt te) (Qo j)):=by
 intro pins s σ H D I h
 rw [exec_Assign_Name_used _ _ _ _ hsw]
 refine wpAny_bind (wpAny_standAt (wpAny_bind ?_))
 show wpAny _ _ (do let _ <- comprehension (.ListComp elt [⟨tg,iter,ifs,0⟩] scope pos) scope X.env _ (newList []) false (eval iter X.env) (some (assign (.Name y py) X.env))) _ _ s
 refine wpAny_bind (wpAny_mono (Ql hc hsc hi hg ht he I h (use:=some (assign (.Name y py) X.env)) (Q':=fun _ s'=>SP X pins D .next s') (fun D' C H' s' I' ⟨m,hn⟩ hC hL hce hsz hp hfs q=>?_) hs) (fun _ s' hq=>wpAny_pure (wpAny_pure hq)) fun _ _ e=>e)
 show wpAny _ _ (assign (.Name y py) X.env (.ref D')) _ _ _
 refine wpAny_assign_Name (Za (v:=.ref D') I' hN hj hy rfl (fun s2 I2 ⟨a,hsb,ha⟩=>?_) hf)
 have hCa:C ≠ a:=by
  rcases ha with rfl | ha
  ·exact hL
  ·exact Ne.symm (hce y a ha)
 refine ⟨m,hn.sameBut hsb hCa,fun h' hs'=>?_⟩
 exact ⟨_,H',I2.turned (t':=s2.toks) (it:=C) (fun b o hb e=>(hs'.2 b hb).trans e) hC hL (.inr hsz) hce hp,q⟩
end
noncomputable def Ite (K:PySem.W.Frag)(a:Addr):It:=
 ⟨fun i H=>∃ xs x,SqL K H a xs/\xs[i]?=some x,fun i H y H'=>∃ p x,H p=none/\y=.ref p/\(∀ xs,SqL K H a xs->xs[i]?=some x)/\H'=upd H p (.tup [.int i,x]),fun i H=>∃ xs,SqL K H a xs/\xs.length<=i⟩
variable {P:Program} {w:World} {K:PySem.W.Frag} {es:List Expr} {kt:Nat} {tp:Pos}
theorem wV (a e it:Addr)(hei:e ≠ it):QT P w K (.Tuple es kt tp) (Ite K a) [e,it] e (fun i h=>(∃ old,IsEnum h e it (i:Nat) old)/\h.IsListIter it a i) where
 mem:=by simp
 obj:=fun i h st b hb=>by
  obtain ⟨⟨old,he⟩,⟨o,e1,c,d⟩⟩:=st
  rcases List.mem_cons.mp hb with rfl | hb
  ·exact ⟨_,he,fun v z=>by have z':Data.fields _=Data.cell v:=z;cases z'⟩
  ·have e2:b=it:=by simpa using hb
   subst e2
   exact ⟨o,e1,fun v z=>by rw [d] at z;cases z⟩
 keep:=fun i h h' st k=>by
  obtain ⟨⟨old,he⟩,st⟩:=st
  exact ⟨⟨old,k e (by simp) _ he⟩,st.at fun o e=>k it (by simp) o e⟩
 item:=by
  intro X hP hw hK hc i pins s σ H E I hf st hg
  subst hP hw hK
  obtain ⟨⟨old,he⟩,st⟩:=st
  obtain ⟨xs,x,hq,hx⟩:=hg
  obtain ⟨its,rv,p,hz⟩:=I.list hq
  obtain ⟨u,hu,ru⟩:=rv.get hx
  have fe:=hf e (by simp)
  have fi:=hf it (by simp)
  refine wpAny_pyNext_enum_item he st p.isList (x:=u) (by simpa using hu) hei fun h1 heo hit1 ht1 hz1 hk1=>?_
  refine ⟨.ref s.heap.objs.size,rfl,wpAny_letOwnedTupleGo_enum heo fun h2 he2 hs2=>?_⟩
  replace hs2:Heap.SameBut e h1 h2:=hs2
  have elt:e<s.heap.objs.size:=Heap.lt_size he
  have hfr:H s.heap.objs.size=none:=I.hok.fresh (Nat.le_refl _)
  have ht2:h2.get? s.heap.objs.size=some { cls:=.type "tuple",data:=.seq #[.int i s.toks,u] }:=(hs2.2 _ (Nat.ne_of_gt elt)).trans ht1
  have kk:∀ b o,b ∉ [e,it]->s.heap.get? b=some o->h2.get? b=some o:=fun b o hc q=>by
   have n1:b ≠ e:=fun z=>hc (by simp [z])
   have n2:b ≠ it:=fun z=>hc (by simp [z])
   exact (hs2.2 b n1).trans (hk1 b o n1 n2 q)
  have nb:∀ c v,H c=some v->c ∉ [e,it]:=fun c v z hm=>by
   rcases List.mem_cons.mp hm with z' | z'
   ·rw [z',fe.1] at z;cases z
   ·have e2:c=it:=by simpa using z'
    rw [e2,fi.1] at z;cases z
  have I2:Inv X pins σ (upd H s.heap.objs.size (.tup [.int i,x])) { s with heap:=h2,toks:=s.toks+1 }:=by
   refine I.step (g':=s.gens) (d':=s.drawn) (ch:=[e,it]) (fun b hb=>?_) (fun b o _ _ hc q _=>kk b o hc q) (fun b o _ _ hc q _=>⟨o.slots,kk b o hc q⟩) (fun b o _ q n=>by rw [zh (Nat.ne_of_lt (Heap.lt_size q))];exact n) (fun b o hc q=>⟨o,kk b o hc q⟩)
    (fun b xs q=>by rw [zh (zl q hfr)];exact q) (fun b o u q=>by rw [zh (zl q hfr)];exact q) (fun b ps q=>⟨#[],by rw [zh (zl q hfr),q];simp⟩) (fun m hm=>?_) (fun b v q=>?_) I.bare
   ·rcases List.mem_cons.mp hb with z | hb
    ·rw [z];exact ⟨fe.2.2.2.1,fe.2.1,fe.2.2.2.2.1,fe.2.2.2.2.2⟩
    ·have e2:b=it:=by simpa using hb
     rw [e2];exact ⟨fi.2.2.2.1,fi.2.1,fi.2.2.2.2.1,fi.2.2.2.2.2⟩
   ·obtain ⟨o,es,ep,ho,r⟩:=hm
    exact ⟨o,es,ep,kk _ o (by simp [Ne.symm fe.2.1,Ne.symm fi.2.1]) ho,r⟩
   ·by_cases hb:b=s.heap.objs.size
    ·subst hb
     rw [zk] at q
     cases q
     exact ⟨by show 2<=sizeLine;decide,[.int i s.toks,u],.cons ⟨_,rfl⟩ (.cons ru .nil),_,ht2,rfl,⟨_,rfl⟩,rfl⟩
    ·rw [zh hb] at q
     refine (I.hok b v q).stay (fun c o hc q'=>kk c o ?_ q') (fun c z=>by rw [zh (zl z hfr)];exact z) fun c xs z=>by rw [zh (zl z hfr)];exact z
     rcases hc with z | z
     ·rw [z];exact nb b v q
     ·exact nb c _ z
  refine ⟨.ref s.heap.objs.size,_,I2,rfl,⟨s.heap.objs.size,x,hfr,rfl,fun ys hy=>by rw [I.list_inj hy hq];exact hx,rfl⟩,⟨⟨_,by simpa using he2⟩,hit1.extBut hs2.extBut (Ne.symm hei)⟩,fun b hb=>?_⟩
  have hlt:b<s.heap.objs.size:=by
   rcases List.mem_cons.mp hb with rfl | hb
   ·exact elt
   ·have e2:b=it:=by simpa using hb
    subst e2
    obtain ⟨o,e1,_⟩:=st
    exact Heap.lt_size e1
  rw [zh (Nat.ne_of_lt hlt)]
  exact (hf b hb).1
 done:=by
  intro X hP hw hK hc i pins s σ H E I hf st hg
  subst hP hw hK
  obtain ⟨⟨old,he⟩,st⟩:=st
  obtain ⟨xs,hq,hx⟩:=hg
  obtain ⟨its,rv,p,hz⟩:=I.list hq
  obtain ⟨f0,f1,f2,f3,f4,f5⟩:=hf it (by simp)
  have hl:=rv.length
  exact wpAny_pyNext_enum_end (I.ok.hd hc) he st p.isList (by simp;omega) fun h' eb=>⟨rfl,I.turned (t':=s.toks) (fun b o hb e=>eb b o hb e) f0 f1 f3 f4 f5⟩
 self:=fun _ _ _ _ _ st h=>by
  obtain ⟨⟨old,he⟩,_⟩:=st
  exact wpAny_pyIter_enum he h
section
variable {X:Cx}{pins:List (Addr × Obj)}{σ:St}{H:Hp}{s:Shared}
variable {ch:List Addr} {h2:Heap} {tk:Nat}
theorem Inv.yieldTup {T:Addr}{xs:List V}{us:List Value}(I:Inv X pins σ H s)(hf:∀ b ∈ ch,y8 X pins H b)(kk:∀ b o,b ∉ ch->s.heap.get? b=some o->h2.get? b=some o)(hT:s.heap.objs.size<=T)
  (ht2:h2.get? T=some { cls:=.type "tuple",data:=.seq us.toArray }) (rv:zB xs us) (hz:xs.length<=sizeLine):Inv X pins σ (upd H T (.tup xs)) { s with heap:=h2,toks:=tk }:=by
 have hfr:H T=none:=I.hok.fresh hT
 have nb:∀ c v,H c=some v->c ∉ ch:=fun c v z hm=>by rw [(hf c hm).1] at z;cases z
 refine I.step (g':=s.gens) (d':=s.drawn) (ch:=ch) (fun b hb=>⟨(hf b hb).2.2.2.1,(hf b hb).2.1,(hf b hb).2.2.2.2.1,(hf b hb).2.2.2.2.2⟩) (fun b o _ _ hc q _=>kk b o hc q) (fun b o _ _ hc q _=>⟨o.slots,kk b o hc q⟩)
  (fun b o _ q n=>by rw [zh (Nat.ne_of_lt (Nat.lt_of_lt_of_le (Heap.lt_size q) hT))];exact n) (fun b o hc q=>⟨o,kk b o hc q⟩)
  (fun b xs q=>by rw [zh (zl q hfr)];exact q) (fun b o u q=>by rw [zh (zl q hfr)];exact q) (fun b ps q=>⟨#[],by rw [zh (zl q hfr),q];simp⟩) (fun m hm=>?_) (fun b v q=>?_) I.bare
 ·obtain ⟨o,es,ep,ho,r⟩:=hm
  exact ⟨o,es,ep,kk _ o (fun z=>(hf _ z).2.1 rfl) ho,r⟩
 ·by_cases hb:b=T
  ·subst hb
   rw [zk] at q
   cases q
   exact ⟨hz,us,rv,_,ht2,rfl,⟨_,rfl⟩,rfl⟩
  ·rw [zh hb] at q
   refine (I.hok b v q).stay (fun c o hc q'=>kk c o ?_ q') (fun c z=>by rw [zh (zl z hfr)];exact z) fun c xs z=>by rw [zh (zl z hfr)];exact z
   rcases hc with z | z
   ·rw [z];exact nb b v q
   ·exact nb c _ z
theorem Inv.turnedL (I:Inv X pins σ H s)(hf:∀ b ∈ ch,y8 X pins H b)(kk:∀ b o,b ∉ ch->s.heap.get? b=some o->h2.get? b=some o):Inv X pins σ H { s with heap:=h2,toks:=tk }:=by
 have nb:∀ c v,H c=some v->c ∉ ch:=fun c v z hm=>by rw [(hf c hm).1] at z;cases z
 refine I.step (g':=s.gens) (d':=s.drawn) (ch:=ch) (fun b hb=>⟨(hf b hb).2.2.2.1,(hf b hb).2.1,(hf b hb).2.2.2.2.1,(hf b hb).2.2.2.2.2⟩) (fun b o _ _ hc q _=>kk b o hc q) (fun b o _ _ hc q _=>⟨o.slots,kk b o hc q⟩)
  (fun b o _ q n=>n) (fun b o hc q=>⟨o,kk b o hc q⟩) (fun b xs q=>q) (fun b o u q=>q) (fun b ps q=>⟨#[],by rw [q];simp⟩) (fun m hm=>?_) (fun b v q=>?_) I.bare
 ·obtain ⟨o,es,ep,ho,r⟩:=hm
  exact ⟨o,es,ep,kk _ o (fun z=>(hf _ z).2.1 rfl) ho,r⟩
 ·refine (I.hok b v q).stay (fun c o hc q'=>kk c o ?_ q') (fun c z=>z) fun c xs z=>z
  rcases hc with z | z
  ·rw [z];exact nb b v q
  ·exact nb c _ z
end
noncomputable def Itz (K:PySem.W.Frag)(a b:Addr):It:=
 ⟨fun i H=>∃ xs ys x y,SqL K H a xs/\SqL K H b ys/\xs[i]?=some x/\ys[i]?=some y,fun i H z H'=>∃ p x y,H p=none/\z=.ref p/\(∀ xs,SqL K H a xs->xs[i]?=some x)/\(∀ ys,SqL K H b ys->ys[i]?=some y)/\H'=upd H p (.tup [x,y]),
  fun i H=>∃ xs ys,SqL K H a xs/\SqL K H b ys/\(xs.length<=i \/ ys.length<=i)⟩
theorem Al (l1 l2 z TI TO i1 i2:Addr)(D:ZipApart z TI TO i1 i2 l1 l2) :
  QT P w K (.Tuple es kt tp) (Itz K l1 l2) [z,TI,TO,i1,i2] z (fun i h=>IsZip h z TI TO .none/\IsPair h TI (.ref i1) (.ref i2)/\(∃ a b,IsPair h TO a b)/\h.IsListIter i1 l1 i/\h.IsListIter i2 l2 i) where
 mem:=by simp
 obj:=fun i h st b hb=>by
  obtain ⟨hz,hTI,⟨a,c,hTO⟩,⟨o1,e1,c1,d1⟩,⟨o2,e2,c2,d2⟩⟩:=st
  simp only [List.mem_cons,List.not_mem_nil,or_false] at hb
  rcases hb with rfl | rfl | rfl | rfl | rfl
  ·exact ⟨_,hz,fun v q=>by have q':Data.fields _=Data.cell v:=q;cases q'⟩
  ·exact ⟨_,hTI,fun v q=>by have q':Data.seq _ _=Data.cell v:=q;cases q'⟩
  ·exact ⟨_,hTO,fun v q=>by have q':Data.seq _ _=Data.cell v:=q;cases q'⟩
  ·exact ⟨o1,e1,fun v q=>by rw [d1] at q;cases q⟩
  ·exact ⟨o2,e2,fun v q=>by rw [d2] at q;cases q⟩
 keep:=fun i h h' st k=>by
  obtain ⟨hz,hTI,⟨a,c,hTO⟩,h1,h2⟩:=st
  exact ⟨k _ (by simp) _ hz,k _ (by simp) _ hTI,⟨a,c,k _ (by simp) _ hTO⟩,h1.at fun o e=>k _ (by simp) o e,h2.at fun o e=>k _ (by simp) o e⟩
 item:=by
  intro X hP hw hK hc i pins s σ H E I hf st hg
  subst hP hw hK
  obtain ⟨hz,hTI,⟨a,c,hTO⟩,h1,h2⟩:=st
  obtain ⟨xs,ys,x,y,hq1,hq2,hx,hy⟩:=hg
  obtain ⟨its1,rv1,p1,hz1⟩:=I.list hq1
  obtain ⟨its2,rv2,p2,hz2⟩:=I.list hq2
  obtain ⟨u,hu,ru⟩:=rv1.get hx
  obtain ⟨v,hv,rvv⟩:=rv2.get hy
  refine wpAny_pyNext_zip_item D hz hTI hTO h1 h2 p1.isList p2.isList (x:=u) (y:=v) (by simpa using hu) (by simpa using hv) fun g1 b1 b2 b3 b4 b5 b6 hk=>?_
  refine ⟨.ref s.heap.objs.size,rfl,wpAny_letOwnedTupleGo_zip b1 fun g2 hz2' hs2=>?_⟩
  replace hs2:Heap.SameBut z g1 g2:=hs2
  have zlt:z<s.heap.objs.size:=Heap.lt_size hz
  have I2:Inv X pins σ (upd H s.heap.objs.size (.tup [x,y])) { s with heap:=g2,toks:=s.toks }:=by
   refine I.yieldTup (us:=[u,v]) hf (fun b o hb e=>?_) (Nat.le_refl _) ((hs2.2 _ (Nat.ne_of_gt zlt)).trans b5) (.cons ru (.cons rvv .nil)) (by show 2<=sizeLine;decide)
   simp only [List.mem_cons,List.not_mem_nil,or_false,not_or] at hb
   exact (hs2.2 b hb.1).trans (hk b o hb.1 hb.2.2.1 hb.2.2.2.1 hb.2.2.2.2 e)
  refine ⟨.ref s.heap.objs.size,_,I2,rfl,⟨s.heap.objs.size,x,y,I.hok.fresh (Nat.le_refl _),rfl,fun xs' h'=>by rw [I.list_inj h' hq1];exact hx,fun ys' h'=>by rw [I.list_inj h' hq2];exact hy,rfl⟩,
   ⟨hz2',(hs2.2 _ D.TIz).trans (hk _ _ D.TIz D.TITO D.TIi1 D.TIi2 hTI),⟨_,_,(hs2.2 _ D.TOz).trans b2⟩,b3.extBut hs2.extBut D.i1z,b4.extBut hs2.extBut D.i2z⟩,fun b hb=>?_⟩
  have hlt:b<s.heap.objs.size:=by
   simp only [List.mem_cons,List.not_mem_nil,or_false] at hb
   rcases hb with rfl | rfl | rfl | rfl | rfl
   ·exact zlt
   ·exact Heap.lt_size hTI
   ·exact Heap.lt_size hTO
   ·obtain ⟨o,e,_⟩:=h1;exact Heap.lt_size e
   ·obtain ⟨o,e,_⟩:=h2;exact Heap.lt_size e
  rw [zh (Nat.ne_of_lt hlt)]
  exact (hf b hb).1
 done:=by
  intro X hP hw hK hc i pins s σ H E I hf st hg
  subst hP hw hK
  obtain ⟨hz,hTI,⟨a,c,hTO⟩,h1,h2⟩:=st
  obtain ⟨xs,ys,hq1,hq2,hend⟩:=hg
  obtain ⟨its1,rv1,p1,hz1⟩:=I.list hq1
  obtain ⟨its2,rv2,p2,hz2⟩:=I.list hq2
  have l1:=rv1.length
  have l2:=rv2.length
  refine wpAny_pyNext_zip_end (I.ok.hd hc) D hz hTI hTO h1 h2 p1.isList p2.isList (by simp;omega) fun h' hk=>⟨rfl,I.turnedL (tk:=s.toks) hf fun b o hb e=>?_⟩
  simp only [List.mem_cons,List.not_mem_nil,or_false,not_or] at hb
  exact hk b o hb.1 hb.2.2.1 hb.2.2.2.1 hb.2.2.2.2 e
 self:=fun _ _ _ _ _ st h=>wpAny_pyIter_zip st.1 h
theorem vZ:bootBuiltins "enumerate"=some (.type "enumerate"):=by decide +kernel
theorem YH:bootBuiltins "zip"=some (.type "zip"):=by decide +kernel
section
variable {X:Cx}{es:List Expr}{kt:Nat}{tp:Pos}
noncomputable def Gh (K:PySem.W.Frag)(ta:TA):TI:=fun σ H R=>ta σ H fun vs H1=>∃ a,vs=[.ref a]/\(∃ xs,SqL K H1 a xs)/\R (Ite K a) H1
theorem Ds {e:Expr}{ta:TA}{p pos:Pos}(hg:Gl X "enumerate")(hm:X.mg "enumerate"=none)(ha:PA X [e] ta)(hs:starEach [e] X.env=[(false,eval e X.env)]:=by rfl) :
  PI X (.Tuple es kt tp) (.Call (.Name "enumerate" p) [e] [] pos) (Gh X.K ta):=by
 intro pins s σ H R I h
 refine Call_ (jN I hg hm (vZ) (PyProof.Rows.callWith_type1 (thn (ha pos pins s σ H _ I h) fun us s1 ⟨vs,H1,I1,r1,q1⟩=>?_) hs rfl))
 obtain ⟨a,e,⟨xs,hq⟩,q⟩:=q1
 subst e
 obtain ⟨u,rfl,ru⟩:=kU r1
 cases ru
 obtain ⟨its,rv,pl,hz⟩:=I1.list hq
 refine call_enumerate_list pl.isList fun h' he hit hsz hk=>wpAny_pyIter_enum he ?_
 have I2:Inv X pins σ H1 { s1 with heap:=h' }:=I1.kept (t':=s1.toks) hk
 refine ⟨s1.heap.objs.size+1,[s1.heap.objs.size+1,s1.heap.objs.size],_,_,H1,rfl,I2,wV a _ _ (Nat.succ_ne_self _),⟨⟨_,he⟩,hit⟩,fun b hb=>?_,q⟩
 have hb':s1.heap.objs.size<=b:=by
  simp only [List.mem_cons,List.not_mem_nil,or_false] at hb
  rcases hb with rfl | rfl
  ·exact Nat.le_succ _
  ·exact Nat.le_refl _
 exact I1.fpOk hb' (I1.hok.fresh hb')
end
variable {a:Addr} {xs:List V} {g:TG} {tb:TS} {D:kC} {σ:St} {H:Hp}
theorem WZ (Pv:Nat->St->Hp->Prop)(h0:Pv 0 σ H)(hl:∀ i σ H,i<=xs.length->Pv i σ H->SqL K H a xs)
  (hs:∀ i x p σ H,xs[i]?=some x->H p=none->Pv i σ H->g (.ref p) σ (upd H p (.tup [.int i,x])) fun σ2 H2=>tb { D with nx:=Pv (i+1),ct:=Pv (i+1),bk:=D.nx } σ2 H2) (hd:∀ σ H,Pv xs.length σ H->D.nx σ H) :
  ∃ W:Nat->Nat->St->Hp->Prop,(∃ m,W 0 m σ H)/\∀ i m σ H,W i m σ H ->
   ((Ite K a).stop i H/\D.nx σ H) \/ ((Ite K a).go i H/\∃ N:St->Hp->Prop,(∀ σ' H',N σ' H'->∃ m',m'<m/\W (i+1) m' σ' H')/\∀ x H',(Ite K a).yld i H x H'->g x σ H' fun σ2 H2=>tb { D with nx:=N,ct:=N,bk:=D.nx } σ2 H2):=by
 refine ⟨fun i m σ H=>m=xs.length - i/\i<=xs.length/\Pv i σ H,⟨xs.length,by simp,Nat.zero_le _,h0⟩,?_⟩
 rintro i m σ H ⟨rfl,hi,p⟩
 have q:=hl i σ H hi p
 by_cases hlt:i<xs.length
 ·refine .inr ⟨⟨xs,xs[i],q,by simp [hlt]⟩,Pv (i+1),fun σ' H' p'=>⟨xs.length - (i+1),by omega,rfl,hlt,p'⟩,fun x H' y=>?_⟩
  obtain ⟨pp,x',hp,rfl,y,rfl⟩:=y
  exact hs i x' pp σ _ (y xs q) hp p
 ·have e:i=xs.length:=by omega
  subst e
  exact .inl ⟨⟨xs,q,Nat.le_refl _⟩,hd σ H p⟩
noncomputable def QL (p:Addr)(a b c:Int):HO:=.ext fun h=>∃ t u v,h.get? p=some { cls:=.type "range",data:=.fields #[.int a t,.int b u,.int c v] }
variable {p:Addr}
theorem Il {h:Heap} {a b c:Int}{t u v:Tok}(e:h.get? p=some { cls:=.type "range",data:=.fields #[.int a t,.int b u,.int c v] }):zR P w H h p (QL p a b c):=
 ⟨⟨t,u,v,e⟩,⟨_,e⟩,fun h1 h2 ⟨t,u,v,q⟩ k=>⟨t,u,v,k _ q⟩⟩
noncomputable def qp (a c:Int)(n:Nat):List Int:=(List.range n).map fun (i:Nat)=>a+(i:Int) * c
theorem qi (a c:Int)(n:Nat):(qp a c n).length=n:=by simp [qp]
theorem JX {a c:Int}:∀ {n:Nat} {acc:Array Value},ItemsOf (fun (i:Nat) (v:Value)=>∃ t,v=Value.int (a+(i:Int) * c) t) acc n->zB ((qp a c n).map V.int) acc.toList:=by
 intro n acc ⟨hs,hi⟩
 have key:∀ (k:Nat) (l:List Value),l.length=k->(∀ (j:Nat) v,l[j]?=some v->∃ t,v=Value.int (a+(j:Int) * c) t)->zB ((qp a c k).map V.int) l:=by
  intro k
  induction k with
  | zero=>intro l hl _;cases l with
   | nil=>exact .nil
   | cons=>simp at hl
  | succ k ih=>
   intro l hl hv
   obtain ⟨l',x,rfl⟩:∃ l' x,l=l' ++ [x]:=⟨l.dropLast,l.getLast (by intro e;rw [e] at hl;simp at hl),(List.dropLast_concat_getLast _).symm⟩
   have hl':l'.length=k:=by simpa using hl
   have e:(qp a c (k+1)).map V.int=(qp a c k).map V.int ++ [.int (a+(k:Int) * c)]:=by simp [qp,List.range_succ]
   rw [e]
   refine (ih l' hl' fun j v hj=>hv j v ?_).append (.cons ?_ .nil)
   ·rw [List.getElem?_append_left (List.getElem?_eq_some_iff.mp hj).1];exact hj
   ·obtain ⟨t,rfl⟩:=hv k x (by rw [List.getElem?_append_right (by omega),hl'];simp)
    exact ⟨t,rfl⟩
 exact key n acc.toList (by simpa using hs) fun j v hj=>hi j v (by simpa using hj)
section
variable {X:Cx}
theorem kT:ju X (.type "range") (fun xs H Q=>∃ b:Int,xs=[.int b]/\∀ p,H p=none->Q (.ref p) (upd H p (QL p 0 b 1))):=by
 intro pins s σ H xs us Q I r h
 obtain ⟨b,rfl,q⟩:=h
 obtain ⟨u,rfl,t,rfl⟩:=kU r
 refine call_range_1 ⟨.ref s.heap.objs.size,_,I.laid (fun b o e=>Heap.get?_push_of_some _ e) (Nat.le_refl _) ?_,rfl,q _ (I.hok.fresh (Nat.le_refl _))⟩
 exact Il (Heap.get?_push_size _ rfl)
theorem j5 (hc:X.calm=true):ju X (.type "list") (fun xs H Q=>∃ p a b c n,xs=[.ref p]/\H p=some (QL p a b c)/\Builtin.Range.small a b c=true/\Builtin.Range.rangeSize a b c=((n:Nat):Int)/\n<=100000/\∀ l,H l=none->Q (.ref l) (upd H l (.lst ((qp a c n).map V.int)))):=by
 intro pins s σ H xs us Q I r h
 obtain ⟨p,a,b,c,n,rfl,hp,hs,hn,hz,q⟩:=h
 obtain ⟨u,rfl,rx⟩:=kU r
 cases rx
 obtain ⟨⟨t,u,v,e⟩,_⟩:=(show zR X.prog X.w H s.heap p (QL p a b c) from I.hok _ _ hp)
 refine call_list_range (I.ok.hd hc) e hs hn (Nat.le_trans hz (by decide)) fun h' tk acc c' hk he hi=>?_
 refine ⟨.ref s.heap.objs.size,_,I.laid hk (Nat.le_refl _) (show zR X.prog X.w _ h' _ (.lst ((qp a c n).map V.int)) from ⟨?_,acc.toList,c',JX hi,by simpa using he⟩),rfl,q _ (I.hok.fresh (Nat.le_refl _))⟩
 rw [List.length_map,qi]
 exact Nat.le_trans hz (by decide)
theorem EG {i:Int}(h0:0<=i)(h1:i<2 ^ 62):¬(!Builtin.List.listFitsIndex i)=true:=by
 unfold Builtin.List.listFitsIndex
 simp
 omega
noncomputable def vp:V->List V->Hp->VK->Prop:=fun x vs H Q=>∃ l xs i y,x=.ref l/\vs=[.int i,y]/\H l=some (.lst xs)/\0<=i/\i<=xs.length/\xs.length<sizeLine/\Q .non (upd H l (.lst (xs.take i.toNat ++ y :: xs.drop i.toNat)))
theorem zB.insert {us:List Value}{y:V}{u:Value}(r:zB xs us)(ry:zz y u)(k:Nat):zB (xs.take k ++ y :: xs.drop k) (us.take k ++ u :: us.drop k):=(r.take k).append (.cons ry (r.drop k))
theorem Vq:MtM X "list.insert" vp:=by
 intro pins s σ H x vs v us Q I rx rv h
 obtain ⟨l,xs,i,y,rfl,rfl,hH,h0,h1,hz,q⟩:=h
 cases rx
 obtain ⟨u,w,rfl,⟨t,rfl⟩,rw'⟩:=rv.two
 obtain ⟨z,its,n,r,hl,e⟩:=I.lstM hH
 have l63:=yA
 have hb:i<2 ^ 62:=by
  have:sizeLine<2 ^ 62:=by rw [sizeLine_eq];decide
  omega
 refine call_meets F.slot_list_insert ⟨_,e,rfl⟩ F.entry_list_insert (F.args_list_insert_3 _ _ _) (PySem.AutoSeq1.list_insert_list_int_val_1 l its.toArray n i t w (EG h0 hb) (by rw [List.size_toArray];omega)) ⟨e,?_⟩
 refine ⟨.non,_,I.lset (its':=its.take i.toNat ++ w :: its.drop i.toNat) hH e ?_ (r.insert rw' i.toNat) ?_,rfl,q⟩
 ·dsimp only
  rw [if_neg (by omega)]
  have hm:min i.toNat its.toArray.size=i.toNat:=by rw [List.size_toArray];omega
  rw [hm]
  apply Array.ext'
  simp
  first | done | omega | (rw [List.take_of_length_le (by simp)])
 ·rw [List.length_append,List.length_cons,List.length_take,List.length_drop];omega
end
section
variable {X:Cx}
noncomputable def isT (t c:String):Option Bool:=if (Value.type t == Value.type c)=true then some true else if PySem.W.kitMeta c=true then (fastBuiltinMro t).map (·.contains (Value.type c)) else none
theorem Xu (K:PySem.W.Frag)(t c:String):PySem.W.kitOne K (.type t) (.type c)=isT t c:=rfl
noncomputable def yY (t:String):List String->Option Bool
 | []=>some false
 | c :: r=>match isT t c with
  | some true=>some true
  | some false=>yY t r
  | none=>none
theorem QD (K:PySem.W.Frag)(t:String):∀ cs:List String,PySem.W.kitAny K (.type t) (cs.map Value.type)=yY t cs
 | []=>rfl
 | c :: r=>by
  show (match PySem.W.kitOne K (.type t) (.type c) with | some true=>some true | some false=>PySem.W.kitAny K (.type t) (r.map Value.type) | none=>none)=_
  rw [Xu,QD K t r];rfl
theorem zU:ju X (.builtin "isinstance") (fun xs H Q=>∃ x t c b,xs=[x,.ty c]/\xh X.K H x (.type t)/\isT t c=some b/\Q (.bl b) H):=by
 intro pins s σ H xs us Q I r h
 obtain ⟨x,t,c,b,rfl,ty,e,q⟩:=h
 obtain ⟨u,v,rfl,ru,rv⟩:=QV r
 cases rv
 exact Yo I ru ty (by rw [Xu];exact e) fun tk=>⟨.bl b,H,I.tok _,rfl,q⟩
theorem Qn:∀ {cs:List String} {us:List Value},zB (cs.map V.ty) us->us=cs.map Value.type
 | [],_,.nil=>rfl
 | c :: cs,_,.cons r t=>by rw [Qn t];cases r;rfl
theorem Zi:ju X (.builtin "isinstance") (fun xs H Q=>∃ x t p cs b,xs=[x,.ref p]/\H p=some (.tup (List.map V.ty cs))/\xh X.K H x (.type t)/\yY t cs=some b/\Q (.bl b) H):=by
 intro pins s σ H xs us Q I r h
 obtain ⟨x,t,p,cs,b,rfl,hp,ty,e,q⟩:=h
 obtain ⟨u,v,rfl,rx,rv⟩:=QV r
 cases rv
 obtain ⟨_,its,rt,o,ho,hc,⟨n,hd⟩,_⟩:=(show zR X.prog X.w H s.heap p (.tup (List.map V.ty cs)) from I.hok _ _ hp)
 obtain ⟨oc,od,odt,osl⟩:=o
 simp only at hc hd
 subst hc hd
 have e':PySem.W.kitAny X.K (.type t) its=some b:=by rw [Qn rt,QD];exact e
 have fin:∀ tk,EP X pins σ Q (.bool b) { s with toks:=tk }:=fun tk=>⟨.bl b,H,I.tok _,rfl,q⟩
 cases ty with
 | non=>cases (show u=Value.none from rx);exact PySem.W.kia_tup PySem.W.kitx_none I.kIn True.intro ho e' (fun z=>nomatch z) fin
 | bl y=>cases (show u=Value.bool y from rx);exact PySem.W.kia_tup PySem.W.kitx_bool I.kIn True.intro ho e' (fun z=>nomatch z) fin
 | int i=>obtain ⟨t,q⟩:=(show ∃ t,u=Value.int i t from rx);cases q;exact PySem.W.kia_tup PySem.W.kitx_int I.kIn True.intro ho e' (fun z=>nomatch z) fin
 | str y=>obtain ⟨t,q⟩:=(show ∃ t,u=Value.str y t from rx);cases q;exact PySem.W.kia_tup PySem.W.kitx_str I.kIn True.intro ho e' (fun z=>nomatch z) fin
 | flt y=>obtain ⟨t,q⟩:=(show ∃ t,u=Value.float y t from rx);cases q;exact PySem.W.kia_tup PySem.W.kitx_float I.kIn True.intro ho e' (fun z=>nomatch z) fin
 | @lst a xs ea=>
  cases (show u=Value.ref a from rx)
  obtain ⟨_,_,n,_,h1⟩:=(show zR X.prog X.w H s.heap a (.lst xs) from I.hok a _ ea)
  exact PySem.W.kia_tup PySem.W.kitx_list I.kIn ⟨_,h1,rfl⟩ ho e' (fun z=>nomatch z) fin
 | @frz a ob xs ea=>
  cases (show u=Value.ref a from rx)
  obtain ⟨_,_,_,n,_,h1⟩:=(show zR X.prog X.w H s.heap a (.frz ob (.lst xs)) from I.hok a _ ea)
  exact PySem.W.kia_tup PySem.W.kitx_list I.kIn ⟨_,h1,rfl⟩ ho e' (fun z=>nomatch z) fin
 | @tup a xs ea=>
  cases (show u=Value.ref a from rx)
  obtain ⟨_,_,_,p⟩:=(show zR X.prog X.w H s.heap a (.tup xs) from I.hok a _ ea)
  obtain ⟨o,h1,h2,_⟩:=p
  exact PySem.W.kia_tup PySem.W.kitx_tuple I.kIn ⟨o,h1,h2⟩ ho e' (fun z=>nomatch z) fin
 | @dK a kvs ea=>
  cases (show u=Value.ref a from rx)
  obtain ⟨_,_,vs,_,p⟩:=(show zR X.prog X.w H s.heap a (.dK kvs) from I.hok a _ ea)
  obtain ⟨o,es,ep,h1,h2,_⟩:=p
  exact PySem.W.kia_tup PySem.W.kitx_dict I.kIn ⟨o,h1,h2.1⟩ ho e' (fun z=>nomatch z) fin
 | @dT a kvs ea=>
  cases (show u=Value.ref a from rx)
  obtain ⟨_,_,xs,_,o,es,ep,h1,h2,_⟩:=(show zR X.prog X.w H s.heap a (.dT kvs) from I.hok a _ ea)
  exact PySem.W.kia_tup PySem.W.kitx_dict I.kIn ⟨o,h1,h2.1⟩ ho e' (fun z=>nomatch z) fin
end
noncomputable def At (K:PySem.W.Frag)(mg:Str->Option Value)(x:Str)(st:Stmt):Prop:=∃ f fd,Fun K x x st f fd/\mg x=some (.ref f)
noncomputable def Df (P:Program)(w:World)(K:PySem.W.Frag)(mg:Str->Option Value)(base:Heap)(x:Str)(ps:List Str)(k:Nat)(sp:Sp):Prop:=
 ∃ f fd,jq P w K mg base CX0 k f fd ps sp/\jr K fd ps []/\PySem.W.keepIn K (.ref f)=true/\mg x=some (.ref f)/\∃ oc od osl,K.lookup f=some ⟨oc,od,.func fd,osl⟩
variable {mg:Str->Option Value} {base:Heap} {ps:List Str} {j k:Nat} {sp:Sp}
theorem Df.mono {x:Str} (D:Df P w K mg base x ps j sp)(h:j<=k):Df P w K mg base x ps k sp:=
 let ⟨f,fd,F,r⟩:=D
 ⟨f,fd,F.mono h,r⟩
section
variable {X:Cx}{k:Nat}{x:Str}{ps:List Str}{sp:Sp}{p pos:Pos}{e:Expr}{es:List Expr}{t:TA}
theorem zZ (D:Df X.prog X.w X.K X.mg X.base x ps k sp)(hr:qc k X.A)(hg:Gl X x)(ha:PA X (e :: es) t)(hdb:(x == ("__debug__":Str))=false:=by decide)
  (he:starEach (e :: es) X.env=(false,eval e X.env) :: starEach es X.env:=by rfl) (hpl:(backTo pos (starEach es X.env)).any (·.1)=false:=by rfl):PE X (.Call (.Name x p) (e :: es) [] pos) (Zl sp [] E0 t):=by
 obtain ⟨f,fd,F,b,kp,m,_⟩:=D
 exact Fl F hr hg m kp b .nil Xz ha hdb he hpl
end
variable {st:Stmt} {N:List Str}
theorem wj {x:Str} (a:At K mg x st)(S:zt N ps (zd st))
  (hb:∀ (kV doc pm:Value) (an:Option Addr) (cdv ct:Value) (us:List Value),us.length=ps.length->bindArgs (PySem.W.fnOf x x (qj st) (zF st) (zd st) .none kV doc pm an cdv ct) ⟨us,[]⟩=pure (ps.zip us))
  (len:∀ vs H Q E,sp vs H Q E->vs.length=ps.length)
  (hbody:∀ (f:Addr) (cdv:Value) (A:Around) (outer:List Env) (s:Shared) (H:Hp) (vs:List V) (Q:VK) (E:XK),qc k (A.deeper (envOfC x (zd st) s.heap.objs.size f cdv))->sp vs H Q E ->
   ∃ t,PSs (jB CX0 P w K mg base N x (zd st) f cdv A outer s H E).nox (zF st) t/\t { nx:=fun _ H'=>Q .non H',rt:=Q } (qB N vs) H):Df P w K mg base x ps (k+1) sp:=by
 obtain ⟨f,fd,F,m⟩:=a
 obtain ⟨oc,od,kV,doc,pm,an,cdv,ct,osl,_,lk,_⟩:=id F.ex
 exact ⟨f,fd,F.ok S len fun cdv A outer s H vs Q E=>hbody f cdv A outer s H vs Q E,F.binds hb,F.kp,m,oc,od,osl,lk⟩
variable {f:Addr} {oc:Value} {od an:Option Addr} {osl:Array (Option Value)}
theorem at_mk {h:Heap}{x:Str} {kV doc pm cdv ct:Value}(X:K.In h)(G:h.Ns mainGlobals mg)(a:PySem.W.nsIn K mainGlobals x=some (some (.ref f)))
  (l:K.lookup f=some ⟨oc,od,.func (PySem.W.fnOf x x (qj st) (zF st) (zd st) .none kV doc pm an cdv ct),osl⟩) (c:PySem.W.codeIn K cdv x=true) (k:PySem.W.keepIn K (.ref f)=true):At K mg x st:=⟨f,_,fun_mk l c k,PySem.W.mg_of X G a⟩
theorem Df.fn {x:Str} {fd:FuncData} (D:Df P w K mg base x ps k sp)(m:mg x=some (.ref f))(l:K.lookup f=some ⟨oc,od,.func fd,osl⟩):jq P w K mg base CX0 k f fd ps sp:=by
 obtain ⟨f',fd',F,_,_,m',oc',od',osl',l'⟩:=D
 rw [m] at m'
 cases m'
 rw [l] at l'
 cases l'
 exact F
structure Blt (mg:Str->Option Value):Prop where
 len:mg "len"=none
 range:mg "range"=none
 list:mg "list"=none
 tuple:mg "tuple"=none
 int:mg "int"=none
 bool:mg "bool"=none
 str:mg "str"=none
 abs:mg "abs"=none
 divmod:mg "divmod"=none
 enumerate:mg "enumerate"=none
 zip:mg "zip"=none
 sorted:mg "sorted"=none
 max:mg "max"=none
 min:mg "min"=none
 isinstance:mg "isinstance"=none
 all:mg "all"=none
theorem blt_mk {h:Heap}(X:K.In h)(G:h.Ns mainGlobals mg)(z1:PySem.W.nsIn K mainGlobals "len"=some none)(z2:PySem.W.nsIn K mainGlobals "range"=some none)(z3:PySem.W.nsIn K mainGlobals "list"=some none)(z4:PySem.W.nsIn K mainGlobals "tuple"=some none)(z5:PySem.W.nsIn K mainGlobals "int"=some none)(z6:PySem.W.nsIn K mainGlobals "bool"=some none)(z7:PySem.W.nsIn K mainGlobals "str"=some none)(z8:PySem.W.nsIn K mainGlobals "abs"=some none)
  (z9:PySem.W.nsIn K mainGlobals "divmod"=some none) (z10:PySem.W.nsIn K mainGlobals "enumerate"=some none) (z11:PySem.W.nsIn K mainGlobals "zip"=some none) (z12:PySem.W.nsIn K mainGlobals "sorted"=some none) (z13:PySem.W.nsIn K mainGlobals "max"=some none) (z14:PySem.W.nsIn K mainGlobals "min"=some none) (z15:PySem.W.nsIn K mainGlobals "isinstance"=some none) (z16:PySem.W.nsIn K mainGlobals "all"=some none):Blt mg:=
 ⟨PySem.W.mg_none_of X G z1,PySem.W.mg_none_of X G z2,PySem.W.mg_none_of X G z3,PySem.W.mg_none_of X G z4,PySem.W.mg_none_of X G z5,PySem.W.mg_none_of X G z6,PySem.W.mg_none_of X G z7,PySem.W.mg_none_of X G z8,PySem.W.mg_none_of X G z9,PySem.W.mg_none_of X G z10,PySem.W.mg_none_of X G z11,PySem.W.mg_none_of X G z12,PySem.W.mg_none_of X G z13,PySem.W.mg_none_of X G z14,PySem.W.mg_none_of X G z15,PySem.W.mg_none_of X G z16⟩
theorem zq:bootBuiltins "isinstance"=some (.builtin "isinstance"):=by decide +kernel
theorem WJ:bootBuiltins "abs"=some (.builtin "abs"):=by decide +kernel
theorem YC:bootBuiltins "divmod"=some (.builtin "divmod"):=by decide +kernel
theorem BM:bootBuiltins "max"=some (.builtin "max"):=by decide +kernel
theorem qg:bootBuiltins "len"=some (.builtin "len"):=by decide +kernel
theorem jH:bootBuiltins "list"=some (.type "list"):=by decide +kernel
theorem jb:bootBuiltins "tuple"=some (.type "tuple"):=by decide +kernel
theorem yC:bootBuiltins "int"=some (.type "int"):=by decide +kernel
theorem vf:bootBuiltins "bool"=some (.type "bool"):=by decide +kernel
theorem xI:bootBuiltins "str"=some (.type "str"):=by decide +kernel
theorem vD:bootBuiltins "range"=some (.type "range"):=by decide +kernel
noncomputable def Kp (bs:List Addr)(H H':Hp):Prop:=∀ c o,c ∉ bs->H c=some o->H' c=some o
theorem Kp.refl {bs:List Addr}:Kp bs H H:=fun _ _ _ h=>h
variable {H1 H2:Hp}
theorem Kp.trans {bs:List Addr} (a:Kp bs H H1)(b:Kp bs H1 H2):Kp bs H H2:=fun c o n h=>b c o n (a c o n h)
theorem Kp.new {bs:List Addr} (o:HO)(h:H p=none):Kp bs H (upd H p o):=fun c u _ q=>by rw [zh (zl q h)];exact q
theorem Kp.set {bs:List Addr} (o:HO)(h:p ∈ bs):Kp bs H (upd H p o):=fun c u n q=>by have hne:c ≠ p:=(fun e=>n (by rw [e];exact h));rw [zh hne];exact q
theorem Kp.free {H H':Hp}(e:Kp [] H H'){l:Addr}(h:H' l=Option.none):H l=Option.none:=by
 cases q:H l with
 | none=>rfl
 | some o=>rw [e l o (by simp) q] at h;cases h
noncomputable def Bx (H:Hp)(b:Addr)(N:Nat):Prop:=∃ x y z:Int,H b=some (.lst [.int x,.int y,.int z])/\0<=x/\0<=y/\y<2147483648/\0<=z/\z<=N
noncomputable abbrev il (ns:List Int):HO:=.lst (ns.map V.int)
variable {qual:Str} {A:Around} {outer:List Env} {s:Shared} {E:XK}
theorem cxK {CX:CXT} {cd:Value}:
  (jB CX P w K mg base N qual scope f cd A outer s H E).K=K:=rfl
noncomputable def Le (J:It)(g:TG)(tb:TS)(D:kC)(σ:St)(H:Hp):Prop:=∃ W:Nat->Nat->St->Hp->Prop,(∃ m,W 0 m σ H)/\∀ i m σ H,W i m σ H ->
 (J.stop i H/\D.nx σ H) \/ (J.go i H/\∃ N:St->Hp->Prop,(∀ σ' H',N σ' H'->∃ m',m'<m/\W (i+1) m' σ' H')/\∀ x H',J.yld i H x H'->g x σ H' fun σ2 H2=>tb { D with nx:=N,ct:=N,bk:=D.nx } σ2 H2)
variable {wi:TI}
theorem ZJ:DO wi g tb D σ H=wi σ H (fun J H1=>Le J g tb D σ H1):=rfl
noncomputable def IJ (J:It)(g:TG)(tt:TT)(te:TE)(D:Addr)(Q:VK)(τ:St)(H:Hp):Prop:=∃ W:Nat->Nat->St->Hp->Prop,(∃ m,W 0 m τ H)/\∀ i m τ H2,W i m τ H2 ->
 (J.stop i H2/\Q (.ref D) H2) \/ (J.go i H2/\∃ N:St->Hp->Prop,(∀ τ' H',N τ' H'->∃ m',m'<m/\W (i+1) m' τ' H')/\∀ x H',J.yld i H2 x H'->g x τ H' fun τ2 H3=>tt τ2 H3 fun b H4=>
  if b=true then te τ2 H4 fun v H5=>∃ ys,H5 D=some (.lst ys)/\ys.length<sizeLine/\N τ2 (upd H5 D (.lst (ys ++ [v]))) else N τ2 H4)
variable {tt:TT} {te:TE} {Q:VK}
theorem Af:
  QY ts wi g tt te σ H Q=wi σ H (fun J H1=>∀ D,H1 D=none->IJ J g tt te D Q (clr ts σ) (upd H1 D (.lst []))):=rfl
theorem Ei (Pv:Nat->St->Hp->Prop)(h0:Pv 0 σ H)(hl:∀ i σ H,i<=xs.length->Pv i σ H->SqL K H a xs)
  (hs:∀ i x p σ H,xs[i]?=some x->H p=none->Pv i σ H->g (.ref p) σ (upd H p (.tup [.int i,x])) fun σ2 H2=>tb { D with nx:=Pv (i+1),ct:=Pv (i+1),bk:=D.nx } σ2 H2) (hd:∀ σ H,Pv xs.length σ H->D.nx σ H):Le (Ite K a) g tb D σ H:=WZ Pv h0 hl hs hd
noncomputable def Wj (i j k:Nat)(ta:TA):TS:=fun D σ H=>ta σ H fun vs H1=>∃ v w x,vs=[v,w,x]/\D.nx (((σ.set i (some v)).set j (some w)).set k (some x)) H1
variable {pos:Pos} {i:Nat} {ta:TA}
theorem Fk {x y z:Str}{a b c:Expr} {px py pz pt:Pos}{kt k2 pt2}(hc:X.calm=true)(hN:X.N.Nodup)(hi:X.N[i]?=some x)(hj:X.N[j]?=some y)(hk:X.N[k]?=some z)(hij:i ≠ j)(hik:i ≠ k)(hjk:j ≠ k)
  (hx:X.env.scope.names.lookup x=some .local) (hy:X.env.scope.names.lookup y=some .local) (hz:X.env.scope.names.lookup z=some .local) (ha:PA X [a,b,c] ta)
  (hw:swappedStores [.Tuple [.Name x px,.Name y py,.Name z pz] kt pt] (.Tuple [a,b,c] k2 pt2) X.env=pure (some [x,y,z]))
  (hs:swapsWithSole [.Tuple [.Name x px,.Name y py,.Name z pz] kt pt] (.Tuple [a,b,c] k2 pt2) pos.line X.env=pure false:=by rfl) :
  PS X (.Assign [.Tuple [.Name x px,.Name y py,.Name z pz] kt pt] (.Tuple [a,b,c] k2 pt2) pos) (Wj i j k ta):=by
 intro pins s σ H D I h
 rw [exec_Assign_arm]
 refine wpAny_bind (wpAny_standAt ?_)
 rw [hs]
 refine wpAny_bind (wpAny_pure ?_)
 rw [if_neg (by decide)]
 refine wpAny_bind (Tuple_ (thn (ha _ pins s σ H _ I h) fun us s1 ⟨vs,H1,I1,r1,q1⟩=>?_))
 obtain ⟨v,w,v3,e1,q1⟩:=q1
 subst e1
 obtain ⟨u1,u2,u3,rfl,rv,rw',r3⟩:∃ u1 u2 u3,us=[u1,u2,u3]/\zz v u1/\zz w u2/\zz v3 u3:=by
  cases r1 with
  | cons p q=>
   cases q with
   | cons p' q'=>
    cases q' with
    | cons p'' q''=>
     cases q''
     exact ⟨_,_,_,rfl,p,p',p''⟩
 refine wpAny_newObj_type ?_ (by show 3<=sizeLine;decide)
 have I2:Inv X pins σ H1 { s1 with heap:=s1.heap.push { cls:=.type "tuple",data:=.seq [u1,u2,u3].toArray } }:=I1.kept (t':=s1.toks) fun b o e=>Heap.get?_push_of_some _ e
 rw [hw]
 refine wpAny_bind (wpAny_pure ?_)
 show wpAny (model X.prog X.w) X.A (do rule "assign.swapped-stores";let items <- unpackItems (.ref s1.heap.objs.size) 3 none;assignInOrder [fun v=>bindName X.env z v,fun v=>bindName X.env y v,fun v=>bindName X.env x v] items.reverse;pure Flow.next) _ _ _
 refine wpAny_bind (wpAny_rule (wpAny_bind (unpackItems_tuple (items:=#[u1,u2,u3]) (I.ok.hd hc) (IsTup.new s1.heap _) fun h' hx'=>?_)))
 have I3:=I2.kept (h':=h') (t':=s1.toks) fun b o e=>hx' b o (Nat.ne_of_lt (Heap.lt_size e)) e
 show wpAny _ _ (assignInOrder [fun v=>bindName X.env z v,fun v=>bindName X.env y v,fun v=>bindName X.env x v] [u3,u2,u1] >>= fun _=>pure Flow.next) _ _ _
 refine wpAny_bind (assignInOrder_cons (wpAny_bindName (je I3 hN hk (.inl hz) r3 (fun s2 I4=>?_) (.inr hz))))
 refine assignInOrder_cons (wpAny_bindName (je I4 hN hj (.inl hy) rw' (fun s3 I5=>?_) (.inr hy)))
 refine assignInOrder_cons (wpAny_bindName (je I5 hN hi (.inl hx) rv (fun s4 I6=>assignInOrder_nil (wpAny_pure ?_)) (.inr hx)))
 rw [List.set_comm _ _ (Ne.symm hij),List.set_comm _ _ (Ne.symm hik),List.set_comm _ _ (Ne.symm hjk)] at I6
 refine ⟨_,H1,?_,q1⟩
 first | exact I6 | (rw [List.set_comm _ _ hij] at I6;exact I6) | (have e:∀ τ:St,((τ.set k (some v3)).set j (some w)).set i (some v)=((τ.set i (some v)).set j (some w)).set k (some v3):=fun τ=>by rw [List.set_comm _ _ (Ne.symm hij),List.set_comm _ _ (Ne.symm hik),List.set_comm _ _ (Ne.symm hjk)];exact I6)
theorem Pn1_ {α:Type}{p:List α->Prop}(f:∀ a,p [a]):∀ us:List α,us.length=1->p us
 | [_],_=>f _
theorem Pn2_ {α:Type}{p:List α->Prop}(f:∀ a b,p [a,b]):∀ us:List α,us.length=2->p us
 | [_,_],_=>f _ _
theorem Pn3_ {α:Type}{p:List α->Prop}(f:∀ a b c,p [a,b,c]):∀ us:List α,us.length=3->p us
 | [_,_,_],_=>f _ _ _
theorem Pn4_ {α:Type}{p:List α->Prop}(f:∀ a b c d,p [a,b,c,d]):∀ us:List α,us.length=4->p us
 | [_,_,_,_],_=>f _ _ _ _
noncomputable def Jj_:Expr->Option Int
 | .Constant (.int i) _ _=>some i
 | _=>none
noncomputable def Kc:List Expr->Option (List Int)
 | []=>some []
 | e :: r=>match Jj_ e with
  | some i=>(Kc r).map (i :: ·)
  | none=>none
noncomputable def FU (is:List Int):TA:=fun _ H Q=>Q (is.map V.int) H
theorem XJ {X:Cx}:∀ {es:List Expr} {is:List Int},Kc es=some is->PA X es (FU is)
 | [],is,h=>by
  cases (show some []=some is from h)
  exact zb
 | e :: r,is,h=>by
  unfold Kc at h
  split at h
  ·rename_i i hi
   obtain ⟨js,e',rfl⟩:=Option.map_eq_some_iff.mp h
   unfold Jj_ at hi
   split at hi
   ·cases hi;exact za (te:=tC (.int i)) ze (XJ e')
   ·cases hi
  ·cases h
theorem yE:ju X (.type "int") (fun xs H Q=>∃ k,xs=[.bl k]/\Q (.int (if k then 1 else 0)) H):=by
 intro pins s σ H xs us Q I r h
 exact Yu pins s σ H xs us Q I r (.inr h)
variable {b:Addr}
theorem Bx.mono {N M:Nat}(h:Bx H b N)(le:N<=M):Bx H b M:=let ⟨x,y,z,h1,h2,h3,h4,h5,h6⟩:=h;⟨x,y,z,h1,h2,h3,h4,h5,by omega⟩
variable {o:HO}
theorem Bx.new {N:Nat} (h:Bx H b N)(hp:H p=none):Bx (upd H p o) b N:=let ⟨x,y,z,h1,r⟩:=h;⟨x,y,z,(zh (zl h1 hp)).trans h1,r⟩
noncomputable def yR (n:Nat)(ns:List Int):Prop:=ns.length=n/\ns.Nodup/\∀ x ∈ ns,0<=x/\x<(n:Int)
variable {n:Nat} {ns:List Int}
theorem yR.getD (h:yR n ns) (hi:i<n):0<=ns.getD i 0/\ns.getD i 0<n:=by
 obtain ⟨l,d,b⟩:=h
 have hi':i<ns.length:=by omega
 have e:ns.getD i 0=ns[i]:=by rw [List.getD_eq_getElem?_getD,List.getElem?_eq_getElem hi'];rfl
 rw [e]
 exact b _ (List.getElem_mem hi')
theorem XG (h:i<ns.length):ns.getD i 0=ns[i]:=by rw [List.getD_eq_getElem?_getD,List.getElem?_eq_getElem h];rfl
theorem yR.inj (h:yR n ns) (hi:i<n)(hj:j<n)(e:ns.getD i 0=ns.getD j 0):i=j:=by
 obtain ⟨l,d,b⟩:=h
 rw [XG (by omega),XG (by omega)] at e
 exact (List.getElem_inj d).mp e
theorem A3 {v:Int}(h:i<ns.length):(ns.set i v).getD j 0=if j=i then v else ns.getD j 0:=by
 rw [List.getD_eq_getElem?_getD,List.getElem?_set]
 by_cases e:i=j
 ·subst e;simp [h]
 ·rw [if_neg e,if_neg (Ne.symm e),List.getD_eq_getElem?_getD]
noncomputable def JW:V->V->V->Hp->(Hp->Prop)->Prop:=fun o i v H Q=>∃ k,i=.int k/\∃ p,o=.ref p/\∃ xs,H p=some (.lst xs)/\∃ j,ixN xs.length k=some j/\Q (upd H p (.lst (xs.set j v)))
section
variable {X:Cx}
theorem jK:MtR X "list.append" vk:=Zj
theorem YZ:MtR X "list.insert" vp:=Vq
theorem qA {t:TGs} (n:Nat)(h:X.K=K)(hc:X.calm=true)(hs:PGs X es t)(hn:(assignEach es X.env).length=n:=by rfl)(hst:(assignEach es X.env).findIdx? (·.1)=none:=by rfl):PG X (.Tuple es k pos) (Vs K n t):=h ▸ HU hc hs hn hst
theorem zI:DT X JW:=by
 intro pins s σ H o i v ov iv u Q I ro ri rv h
 obtain ⟨k,e1,p,e2,xs,h1,j,h2,q⟩:=h
 exact W2 pins s σ H o i v ov iv u Q I ro ri rv ⟨p,xs,k,j,e2,e1,h1,h2,q⟩
end
noncomputable def Ap (os bs:List Int):Prop:=bs.length=os.length/\∀ i,i<os.length->bs.getD (os.getD i 0).toNat 0=(i:Int)
section
variable {X:Cx}
noncomputable def KN (K:PySem.W.Frag):R2:=fun x y H Q=>∃ p xs i v,x=.ref p/\y=.int i/\(SqL K H p xs \/ SqT K H p xs)/\atI xs i=some v/\Q v H
theorem zE:IxR X (KN X.K):=by
 intro value slice pins s σ H x y v u Q I rx ry h hs
 obtain ⟨p,xs,i,z,e1,e2,hq | hq,he,q⟩:=h
 ·exact qE value slice pins s σ H x y v u Q I rx ry ⟨p,xs,i,z,e1,e2,hq,he,q⟩ hs
 ·exact yv value slice pins s σ H x y v u Q I rx ry ⟨p,xs,i,z,e1,e2,hq,he,q⟩ hs
theorem JU (h:X.K=K):IxR X (KN K):=h ▸ zE
theorem VE:bootBuiltins "all"=some (.builtin "all"):=by decide +kernel
theorem v6:∀ {bs:List Bool} {us:List Value},zB (bs.map V.bl) us->us=bs.map Value.bool
 | [],_,h=>by cases h;rfl
 | b :: bs,_,h=>by
  cases h with
  | cons r rs=>cases r;rw [v6 rs];rfl
theorem Jk (bs:List Bool):((List.range bs.length).all fun i=>(bs[i]?).getD true)=bs.all id:=by
 rw [Bool.eq_iff_iff,List.all_eq_true,List.all_eq_true]
 constructor
 ·intro h x hx
  obtain ⟨i,hi,rfl⟩:=List.getElem_of_mem hx
  have:=h i (by simpa using hi)
  simpa [List.getElem?_eq_getElem hi] using this
 ·intro h i hi
  have hi':i<bs.length:=by simpa using hi
  simpa [List.getElem?_eq_getElem hi'] using h bs[i] (List.getElem_mem hi')
theorem wG (hc:X.calm=true):ju X (.builtin "all") (fun xs H Q=>∃ p bs,xs=[.ref p]/\SqL X.K H p (List.map V.bl bs)/\Q (.bl (bs.all id)) H):=by
  intro pins s σ H xs us Q I r h
  obtain ⟨p,bs,rfl,hq,q⟩:=h
  obtain ⟨u,rfl,rx⟩:=kU r
  cases rx
  obtain ⟨its,rv,pl,hz⟩:=I.list hq
  have hu:=v6 rv
  subst hu
  have hlt:p<s.heap.objs.size:=by obtain ⟨_,e,_⟩:=pl.isList;exact Heap.lt_size e
  refine call_all_walk (wpAny_pyIter_list pl.isList ?_)
  refine ⟨s.heap.objs.size,[s.heap.objs.size,p],[s.heap.objs.size],(bs.map Value.bool).toArray.size,_,_,fun i=>(bs[i]?).getD true,rfl,Walks.list (A:=X.A.in1) (I.ok.hd hc) _ p (Nat.ne_of_lt hlt) (bs.map Value.bool).toArray,
    ⟨⟨_,Heap.get?_push_size _ rfl,rfl,rfl⟩,pl.isList.push _⟩,fun i v s' Q' E' hP hQ=>?_,fun h' tk hk=>?_⟩
  · have hP':(bs.map Value.bool)[i]?=some v:=by simpa using hP
    rw [List.getElem?_map] at hP'
    cases e:bs[i]? with
    | none=>rw [e] at hP';cases hP'
    | some b=>
      rw [e] at hP'
      cases hP'
      simp only [e,Option.getD_some] at hQ
      exact wpAny_truthy_bool hQ
  · have e : ((List.range (bs.map Value.bool).toArray.size).all fun i => (bs[i]?).getD true) = bs.all id := by
      rw [List.size_toArray,List.length_map];exact Jk bs
    rw [e]
    refine ⟨.bl (bs.all id),H,I.turnedL (ch:=[]) (tk:=tk) (fun b hb=>nomatch hb) (fun b o _ eb=>?_),rfl,q⟩
    exact hk b o (fun hm=>by rw [List.mem_singleton.mp hm] at eb;exact Nat.lt_irrefl _ (Heap.lt_size eb)) (Heap.get?_push_of_some _ eb)
end
noncomputable def nxt (os:List Int)(p:Int):Int:=os.getD p.toNat 0
noncomputable def itn (os:List Int):Nat->Int->Int
 | 0,p=>p
 | k+1,p=>nxt os (itn os k p)
noncomputable def GS (os:List Int)(p:Int)(m:Nat)(e:Int):Prop:=1<=m/\e=itn os m p/\e<=p/\∀ j,1<=j->j<m->p<itn os j p
open Classical in
noncomputable def wkM (os:List Int)(p:Int):Nat:=if h:∃ m,∃ e,GS os p m e then Classical.choose h else 0
open Classical in
noncomputable def wkE (os:List Int)(p:Int):Int:=itn os (wkM os p) p
section
variable {P:Program}{w:World}{A:Around}{E:Value->Shared->Prop}{s:Shared}{j t:Addr}{i:Nat}{its:Array Value}{Q:Value->Shared->Prop}
theorem kA {x:Value}(hj:s.heap.IsTupleIter j t i)(ht:s.heap.IsTuple t its)(hx:its[i]?=some x)(hQ:∀ h',h'.IsTupleIter j t (i+1)->Heap.SameBut j s.heap h'->Q x { s with heap:=h' }):wpAny (model P w) A (Builtin.SmallTypes.nextOf (.ref j)) Q E s:=by
 obtain ⟨o,ho,hc,hd⟩:=id hj
 obtain ⟨ot,hot,_,nt,hdt⟩:=ht
 unfold Builtin.SmallTypes.nextOf
 refine wpAny_bind (wpAny_callSpecial?_slot (name:=Str.ofString "__next__") hj.typeIs F.slot_tuple_iterator_next (wpAny_call_entry F.slot_tuple_iterator_next hj.typeIs F.entry_tuple_iterator_next ?_ (F.args_tuple_iterator_next_1 _)))
 refine wpAny_bind (m:=field (.ref j) 0) (wpAny_field ho hd (x:=.ref t) rfl ?_);show wpAny _ _ (if (Value.ref t == Value.none)=true then _ else _) _ _ s;rw [if_neg (show ¬ ((Value.ref t == Value.none)=true) from Bool.false_ne_true)]
 refine wpAny_bind (m:=field (.ref j) 1) (wpAny_field ho hd (x:=.int i 0) rfl ?_);refine wpAny_bind (m:=seqItems? (.ref t)) (wpAny_seqItems hot hdt ?_);simp only [Int.toNat_natCast,hx]
 refine wpAny_bind (wpAny_setField ho hd (by simp) (wpAny_pure ⟨x,rfl,wpAny_pure (hQ _ ⟨_,Heap.get?_update_self _ ho (Obj.isFreed_of_fields (Obj.data_mapFields hd _)),(Obj.cls_mapFields ..).trans hc,by rw [Obj.data_mapFields hd];simp [rawInt]⟩ (Heap.SameBut.update ..))⟩))
theorem xa (hh:A.handled=none)(hj:s.heap.IsTupleIter j t i)(ht:s.heap.IsTuple t its)(hx:its[i]?=none)(hE:∀ h' e,Heap.ExtBut j s.heap h'->(∃ o,h'.get? e=some o/\o.cls=.type "StopIteration")->E (.ref e) { s with heap:=h' }):wpAny (model P w) A (Builtin.SmallTypes.nextOf (.ref j)) Q E s:=by
 obtain ⟨o,ho,hc,hd⟩:=id hj
 obtain ⟨ot,hot,_,nt,hdt⟩:=ht
 unfold Builtin.SmallTypes.nextOf
 refine wpAny_bind (wpAny_callSpecial?_slot (name:=Str.ofString "__next__") hj.typeIs F.slot_tuple_iterator_next (wpAny_call_entry F.slot_tuple_iterator_next hj.typeIs F.entry_tuple_iterator_next ?_ (F.args_tuple_iterator_next_1 _)))
 refine wpAny_bind (m:=field (.ref j) 0) (wpAny_field ho hd (x:=.ref t) rfl ?_);show wpAny _ _ (if (Value.ref t == Value.none)=true then _ else _) _ _ s;rw [if_neg (show ¬ ((Value.ref t == Value.none)=true) from Bool.false_ne_true)]
 refine wpAny_bind (m:=field (.ref j) 1) (wpAny_field ho hd (x:=.int i 0) rfl ?_);refine wpAny_bind (m:=seqItems? (.ref t)) (wpAny_seqItems hot hdt ?_);simp only [Int.toNat_natCast,hx]
 refine wpAny_bind (wpAny_rule (wpAny_bind (wpAny_setField ho hd (by simp) ?_)));refine wpAny_bind (m:=newExc (.type "StopIteration") []) ?_;simp only [newExc,newTuple];refine wpAny_bind (wpAny_newObj_type ?_ (by size_fits));refine wpAny_bind (m:=firstArgMember _ _) (wpAny_of_eq (a:=Value.none) (by first | rfl | (simp only [firstArgMember];rfl)) ?_);refine wpAny_newObj_type ?_ (by size_fits);simp only [raiseNew];refine wpAny_bind (wpAny_handled ?_)
 (first | rw [show A.in1.handled=none from hh] | rw [hh]);refine wpAny_bind (wpAny_pure (wpAny_throw ?_));exact hE _ _ (((Heap.SameBut.update ..).extBut.push _).push _) ⟨_,Heap.get?_push_size _ rfl,rfl⟩
end
theorem Vi (hh:A.handled=none)(j t:Addr)(hne:t ≠ j)(its:Array Value) :
  Draws P w A j [j,t] its.size (fun i v=>its[i]?=some v) (fun i h=>h.IsTupleIter j t i/\h.IsTuple t its) where
 live:=fun _ _ st=>let ⟨o,ho,_⟩:=st.1;⟨o,ho⟩
 frame:=fun _ _ _ st hk=>⟨st.1.at fun o e=>hk j (by simp) o e,let ⟨o,ho,r⟩:=st.2;⟨o,hk t (by simp) o ho,r⟩⟩
 item:=fun i s Q E hi st hQ=>by
  refine kA st.1 st.2 (x:=its[i]) (by simp [hi]) fun h' hit' hs'=>?_
  exact hQ _ h' s.toks (by simp [hi]) ⟨hit',let ⟨o,ho,r⟩:=st.2;⟨o,(hs'.2 t hne).trans ho,r⟩⟩ hs'
 done:=fun s Q E st hE=>xa hh st.1 st.2 (by simp) hE
open AutoSeq1 (wpAny_loadPart') in
theorem YF (l:Addr)(its:Array Value)(n:Nat)(dct:Option Addr)(sl:Array (Option Value)) :
  Meets (Builtin.«enumerate.__new__» ⟨[.type "enumerate",.ref l],[]⟩) (fun _ R s=>s.heap.get? l=some { cls:=.type "tuple",dict:=dct,data:=.seq its n,slots:=sl }/\R (.ok (.ret (.ref (s.heap.push { cls:=.type "tuple_iterator",data:=.fields #[.ref l,.int 0 0] }).objs.size))) { s with heap:=(s.heap.push { cls:=.type "tuple_iterator",data:=.fields #[.ref l,.int 0 0] }).push { cls:=.type "enumerate",data:=.fields #[.none,.bool false,.ref s.heap.objs.size,rawInt 0,.none,.none] } }):=
 .of_wp fun prog w A R s h=>by
  obtain ⟨hp,g,d,tk,os⟩:=s
  obtain ⟨hl,h⟩:=h
  have hsub:=sub_enumerate
  have hT:Heap.IsTuple (Shared.heap ⟨hp,g,d,tk,os⟩) l its:=⟨_,hl,rfl,n,rfl⟩
  wp_walk using wpAny_loadPart' hl
  refine wpAny_stack_any fun st=>wpAny_pure ?_
  split
  ·rename_i c _ _ _ _ _
   cases (c == Value.type "enumerate")
   ·wp_walk using wpAny_loadPart' hl,wpAny_pyIter_tuple hT;exact ⟨_,rfl,h⟩
   ·wp_walk using wpAny_loadPart' hl,wpAny_pyIter_tuple hT;exact ⟨_,rfl,h⟩
  ·wp_walk using wpAny_loadPart' hl,wpAny_pyIter_tuple hT;exact ⟨_,rfl,h⟩
variable {its:Array Value}
theorem Kh {E:Value->Shared->Prop} {l:Addr} {Q:Value->Shared->Prop}(hT:s.heap.IsTuple l its)
  (h:∀ h',IsEnum h' (s.heap.objs.size+1) s.heap.objs.size 0 .none->h'.IsTupleIter s.heap.objs.size l 0->(∀ b o,s.heap.get? b=some o->h'.get? b=some o)->Q (.ref (s.heap.objs.size+1)) { s with heap:=h' }) :
  wpAny (model P w) A (call (.type "enumerate") [.ref l]) Q E s:=by
 obtain ⟨⟨c,dct,dt,sl⟩,hl,hc,n,hd⟩:=hT
 replace hc:c=.type "tuple":=hc
 replace hd:dt=.seq its n:=hd
 subst hc hd
 refine callType_new F.called_enumerate (by decide) (F.typeCall_enumerate_1 _) (F.newCall_enumerate_1 _) (fun obj=>F.args_object_init_2 obj _) F.entry_enumerate_new (YF l its n dct sl) ⟨hl,?_⟩
 have hz:(s.heap.push { cls:=.type "tuple_iterator",data:=.fields #[.ref l,.int 0 0] }).objs.size=s.heap.objs.size+1:=Heap.size_push ..
 show _/\_
 rw [hz]
 have he:IsEnum ((s.heap.push { cls:=.type "tuple_iterator",data:=.fields #[.ref l,.int 0 0] }).push { cls:=.type "enumerate",data:=.fields #[.none,.bool false,.ref s.heap.objs.size,rawInt 0,.none,.none] }) (s.heap.objs.size+1) s.heap.objs.size 0 .none:=by
  have hg:=Heap.get?_push_size (s.heap.push { cls:=.type "tuple_iterator",data:=.fields #[.ref l,.int 0 0] }) (o:={ cls:=.type "enumerate",data:=.fields #[.none,.bool false,.ref s.heap.objs.size,rawInt 0,.none,.none] }) rfl
  rw [hz] at hg;exact hg
 exact ⟨⟨_,he,rfl⟩,h _ he ⟨_,Heap.get?_push_of_some _ (Heap.get?_push_size _ rfl),rfl,rfl⟩ fun b o x=>Heap.get?_push_of_some _ (Heap.get?_push_of_some _ x)⟩
theorem Vl {E:Value->Shared->Prop} {e j t:Addr} {old:Value}{Q:Option Value->Shared->Prop}(hh:A.handled=none)
  (he:IsEnum s.heap e j i old) (hj:s.heap.IsTupleIter j t i) (ht:s.heap.IsTuple t its) (hx:its[i]?=none) (hQ:∀ h',Heap.ExtBut j s.heap h'->Q none { s with heap:=h' }):wpAny (model P w) A (pyNext (.ref e)) Q E s:=by
 have hT:s.TypeIs (.ref e) "enumerate":=⟨_,he,rfl⟩
 unfold pyNext
 refine wpAny_bind (wpAny_attempt (wpAny_callSpecial?_slot (name:=Str.ofString "__next__") hT F.slot_enumerate_next (wpAny_call_entry F.slot_enumerate_next hT F.entry_enumerate_next ?_ (F.args_enumerate_next_1 _))))
 refine wpAny_bind (m:=field (.ref e) 2) (wpAny_field he rfl (x:=.ref j) rfl ?_);refine wpAny_bind (xa hh hj ht hx fun h' x he' hx'=>?_)
 obtain ⟨o,ho,hc⟩:=hx'
 refine wpAny_bind (wpAny_isInstance (T:="StopIteration") (b:=true) ⟨o,ho,hc⟩ isSubtype_stop ?_);exact wpAny_pure (hQ _ he')
noncomputable def GW (K:PySem.W.Frag)(a:Addr):It:=
 ⟨fun i H=>∃ xs x,SqT K H a xs/\xs[i]?=some x,fun i H y H'=>∃ p x,H p=none/\y=.ref p/\(∀ xs,SqT K H a xs->xs[i]?=some x)/\H'=upd H p (.tup [.int i,x]),fun i H=>∃ xs,SqT K H a xs/\xs.length<=i⟩
theorem JH (a e it:Addr)(hei:e ≠ it)(hea:e ≠ a)(hai:a ≠ it):QT P w K (.Tuple es kt tp) (GW K a) [e,it] e (fun i h=>(∃ old,IsEnum h e it (i:Nat) old)/\h.IsTupleIter it a i) where
 mem:=by simp
 obj:=fun i h st b hb=>by
  obtain ⟨⟨old,he⟩,⟨o,e1,c,d⟩⟩:=st
  rcases List.mem_cons.mp hb with rfl | hb
  ·exact ⟨_,he,fun v z=>by have z':Data.fields _=Data.cell v:=z;cases z'⟩
  ·have e2:b=it:=by simpa using hb
   subst e2
   exact ⟨o,e1,fun v z=>by rw [d] at z;cases z⟩
 keep:=fun i h h' st k=>by
  obtain ⟨⟨old,he⟩,st⟩:=st
  exact ⟨⟨old,k e (by simp) _ he⟩,st.at fun o e=>k it (by simp) o e⟩
 item:=by
  intro X hP hw hK hc i pins s σ H E I hf st hg
  subst hP hw hK
  obtain ⟨⟨old,he⟩,st⟩:=st
  obtain ⟨xs,x,hq,hx⟩:=hg
  obtain ⟨its,rv,p,hz⟩:=I.tuple hq
  obtain ⟨u,hu,ru⟩:=rv.get hx
  have hlt:i<its.toArray.size:=by
   have:=(List.getElem?_eq_some_iff.mp hu).1
   simpa using this
  refine wpAny_pyNext_enum_itemD (Vi (A:=X.A.in1) (I.ok.hd hc) it a hai its.toArray) he ⟨st,p⟩ hlt hei (by simp [hei,hea]) fun x' h1 tk hP heo hit1 ht1 hz1 hk1=>?_
  have hxu:x'=u:=by
   have h1':its[i]?=some x':=by simpa using hP
   rw [hu] at h1';cases h1';rfl
  subst hxu
  refine ⟨.ref s.heap.objs.size,rfl,wpAny_letOwnedTupleGo_enum heo fun h2 he2 hs2=>?_⟩
  replace hs2:Heap.SameBut e h1 h2:=hs2
  have elt:e<s.heap.objs.size:=Heap.lt_size he
  have ht2:=(hs2.2 _ (Nat.ne_of_gt elt)).trans ht1
  have I2:Inv X pins σ (upd H s.heap.objs.size (.tup [.int i,x])) { s with heap:=h2,toks:=tk+1 }:=by
   refine I.yieldTup (us:=[.int i tk,x']) hf (fun b o hb q=>?_) (Nat.le_refl _) ht2 (.cons ⟨_,rfl⟩ (.cons ru .nil)) (by show 2<=sizeLine;decide)
   have n1:b ≠ e:=fun z=>hb (by simp [z])
   have n2:b ≠ it:=fun z=>hb (by simp [z])
   exact (hs2.2 b n1).trans (hk1 b o n1 n2 q)
  refine ⟨.ref s.heap.objs.size,_,I2,rfl,⟨s.heap.objs.size,x,I.hok.fresh (Nat.le_refl _),rfl,fun ys hy=>by rw [I.tuple_inj hy hq];exact hx,rfl⟩,⟨⟨_,by simpa using he2⟩,hit1.1.extBut hs2.extBut (Ne.symm hei)⟩,fun b hb=>?_⟩
  have hlt:b<s.heap.objs.size:=by
   rcases List.mem_cons.mp hb with rfl | hb
   ·exact elt
   ·have e2:b=it:=by simpa using hb
    subst e2
    obtain ⟨o,e1,_⟩:=st
    exact Heap.lt_size e1
  rw [zh (Nat.ne_of_lt hlt)]
  exact (hf b hb).1
 done:=by
  intro X hP hw hK hc i pins s σ H E I hf st hg
  subst hP hw hK
  obtain ⟨⟨old,he⟩,st⟩:=st
  obtain ⟨xs,hq,hx⟩:=hg
  obtain ⟨its,rv,p,hz⟩:=I.tuple hq
  obtain ⟨f0,f1,f2,f3,f4,f5⟩:=hf it (by simp)
  have hl:=rv.length
  exact Vl (I.ok.hd hc) he st p (by simp;omega) fun h' eb=>⟨rfl,I.turned (t':=s.toks) (fun b o hb e=>eb b o hb e) f0 f1 f3 f4 f5⟩
 self:=fun _ _ _ _ _ st h=>by
  obtain ⟨⟨old,he⟩,_⟩:=st
  exact wpAny_pyIter_enum he h
section
variable {X:Cx}{es:List Expr}{kt:Nat}{tp:Pos}
noncomputable def ZD (K:PySem.W.Frag)(ta:TA):TI:=fun σ H R=>ta σ H fun vs H1=>∃ a,vs=[.ref a]/\(((∃ xs,SqL K H1 a xs)/\R (Ite K a) H1) \/ ((∃ xs,SqT K H1 a xs)/\R (GW K a) H1))
theorem yo {e:Expr} {p pos:Pos}(hg:Gl X "enumerate")(hm:X.mg "enumerate"=none)(ha:PA X [e] ta)(hs:starEach [e] X.env=[(false,eval e X.env)]:=by rfl) :
  PI X (.Tuple es kt tp) (.Call (.Name "enumerate" p) [e] [] pos) (ZD X.K ta):=by
 intro pins s σ H R I h
 refine Call_ (jN I hg hm (vZ) (PyProof.Rows.callWith_type1 (thn (ha pos pins s σ H _ I h) fun us s1 ⟨vs,H1,I1,r1,q1⟩=>?_) hs rfl))
 obtain ⟨a,e,q⟩:=q1
 subst e
 obtain ⟨u,rfl,ru⟩:=kU r1
 cases ru
 have hb':∀ b ∈ [s1.heap.objs.size+1,s1.heap.objs.size],s1.heap.objs.size<=b:=by
  intro b hb
  simp only [List.mem_cons,List.not_mem_nil,or_false] at hb
  omega
 rcases q with ⟨⟨xs,hq⟩,q⟩ | ⟨⟨xs,hq⟩,q⟩
 ·obtain ⟨its,rv,pl,hz⟩:=I1.list hq
  refine call_enumerate_list pl.isList fun h' he hit hsz hk=>wpAny_pyIter_enum he ?_
  have I2:Inv X pins σ H1 { s1 with heap:=h' }:=I1.kept (t':=s1.toks) hk
  exact ⟨s1.heap.objs.size+1,[s1.heap.objs.size+1,s1.heap.objs.size],_,_,H1,rfl,I2,wV a _ _ (Nat.succ_ne_self _),⟨⟨_,he⟩,hit⟩,fun b hb=>I1.fpOk (hb' b hb) (I1.hok.fresh (hb' b hb)),q⟩
 ·obtain ⟨its,rv,pl,hz⟩:=I1.tuple hq
  have alt:a<s1.heap.objs.size:=by obtain ⟨o,e,_⟩:=pl;exact Heap.lt_size e
  refine Kh pl fun h' he hit hk=>wpAny_pyIter_enum he ?_
  have I2:Inv X pins σ H1 { s1 with heap:=h' }:=I1.kept (t':=s1.toks) hk
  exact ⟨s1.heap.objs.size+1,[s1.heap.objs.size+1,s1.heap.objs.size],_,_,H1,rfl,I2,JH a (s1.heap.objs.size+1) s1.heap.objs.size (Nat.succ_ne_self _) (Nat.ne_of_gt (Nat.lt_succ_of_lt alt)) (Nat.ne_of_lt alt),⟨⟨_,he⟩,hit⟩,fun b hb=>I1.fpOk (hb' b hb) (I1.hok.fresh (hb' b hb)),q⟩
end
noncomputable def MR (r:R2):Prop:=∀ x y H Q Q',(∀ z H1,Q z H1->Q' z H1)->r x y H Q->r x y H Q'
noncomputable def Rch (os:List Int)(q x:Int):Prop:=∃ k,itn os k q=x
noncomputable def Mkd (os:List Int)(mk:Nat):Nat->Int->Prop
 | 0,_=>False
 | i+1,x=>Mkd os mk i x \/ (¬ Mkd os mk i (i:Int)/\wkE os (i:Int)=(i:Int)/\Rch os (i:Int) x/\x<(mk:Int))
open Classical in
noncomputable def cnt (os:List Int)(mk:Nat)(i:Nat):Int:=if Mkd os mk i (i:Int) then 0 else ((wkM os (i:Int):Nat):Int)
noncomputable def iLT (K:PySem.W.Frag)(tl:TE):TI:=fun σ H R=>tl σ H fun x H1=>∃ a,x=.ref a/\(((∃ xs,SqL K H1 a xs)/\R (Itl K a) H1) \/ ((∃ xs,SqT K H1 a xs)/\R (Itt K a) H1))
theorem KW {tg:Expr}{l:Expr}{tl:TE}(hl:PE X l tl):PI X tg l (iLT X.K tl):=by
 intro pins s σ H R I h
 refine thn (hl pins s σ H _ I h) fun v s1 ⟨x,H1,I1,r1,q1⟩=>?_
 obtain ⟨a,e,q⟩:=q1
 subst e
 cases r1
 have fo:∀ b ∈ [s1.heap.objs.size],y8 X pins H1 b:=fun b hb=>by
  have e:b=s1.heap.objs.size:=by simpa using hb
  subst e
  exact I1.fpOk (Nat.le_refl _) (I1.hok.fresh (Nat.le_refl _))
 rcases q with ⟨⟨xs,hq⟩,q⟩ | ⟨⟨xs,hq⟩,q⟩
 ·obtain ⟨its,rv,p,hz⟩:=I1.list hq
  refine wpAny_pyIter_list p.isList ?_
  exact ⟨s1.heap.objs.size,[s1.heap.objs.size],_,_,H1,rfl,I1.kept (t':=s1.toks) fun b o e=>Heap.get?_push_of_some _ e,Ym a _,⟨_,Heap.get?_push_size _ rfl,rfl,rfl⟩,fo,q⟩
 ·obtain ⟨its,rv,p,hz⟩:=I1.tuple hq
  refine wpAny_pyIter_tuple (show s1.heap.IsTuple a its.toArray from p) ?_
  exact ⟨s1.heap.objs.size,[s1.heap.objs.size],_,_,H1,rfl,I1.kept (t':=s1.toks) fun b o e=>Heap.get?_push_of_some _ e,JR a _,⟨_,Heap.get?_push_size _ rfl,rfl,rfl⟩,fo,q⟩
section
variable {X:Cx}
end
section
variable {X:Cx}
end
section
variable {prog:Program}{w:World}{A:Around}{R:Result->Shared->Prop}{s:Shared}
end
noncomputable def CL (J:It)(g:TG)(tt:TT)(tr:St->Hp->(St->Hp->Prop)->Prop)(N:St->Hp->Prop)(σ:St)(H:Hp):Prop:=∃ W:Nat->Nat->St->Hp->Prop,(∃ m,W 0 m σ H)/\∀ i m τ H2,W i m τ H2 ->
 (J.stop i H2/\N τ H2) \/ (J.go i H2/\∃ N1:St->Hp->Prop,(∀ τ' H',N1 τ' H'->∃ m',m'<m/\W (i+1) m' τ' H')/\∀ x H',J.yld i H2 x H'->g x τ H' fun τ2 H3=>tt τ2 H3 fun b H4=>
  if b=true then tr τ2 H4 N1 else N1 τ2 H4)
noncomputable abbrev TR:=St->Hp->(St->Hp->Prop)->Prop
noncomputable def Jm (te:TE)(D:Addr):TR:=fun σ H N=>te σ H fun v H5=>∃ ys,H5 D=some (.lst ys)/\ys.length<sizeLine/\N σ (upd H5 D (.lst (ys ++ [v])))
noncomputable def HH (wi:TI)(g:TG)(tt:TT)(tr:Addr->TR)(D:Addr):TR:=fun σ H N=>wi σ H fun J H1=>CL J g tt (tr D) N σ H1
section
variable {C:Cx}{elt tg iter:Expr}{ifs:List Expr}{gens:List Comprehension}{scope:Scope}{pos:Pos}{d:Nat}{D:Addr}{g:TG}{tt:TT}{te:TE}{tr:TR}
end
noncomputable def AU (ts:List Nat)(wi:TI)(g:TG)(tt:TT)(tr:Addr->TR):TE:=fun σ H Q=>wi σ H fun J H1=>∀ D,H1 D=none->CL J g tt (tr D) (fun _ H2=>Q (.ref D) H2) (clr ts σ) (upd H1 D (.lst []))
section
variable {X:Cx}{ts:List Nat}{scope:Scope}{tg iter elt:Expr}{ifs:List Expr}{qG:List Comprehension}{wi:TI}{g:TG}{tt:TT}{tr:Addr->TR}{pos:Pos}
end
theorem Yv {tr:Addr->TR}:
  AU ts wi g tt tr σ H Q=wi σ H (fun J H1=>∀ D,H1 D=none->CL J g tt (tr D) (fun _ H2=>Q (.ref D) H2) (clr ts σ) (upd H1 D (.lst []))):=rfl
theorem Yg {tr:Addr->TR}{D:Addr} {N:St->Hp->Prop}:HH wi g tt tr D σ H N=wi σ H (fun J H1=>CL J g tt (tr D) N σ H1):=rfl
theorem YL {D:Addr} {N:St->Hp->Prop}:Jm te D σ H N=te σ H (fun v H5=>∃ ys,H5 D=some (.lst ys)/\ys.length<sizeLine/\N σ (upd H5 D (.lst (ys ++ [v])))):=rfl
section
variable {P:Program}{w:World}{A:Around}{E:Value->Shared->Prop}{it l:Addr}{items:Array Value}
end
section
variable {X:Cx}{pos:Pos}
end
noncomputable def rep (o:Nat)(G:List Int):List Int:=(List.range (o * G.length)).map fun (i:Nat)=>((i / G.length * G.length:Nat):Int)+G.getD (i % G.length) 0
section
variable {P:Program}{w:World}{A:Around}{E:Value->Shared->Prop}{s:Shared}{z TI TO i1 i2 l1 l2:Addr}{k:Nat}{xs ys:Array Value}{x y a b:Value}{Q:Option Value->Shared->Prop}
theorem YQ (D:ZipApart z TI TO i1 i2 l1 l2)(hz:IsZip s.heap z TI TO .none)(hTI:IsPair s.heap TI (.ref i1) (.ref i2))(hTO:IsPair s.heap TO a b)(h1:s.heap.IsTupleIter i1 l1 k)(h2:s.heap.IsTupleIter i2 l2 k)(p1:s.heap.IsTuple l1 xs)(p2:s.heap.IsTuple l2 ys)(hx:xs[k]?=some x)(hy:ys[k]?=some y)
  (hQ:∀ h',IsZip h' z TI TO (rawInt s.heap.objs.size)->IsPair h' TO x y->h'.IsTupleIter i1 l1 (k+1)->h'.IsTupleIter i2 l2 (k+1)->IsPair h' s.heap.objs.size x y->h'.objs.size=s.heap.objs.size+1->(∀ c o,c ≠ z->c ≠ TO->c ≠ i1->c ≠ i2->s.heap.get? c=some o->h'.get? c=some o)->Q (some (.ref s.heap.objs.size)) { s with heap:=h' }) :
  wpAny (model P w) A (pyNext (.ref z)) Q E s:=by
 have hT:s.TypeIs (.ref z) "zip":=⟨_,hz,rfl⟩
 unfold pyNext
 refine wpAny_bind (wpAny_attempt (wpAny_callSpecial?_slot (name:=Str.ofString "__next__") hT F.slot_zip_next (wpAny_call_entry F.slot_zip_next hT F.entry_zip_next ?_ (F.args_zip_next_1 _))))
 refine wpAny_bind (m:=field (.ref z) 2) (wpAny_field hz rfl (x:=.bool false) rfl ?_)
 refine wpAny_bind (m:=field (.ref z) 3) (wpAny_field hz rfl (x:=.ref TI) rfl ?_)
 refine wpAny_bind (m:=seqItems? (.ref TI)) (wpAny_seqItems hTI rfl ?_)
 refine wpAny_bind (m:=Builtin.SmallTypes.ownedTupleIsFree (.ref z)) ?_
 unfold Builtin.SmallTypes.ownedTupleIsFree
 refine wpAny_bind (wpAny_field hz rfl (x:=.none) rfl (wpAny_pure ?_))
 refine wpAny_bind (m:=rule "zip.__next__.owned-tuple-again") (wpAny_rule ?_)
 refine wpAny_bind (m:=field (.ref z) 4) (wpAny_field hz rfl (x:=.ref TO) rfl ?_)
 refine wpAny_bind (m:=setField (.ref z) 0 .ellipsis) (wpAny_setField hz rfl (by simp) ?_)
 have sb1:=Heap.SameBut.update s.heap z (Obj.mapFields fun x_1=>x_1.setIfInBounds 0 Value.ellipsis)
 have g1:(s.heap.update z (Obj.mapFields fun x_1=>x_1.setIfInBounds 0 Value.ellipsis)).get? z=some { cls:=Value.type "zip",data:=Data.fields #[.ellipsis,Value.bool false,Value.bool false,Value.ref TI,Value.ref TO] }:=Heap.get?_update_self _ hz (Obj.isFreed_of_fields (Obj.data_mapFields rfl _))
 generalize s.heap.update z (Obj.mapFields fun x_1=>x_1.setIfInBounds 0 Value.ellipsis)=h1' at *
 refine wpAny_bind ?_
 rw [show (#[Value.ref i1,Value.ref i2].toList.zipIdx:List (Value × Nat))=[(.ref i1,0),(.ref i2,1)] from rfl,List.forIn_cons]
 dsimp only
 have it1:h1'.IsTupleIter i1 l1 k:=by obtain ⟨o,ho,r⟩:=h1;exact ⟨o,(sb1.2 i1 D.i1z).trans ho,r⟩
 have tp1:h1'.IsTuple l1 xs:=by obtain ⟨o,ho,r⟩:=p1;exact ⟨o,(sb1.2 l1 D.l1z).trans ho,r⟩
 refine wpAny_bind (wpAny_bind (wpAny_onRaise ?_))
 show wpAny _ _ (Builtin.SmallTypes.nextOf (.ref i1) >>= fun v=>pure (some v)) _ _ _
 refine wpAny_bind (kA it1 tp1 hx fun h2' it2 sb2=>wpAny_pure ?_)
 dsimp only
 have gTO2:IsPair h2' TO a b:=((sb2.2 TO D.TOi1).trans (sb1.2 TO D.TOz)).trans hTO
 refine wpAny_bind (wpAny_seqItems gTO2 rfl ?_)
 dsimp only
 refine wpAny_bind (wpAny_updateSeq_pair gTO2 fun h3' g3 sb3=>?_)
 refine wpAny_bind (wpAny_letGo (wpAny_pure ?_))
 dsimp only
 have g3':IsPair h3' TO x b:=g3
 have it3:h3'.IsTupleIter i2 l2 k:=by obtain ⟨o,ho,r⟩:=h2;exact ⟨o,(((sb3.2 i2 (Ne.symm D.TOi2)).trans (sb2.2 i2 (Ne.symm D.i12))).trans (sb1.2 i2 D.i2z)).trans ho,r⟩
 have tp3:h3'.IsTuple l2 ys:=by obtain ⟨o,ho,r⟩:=p2;exact ⟨o,(((sb3.2 l2 D.l2TO).trans (sb2.2 l2 D.l2i1)).trans (sb1.2 l2 D.l2z)).trans ho,r⟩
 rw [List.forIn_cons]
 refine wpAny_bind (wpAny_bind (wpAny_onRaise ?_))
 show wpAny _ _ (Builtin.SmallTypes.nextOf (.ref i2) >>= fun v=>pure (some v)) _ _ _
 refine wpAny_bind (kA it3 tp3 hy fun h4' it4 sb4=>wpAny_pure ?_)
 dsimp only
 have gTO4:IsPair h4' TO x b:=(sb4.2 TO D.TOi2).trans g3'
 refine wpAny_bind (wpAny_seqItems gTO4 rfl ?_)
 dsimp only
 refine wpAny_bind (wpAny_updateSeq_pair gTO4 fun h5' g5 sb5=>?_)
 refine wpAny_bind (wpAny_letGo (wpAny_pure ?_))
 dsimp only
 have g5':IsPair h5' TO x y:=g5
 rw [List.forIn_nil]
 refine wpAny_pure ?_
 dsimp only
 refine wpAny_bind (wpAny_seqItems g5' rfl ?_)
 dsimp only
 have sz5:h5'.objs.size=s.heap.objs.size:=((((sb5.1).trans sb4.1).trans sb3.1).trans sb2.1).trans sb1.1
 refine wpAny_bind (wpAny_newTuple ?_ (by show 2<=sizeLine;decide))
 have gz5:h5'.get? z=some { cls:=Value.type "zip",data:=Data.fields #[.ellipsis,Value.bool false,Value.bool false,Value.ref TI,Value.ref TO] }:=((((sb5.2 z (Ne.symm D.TOz)).trans (sb4.2 z (Ne.symm D.i2z))).trans (sb3.2 z (Ne.symm D.TOz))).trans (sb2.2 z (Ne.symm D.i1z))).trans g1
 have zlt:z<h5'.objs.size:=Heap.lt_size gz5
 have g6:(h5'.push { cls:=Value.type "tuple",data:=Data.seq #[x,y] }).get? z=_:=Heap.get?_push_of_some _ gz5
 have n6:(h5'.push { cls:=Value.type "tuple",data:=Data.seq #[x,y] }).get? h5'.objs.size=some { cls:=Value.type "tuple",data:=Data.seq #[x,y] }:=Heap.get?_push_size _ rfl
 have ex6:∀ c o,h5'.get? c=some o->(h5'.push { cls:=Value.type "tuple",data:=Data.seq #[x,y] }).get? c=some o:=fun c o e=>Heap.get?_push_of_some _ e
 have sz6:(h5'.push { cls:=Value.type "tuple",data:=Data.seq #[x,y] }).objs.size=h5'.objs.size+1:=Heap.size_push ..
 show wpAny _ _ (Builtin.SmallTypes.ownedTupleHandOut (.ref z) (.ref h5'.objs.size) >>= _) _ _ { s with heap:=h5'.push { cls:=Value.type "tuple",data:=Data.seq #[x,y] } }
 generalize h5'.push { cls:=Value.type "tuple",data:=Data.seq #[x,y] }=h6' at *
 unfold Builtin.SmallTypes.ownedTupleHandOut
 refine wpAny_bind (wpAny_bind (wpAny_setField g6 rfl (by simp) (wpAny_setField (Heap.get?_update_self _ g6 (Obj.isFreed_of_fields (Obj.data_mapFields rfl _))) rfl (by simp) ?_)))
 have sb7:=Heap.SameBut.update h6' z (Obj.mapFields fun x_1=>x_1.setIfInBounds 0 (rawInt h5'.objs.size))
 have g7:(h6'.update z (Obj.mapFields fun x_1=>x_1.setIfInBounds 0 (rawInt h5'.objs.size))).get? z=some { cls:=Value.type "zip",data:=Data.fields #[rawInt h5'.objs.size,Value.bool false,Value.bool false,Value.ref TI,Value.ref TO] }:=Heap.get?_update_self _ g6 (Obj.isFreed_of_fields (Obj.data_mapFields rfl _))
 dsimp only
 generalize h6'.update z (Obj.mapFields fun x_1=>x_1.setIfInBounds 0 (rawInt h5'.objs.size))=h7' at *
 have sb8:=Heap.SameBut.update h7' z (Obj.mapFields fun x_1=>x_1.setIfInBounds 1 (Value.bool false))
 have g8:(h7'.update z (Obj.mapFields fun x_1=>x_1.setIfInBounds 1 (Value.bool false))).get? z=some { cls:=Value.type "zip",data:=Data.fields #[rawInt h5'.objs.size,Value.bool false,Value.bool false,Value.ref TI,Value.ref TO] }:=Heap.get?_update_self _ g7 (Obj.isFreed_of_fields (Obj.data_mapFields rfl _))
 generalize h7'.update z (Obj.mapFields fun x_1=>x_1.setIfInBounds 1 (Value.bool false))=h8' at *
 have far:∀ c o,c ≠ z->h6'.get? c=some o->h8'.get? c=some o:=fun c o hc e=>((sb8.2 c hc).trans (sb7.2 c hc)).trans e
 refine wpAny_pure ⟨_,rfl,wpAny_pure ?_⟩
 rw [sz5] at g8 n6 sz6 zlt ⊢
 refine hQ h8' g8 (far _ _ D.TOz (ex6 _ _ g5')) ?_ ?_ (far _ _ (Nat.ne_of_gt zlt) n6) (by rw [sb8.1,sb7.1,sz6]) fun c o c1 c2 c3 c4 e=>?_
 ·obtain ⟨o,ho,r⟩:=it2
  exact ⟨o,far _ _ D.i1z (ex6 _ _ (((sb5.2 i1 (Ne.symm D.TOi1)).trans (sb4.2 i1 D.i12)).trans ((sb3.2 i1 (Ne.symm D.TOi1)).trans ho))),r⟩
 ·obtain ⟨o,ho,r⟩:=it4
  exact ⟨o,far _ _ D.i2z (ex6 _ _ ((sb5.2 i2 (Ne.symm D.TOi2)).trans ho)),r⟩
 ·exact far _ _ c1 (ex6 _ _ ((sb5.2 c c2).trans ((sb4.2 c c4).trans ((sb3.2 c c2).trans ((sb2.2 c c3).trans ((sb1.2 c c1).trans e))))))
theorem BF (hh:A.handled=none)(D:ZipApart z TI TO i1 i2 l1 l2)(hz:IsZip s.heap z TI TO .none)(hTI:IsPair s.heap TI (.ref i1) (.ref i2))(h1:s.heap.IsTupleIter i1 l1 k)(p1:s.heap.IsTuple l1 xs)(hx:xs[k]?=none)
  (hQ:∀ h',(∀ c o,c ≠ z->c ≠ TO->c ≠ i1->c ≠ i2->s.heap.get? c=some o->h'.get? c=some o)->Q none { s with heap:=h' }):wpAny (model P w) A (pyNext (.ref z)) Q E s:=by
 have hT:s.TypeIs (.ref z) "zip":=⟨_,hz,rfl⟩
 unfold pyNext
 refine wpAny_bind (wpAny_attempt (wpAny_callSpecial?_slot (name:=Str.ofString "__next__") hT F.slot_zip_next (wpAny_call_entry F.slot_zip_next hT F.entry_zip_next ?_ (F.args_zip_next_1 _))))
 refine wpAny_bind (m:=field (.ref z) 2) (wpAny_field hz rfl (x:=.bool false) rfl ?_)
 refine wpAny_bind (m:=field (.ref z) 3) (wpAny_field hz rfl (x:=.ref TI) rfl ?_)
 refine wpAny_bind (m:=seqItems? (.ref TI)) (wpAny_seqItems hTI rfl ?_)
 refine wpAny_bind (m:=Builtin.SmallTypes.ownedTupleIsFree (.ref z)) ?_
 unfold Builtin.SmallTypes.ownedTupleIsFree
 refine wpAny_bind (wpAny_field hz rfl (x:=.none) rfl (wpAny_pure ?_))
 refine wpAny_bind (m:=rule "zip.__next__.owned-tuple-again") (wpAny_rule ?_)
 refine wpAny_bind (m:=field (.ref z) 4) (wpAny_field hz rfl (x:=.ref TO) rfl ?_)
 refine wpAny_bind (m:=setField (.ref z) 0 .ellipsis) (wpAny_setField hz rfl (by simp) ?_)
 have sb1:=Heap.SameBut.update s.heap z (Obj.mapFields fun x_1=>x_1.setIfInBounds 0 Value.ellipsis)
 have g1:(s.heap.update z (Obj.mapFields fun x_1=>x_1.setIfInBounds 0 Value.ellipsis)).get? z=some { cls:=Value.type "zip",data:=Data.fields #[.ellipsis,Value.bool false,Value.bool false,Value.ref TI,Value.ref TO] }:=Heap.get?_update_self _ hz (Obj.isFreed_of_fields (Obj.data_mapFields rfl _))
 generalize s.heap.update z (Obj.mapFields fun x_1=>x_1.setIfInBounds 0 Value.ellipsis)=h1' at *
 refine wpAny_bind ?_
 rw [show (#[Value.ref i1,Value.ref i2].toList.zipIdx:List (Value × Nat))=[(.ref i1,0),(.ref i2,1)] from rfl,List.forIn_cons]
 dsimp only
 have it1:h1'.IsTupleIter i1 l1 k:=by obtain ⟨o,ho,r⟩:=h1;exact ⟨o,(sb1.2 i1 D.i1z).trans ho,r⟩
 have tp1:h1'.IsTuple l1 xs:=by obtain ⟨o,ho,r⟩:=p1;exact ⟨o,(sb1.2 l1 D.l1z).trans ho,r⟩
 refine wpAny_bind (wpAny_bind (wpAny_onRaise ?_))
 show wpAny _ _ (Builtin.SmallTypes.nextOf (.ref i1) >>= fun v=>pure (some v)) _ _ _
 refine wpAny_bind (xa (by first | exact hh | (show A.in1.handled=none;exact hh)) it1 tp1 hx fun h2' e ex2 ⟨oe,hoe,hce⟩=>?_)
 have gz2:h2'.get? z=some { cls:=Value.type "zip",data:=Data.fields #[.ellipsis,Value.bool false,Value.bool false,Value.ref TI,Value.ref TO] }:=ex2 z _ (Ne.symm D.i1z) g1
 have hez:e ≠ z:=by
  intro h
  subst h
  have hoe':h2'.get? e=some oe:=hoe
  rw [gz2] at hoe'
  cases hoe'
  exact absurd (show Value.type "zip"=Value.type "StopIteration" from hce) (by decide)
 refine wpAny_setField gz2 rfl (by simp) ?_
 have sb3:=Heap.SameBut.update h2' z (Obj.mapFields fun x_1=>x_1.setIfInBounds 0 Value.none)
 dsimp only
 generalize h2'.update z (Obj.mapFields fun x_1=>x_1.setIfInBounds 0 Value.none)=h3' at *
 refine wpAny_bind (wpAny_isInstance (T:="StopIteration") (b:=true) ⟨oe,(sb3.2 e hez).trans hoe,hce⟩ isSubtype_stop ?_)
 refine wpAny_pure (hQ h3' fun c o c1 c2 c3 c4 ec=>?_)
 exact (sb3.2 c c1).trans (ex2 c o c3 ((sb1.2 c c1).trans ec))
end
open AutoSeq1 (wpAny_loadPart') in
theorem A4 (l1 l2:Addr)(xs ys:Array Value)(n1 n2:Nat)(d1 d2:Option Addr)(s1 s2:Array (Option Value)) :
  Meets (Builtin.«zip.__new__» ⟨[.type "zip",.ref l1,.ref l2],[]⟩) (fun _ R s=>s.heap.get? l1=some { cls:=.type "tuple",dict:=d1,data:=.seq xs n1,slots:=s1 }/\s.heap.get? l2=some { cls:=.type "tuple",dict:=d2,data:=.seq ys n2,slots:=s2 } /\
   ∀ g1 g2 g3 g4 g5,g1=s.heap.push { cls:=.type "tuple_iterator",data:=.fields #[.ref l1,.int 0 0] }->g2=g1.push { cls:=.type "tuple_iterator",data:=.fields #[.ref l2,.int 0 0] }->g3=g2.push { cls:=.type "tuple",data:=.seq #[.ref s.heap.objs.size,.ref g1.objs.size] }->g4=g3.push { cls:=.type "tuple",data:=.seq #[.none,.none] }->g5=g4.push { cls:=.type "zip",data:=.fields #[.none,.bool false,.bool false,.ref g2.objs.size,.ref g3.objs.size] }->R (.ok (.ret (.ref g4.objs.size))) { s with heap:=g5 }):=
 .of_wp fun prog w A R s h=>by
  obtain ⟨hp,g,d,tk,os⟩:=s
  obtain ⟨hl1,hl2,h⟩:=h
  have hT1:Heap.IsTuple (Shared.heap ⟨hp,g,d,tk,os⟩) l1 xs:=⟨_,hl1,rfl,n1,rfl⟩
  have hT2:Heap.IsTuple (hp.push { cls:=.type "tuple_iterator",data:=.fields #[.ref l1,.int 0 0] }) l2 ys:=⟨_,Heap.get?_push_of_some _ hl2,rfl,n2,rfl⟩
  have hsub:isSubtype (Value.type "zip") (Value.type "zip")=pure true:=by first | exact sub_zip | rfl
  wp_walk using wpAny_loadPart' hl1,wpAny_pyIter_tuple hT1,wpAny_pyIter_tuple hT2
  exact ⟨_,rfl,h _ _ _ _ _ rfl rfl rfl rfl rfl⟩
theorem Yi {E:Value->Shared->Prop} {l1 l2:Addr}{xs ys:Array Value}{Q:Value->Shared->Prop}(hT1:s.heap.IsTuple l1 xs)(hT2:s.heap.IsTuple l2 ys)
  (h:∀ h',IsZip h' (s.heap.objs.size+4) (s.heap.objs.size+2) (s.heap.objs.size+3) .none->IsPair h' (s.heap.objs.size+2) (.ref s.heap.objs.size) (.ref (s.heap.objs.size+1))->IsPair h' (s.heap.objs.size+3) .none .none->h'.IsTupleIter s.heap.objs.size l1 0->h'.IsTupleIter (s.heap.objs.size+1) l2 0->(∀ b o,s.heap.get? b=some o->h'.get? b=some o)->Q (.ref (s.heap.objs.size+4)) { s with heap:=h' }) :
  wpAny (model P w) A (call (.type "zip") [.ref l1,.ref l2]) Q E s:=by
 obtain ⟨⟨c1,d1,dt1,sl1⟩,hl1,hc1,n1,hd1⟩:=hT1
 replace hc1:c1=.type "tuple":=hc1
 replace hd1:dt1=.seq xs n1:=hd1
 subst hc1 hd1
 obtain ⟨⟨c2,d2,dt2,sl2⟩,hl2,hc2,n2,hd2⟩:=hT2
 replace hc2:c2=.type "tuple":=hc2
 replace hd2:dt2=.seq ys n2:=hd2
 subst hc2 hd2
 refine callType_new F.called_zip (by decide) (F.typeCall_zip_2 _ _) (F.newCall_zip_2 _ _) (fun obj=>F.args_object_init_3 obj _ _) F.entry_zip_new (A4 l1 l2 xs ys n1 n2 d1 d2 sl1 sl2) ⟨hl1,hl2,?_⟩
 intro g1 g2 g3 g4 g5 e1 e2 e3 e4 e5
 have z1:g1.objs.size=s.heap.objs.size+1:=by rw [e1,Heap.size_push]
 have z2:g2.objs.size=s.heap.objs.size+2:=by rw [e2,Heap.size_push,z1]
 have z3:g3.objs.size=s.heap.objs.size+3:=by rw [e3,Heap.size_push,z2]
 have z4:g4.objs.size=s.heap.objs.size+4:=by rw [e4,Heap.size_push,z3]
 have k1:∀ b o,s.heap.get? b=some o->g1.get? b=some o:=fun b o x=>by rw [e1];exact Heap.get?_push_of_some _ x
 have k2:∀ b o,g1.get? b=some o->g2.get? b=some o:=fun b o x=>by rw [e2];exact Heap.get?_push_of_some _ x
 have k3:∀ b o,g2.get? b=some o->g3.get? b=some o:=fun b o x=>by rw [e3];exact Heap.get?_push_of_some _ x
 have k4:∀ b o,g3.get? b=some o->g4.get? b=some o:=fun b o x=>by rw [e4];exact Heap.get?_push_of_some _ x
 have k5:∀ b o,g4.get? b=some o->g5.get? b=some o:=fun b o x=>by rw [e5];exact Heap.get?_push_of_some _ x
 have p1:g1.get? s.heap.objs.size=some { cls:=.type "tuple_iterator",data:=.fields #[.ref l1,.int 0 0] }:=by rw [e1];exact Heap.get?_push_size _ rfl
 have p2:g2.get? (s.heap.objs.size+1)=some { cls:=.type "tuple_iterator",data:=.fields #[.ref l2,.int 0 0] }:=by
  have:=Heap.get?_push_size g1 (o:={ cls:=.type "tuple_iterator",data:=.fields #[.ref l2,.int 0 0] }) rfl
  rw [z1] at this;rw [e2];exact this
 have p3:g3.get? (s.heap.objs.size+2)=some { cls:=.type "tuple",data:=.seq #[.ref s.heap.objs.size,.ref (s.heap.objs.size+1)] }:=by
  have:=Heap.get?_push_size g2 (o:={ cls:=.type "tuple",data:=.seq #[.ref s.heap.objs.size,.ref g1.objs.size] }) rfl
  rw [z2] at this;rw [e3,this,z1]
 have p4:g4.get? (s.heap.objs.size+3)=some { cls:=.type "tuple",data:=.seq #[.none,.none] }:=by
  have:=Heap.get?_push_size g3 (o:={ cls:=.type "tuple",data:=.seq #[.none,.none] }) rfl
  rw [z3] at this;rw [e4,this]
 have p5:g5.get? (s.heap.objs.size+4)=some { cls:=.type "zip",data:=.fields #[.none,.bool false,.bool false,.ref (s.heap.objs.size+2),.ref (s.heap.objs.size+3)] }:=by
  have:=Heap.get?_push_size g4 (o:={ cls:=.type "zip",data:=.fields #[.none,.bool false,.bool false,.ref g2.objs.size,.ref g3.objs.size] }) rfl
  rw [z4] at this;rw [e5,this,z2,z3]
 show _/\_
 rw [z4]
 exact ⟨⟨_,p5,rfl⟩,h _ p5 (k5 _ _ (k4 _ _ p3)) (k5 _ _ p4) ⟨_,k5 _ _ (k4 _ _ (k3 _ _ (k2 _ _ p1))),rfl,rfl⟩ ⟨_,k5 _ _ (k4 _ _ (k3 _ _ p2)),rfl,rfl⟩ fun b o x=>k5 _ _ (k4 _ _ (k3 _ _ (k2 _ _ (k1 _ _ x))))⟩
noncomputable def HQ (K:PySem.W.Frag)(a b:Addr):It:=
 ⟨fun i H=>∃ xs ys x y,SqT K H a xs/\SqT K H b ys/\xs[i]?=some x/\ys[i]?=some y,fun i H z H'=>∃ p x y,H p=none/\z=.ref p/\(∀ xs,SqT K H a xs->xs[i]?=some x)/\(∀ ys,SqT K H b ys->ys[i]?=some y)/\H'=upd H p (.tup [x,y]),
  fun i H=>∃ xs,SqT K H a xs/\xs.length<=i⟩
theorem Vt (l1 l2 z TI TO i1 i2:Addr)(D:ZipApart z TI TO i1 i2 l1 l2) :
  QT P w K (.Tuple es kt tp) (HQ K l1 l2) [z,TI,TO,i1,i2] z (fun i h=>IsZip h z TI TO .none/\IsPair h TI (.ref i1) (.ref i2)/\(∃ a b,IsPair h TO a b)/\h.IsTupleIter i1 l1 i/\h.IsTupleIter i2 l2 i) where
 mem:=by simp
 obj:=fun i h st b hb=>by
  obtain ⟨hz,hTI,⟨a,c,hTO⟩,⟨o1,e1,c1,d1⟩,⟨o2,e2,c2,d2⟩⟩:=st
  simp only [List.mem_cons,List.not_mem_nil,or_false] at hb
  rcases hb with rfl | rfl | rfl | rfl | rfl
  ·exact ⟨_,hz,fun v q=>by have q':Data.fields _=Data.cell v:=q;cases q'⟩
  ·exact ⟨_,hTI,fun v q=>by have q':Data.seq _ _=Data.cell v:=q;cases q'⟩
  ·exact ⟨_,hTO,fun v q=>by have q':Data.seq _ _=Data.cell v:=q;cases q'⟩
  ·exact ⟨o1,e1,fun v q=>by rw [d1] at q;cases q⟩
  ·exact ⟨o2,e2,fun v q=>by rw [d2] at q;cases q⟩
 keep:=fun i h h' st k=>by
  obtain ⟨hz,hTI,⟨a,c,hTO⟩,h1,h2⟩:=st
  exact ⟨k _ (by simp) _ hz,k _ (by simp) _ hTI,⟨a,c,k _ (by simp) _ hTO⟩,h1.at fun o e=>k _ (by simp) o e,h2.at fun o e=>k _ (by simp) o e⟩
 item:=by
  intro X hP hw hK hc i pins s σ H E I hf st hg
  subst hP hw hK
  obtain ⟨hz,hTI,⟨a,c,hTO⟩,h1,h2⟩:=st
  obtain ⟨xs,ys,x,y,hq1,hq2,hx,hy⟩:=hg
  obtain ⟨its1,rv1,p1,hz1⟩:=I.tuple hq1
  obtain ⟨its2,rv2,p2,hz2⟩:=I.tuple hq2
  obtain ⟨u,hu,ru⟩:=rv1.get hx
  obtain ⟨v,hv,rvv⟩:=rv2.get hy
  refine YQ D hz hTI hTO h1 h2 p1 p2 (x:=u) (y:=v) (by simpa using hu) (by simpa using hv) fun g1 b1 b2 b3 b4 b5 b6 hk=>?_
  refine ⟨.ref s.heap.objs.size,rfl,wpAny_letOwnedTupleGo_zip b1 fun g2 hz2' hs2=>?_⟩
  replace hs2:Heap.SameBut z g1 g2:=hs2
  have zlt:z<s.heap.objs.size:=Heap.lt_size hz
  have I2:Inv X pins σ (upd H s.heap.objs.size (.tup [x,y])) { s with heap:=g2,toks:=s.toks }:=by
   refine I.yieldTup (us:=[u,v]) hf (fun b o hb e=>?_) (Nat.le_refl _) ((hs2.2 _ (Nat.ne_of_gt zlt)).trans b5) (.cons ru (.cons rvv .nil)) (by show 2<=sizeLine;decide)
   simp only [List.mem_cons,List.not_mem_nil,or_false,not_or] at hb
   exact (hs2.2 b hb.1).trans (hk b o hb.1 hb.2.2.1 hb.2.2.2.1 hb.2.2.2.2 e)
  refine ⟨.ref s.heap.objs.size,_,I2,rfl,⟨s.heap.objs.size,x,y,I.hok.fresh (Nat.le_refl _),rfl,fun xs' h'=>by rw [I.tuple_inj h' hq1];exact hx,fun ys' h'=>by rw [I.tuple_inj h' hq2];exact hy,rfl⟩,
   ⟨hz2',(hs2.2 _ D.TIz).trans (hk _ _ D.TIz D.TITO D.TIi1 D.TIi2 hTI),⟨_,_,(hs2.2 _ D.TOz).trans b2⟩,b3.extBut hs2.extBut D.i1z,b4.extBut hs2.extBut D.i2z⟩,fun b hb=>?_⟩
  have hlt:b<s.heap.objs.size:=by
   simp only [List.mem_cons,List.not_mem_nil,or_false] at hb
   rcases hb with rfl | rfl | rfl | rfl | rfl
   ·exact zlt
   ·exact Heap.lt_size hTI
   ·exact Heap.lt_size hTO
   ·obtain ⟨o,e,_⟩:=h1;exact Heap.lt_size e
   ·obtain ⟨o,e,_⟩:=h2;exact Heap.lt_size e
  rw [zh (Nat.ne_of_lt hlt)]
  exact (hf b hb).1
 done:=by
  intro X hP hw hK hc i pins s σ H E I hf st hg
  subst hP hw hK
  obtain ⟨hz,hTI,⟨a,c,hTO⟩,h1,h2⟩:=st
  obtain ⟨xs,hq1,hend⟩:=hg
  obtain ⟨its1,rv1,p1,hz1⟩:=I.tuple hq1
  have l1:=rv1.length
  refine BF (I.ok.hd hc) D hz hTI h1 p1 (by simp;omega) fun h' hk=>⟨rfl,I.turnedL (tk:=s.toks) hf fun b o hb e=>?_⟩
  simp only [List.mem_cons,List.not_mem_nil,or_false,not_or] at hb
  exact hk b o hb.1 hb.2.2.1 hb.2.2.2.1 hb.2.2.2.2 e
 self:=fun _ _ _ _ _ st h=>wpAny_pyIter_zip st.1 h
section
variable {X:Cx}{es:List Expr}{kt:Nat}{tp:Pos}
noncomputable def Jt (K:PySem.W.Frag)(ta:TA):TI:=fun σ H R=>ta σ H fun vs H1=>∃ a b,vs=[.ref a,.ref b]/\(((∃ xs,SqL K H1 a xs)/\(∃ ys,SqL K H1 b ys)/\R (Itz K a b) H1) \/ ((∃ xs,SqT K H1 a xs)/\(∃ ys,SqT K H1 b ys)/\R (HQ K a b) H1))
theorem WR {e1 e2:Expr} {p pos:Pos}(hg:Gl X "zip")(hm:X.mg "zip"=none)(ha:PA X [e1,e2] ta)(hs:starEach [e1,e2] X.env=[(false,eval e1 X.env),(false,eval e2 X.env)]:=by rfl)(hs2:starEach [e2] X.env=[(false,eval e2 X.env)]:=by rfl) :
  PI X (.Tuple es kt tp) (.Call (.Name "zip" p) [e1,e2] [] pos) (Jt X.K ta):=by
 intro pins s σ H R I h
 refine Call_ (jN I hg hm YH (PyProof.Rows.callWith_type1 (thn (ha pos pins s σ H _ I h) fun us s1 ⟨vs,H1,I1,r1,q1⟩=>?_) (by rw [hs,hs2]) (by rw [hs2];rfl)))
 obtain ⟨a,b,e,q1⟩:=q1
 subst e
 obtain ⟨u,v,rfl,ru,rv⟩:=QV r1
 cases ru
 cases rv
 rcases q1 with ⟨⟨xs,hq1⟩,⟨ys,hq2⟩,q⟩ | ⟨⟨xs,hq1⟩,⟨ys,hq2⟩,q⟩
 ·obtain ⟨its1,rv1,p1,hz1⟩:=I1.list hq1
  obtain ⟨its2,rv2,p2,hz2⟩:=I1.list hq2
  have la:a<s1.heap.objs.size:=by obtain ⟨o,e,_⟩:=p1.isList;exact Heap.lt_size e
  have lb:b<s1.heap.objs.size:=by obtain ⟨o,e,_⟩:=p2.isList;exact Heap.lt_size e
  refine call_zip_2 p1.isList p2.isList fun h' b1 b2 b3 b4 b5 hsz hk=>wpAny_pyIter_zip b1 ?_
  have I2:Inv X pins σ H1 { s1 with heap:=h' }:=I1.kept (t':=s1.toks) hk
  refine ⟨s1.heap.objs.size+4,[s1.heap.objs.size+4,s1.heap.objs.size+2,s1.heap.objs.size+3,s1.heap.objs.size,s1.heap.objs.size+1],_,_,H1,rfl,I2,Al a b _ _ _ _ _ (zipApart_new la lb),⟨b1,b2,⟨_,_,b3⟩,b4,b5⟩,fun c hb=>?_,q⟩
  have hb':s1.heap.objs.size<=c:=by
   simp only [List.mem_cons,List.not_mem_nil,or_false] at hb
   rcases hb with rfl | rfl | rfl | rfl | rfl <;> first | exact Nat.le_refl _ | exact Nat.le_add_right _ _
  exact I1.fpOk hb' (I1.hok.fresh hb')
 ·obtain ⟨its1,rv1,p1,hz1⟩:=I1.tuple hq1
  obtain ⟨its2,rv2,p2,hz2⟩:=I1.tuple hq2
  have la:a<s1.heap.objs.size:=by obtain ⟨o,e,_⟩:=p1;exact Heap.lt_size e
  have lb:b<s1.heap.objs.size:=by obtain ⟨o,e,_⟩:=p2;exact Heap.lt_size e
  refine Yi p1 p2 fun h' b1 b2 b3 b4 b5 hk=>wpAny_pyIter_zip b1 ?_
  have I2:Inv X pins σ H1 { s1 with heap:=h' }:=I1.kept (t':=s1.toks) hk
  refine ⟨s1.heap.objs.size+4,[s1.heap.objs.size+4,s1.heap.objs.size+2,s1.heap.objs.size+3,s1.heap.objs.size,s1.heap.objs.size+1],_,_,H1,rfl,I2,Vt a b _ _ _ _ _ (zipApart_new la lb),⟨b1,b2,⟨_,_,b3⟩,b4,b5⟩,fun c hb=>?_,q⟩
  have hb':s1.heap.objs.size<=c:=by
   simp only [List.mem_cons,List.not_mem_nil,or_false] at hb
   rcases hb with rfl | rfl | rfl | rfl | rfl <;> first | exact Nat.le_refl _ | exact Nat.le_add_right _ _
  exact I1.fpOk hb' (I1.hok.fresh hb')
end
section
variable {X:Cx}{e st:Expr}{te:TE}{lo hi:Option Expr}{tl th ts:TO}{p2 pos:Pos}
end
noncomputable def JE:V->List V->Hp->VK->Prop:=fun x vs H Q=>∃ l ns i j,x=.ref l/\vs=[.int i]/\H l=some (il ns)/\j<ns.length/\ns.getD j 0=i/\(∀ m,m<j->ns.getD m 0 ≠ i)/\Q (.int (j:Nat)) H
section
variable {X:Cx}
theorem B4:MtR X "list.index" JE:=by
 intro pins s σ H x vs v us Q I rx rv h
 obtain ⟨l,ns,i,j,rfl,rfl,hH,hj,hji,hm,q⟩:=h
 cases rx
 obtain ⟨u,rfl,⟨t,rfl⟩⟩:=rv.one
 obtain ⟨z,its,n,r,hl,e⟩:=I.lstM hH
 have hlen:=r.length
 rw [List.length_map] at hlen
 have hsz:sizeLine<2 ^ 62:=by rw [sizeLine_eq];decide
 have item:∀ m (hmm:m<its.length),∃ tm,its[m]=Value.int (ns.getD m 0) tm:=fun m hmm=>by
  have e1:(ns.map V.int)[m]?=some (.int (ns.getD m 0)):=by
   rw [List.getElem?_map,List.getD_eq_getElem?_getD,List.getElem?_eq_getElem (by omega)];rfl
  obtain ⟨u,hu,⟨tm,ru⟩⟩:=r.get e1
  have:=(List.getElem?_eq_some_iff.mp hu).2
  exact ⟨tm,by rw [this];exact ru⟩
 have fl:(ns.map V.int).all kg=true:=by
  rw [List.all_eq_true]
  intro x hx
  obtain ⟨k,_,rfl⟩:=List.mem_map.mp hx
  rfl
 refine call_meets F.slot_list_index ⟨_,e,rfl⟩ F.entry_list_index (F.args_list_index_2 _ _) (SeqAt.list_indexAt l its.toArray n none _ (.int i t) (eqU (.int i)) j (by rw [List.size_toArray];omega) (by omega) ?_ ?_) ⟨e,?_,?_⟩
 ·obtain ⟨tm,em⟩:=item j (by omega)
  rw [List.getElem_toArray,em,hji]
  show (i == i)=true
  simp
 ·intro m hmm hmj
  obtain ⟨tm,em⟩:=item m (by rw [List.size_toArray] at hmm;exact hmm)
  rw [List.getElem_toArray,em]
  show (ns.getD m 0 == i)=false
  simpa using hm m hmj
 ·intro y hy
  exact jP (x:=.int i) ⟨t,rfl⟩ rfl r fl y (by simpa using hy)
 ·exact ⟨.int (j:Nat),H,I.kept (t':=s.toks+1) fun b o e=>e,⟨_,rfl⟩,q⟩
variable {o e:Expr}{es:List Expr}{to:TE}{t:TA}{name:Str}{apos cpos:Pos}{T id:String}{r:V->List V->Hp->VK->Prop}{K:PySem.W.Frag}
theorem HF (hK:X.K=K)(pa:PlainAttrs T)(slot:Slot T name id)(hty:typeOf (.builtin id)=pure (.type "method_descriptor"))(hm:MtR X id r)(ho:PE X o to)(ha:PA X (e :: es) t)
  (h1:attributeBase o name X.env (eval o X.env)=eval o X.env:=by rfl)
  (h2:((backTo cpos (starEach (e :: es) X.env)).all (fun x=>!x.1) && (backToKw cpos (keywordEach [] X.env)).all (fun x=>x.1.isSome) && decide ((e :: es).length+([]:List Keyword).length+(if ([]:List Keyword).isEmpty then 0 else 1)<30))=true:=by rfl)
  (h3:(apos.endLine == cpos.line)=true:=by rfl) (h4:starEach (e :: es) X.env=(false,eval e X.env) :: starEach es X.env:=by rfl) (h5:(backTo cpos (starEach es X.env)).any (·.1)=false:=by rfl) :
  PE X (.Call (.Attribute o name apos) (e :: es) [] cpos) (tBM K T r to t):=by
 subst hK
 exact ym pa slot hty hm ho ha h1 h2 h3 h4 h5
end
section
variable {X:Cx}{tg:Expr}
end
inductive Dd where
 | take (p:Nat) | move (p g:Nat) | lay (g:Nat)
noncomputable abbrev RS:=List (Option Int) × Option Int × List Int
noncomputable def inc (mv:List Int)(x:Int):List Int:=mv.set x.toNat (mv.getD x.toNat 0+1)
inductive Do:Dd->RS->RS->Prop
 | take {p:Nat} {row:List (Option Int)} {mv:List Int} {x:Int}:row[p]?=some (some x)->Do (.take p) (row,none,mv) (row.set p none,some x,inc mv x)
 | move {p g:Nat} {row:List (Option Int)} {h:Option Int} {mv:List Int} {x:Int}:row[p]?=some (some x)->row[g]?=some none->Do (.move p g) (row,h,mv) ((row.set p none).set g (some x),h,inc mv x)
 | lay {g:Nat} {row:List (Option Int)} {mv:List Int} {x:Int}:row[g]?=some none->Do (.lay g) (row,some x,mv) (row.set g (some x),none,inc mv x)
inductive Dos:List Dd->RS->RS->Prop
 | nil {s:RS}:Dos [] s s
 | cons {d:Dd} {l:List Dd} {s t u:RS}:Do d s t->Dos l t u->Dos (d :: l) s u
section
variable {X:Cx}{K:PySem.W.Frag}
end
section
variable {X:Cx}
end
section
variable {X:Cx}
end
section
variable {X:Cx}{e st:Expr}{te:TE}{ts:TO}{p2 pos:Pos}
end
section
variable {X:Cx}
end
noncomputable def AtM (K:PySem.W.Frag)(C:Addr)(m qual:Str)(st:Stmt):Prop:=∃ f fd,Fun K m qual st f fd/\JB K C m f
noncomputable def Dm (P:Program)(w:World)(K:PySem.W.Frag)(mg:Str->Option Value)(base:Heap)(C:Addr)(m:Str)(ps:List Str)(k:Nat)(sp:Sp):Prop:=
 ∃ f fd,jq P w K mg base CX0 k f fd ps sp/\jr K fd ps []/\JB K C m f
variable {C:Addr} {m:Str}
theorem Dm.mono (D:Dm P w K mg base C m ps j sp)(h:j<=k):Dm P w K mg base C m ps k sp:=
 let ⟨f,fd,F,r⟩:=D
 ⟨f,fd,F.mono h,r⟩
theorem Hq (a:AtM K C m qual st)(S:zt N ps (zd st))
  (hb:∀ (kV doc pm:Value) (an:Option Addr) (cdv ct:Value) (us:List Value),us.length=ps.length->bindArgs (PySem.W.fnOf m qual (qj st) (zF st) (zd st) .none kV doc pm an cdv ct) ⟨us,[]⟩=pure (ps.zip us))
  (len:∀ vs H Q E,sp vs H Q E->vs.length=ps.length)
  (hbody:∀ (f:Addr) (cdv:Value) (A:Around) (outer:List Env) (s:Shared) (H:Hp) (vs:List V) (Q:VK) (E:XK),qc k (A.deeper (envOfC qual (zd st) s.heap.objs.size f cdv))->sp vs H Q E ->
   ∃ t,PSs (jB CX0 P w K mg base N qual (zd st) f cdv A outer s H E).nox (zF st) t/\t { nx:=fun _ H'=>Q .non H',rt:=Q } (qB N vs) H):Dm P w K mg base C m ps (k+1) sp:=by
 obtain ⟨f,fd,F,mt⟩:=a
 exact ⟨f,fd,F.ok S len fun cdv A outer s H vs Q E=>hbody f cdv A outer s H vs Q E,F.binds hb,mt⟩
section
variable {X:Cx}{k:Nat}{C:Addr}{m x:Str}{ps:List Str}{sp:Sp}{p pos apos:Pos}{o e:Expr}{es:List Expr}{t:TA}{to:TE}
variable {pl:Sem Bool}
theorem L7 (c:Cls X.K C)(D:Dm X.prog X.w X.K X.mg X.base C m ps k sp)(hr:qc k X.A)(ho:PE X o to)(ha:PA X (e :: es) t)
  (hst:starEach (e :: es) X.env=(false,eval e X.env) :: starEach es X.env:=by rfl) (hpl:(backTo pos (starEach es X.env)).any (·.1)=false:=by rfl)
  (ht:eval (.Call (.Attribute o m apos) (e :: es) [] pos) X.env=(do
   let ov <- eval o X.env
   standAt apos.atName
   let (f,first) <- holding [ov] (getMethod ov m pl)
   callWith pos f first (backTo pos (starEach (e :: es) X.env)) (backToKw pos (keywordEach [] X.env))):=by rfl) :
  PE X (.Call (.Attribute o m apos) (e :: es) [] pos) (wO C m sp [] E0 to t):=by
 obtain ⟨f,fd,F,b,mt⟩:=D
 exact E6 ho c mt F hr b .nil Xz ha hst hpl ht
theorem Kq (c:Cls X.K C)(D:Dm X.prog X.w X.K X.mg X.base C m ps k sp)(hr:qc k X.A)(ho:PE X o to)
  (ht:eval (.Call (.Attribute o m apos) [] [] pos) X.env=(do
   let ov <- eval o X.env
   standAt apos.atName
   let (f,first) <- holding [ov] (getMethod ov m pl)
   callWith pos f first (backTo pos (starEach [] X.env)) (backToKw pos (keywordEach [] X.env))):=by rfl) :
  PE X (.Call (.Attribute o m apos) [] [] pos) (wO C m sp [] E0 to Vp):=by
 obtain ⟨f,fd,F,b,mt⟩:=D
 exact BQ ho c mt F hr b .nil Xz ht
noncomputable def Mkr (P:Program)(w:World)(K:PySem.W.Frag)(mg:Str->Option Value)(base:Heap)(x:Str)(C:Addr)(ps:List Str)(k:Nat)(sp:Sp):Prop:=
 ∃ f fd,jq P w K mg base CX0 k f fd ps sp/\jr K fd ps []/\Mk K C f/\mg x=some (.ref C)
theorem IP (D:Mkr X.prog X.w X.K X.mg X.base x C ps k sp)(hr:qc (k+1) X.A)(hg:Gl X x)(ha:PA X (e :: es) t)(hdb:(x == ("__debug__":Str))=false:=by decide)
  (he:starEach (e :: es) X.env=(false,eval e X.env) :: starEach es X.env:=by rfl) (hpl:(backTo pos (starEach es X.env)).any (·.1)=false:=by rfl):PE X (.Call (.Name x p) (e :: es) [] pos) (Xj C sp [] E0 t):=by
 obtain ⟨f,fd,F,b,M,hm⟩:=D
 exact En M F hr hg hm b .nil Xz ha hdb he hpl
end
structure KD (K:PySem.W.Frag)(w:World)(a:Addr)(kvs:List (Key × V)):Prop where
 ex:∃ es ep,K.lookup a=some ⟨.type "dict",none,.dict es ep,#[]⟩/\∀ P:Program,PySem.KeysOf (jF P w) es/\∃ vs,KV kvs vs/\Pairs (jF P w) es.toList vs/\(vs.map (·.1)).Nodup
 ns:(a == sysModules)=false
variable {pins:List (Addr × Obj)}
theorem KD.at {kvs:List (Key × V)}(d:KD X.K X.w a kvs)(I:Inv X pins σ H s):∃ vs,KV kvs vs/\s.heap.DictOf (jF X.prog X.w) a vs:=by
 obtain ⟨es,ep,hl,h⟩:=d.ex
 obtain ⟨h1,vs,r,h2,h3⟩:=h X.prog
 exact ⟨vs,r,_,es,ep,I.kIn a _ hl,⟨rfl,rfl,rfl⟩,rfl,h1,h2,h3⟩
noncomputable def VD (kvs:List (Key × V))(ty:TE):TE:=fun σ H Q=>ty σ H fun y H2=>∃ k,y=kV k/\Q ((vE kvs k).getD .non) H2
section
variable {X:Cx}{e:Expr}{ty:TE}{p apos cpos:Pos}{x:Str}{a:Addr}{kvs:List (Key × V)}
theorem FA (d:KD X.K X.w a kvs)(hg:Gl X x)(hm:X.mg x=some (.ref a))(he:PE X e ty)(m:M1 X (.Name x p) "get" apos e cpos)(hdb:(x == ("__debug__":Str))=false:=by decide):PE X (.Call (.Attribute (.Name x p) "get" apos) [e] [] cpos) (VD kvs ty):=by
 intro pins s σ H Q I h
 refine wpAny_Call_method m.base m.few m.line PySem.F.plainAttrs_dict PySem.F.slot_dict_get PySem.F.type_dict_get (jo I hg hm ?_ hdb)
 obtain ⟨vs0,_,dd0⟩:=d.at I
 refine ⟨dd0.typeIs,fun b q=>?_,?_⟩
 ·cases q
  obtain ⟨ob,_,_,h1,h2,_⟩:=dd0
  exact ⟨ob,h1,h2.2.1⟩
 rw [m.trees]
 refine Calls.callWith_builtin rfl (Calls.evalArgs_plain (Calls.spliced_cons (thn (he pins s σ H _ I h) fun iv s2 ⟨y,H2,I2,ry,k,ey,q2⟩=>Calls.spliced_nil ?_)))
 subst ey
 obtain ⟨vs,rel,dd⟩:=d.at I2
 refine call_meetsIn PySem.F.slot_dict_get dd.typeIs PySem.F.entry_dict_get (PySem.F.args_dict_get_2 _ _) (meets_dict_get (jF X.prog X.w) a (LJ ry) d.ns) ⟨_,dd.mapOf,?_⟩
 refine ⟨(vE kvs k).getD .non,H2,I2.tok _,?_,q2⟩
 exact (rel.val k).getD rfl
end
section
variable {X:Cx}
theorem xq:Lb X (Dw X.K):=by
  intro pins s σ H x y v u Q I rx ry h
  obtain ⟨p,xs,i,z,rfl,rfl,hq,he,q⟩:=h
  cases rx
  obtain ⟨t,rfl⟩:=ry
  obtain ⟨its,r,pl,hz⟩:=I.list hq
  obtain ⟨j,h1,h2,h3,h4,h5⟩:=Qh he
  obtain ⟨w,ew,rw'⟩:=r.get h2
  have hl:=r.length
  have hn:=yA
  have fin:EP X pins σ Q w s:=⟨z,H,I,rw',q⟩
  by_cases h0:0<=i
  · have hj : i.toNat = j := by
      rw [seqIndex_of h0 h5] at h1
      exact Option.some.inj h1
    exact wpAny_getItem_list pl.isList h0 (by omega) (by rw [hj];simpa using ew) fin
  · have hj : (i + (its.toArray.size : Int)).toNat = j := by
      rw [seqIndex_neg (by omega) h4] at h1
      rw [List.size_toArray,<- hl]
      exact Option.some.inj h1
    exact wpAny_getItem_list_neg pl.isList (by omega) (by rw [List.size_toArray] <;> omega) (by omega) (by rw [hj];simpa using ew) fin
end
theorem atm_mk {oc kV dc pm cd ct:Value} {sl:Array (Option Value)}(a1:PySem.W.findIn K (.ref C) m=some (some (.ref f)))(i1:PySem.W.isFn K (.ref f)=true)
  (l1:K.lookup f=some ⟨oc,od,.func (PySem.W.fnOf m qual (qj st) (zF st) (zd st) .none kV dc pm an cd ct),sl⟩) (c1:PySem.W.codeIn K cd qual=true) (k1:PySem.W.keepIn K (.ref f)=true):AtM K C m qual st:=⟨f,_,fun_mk l1 c1 k1,⟨a1,i1,k1⟩⟩
section
variable {X:Cx}
end
structure ScG (X:Cx)(ts:List Nat)(scope:Scope):Prop where
 kind:scope.kind=.function
 cell:∀ y ∈ scope.names,y.2=.cell->scope.names.lookup y.1=some .cell
 loc:∀ y ∈ scope.names,y.2=.local->scope.names.lookup y.1=some .local
 free:∀ y ∈ scope.names,y.2=.free->X.env.kindOf y.1=some .cell \/ X.env.kindOf y.1=some .free
 ts:∀ (i:Nat) x,X.N[i]?=some x->scope.names.lookup x=some .local \/ scope.names.lookup x=some .cell->i ∈ ts
section
variable {X:Cx}{ts:List Nat}{scope:Scope}{pins:List (Addr × Obj)}{σ:St}{H:Hp}{s:Shared}{fp:List Addr}
end
section
variable {X:Cx}{ts:List Nat}{scope:Scope}{tg iter elt:Expr}{ifs:List Expr}{wi:TI}{g:TG}{tt:TT}{te:TE}{pos:Pos}
end
section
variable {X:Cx}
end
inductive Dat where
 | non | bl (b:Bool) | int (i:Int) | str (x:Str) | ty (n:String) | lst (l:List Dat) | tup (l:List Dat) | rng (lo hi c:Int) | scr (K:PySem.W.Frag) (l:List Int)
inductive AV where
 | d (x:Dat) | ref (a:Addr)
  | tp (l:List (Dat ⊕ Addr))
noncomputable def tiA:Dat ⊕ Addr->AV
 | .inl d=>.d d
 | .inr a=>.ref a
noncomputable def AV.Has (r:Addr):AV->Prop
 | .d _=>False
 | .ref a=>a=r
 | .tp l=>Sum.inr r ∈ l
inductive MO where
 | lst (l:List AV) | dK (kvs:List (Key × AV)) | ins (C:Addr) (fs:List (Str × AV)) | exc (C:Addr) (fs:List (Str × V)) | tb (R:Array Value->Addr->Obj->Prop) | dT (kvs:List (List Key × AV))
noncomputable def wA (a C:Addr)(d:Option Addr):HO:=.ext fun h=>∃ o,h.get? a=some o/\o.cls=.ref C/\o.dict=d/\∃ vs,o.data=.fields vs
noncomputable abbrev MH:=Addr->Option MO
noncomputable abbrev ASt:=List (Option AV)
noncomputable def mup (M:MH)(a:Addr)(o:MO):MH:=fun b=>if b=a then some o else M b
noncomputable def mdel (M:MH)(a:Addr):MH:=fun b=>if b=a then none else M b
variable {M:MH}
theorem zg {o:MO}:mup M a o a=some o:=if_pos rfl
theorem zu {o:MO}(h:b ≠ a):mup M a o b=M b:=if_neg h
theorem yz:mdel M a a=none:=if_pos rfl
theorem jn (h:b ≠ a):mdel M a b=M b:=if_neg h
theorem ZZ {o u:MO}:mup (mup M a o) a u=mup M a u:=by
 funext b;unfold mup;split <;> rfl
noncomputable abbrev Own:=Addr->Prop
inductive Rep (H:Hp) (O:Own):V->Dat->Prop
 | non:Rep H O .non .non
 | bl {b:Bool}:Rep H O (.bl b) (.bl b)
 | int {i:Int}:Rep H O (.int i) (.int i)
 | str {x:Str}:Rep H O (.str x) (.str x)
 | ty {n:String}:Rep H O (.ty n) (.ty n)
 | lst {a:Addr} {xs:List V} {l:List Dat}:¬ O a->H a=some (.lst xs)->xs.length=l.length->(∀ (i:Nat) x d,xs[i]?=some x->l[i]?=some d->Rep H O x d)->Rep H O (.ref a) (.lst l)
 | tup {a:Addr} {xs:List V} {l:List Dat}:¬ O a->H a=some (.tup xs)->xs.length=l.length->(∀ (i:Nat) x d,xs[i]?=some x->l[i]?=some d->Rep H O x d)->Rep H O (.ref a) (.tup l)
 | rng {a:Addr} {lo hi c:Int}:¬ O a->H a=some (QL a lo hi c)->Rep H O (.ref a) (.rng lo hi c)
 | scr {a:Addr} {K:PySem.W.Frag} {l:List Int}:¬ O a->Rd H a (.lst (l.map V.int))->Rep H O (.ref a) (.scr K l)
 | scrK {a:Addr} {K:PySem.W.Frag} {l:List Int}:SqL K (fun _=>none) a (l.map V.int)->Rep H O (.ref a) (.scr K l)
noncomputable def Vm (H:Hp)(O:Own)(xs:List V)(l:List Dat):Prop:=xs.length=l.length/\∀ (i:Nat) x d,xs[i]?=some x->l[i]?=some d->Rep H O x d
noncomputable def Lk (H:Hp)(O:Own)(M:MH)(v:V):Dat ⊕ Addr->Prop
 | .inl d=>Rep H O v d
 | .inr a=>v=.ref a/\M a ≠ none
noncomputable def VY (H:Hp)(O:Own)(M:MH)(xs:List V)(l:List (Dat ⊕ Addr)):Prop:=xs.length=l.length/\∀ (i:Nat) x d,xs[i]?=some x->l[i]?=some d->Lk H O M x d
noncomputable def zo (H:Hp)(O:Own)(M:MH)(v:V):AV->Prop
 | .d x=>Rep H O v x
 | .ref a=>v=.ref a/\M a ≠ none
 | .tp l=>∃ a xs,v=.ref a/\¬ O a/\H a=some (.tup xs)/\VY H O M xs l
theorem zo.has {H:Hp}{O:Own}{M:MH}{v:V}{x:AV}{r:Addr}(h:zo H O M v x)(k:x.Has r):M r ≠ none:=by
 cases x with
 | d x=>exact k.elim
 | ref a=>cases k;exact h.2
 | tp l=>
  obtain ⟨a,xs,_,_,_,h⟩:=h
  obtain ⟨i,hi⟩:=List.getElem?_of_mem k
  obtain ⟨y,hy⟩:∃ y,xs[i]?=some y:=⟨_,List.getElem?_eq_getElem (by rw [h.1];exact (List.getElem?_eq_some_iff.mp hi).1)⟩
  exact (h.2 i y _ hy hi).2
noncomputable def zj (H:Hp)(O:Own)(M:MH)(xs:List V)(l:List AV):Prop:=xs.length=l.length/\∀ (i:Nat) x d,xs[i]?=some x->l[i]?=some d->zo H O M x d
noncomputable def kB {κ:Type}(H:Hp)(O:Own)(M:MH)(xs:List (κ × V))(l:List (κ × AV)):Prop:=xs.map (·.1)=l.map (·.1)/\zj H O M (xs.map (·.2)) (l.map (·.2))
noncomputable def qQ (H:Hp)(O:Own)(M:MH)(a:Addr):MO->Prop
 | .lst l=>∃ xs,H a=some (.lst xs)/\zj H O M xs l
 | .dK kvs=>∃ xs,H a=some (.dK xs)/\kB H O M xs kvs
 | .dT kvs=>∃ xs,H a=some (.dT xs)/\kB H O M xs kvs
 | .ins C fs=>∃ dx xs,H a=some (.ins C dx xs)/\kB H O M xs fs/\O dx/\M dx=none/\H dx=some (.own a)
 | .exc C fs=>∃ d,H a=some (wA a C d)/\(d=none/\fs=[] \/ ∃ dx,d=some dx/\H dx=some (.xd fs)/\O dx/\M dx=none)
 | .tb R=>∃ ps,H a=some (.tbl ps)/\(ps=#[] \/ ∃ c oc u,R ps c oc/\¬ O c/\H c=some (.frz oc u))
structure Wf (H:Hp)(O:Own)(M:MH):Prop where
 mo:∀ a o,M a=some o->qQ H O M a o
 own:∀ a,M a ≠ none->O a
 al:∀ a,O a->∃ o,H a=some o/\∀ xs,o ≠ .tup xs
variable {O:Own}
theorem Wf.ne (w:Wf H O M)(a:Addr)(h:O a):H a ≠ none:=by obtain ⟨o,e,_⟩:=w.al a h;rw [e];exact fun z=>nomatch z
structure Ext (H:Hp)(O:Own)(M:MH)(H':Hp)(O':Own)(M':MH):Prop where
 fix:∀ a o,¬ O a->H a=some o->H' a=some o/\¬ O' a
 prv:∀ a,O a->M a=none->H' a=H a/\O' a/\M' a=none
 mst:∀ a,M a ≠ none->M' a ≠ none
theorem Ext.refl:Ext H O M H O M:=⟨fun _ _ h e=>⟨e,h⟩,fun _ h e=>⟨rfl,h,e⟩,fun _ h=>h⟩
variable {O1 O2:Own}
theorem Ext.trans {M M1 M2:MH}(a:Ext H O M H1 O1 M1)(b:Ext H1 O1 M1 H2 O2 M2):Ext H O M H2 O2 M2:=
 ⟨fun x o h e=>let ⟨e1,h1⟩:=a.fix x o h e;b.fix x o h1 e1,fun x h e=>by
  obtain ⟨e1,h1,n1⟩:=a.prv x h e
  obtain ⟨e2,h2,n2⟩:=b.prv x h1 n1
  exact ⟨e2.trans e1,h2,n2⟩,fun x h=>b.mst x (a.mst x h)⟩
theorem Rep.imp {H H':Hp}{O O':Own}(k:∀ a o,¬ O a->H a=some o->H' a=some o/\¬ O' a){v:V}{d:Dat}(r:Rep H O v d):Rep H' O' v d:=by
 induction r with
 | non=>exact .non
 | bl=>exact .bl
 | int=>exact .int
 | str=>exact .str
 | ty=>exact .ty
 | lst h e l _ ih=>exact .lst (k _ _ h e).2 (k _ _ h e).1 l ih
 | tup h e l _ ih=>exact .tup (k _ _ h e).2 (k _ _ h e).1 l ih
 | rng h e=>exact .rng (k _ _ h e).2 (k _ _ h e).1
 | scr h e=>
  rcases e with e | ⟨o,e⟩
  ·exact .scr (k _ _ h e).2 (.inl (k _ _ h e).1)
  ·exact .scr (k _ _ h e).2 (.inr ⟨o,(k _ _ h e).1⟩)
 | scrK h=>exact .scrK h
theorem Eo {H:Hp}{O:Own}{K:PySem.W.Frag}{v:V}{l:List Int}(r:Rep H O v (.scr K l)):∃ a,v=.ref a/\SqL K H a (l.map V.int):=by
 cases r with
 | @scr a _ _ _ h=>exact ⟨a,rfl,.inl h⟩
 | @scrK a _ _ h=>
  rcases h with (h | ⟨o,h⟩) | h
  ·cases h
  ·cases h
  ·exact ⟨a,rfl,.inr h⟩
theorem Eg {l:List Int}(ho:∀ a,¬ O a)(h:SqL K H a (l.map V.int)):Rep H O (.ref a) (.scr K l):=by
 rcases h with h | h
 ·exact .scr (ho a) h
 ·exact .scrK (.inr h)
variable {H':Hp} {O':Own} {M':MH} {v:V} {d:Dat}
theorem Rep.ext (k:Ext H O M H' O' M') (r:Rep H O v d):Rep H' O' v d:=r.imp k.fix
theorem zo.impT {H H':Hp}{O O':Own}{M M':MH}(k:∀ a o,¬ O a->H a=some o->H' a=some o/\¬ O' a){l:List (Dat ⊕ Addr)}(hm:∀ a,M a ≠ none->M' a ≠ none){v:V}(r:zo H O M v (.tp l)):zo H' O' M' v (.tp l):=by
 obtain ⟨a,xs,h1,h2,h3,h4,h5⟩:=r
 refine ⟨a,xs,h1,(k _ _ h2 h3).2,(k _ _ h2 h3).1,h4,fun i x d e1 e2=>?_⟩
 have:=h5 i x d e1 e2
 cases d with
 | inl d=>exact Rep.imp k this
 | inr q=>exact ⟨this.1,hm q this.2⟩
theorem zo.ext {H H':Hp}{O O':Own}{M M':MH}(k:Ext H O M H' O' M'){v:V}{x:AV}(r:zo H O M v x):zo H' O' M' v x:=by
 cases x with
 | d x=>exact Rep.ext k r
 | ref a=>exact ⟨r.1,k.mst a r.2⟩
 | tp l=>exact r.impT k.fix k.mst
variable {l:List AV}
theorem zj.ext (k:Ext H O M H' O' M') (r:zj H O M xs l):zj H' O' M' xs l:=⟨r.1,fun i x d e1 e2=>(r.2 i x d e1 e2).ext k⟩
theorem kB.ext {κ:Type} (k:Ext H O M H' O' M'){xs:List (κ × V)}{l:List (κ × AV)}(r:kB H O M xs l):kB H' O' M' xs l:=⟨r.1,r.2.ext k⟩
theorem zj.nil:zj H O M [] []:=⟨rfl,fun i x d e=>by simp at e⟩
theorem zj.cons {x:V}{d:AV} (h:zo H O M x d)(r:zj H O M xs l):zj H O M (x :: xs) (d :: l):=
 ⟨by simp [r.1],fun i y e h1 h2=>by
  cases i with
  | zero=>simp at h1 h2;subst h1 h2;exact h
  | succ i=>simp at h1 h2;exact r.2 i y e h1 h2⟩
theorem zj.head {x:V}{d:AV} (r:zj H O M (x :: xs) (d :: l)):zo H O M x d/\zj H O M xs l:=
 ⟨r.2 0 x d rfl rfl,by have:=r.1;simpa using this,fun i y e h1 h2=>r.2 (i+1) y e (by simpa using h1) (by simpa using h2)⟩
theorem zj.nil_inv (r:zj H O M xs []):xs=[]:=List.length_eq_zero_iff.mp r.1
theorem zj.cons_inv {H:Hp}{O:Own}{M:MH}{xs:List V}{d:AV}{l:List AV}(r:zj H O M xs (d :: l)):∃ x r',xs=x :: r'/\zo H O M x d/\zj H O M r' l:=by
 cases xs with
 | nil=>have:=r.1;simp at this
 | cons x r'=>exact ⟨x,r',rfl,r.head⟩
variable {ys:List V}
theorem zj.append {l m:List AV}(a:zj H O M xs l)(b:zj H O M ys m):zj H O M (xs ++ ys) (l ++ m):=
 ⟨by rw [List.length_append,List.length_append,a.1,b.1],fun i x d h1 h2=>by
  by_cases c:i<xs.length
  ·rw [List.getElem?_append_left c] at h1
   rw [List.getElem?_append_left (by rw [<- a.1];exact c)] at h2
   exact a.2 i x d h1 h2
  ·rw [List.getElem?_append_right (by omega)] at h1
   rw [List.getElem?_append_right (by rw [<- a.1];omega),<- a.1] at h2
   exact b.2 _ x d h1 h2⟩
theorem zj.snoc {x:V}{d:AV}(a:zj H O M xs l)(b:zo H O M x d):zj H O M (xs ++ [x]) (l ++ [d]):=a.append (.cons b .nil)
theorem zj.set {x:V}{d:AV}(a:zj H O M xs l)(b:zo H O M x d)(j:Nat):zj H O M (xs.set j x) (l.set j d):=
 ⟨by rw [List.length_set,List.length_set,a.1],fun i y e h1 h2=>by
  rw [List.getElem?_set] at h1 h2
  by_cases c:j=i
  ·rw [if_pos c] at h1 h2
   split at h1
   ·split at h2
    ·cases h1;cases h2;exact b
    ·cases h2
   ·cases h1
  ·rw [if_neg c] at h1 h2
   exact a.2 i y e h1 h2⟩
theorem zj.get (a:zj H O M xs l) {d:AV}(h:l[i]?=some d):∃ x,xs[i]?=some x/\zo H O M x d:=by
 have hi:=(List.getElem?_eq_some_iff.mp h).1
 have hx:i<xs.length:=by rw [a.1];exact hi
 exact ⟨xs[i],by simp [hx],a.2 i _ _ (by simp [hx]) h⟩
theorem zj.drop (a:zj H O M xs l)(k:Nat):zj H O M (xs.drop k) (l.drop k):=
 ⟨by rw [List.length_drop,List.length_drop,a.1],fun i x d h1 h2=>by rw [List.getElem?_drop] at h1 h2;exact a.2 _ x d h1 h2⟩
theorem zj.take (a:zj H O M xs l)(k:Nat):zj H O M (xs.take k) (l.take k):=
 ⟨by rw [List.length_take,List.length_take,a.1],fun i x d h1 h2=>by
  rw [List.getElem?_take] at h1 h2
  by_cases c:i<k
  ·rw [if_pos c] at h1 h2
   exact a.2 _ x d h1 h2
  ·rw [if_neg c] at h1
   cases h1⟩
theorem Vm.av {l:List Dat}(r:Vm H O xs l):zj H O M xs (l.map .d):=
 ⟨by rw [List.length_map];exact r.1,fun i x d h1 h2=>by
  rw [List.getElem?_map] at h2
  cases e:l[i]? with
  | none=>rw [e] at h2;cases h2
  | some y=>rw [e] at h2;cases h2;exact r.2 i x y h1 e⟩
theorem zj.pure {l:List Dat}(r:zj H O M xs (l.map .d)):Vm H O xs l:=
 ⟨by have:=r.1;rwa [List.length_map] at this,fun i x d h1 h2=>r.2 i x (.d d) h1 (by rw [List.getElem?_map,h2];rfl)⟩
theorem Wf.fresh (w:Wf H O M) (h:H p=none):¬ O p/\M p=none:=by
 have:¬ O p:=fun z=>w.ne p z h
 exact ⟨this,by
  cases e:M p with
  | none=>rfl
  | some o=>exact absurd (w.own p (by rw [e];exact fun z=>nomatch z)) this⟩
theorem qQ.ext {H H':Hp}{O O':Own}{M M':MH}(k:Ext H O M H' O' M'){a:Addr}{o:MO}(e:H' a=H a)(r:qQ H O M a o):qQ H' O' M' a o:=by
 cases o with
 | lst l=>obtain ⟨xs,h,r⟩:=r;exact ⟨xs,e.trans h,r.ext k⟩
 | dK l=>obtain ⟨xs,h,r⟩:=r;exact ⟨xs,e.trans h,r.ext k⟩
 | dT l=>obtain ⟨xs,h,r⟩:=r;exact ⟨xs,e.trans h,r.ext k⟩
 | ins C fs=>obtain ⟨dx,xs,h,r,q1,q2,q3⟩:=r;obtain ⟨x1,x2,x3⟩:=k.prv dx q1 q2;exact ⟨dx,xs,e.trans h,r.ext k,x2,x3,x1.trans q3⟩
 | exc C fs=>
  obtain ⟨d,h,r⟩:=r
  refine ⟨d,e.trans h,?_⟩
  rcases r with r | ⟨dx,e1,h1,h2,h3⟩
  ·exact .inl r
  ·obtain ⟨x1,x2,x3⟩:=k.prv dx h2 h3;exact .inr ⟨dx,e1,x1.trans h1,x2,x3⟩
 | tb R=>obtain ⟨ps,h,r⟩:=r;exact ⟨ps,e.trans h,r.imp id fun ⟨c,oc,u,h1,h2,h3⟩=>⟨c,oc,u,h1,(k.fix c _ h2 h3).2,(k.fix c _ h2 h3).1⟩⟩
theorem qC (w:Wf H O M) (h:H p=none)(o:HO):Ext H O M (upd H p o) O M:=
 ⟨fun a u ha e=>⟨by rw [zh (zl e h)];exact e,ha⟩,fun a ha e=>⟨zh (fun z=>w.ne a ha (by rw [z];exact h)),ha,e⟩,fun _ h=>h⟩
theorem xi (w:Wf H O M) (h:H p=none)(o:HO):Wf (upd H p o) O M:=
 ⟨fun a mo e=>qQ.ext (qC w h o) (zh (fun z=>by rw [z,(w.fresh h).2] at e;cases e)) (w.mo a mo e),w.own,fun a ha=>by
  have:a ≠ p:=fun z=>w.ne a ha (by rw [z];exact h)
  rw [zh this];exact w.al a ha⟩
noncomputable def yg (O:Own)(p:Addr):Own:=fun a=>a=p \/ O a
noncomputable def Zs (O:Own)(p:Addr):Own:=fun a=>a ≠ p/\O a
theorem Zq (w:Wf H O M) (h:H p=none)(o:HO)(mo:MO):Ext H O M (upd H p o) (yg O p) (mup M p mo):=
 ⟨fun a u ha e=>⟨by rw [zh (zl e h)];exact e,fun z=>z.elim (zl e h) ha⟩,fun a ha e=>by
  have hne:a ≠ p:=fun z=>w.ne a ha (by rw [z];exact h)
  exact ⟨zh hne,.inr ha,by rw [zu hne];exact e⟩,fun a ha=>by
  by_cases e:a=p
  ·rw [e,zg];exact fun z=>nomatch z
  ·rw [zu e];exact ha⟩
variable {mo:MO}
theorem Bm (w:Wf H O M) (h:H p=none) (ho:∀ xs,o ≠ .tup xs)(r:qQ (upd H p o) (yg O p) (mup M p mo) p mo):Wf (upd H p o) (yg O p) (mup M p mo):=by
 refine ⟨fun a u e=>?_,fun a ha=>?_,fun a ha=>?_⟩
 ·by_cases c:a=p
  ·subst c;rw [zg] at e;cases e;exact r
  ·rw [zu c] at e
   exact qQ.ext (Zq w h o mo) (zh c) (w.mo a u e)
 ·by_cases c:a=p
  ·exact .inl c
  ·rw [zu c] at ha;exact .inr (w.own a ha)
 ·by_cases c:a=p
  ·rw [c,zk];exact ⟨o,rfl,ho⟩
  ·rw [zh c];exact w.al a (ha.resolve_left c)
theorem xo (w:Wf H O M) (h:M p ≠ none)(o:HO)(mo:MO):Ext H O M (upd H p o) O (mup M p mo):=
 ⟨fun a u ha e=>⟨by rw [zh (fun z=>ha (by rw [z];exact w.own p h))];exact e,ha⟩,fun a ha e=>by
  have hne:a ≠ p:=fun z=>h (by rw [<- z];exact e)
  exact ⟨zh hne,ha,by rw [zu hne];exact e⟩,fun a ha=>by
  by_cases e:a=p
  ·rw [e,zg];exact fun z=>nomatch z
  ·rw [zu e];exact ha⟩
theorem Jr (w:Wf H O M) (h:M p ≠ none) (ho:∀ xs,o ≠ .tup xs)(r:qQ (upd H p o) O (mup M p mo) p mo):Wf (upd H p o) O (mup M p mo):=by
 refine ⟨fun a u e=>?_,fun a ha=>?_,fun a ha=>?_⟩
 ·by_cases c:a=p
  ·subst c;rw [zg] at e;cases e;exact r
  ·rw [zu c] at e
   exact qQ.ext (xo w h o mo) (zh c) (w.mo a u e)
 ·by_cases c:a=p
  ·subst c;exact w.own a h
  ·rw [zu c] at ha;exact w.own a ha
 ·by_cases c:a=p
  ·rw [c,zk];exact ⟨o,rfl,ho⟩
  ·rw [zh c];exact w.al a ha
theorem qR (w:Wf H O M) (h:H p=none)(o:HO):Ext H O M (upd H p o) (yg O p) M:=
 ⟨fun a u ha e=>⟨by rw [zh (zl e h)];exact e,fun z=>z.elim (zl e h) ha⟩,fun a ha e=>by
  have hne:a ≠ p:=fun z=>w.ne a ha (by rw [z];exact h)
  exact ⟨zh hne,.inr ha,e⟩,fun _ h=>h⟩
theorem kF (w:Wf H O M) (h:H p=none)(o:HO)(ho:∀ xs,o ≠ .tup xs):Wf (upd H p o) (yg O p) M:=
 ⟨fun a mo e=>qQ.ext (qR w h o) (zh (fun z=>by rw [z,(w.fresh h).2] at e;cases e)) (w.mo a mo e),fun a ha=>.inr (w.own a ha),fun a ha=>by
  by_cases c:a=p
  ·rw [c,zk];exact ⟨o,rfl,ho⟩
  ·rw [zh c];exact w.al a (ha.resolve_left c)⟩
theorem vj (hO:O p)(o:HO):∀ a u,¬ O a->H a=some u->upd H p o a=some u/\¬ O a:=fun a u ha e=>⟨by rw [zh (fun z=>ha (by rw [z];exact hO))];exact e,ha⟩
theorem zo.imp {H H':Hp}{O O':Own}{M M':MH}(k:∀ a o,¬ O a->H a=some o->H' a=some o/\¬ O' a)(hm:∀ a,M a ≠ none->M' a ≠ none){v:V}{x:AV}(r:zo H O M v x):zo H' O' M' v x:=by
 cases x with
 | d x=>exact Rep.imp k r
 | ref a=>exact ⟨r.1,hm a r.2⟩
 | tp l=>exact r.impT k hm
theorem zj.imp (k:∀ a o,¬ O a->H a=some o->H' a=some o/\¬ O' a)(hm:∀ a,M a ≠ none->M' a ≠ none) (r:zj H O M xs l):zj H' O' M' xs l:=⟨r.1,fun i x d e1 e2=>(r.2 i x d e1 e2).imp k hm⟩
theorem qQ.imp {H H':Hp}{O O':Own}{M:MH}(k:∀ a o,¬ O a->H a=some o->H' a=some o/\¬ O' a){a:Addr}{o:MO}(e:H' a=H a)(hd:∀ dx x,O dx->M dx=none->H dx=some x->((∃ b,x=.own b) \/ ∃ fs,x=.xd fs)->H' dx=some x/\O' dx)(r:qQ H O M a o):qQ H' O' M a o:=by
 cases o with
 | lst l=>obtain ⟨xs,h,r⟩:=r;exact ⟨xs,e.trans h,r.imp k fun _ z=>z⟩
 | dK l=>obtain ⟨xs,h,r⟩:=r;exact ⟨xs,e.trans h,r.1,r.2.imp k fun _ z=>z⟩
 | dT l=>obtain ⟨xs,h,r⟩:=r;exact ⟨xs,e.trans h,r.1,r.2.imp k fun _ z=>z⟩
 | ins C fs=>obtain ⟨dx,xs,h,r,q1,q2,q3⟩:=r;exact ⟨dx,xs,e.trans h,⟨r.1,r.2.imp k fun _ z=>z⟩,(hd dx _ q1 q2 q3 (.inl ⟨_,rfl⟩)).2,q2,(hd dx _ q1 q2 q3 (.inl ⟨_,rfl⟩)).1⟩
 | exc C fs=>
  obtain ⟨d,h,r⟩:=r
  refine ⟨d,e.trans h,?_⟩
  rcases r with r | ⟨dx,e1,h1,h2,h3⟩
  ·exact .inl r
  ·obtain ⟨x1,x2⟩:=hd dx _ h2 h3 h1 (.inr ⟨_,rfl⟩);exact .inr ⟨dx,e1,x1,x2,h3⟩
 | tb R=>obtain ⟨ps,h,r⟩:=r;exact ⟨ps,e.trans h,r.imp id fun ⟨c,oc,u,h1,h2,h3⟩=>⟨c,oc,u,h1,(k c _ h2 h3).2,(k c _ h2 h3).1⟩⟩
theorem JO (w:Wf H O M) (hO:O p)(hM:M p=none) (hp:H p=some (.lst xs))(o:HO)(ho:∀ xs,o ≠ .tup xs):Wf (upd H p o) O M:=
 ⟨fun a mo e=>qQ.imp (vj hO o) (zh (fun z=>by rw [z,hM] at e;cases e)) (fun dx x h1 _ h3 h4=>⟨by rw [zh (QK h3 hp (by rcases h4 with ⟨_,rfl⟩ | ⟨_,rfl⟩ <;> exact fun z=>nomatch z))];exact h3,h1⟩) (w.mo a mo e),w.own,fun a ha=>by
  by_cases c:a=p
  ·rw [c,zk];exact ⟨o,rfl,ho⟩
  ·rw [zh c];exact w.al a ha⟩
theorem xr (p:Addr):∀ a u,¬ O a->H a=some u->H a=some u/\¬ Zs O p a:=fun a u ha e=>⟨e,fun z=>ha z.2⟩
theorem Wa (w:Wf H O M) (hM:M p=none) (hp:H p=some (.lst xs)):Wf H (Zs O p) M:=
 ⟨fun a mo e=>qQ.imp (xr p) rfl (fun dx x h1 _ h3 h4=>⟨h3,⟨QK h3 hp (by rcases h4 with ⟨_,rfl⟩ | ⟨_,rfl⟩ <;> exact fun z=>nomatch z),h1⟩⟩) (w.mo a mo e),fun a ha=>⟨fun z=>ha (by rw [z];exact hM),w.own a ha⟩,fun a ha=>w.al a ha.2⟩
noncomputable abbrev AK:=AV->MH->Prop
noncomputable abbrev AE:=ASt->MH->AK->Prop
noncomputable abbrev AT:=ASt->MH->(Bool->MH->Prop)->Prop
noncomputable abbrev AA:=ASt->MH->(List AV->MH->Prop)->Prop
structure qW where
 nx:ASt->MH->Prop
 rt:AK
 bk:ASt->MH->Prop:=fun _ _=>False
 ct:ASt->MH->Prop:=fun _ _=>False
noncomputable abbrev AS:=MH->qW->ASt->MH->Prop
noncomputable abbrev AG:=AV->ASt->MH->(ASt->MH->Prop)->Prop
noncomputable abbrev AGs:=List AV->ASt->MH->(ASt->MH->Prop)->Prop
noncomputable abbrev AI:=ASt->MH->(List AV->(MH->Prop)->MH->Prop)->Prop
structure Er (H:Hp)(O:Own)(M:MH)(σ:St)(ρ:ASt):Prop where
 len:σ.length=ρ.length
 get:∀ (i:Nat) x,ρ[i]?=some (some x)->∃ v,σ[i]?=some (some v)/\zo H O M v x
variable {ρ:ASt}
theorem Er.ext (e:Er H O M σ ρ)(k:Ext H O M H' O' M'):Er H' O' M' σ ρ:=⟨e.len,fun i x h=>let ⟨v,h1,h2⟩:=e.get i x h;⟨v,h1,h2.ext k⟩⟩
theorem Er.set (e:Er H O M σ ρ) {x:AV}(r:zo H O M v x)(j:Nat):Er H O M (σ.set j (some v)) (ρ.set j (some x)):=
 ⟨by rw [List.length_set,List.length_set,e.len],fun i y h=>by
  rw [List.getElem?_set] at h ⊢
  by_cases c:j=i
  ·rw [if_pos c] at h ⊢
   by_cases c2:j<ρ.length
   ·rw [if_pos c2] at h;rw [if_pos (by rw [e.len];exact c2)];cases h;exact ⟨v,rfl,r⟩
   ·rw [if_neg c2] at h;cases h
  ·rw [if_neg c] at h ⊢;exact e.get i y h⟩
noncomputable def Dr:List Nat->ASt->ASt
 | [],σ=>σ
 | j :: r,σ=>Dr r (σ.set j none)
theorem Er.clr {H:Hp}{O:Own}{M:MH}:∀ (ts:List Nat) {σ:St} {ρ:ASt},Er H O M σ ρ->Er H O M (clr ts σ) (Dr ts ρ)
  | [],_,_,e=>e
  | j :: r, σ, ρ, e => Er.clr r ⟨by rw [List.length_set, List.length_set, e.len], fun i y h => by
      rw [List.getElem?_set] at h ⊢
      by_cases c:j=i
      · rw [if_pos c] at h
        split at h <;> cases h
      · rw [if_neg c] at h ⊢;exact e.get i y h⟩
structure zG (t:TE)(a:AE):Prop where
 go:∀ {σ:St} {H:Hp} {O:Own} {ρ:ASt} {M:MH} {Q:VK} {Q':AK},Wf H O M->Er H O M σ ρ->a ρ M Q'->(∀ x M' v H' O',Q' x M'->Ext H O M H' O' M'->Wf H' O' M'->zo H' O' M' v x->Q v H')->t σ H Q
structure kK (t:TT)(a:AT):Prop where
 go:∀ {σ:St} {H:Hp} {O:Own} {ρ:ASt} {M:MH} {Q:Bool->Hp->Prop} {Q':Bool->MH->Prop},Wf H O M->Er H O M σ ρ->a ρ M Q'->(∀ b M' H' O',Q' b M'->Ext H O M H' O' M'->Wf H' O' M'->Q b H')->t σ H Q
structure jc (t:TA)(a:AA):Prop where
 go:∀ {σ:St} {H:Hp} {O:Own} {ρ:ASt} {M:MH} {Q:List V->Hp->Prop} {Q':List AV->MH->Prop},Wf H O M->Er H O M σ ρ->a ρ M Q'->(∀ x M' v H' O',Q' x M'->Ext H O M H' O' M'->Wf H' O' M'->zj H' O' M' v x->Q v H')->t σ H Q
structure Kk (t:TE)(a:ASt->MH->(List AV->MH->Prop)->Prop):Prop where
 go:∀ {σ:St} {H:Hp} {O:Own} {ρ:ASt} {M:MH} {Q:VK} {Q':List AV->MH->Prop},Wf H O M->Er H O M σ ρ->a ρ M Q' ->
  (∀ l M' p xs H' O',Q' l M'->Ext H O M H' O' M'->Wf H' O' M'->O' p->M' p=none->H p=none->H' p=some (.lst xs)->zj H' O' M' xs l->Q (.ref p) H')->t σ H Q
noncomputable abbrev AR2:=AV->AV->MH->AK->Prop
structure yH (r:R2)(a:AR2):Prop where
 go:∀ {x y:V} {dx dy:AV} {H:Hp} {O:Own} {M:MH} {Q:VK} {Q':AK},Wf H O M->zo H O M x dx->zo H O M y dy->a dx dy M Q'->(∀ x M' v H' O',Q' x M'->Ext H O M H' O' M'->Wf H' O' M'->zo H' O' M' v x->Q v H')->r x y H Q
structure Lz (r:V->Hp->VK->Prop)(a:AV->MH->AK->Prop):Prop where
 go:∀ {x:V} {dx:AV} {H:Hp} {O:Own} {M:MH} {Q:VK} {Q':AK},Wf H O M->zo H O M x dx->a dx M Q'->(∀ x M' v H' O',Q' x M'->Ext H O M H' O' M'->Wf H' O' M'->zo H' O' M' v x->Q v H')->r x H Q
structure wq (r:List V->Hp->VK->Prop)(a:List AV->MH->AK->Prop):Prop where
 go:∀ {vs:List V} {xs:List AV} {H:Hp} {O:Own} {M:MH} {Q:VK} {Q':AK},Wf H O M->zj H O M vs xs->a xs M Q'->(∀ x M' v H' O',Q' x M'->Ext H O M H' O' M'->Wf H' O' M'->zo H' O' M' v x->Q v H')->r vs H Q
noncomputable def qh (i:Nat):AE:=fun ρ M Q=>∃ x,ρ[i]?=some (some x)/\Q x M
noncomputable def aC (d:Dat):AE:=fun _ M Q=>Q (.d d) M
theorem DW:zG (wu i) (qh i):=⟨fun w e ⟨x,h,q⟩ k=>let ⟨v,h1,h2⟩:=e.get i x h;⟨v,h1,k _ _ _ _ _ q .refl w h2⟩⟩
theorem G8 {i:Int}:zG (tC (.int i)) (aC (.int i)):=⟨fun w _ q k=>k _ _ _ _ _ q .refl w .int⟩
theorem He {i:Bool}:zG (tC (.bl i)) (aC (.bl i)):=⟨fun w _ q k=>k _ _ _ _ _ q .refl w .bl⟩
theorem Gw:zG (tC .non) (aC .non):=⟨fun w _ q k=>k _ _ _ _ _ q .refl w .non⟩
theorem Ik {i:Str}:zG (tC (.str i)) (aC (.str i)):=⟨fun w _ q k=>k _ _ _ _ _ q .refl w .str⟩
theorem GZ {i:String}:zG (tC (.ty i)) (aC (.ty i)):=⟨fun w _ q k=>k _ _ _ _ _ q .refl w .ty⟩
noncomputable def aOp (r:AR2)(a b:AE):AE:=fun ρ M Q=>a ρ M fun x M1=>b ρ M1 fun y M2=>r x y M2 Q
variable {r:R2}
theorem GM {ra:AR2}{t u:TE}{a b:AE}(hr:yH r ra)(h1:zG t a)(h2:zG u b):zG (tOp r t u) (aOp ra a b):=
 ⟨fun w e q k=>h1.go w e q fun x M1 v H1 O1 q1 k1 w1 r1=>h2.go w1 (e.ext k1) q1 fun y M2 u H2 O2 q2 k2 w2 r2=>hr.go w2 (r1.ext k2) r2 q2 fun z M3 v3 H3 O3 q3 k3 w3 r3=>k z M3 v3 H3 O3 q3 ((k1.trans k2).trans k3) w3 r3⟩
noncomputable def aUn (r:AV->MH->AK->Prop)(a:AE):AE:=fun ρ M Q=>a ρ M fun x M1=>r x M1 Q
theorem GD {r:V->Hp->VK->Prop}{ra:AV->MH->AK->Prop}{t:TE}{a:AE}(hr:Lz r ra)(h1:zG t a):zG (tUn r t) (aUn ra a):=
 ⟨fun w e q k=>h1.go w e q fun x M1 v H1 O1 q1 k1 w1 r1=>hr.go w1 r1 q1 fun z M3 v3 H3 O3 q3 k3 w3 r3=>k z M3 v3 H3 O3 q3 (k1.trans k3) w3 r3⟩
noncomputable def jt:AA:=fun _ M Q=>Q [] M
noncomputable def zP (a:AE)(b:AA):AA:=fun ρ M Q=>a ρ M fun x M1=>b ρ M1 fun xs M2=>Q (x :: xs) M2
theorem ER:jc Vp jt:=⟨fun w _ q k=>k _ _ _ _ _ q .refl w .nil⟩
variable {u:TA}
theorem Dc {t:TE} {a:AE}{b:AA}(h1:zG t a)(h2:jc u b):jc (Q2 t u) (zP a b):=
 ⟨fun w e q k=>h1.go w e q fun x M1 v H1 O1 q1 k1 w1 r1=>h2.go w1 (e.ext k1) q1 fun y M2 u H2 O2 q2 k2 w2 r2=>k _ _ _ _ _ q2 (k1.trans k2) w2 (.cons (r1.ext k2) r2)⟩
theorem JC {H:Hp}{O:Own}{M:MH}(is:List Int):zj H O M (is.map V.int) (is.map fun i=>.d (.int i)):=by
 induction is with
 | nil=>exact .nil
 | cons i r ih=>exact .cons .int ih
noncomputable def aCB (r:List AV->MH->AK->Prop)(b:AA):AE:=fun ρ M Q=>b ρ M fun xs M1=>r xs M1 Q
theorem Iv {r:List V->Hp->VK->Prop}{ra:List AV->MH->AK->Prop} {b:AA}(hr:wq r ra)(h2:jc u b):zG (tCB r u) (aCB ra b):=
 ⟨fun w e q k=>h2.go w e q fun x M1 v H1 O1 q1 k1 w1 r1=>hr.go w1 r1 q1 fun z M3 v3 H3 O3 q3 k3 w3 r3=>k z M3 v3 H3 O3 q3 (k1.trans k3) w3 r3⟩
noncomputable abbrev ASp:=List AV->MH->AK->Prop
noncomputable def cSp (a:ASp):Sp:=fun vs H Q _=>∃ xs M O Q',Wf H O M/\zj H O M vs xs/\a xs M Q'/\∀ x M' v H' O',Q' x M'->Ext H O M H' O' M'->Wf H' O' M'->zo H' O' M' v x->Q v H'
noncomputable def Q6 (sp:ASp)(b:AA):AE:=fun ρ M Q=>b ρ M fun xs M1=>sp xs M1 Q
theorem Wo {sp:ASp} {b:AA}(h:jc u b):zG (Zl (cSp sp) [] E0 u) (Q6 sp b):=
 ⟨fun w e q k=>h.go w e q fun x M1 v H1 O1 q1 k1 w1 r1=>⟨x,M1,O1,_,w1,by rw [List.append_nil];exact r1,q1,fun z M3 v3 H3 O3 q3 k3 w3 r3=>k z M3 v3 H3 O3 q3 (k1.trans k3) w3 r3⟩⟩
noncomputable def pur:List AV->Option (List Dat)
 | []=>some []
 | .d x :: r=>match pur r with | some l=>some (x :: l) | none=>none
 | .ref _ :: _=>none
 | .tp _ :: _=>none
theorem DM:pur []=some []:=rfl
theorem WL {x:Dat}{r:List AV}{l:List Dat}(h:pur r=some l):pur (.d x :: r)=some (x :: l):=by unfold pur;rw [h]
theorem zX (l:List Dat):pur (l.map .d)=some l:=by
 induction l with
 | nil=>rfl
 | cons x r ih=>exact WL ih
theorem jL:∀ {xs:List AV} {l:List Dat},pur xs=some l->xs=l.map .d
 | [],l,h=>by cases h;rfl
 | .d x :: r,l,h=>by
  unfold pur at h
  cases e:pur r with
  | none=>rw [e] at h;cases h
  | some m=>rw [e] at h;cases h;rw [jL e];rfl
 | .ref _ :: _,_,h=>by cases h
 | .tp _ :: _,_,h=>by cases h
theorem Ext.shown (w:Wf H O M)(k:Ext H O M H' O' M')(h:H p=none):Ext H O M H' (Zs O' p) M':=
 ⟨fun a o ha e=>⟨(k.fix a o ha e).1,fun z=>(k.fix a o ha e).2 z.2⟩,fun a ha e=>⟨(k.prv a ha e).1,⟨fun z=>w.ne a ha (by rw [z];exact h),(k.prv a ha e).2.1⟩,(k.prv a ha e).2.2⟩,k.mst⟩
theorem Ext.owned (w:Wf H O M)(k:Ext H O M H' O' M')(h:H p=none)(mo:MO):Ext H O M H' O' (mup M' p mo):=
 ⟨k.fix,fun a ha e=>⟨(k.prv a ha e).1,(k.prv a ha e).2.1,by rw [zu (fun z=>w.ne a ha (by rw [z];exact h))];exact (k.prv a ha e).2.2⟩,fun a ha=>by
  by_cases e:a=p
  ·rw [e,zg];exact fun z=>nomatch z
  ·rw [zu e];exact k.mst a ha⟩
theorem Jd (w:Wf H O M)(hO:O p)(hM:M p=none) (hp:H p=some (.lst xs))(r:zj H O M xs l):Wf H O (mup M p (.lst l)):=by
 have km:∀ a,M a ≠ none->mup M p (.lst l) a ≠ none:=fun a ha=>by
  by_cases e:a=p
  ·rw [e,zg];exact fun z=>nomatch z
  ·rw [zu e];exact ha
 refine ⟨fun a u e=>?_,fun a ha=>?_,w.al⟩
 ·by_cases c:a=p
  ·subst c;rw [zg] at e;cases e;exact ⟨xs,hp,r.imp (fun _ _ z h=>⟨h,z⟩) km⟩
  ·rw [zu c] at e
   have:=w.mo a u e
   cases u with
   | lst m=>obtain ⟨ys,h1,h2⟩:=this;exact ⟨ys,h1,h2.imp (fun _ _ z h=>⟨h,z⟩) km⟩
   | dK m=>obtain ⟨ys,h1,h2⟩:=this;exact ⟨ys,h1,h2.1,h2.2.imp (fun _ _ z h=>⟨h,z⟩) km⟩
   | dT m=>obtain ⟨ys,h1,h2⟩:=this;exact ⟨ys,h1,h2.1,h2.2.imp (fun _ _ z h=>⟨h,z⟩) km⟩
   | ins C fs=>
    obtain ⟨dx,ys,h1,h2,h3,h4,h5⟩:=this
    exact ⟨dx,ys,h1,⟨h2.1,h2.2.imp (fun _ _ z h=>⟨h,z⟩) km⟩,h3,by rw [zu (QK h5 hp (fun z=>nomatch z))];exact h4,h5⟩
   | exc C fs=>
    obtain ⟨d,h1,h2⟩:=this
    refine ⟨d,h1,?_⟩
    rcases h2 with h2 | ⟨dx,e1,h2,h3,h4⟩
    ·exact .inl h2
    ·exact .inr ⟨dx,e1,h2,h3,by rw [zu (QK h2 hp (fun z=>nomatch z))];exact h4⟩
   | tb R=>exact this
 ·by_cases c:a=p
  ·rw [c];exact hO
  ·rw [zu c] at ha;exact w.own a ha
noncomputable abbrev AF:=ASt->MH->(List AV->MH->Prop)->Prop
noncomputable def aFz (a:AF):AE:=fun ρ M Q=>a ρ M fun l M'=>∃ ds,pur l=some ds/\Q (.d (.lst ds)) M'
noncomputable def aOw (a:AF):AE:=fun ρ M Q=>a ρ M fun l M'=>∀ p,M p=none->M' p=none->Q (.ref p) (mup M' p (.lst l))
noncomputable def Lo (t:TE):TE:=t
theorem xS {e:Expr}{t:TE}(h:PE X e t):PE X e (Lo t):=h
theorem ZG {t:TE}{a:AF}(h:Kk t a):zG t (aFz a):=
 ⟨fun w e q k=>h.go w e q fun l M' p xs H' O' q1 k1 w1 o1 m1 hp hx r1=>by
  obtain ⟨ds,e1,q2⟩:=q1
  rw [jL e1] at r1
  have r2:=r1.pure
  exact k _ _ _ _ _ q2 (k1.shown w hp) (Wa w1 m1 hx) (Rep.lst (fun z=>z.1 rfl) hx r2.1 fun i x d e1 e2=>(r2.2 i x d e1 e2).imp (xr p))⟩
theorem E4 {t:TE}{a:AF}(h:Kk t a):zG (Lo t) (aOw a):=
 ⟨fun w e q k=>h.go w e q fun l M' p xs H' O' q1 k1 w1 o1 m1 hp hx r1=>k _ _ _ _ _ (q1 p (w.fresh hp).2 m1) (k1.owned w hp _) (Jd w1 o1 m1 hx r1) ⟨rfl,by rw [zg];exact fun z=>nomatch z⟩⟩
noncomputable def HD (b:AA):AF:=fun ρ M Q=>b ρ M fun xs M1=>xs.length<=sizeLine/\Q xs M1
theorem B6 {b:AA}(h:jc u b):Kk (G9 u) (HD b):=
 ⟨fun w e q k=>h.go w e q fun x M1 v H1 O1 q1 k1 w1 r1=>⟨by rw [r1.1];exact q1.1,fun p hp=>
  k x M1 p v _ _ q1.2 (k1.trans (qR w1 hp _)) (kF w1 hp _ (fun _ z=>nomatch z)) (.inl rfl) (w1.fresh hp).2 (by
   cases e0:(_:Hp) p with
   | none=>exact e0
   | some o=>
    exfalso
    rename_i H0 O0 _ M0 _ _
    by_cases c:O0 p
    ·by_cases c2:M0 p=none
     ·exact w1.ne p (k1.prv p c c2).2.1 hp
     ·exact w1.ne p (w1.own p (k1.mst p c2)) hp
    ·rw [(k1.fix p o c e0).1] at hp;cases hp) zk (r1.ext (qR w1 hp _))⟩⟩
noncomputable def VP (b:AA):AE:=fun ρ M Q=>b ρ M fun xs M1=>xs.length<=sizeLine/\∃ ds,pur xs=some ds/\Q (.d (.tup ds)) M1
theorem Dx {b:AA}(h:jc u b):zG (Vd u) (VP b):=
 ⟨fun w e q k=>h.go w e q fun x M1 v H1 O1 q1 k1 w1 r1=>⟨by rw [r1.1];exact q1.1,fun p hp=>by
  obtain ⟨_,ds,e1,q2⟩:=q1
  rw [jL e1] at r1
  have r2:=r1.pure
  exact k _ _ _ _ _ q2 (k1.trans (qC w1 hp _)) (xi w1 hp _) (Rep.tup (w1.fresh hp).1 zk r2.1 fun i x d e1 e2=>(r2.2 i x d e1 e2).ext (qC w1 hp _))⟩⟩
noncomputable def aB (a:AE):AT:=fun ρ M Q=>a ρ M fun x M1=>∃ b,x=.d (.bl b)/\Q b M1
theorem kr {b:Bool}(r:Rep H O v (.bl b)):v=.bl b:=by cases r;rfl
theorem zM {b:Int}(r:Rep H O v (.int b)):v=.int b:=by cases r;rfl
theorem Yb {b:Str}(r:Rep H O v (.str b)):v=.str b:=by cases r;rfl
theorem A0 {b:String}(r:Rep H O v (.ty b)):v=.ty b:=by cases r;rfl
theorem vh (r:Rep H O v .non):v=.non:=by cases r;rfl
theorem Lj {t:TE}{a:AE}(h:zG t a):kK (tB t) (aB a):=⟨fun w e q k=>h.go w e q fun x M1 v H1 O1 ⟨b,e1,q1⟩ k1 w1 r1=>by
 subst e1;exact ⟨b,kr r1,k _ _ _ _ q1 k1 w1⟩⟩
theorem Aa {t:TE}{a:AE}(h:zG t a):kK (K5 t) (aB a):=⟨fun w e q k=>h.go w e q fun x M1 v H1 O1 ⟨b,e1,q1⟩ k1 w1 r1=>by
 subst e1;exact ⟨b,kr r1,k _ _ _ _ q1 k1 w1⟩⟩
noncomputable def wl:AT:=fun _ M Q=>Q true M
theorem VT:kK VI wl:=⟨fun w _ q k=>k _ _ _ _ q .refl w⟩
noncomputable def D5 (a b:AT):AT:=fun ρ M Q=>a ρ M fun c M1=>if c=true then b ρ M1 Q else Q false M1
noncomputable def aOr (a b:AT):AT:=fun ρ M Q=>a ρ M fun c M1=>if c=true then Q true M1 else b ρ M1 Q
noncomputable def Jc (a:AT):AT:=fun ρ M Q=>a ρ M fun c M1=>Q (!c) M1
theorem D6 {t u:TT}{a b:AT}(h1:kK t a)(h2:kK u b):kK (Hv t u) (D5 a b):=⟨fun w e q k=>h1.go w e q fun c M1 H1 O1 q1 k1 w1=>by
 cases c with
 | true=>exact h2.go w1 (e.ext k1) q1 fun c M2 H2 O2 q2 k2 w2=>k _ _ _ _ q2 (k1.trans k2) w2
 | false=>exact k _ _ _ _ q1 k1 w1⟩
theorem Hl {t u:TT}{a b:AT}(h1:kK t a)(h2:kK u b):kK (tOr t u) (aOr a b):=⟨fun w e q k=>h1.go w e q fun c M1 H1 O1 q1 k1 w1=>by
 cases c with
 | false=>exact h2.go w1 (e.ext k1) q1 fun c M2 H2 O2 q2 k2 w2=>k _ _ _ _ q2 (k1.trans k2) w2
 | true=>exact k _ _ _ _ q1 k1 w1⟩
theorem EC {a:AT}(h1:kK t a):kK (G6 t) (Jc a):=⟨fun w e q k=>h1.go w e q fun c M1 H1 O1 q1 k1 w1=>k _ _ _ _ q1 k1 w1⟩
noncomputable def VB (a b:AE):AE:=fun ρ M Q=>a ρ M fun x M1=>∃ c,x=.d (.bl c)/\if c=true then b ρ M1 Q else Q (.d (.bl false)) M1
theorem Bs {t u:TE}{a b:AE}(h1:zG t a)(h2:zG u b):zG (Wu t u) (VB a b):=⟨fun w e q k=>h1.go w e q fun x M1 v H1 O1 ⟨c,e1,q1⟩ k1 w1 r1=>by
 subst e1
 refine ⟨c,kr r1,?_⟩
 cases c with
 | true=>exact h2.go w1 (e.ext k1) q1 fun c M2 v2 H2 O2 q2 k2 w2 r2=>k _ _ _ _ _ q2 (k1.trans k2) w2 r2
 | false=>exact k _ _ _ _ _ q1 k1 w1 .bl⟩
noncomputable def aIf (c:AT)(a b:AE):AE:=fun ρ M Q=>c ρ M fun c M1=>if c=true then a ρ M1 Q else b ρ M1 Q
theorem GN {c:TT}{t u:TE}{ac:AT}{a b:AE}(hc:kK c ac)(h1:zG t a)(h2:zG u b):zG (tIf c t u) (aIf ac a b):=⟨fun w e q k=>hc.go w e q fun c M1 H1 O1 q1 k1 w1=>by
 cases c with
 | true=>exact h1.go w1 (e.ext k1) q1 fun c M2 v2 H2 O2 q2 k2 w2 r2=>k _ _ _ _ _ q2 (k1.trans k2) w2 r2
 | false=>exact h2.go w1 (e.ext k1) q1 fun c M2 v2 H2 O2 q2 k2 w2 r2=>k _ _ _ _ _ q2 (k1.trans k2) w2 r2⟩
noncomputable def Km (r r':AR2)(a b c:AE):AE:=fun ρ M Q=>a ρ M fun x M1=>b ρ M1 fun y M2=>r x y M2 fun z M3=>∃ k,z=.d (.bl k)/\if k=true then c ρ M3 fun u M4=>r' y u M4 Q else Q (.d (.bl false)) M3
theorem YJ {r r':R2}{ar ar':AR2}{t u v:TE}{a b c:AE}(hr:yH r ar)(hr':yH r' ar')(h1:zG t a)(h2:zG u b)(h3:zG v c):zG (Ke r r' t u v) (Km ar ar' a b c):=
 ⟨fun w e q k=>h1.go w e q fun x M1 v H1 O1 q1 k1 w1 r1=>h2.go w1 (e.ext k1) q1 fun y M2 u H2 O2 q2 k2 w2 r2=>hr.go w2 (r1.ext k2) r2 q2 fun z M3 v3 H3 O3 ⟨c,e3,q3⟩ k3 w3 r3=>by
  subst e3
  refine ⟨c,kr r3,?_⟩
  have k13:=(k1.trans k2).trans k3
  cases c with
  | false=>exact k _ _ _ _ _ q3 k13 w3 .bl
  | true=>exact h3.go w3 (e.ext k13) q3 fun z4 M4 v4 H4 O4 q4 k4 w4 r4=>hr'.go w4 ((r2.ext k3).ext k4) r4 q4 fun z5 M5 v5 H5 O5 q5 k5 w5 r5=>k _ _ _ _ _ q5 ((k13.trans k4).trans k5) w5 r5⟩
structure ED (H0:Hp)(O0:Own)(M0:MH)(D:kC)(D':qW):Prop where
 nx:∀ σ H O ρ M,Wf H O M->Er H O M σ ρ->Ext H0 O0 M0 H O M->D'.nx ρ M->D.nx σ H
 rt:∀ v x H O M,Wf H O M->Ext H0 O0 M0 H O M->zo H O M v x->D'.rt x M->D.rt v H
 bk:∀ σ H O ρ M,Wf H O M->Er H O M σ ρ->Ext H0 O0 M0 H O M->D'.bk ρ M->D.bk σ H
 ct:∀ σ H O ρ M,Wf H O M->Er H O M σ ρ->Ext H0 O0 M0 H O M->D'.ct ρ M->D.ct σ H
variable {H0:Hp} {O0:Own}
theorem ED.tr {M0 M1:MH} {D':qW}(E:ED H0 O0 M0 D D')(k:Ext H0 O0 M0 H1 O1 M1):ED H1 O1 M1 D D':=
 ⟨fun σ H O ρ M w e x q=>E.nx σ H O ρ M w e (k.trans x) q,fun v y H O M w x r q=>E.rt v y H O M w (k.trans x) r q,fun σ H O ρ M w e x q=>E.bk σ H O ρ M w e (k.trans x) q,fun σ H O ρ M w e x q=>E.ct σ H O ρ M w e (k.trans x) q⟩
structure jh (t:TS)(a:AS):Prop where
 go:∀ {H0:Hp} {O0:Own} {M0:MH} {D:kC} {D':qW} {σ:St} {H:Hp} {O:Own} {ρ:ASt} {M:MH},Wf H0 O0 M0->Wf H O M->Er H O M σ ρ->Ext H0 O0 M0 H O M->a M0 D' ρ M->ED H0 O0 M0 D D'->t D σ H
noncomputable def jZ:AS:=fun _ D ρ M=>D.nx ρ M
theorem Aj:jh WQ jZ:=⟨fun _ w e x q E=>E.nx _ _ _ _ _ w e x q⟩
noncomputable def xU (a b:AS):AS:=fun B D ρ M=>a B { D with nx:=b B D } ρ M
theorem D8 {t u:TS}{a b:AS}(h1:jh t a)(h2:jh u b):jh (YW t u) (xU a b):=
 ⟨fun w0 w e x q E=>h1.go w0 w e x q ⟨fun σ H O ρ M w e x q=>h2.go w0 w e x q E,E.rt,E.bk,E.ct⟩⟩
noncomputable def W7 (a:AE):AS:=fun _ D ρ M=>a ρ M fun _ M1=>D.nx ρ M1
theorem Wg {t:TE}{a:AE}(h:zG t a):jh (Xt t) (W7 a):=⟨fun _ w e x q E=>h.go w e q fun y M1 v H1 O1 q1 k1 w1 r1=>E.nx _ _ _ _ _ w1 (e.ext k1) (x.trans k1) q1⟩
noncomputable def YG (a:AE):AS:=fun _ D ρ M=>a ρ M D.rt
theorem Ey {t:TE}{a:AE}(h:zG t a):jh (E9 t) (YG a):=⟨fun _ w e x q E=>h.go w e q fun y M1 v H1 O1 q1 k1 w1 r1=>E.rt _ _ _ _ _ w1 (x.trans k1) r1 q1⟩
noncomputable def yr (c:AT)(a b:AS):AS:=fun B D ρ M=>c ρ M fun k M1=>if k=true then a B D ρ M1 else b B D ρ M1
variable {ac:AT}
theorem Fe {c:TT}{t u:TS} {a b:AS}(hc:kK c ac)(h1:jh t a)(h2:jh u b):jh (EV c t u) (yr ac a b):=
 ⟨fun w0 w e x q E=>hc.go w e q fun k M1 H1 O1 q1 k1 w1=>by
  cases k with
  | true=>exact h1.go w0 w1 (e.ext k1) (x.trans k1) q1 E
  | false=>exact h2.go w0 w1 (e.ext k1) (x.trans k1) q1 E⟩
structure yZ (g:TG)(a:AG):Prop where
 go:∀ {v:V} {x:AV} {σ:St} {H:Hp} {O:Own} {ρ:ASt} {M:MH} {Q:St->Hp->Prop} {Q':ASt->MH->Prop},Wf H O M->Er H O M σ ρ->zo H O M v x->a x ρ M Q' ->
  (∀ σ' H' O' ρ' M',Q' ρ' M'->Ext H O M H' O' M'->Wf H' O' M'->Er H' O' M' σ' ρ'->Q σ' H')->g v σ H Q
structure wW (g:TGs)(a:AGs):Prop where
 go:∀ {v:List V} {x:List AV} {σ:St} {H:Hp} {O:Own} {ρ:ASt} {M:MH} {Q:St->Hp->Prop} {Q':ASt->MH->Prop},Wf H O M->Er H O M σ ρ->zj H O M v x->a x ρ M Q' ->
  (∀ σ' H' O' ρ' M',Q' ρ' M'->Ext H O M H' O' M'->Wf H' O' M'->Er H' O' M' σ' ρ'->Q σ' H')->g v σ H Q
noncomputable def kO (i:Nat):AG:=fun x ρ M Q=>Q (ρ.set i (some x)) M
theorem Y8:yZ (Qo i) (kO i):=⟨fun w e r q k=>k _ _ _ _ _ q .refl w (e.set r i)⟩
noncomputable def X4:AGs:=fun xs ρ M Q=>xs=[]/\Q ρ M
noncomputable def xT (a:AG)(b:AGs):AGs:=fun xs ρ M Q=>∃ x r,xs=x :: r/\a x ρ M fun ρ' M'=>b r ρ' M' Q
theorem VQ:wW GI X4:=⟨fun w e r q k=>by obtain ⟨e1,q⟩:=q;subst e1;exact ⟨r.nil_inv,k _ _ _ _ _ q .refl w e⟩⟩
theorem Vg {u:TGs}{a:AG}{b:AGs}(h1:yZ g a)(h2:wW u b):wW (By g u) (xT a b):=⟨fun w e r q k=>by
 obtain ⟨x,r',e1,q⟩:=q;subst e1
 obtain ⟨v,vr,e2,rv,rr⟩:=r.cons_inv
 subst e2
 exact ⟨v,vr,rfl,h1.go w e rv q fun σ' H' O' ρ' M' q1 k1 w1 e1=>h2.go w1 e1 (rr.ext k1) q1 fun σ2 H2 O2 ρ2 M2 q2 k2 w2 e2=>k _ _ _ _ _ q2 (k1.trans k2) w2 e2⟩⟩
noncomputable def XI (n:Nat)(b:AGs):AG:=fun x ρ M Q=>∃ l,x=.d (.tup l)/\l.length=n/\b (l.map .d) ρ M Q
theorem AW {K:PySem.W.Frag}{n:Nat}{u:TGs}{b:AGs}(h:wW u b):yZ (Vs K n u) (XI n b):=⟨fun {v x σ H O ρ M Q Q'} w e r q k=>by
 obtain ⟨l,e1,ln,q⟩:=q;subst e1
 cases (show Rep H O v (.tup l) from r) with
 | @tup a xs _ o1 h1 l1 r1=>exact ⟨a,xs,rfl,SqT.of h1,l1.trans ln,h.go w e (Vm.av ⟨l1,r1⟩) q k⟩⟩
noncomputable def qm (x:AV)(M:MH):Option (List AV):=match x with
 | .d (.lst l)=>some (l.map .d)
 | .ref a=>match M a with
  | some (.lst l)=>some l
  | _=>none
 | _=>none
noncomputable def Dl (x:AV):Option (List AV):=match x with
 | .d (.tup l)=>some (l.map .d)
 | .tp l=>some (l.map tiA)
 | _=>none
noncomputable def qF (x:AV)(M:MH):Option (List AV):=match x with
 | .d (.lst l)=>some (l.map .d)
 | .d (.tup l)=>some (l.map .d)
 | .ref a=>match M a with
  | some (.lst l)=>some l
  | _=>none
 | _=>none
theorem VS (l:List Dat)(M:MH):qm (.d (.lst l)) M=some (l.map .d):=rfl
theorem G0 (l:List Dat):Dl (.d (.tup l))=some (l.map .d):=rfl
theorem Ha (l:List Dat)(M:MH):qF (.d (.lst l)) M=some (l.map .d):=rfl
theorem Hb (l:List Dat)(M:MH):qF (.d (.tup l)) M=some (l.map .d):=rfl
theorem jp (h:M a=some (.lst l)):qm (.ref a) M=some l:=by unfold qm;dsimp only;rw [h]
theorem qk (h:M a=some (.lst l)):qF (.ref a) M=some l:=by unfold qF;dsimp only;rw [h]
theorem Ac {x:AV}{M:MH}{l:List AV}(h:qm x M=some l):(∃ m,x=.d (.lst m)/\l=m.map .d) \/ ∃ a,x=.ref a/\M a=some (.lst l):=by
 cases x with
 | d x=>
  cases x with
  | lst m=>cases h;exact .inl ⟨m,rfl,rfl⟩
  | _=>cases h
 | ref a=>
  unfold qm at h
  dsimp only at h
  cases e:M a with
  | none=>rw [e] at h;cases h
  | some o=>
   rw [e] at h
   cases o with
   | lst m=>cases h;exact .inr ⟨a,rfl,e⟩
   | _=>cases h
 | tp l=>cases h
theorem j7 {x:AV}{M:MH}{l:List AV}(h:qF x M=some l):qm x M=some l \/ ∃ m,x=.d (.tup m)/\l=m.map .d:=by
 cases x with
 | d x=>
  cases x with
  | lst m=>cases h;exact .inl rfl
  | tup m=>cases h;exact .inr ⟨m,rfl,rfl⟩
  | _=>cases h
 | ref a=>exact .inl h
 | tp l=>cases h
theorem qw {x:AV} (w:Wf H O M)(r:zo H O M v x)(h:qm x M=some l):∃ a xs,v=.ref a/\H a=some (.lst xs)/\zj H O M xs l:=by
 rcases Ac h with ⟨m,rfl,rfl⟩ | ⟨a,rfl,e⟩
 ·cases (show Rep H O v (.lst m) from r) with
  | @lst a xs _ o1 h1 l1 r1=>exact ⟨a,xs,rfl,h1,Vm.av ⟨l1,r1⟩⟩
 ·obtain ⟨xs,h1,r1⟩:=w.mo a _ e
  exact ⟨a,xs,r.1,h1,r1⟩
theorem VY.av {m:List (Dat ⊕ Addr)}(r:VY H O M xs m):zj H O M xs (m.map tiA):=⟨by rw [List.length_map];exact r.1,fun i x d e1 e2=>by
 rw [List.getElem?_map] at e2
 obtain ⟨t,e3,rfl⟩:=Option.map_eq_some_iff.mp e2
 have:=r.2 i x t e1 e3
 cases t <;> exact this⟩
theorem jj {H:Hp}{O:Own}{M:MH}{v:V}{x:AV}{l:List AV}(r:zo H O M v x)(h:Dl x=some l):∃ a xs,v=.ref a/\H a=some (.tup xs)/\zj H O M xs l:=by
 cases x with
 | ref a=>cases h
 | tp m=>
  cases h
  obtain ⟨a,xs,e,_,h1,r1⟩:=r
  exact ⟨a,xs,e,h1,r1.av⟩
 | d x=>
  cases x with
  | tup m=>
   cases h
   cases (show Rep H O v (.tup m) from r) with
   | @tup a xs _ o1 h1 l1 r1=>exact ⟨a,xs,rfl,h1,Vm.av ⟨l1,r1⟩⟩
  | _=>cases h
theorem Zt {x:AV} (w:Wf H O M)(r:zo H O M v x)(h:qF x M=some l):∃ a xs,v=.ref a/\(H a=some (.lst xs) \/ H a=some (.tup xs))/\zj H O M xs l:=by
 rcases j7 h with e | ⟨m,rfl,rfl⟩
 ·obtain ⟨a,xs,h1,h2,h3⟩:=qw w r e;exact ⟨a,xs,h1,.inl h2,h3⟩
 ·obtain ⟨a,xs,h1,h2,h3⟩:=jj (l:=m.map .d) r rfl;exact ⟨a,xs,h1,.inr h2,h3⟩
structure Jl (t:QE)(a:AV->AV->AV->MH->(MH->Prop)->Prop):Prop where
 go:∀ {o i v:V} {ao ai av:AV} {H:Hp} {O:Own} {M:MH} {Q:Hp->Prop} {Q':MH->Prop},Wf H O M->zo H O M o ao->zo H O M i ai->zo H O M v av->a ao ai av M Q'->(∀ M' H' O',Q' M'->Ext H O M H' O' M'->Wf H' O' M'->Q H')->t o i v H Q
noncomputable def FH (a b:AE)(s:AV->AV->AV->MH->(MH->Prop)->Prop):AG:=fun x ρ M Q=>a ρ M fun o M1=>b ρ M1 fun i M2=>s o i x M2 fun M3=>Q ρ M3
theorem As {to ti:TE}{t:QE}{a b:AE}{s:AV->AV->AV->MH->(MH->Prop)->Prop}(h1:zG to a)(h2:zG ti b)(h3:Jl t s):yZ (HC to ti t) (FH a b s):=⟨fun w e r q k=>
 h1.go w e q fun x M1 v H1 O1 q1 k1 w1 r1=>h2.go w1 (e.ext k1) q1 fun y M2 u H2 O2 q2 k2 w2 r2=>h3.go w2 (r1.ext k2) r2 (r.ext (k1.trans k2)) q2 fun M3 H3 O3 q3 k3 w3=>k _ _ _ _ _ q3 ((k1.trans k2).trans k3) w3 (e.ext ((k1.trans k2).trans k3))⟩
theorem qZ {o:MO}(h:M p=some o):M p ≠ none:=by rw [h];exact fun z=>nomatch z
noncomputable def asL:AV->AV->AV->MH->(MH->Prop)->Prop:=fun o i v M Q=>∃ p l k j,o=.ref p/\i=.d (.int k)/\M p=some (.lst l)/\ixN l.length k=some j/\Q (mup M p (.lst (l.set j v)))
theorem Wx:Jl JW asL:=⟨fun w ro ri rv q k=>by
 obtain ⟨p,l,n,j,rfl,rfl,hm,hj,q⟩:=q
 obtain ⟨xs,hx,rx⟩:=w.mo p _ hm
 have np:=qZ hm
 refine ⟨n,zM ri,p,ro.1,xs,hx,j,by rw [rx.1];exact hj,k _ _ _ q (xo w np _ _) (Jr w np (fun _ z=>nomatch z) ⟨_,zk,(rx.set rv j).ext (xo w np _ _)⟩)⟩⟩
noncomputable def DB (a:AE)(g:AG):AS:=fun _ D ρ M=>a ρ M fun x M1=>g x ρ M1 D.nx
variable {ag:AG}
theorem Dy {t:TE} {a:AE} (h:zG t a)(hg:yZ g ag):jh (Zv t g) (DB a ag):=⟨fun _ w e x q E=>h.go w e q fun y M1 v H1 O1 q1 k1 w1 r1=>hg.go w1 (e.ext k1) r1 q1 fun σ2 H2 O2 ρ2 M2 q2 k2 w2 e2=>E.nx _ _ _ _ _ w2 e2 ((x.trans k1).trans k2) q2⟩
noncomputable def Lp (i j:Nat)(a:AA):AS:=fun _ D ρ M=>a ρ M fun xs M1=>∃ x y,xs=[x,y]/\D.nx ((ρ.set i (some x)).set j (some y)) M1
theorem Dz {t:TA}{a:AA}(h:jc t a):jh (Ho i j t) (Lp i j a):=⟨fun _ w e x q E=>h.go w e q fun ys M1 vs H1 O1 q1 k1 w1 r1=>by
 obtain ⟨y,z,rfl,q2⟩:=q1
 obtain ⟨v1,r',rfl,a1,r2⟩:=r1.cons_inv
 obtain ⟨v2,r',rfl,a2,r3⟩:=r2.cons_inv
 rw [r3.nil_inv]
 exact ⟨v1,v2,rfl,E.nx _ _ _ _ _ w1 (((e.ext k1).set a1 i).set a2 j) (x.trans k1) q2⟩⟩
noncomputable def FC (i j m:Nat)(a:AA):AS:=fun _ D ρ M=>a ρ M fun xs M1=>∃ x y z,xs=[x,y,z]/\D.nx (((ρ.set i (some x)).set j (some y)).set m (some z)) M1
theorem V1 {i j m:Nat}{t:TA}{a:AA}(h:jc t a):jh (Wj i j m t) (FC i j m a):=⟨fun _ w e x q E=>h.go w e q fun ys M1 vs H1 O1 q1 k1 w1 r1=>by
 obtain ⟨y,z,u,rfl,q2⟩:=q1
 obtain ⟨v1,r',rfl,a1,r2⟩:=r1.cons_inv
 obtain ⟨v2,r',rfl,a2,r3⟩:=r2.cons_inv
 obtain ⟨v3,r',rfl,a3,r4⟩:=r3.cons_inv
 rw [r4.nil_inv]
 exact ⟨v1,v2,v3,rfl,E.nx _ _ _ _ _ w1 ((((e.ext k1).set a1 i).set a2 j).set a3 m) (x.trans k1) q2⟩⟩
structure F4 (t:TIp)(a:AR2):Prop where
 go:∀ {x y:V} {dx dy:AV} {H:Hp} {O:Own} {M:MH} {Q:VK} {Q':AK},Wf H O M->zo H O M x dx->zo H O M y dy->a dx dy M Q'->(∀ x M' v H' O',Q' x M'->Ext H O M H' O' M'->Wf H' O' M'->zo H' O' M' v x->Q v H')->t x y H Q
noncomputable def Gv (ao ai ae:AE)(gt ip:AR2)(st:AV->AV->AV->MH->(MH->Prop)->Prop):AS:=fun _ D ρ M=>ao ρ M fun o M1=>ai ρ M1 fun i M2=>gt o i M2 fun x M3=>ae ρ M3 fun y M4=>ip x y M4 fun z M5=>st o i z M5 fun M6=>D.nx ρ M6
theorem WN {to ti te:TE}{tg:V->V->Hp->VK->Prop}{tip:TIp}{ts:QE}{ao ai ae:AE}{gt ip:AR2}{st:AV->AV->AV->MH->(MH->Prop)->Prop}(h1:zG to ao)(h2:zG ti ai)(h3:yH tg gt)(h4:zG te ae)(h5:F4 tip ip)(h6:Jl ts st) :
  jh (AZ to ti te tg tip ts) (Gv ao ai ae gt ip st):=⟨fun _ w e x q E=>h1.go w e q fun o M1 v1 H1 O1 q1 k1 w1 r1=>h2.go w1 (e.ext k1) q1 fun i M2 v2 H2 O2 q2 k2 w2 r2=>h3.go w2 (r1.ext k2) r2 q2 fun y M3 v3 H3 O3 q3 k3 w3 r3=>
  h4.go w3 (e.ext ((k1.trans k2).trans k3)) q3 fun z M4 v4 H4 O4 q4 k4 w4 r4=>h5.go w4 (r3.ext k4) r4 q4 fun z5 M5 v5 H5 O5 q5 k5 w5 r5=>h6.go w5 (r1.ext (((k2.trans k3).trans k4).trans k5)) (r2.ext ((k3.trans k4).trans k5)) r5 q5 fun M6 H6 O6 q6 k6 w6=>
   E.nx _ _ _ _ _ w6 (e.ext (((((k1.trans k2).trans k3).trans k4).trans k5).trans k6)) (x.trans (((((k1.trans k2).trans k3).trans k4).trans k5).trans k6)) q6⟩
noncomputable def yx (J:It)(H:Hp)(O:Own)(M:MH)(l:List AV)(G:MH->Prop):Prop:=
 ∀ (H':Hp) (O':Own) (M':MH),(∀ a o,¬ O a->H a=some o->H' a=some o/\¬ O' a)->(∀ a,M a ≠ none->M' a ≠ none)->Wf H' O' M'->G M'->∀ i:Nat,(i=l.length->J.stop i H') /\
  ∀ y,l[i]?=some y->J.go i H'/\∀ x H'',J.yld i H' x H''->Ext H' O' M' H'' O' M'/\Wf H'' O' M'/\zo H'' O' M' x y
structure Qy (wi:TI)(ai:AI):Prop where
 go:∀ {σ:St} {H:Hp} {O:Own} {ρ:ASt} {M:MH} {R:It->Hp->Prop} {R':List AV->(MH->Prop)->MH->Prop},Wf H O M->Er H O M σ ρ->ai ρ M R'->(∀ l G M' J H' O',R' l G M'->Ext H O M H' O' M'->Wf H' O' M'->yx J H' O' M' l G->R J H')->wi σ H R
noncomputable def Lu (ag:AG)(ab:AS)(B:MH)(D:qW)(G:MH->Prop)(l:List AV)(ρ:ASt)(M:MH):Prop:=
 ∃ Pv:Nat->ASt->MH->Prop,Pv 0 ρ M/\(∀ i x ρ M,l[i]?=some x->Pv i ρ M->G M/\ag x ρ M fun ρ' M'=>ab B { D with nx:=Pv (i+1),ct:=Pv (i+1),bk:=D.nx } ρ' M')/\∀ ρ M,Pv l.length ρ M->G M/\D.nx ρ M
noncomputable def Ht (ai:AI)(ag:AG)(ab:AS):AS:=fun _ D ρ M=>ai ρ M fun l G M1=>Lu ag ab M1 D G l ρ M1
variable {ai:AI}
theorem Fj {t:TS} {ab:AS}(hi:Qy wi ai)(hg:yZ g ag)(hb:jh t ab):jh (DO wi g t) (Ht ai ag ab):=⟨fun {H0 O0 M0 D D' σ H O ρ M} w0 w e x q E=>by
 rw [ZJ]
 refine hi.go w e q fun l G M1 J H1 O1 q1 k1 w1 hj=>?_
 have E1:=E.tr (x.trans k1)
 obtain ⟨Pv,p0,ps,pd⟩:=q1
 refine ⟨fun i m σ H=>m=l.length - i/\i<=l.length/\∃ O ρ M,Wf H O M/\Er H O M σ ρ/\Ext H1 O1 M1 H O M/\Pv i ρ M,⟨l.length,by simp,Nat.zero_le _,O1,ρ,M1,w1,e.ext k1,.refl,p0⟩,?_⟩
 rintro i m σ H ⟨rfl,hi,O,ρ,M,w,e,x,hf⟩
 by_cases hil:i<l.length
 ·have hy:l[i]?=some l[i]:=List.getElem?_eq_getElem hil
  obtain ⟨hG,q2⟩:=ps i l[i] ρ M hy hf
  obtain ⟨j1,j2⟩:=(hj H O M x.fix x.mst w hG i).2 l[i] hy
  refine .inr ⟨j1,fun σ' H'=>∃ O ρ M,Wf H' O M/\Er H' O M σ' ρ/\Ext H1 O1 M1 H' O M/\Pv (i+1) ρ M,fun σ' H' z=>⟨l.length - (i+1),by omega,rfl,hil,z⟩,fun v H' hv=>?_⟩
  obtain ⟨k2,w2,r2⟩:=j2 v H' hv
  refine hg.go w2 (e.ext k2) r2 q2 fun σ3 H3 O3 ρ3 M3 q3 k3 w3 e3=>?_
  exact hb.go w1 w3 e3 ((x.trans k2).trans k3) q3 ⟨fun σ H O ρ M w e x q=>⟨O,ρ,M,w,e,x,q⟩,E1.rt,E1.nx,fun σ H O ρ M w e x q=>⟨O,ρ,M,w,e,x,q⟩⟩
 ·have e0:i=l.length:=by omega
  subst e0
  obtain ⟨hG,q2⟩:=pd ρ M hf
  exact .inl ⟨(hj H O M x.fix x.mst w hG l.length).1 rfl,E1.nx _ _ _ _ _ w e x q2⟩⟩
theorem wc {H H1:Hp}{O O1:Own}{M M1:MH}(w1:Wf H1 O1 M1)(k1:Ext H O M H1 O1 M1){p:Addr}(hp:H1 p=none):H p=none:=by
 cases e0:H p with
 | none=>rfl
 | some o=>
  exfalso
  by_cases c:O p
  ·by_cases c2:M p=none
   ·exact w1.ne p (k1.prv p c c2).2.1 hp
   ·exact w1.ne p (w1.own p (k1.mst p c2)) hp
  ·rw [(k1.fix p o c e0).1] at hp;cases hp
theorem Yh {x:AV} (r:zo H O M (.ref a) x)(h:qm x M=some l):yx (Itl K a) H O M l (fun M'=>qm x M'=some l):=by
 intro H' O' M' fix mst w' hG i
 obtain ⟨a',xs,e,h1,r1⟩:=qw w' (r.imp fix mst) hG
 cases e
 refine ⟨fun e=>⟨xs,SqL.of h1,by rw [r1.1];omega⟩,fun y hy=>?_⟩
 obtain ⟨v,hv,rv⟩:=r1.get hy
 refine ⟨⟨xs,v,SqL.of h1,hv⟩,fun z H'' hz=>?_⟩
 obtain ⟨e1,e2⟩:=hz
 subst e1
 have:=e2 xs (SqL.of h1)
 rw [hv] at this;cases this
 exact ⟨.refl,w',rv⟩
theorem Bq {x:AV} (r:zo H O M (.ref a) x)(h:Dl x=some l):yx (Itt K a) H O M l (fun _=>True):=by
 intro H' O' M' fix mst w' hG i
 obtain ⟨a',xs,e,h1,r1⟩:=jj (r.imp fix mst) h
 cases e
 refine ⟨fun e=>⟨xs,SqT.of h1,by rw [r1.1];omega⟩,fun y hy=>?_⟩
 obtain ⟨v,hv,rv⟩:=r1.get hy
 refine ⟨⟨xs,v,SqT.of h1,hv⟩,fun z H'' hz=>?_⟩
 obtain ⟨e1,e2⟩:=hz
 subst e1
 have:=e2 xs (SqT.of h1)
 rw [hv] at this;cases this
 exact ⟨.refl,w',rv⟩
noncomputable def aiS (a:AE):AI:=fun ρ M R=>a ρ M fun x M1=>∃ l,qF x M1=some l/\R l (fun M'=>qF x M'=some l) M1
variable {J:It}
theorem yx.mono {G G':MH->Prop}(h:yx J H O M l G)(k:∀ M,G' M->G M):yx J H O M l G':=fun H' O' M' fix mst w' hG=>h H' O' M' fix mst w' (k _ hG)
theorem G7 {t:TE}{a:AE}(h:zG t a):Qy (iLT K t) (aiS a):=⟨fun w e q k=>h.go w e q fun x M1 v H1 O1 ⟨l,hl,q1⟩ k1 w1 r1=>by
 rcases j7 hl with hl' | ⟨m,rfl,rfl⟩
 ·obtain ⟨a,xs,rfl,h1,_⟩:=qw w1 r1 hl'
  refine ⟨a,rfl,.inl ⟨⟨xs,SqL.of h1⟩,k _ _ _ _ _ _ q1 k1 w1 ((Yh r1 hl').mono fun M hM=>?_)⟩⟩
  rcases j7 hM with z | ⟨m,rfl,rfl⟩
  ·exact z
  ·cases hl'
 ·obtain ⟨a,xs,rfl,h1,_⟩:=jj (l:=m.map .d) r1 rfl
  exact ⟨a,rfl,.inr ⟨⟨xs,SqT.of h1⟩,k _ _ _ _ _ _ q1 k1 w1 ((Bq r1 rfl).mono fun _ _=>trivial)⟩⟩⟩
noncomputable def wt (lo c:Int)(n:Nat):List AV:=(List.range n).map fun (k:Nat)=>.d (.int (lo+(k:Int) * c))
theorem kf (lo c:Int)(n:Nat):(wt lo c n).length=n:=by simp [wt]
variable {y:AV}
theorem kI {lo c:Int} (h:(wt lo c n)[i]?=some y):i<n/\y=.d (.int (lo+(i:Int) * c)):=by
 have hi:=(List.getElem?_eq_some_iff.mp h).1
 rw [kf] at hi
 unfold wt at h
 rw [List.getElem?_map,List.getElem?_range hi] at h
 cases h
 exact ⟨hi,rfl⟩
theorem Ar (lo:Int)(n:Nat):yx (Itr lo n) H O M (wt lo 1 n) (fun _=>True):=by
 intro H' O' M' fix mst w' hG i
 refine ⟨fun e=>by rw [kf] at e;exact Nat.le_of_eq e.symm,fun y hy=>?_⟩
 obtain ⟨hi,rfl⟩:=kI hy
 refine ⟨hi,fun z H'' hz=>?_⟩
 obtain ⟨rfl,rfl⟩:=hz
 rw [Int.mul_one]
 exact ⟨.refl,w',.int⟩
noncomputable def IC (a:AA):AI:=fun ρ M R=>a ρ M fun xs M1=>∃ j:Int,xs=[.d (.int j)]/\-(2 ^ 62)<=j/\j<2 ^ 62/\R (wt 0 1 j.toNat) (fun _=>True) M1
theorem Em {t:TA}{a:AA}(h:jc t a):Qy (BW t) (IC a):=⟨fun w e q k=>h.go w e q fun x M1 v H1 O1 ⟨j,e1,j1,j2,q1⟩ k1 w1 r1=>by
 subst e1
 obtain ⟨v1,r',rfl,a1,r2⟩:=r1.cons_inv
 rw [r2.nil_inv,zM a1]
 exact ⟨j,rfl,j1,j2,k _ _ _ _ _ _ q1 k1 w1 (Ar _ _)⟩⟩
noncomputable def wm (m:List Dat):List AV:=(List.range m.length).map fun (i:Nat)=>.d (.tup [.int (i:Int),m.getD i .non])
theorem jI (m:List Dat):(wm m).length=m.length:=by simp [wm]
theorem kh {m:List Dat} (h:(wm m)[i]?=some y):∃ d,m[i]?=some d/\y=.d (.tup [.int (i:Int),d]):=by
 have hi:=(List.getElem?_eq_some_iff.mp h).1
 rw [jI] at hi
 unfold wm at h
 rw [List.getElem?_map,List.getElem?_range hi] at h
 cases h
 exact ⟨m[i],List.getElem?_eq_getElem hi,by dsimp only;rw [List.getD_eq_getElem?_getD,List.getElem?_eq_getElem hi];rfl⟩
theorem yc (w:Wf H O M) (hp:H p=none){x y:V}{d e:Dat}(r1:Rep H O x d)(r2:Rep H O y e):Ext H O M (upd H p (.tup [x,y])) O M/\Wf (upd H p (.tup [x,y])) O M/\zo (upd H p (.tup [x,y])) O M (.ref p) (.d (.tup [d,e])):=
 ⟨qC w hp _,xi w hp _,Rep.tup (w.fresh hp).1 zk rfl fun i z f h1 h2=>by
  match i,h1,h2 with
  | 0,h1,h2=>cases h1;cases h2;exact r1.ext (qC w hp _)
  | 1,h1,h2=>cases h1;cases h2;exact r2.ext (qC w hp _)
  | (i+2),h1,_=>cases h1⟩
theorem Vk {x:AV}{m:List Dat}(r:zo H O M (.ref a) x)(h:qm x M=some (m.map .d)):yx (Ite K a) H O M (wm m) (fun M'=>qm x M'=some (m.map .d)):=by
 intro H' O' M' fix mst w' hG i
 obtain ⟨a',xs,e,h1,r1⟩:=qw w' (r.imp fix mst) hG
 cases e
 have l1:=r1.1
 rw [List.length_map] at l1
 refine ⟨fun e=>⟨xs,SqL.of h1,by rw [jI] at e;omega⟩,fun y hy=>?_⟩
 obtain ⟨d,hd,rfl⟩:=kh hy
 obtain ⟨v,hv,rv⟩:=r1.get (i:=i) (d:=.d d) (by rw [List.getElem?_map,hd];rfl)
 refine ⟨⟨xs,v,SqL.of h1,hv⟩,fun z H'' hz=>?_⟩
 obtain ⟨p,x',hp,rfl,e2,rfl⟩:=hz
 have:=e2 xs (SqL.of h1)
 rw [hv] at this;cases this
 exact yc w' hp .int rv
theorem Kl {m:List Dat}(r:zo H O M (.ref a) (.d (.tup m))):yx (GW K a) H O M (wm m) (fun _=>True):=by
 intro H' O' M' fix mst w' hG i
 obtain ⟨a',xs,e,h1,r1⟩:=jj (l:=m.map .d) (r.imp fix mst) rfl
 cases e
 have l1:=r1.1
 rw [List.length_map] at l1
 refine ⟨fun e=>⟨xs,SqT.of h1,by rw [jI] at e;omega⟩,fun y hy=>?_⟩
 obtain ⟨d,hd,rfl⟩:=kh hy
 obtain ⟨v,hv,rv⟩:=r1.get (i:=i) (d:=.d d) (by rw [List.getElem?_map,hd];rfl)
 refine ⟨⟨xs,v,SqT.of h1,hv⟩,fun z H'' hz=>?_⟩
 obtain ⟨p,x',hp,rfl,e2,rfl⟩:=hz
 have:=e2 xs (SqT.of h1)
 rw [hv] at this;cases this
 exact yc w' hp .int rv
noncomputable def aiE (a:AA):AI:=fun ρ M R=>a ρ M fun xs M1=>∃ x l m,xs=[x]/\qF x M1=some l/\pur l=some m/\R (wm m) (fun M'=>qF x M'=some l) M1
variable {l':List AV}
theorem KM {x:AV} (h:qm x M=some l)(h':qF x M'=some l'):qm x M'=some l':=by
 rcases j7 h' with z | ⟨m,rfl,rfl⟩
 ·exact z
 ·cases h
theorem G5 {t:TA}{a:AA}(h:jc t a):Qy (ZD K t) (aiE a):=⟨fun w e q k=>h.go w e q fun xs M1 v H1 O1 ⟨x,l,m,e1,hl,hm,q1⟩ k1 w1 r1=>by
 subst e1
 obtain ⟨v1,r',rfl,a1,r2⟩:=r1.cons_inv
 rw [r2.nil_inv]
 rw [jL hm] at hl q1
 rcases j7 hl with hl' | ⟨m',rfl,e2⟩
 ·obtain ⟨a,xs,rfl,h1,_⟩:=qw w1 a1 hl'
  exact ⟨a,rfl,.inl ⟨⟨xs,SqL.of h1⟩,k _ _ _ _ _ _ q1 k1 w1 ((Vk a1 hl').mono fun M hM=>KM hl' hM)⟩⟩
 ·obtain rfl:m=m':=by have:=congrArg pur e2;rw [zX,zX] at this;cases this;rfl
  obtain ⟨a,xs,rfl,h1,_⟩:=jj (l:=m.map .d) a1 rfl
  exact ⟨a,rfl,.inr ⟨⟨xs,SqT.of h1⟩,k _ _ _ _ _ _ q1 k1 w1 ((Kl a1).mono fun _ _=>trivial)⟩⟩⟩
noncomputable def Z8 (m n:List Dat):List AV:=(List.range (min m.length n.length)).map fun (i:Nat)=>.d (.tup [m.getD i .non,n.getD i .non])
theorem kN (m n:List Dat):(Z8 m n).length=min m.length n.length:=by simp [Z8]
theorem wn {m n:List Dat} (h:(Z8 m n)[i]?=some y):∃ d e,m[i]?=some d/\n[i]?=some e/\y=.d (.tup [d,e]):=by
 have hi:=(List.getElem?_eq_some_iff.mp h).1
 rw [kN] at hi
 unfold Z8 at h
 rw [List.getElem?_map,List.getElem?_range hi] at h
 cases h
 have h1:i<m.length:=by omega
 have h2:i<n.length:=by omega
 exact ⟨m[i],n[i],List.getElem?_eq_getElem h1,List.getElem?_eq_getElem h2,by dsimp only;rw [List.getD_eq_getElem?_getD,List.getElem?_eq_getElem h1,List.getD_eq_getElem?_getD,List.getElem?_eq_getElem h2];rfl⟩
theorem Aw {x y:AV}{m n:List Dat}(r:zo H O M (.ref a) x)(h:qm x M=some (m.map .d))(r':zo H O M (.ref b) y)(h':qm y M=some (n.map .d)):yx (Itz K a b) H O M (Z8 m n) (fun M'=>qm x M'=some (m.map .d)/\qm y M'=some (n.map .d)):=by
 intro H' O' M' fix mst w' hG i
 obtain ⟨a',xs,e,h1,r1⟩:=qw w' (r.imp fix mst) hG.1
 cases e
 obtain ⟨b',ys,e,h2,r2⟩:=qw w' (r'.imp fix mst) hG.2
 cases e
 have l1:=r1.1
 have l2:=r2.1
 rw [List.length_map] at l1 l2
 refine ⟨fun e=>⟨xs,ys,SqL.of h1,SqL.of h2,by rw [kN] at e;omega⟩,fun z hz=>?_⟩
 obtain ⟨d,f,hd,hf,rfl⟩:=wn hz
 obtain ⟨v,hv,rv⟩:=r1.get (i:=i) (d:=.d d) (by rw [List.getElem?_map,hd];rfl)
 obtain ⟨u,hu,ru⟩:=r2.get (i:=i) (d:=.d f) (by rw [List.getElem?_map,hf];rfl)
 refine ⟨⟨xs,ys,v,u,SqL.of h1,SqL.of h2,hv,hu⟩,fun z H'' hz=>?_⟩
 obtain ⟨p,x',y',hp,rfl,e2,e3,rfl⟩:=hz
 have:=e2 xs (SqL.of h1)
 rw [hv] at this;cases this
 have:=e3 ys (SqL.of h2)
 rw [hu] at this;cases this
 exact yc w' hp rv ru
theorem Y1 {m n:List Dat}(hmn:m.length<=n.length)(r:zo H O M (.ref a) (.d (.tup m)))(r':zo H O M (.ref b) (.d (.tup n))):yx (HQ K a b) H O M (Z8 m n) (fun _=>True):=by
 intro H' O' M' fix mst w' hG i
 obtain ⟨a',xs,e,h1,r1⟩:=jj (l:=m.map .d) (r.imp fix mst) rfl
 cases e
 obtain ⟨b',ys,e,h2,r2⟩:=jj (l:=n.map .d) (r'.imp fix mst) rfl
 cases e
 have l1:=r1.1
 have l2:=r2.1
 rw [List.length_map] at l1 l2
 refine ⟨fun e=>⟨xs,SqT.of h1,by rw [kN] at e;omega⟩,fun z hz=>?_⟩
 obtain ⟨d,f,hd,hf,rfl⟩:=wn hz
 obtain ⟨v,hv,rv⟩:=r1.get (i:=i) (d:=.d d) (by rw [List.getElem?_map,hd];rfl)
 obtain ⟨u,hu,ru⟩:=r2.get (i:=i) (d:=.d f) (by rw [List.getElem?_map,hf];rfl)
 refine ⟨⟨xs,ys,v,u,SqT.of h1,SqT.of h2,hv,hu⟩,fun z H'' hz=>?_⟩
 obtain ⟨p,x',y',hp,rfl,e2,e3,rfl⟩:=hz
 have:=e2 xs (SqT.of h1)
 rw [hv] at this;cases this
 have:=e3 ys (SqT.of h2)
 rw [hu] at this;cases this
 exact yc w' hp rv ru
noncomputable def HS (a:AA):AI:=fun ρ M R=>a ρ M fun xs M1=>∃ x y m n,xs=[x,y]/\((qm x M1=some (List.map AV.d m)/\qm y M1=some (List.map AV.d n)) \/ (x=.d (.tup m)/\y=.d (.tup n)/\m.length<=n.length))/\R (Z8 m n) (fun M'=>qm x M'=qm x M1/\qm y M'=qm y M1) M1
theorem Ek {t:TA}{a:AA}(h:jc t a):Qy (Jt K t) (HS a):=⟨fun w e q k=>h.go w e q fun xs M1 v H1 O1 ⟨x,y,m,n,e1,hxy,q1⟩ k1 w1 r1=>by
 subst e1
 obtain ⟨v1,r',rfl,a1,r2⟩:=r1.cons_inv
 obtain ⟨v2,r',rfl,a2,r3⟩:=r2.cons_inv
 rw [r3.nil_inv]
 rcases hxy with ⟨hx,hy⟩ | ⟨rfl,rfl,hmn⟩
 ·obtain ⟨a,xs,rfl,h1,_⟩:=qw w1 a1 hx
  obtain ⟨b,ys,rfl,h2,_⟩:=qw w1 a2 hy
  exact ⟨a,b,rfl,.inl ⟨⟨xs,SqL.of h1⟩,⟨ys,SqL.of h2⟩,k _ _ _ _ _ _ q1 k1 w1 ((Aw a1 hx a2 hy).mono fun _ z=>⟨z.1.trans hx,z.2.trans hy⟩)⟩⟩
 ·obtain ⟨a,xs,rfl,h1,_⟩:=jj (l:=m.map .d) a1 rfl
  obtain ⟨b,ys,rfl,h2,_⟩:=jj (l:=n.map .d) a2 rfl
  exact ⟨a,b,rfl,.inr ⟨⟨xs,SqT.of h1⟩,⟨ys,SqT.of h2⟩,k _ _ _ _ _ _ q1 k1 w1 ((Y1 hmn a1 a2).mono fun _ _=>trivial)⟩⟩⟩
structure vb (D:Addr)(H:Hp)(O:Own)(M:MH)(H':Hp)(O':Own)(M':MH):Prop where
 fix:∀ a o,¬ O a->H a=some o->H' a=some o/\¬ O' a
 prv:∀ a,a ≠ D->O a->M a=none->H' a=H a/\O' a/\M' a=none
 mst:∀ a,M a ≠ none->M' a ≠ none
theorem Ext.x {D:Addr} (k:Ext H O M H' O' M'):vb D H O M H' O' M':=⟨k.fix,fun a _=>k.prv a,k.mst⟩
theorem vb.trans {D:Addr} {M M1 M2:MH}(a:vb D H O M H1 O1 M1)(b:vb D H1 O1 M1 H2 O2 M2):vb D H O M H2 O2 M2:=
 ⟨fun x o h e=>let ⟨e1,h1⟩:=a.fix x o h e;b.fix x o h1 e1,fun x hx h e=>by
  obtain ⟨e1,h1,n1⟩:=a.prv x hx h e
  obtain ⟨e2,h2,n2⟩:=b.prv x hx h1 n1
  exact ⟨e2.trans e1,h2,n2⟩,fun x h=>b.mst x (a.mst x h)⟩
theorem vb.set {D:Addr} (hO:O D)(o:HO):vb D H O M (upd H D o) O M:=⟨vj hO o,fun a ha h e=>⟨zh ha,h,e⟩,fun _ h=>h⟩
theorem Er.imp (e:Er H O M σ ρ)(k:∀ a o,¬ O a->H a=some o->H' a=some o/\¬ O' a)(hm:∀ a,M a ≠ none->M' a ≠ none):Er H' O' M' σ ρ:=⟨e.len,fun i x h=>let ⟨v,h1,h2⟩:=e.get i x h;⟨v,h1,h2.imp k hm⟩⟩
noncomputable abbrev ATR:=List AV->ASt->MH->(List AV->ASt->MH->Prop)->Prop
structure Yd (D:Addr)(tr:TR)(a:ATR):Prop where
 go:∀ {σ:St} {H:Hp} {O:Own} {ρ:ASt} {M:MH} {acc:List AV} {ys:List V} {N:St->Hp->Prop} {N':List AV->ASt->MH->Prop},Wf H O M->Er H O M σ ρ->O D->M D=none->H D=some (.lst ys)->zj H O M ys acc->a acc ρ M N' ->
  (∀ acc' ρ' M' σ' H' O' ys',N' acc' ρ' M'->vb D H O M H' O' M'->Wf H' O' M'->Er H' O' M' σ' ρ'->O' D->M' D=none->H' D=some (.lst ys')->zj H' O' M' ys' acc'->N σ' H')->tr σ H N
noncomputable def xE (a:AE):ATR:=fun acc ρ M N=>a ρ M fun x M1=>acc.length<sizeLine/\N (acc ++ [x]) ρ M1
theorem QQ {D:Addr}{t:TE}{a:AE}(h:zG t a):Yd D (Jm t D) (xE a):=⟨fun {σ H O ρ M acc ys N N'} w e o m hd r q k=>h.go w e q fun x M1 v H1 O1 ⟨q0,q1⟩ k1 w1 r1=>by
 obtain ⟨e1,o1,m1⟩:=k1.prv D o m
 have r':=r.ext k1
 refine ⟨ys,e1.trans hd,by rw [r.1];exact q0,k _ _ _ _ _ _ (ys ++ [v]) q1 (k1.x.trans (vb.set o1 _)) (JO w1 o1 m1 (e1.trans hd) _ (fun _ z=>nomatch z)) ((e.ext k1).imp (vj o1 _) (fun _ z=>z)) o1 m1 zk ((r'.snoc r1).imp (vj o1 _) (fun _ z=>z))⟩⟩
noncomputable def J0 (ag:AG)(at_:AT)(tr:ATR)(G:MH->Prop)(N:List AV->ASt->MH->Prop)(l acc:List AV)(ρ:ASt)(M:MH):Prop:=
 ∃ Pv:Nat->List AV->ASt->MH->Prop,Pv 0 acc ρ M/\(∀ i x acc ρ M,l[i]?=some x->Pv i acc ρ M->G M/\ag x ρ M fun ρ2 M2=>at_ ρ2 M2 fun b M3=>if b=true then tr acc ρ2 M3 (Pv (i+1)) else Pv (i+1) acc ρ2 M3)/\∀ acc ρ M,Pv l.length acc ρ M->G M/\N acc ρ M
variable {at_:AT} {atr:ATR} {G:MH->Prop}
theorem Ih {D:Addr} {tr:TR} (hg:yZ g ag)(ht:kK tt at_)(hr:Yd D tr atr) {M1:MH} (hj:yx J H1 O1 M1 l G){N':List AV->ASt->MH->Prop}{N:St->Hp->Prop}
 {acc:List AV} (w:Wf H1 O1 M1) (e:Er H1 O1 M1 σ ρ) (o:O1 D) (m:M1 D=none) (hd:H1 D=some (.lst ys)) (r:zj H1 O1 M1 ys acc) (q:J0 ag at_ atr G N' l acc ρ M1)
  (k:∀ acc' ρ' M' σ' H' O' ys',N' acc' ρ' M'->vb D H1 O1 M1 H' O' M'->Wf H' O' M'->Er H' O' M' σ' ρ'->O' D->M' D=none->H' D=some (.lst ys')->zj H' O' M' ys' acc'->N σ' H'):CL J g tt tr N σ H1:=by
 obtain ⟨Pv,p0,ps,pd⟩:=q
 refine ⟨fun i n σ H=>n=l.length - i/\i<=l.length/\∃ O ρ M acc ys,Wf H O M/\Er H O M σ ρ/\vb D H1 O1 M1 H O M/\O D/\M D=none/\H D=some (.lst ys)/\zj H O M ys acc/\Pv i acc ρ M,
  ⟨l.length,by simp,Nat.zero_le _,O1,ρ,M1,acc,ys,w,e,Ext.refl.x,o,m,hd,r,p0⟩,?_⟩
 rintro i n σ H ⟨rfl,hi,O,ρ,M,acc,ys,w,e,x,o,m,hd,r,hf⟩
 by_cases hil:i<l.length
 ·have hy:l[i]?=some l[i]:=List.getElem?_eq_getElem hil
  obtain ⟨hG,q2⟩:=ps i l[i] acc ρ M hy hf
  obtain ⟨j1,j2⟩:=(hj H O M x.fix x.mst w hG i).2 l[i] hy
  refine .inr ⟨j1,fun σ' H'=>∃ O ρ M acc ys,Wf H' O M/\Er H' O M σ' ρ/\vb D H1 O1 M1 H' O M/\O D/\M D=none/\H' D=some (.lst ys)/\zj H' O M ys acc/\Pv (i+1) acc ρ M,fun σ' H' z=>⟨l.length - (i+1),by omega,rfl,hil,z⟩,fun v H' hv=>?_⟩
  obtain ⟨k2,w2,r2⟩:=j2 v H' hv
  refine hg.go w2 (e.ext k2) r2 q2 fun σ3 H3 O3 ρ3 M3 q3 k3 w3 e3=>?_
  refine ht.go w3 e3 q3 fun b M4 H4 O4 q4 k4 w4=>?_
  have k24:=(k2.trans k3).trans k4
  obtain ⟨d4,o4,m4⟩:=k24.prv D o m
  have r4:=r.ext k24
  cases b with
  | true=>
   exact hr.go w4 (e3.ext k4) o4 m4 (d4.trans hd) r4 q4 fun acc' ρ' M' σ' H' O' ys' q5 k5 w5 e5 o5 m5 d5 r5=>⟨O',ρ',M',acc',ys',w5,e5,(x.trans k24.x).trans k5,o5,m5,d5,r5,q5⟩
  | false=>
   exact ⟨O4,ρ3,M4,acc,ys,w4,e3.ext k4,x.trans k24.x,o4,m4,d4.trans hd,r4,q4⟩
 ·have e0:i=l.length:=by omega
  subst e0
  obtain ⟨hG,q2⟩:=pd acc ρ M hf
  exact .inl ⟨(hj H O M x.fix x.mst w hG l.length).1 rfl,k _ _ _ _ _ _ _ q2 x w e o m hd r⟩
noncomputable def Q3 (ts:List Nat)(ai:AI)(ag:AG)(at_:AT)(atr:ATR):AF:=fun ρ M Q=>ai ρ M fun l G M1=>J0 ag at_ atr G (fun acc _ M'=>Q acc M') l [] (Dr ts ρ) M1
theorem J9 {tr:Addr->TR} (hi:Qy wi ai)(hg:yZ g ag)(ht:kK tt at_)(hr:∀ D,Yd D (tr D) atr):Kk (AU ts wi g tt tr) (Q3 ts ai ag at_ atr):=⟨fun {σ H O ρ M Q Q'} w e q k=>by
 refine hi.go w e q fun l G M1 J H1 O1 q1 k1 w1 hj D hD=>?_
 have kp:=qR w1 hD (.lst [])
 have hj':yx J (upd H1 D (.lst [])) (yg O1 D) M1 l G:=fun H' O' M' fix mst w' hG=>hj H' O' M' (fun a o ha ho=>fix a o (kp.fix a o ha ho).2 (kp.fix a o ha ho).1) mst w' hG
 refine Ih hg ht (hr D) hj' (kF w1 hD _ (fun _ z=>nomatch z)) (((e.ext k1).clr ts).ext kp) (.inl rfl) (w1.fresh hD).2 zk .nil q1 fun acc' ρ' M' σ' H' O' ys' q5 k5 w5 e5 o5 m5 d5 r5=>?_
 have hH:=wc w1 k1 hD
 refine k _ _ _ _ _ _ q5 ⟨fun a o ha ho=>?_,fun a ha hm=>?_,fun a hm=>k5.mst a (k1.mst a hm)⟩ w5 o5 m5 hH d5 r5
 ·obtain ⟨x1,x2⟩:=(k1.trans kp).fix a o ha ho
  exact k5.fix a o x2 x1
 ·obtain ⟨x1,x2,x3⟩:=(k1.trans kp).prv a ha hm
  obtain ⟨y1,y2,y3⟩:=k5.prv a (fun z=>w.ne a ha (by rw [z];exact hH)) x2 x3
  exact ⟨y1.trans x1,y2,y3⟩⟩
variable {ae:AE}
theorem YO (hi:Qy wi ai)(hg:yZ g ag)(ht:kK tt at_)(he:zG te ae):Kk (QY ts wi g tt te) (Q3 ts ai ag at_ (xE ae)):=
 ⟨fun w e q k=>(J9 (ts:=ts) (tr:=Jm te) hi hg ht fun D=>QQ he).go w e q k⟩
noncomputable def aI0 (g:Int->Int->Dat):AR2:=fun x y M Q=>∃ i j,x=.d (.int i)/\y=.d (.int j)/\Q (.d (g i j)) M
theorem E8 {f:Int->Int->Int}:yH (rI0 fun i j=>.int (f i j)) (aI0 fun i j=>.int (f i j)):=⟨fun w r1 r2 ⟨i,j,e1,e2,q⟩ k=>by
 subst e1 e2;exact ⟨i,j,zM r1,zM r2,k _ _ _ _ _ q .refl w .int⟩⟩
theorem Bc {f:Int->Int->Bool}:yH (rI0 fun i j=>.bl (f i j)) (aI0 fun i j=>.bl (f i j)):=⟨fun w r1 r2 ⟨i,j,e1,e2,q⟩ k=>by
 subst e1 e2;exact ⟨i,j,zM r1,zM r2,k _ _ _ _ _ q .refl w .bl⟩⟩
theorem DL {f:Int->Int->Int}:F4 (ipI f) (aI0 fun i j=>.int (f i j)):=⟨fun w r1 r2 ⟨i,j,e1,e2,q⟩ k=>by
 subst e1 e2;exact ⟨i,j,zM r1,zM r2,k _ _ _ _ _ q .refl w .int⟩⟩
noncomputable def aU (g:Int->Dat):AV->MH->AK->Prop:=fun x M Q=>∃ i,x=.d (.int i)/\Q (.d (g i)) M
theorem GE {f:Int->Int}:Lz (rU fun i=>.int (f i)) (aU fun i=>.int (f i)):=⟨fun w r1 ⟨i,e1,q⟩ k=>by
 subst e1;exact ⟨i,zM r1,k _ _ _ _ _ q .refl w .int⟩⟩
noncomputable def eqS:Dat->Dat->Option Bool
 | .non,.non=>some true | .non,.int _=>some false | .int _,.non=>some false | .non,.bl _=>some false | .bl _,.non=>some false | .non,.str _=>some false | .str _,.non=>some false
 | .int i,.int j=>some (decide (i=j)) | .bl a,.bl b=>some (decide (a=b)) | .str a,.str b=>some (decide (a=b))
 | .int _,.str _=>some false | .str _,.int _=>some false | .bl _,.str _=>some false | .str _,.bl _=>some false
 | _,_=>none
noncomputable def jC:AV->Bool
 | .d .non=>true
 | _=>false
theorem Qv {H:Hp}{O:Own}{M:MH}{v:V}{x:AV}(r:zo H O M v x):decide (v=V.non)=jC x:=by
 cases x with
 | ref a=>rw [r.1];rfl
 | tp l=>obtain ⟨_,_,e,_⟩:=r;rw [e];rfl
 | d x=>cases (show Rep H O v x from r) <;> rfl
noncomputable def YX (f:Bool->Bool):AR2:=fun x y M Q=>y=.d .non/\Q (.d (.bl (f (jC x)))) M
theorem Fy:yH (fun x y H Q=>y=V.non/\Q (V.bl (decide (x=V.non))) H) (YX id):=⟨fun w r1 r2 ⟨e,q⟩ k=>by
 subst e;exact ⟨vh r2,by rw [Qv r1];exact k _ _ _ _ _ q .refl w .bl⟩⟩
theorem Ak:yH (fun x y H Q=>y=V.non/\Q (V.bl (!decide (x=V.non))) H) (YX not):=⟨fun w r1 r2 ⟨e,q⟩ k=>by
 subst e;exact ⟨vh r2,by rw [Qv r1];exact k _ _ _ _ _ q .refl w .bl⟩⟩
theorem Zx {H:Hp}{O:Own}{M:MH}{xs:List V}{l:List AV}(r:zj H O M xs l){i:Int}{x:AV}(h:atI l i=some x):∃ v,atI xs i=some v/\zo H O M v x:=by
 unfold atI at h ⊢
 rw [r.1]
 cases e:ixN l.length i with
 | none=>rw [e] at h;cases h
 | some j=>rw [e] at h;exact r.get h
noncomputable def aIx (s:AV->MH->Option (List AV)):AR2:=fun x y M Q=>∃ l i z,s x M=some l/\y=.d (.int i)/\atI l i=some z/\Q z M
theorem EF:yH (Dw K) (aIx qm):=⟨fun w r1 r2 ⟨l,i,z,h,e,hz,q⟩ k=>by
 subst e
 obtain ⟨a,xs,rfl,h1,r⟩:=qw w r1 h
 obtain ⟨v,hv,rv⟩:=Zx r hz
 exact ⟨a,xs,i,v,rfl,zM r2,SqL.of h1,hv,k _ _ _ _ _ q .refl w rv⟩⟩
theorem Fs:yH (GX K) (aIx fun x _=>Dl x):=⟨fun w r1 r2 ⟨l,i,z,h,e,hz,q⟩ k=>by
 subst e
 obtain ⟨a,xs,rfl,h1,r⟩:=jj r1 h
 obtain ⟨v,hv,rv⟩:=Zx r hz
 exact ⟨a,xs,i,v,rfl,zM r2,SqT.of h1,hv,k _ _ _ _ _ q .refl w rv⟩⟩
theorem W4:yH (KN K) (aIx qF):=⟨fun w r1 r2 ⟨l,i,z,h,e,hz,q⟩ k=>by
 subst e
 obtain ⟨a,xs,rfl,h1,r⟩:=Zt w r1 h
 obtain ⟨v,hv,rv⟩:=Zx r hz
 exact ⟨a,xs,i,v,rfl,zM r2,h1.elim (fun h=>.inl (SqL.of h)) (fun h=>.inr (SqT.of h)),hv,k _ _ _ _ _ q .refl w rv⟩⟩
structure Wn (r:R2)(a:AV->AV->MH->(List AV->Prop)->Prop):Prop where
 go:∀ {x y:V} {dx dy:AV} {H:Hp} {O:Own} {M:MH} {Q:VK} {Q':List AV->Prop},Wf H O M->zo H O M x dx->zo H O M y dy->a dx dy M Q'->(∀ l ys,Q' l->zj H O M ys l->∀ p,H p=none->Q (.ref p) (upd H p (.lst ys)))->r x y H Q
noncomputable def fOp (r:AV->AV->MH->(List AV->Prop)->Prop)(a b:AE):AF:=fun ρ M Q=>a ρ M fun x M1=>b ρ M1 fun y M2=>r x y M2 fun l=>Q l M2
theorem K1 {ra:AV->AV->MH->(List AV->Prop)->Prop}{t u:TE}{a b:AE}(hr:Wn r ra)(h1:zG t a)(h2:zG u b):Kk (tOp r t u) (fOp ra a b):=
 ⟨fun w e q k=>h1.go w e q fun x M1 v H1 O1 q1 k1 w1 r1=>h2.go w1 (e.ext k1) q1 fun y M2 u H2 O2 q2 k2 w2 r2=>hr.go w2 (r1.ext k2) r2 q2 fun l ys q3 r3 p hp=>
  k l M2 p ys _ _ q3 ((k1.trans k2).trans (qR w2 hp _)) (kF w2 hp _ (fun _ z=>nomatch z)) (.inl rfl) (w2.fresh hp).2 (wc w2 (k1.trans k2) hp) zk (r3.ext (qR w2 hp _))⟩
noncomputable def Lf:AV->AV->MH->(List AV->Prop)->Prop:=fun x y M Q=>∃ l m,qm x M=some l/\qm y M=some m/\l.length+m.length<=sizeLine/\Q (l ++ m)
theorem WB:Wn Hi Lf:=⟨fun w r1 r2 ⟨l,m,h1,h2,hs,q⟩ k=>by
 obtain ⟨a,xs,rfl,e1,p1⟩:=qw w r1 h1
 obtain ⟨b,ys,rfl,e2,p2⟩:=qw w r2 h2
 exact ⟨a,b,xs,ys,rfl,rfl,e1,e2,by rw [p1.1,p2.1];exact hs,k _ _ q (p1.append p2)⟩⟩
theorem zj.rep {H:Hp}{O:Own}{M:MH}{xs:List V}{l:List AV}(a:zj H O M xs l):∀ k:Nat,zj H O M (List.replicate k xs).flatten (List.replicate k l).flatten
 | 0=>.nil
 | k+1=>by rw [List.replicate_succ,List.replicate_succ,List.flatten_cons,List.flatten_cons];exact a.append (zj.rep a k)
noncomputable def GJ:AV->AV->MH->(List AV->Prop)->Prop:=fun x y M Q=>∃ l k,qm x M=some l/\y=.d (.int k)/\-(2 ^ 63)<=k/\k<2 ^ 63/\l.length * k.toNat<=sizeLine/\Q (List.replicate k.toNat l).flatten
theorem Jj:Wn DG GJ:=⟨fun w r1 r2 ⟨l,n,h1,e,b1,b2,hs,q⟩ k=>by
 subst e
 obtain ⟨a,xs,rfl,e1,p1⟩:=qw w r1 h1
 exact ⟨a,n,xs,rfl,zM r2,e1,b1,b2,by rw [p1.1];exact hs,k _ _ q (p1.rep _)⟩⟩
noncomputable abbrev AO:=ASt->MH->(Option Int->MH->Prop)->Prop
structure EX (t:TO)(a:AO):Prop where
 go:∀ {σ:St} {H:Hp} {O:Own} {ρ:ASt} {M:MH} {Q:Option Int->Hp->Prop} {Q':Option Int->MH->Prop},Wf H O M->Er H O M σ ρ->a ρ M Q'->(∀ x M' H' O',Q' x M'->Ext H O M H' O' M'->Wf H' O' M'->Q x H')->t σ H Q
noncomputable def Li:AO:=fun _ M Q=>Q none M
noncomputable def Gf (a:AE):AO:=fun ρ M Q=>a ρ M fun x M1=>∃ i,x=.d (.int i)/\Q (some i) M1
theorem DR:EX ZQ Li:=⟨fun w _ q k=>k _ _ _ _ q .refl w⟩
theorem Ah {t:TE}{a:AE}(h:zG t a):EX (V0 t) (Gf a):=⟨fun w e q k=>h.go w e q fun x M1 v H1 O1 ⟨i,e1,q1⟩ k1 w1 r1=>by
 subst e1;exact ⟨i,zM r1,k _ _ _ _ q1 k1 w1⟩⟩
noncomputable def wC {α:Type}(xs:List α)(lo hi:Option Int):List α:=(xs.drop (HT.sIx xs.length 0 lo)).take (HT.sIx xs.length xs.length hi - HT.sIx xs.length 0 lo)
theorem zj.cut (a:zj H O M xs l)(lo hi:Option Int):zj H O M (wv xs lo hi) (wC l lo hi):=by
 unfold wv wC
 rw [a.1]
 exact (a.drop _).take _
theorem WG {α β:Type}(f:α->β)(l:List α)(lo hi:Option Int):wC (l.map f) lo hi=(wC l lo hi).map f:=by
 unfold wC
 rw [List.length_map,<- List.map_drop,<- List.map_take]
theorem Xp (w:Wf H O M) (hp:H p=none) {l:List Dat}(r:zj H O M xs (l.map .d)):zo (upd H p (.tup xs)) O M (.ref p) (.d (.tup l)):=
 have r2:=r.pure
 Rep.tup (w.fresh hp).1 zk r2.1 fun i x d e1 e2=>(r2.2 i x d e1 e2).ext (qC w hp _)
noncomputable def IH (a:AE)(lo hi:AO):AE:=fun ρ M Q=>a ρ M fun x M1=>lo ρ M1 fun i M2=>hi ρ M2 fun j M3=>∃ l,x=.d (.tup l)/\¬ (HT.sIx l.length 0 i=0/\HT.sIx l.length l.length j=l.length)/\Q (.d (.tup (wC l i j))) M3
theorem EM {t:TE}{tl th:TO}{a:AE}{lo hi:AO}(h1:zG t a)(h2:EX tl lo)(h3:EX th hi):zG (tSl (Lc K) t tl th) (IH a lo hi):=
 ⟨fun w e q k=>h1.go w e q fun x M1 v H1 O1 q1 k1 w1 r1=>h2.go w1 (e.ext k1) q1 fun i M2 H2 O2 q2 k2 w2=>h3.go w2 (e.ext (k1.trans k2)) q2 fun j M3 H3 O3 ⟨l,hl,hn,q3⟩ k3 w3=>by
  subst hl
  obtain ⟨a,xs,rfl,e1,p1⟩:=jj (l:=l.map .d) (r1.ext (k2.trans k3)) rfl
  have l1:=p1.1
  rw [List.length_map] at l1
  refine ⟨a,xs,rfl,SqT.of e1,by rw [l1];exact hn,fun p hp=>?_⟩
  have p2:=p1.cut i j
  rw [WG] at p2
  exact k _ _ _ _ _ q3 (((k1.trans k2).trans k3).trans (qC w3 hp _)) (xi w3 hp _) (Xp w3 hp p2)⟩
mutual
noncomputable def eqD:Dat->Dat->Bool
 | .non,.non=>true
 | .bl a,.bl b=>a == b
 | .bl a,.int b=>(if a then 1 else 0) == b
 | .int a,.bl b=>a == (if b then 1 else 0)
 | .int a,.int b=>a == b
 | .str a,.str b=>a == b
 | .lst a,.lst b=>y6 a b
 | .tup a,.tup b=>y6 a b
 | _,_=>false
noncomputable def y6:List Dat->List Dat->Bool
 | [],[]=>true
 | a :: r,b :: r'=>eqD a b && y6 r r'
 | _,_=>false
end
mutual
noncomputable def dp:Dat->Nat
 | .lst l=>dps l+1
 | .tup l=>dps l+1
 | .rng _ _ _=>1000
 | .scr _ _=>1000
 | .ty _=>1000
 | _=>0
noncomputable def dps:List Dat->Nat
 | []=>0
 | a :: r=>max (dp a) (dps r)
end
theorem xR {l:List Dat}{n:Nat}(h:∀ d ∈ l,dp d<=n):dps l<=n:=by
 induction l with
 | nil=>exact Nat.zero_le _
 | cons a r ih=>rw [dps];exact Nat.max_le.mpr ⟨h a (by simp),ih fun d hd=>h d (by simp [hd])⟩
theorem qt {l:List Dat}{d:Dat}(h:d ∈ l):dp d<=dps l:=by
 induction l with
 | nil=>cases h
 | cons a r ih=>
  rw [dps]
  rcases List.mem_cons.mp h with rfl | h
  ·exact Nat.le_max_left _ _
  ·exact Nat.le_trans (ih h) (Nat.le_max_right _ _)
theorem kX:∀ (l m:List Dat),l.length=m.length->y6 l m=(List.range l.length).all fun j=>eqD (l.getD j .non) (m.getD j .non)
 | [],[],_=>rfl
 | a :: r,b :: r',h=>by
  rw [y6,kX r r' (by simpa using h),List.length_cons,List.range_succ_eq_map,List.all_cons,List.all_map];rfl
 | [],_ :: _,h=>by simp at h
 | _ :: _,[],h=>by simp at h
theorem kW:∀ (l m:List Dat),l.length ≠ m.length->y6 l m=false
 | [],[],h=>absurd rfl h
 | a :: r,b :: r',h=>by rw [y6,kW r r' (fun z=>h (by simp [z])),Bool.and_false]
 | [],_ :: _,h=>by simp [y6]
 | _ :: _,[],h=>by simp [y6]
theorem WE (l m:List Dat):eqD (.lst l) (.tup m)=false:=by simp [eqD]
theorem Wm (l m:List Dat):eqD (.tup l) (.lst m)=false:=by simp [eqD]
theorem DA {p:Dat->Prop}(h:∀ a,(∀ b,dp b<dp a->p b)->p a)(a:Dat):p a:=by
 have:∀ n a,dp a<=n->p a:=fun n=>by
  induction n with
  | zero=>intro a ha;exact h a fun b hb=>absurd hb (by omega)
  | succ n ih=>intro a ha;exact h a fun b hb=>ih b (by omega)
 exact this (dp a) a (Nat.le_refl _)
theorem Zb {l:List Dat}(h:∀ d ∈ l,eqD d d=true):y6 l l=true:=by
 induction l with
 | nil=>rfl
 | cons a r ih=>rw [y6,h a (by simp),ih fun d hd=>h d (by simp [hd])];rfl
theorem Ao {a:Dat}:dp a<1000->eqD a a=true:=by
 refine DA (p:=fun a=>dp a<1000->eqD a a=true) (fun a ih ha=>?_) a
 cases a with
 | non=>rfl
 | bl b=>rw [eqD];simp
 | int i=>rw [eqD];simp
 | str x=>rw [eqD];simp
 | lst l=>
  rw [eqD]
  rw [dp] at ha ih
  exact Zb fun d hd=>ih d (by have:=qt hd;omega) (by have:=qt hd;omega)
 | tup l=>
  rw [eqD]
  rw [dp] at ha ih
  exact Zb fun d hd=>ih d (by have:=qt hd;omega) (by have:=qt hd;omega)
 | rng a b c=>rw [dp] at ha;omega
 | scr _ l=>rw [dp] at ha;omega
 | ty l=>rw [dp] at ha;omega
theorem Rep.fn {H:Hp}{O O':Own}{v:V}{a b:Dat}(r:Rep H O v a):Rep H O' v b->dp a<1000->dp b<1000->a=b:=by
 induction r generalizing b with
 | non=>intro r' _ _;cases r';rfl
 | bl=>intro r' _ _;cases r';rfl
 | int=>intro r' _ _;cases r';rfl
 | str=>intro r' _ _;cases r';rfl
 | ty=>intro r' h _;rw [dp] at h;omega
 | rng _ _=>intro r' h _;rw [dp] at h;omega
 | scr _ _=>intro r' h _;rw [dp] at h;omega
 | scrK _=>intro r' h _;rw [dp] at h;omega
 | @lst a xs l o1 h1 l1 r1 ih=>
  intro r' ha hb
  cases r' with
  | @lst _ ys m o2 h2 l2 r2=>
   rw [h1] at h2;cases h2
   congr 1
   refine List.ext_getElem (l1.symm.trans l2) fun i i1 i2=>?_
   have i0:i<xs.length:=by omega
   rw [dp] at ha hb
   refine ih i xs[i] l[i] (by simp [i0]) (by simp [i1]) (r2 i xs[i] m[i] (by simp [i0]) (by simp [i2])) ?_ ?_
   ·have:=qt (List.getElem_mem i1);omega
   ·have:=qt (List.getElem_mem i2);omega
  | @tup _ ys m o2 h2=>rw [h1] at h2;cases h2
  | rng o2 h2=>rw [dp] at hb;omega
  | scr o2 h2=>rw [dp] at hb;omega
  | scrK _=>rw [dp] at hb;omega
 | @tup a xs l o1 h1 l1 r1 ih=>
  intro r' ha hb
  cases r' with
  | @tup _ ys m o2 h2 l2 r2=>
   rw [h1] at h2;cases h2
   congr 1
   refine List.ext_getElem (l1.symm.trans l2) fun i i1 i2=>?_
   have i0:i<xs.length:=by omega
   rw [dp] at ha hb
   refine ih i xs[i] l[i] (by simp [i0]) (by simp [i1]) (r2 i xs[i] m[i] (by simp [i0]) (by simp [i2])) ?_ ?_
   ·have:=qt (List.getElem_mem i1);omega
   ·have:=qt (List.getElem_mem i2);omega
  | @lst _ ys m o2 h2=>rw [h1] at h2;cases h2
  | rng o2 h2=>rw [dp] at hb;omega
  | scr o2 h2=>rw [dp] at hb;omega
  | scrK _=>rw [dp] at hb;omega
section
variable {X:Cx}{pins:List (Addr × Obj)}{s:Shared}{σ:St}{H:Hp}
theorem kS {us:List Value}(r:zB xs us) (h:j<us.toArray.size):∃ x,xs[j]?=some x/\zz x us.toArray[j]:=by
 have h':j<us.length:=by simpa using h
 have hx:j<xs.length:=by rw [r.length];exact h'
 obtain ⟨u,hu,ru⟩:=r.get (i:=j) (List.getElem?_eq_getElem hx)
 have e:us.toArray[j]=u:=by
  have:=(List.getElem?_eq_some_iff.mp hu).2
  simpa using this
 exact ⟨xs[j],List.getElem?_eq_getElem hx,by rw [e];exact ru⟩
theorem Ww (I : Inv X pins σ H s){A : Around}{p q : Addr}{O O' : Own}{a b : Dat}(ih : ∀ (c d : Dat) (v u : V) (v' u' : Value), dp c < dp a -> Rep H O v c -> Rep H O' u d -> dp d < 1000 -> zz v v' -> zz u u' -> SeqAt.EqAt A.in1 s v' u' (eqD c d))
    (ra:Rep H O (.ref p) a) (rb:Rep H O' (.ref q) b) (ha:dp a<1000) (hb:dp b<1000) (hu:A.units<cLine):SeqAt.RcAt A s (.ref p) (.ref q) (eqD a b):=by
  cases ra with
  | @lst _ xs l o1 h1 l1 r1=>
    obtain ⟨us,u1,p1,z1⟩:=I.list (SqL.of h1)
    cases rb with
    | @lst _ ys m o2 h2 l2 r2=>
      obtain ⟨ws,u2,p2,z2⟩:=I.list (SqL.of h2)
      have s1:us.toArray.size=l.length:=by rw [List.size_toArray,<- u1.length,l1]
      have s2:ws.toArray.size=m.length:=by rw [List.size_toArray,<- u2.length,l2]
      by_cases e:l.length=m.length
      · have h := SeqAt.RcAt.lists (A := A) (e := fun j => eqD (l.getD j .non) (m.getD j .non)) p1.isList p2.isList (by rw [s1, s2, e]) hu (fun j j1 j2 => by
          obtain ⟨x,hx,rx⟩:=kS u1 j1
          obtain ⟨y,hy,ry⟩:=kS u2 j2
          have k1:j<l.length:=by rw [<- s1];exact j1
          have k2:j<m.length:=by rw [<- s2];exact j2
          rw [dp] at ha hb ih
          refine ih _ _ x y _ _ ?_ (r1 j x _ hx ?_) (r2 j y _ hy ?_) ?_ rx ry
          · rw [List.getD_eq_getElem?_getD,List.getElem?_eq_getElem k1]
            have:=qt (List.getElem_mem k1);show dp l[j]<_;omega
          · rw [List.getD_eq_getElem?_getD,List.getElem?_eq_getElem k1];rfl
          · rw [List.getD_eq_getElem?_getD,List.getElem?_eq_getElem k2];rfl
          · rw [List.getD_eq_getElem?_getD,List.getElem?_eq_getElem k2]
            have:=qt (List.getElem_mem k2);show dp m[j]<_;omega)
        rw [s1,<- kX l m e] at h
        rw [eqD];exact h
      · rw [eqD,kW l m e]
        exact SeqAt.RcAt.lists_lengths p1.isList p2.isList (by rw [s1,s2];simpa using e) hu
    | @tup _ ys m o2 h2 l2 r2=>
      obtain ⟨ws,u2,p2,z2⟩:=I.tuple (SqT.of h2)
      rw [WE]
      exact SeqAt.RcAt.list_tuple p1.isList p2 hu
    | rng o2 h2=>rw [dp] at hb;omega
    | scr o2 h2=>rw [dp] at hb;omega
    | scrK _=>rw [dp] at hb;omega
  | @tup _ xs l o1 h1 l1 r1=>
    obtain ⟨us,u1,p1,z1⟩:=I.tuple (SqT.of h1)
    cases rb with
    | @tup _ ys m o2 h2 l2 r2=>
      obtain ⟨ws,u2,p2,z2⟩:=I.tuple (SqT.of h2)
      have s1:us.toArray.size=l.length:=by rw [List.size_toArray,<- u1.length,l1]
      have s2:ws.toArray.size=m.length:=by rw [List.size_toArray,<- u2.length,l2]
      have h := SeqAt.RcAt.tuples (A := A) (e := fun j => eqD (l.getD j .non) (m.getD j .non)) (show s.heap.IsTuple p us.toArray from p1) (show s.heap.IsTuple q ws.toArray from p2) hu (fun j j1 j2 => by
          obtain ⟨x,hx,rx⟩:=kS u1 j1
          obtain ⟨y,hy,ry⟩:=kS u2 j2
          have k1:j<l.length:=by rw [<- s1];exact j1
          have k2:j<m.length:=by rw [<- s2];exact j2
          rw [dp] at ha hb ih
          refine ih _ _ x y _ _ ?_ (r1 j x _ hx ?_) (r2 j y _ hy ?_) ?_ rx ry
          · rw [List.getD_eq_getElem?_getD,List.getElem?_eq_getElem k1]
            have:=qt (List.getElem_mem k1);show dp l[j]<_;omega
          · rw [List.getD_eq_getElem?_getD,List.getElem?_eq_getElem k1];rfl
          · rw [List.getD_eq_getElem?_getD,List.getElem?_eq_getElem k2];rfl
          · rw [List.getD_eq_getElem?_getD,List.getElem?_eq_getElem k2]
            have:=qt (List.getElem_mem k2);show dp m[j]<_;omega)
      rw [s1,s2] at h
      rw [eqD]
      by_cases e:l.length=m.length
      · rw [<- e,Nat.min_self,beq_self_eq_true,Bool.and_true,<- kX l m e] at h
        exact h
      · rw [kW l m e]
        rw [show (l.length == m.length)=false by simpa using e,Bool.and_false] at h
        exact h
    | @lst _ ys m o2 h2 l2 r2=>
      obtain ⟨ws,u2,p2,z2⟩:=I.list (SqL.of h2)
      rw [Wm]
      exact SeqAt.RcAt.tuple_list p1 p2.isList hu
    | rng o2 h2=>rw [dp] at hb;omega
    | scr o2 h2=>rw [dp] at hb;omega
    | scrK _=>rw [dp] at hb;omega
  | rng o2 h2=>rw [dp] at ha;omega
  | scr o2 h2=>rw [dp] at ha;omega
  | scrK _=>rw [dp] at ha;omega
theorem L4 (I:Inv X pins σ H s) (h:H a=some (.lst xs)):∃ us,s.heap.IsList a us:=let ⟨_,_,p,_⟩:=I.list (SqL.of h);⟨_,p.isList⟩
theorem LX (I:Inv X pins σ H s) (h:H a=some (.tup xs)):∃ us,s.heap.IsTuple a us:=let ⟨_,_,p,_⟩:=I.tuple (SqT.of h);⟨_,p⟩
local macro_rules | `(tactic| walk_at "sc")=>`(tactic| first
 | with_reducible exact .same _ | with_reducible exact .none_none | with_reducible exact .none_bool _ | with_reducible exact .none_int _ _ | with_reducible exact .none_str _ _ | with_reducible exact .bool_none _ | with_reducible exact .bool_bool _ _ | with_reducible exact .bool_int _ _ _ | with_reducible exact .bool_str _ _ _ | with_reducible exact .int_none _ _ | with_reducible exact .int_bool _ _ _ | with_reducible exact .int_int _ _ _ _ | with_reducible exact .int_str _ _ _ _ | with_reducible exact .str_none _ _ | with_reducible exact .str_bool _ _ _ | with_reducible exact .str_int _ _ _ _ | with_reducible exact .str_str _ _ _ _)
theorem ls_ (I:Inv X pins σ H s) (h:H a=some (.lst xs)):s.heap.IsList a (Classical.choose (L4 I h)):=Classical.choose_spec _
theorem ts_ (I:Inv X pins σ H s) (h:H a=some (.tup xs)):s.heap.IsTuple a (Classical.choose (LX I h)):=Classical.choose_spec _
local macro_rules | `(tactic| walk_at "sq")=>`(tactic| first
 | with_reducible exact .none_list (ls_ (by assumption) (by assumption)) (by assumption) | with_reducible exact .bool_list _ (ls_ (by assumption) (by assumption)) (by assumption) | with_reducible exact .int_list _ _ (ls_ (by assumption) (by assumption)) (by assumption) | with_reducible exact .str_list _ _ (ls_ (by assumption) (by assumption)) (by assumption) | with_reducible exact .list_none (ls_ (by assumption) (by assumption)) (by assumption) | with_reducible exact .list_bool _ (ls_ (by assumption) (by assumption)) (by assumption) | with_reducible exact .list_int _ _ (ls_ (by assumption) (by assumption)) (by assumption) | with_reducible exact .list_str _ _ (ls_ (by assumption) (by assumption)) (by assumption)
 | with_reducible exact .none_tuple (ts_ (by assumption) (by assumption)) (by assumption) | with_reducible exact .bool_tuple _ (ts_ (by assumption) (by assumption)) (by assumption) | with_reducible exact .int_tuple _ _ (ts_ (by assumption) (by assumption)) (by assumption) | with_reducible exact .str_tuple _ _ (ts_ (by assumption) (by assumption)) (by assumption) | with_reducible exact .tuple_none (ts_ (by assumption) (by assumption)) (by assumption) | with_reducible exact .tuple_bool _ (ts_ (by assumption) (by assumption)) (by assumption) | with_reducible exact .tuple_int _ _ (ts_ (by assumption) (by assumption)) (by assumption) | with_reducible exact .tuple_str _ _ (ts_ (by assumption) (by assumption)) (by assumption))
theorem XN (I : Inv X pins σ H s){O O' : Own}(A : Around)(hu : A.units < cLine)(a b : Dat)(v u : V)(v' u' : Value)(ha : dp a < 1000)(ra : Rep H O v a)(rb : Rep H O' u b)(hb : dp b < 1000)(rv : zz v v')(ru : zz u u')
    (ih:∀ (c d:Dat) (v u:V) (v' u':Value),dp c<dp a->Rep H O v c->Rep H O' u d->dp d<1000->zz v v'->zz u u'->SeqAt.EqAt A.in1 s v' u' (eqD c d)):SeqAt.EqAt A s v' u' (eqD a b):=by
  by_cases hr:∃ p q,v=.ref p/\u=.ref q
  · obtain ⟨p,q,rfl,rfl⟩:=hr
    cases rv
    cases ru
    by_cases e:p=q
    · subst e
      rw [<- ra.fn rb ha hb,Ao ha]
      exact .same _
    · exact .of_refs e (Ww I ih ra rb ha hb hu)
  · cases ra <;> cases rb <;> first
      | with_reducible exact absurd ⟨_,_,rfl,rfl⟩ hr
      | (rw [dp] at ha;omega)
      | (rw [dp] at hb;omega)
      | ((first | (obtain ⟨t0,rfl⟩:=rv) | cases rv);(first | (obtain ⟨t1,rfl⟩:=ru) | cases ru);simp only [eqD,Bool.not_false,Bool.not_true];first | walk_at "sc" | walk_at "sq")
theorem A9 (I:Inv X pins σ H s){O O':Own}:∀ (n:Nat) (A:Around),A.units+n<cLine->∀ (a b:Dat) (v u:V) (v' u':Value),dp a<=n->n<1000->Rep H O v a->Rep H O' u b->dp b<1000->zz v v'->zz u u'->SeqAt.EqAt A s v' u' (eqD a b):=by
 intro n
 induction n with
 | zero=>
  intro A hu a b v u v' u' ha _ ra rb hb rv ru
  exact XN I A (by omega) a b v u v' u' (by omega) ra rb hb rv ru fun _ _ _ _ _ _ h=>absurd h (by omega)
 | succ n ih=>
  intro A hu a b v u v' u' ha hn ra rb hb rv ru
  exact XN I A (by omega) a b v u v' u' (by omega) ra rb hb rv ru fun c d x y x' y' hc rc rd hd rx ry=>ih A.in1 (by show A.units+1+n<_;omega) c d x y x' y' (by omega) (by omega) rc rd hd rx ry
noncomputable def Iy (f:Bool->Bool):R2:=fun x y H Q=>∃ O O' a b,Rep H O x a/\Rep H O' y b/\dp a<=40/\dp b<=40/\Q (.bl (f (eqD a b))) H
theorem Hx (I:Inv X pins σ H s) (A:Around)(hu:A.units+41<cLine)(a b:Dat)(v u:V)(v' u':Value)(ha:dp a<=40)(ra:Rep H O v a)(rb:Rep H O' u b)(hb:dp b<=40)(rv:zz v v')(ru:zz u u'):SeqAt.RcAt A s v' u' (eqD a b):=by
  have ih:∀ (c d:Dat) (v u:V) (v' u':Value),dp c<dp a->Rep H O v c->Rep H O' u d->dp d<1000->zz v v'->zz u u'->SeqAt.EqAt A.in1 s v' u' (eqD c d):=fun c d v u v' u' hc rc rd hd rv ru=>A9 I 40 A.in1 (by show A.units+1+40<_;omega) c d v u v' u' (by omega) (by omega) rc rd hd rv ru
  replace hu:A.units<cLine:=by omega
  by_cases hr:∃ p q,v=.ref p/\u=.ref q
  · obtain ⟨p,q,rfl,rfl⟩:=hr
    cases rv
    cases ru
    exact Ww I ih ra rb (by omega) (by omega) hu
  · cases ra <;> cases rb <;> first
      | with_reducible exact absurd ⟨_,_,rfl,rfl⟩ hr
      | (rw [dp] at ha;omega)
      | (rw [dp] at hb;omega)
      | ((first | (obtain ⟨t0,rfl⟩:=rv) | cases rv);(first | (obtain ⟨t1,rfl⟩:=ru) | cases ru);simp only [eqD,Bool.not_false,Bool.not_true];first | walk_at "sc" | walk_at "sq")
theorem Da (I : Inv X pins σ H s){A : Around}{p q : Addr}{O O' : Own}{a b : Dat}(ih : ∀ (c d : Dat) (v u : V) (v' u' : Value), dp c < dp a -> Rep H O v c -> Rep H O' u d -> dp d < 1000 -> zz v v' -> zz u u' -> SeqAt.EqAt A.in1 s v' u' (eqD c d))
    (ra:Rep H O (.ref p) a) (rb:Rep H O' (.ref q) b) (ha:dp a<1000) (hb:dp b<1000) (hu:A.units<cLine):SeqAt.RcNeAt A s (.ref p) (.ref q) (!(eqD a b)):=by
  cases ra with
  | @lst _ xs l o1 h1 l1 r1=>
    obtain ⟨us,u1,p1,z1⟩:=I.list (SqL.of h1)
    cases rb with
    | @lst _ ys m o2 h2 l2 r2=>
      obtain ⟨ws,u2,p2,z2⟩:=I.list (SqL.of h2)
      have s1:us.toArray.size=l.length:=by rw [List.size_toArray,<- u1.length,l1]
      have s2:ws.toArray.size=m.length:=by rw [List.size_toArray,<- u2.length,l2]
      by_cases e:l.length=m.length
      · have h := SeqAt.RcNeAt.lists (A := A) (e := fun j => eqD (l.getD j .non) (m.getD j .non)) p1.isList p2.isList (by rw [s1, s2, e]) hu (fun j j1 j2 => by
          obtain ⟨x,hx,rx⟩:=kS u1 j1
          obtain ⟨y,hy,ry⟩:=kS u2 j2
          have k1:j<l.length:=by rw [<- s1];exact j1
          have k2:j<m.length:=by rw [<- s2];exact j2
          rw [dp] at ha hb ih
          refine ih _ _ x y _ _ ?_ (r1 j x _ hx ?_) (r2 j y _ hy ?_) ?_ rx ry
          · rw [List.getD_eq_getElem?_getD,List.getElem?_eq_getElem k1]
            have:=qt (List.getElem_mem k1);show dp l[j]<_;omega
          · rw [List.getD_eq_getElem?_getD,List.getElem?_eq_getElem k1];rfl
          · rw [List.getD_eq_getElem?_getD,List.getElem?_eq_getElem k2];rfl
          · rw [List.getD_eq_getElem?_getD,List.getElem?_eq_getElem k2]
            have:=qt (List.getElem_mem k2);show dp m[j]<_;omega)
        rw [s1,<- kX l m e] at h
        rw [eqD];exact h
      · rw [eqD,kW l m e]
        exact SeqAt.RcNeAt.lists_lengths p1.isList p2.isList (by rw [s1,s2];simpa using e) hu
    | @tup _ ys m o2 h2 l2 r2=>
      obtain ⟨ws,u2,p2,z2⟩:=I.tuple (SqT.of h2)
      rw [WE]
      exact SeqAt.RcNeAt.list_tuple p1.isList p2 hu
    | rng o2 h2=>rw [dp] at hb;omega
    | scr o2 h2=>rw [dp] at hb;omega
    | scrK _=>rw [dp] at hb;omega
  | @tup _ xs l o1 h1 l1 r1=>
    obtain ⟨us,u1,p1,z1⟩:=I.tuple (SqT.of h1)
    cases rb with
    | @tup _ ys m o2 h2 l2 r2=>
      obtain ⟨ws,u2,p2,z2⟩:=I.tuple (SqT.of h2)
      have s1:us.toArray.size=l.length:=by rw [List.size_toArray,<- u1.length,l1]
      have s2:ws.toArray.size=m.length:=by rw [List.size_toArray,<- u2.length,l2]
      have h := SeqAt.RcNeAt.tuples (A := A) (e := fun j => eqD (l.getD j .non) (m.getD j .non)) (show s.heap.IsTuple p us.toArray from p1) (show s.heap.IsTuple q ws.toArray from p2) hu (fun j j1 j2 => by
          obtain ⟨x,hx,rx⟩:=kS u1 j1
          obtain ⟨y,hy,ry⟩:=kS u2 j2
          have k1:j<l.length:=by rw [<- s1];exact j1
          have k2:j<m.length:=by rw [<- s2];exact j2
          rw [dp] at ha hb ih
          refine ih _ _ x y _ _ ?_ (r1 j x _ hx ?_) (r2 j y _ hy ?_) ?_ rx ry
          · rw [List.getD_eq_getElem?_getD,List.getElem?_eq_getElem k1]
            have:=qt (List.getElem_mem k1);show dp l[j]<_;omega
          · rw [List.getD_eq_getElem?_getD,List.getElem?_eq_getElem k1];rfl
          · rw [List.getD_eq_getElem?_getD,List.getElem?_eq_getElem k2];rfl
          · rw [List.getD_eq_getElem?_getD,List.getElem?_eq_getElem k2]
            have:=qt (List.getElem_mem k2);show dp m[j]<_;omega)
      rw [s1,s2] at h
      rw [eqD]
      by_cases e:l.length=m.length
      · rw [<- e,Nat.min_self,beq_self_eq_true,Bool.and_true,<- kX l m e] at h
        exact h
      · rw [kW l m e]
        rw [show (l.length == m.length)=false by simpa using e,Bool.and_false] at h
        exact h
    | @lst _ ys m o2 h2 l2 r2=>
      obtain ⟨ws,u2,p2,z2⟩:=I.list (SqL.of h2)
      rw [Wm]
      exact SeqAt.RcNeAt.tuple_list p1 p2.isList hu
    | rng o2 h2=>rw [dp] at hb;omega
    | scr o2 h2=>rw [dp] at hb;omega
    | scrK _=>rw [dp] at hb;omega
  | rng o2 h2=>rw [dp] at ha;omega
  | scr o2 h2=>rw [dp] at ha;omega
  | scrK _=>rw [dp] at ha;omega
theorem B9 (I:Inv X pins σ H s) (A:Around)(hu:A.units+41<cLine)(a b:Dat)(v u:V)(v' u':Value)(ha:dp a<=40)(ra:Rep H O v a)(rb:Rep H O' u b)(hb:dp b<=40)(rv:zz v v')(ru:zz u u'):SeqAt.RcNeAt A s v' u' (!(eqD a b)):=by
  have ih:∀ (c d:Dat) (v u:V) (v' u':Value),dp c<dp a->Rep H O v c->Rep H O' u d->dp d<1000->zz v v'->zz u u'->SeqAt.EqAt A.in1 s v' u' (eqD c d):=fun c d v u v' u' hc rc rd hd rv ru=>A9 I 40 A.in1 (by show A.units+1+40<_;omega) c d v u v' u' (by omega) (by omega) rc rd hd rv ru
  replace hu:A.units<cLine:=by omega
  by_cases hr:∃ p q,v=.ref p/\u=.ref q
  · obtain ⟨p,q,rfl,rfl⟩:=hr
    cases rv
    cases ru
    exact Da I ih ra rb (by omega) (by omega) hu
  · cases ra <;> cases rb <;> first
      | with_reducible exact absurd ⟨_,_,rfl,rfl⟩ hr
      | (rw [dp] at ha;omega)
      | (rw [dp] at hb;omega)
      | ((first | (obtain ⟨t0,rfl⟩:=rv) | cases rv);(first | (obtain ⟨t1,rfl⟩:=ru) | cases ru);simp only [eqD,Bool.not_false,Bool.not_true];first | walk_at "sc" | walk_at "sq")
theorem zY (hu:X.A.units+64<cLine):OpR X (compareOp .Eq) (Iy id):=by
 intro pins s σ H x y v u Q I rx ry h
 obtain ⟨O,O',a,b,ra,rb,ha,hb,k⟩:=h
 exact Hx I X.A (by omega) a b x y v u ha ra rb hb rx ry _ _ _ _ ⟨.bl _,H,I,rfl,k⟩
theorem jv (hu:X.A.units+64<cLine):OpR X (compareOp .NotEq) (Iy not):=by
 intro pins s σ H x y v u Q I rx ry h
 obtain ⟨O,O',a,b,ra,rb,ha,hb,k⟩:=h
 exact B9 I X.A (by omega) a b x y v u ha ra rb hb rx ry _ _ _ _ ⟨.bl _,H,I,rfl,k⟩
end
noncomputable def kE (x:AV)(M:MH):Option Dat:=match x with
 | .d x=>some x
 | .ref a=>match M a with
  | some (.lst l)=>(pur l).map .lst
  | _=>none
 | .tp _=>none
theorem kJ (x:Dat)(M:MH):kE (.d x) M=some x:=rfl
theorem vy {H:Hp}{O:Own}{M:MH}{v:V}{x:AV}{d:Dat}(w:Wf H O M)(r:zo H O M v x)(h:kE x M=some d):∃ O',Rep H O' v d:=by
 cases x with
 | tp l=>cases h
 | d x=>cases h;exact ⟨O,r⟩
 | ref a=>
  unfold kE at h
  dsimp only at h
  cases e:M a with
  | none=>rw [e] at h;cases h
  | some o=>
   rw [e] at h
   cases o with
   | lst l=>
    dsimp only at h
    cases ep:pur l with
    | none=>rw [ep] at h;cases h
    | some ds=>
     rw [ep] at h
     cases h
     obtain ⟨xs,hx,rx⟩:=w.mo a _ e
     rw [jL ep] at rx
     have rp:=rx.pure
     refine ⟨Zs O a,?_⟩
     rw [r.1]
     exact Rep.lst (fun z=>z.1 rfl) hx rp.1 fun i x d e1 e2=>(rp.2 i x d e1 e2).imp (xr a)
   | _=>cases h
noncomputable def yu (f:Bool->Bool):AR2:=fun x y M Q=>∃ a b,kE x M=some a/\kE y M=some b/\dp a<=40/\dp b<=40/\Q (.d (.bl (f (eqD a b)))) M
theorem EU {f:Bool->Bool}:yH (Iy f) (yu f):=⟨fun w r1 r2 ⟨a,b,e1,e2,h1,h2,q⟩ k=>by
 obtain ⟨O1,p1⟩:=vy w r1 e1
 obtain ⟨O2,p2⟩:=vy w r2 e2
 exact ⟨O1,O2,a,b,p1,p2,h1,h2,k _ _ _ _ _ q .refl w .bl⟩⟩
theorem qT (i:Int):dp (.int i)=0:=by simp [dp]
variable {vs:List V}
theorem jy {x:AV}(r:zj H O M vs [x]):∃ v,vs=[v]/\zo H O M v x:=by
 obtain ⟨v1,r',rfl,a1,r2⟩:=r.cons_inv
 rw [r2.nil_inv];exact ⟨v1,rfl,a1⟩
theorem xf {x y:AV}(r:zj H O M vs [x,y]):∃ v u,vs=[v,u]/\zo H O M v x/\zo H O M u y:=by
 obtain ⟨v1,r',rfl,a1,r2⟩:=r.cons_inv
 obtain ⟨v2,rfl,a2⟩:=jy r2
 exact ⟨v1,v2,rfl,a1,a2⟩
noncomputable def QR:List AV->MH->AK->Prop:=fun xs M Q=>∃ x l,xs=[x]/\qF x M=some l/\Q (.d (.int (l.length:Nat))) M
theorem Ec:wq (fun xs H Q=>∃ p ys,xs=[V.ref p]/\(SqL K H p ys \/ SqT K H p ys)/\Q (V.int ys.length) H) QR:=⟨fun w r ⟨x,l,e,h,q⟩ k=>by
 subst e
 obtain ⟨v,rfl,rv⟩:=jy r
 obtain ⟨a,xs,rfl,h1,r1⟩:=Zt w rv h
 exact ⟨a,xs,rfl,h1.elim (fun h=>.inl (SqL.of h)) (fun h=>.inr (SqT.of h)),by rw [r1.1];exact k _ _ _ _ _ q .refl w .int⟩⟩
noncomputable def bI2 (f:Int->Int->Int):List AV->MH->AK->Prop:=fun xs M Q=>∃ i j,xs=[.d (.int i),.d (.int j)]/\Q (.d (.int (f i j))) M
theorem GF {f:Int->Int->Int}:wq (fun xs H Q=>∃ i j,xs=[V.int i,V.int j]/\Q (V.int (f i j)) H) (bI2 f):=⟨fun w r ⟨i,j,e,q⟩ k=>by
 subst e
 obtain ⟨v,u,rfl,rv,ru⟩:=xf r
 exact ⟨i,j,by rw [zM rv,zM ru],k _ _ _ _ _ q .refl w .int⟩⟩
noncomputable def FQ:List AV->MH->AK->Prop:=fun xs M Q=>∃ c,xs=[.d (.bl c)]/\Q (.d (.int (if c=true then 1 else 0))) M
theorem VF:wq (fun xs H Q=>∃ k,xs=[V.bl k]/\Q (V.int (if k=true then 1 else 0)) H) FQ:=⟨fun w r ⟨c,e,q⟩ k=>by
 subst e
 obtain ⟨v,rfl,rv⟩:=jy r
 exact ⟨c,by rw [kr rv],k _ _ _ _ _ q .refl w .int⟩⟩
noncomputable def Wd:List AV->MH->AK->Prop:=fun xs M Q=>∃ x l ds,xs=[x]/\qF x M=some l/\pur l=some ds/\Q (.d (.tup ds)) M
theorem Yz:wq (fun xs H Q=>∃ p ys,xs=[V.ref p]/\((SqL K H p ys/\∀ l,H l=none->Q (V.ref l) (upd H l (HO.tup ys))) \/ SqT K H p ys/\Q (V.ref p) H)) Wd:=⟨fun w r ⟨x,l,ds,e,h,hp,q⟩ k=>by
 subst e
 obtain ⟨v,rfl,rv⟩:=jy r
 rw [jL hp] at h
 rcases j7 h with h' | ⟨m,rfl,e2⟩
 ·obtain ⟨a,xs,rfl,h1,r1⟩:=qw w rv h'
  exact ⟨a,xs,rfl,.inl ⟨SqL.of h1,fun p hp=>k _ _ _ _ _ q (qC w hp _) (xi w hp _) (Xp w hp r1)⟩⟩
 ·obtain rfl:ds=m:=by have:=congrArg pur e2;rw [zX,zX] at this;cases this;rfl
  obtain ⟨a,xs,rfl,h1,r1⟩:=jj (l:=ds.map .d) rv rfl
  exact ⟨a,xs,rfl,.inr ⟨SqT.of h1,k _ _ _ _ _ q .refl w rv⟩⟩⟩
structure W0 (r:List V->Hp->VK->Prop)(a:List AV->MH->(List AV->Prop)->Prop):Prop where
 go:∀ {vs:List V} {xs:List AV} {H:Hp} {O:Own} {M:MH} {Q:VK} {Q':List AV->Prop},Wf H O M->zj H O M vs xs->a xs M Q'->(∀ l ys,Q' l->zj H O M ys l->∀ p,H p=none->Q (.ref p) (upd H p (.lst ys)))->r vs H Q
noncomputable def fCB (r:List AV->MH->(List AV->Prop)->Prop)(b:AA):AF:=fun ρ M Q=>b ρ M fun xs M1=>r xs M1 fun l=>Q l M1
theorem KQ {r:List V->Hp->VK->Prop}{ra:List AV->MH->(List AV->Prop)->Prop} {b:AA}(hr:W0 r ra)(h:jc u b):Kk (tCB r u) (fCB ra b):=
 ⟨fun w e q k=>h.go w e q fun x M1 v H1 O1 q1 k1 w1 r1=>hr.go w1 r1 q1 fun l ys q3 r3 p hp=>
  k l M1 p ys _ _ q3 (k1.trans (qR w1 hp _)) (kF w1 hp _ (fun _ z=>nomatch z)) (.inl rfl) (w1.fresh hp).2 (wc w1 k1 hp) zk (r3.ext (qR w1 hp _))⟩
noncomputable def F6:List AV->MH->(List AV->Prop)->Prop:=fun xs M Q=>∃ x l,xs=[x]/\qF x M=some l/\Q l
theorem YS:W0 (fun xs H Q=>∃ p ys,xs=[V.ref p]/\(SqL K H p ys \/ SqT K H p ys)/\∀ l,H l=none->Q (V.ref l) (upd H l (HO.lst ys))) F6:=⟨fun w r ⟨x,l,e,h,q⟩ k=>by
 subst e
 obtain ⟨v,rfl,rv⟩:=jy r
 obtain ⟨a,xs,rfl,h1,r1⟩:=Zt w rv h
 exact ⟨a,xs,rfl,h1.elim (fun h=>.inl (SqL.of h)) (fun h=>.inr (SqT.of h)),k _ _ q r1⟩⟩
theorem xV {H:Hp}{O:Own}{M:MH}:∀ {ns:List Int} {xs:List V},zj H O M xs (ns.map fun i=>AV.d (.int i))->xs=ns.map V.int
 | [],xs,r=>r.nil_inv
 | i :: ns,xs,r=>by
  obtain ⟨v,r',rfl,a1,r2⟩:=r.cons_inv
  rw [zM a1,xV r2];rfl
noncomputable def tyA (x:AV)(M:MH):Option String:=match x with
 | .d .non=>some "NoneType"
 | .d (.bl _)=>some "bool"
 | .d (.int _)=>some "int"
 | .d (.str _)=>some "str"
 | .d (.lst _)=>some "list"
 | .d (.tup _)=>some "tuple"
 | .tp _=>some "tuple"
 | .ref a=>match M a with
  | some (.lst _)=>some "list"
  | some (.dK _)=>some "dict"
  | some (.dT _)=>some "dict"
  | _=>none
 | _=>none
theorem WP {K:PySem.W.Frag}{H:Hp}{O:Own}{M:MH}{v:V}{x:AV}{t:String}(w:Wf H O M)(r:zo H O M v x)(h:tyA x M=some t):xh K H v (.type t):=by
 cases x with
 | tp l=>obtain ⟨a,xs,e,_,h1,_⟩:=r;rw [e];cases h;exact .tup h1
 | d x=>
  cases (show Rep H O v x from r) with
  | non=>cases h;exact .non
  | bl=>cases h;exact .bl _
  | int=>cases h;exact .int _
  | str=>cases h;exact .str _
  | lst o e=>cases h;exact .lst e
  | tup o e=>cases h;exact .tup e
  | ty=>cases h
  | rng _ _=>cases h
  | scr _ _=>cases h
  | scrK _=>cases h
 | ref a=>
  unfold tyA at h
  dsimp only at h
  rw [r.1]
  cases e:M a with
  | none=>rw [e] at h;cases h
  | some o=>
   rw [e] at h
   have:=w.mo a o e
   cases o with
   | lst l=>cases h;obtain ⟨xs,hx,_⟩:=this;exact .lst hx
   | dK l=>cases h;obtain ⟨xs,hx,_⟩:=this;exact .dK hx
   | dT l=>cases h;obtain ⟨xs,hx,_⟩:=this;exact .dT hx
   | ins C fs=>cases h
   | exc C fs=>cases h
   | tb R=>cases h
noncomputable def wB:List AV->MH->AK->Prop:=fun xs M Q=>∃ x t c b,xs=[x,.d (.ty c)]/\tyA x M=some t/\isT t c=some b/\Q (.d (.bl b)) M
theorem Dk:wq (fun xs H Q=>∃ x t c b,xs=[x,V.ty c]/\xh K H x (Value.type t)/\isT t c=some b/\Q (V.bl b) H) wB:=⟨fun w r ⟨x,t,c,b,e,h,hb,q⟩ k=>by
 subst e
 obtain ⟨v,u,rfl,rv,ru⟩:=xf r
 exact ⟨v,t,c,b,by rw [A0 ru],WP w rv h,hb,k _ _ _ _ _ q .refl w .bl⟩⟩
theorem XT {H:Hp}{O:Own}{M:MH}:∀ {ns:List String} {xs:List V},zj H O M xs ((ns.map Dat.ty).map .d)->xs=ns.map V.ty
 | [],xs,r=>r.nil_inv
 | i :: ns,xs,r=>by
  obtain ⟨v,r',rfl,a1,r2⟩:=r.cons_inv
  rw [A0 a1,XT r2];rfl
noncomputable def Qs:List Dat->Option (List String)
 | []=>some []
 | .ty n :: r=>(Qs r).map (n :: ·)
 | _=>none
theorem K7:∀ {l:List Dat} {cs:List String},Qs l=some cs->l=cs.map Dat.ty
 | [],cs,h=>by cases h;rfl
 | .ty n :: r,cs,h=>by
  unfold Qs at h
  cases e:Qs r with
  | none=>rw [e] at h;cases h
  | some m=>rw [e] at h;cases h;rw [K7 e];rfl
 | .non :: _,_,h=>by cases h
 | .bl _ :: _,_,h=>by cases h
 | .int _ :: _,_,h=>by cases h
 | .str _ :: _,_,h=>by cases h
 | .lst _ :: _,_,h=>by cases h
 | .tup _ :: _,_,h=>by cases h
 | .rng _ _ _ :: _,_,h=>by cases h
 | .scr _ _ :: _,_,h=>by cases h
noncomputable def VL:List AV->MH->AK->Prop:=fun xs M Q=>∃ x t l cs b,xs=[x,.d (.tup l)]/\Qs l=some cs/\tyA x M=some t/\yY t cs=some b/\Q (.d (.bl b)) M
theorem AX:wq (fun xs H Q=>∃ x t p cs b,xs=[x,V.ref p]/\H p=some (HO.tup (List.map V.ty cs))/\xh K H x (Value.type t)/\yY t cs=some b/\Q (V.bl b) H) VL:=⟨fun w r ⟨x,t,l,cs,b,e,hc,h,hb,q⟩ k=>by
 subst e
 obtain ⟨v,u,rfl,rv,ru⟩:=xf r
 rw [K7 hc] at ru
 obtain ⟨a,xs,rfl,h1,r1⟩:=jj (l:=(cs.map Dat.ty).map .d) ru rfl
 rw [XT r1] at h1
 exact ⟨v,t,a,cs,b,rfl,h1,WP w rv h,hb,k _ _ _ _ _ q .refl w .bl⟩⟩
theorem KU {H:Hp}{O:Own}{M:MH}:∀ {ns:List Bool} {xs:List V},zj H O M xs (ns.map fun i=>AV.d (.bl i))->xs=ns.map V.bl
 | [],xs,r=>r.nil_inv
 | i :: ns,xs,r=>by
  obtain ⟨v,r',rfl,a1,r2⟩:=r.cons_inv
  rw [kr a1,KU r2];rfl
noncomputable def HY (f:List Bool->Bool):List AV->MH->AK->Prop:=fun xs M Q=>∃ x bs,xs=[x]/\qm x M=some (List.map (fun b=>AV.d (.bl b)) bs)/\Q (.d (.bl (f bs))) M
theorem Fh {f:List Bool->Bool}:wq (fun xs H Q=>∃ p bs,xs=[V.ref p]/\SqL K H p (List.map V.bl bs)/\Q (V.bl (f bs)) H) (HY f):=⟨fun w r ⟨x,bs,e,h,q⟩ k=>by
 subst e
 obtain ⟨v,rfl,rv⟩:=jy r
 obtain ⟨a,xs,rfl,h1,r1⟩:=qw w rv h
 rw [KU r1] at h1
 exact ⟨a,bs,rfl,SqL.of h1,k _ _ _ _ _ q .refl w .bl⟩⟩
noncomputable def Ga:List AV->MH->AK->Prop:=fun xs M Q=>∃ b,xs=[.d (.int b)]/\Q (.d (.rng 0 b 1)) M
theorem WK:wq (fun xs H Q=>∃ b,xs=[V.int b]/\∀ (p:Addr),H p=none->Q (V.ref p) (upd H p (QL p 0 b 1))) Ga:=⟨fun w r ⟨b,e,q⟩ k=>by
 subst e
 obtain ⟨v,rfl,rv⟩:=jy r
 exact ⟨b,by rw [zM rv],fun p hp=>k _ _ _ _ _ q (qC w hp _) (xi w hp _) (Rep.rng (w.fresh hp).1 zk)⟩⟩
noncomputable def B2:List AV->MH->(List AV->Prop)->Prop:=fun xs M Q=>∃ a b c n,xs=[.d (.rng a b c)]/\Builtin.Range.small a b c=true/\Builtin.Range.rangeSize a b c=((n:Nat):Int)/\n<=100000/\Q ((qp a c n).map fun i=>AV.d (.int i))
theorem wI:W0 (fun xs H Q=>∃ p a b c n,xs=[.ref p]/\H p=some (QL p a b c)/\Builtin.Range.small a b c=true/\Builtin.Range.rangeSize a b c=((n:Nat):Int)/\n<=100000/\∀ l,H l=none->Q (.ref l) (upd H l (.lst ((qp a c n).map V.int)))) B2:=⟨fun {vs xs H O M Q Q'} w r ⟨a,b,c,n,e,h1,h2,h3,q⟩ k=>by
 subst e
 obtain ⟨v,rfl,rv⟩:=jy r
 cases (show Rep H O v (.rng a b c) from rv) with
 | rng o h=>exact ⟨_,a,b,c,n,rfl,h,h1,h2,h3,k _ _ q (JC _)⟩⟩
noncomputable def flD:Dat->Option V
 | .non=>some .non
 | .bl b=>some (.bl b)
 | .int i=>some (.int i)
 | .str s=>some (.str s)
 | _=>none
noncomputable def Qm:List AV->Option (List V)
 | []=>some []
 | .d x :: r=>match flD x,Qm r with
  | some v,some l=>some (v :: l)
  | _,_=>none
 | _=>none
theorem Kb {v x:V} (r:Rep H O v d)(h:flD d=some x):v=x/\kg v=true:=by
 cases r <;> cases h <;> exact ⟨rfl,rfl⟩
theorem Z3 {H:Hp}{O:Own}{M:MH}:∀ {l:List AV} {xs vs:List V},zj H O M xs l->Qm l=some vs->xs=vs/\xs.all kg=true
 | [],xs,vs,r,h=>by cases h;rw [r.nil_inv];exact ⟨rfl,rfl⟩
 | .d d :: l,xs,vs,r,h=>by
  obtain ⟨v,r',rfl,a1,r2⟩:=r.cons_inv
  unfold Qm at h
  cases e1:flD d with
  | none=>rw [e1] at h;cases h
  | some z=>
   cases e2:Qm l with
   | none=>rw [e1,e2] at h;cases h
   | some zs=>
    rw [e1,e2] at h
    cases h
    obtain ⟨h1,h2⟩:=Kb a1 e1
    obtain ⟨h3,h4⟩:=Z3 r2 e2
    subst h1 h3
    exact ⟨rfl,by rw [List.all_cons,h2,h4];rfl⟩
 | .ref a :: l,xs,vs,r,h=>by cases h
noncomputable def aIn (neg:Bool):AR2:=fun x y M Q=>∃ d v l vs,x=.d d/\flD d=some v/\qF y M=some l/\Qm l=some vs/\Q (.d (.bl (if neg then !inV v vs else inV v vs))) M
theorem HM {neg:Bool}:yH (rIn K neg) (aIn neg):=⟨fun w r1 r2 ⟨d,v,l,vs,e,hv,hl,hs,q⟩ k=>by
 subst e
 obtain ⟨a,xs,rfl,h1,p1⟩:=Zt w r2 hl
 obtain ⟨rfl,f1⟩:=Kb r1 hv
 obtain ⟨rfl,f2⟩:=Z3 p1 hs
 exact ⟨a,xs,rfl,h1.elim (fun h=>.inl (SqL.of h)) (fun h=>.inr (SqT.of h)),f1,f2,k _ _ _ _ _ q .refl w .bl⟩⟩
structure WF (r:V->List V->Hp->VK->Prop)(a:AV->List AV->MH->AK->Prop):Prop where
 go:∀ {x:V} {dx:AV} {vs:List V} {xs:List AV} {H:Hp} {O:Own} {M:MH} {Q:VK} {Q':AK},Wf H O M->zo H O M x dx->zj H O M vs xs->a dx xs M Q'->(∀ x M' v H' O',Q' x M'->Ext H O M H' O' M'->Wf H' O' M'->zo H' O' M' v x->Q v H')->r x vs H Q
noncomputable def aBM (r:AV->List AV->MH->AK->Prop)(a:AE)(b:AA):AE:=fun ρ M Q=>a ρ M fun x M1=>(∃ l,qm x M1=some l)/\b ρ M1 fun xs M2=>r x xs M2 Q
theorem GH {r:V->List V->Hp->VK->Prop}{ra:AV->List AV->MH->AK->Prop}{t:TE} {a:AE}{b:AA}(hr:WF r ra)(h1:zG t a)(h2:jc u b):zG (tBM K "list" r t u) (aBM ra a b):=
 ⟨fun w e q k=>h1.go w e q fun x M1 v H1 O1 ⟨⟨l,hl⟩,q1⟩ k1 w1 r1=>⟨by
  obtain ⟨a,xs,rfl,hx,_⟩:=qw w1 r1 hl
  exact .inl ⟨rfl,xs,SqL.of hx⟩,h2.go w1 (e.ext k1) q1 fun y M2 u H2 O2 q2 k2 w2 r2=>hr.go w2 (r1.ext k2) r2 q2 fun z M3 v3 H3 O3 q3 k3 w3 r3=>k z M3 v3 H3 O3 q3 ((k1.trans k2).trans k3) w3 r3⟩⟩
theorem Je {xs':List V}(w:Wf H O M)(hm:M p=some (.lst l))(r:zj H O M xs' l'):Ext H O M (upd H p (.lst xs')) O (mup M p (.lst l'))/\Wf (upd H p (.lst xs')) O (mup M p (.lst l')):=
 have np:=qZ hm
 ⟨xo w np _ _,Jr w np (fun _ z=>nomatch z) ⟨_,zk,r.ext (xo w np _ _)⟩⟩
noncomputable def Xn:AV->List AV->MH->AK->Prop:=fun x xs M Q=>∃ p l y,x=.ref p/\xs=[y]/\M p=some (.lst l)/\l.length<sizeLine/\Q (.d .non) (mup M p (.lst (l ++ [y])))
theorem Kv:WF vk Xn:=⟨fun w r1 r2 ⟨p,l,y,e1,e2,hm,hs,q⟩ k=>by
 subst e1 e2
 obtain ⟨v,rfl,rv⟩:=jy r2
 obtain ⟨xs,hx,rx⟩:=w.mo p _ hm
 obtain ⟨k1,w1⟩:=Je w hm (rx.snoc rv)
 exact ⟨p,xs,v,r1.1,rfl,hx,by rw [rx.1];exact hs,k _ _ _ _ _ q k1 w1 .non⟩⟩
noncomputable def Xc:AV->List AV->MH->AK->Prop:=fun x xs M Q=>∃ p l i y,x=.ref p/\xs=[.d (.int i),y]/\M p=some (.lst l)/\0<=i/\i<=l.length/\l.length<sizeLine/\Q (.d .non) (mup M p (.lst (l.take i.toNat ++ y :: l.drop i.toNat)))
theorem Kj:WF vp Xc:=⟨fun w r1 r2 ⟨p,l,i,y,e1,e2,hm,h0,h1,hs,q⟩ k=>by
 subst e1 e2
 obtain ⟨v,u,rfl,rv,ru⟩:=xf r2
 obtain ⟨xs,hx,rx⟩:=w.mo p _ hm
 obtain ⟨k1,w1⟩:=Je w hm ((rx.take i.toNat).append (.cons ru (rx.drop i.toNat)))
 exact ⟨p,xs,i,u,r1.1,by rw [zM rv],hx,h0,by rw [rx.1];exact h1,by rw [rx.1];exact hs,k _ _ _ _ _ q k1 w1 .non⟩⟩
noncomputable def AD:AV->List AV->MH->AK->Prop:=fun x xs M Q=>∃ ns i j,qm x M=some (List.map (fun i=>AV.d (.int i)) ns)/\xs=[.d (.int i)]/\j<ns.length/\ns.getD j 0=i/\(∀ m,m<j->ns.getD m 0 ≠ i)/\Q (.d (.int (j:Nat))) M
theorem Vv:WF JE AD:=⟨fun w r1 r2 ⟨ns,i,j,hl,e,h1,h2,h3,q⟩ k=>by
 subst e
 obtain ⟨u,rfl,ru⟩:=jy r2
 obtain ⟨a,xs,rfl,hx,p1⟩:=qw w r1 hl
 rw [xV p1] at hx
 exact ⟨a,ns,i,j,rfl,by rw [zM ru],hx,h1,h2,h3,k _ _ _ _ _ q .refl w .int⟩⟩
noncomputable def vz (r:Addr):MO->Prop
 | .lst l=>∃ x ∈ l,x.Has r
 | .dK kvs=>∃ x ∈ kvs.map (·.2),x.Has r
 | .dT kvs=>∃ x ∈ kvs.map (·.2),x.Has r
 | .ins _ fs=>∃ x ∈ fs.map (·.2),x.Has r
 | .exc _ _=>False
 | .tb _=>False
inductive Dee (M M2:MH):AV->Dat->Prop
 | d {x:Dat}:Dee M M2 (.d x) x
 | lst {p:Addr} {l:List AV} {ds:List Dat}:M p=some (.lst l)->M2 p=none->l.length=ds.length->(∀ (i:Nat) a b,l[i]?=some a->ds[i]?=some b->Dee M M2 a b)->Dee M M2 (.ref p) (.lst ds)
structure va (M0 M':MH)(x x':AV)(M'':MH):Prop where
 sub:∀ q,M'' q=M' q \/ (M0 q=none/\M'' q=none)
 cl:∀ q o,M'' q=some o->M0 q=some o \/ ∀ r,vz r o->M'' r ≠ none
 res:(x'=x/\∀ p,x.Has p->M'' p ≠ none) \/ (∃ p l ds,x=.ref p/\M' p=some (.lst l)/\pur l=some ds/\M'' p=none/\x'=.d (.lst ds)) \/ ∃ d,Dee M' M'' x d/\x'=.d d
theorem Dee.rep {H:Hp}{O:Own}{M M2:MH}(w:Wf H O M){x:AV}{d:Dat}(h:Dee M M2 x d):∀ {v:V},zo H O M v x->Rep H (fun a=>O a/\¬ (M a ≠ none/\M2 a=none)) v d:=by
 induction h with
 | d=>exact fun r=>Rep.imp (fun a u h e=>⟨e,fun z=>h z.1⟩) r
 | @lst p l ds hm hn hl _ ih=>
  intro v r
  obtain ⟨xs,hx,rx⟩:=w.mo p _ hm
  rw [r.1]
  refine Rep.lst (fun z=>z.2 ⟨qZ hm,hn⟩) hx (rx.1.trans hl) fun i x d e1 e2=>?_
  have hi:=(List.getElem?_eq_some_iff.mp e2).1
  have ha:l[i]?=some (l[i]'(by omega)):=List.getElem?_eq_getElem (by omega)
  exact ih i _ d ha e2 (rx.2 i x _ e1 ha)
theorem ZU {H0 H : Hp}{O0 O : Own}{M0 M' M'' : MH}{x x' : AV}{v : V}(w0 : Wf H0 O0 M0)(w : Wf H O M')(k : Ext H0 O0 M0 H O M')(r : zo H O M' v x)(f : va M0 M' x x' M'') :
    ∃ O'',Wf H O'' M''/\Ext H0 O0 M0 H O'' M''/\zo H O'' M'' v x'/\∀ a,O a->M' a=none->O'' a/\M'' a=none:=by
  have ks:∀ a u,¬ O a->H a=some u->H a=some u/\¬ (O a/\¬ (M' a ≠ none/\M'' a=none)):=fun a u h e=>⟨e,fun z=>h z.1⟩
  have k0:∀ a,M0 a ≠ none->M'' a=M' a:=fun a h=>(f.sub a).elim (fun z=>z) (fun z=>absurd z.1 h)
  have m0:∀ a,M0 a ≠ none->M'' a ≠ none:=fun a h=>by rw [k0 a h];exact k.mst a h
  have tpk:∀ {v:V} {m:List (Dat ⊕ Addr)},zo H O M' v (.tp m)->(∀ r,Sum.inr r ∈ m->M'' r ≠ none)->zo H (fun a=>O a/\¬ (M' a ≠ none/\M'' a=none)) M'' v (.tp m):=fun {v m} ⟨a,xs,h1,h2,h3,h4,h5⟩ hr=>⟨a,xs,h1,fun z=>h2 z.1,h3,h4,fun i y d e1 e2=>by
    have:=h5 i y d e1 e2
    cases d with
    | inl d=>exact Rep.imp ks this
    | inr q=>exact ⟨this.1,hr q (List.mem_of_getElem? e2)⟩⟩
  have avs:∀ {xs:List V} {l:List AV},zj H O M' xs l->(∀ r,(∃ x ∈ l,x.Has r)->M'' r ≠ none)->zj H (fun a=>O a/\¬ (M' a ≠ none/\M'' a=none)) M'' xs l:=fun {xs l} rr hr=>⟨rr.1,fun i y d e1 e2=>by
    have:=rr.2 i y d e1 e2
    cases d with
    | d d=>exact Rep.imp ks this
    | ref a=>exact ⟨this.1,hr a ⟨_,List.mem_of_getElem? e2,rfl⟩⟩
    | tp m=>exact tpk this fun r h=>hr r ⟨_,List.mem_of_getElem? e2,h⟩⟩
  have refs0:∀ q o,M0 q=some o->∀ r,vz r o->M0 r ≠ none:=fun q o e r hr=>by
    have:=w0.mo q o e
    cases o with
    | lst l=>
      obtain ⟨xs,_,rr⟩:=this
      obtain ⟨x,hx,hh⟩:=hr
      obtain ⟨i,hi⟩:=List.getElem?_of_mem hx
      obtain ⟨y,_,ry⟩:=rr.get hi
      exact ry.has hh
    | dK l=>
      obtain ⟨xs,_,rr⟩:=this
      obtain ⟨x,hx,hh⟩:=hr
      obtain ⟨i,hi⟩:=List.getElem?_of_mem hx
      obtain ⟨y,_,ry⟩:=rr.2.get hi
      exact ry.has hh
    | dT l=>
      obtain ⟨xs,_,rr⟩:=this
      obtain ⟨x,hx,hh⟩:=hr
      obtain ⟨i,hi⟩:=List.getElem?_of_mem hx
      obtain ⟨y,_,ry⟩:=rr.2.get hi
      exact ry.has hh
    | ins C l=>
      obtain ⟨dx,xs,_,rr,_⟩:=this
      obtain ⟨x,hx,hh⟩:=hr
      obtain ⟨i,hi⟩:=List.getElem?_of_mem hx
      obtain ⟨y,_,ry⟩:=rr.2.get hi
      exact ry.has hh
    | exc C l=>exact hr.elim
    | tb R=>exact hr.elim
  refine ⟨fun a=>O a/\¬ (M' a ≠ none/\M'' a=none),⟨fun q o e=>?_,fun a h=>?_,fun a h=>w.al a h.1⟩,⟨fun a u h e=>?_,fun a h e=>?_,m0⟩,?_,fun a h e=>⟨⟨h,fun z=>z.1 e⟩,(f.sub a).elim (fun z=>z.trans e) (fun z=>z.2)⟩⟩
  · have e' : M' q = some o := by
      rcases f.sub q with z | z
      · rw [<- z];exact e
      · rw [z.2] at e;cases e
    have hr:∀ r,vz r o->M'' r ≠ none:=by
      rcases f.cl q o e with z | z
      · exact fun r hr=>m0 r (refs0 q o z r hr)
      · exact z
    have:=w.mo q o e'
    cases o with
    | lst l=>obtain ⟨xs,h1,rr⟩:=this;exact ⟨xs,h1,avs rr hr⟩
    | dK l=>obtain ⟨xs,h1,rr⟩:=this;exact ⟨xs,h1,rr.1,avs rr.2 hr⟩
    | dT l=>obtain ⟨xs,h1,rr⟩:=this;exact ⟨xs,h1,rr.1,avs rr.2 hr⟩
    | ins C l=>
      obtain ⟨dx,xs,h1,rr,h2,h3,h4⟩:=this
      refine ⟨dx,xs,h1,⟨rr.1,avs rr.2 hr⟩,⟨h2,fun z=>z.1 h3⟩,?_,h4⟩
      rcases f.sub dx with z | z
      · rw [z];exact h3
      · exact z.2
    | exc C l=>
      obtain ⟨d,h1,h2⟩:=this
      refine ⟨d,h1,?_⟩
      rcases h2 with h2 | ⟨dx,e1,h2,h3,h4⟩
      · exact .inl h2
      · refine .inr ⟨dx,e1,h2,⟨h3,fun z=>z.1 h4⟩,?_⟩
        rcases f.sub dx with z | z
        · rw [z];exact h4
        · exact z.2
    | tb R=>obtain ⟨ps,h1,h2⟩:=this;exact ⟨ps,h1,h2.imp id fun ⟨c,oc,u,a1,a2,a3⟩=>⟨c,oc,u,a1,fun z=>a2 z.1,a3⟩⟩
  · refine ⟨w.own a ?_,fun z=>h z.2⟩
    rcases f.sub a with z | z
    · rw [<- z];exact h
    · exact absurd z.2 h
  · obtain ⟨x1,x2⟩:=k.fix a u h e
    exact ⟨x1,fun z=>x2 z.1⟩
  · obtain ⟨x1,x2,x3⟩:=k.prv a h e
    refine ⟨x1,⟨x2,fun z=>z.1 x3⟩,?_⟩
    rcases f.sub a with z | z
    · rw [z];exact x3
    · exact z.2
  · rcases f.res with ⟨rfl,hp⟩ | ⟨p,l,ds,rfl,hm,hp,hn,rfl⟩ | ⟨d,hd,rfl⟩
    · cases x' with
      | d d=>exact Rep.imp ks r
      | ref a=>exact ⟨r.1,hp a rfl⟩
      | tp m=>exact tpk r hp
    · obtain ⟨xs,hx,rx⟩:=w.mo p _ hm
      rw [jL hp] at rx
      have rp:=rx.pure
      rw [r.1]
      exact Rep.lst (fun z=>z.2 ⟨qZ hm,hn⟩) hx rp.1 fun i x d e1 e2=>(rp.2 i x d e1 e2).imp ks
    · exact hd.rep w r
theorem kL {M0 M' M'':MH}{x x':AV} (w0:Wf H0 O0 M0)(w:Wf H O M')(k:Ext H0 O0 M0 H O M')(r:zo H O M' v x)(f:va M0 M' x x' M'') :
  ∃ O'',Wf H O'' M''/\Ext H0 O0 M0 H O'' M''/\zo H O'' M'' v x':=let ⟨O2,a,b,c,_⟩:=ZU w0 w k r f;⟨O2,a,b,c⟩
noncomputable def Fr (M0 M:MH):Prop:=∀ q,M0 q ≠ none->M q=M0 q
theorem Fr.refl:Fr M M:=fun _ _=>rfl
theorem Fr.mup {M0 M:MH}(f:Fr M0 M){p:Addr}(h:M0 p=none)(o:MO):Fr M0 (mup M p o):=fun q hq=>by rw [zu (fun z=>hq (by rw [z];exact h))];exact f q hq
theorem Fr.trans {M0 M1 M2:MH}(a:Fr M0 M1)(b:Fr M1 M2):Fr M0 M2:=fun q hq=>by rw [b q (by rw [a q hq];exact hq),a q hq]
theorem Fr.sub {M0 M:MH}(f:Fr M0 M)(q:Addr):M0 q=M q \/ (M0 q=none/\M0 q=none):=by
 cases e:M0 q with
 | none=>exact .inr ⟨rfl,rfl⟩
 | some o=>exact .inl (by rw [f q (by rw [e];exact fun z=>nomatch z),e])
variable {M0:MH}
theorem qo (f:Fr M0 M)(d:Dat):va M0 M (.d d) (.d d) M0:=⟨f.sub,fun q o e=>.inl e,.inl ⟨rfl,fun p z=>nomatch z⟩⟩
variable {ds:List Dat}
theorem yb (h:pur l=some ds)(r:Addr):¬ ∃ x ∈ l,x.Has r:=by
 rw [jL h];rintro ⟨x,z,k⟩
 obtain ⟨d,_,e⟩:=List.mem_map.mp z
 subst e;exact k
theorem ZM (f:Fr M0 M) (h0:M0 p=none)(h:M p=some (.lst l))(hp:pur l=some ds):va M0 M (.ref p) (.ref p) (mup M0 p (.lst l)):=by
 refine ⟨fun q=>?_,fun q o e=>?_,.inl ⟨rfl,fun q z=>by cases z;rw [zg];exact fun z=>nomatch z⟩⟩
 ·by_cases c:q=p
  ·rw [c,zg,h];exact .inl rfl
  ·rw [zu c];exact f.sub q
 ·by_cases c:q=p
  ·rw [c,zg] at e
   cases e
   exact .inr fun r hr=>absurd hr (yb hp r)
  ·rw [zu c] at e;exact .inl e
noncomputable def zO (N:List Str)(xs:List AV):ASt:=xs.map some ++ List.replicate (N.length - xs.length) none
theorem kP {xs:List AV}(r:zj H O M vs xs)(N:List Str):Er H O M (qB N vs) (zO N xs):=by
 unfold qB zO
 refine ⟨by simp [r.1],fun i x h=>?_⟩
 by_cases c:i<xs.length
 ·rw [List.getElem?_append_left (by simpa using c),List.getElem?_map] at h
  cases e:xs[i]? with
  | none=>rw [e] at h;cases h
  | some y=>
   rw [e] at h
   cases h
   obtain ⟨v,hv,rv⟩:=r.get e
   exact ⟨v,by rw [List.getElem?_append_left (by rw [List.length_map,r.1];exact c),List.getElem?_map,hv];rfl,rv⟩
 ·rw [List.getElem?_append_right (by simp;omega),List.getElem?_replicate] at h
  split at h <;> cases h
noncomputable def rtA (M0:MH)(Q:AK):AK:=fun x M'=>∃ x' M'',va M0 M' x x' M''/\Q x' M''
theorem dfA {x:Str} {a:ASp}(at_:At K mg x st)(S:zt N ps (zd st))
  (hb:∀ (kV doc pm:Value) (an:Option Addr) (cdv ct:Value) (us:List Value),us.length=ps.length->bindArgs (PySem.W.fnOf x x (qj st) (zF st) (zd st) .none kV doc pm an cdv ct) ⟨us,[]⟩=pure (ps.zip us))
  (len:∀ xs M Q,a xs M Q->xs.length=ps.length)
  (hbody:∀ (f:Addr) (cdv:Value) (A:Around) (outer:List Env) (s:Shared) (H:Hp) (E:XK),qc k (A.deeper (envOfC x (zd st) s.heap.objs.size f cdv)) ->
   ∃ t,PSs (jB CX0 P w K mg base N x (zd st) f cdv A outer s H E).nox (zF st) t/\∃ b,jh t b/\∀ xs M Q,a xs M Q->b M { nx:=fun _ M'=>rtA M Q (.d .non) M',rt:=rtA M Q } (zO N xs) M):Df P w K mg base x ps (k+1) (cSp a):=by
 refine wj at_ S hb (fun vs H Q E h=>?_) (fun f cdv A outer s H vs Q E hr h=>?_)
 ·obtain ⟨xs,M,O,Q',w,r,q,_⟩:=h
  rw [r.1];exact len xs M Q' q
 ·obtain ⟨t,ht,b,hb,hq⟩:=hbody f cdv A outer s H E hr
  refine ⟨t,ht,?_⟩
  obtain ⟨xs,M,O,Q',w,r,q,kk⟩:=h
  refine hb.go w w (kP r N) .refl (hq xs M Q' q) ⟨fun σ H' O' ρ M' w' e' x' q'=>?_,fun v y H' O' M' w' x' r' q'=>?_,fun _ _ _ _ _ _ _ _ z=>z.elim,fun _ _ _ _ _ _ _ _ z=>z.elim⟩
  ·obtain ⟨y',M'',f,q2⟩:=q'
   obtain ⟨O'',w2,k2,r2⟩:=kL w w' x' (show zo H' O' M' .non (.d .non) from .non) f
   exact kk _ _ _ _ _ q2 k2 w2 r2
  ·obtain ⟨y',M'',f,q2⟩:=q'
   obtain ⟨O'',w2,k2,r2⟩:=kL w w' x' r' f
   exact kk _ _ _ _ _ q2 k2 w2 r2
structure LN (tr:Addr->TR)(a:ATR):Prop where
 go:∀ D,Yd D (tr D) a
theorem AN {t u:TE}{a b:AE}(h1:zG t a)(h2:zG u b):zG (tOp DG t u) (aFz (fOp GJ a b)):=ZG (K1 Jj h1 h2)
theorem Y4 {b:AA}(h:jc u b):zG (tCB (fun xs H Q=>∃ p a b c n,xs=[.ref p]/\H p=some (QL p a b c)/\Builtin.Range.small a b c=true/\Builtin.Range.rangeSize a b c=((n:Nat):Int)/\n<=100000/\∀ l,H l=none->Q (.ref l) (upd H l (.lst ((qp a c n).map V.int)))) u) (aFz (fCB B2 b)):=ZG (KQ wI h)
variable {q:AS->Prop}
theorem ex2 {t:TS} {b:AS}(h:jh t b)(k:q b):∃ b,jh t b/\q b:=⟨b,h,k⟩
section
variable {X:Cx}{K:PySem.W.Frag}
end
theorem KF {τ:Type}(R:τ->ASt)(f:AV->AV) {N:List AV->ASt->MH->Prop} (h0:∃ o,ρ=R o)(hG:G M)(hl:l.length<=100000)
  (hs:∀ (o:τ) (x:AV) (Q:AV->ASt->MH->Prop),x ∈ l->(∀ o',Q (f x) (R o') M)->ag x (R o) M fun ρ2 M2=>ae ρ2 M2 fun y M3=>Q y ρ2 M3) (hN:∀ o,N (l.map f) (R o) M):J0 ag wl (xE ae) G N l [] ρ M:=by
 have hsl:100000<sizeLine:=by rw [sizeLine_eq];decide
 refine ⟨fun i acc ρ' M'=>i<=l.length/\acc=(l.take i).map f/\M'=M/\∃ o,ρ'=R o,⟨Nat.zero_le _,rfl,rfl,h0⟩,?_,?_⟩
 ·rintro i x acc ρ' M' hx ⟨hi,rfl,rfl,o,rfl⟩
  have hil:=(List.getElem?_eq_some_iff.mp hx).1
  refine ⟨hG,?_⟩
  refine hs o x (fun y ρ2 M3=>((l.take i).map f).length<sizeLine/\(i+1<=l.length/\(l.take i).map f ++ [y]=(l.take (i+1)).map f/\M3=M'/\∃ o,ρ2=R o)) (List.mem_of_getElem? hx) fun o'=>⟨by rw [List.length_map,List.length_take];omega,hil,?_,rfl,o',rfl⟩
  rw [List.take_add_one,hx,List.map_append];rfl
 ·rintro acc ρ' M' ⟨_,rfl,rfl,o,rfl⟩
  rw [List.take_length]
  exact ⟨hG,hN o⟩
theorem D4 {τ:Type}(R:τ->ASt)(f:Nat->AV) {N:List AV->ASt->MH->Prop} (h0:∃ o,ρ=R o)(hG:G M)(hl:l.length<=100000)
  (hs:∀ (o:τ) (i:Nat) (x:AV) (Q:AV->ASt->MH->Prop),l[i]?=some x->(∀ o',Q (f i) (R o') M)->ag x (R o) M fun ρ2 M2=>ae ρ2 M2 fun y M3=>Q y ρ2 M3) (hN:∀ o,N ((List.range l.length).map f) (R o) M):J0 ag wl (xE ae) G N l [] ρ M:=by
 have hsl:100000<sizeLine:=by rw [sizeLine_eq];decide
 refine ⟨fun i acc ρ' M'=>i<=l.length/\acc=(List.range i).map f/\M'=M/\∃ o,ρ'=R o,⟨Nat.zero_le _,rfl,rfl,h0⟩,?_,?_⟩
 ·rintro i x acc ρ' M' hx ⟨hi,rfl,rfl,o,rfl⟩
  have hil:=(List.getElem?_eq_some_iff.mp hx).1
  refine ⟨hG,?_⟩
  refine hs o i x (fun y ρ2 M3=>((List.range i).map f).length<sizeLine/\(i+1<=l.length/\(List.range i).map f ++ [y]=(List.range (i+1)).map f/\M3=M'/\∃ o,ρ2=R o)) hx fun o'=>⟨by rw [List.length_map,List.length_range];omega,hil,?_,rfl,o',rfl⟩
  rw [List.range_succ,List.map_append];rfl
 ·rintro acc ρ' M' ⟨_,rfl,rfl,o,rfl⟩
  exact ⟨hG,hN o⟩
theorem Vc {τ:Type}(R:τ->ASt)(p:AV->Bool)(f:AV->AV) {N:List AV->ASt->MH->Prop} (h0:∃ o,ρ=R o)(hG:G M)(hl:l.length<=100000)
  (hs:∀ (o:τ) (x:AV) (Q:Option AV->ASt->MH->Prop),x ∈ l->(∀ o',Q (if p x then some (f x) else none) (R o') M)->ag x (R o) M fun ρ2 M2=>at_ ρ2 M2 fun b M3=>if b=true then ae ρ2 M3 fun y M4=>Q (some y) ρ2 M4 else Q none ρ2 M3)
  (hN:∀ o,N ((l.filter p).map f) (R o) M):J0 ag at_ (xE ae) G N l [] ρ M:=by
 have hsl:100000<sizeLine:=by rw [sizeLine_eq];decide
 refine ⟨fun i acc ρ' M'=>i<=l.length/\acc=((l.take i).filter p).map f/\M'=M/\∃ o,ρ'=R o,⟨Nat.zero_le _,rfl,rfl,h0⟩,?_,?_⟩
 ·rintro i x acc ρ' M' hx ⟨hi,rfl,rfl,o,rfl⟩
  have hil:=(List.getElem?_eq_some_iff.mp hx).1
  have tk:l.take (i+1)=l.take i ++ [x]:=by rw [List.take_add_one,hx];rfl
  have hlen:(((l.take i).filter p).map f).length<=i:=by
   rw [List.length_map]
   exact Nat.le_trans (List.length_filter_le _ _) (by rw [List.length_take];omega)
  refine ⟨hG,?_⟩
  refine hs o x (fun y ρ2 M3=>match y with | some y=>(((l.take i).filter p).map f).length<sizeLine/\(i+1<=l.length/\((l.take i).filter p).map f ++ [y]=((l.take (i+1)).filter p).map f/\M3=M'/\∃ o,ρ2=R o) | none=>i+1<=l.length/\((l.take i).filter p).map f=((l.take (i+1)).filter p).map f/\M3=M'/\∃ o,ρ2=R o) (List.mem_of_getElem? hx) fun o'=>?_
  rw [tk,List.filter_append]
  cases e:p x with
  | true=>rw [if_pos rfl];exact ⟨by omega,hil,by rw [List.filter_cons_of_pos e,List.map_append];rfl,rfl,o',rfl⟩
  | false=>rw [if_neg (by decide)];exact ⟨hil,by rw [List.filter_cons_of_neg (by rw [e];decide),List.filter_nil,List.append_nil],rfl,o',rfl⟩
 ·rintro acc ρ' M' ⟨_,rfl,rfl,o,rfl⟩
  rw [List.take_length]
  exact ⟨hG,hN o⟩
theorem KL:isT "int" "int"=some true:=by decide +kernel
theorem ZA:isT "int" "bool"=some false:=by decide +kernel
theorem Kx:isT "int" "str"=some false:=by decide +kernel
theorem Gz:isT "int" "list"=some false:=by decide +kernel
theorem BR:isT "int" "tuple"=some false:=by decide +kernel
theorem KI:isT "bool" "int"=some true:=by decide +kernel
theorem ZI:isT "bool" "bool"=some true:=by decide +kernel
theorem JP:isT "bool" "str"=some false:=by decide +kernel
theorem Hr:isT "bool" "list"=some false:=by decide +kernel
theorem Bp:isT "bool" "tuple"=some false:=by decide +kernel
theorem WS:isT "str" "int"=some false:=by decide +kernel
theorem HN:isT "str" "bool"=some false:=by decide +kernel
theorem vF:isT "str" "str"=some true:=by decide +kernel
theorem GO:isT "str" "list"=some false:=by decide +kernel
theorem Ai:isT "str" "tuple"=some false:=by decide +kernel
theorem Wt:isT "NoneType" "int"=some false:=by decide +kernel
theorem Ib:isT "NoneType" "bool"=some false:=by decide +kernel
theorem ZW:isT "NoneType" "str"=some false:=by decide +kernel
theorem GB:isT "NoneType" "list"=some false:=by decide +kernel
theorem W3:isT "NoneType" "tuple"=some false:=by decide +kernel
theorem BH:isT "list" "int"=some false:=by decide +kernel
theorem Hc:isT "list" "bool"=some false:=by decide +kernel
theorem V6:isT "list" "str"=some false:=by decide +kernel
theorem Kg:isT "list" "list"=some true:=by decide +kernel
theorem Qa:isT "list" "tuple"=some false:=by decide +kernel
theorem V3:isT "tuple" "int"=some false:=by decide +kernel
theorem Ip:isT "tuple" "bool"=some false:=by decide +kernel
theorem A7:isT "tuple" "str"=some false:=by decide +kernel
theorem JS:isT "tuple" "list"=some false:=by decide +kernel
theorem Z9:isT "tuple" "tuple"=some true:=by decide +kernel
theorem Bg:yY "int" ["list","tuple"]=some false:=by decide +kernel
theorem Bk:yY "bool" ["list","tuple"]=some false:=by decide +kernel
theorem Vw:yY "str" ["list","tuple"]=some false:=by decide +kernel
theorem WH:yY "NoneType" ["list","tuple"]=some false:=by decide +kernel
theorem AR:yY "list" ["list","tuple"]=some true:=by decide +kernel
theorem Wq:yY "tuple" ["list","tuple"]=some true:=by decide +kernel
theorem VR:Qs []=some []:=rfl
theorem Va {n:String}{r:List Dat}:Qs (.ty n :: r)=(Qs r).map (n :: ·):=rfl
theorem IR (M:MH):tyA (.d .non) M=some "NoneType":=rfl
theorem Lg (b:Bool)(M:MH):tyA (.d (.bl b)) M=some "bool":=rfl
theorem IF (i:Int)(M:MH):tyA (.d (.int i)) M=some "int":=rfl
theorem IT (s:Str)(M:MH):tyA (.d (.str s)) M=some "str":=rfl
theorem Ll (l:List Dat)(M:MH):tyA (.d (.lst l)) M=some "list":=rfl
theorem LC (l:List Dat)(M:MH):tyA (.d (.tup l)) M=some "tuple":=rfl
theorem Yj (x:Dat)(r:List AV):pur (.d x :: r)=match pur r with | some l=>some (x :: l) | none=>none:=rfl
theorem HB (i j:Int):eqS (.int i) (.int j)=some (decide (i=j)):=rfl
theorem HZ (i j:Bool):eqS (.bl i) (.bl j)=some (decide (i=j)):=rfl
theorem Ir (i j:Str):eqS (.str i) (.str j)=some (decide (i=j)):=rfl
theorem Fu:jC (.d .non)=true:=rfl
theorem E5 (i:Int):jC (.d (.int i))=false:=rfl
theorem D9 (i:List Dat):jC (.d (.lst i))=false:=rfl
theorem DZ (i:List Dat):jC (.d (.tup i))=false:=rfl
theorem EY (i:Addr):jC (.ref i)=false:=rfl
theorem EB (i:Str):jC (.d (.str i))=false:=rfl
theorem DH (i:Bool):jC (.d (.bl i))=false:=rfl
theorem Bb (w:Wf H O M)(k:Kp [] H H'):Ext H O M H' O M/\Wf H' O M:=by
 have e:Ext H O M H' O M:=⟨fun a o h e=>⟨k a o (by simp) e,h⟩,fun a h e=>⟨by
  obtain ⟨o,ho,_⟩:=w.al a h
  rw [ho];exact k a o (by simp) ho,h,e⟩,fun _ h=>h⟩
 refine ⟨e,⟨fun a o h=>qQ.ext e ?_ (w.mo a o h),w.own,fun a h=>?_⟩⟩
 ·obtain ⟨u,hu,_⟩:=w.al a (w.own a (by rw [h];exact fun z=>nomatch z))
  rw [hu];exact k a u (by simp) hu
 ·obtain ⟨o,ho,hn⟩:=w.al a h
  exact ⟨o,k a o (by simp) ho,hn⟩
theorem Hj (w:Wf H O M) (hb:M b=some (.lst l))(k:Kp [b] H H') (h:H' b=some (.lst (ns.map V.int))) :
  Ext H O M H' O (mup M b (.lst (ns.map fun i=>.d (.int i))))/\Wf H' O (mup M b (.lst (ns.map fun i=>.d (.int i)))):=by
 have hOb:=w.own b (qZ hb)
 have kk:∀ a o,a ≠ b->H a=some o->H' a=some o:=fun a o ha e=>k a o (by simpa using ha) e
 have e:Ext H O M H' O (mup M b (.lst (ns.map fun i=>.d (.int i)))):=⟨fun a o h e=>⟨kk a o (fun z=>h (by rw [z];exact hOb)) e,h⟩,fun a ha e=>by
  have hne:a ≠ b:=fun z=>by rw [z,hb] at e;cases e
  obtain ⟨o,ho,_⟩:=w.al a ha
  exact ⟨by rw [ho];exact kk a o hne ho,ha,by rw [zu hne];exact e⟩,fun a ha=>by
  by_cases c:a=b
  ·rw [c,zg];exact fun z=>nomatch z
  ·rw [zu c];exact ha⟩
 refine ⟨e,⟨fun a o ho=>?_,fun a ha=>?_,fun a ha=>?_⟩⟩
 ·by_cases c:a=b
  ·subst c;rw [zg] at ho;cases ho;exact ⟨_,h,JC ns⟩
  ·rw [zu c] at ho
   refine qQ.ext e ?_ (w.mo a o ho)
   obtain ⟨u,hu,_⟩:=w.al a (w.own a (qZ ho))
   rw [hu];exact kk a u c hu
 ·by_cases c:a=b
  ·rw [c];exact hOb
  ·rw [zu c] at ha;exact w.own a ha
 ·by_cases c:a=b
  ·rw [c];exact ⟨_,h,fun xs z=>nomatch z⟩
  ·obtain ⟨o,ho,hn⟩:=w.al a ha
   exact ⟨o,kk a o c ho,hn⟩
theorem AJ (ho:¬ O p)(h:H p=some (.lst (ns.map V.int))):Rep H O (.ref p) (.lst (ns.map .int)):=
 Rep.lst ho h (by simp) fun i x d e1 e2=>by
  rw [List.getElem?_map] at e1 e2
  cases e:ns[i]? with
  | none=>rw [e] at e1;cases e1
  | some n=>rw [e] at e1 e2;cases e1;cases e2;exact .int
theorem BP {x:AV} (w:Wf H O M)(r:zo H O M v x)(h:qm x M=some (ns.map fun i=>.d (.int i))):∃ a,v=.ref a/\H a=some (.lst (ns.map V.int)):=by
 obtain ⟨a,xs,rfl,h1,r1⟩:=qw w r h
 rw [xV r1] at h1
 exact ⟨a,rfl,h1⟩
theorem Df.imp' {x:Str} {sp sp':Sp} (D:Df P w K mg base x ps k sp)(h:∀ vs H Q E,sp' vs H Q E->sp vs H Q E):Df P w K mg base x ps k sp':=
 let ⟨f,fd,F,r⟩:=D
 ⟨f,fd,F.imp h,r⟩
mutual
noncomputable def wdt:Dat->Nat
 | .lst l=>max l.length (JJ l)
 | .tup l=>max l.length (JJ l)
 | _=>0
noncomputable def JJ:List Dat->Nat
 | []=>0
 | a :: r=>max (wdt a) (JJ r)
end
theorem K8 {l:List Dat}{n:Nat}(h:∀ d ∈ l,wdt d<=n):JJ l<=n:=by
 induction l with
 | nil=>exact Nat.zero_le _
 | cons a r ih=>rw [JJ];exact Nat.max_le.mpr ⟨h a (by simp),ih fun d hd=>h d (by simp [hd])⟩
theorem KR {l:List Dat}{d:Dat}(h:d ∈ l):wdt d<=JJ l:=by
 induction l with
 | nil=>cases h
 | cons a r ih=>
  rw [JJ]
  rcases List.mem_cons.mp h with rfl | h
  ·exact Nat.le_max_left _ _
  ·exact Nat.le_trans (ih h) (Nat.le_max_right _ _)
noncomputable def jG (n:Nat)(d:Dat):Prop:=dp d<=n/\wdt d<=100000
theorem jG.mono {n m:Nat} (h:jG n d)(k:n<=m):jG m d:=⟨Nat.le_trans h.1 k,h.2⟩
theorem A8 {l:List Dat}(hl:l.length<=100000)(h:∀ d ∈ l,jG n d):jG (n+1) (.lst l):=⟨by rw [dp];exact Nat.succ_le_succ (xR fun d hd=>(h d hd).1),by rw [wdt];exact Nat.max_le.mpr ⟨hl,K8 fun d hd=>(h d hd).2⟩⟩
theorem v8 {l:List Dat}(hl:l.length<=100000)(h:∀ d ∈ l,jG n d):jG (n+1) (.tup l):=⟨by rw [dp];exact Nat.succ_le_succ (xR fun d hd=>(h d hd).1),by rw [wdt];exact Nat.max_le.mpr ⟨hl,K8 fun d hd=>(h d hd).2⟩⟩
theorem wf (n:Nat)(i:Int):jG n (.int i):=⟨by simp [dp],by simp [wdt]⟩
theorem xX (n:Nat)(i:Str):jG n (.str i):=⟨by simp [dp],by simp [wdt]⟩
theorem YU (h:ns.length<=100000):jG 1 (.lst (ns.map .int)):=A8 (by simpa using h) fun d hd=>by obtain ⟨i,_,rfl⟩:=List.mem_map.mp hd;exact wf 0 i
theorem jG.lst {l:List Dat}(h:jG (n+1) (.lst l)):l.length<=100000/\∀ d ∈ l,jG n d:=by
 obtain ⟨h1,h2⟩:=h
 rw [dp] at h1
 rw [wdt] at h2
 exact ⟨(Nat.max_le.mp h2).1,fun d hd=>⟨by have:=qt hd;omega,Nat.le_trans (KR hd) (Nat.max_le.mp h2).2⟩⟩
theorem jG.tup {l:List Dat}(h:jG (n+1) (.tup l)):l.length<=100000/\∀ d ∈ l,jG n d:=by
 obtain ⟨h1,h2⟩:=h
 rw [dp] at h1
 rw [wdt] at h2
 exact ⟨(Nat.max_le.mp h2).1,fun d hd=>⟨by have:=qt hd;omega,Nat.le_trans (KR hd) (Nat.max_le.mp h2).2⟩⟩
theorem jG.no_l {l:List Dat}(h:jG 0 (.lst l)):False:=by have:=h.1;rw [dp] at this;omega
theorem jG.no_t {l:List Dat}(h:jG 0 (.tup l)):False:=by have:=h.1;rw [dp] at this;omega
theorem Q9 {x:AV}{M:MH}{l:List Dat}(h:kE x M=some (.lst l)):qm x M=some (l.map .d)/\qF x M=some (l.map .d)/\tyA x M=some "list"/\jC x=false:=by
 cases x with
 | tp l=>cases h
 | d x=>cases h;exact ⟨rfl,rfl,rfl,rfl⟩
 | ref a=>
  unfold kE at h
  dsimp only at h
  cases e:M a with
  | none=>rw [e] at h;cases h
  | some o=>
   rw [e] at h
   cases o with
   | lst m=>
    dsimp only at h
    cases ep:pur m with
    | none=>rw [ep] at h;cases h
    | some ds=>
     rw [ep] at h
     cases h
     rw [jL ep] at e
     exact ⟨jp e,qk e,by unfold tyA;dsimp only;rw [e],rfl⟩
   | _=>cases h
theorem qx {x:AV}{M:MH}{d:Dat}(h:kE x M=some d)(hd:∀ l,d ≠ .lst l):x=.d d:=by
 cases x with
 | tp l=>cases h
 | d x=>cases h;rfl
 | ref a=>
  unfold kE at h
  dsimp only at h
  cases e:M a with
  | none=>rw [e] at h;cases h
  | some o=>
   rw [e] at h
   cases o with
   | lst m=>
    dsimp only at h
    cases ep:pur m with
    | none=>rw [ep] at h;cases h
    | some ds=>rw [ep] at h;cases h;exact absurd rfl (hd ds)
   | _=>cases h
theorem QM (b:Bool):dp (.bl b)=0:=by simp [dp]
theorem qv (b:Str):dp (.str b)=0:=by simp [dp]
theorem Ky:dp .non=0:=by simp [dp]
theorem Kz (a b:Bool):eqD (.bl a) (.bl b)=decide (a=b):=by rw [eqD];cases a <;> cases b <;> rfl
theorem xK (a b:Int):eqD (.int a) (.int b)=decide (a=b):=by rw [eqD];by_cases h:a=b <;> simp [h]
theorem kY (a b:Str):eqD (.str a) (.str b)=decide (a=b):=by rw [eqD];by_cases h:a=b <;> simp [h]
theorem A2:eqD .non .non=true:=by simp [eqD]
theorem Bw (i:Int):eqD .non (.int i)=false:=by simp [eqD]
theorem Iu (i:Int):eqD (.int i) .non=false:=by simp [eqD]
theorem GA (i:Int)(s:Str):eqD (.int i) (.str s)=false:=by simp [eqD]
theorem Ii (i:Int)(s:Str):eqD (.str s) (.int i)=false:=by simp [eqD]
theorem Hf (s:Str):eqD (.str s) .non=false:=by simp [eqD]
theorem Hy (s:Str):eqD .non (.str s)=false:=by simp [eqD]
theorem XZ (ns:List Int):List.map AV.d (List.map Dat.int ns)=List.map (fun i=>AV.d (.int i)) ns:=by rw [List.map_map];rfl
theorem F1 (ns:List Bool):List.map AV.d (List.map Dat.bl ns)=List.map (fun i=>AV.d (.bl i)) ns:=by rw [List.map_map];rfl
theorem jf (ns:List Int):pur (List.map (fun i=>AV.d (.int i)) ns)=some (ns.map Dat.int):=by rw [<- XZ,zX]
theorem EN (ns:List Bool):pur (List.map (fun i=>AV.d (.bl i)) ns)=some (ns.map Dat.bl):=by rw [<- F1,zX]
theorem Fc {α β:Type}(f:α->β)(l:List α)(i:Int):atI (l.map f) i=(atI l i).map f:=by
 unfold atI
 rw [List.length_map]
 cases ixN l.length i with
 | none=>rfl
 | some j=>exact List.getElem?_map ..
theorem qU {i:Int}(h0:0<=i)(h1:i<n):ixN n i=some i.toNat:=by unfold ixN;rw [if_pos h0,if_pos h1]
theorem Ie {α:Type}{l:List α}{i:Int}(h0:0<=i)(h1:i<l.length)(d:α):atI l i=some (l.getD i.toNat d):=by
 unfold atI
 rw [qU h0 h1]
 show l[i.toNat]?=_
 rw [List.getD_eq_getElem?_getD,List.getElem?_eq_getElem (by omega)];rfl
theorem wQ {α:Type}(xs:List α)(k:Nat):wC xs (some (k:Int)) none=xs.drop k:=by
 unfold wC
 rw [HT.sIx_nat,HT.sIx_none,List.take_of_length_le (by rw [List.length_drop];omega)]
 by_cases h:k<=xs.length
 ·rw [Nat.min_eq_left h]
 ·rw [Nat.min_eq_right (by omega),List.drop_length,List.drop_of_length_le (by omega)]
theorem zi {a qG:AS}{B:MH}{D:qW} (h:∀ r,r=qG->xU a r B D ρ M):xU a qG B D ρ M:=h qG rfl
theorem Fr.non {M M':MH}(f:Fr M M'){p:Addr}(h:M' p=none):M p=none:=by
 cases e:M p with
 | none=>rfl
 | some o=>rw [f p (by rw [e];exact fun z=>nomatch z),e] at h;cases h
noncomputable abbrev ilD (os:List Int):Dat:=.lst (os.map .int)
theorem Fg (ns:List Int)(M:MH):qm (.d (ilD ns)) M=some (ns.map fun i=>.d (.int i)):=by rw [VS,XZ]
noncomputable def BxM (M:MH)(b:Addr)(N:Nat):Prop:=∃ x y z:Int,M b=some (.lst [.d (.int x),.d (.int y),.d (.int z)])/\0<=x/\0<=y/\y<2147483648/\0<=z/\z<=N
theorem BxM.mono {N N':Nat}(h:BxM M b N)(hn:N<=N'):BxM M b N':=by
 obtain ⟨x,y,z,h1,h2,h3,h4,h5,h6⟩:=h
 exact ⟨x,y,z,h1,h2,h3,h4,h5,by omega⟩
theorem BxM.ne {N:Nat}(h:BxM M b N):M b ≠ none:=by obtain ⟨x,y,z,h1,_⟩:=h;exact qZ h1
theorem BxM.bx {N:Nat}(w:Wf H O M)(h:BxM M b N):Bx H b N:=by
 obtain ⟨x,y,z,h1,h2⟩:=h
 obtain ⟨xs,hx,rx⟩:=w.mo b _ h1
 rw [xV (ns:=[x,y,z]) rx] at hx
 exact ⟨x,y,z,hx,h2⟩
noncomputable def BxS (M M':MH)(b:Addr)(N:Nat):Prop:=BxM M' b N/\∃ o,M'=mup M b o
theorem BxS.at {N:Nat}(h:BxS M M' b N){q:Addr}(hq:q ≠ b):M' q=M q:=by
 obtain ⟨_,o,rfl⟩:=h
 exact zu hq
theorem Wk (w:Wf H O M) {N N':Nat}(hb:BxM M b N)(k:Kp [b] H H')(h:Bx H' b N'):∃ M',BxS M M' b N'/\Ext H O M H' O M'/\Wf H' O M':=by
 obtain ⟨x,y,z,h1,_⟩:=hb
 obtain ⟨x',y',z',g1,g2⟩:=h
 obtain ⟨e1,e2⟩:=Hj w h1 k (ns:=[x',y',z']) g1
 exact ⟨_,⟨⟨x',y',z',zg,g2⟩,_,rfl⟩,e1,e2⟩
mutual
noncomputable def pdD:Dat->PyData
 | .bl b=>.bool b
 | .int i=>.int i
 | .str x=>.str x
 | .lst l=>.list (jU l)
 | .tup l=>.tuple (jU l)
 | _=>.none
noncomputable def jU:List Dat->List PyData
 | []=>[]
 | a :: r=>pdD a :: jU r
end
section
variable {X:Cx}{pins:List (Addr × Obj)}{s:Shared}{σ:St}{H:Hp}{O:Own}
theorem kM:∀ {xs:List V} {us:List Value} {l:List Dat},zB xs us->xs.length=l.length->(∀ (i:Nat) x d,xs[i]?=some x->l[i]?=some d->∀ v',zz x v'->∃ as,Reads s.heap v' (pdD d) as)->∃ as,ReadsAll s.heap us (jU l) as
 | [],_,[],.nil,_,_=>⟨_,by rw [jU];exact .nil⟩
 | x :: xs,_,d :: l,.cons r t,hl,h=>by
  obtain ⟨as,ha⟩:=h 0 x d rfl rfl _ r
  obtain ⟨bs,hb⟩:=kM t (by simpa using hl) (fun i y e h1 h2=>h (i+1) y e (by simpa using h1) (by simpa using h2))
  exact ⟨as ++ bs,by rw [jU];exact .cons ha hb⟩
theorem Bj (I:Inv X pins σ H s){v:V}{d:Dat}(r:Rep H O v d):dp d<1000->∀ v',zz v v'->∃ as,Reads s.heap v' (pdD d) as:=by
 induction r with
 | non=>intro _ v' rv;cases rv;exact ⟨_,by rw [show pdD .non=.none by simp [pdD]];exact .none⟩
 | bl=>intro _ v' rv;cases rv;exact ⟨_,by rw [pdD];exact .bool _⟩
 | int=>intro _ v' rv;obtain ⟨t,rfl⟩:=rv;exact ⟨_,by rw [pdD];exact .int _ _⟩
 | str=>intro _ v' rv;obtain ⟨t,rfl⟩:=rv;exact ⟨_,by rw [pdD];exact .str _ _⟩
 | ty=>intro h;rw [dp] at h;omega
 | rng _ _=>intro h;rw [dp] at h;omega
 | scr _ _=>intro h;rw [dp] at h;omega
 | scrK _=>intro h;rw [dp] at h;omega
 | @lst a xs l o h hl _ ih=>
  intro hd v' rv
  cases rv
  rw [dp] at hd
  obtain ⟨_,its,n,vs,hg⟩:=(show zR X.prog X.w H s.heap a (.lst xs) from I.hok a _ h)
  obtain ⟨as,ha⟩:=kM vs hl (fun i x d e1 e2=>ih i x d e1 e2 (by have:=qt (List.mem_of_getElem? e2);omega))
  exact ⟨_,by rw [pdD];exact .list hg rfl rfl (by simpa using ha)⟩
 | @tup a xs l o h hl _ ih=>
  intro hd v' rv
  cases rv
  rw [dp] at hd
  obtain ⟨_,its,vs,o,ho,hc,⟨n,hdt⟩,_⟩:=(show zR X.prog X.w H s.heap a (.tup xs) from I.hok a _ h)
  obtain ⟨as,ha⟩:=kM vs hl (fun i x d e1 e2=>ih i x d e1 e2 (by have:=qt (List.mem_of_getElem? e2);omega))
  exact ⟨_,by rw [pdD];exact .tuple ho hc hdt (by simpa using ha)⟩
mutual
theorem VA:∀ d:Dat,(pdD d).hasDict=false
 | .non=>by simp [pdD,PyData.hasDict]
 | .bl _=>by simp [pdD,PyData.hasDict]
 | .int _=>by simp [pdD,PyData.hasDict]
 | .str _=>by simp [pdD,PyData.hasDict]
 | .ty _=>by simp [pdD,PyData.hasDict]
 | .rng _ _ _=>by simp [pdD,PyData.hasDict]
 | .scr _ _=>by simp [pdD,PyData.hasDict]
 | .lst l=>by rw [pdD,PyData.hasDict];exact Zp l
 | .tup l=>by rw [pdD,PyData.hasDict];exact Zp l
theorem Zp:∀ l:List Dat,PyData.hasDictAll (jU l)=false
 | []=>by simp [jU,PyData.hasDictAll]
 | a :: r=>by rw [jU,PyData.hasDictAll,VA a,Zp r];rfl
end
mutual
theorem Qz:∀ d:Dat,(pdD d).depth<=dp d
 | .non=>by simp [pdD,PyData.depth]
 | .bl _=>by simp [pdD,PyData.depth]
 | .int _=>by simp [pdD,PyData.depth]
 | .str _=>by simp [pdD,PyData.depth]
 | .ty _=>by simp [pdD,PyData.depth]
 | .rng _ _ _=>by simp [pdD,PyData.depth]
 | .scr _ _=>by simp [pdD,PyData.depth]
 | .lst l=>by rw [pdD,PyData.depth,dp];exact Nat.succ_le_succ (yI l)
 | .tup l=>by rw [pdD,PyData.depth,dp];exact Nat.succ_le_succ (yI l)
theorem yI:∀ l:List Dat,PyData.depthAll (jU l)<=dps l
 | []=>by simp [jU,PyData.depthAll]
 | a :: r=>by rw [jU,PyData.depthAll,dps];exact Nat.max_le.mpr ⟨Nat.le_trans (Qz a) (Nat.le_max_left _ _),Nat.le_trans (yI r) (Nat.le_max_right _ _)⟩
end
noncomputable def IS:List V->Hp->VK->Prop:=fun xs H Q=>∃ a O d,xs=[.ref a]/\Rep H O (.ref a) d/\dp d<=40/\(pdD d).showable=true/\(pdD d).shown.length<=sizeLine/\Q (.str (pdD d).shown) H
theorem Zd (hg:X.A.guards=some [])(hu:X.A.units+64<cLine):ju X (.type "str") IS:=by
 intro pins s σ H xs us Q I r h
 obtain ⟨a,O,d,rfl,rd,hd,hs,hz,q⟩:=h
 have hdp:=Qz d
 obtain ⟨u,rfl,ru⟩:∃ u,us=[u]/\zz (.ref a) u:=by
  cases r with
  | cons p q=>cases q;exact ⟨_,rfl,p⟩
 cases ru
 obtain ⟨as,ha⟩:=Bj I rd (by omega) _ rfl
 exact str_of_reads ha hs (PyData.noDict_hsm (VA d)) hg (by omega) (fun _ _ e=>e) (fun h' u tk hk=>⟨.str _,H,I.kept hk,⟨_,rfl⟩,q⟩) hz
end
noncomputable def stD:Dat->Str
 | .str x=>x
 | d=>(pdD d).shown
section
variable {X:Cx}
noncomputable def Gg:List V->Hp->VK->Prop:=fun xs H Q=>∃ v O d,xs=[v]/\Rep H O v d/\dp d<=40/\(pdD d).showable=true/\(pdD d).shown.length<=sizeLine/\Q (.str (stD d)) H
theorem wU (hg:X.A.guards=some [])(hu:X.A.units+64<cLine):ju X (.type "str") Gg:=by
 intro pins s σ H xs us Q I r h
 obtain ⟨v,O,d,rfl,rd,hd,hs,hz,q⟩:=h
 have I':∀ tk,Inv X pins σ H { s with toks:=tk }:=fun tk=>I.kept (h':=s.heap) (fun _ _ e=>e)
 cases rd with
 | non=>
  obtain ⟨u,rfl,ru⟩:∃ u,us=[u]/\zz .non u:=by
   cases r with
   | cons p q=>cases q;exact ⟨_,rfl,p⟩
  cases ru
  exact PySem.P.str_of_none ⟨.str _,H,I' _,⟨_,rfl⟩,by simpa [stD,pdD,PyData.shown] using q⟩
 | @bl b=>
  obtain ⟨u,rfl,ru⟩:∃ u,us=[u]/\zz (.bl b) u:=by
   cases r with
   | cons p q=>cases q;exact ⟨_,rfl,p⟩
  cases ru
  exact PySem.P.str_of_bool ⟨.str _,H,I' _,⟨_,rfl⟩,by cases b <;> simpa [stD,pdD,PyData.shown] using q⟩
 | @int i=>
  obtain ⟨u,rfl,ru⟩:∃ u,us=[u]/\zz (.int i) u:=by
   cases r with
   | cons p q=>cases q;exact ⟨_,rfl,p⟩
  obtain ⟨t,rfl⟩:=ru
  have hs:i.natAbs.log2<1920:=by rw [pdD,PyData.showable] at hs;exact of_decide_eq_true hs
  exact PySem.P.str_of_int hs ⟨.str _,H,I' _,⟨_,rfl⟩,by simpa [stD,pdD,PyData.shown] using q⟩
 | @str x=>
  obtain ⟨u,rfl,ru⟩:∃ u,us=[u]/\zz (.str x) u:=by
   cases r with
   | cons p q=>cases q;exact ⟨_,rfl,p⟩
  obtain ⟨t,rfl⟩:=ru
  exact PySem.P.str_of_str ⟨.str x,H,I,⟨t,rfl⟩,q⟩
 | ty=>rw [dp] at hd;omega
 | rng _ _=>rw [dp] at hd;omega
 | scr _ _=>rw [dp] at hd;omega
 | scrK _=>rw [dp] at hd;omega
 | lst h1 h2 h3 h4=>exact Zd hg hu pins s σ H _ us Q I r ⟨_,O,_,rfl,.lst h1 h2 h3 h4,hd,hs,hz,by simpa [stD] using q⟩
 | tup h1 h2 h3 h4=>exact Zd hg hu pins s σ H _ us Q I r ⟨_,O,_,rfl,.tup h1 h2 h3 h4,hd,hs,hz,by simpa [stD] using q⟩
end
noncomputable def FK:List AV->MH->AK->Prop:=fun xs M Q=>∃ x d,xs=[x]/\kE x M=some d/\dp d<=40/\(pdD d).showable=true/\(pdD d).shown.length<=sizeLine/\Q (.d (.str (stD d))) M
theorem VW:wq Gg FK:=⟨fun w r ⟨x,d,e,hx,h1,h3,h4,q⟩ k=>by
 subst e
 obtain ⟨v,rfl,rv⟩:=jy r
 obtain ⟨O',r'⟩:=vy w rv hx
 exact ⟨v,O',d,rfl,r',h1,h3,h4,k _ _ _ _ _ q .refl w .str⟩⟩
structure Sh (b:Nat)(d:Dat):Prop where
 s:(pdD d).showable=true
 l:(pdD d).shown.length<=b
theorem Sh.mono {b c:Nat} (h:Sh b d)(k:b<=c):Sh c d:=⟨h.s,Nat.le_trans h.l k⟩
theorem G4 {i:Int}(h:i.natAbs<10 ^ 20):Sh 22 (.int i):=by
 have h1:i.natAbs.log2<1920:=by
  by_cases z:i.natAbs=0
  ·rw [z];decide
  ·exact (Nat.log2_lt z).mpr (Nat.lt_trans h (by decide +kernel))
 refine ⟨by rw [pdD,PyData.showable];exact decide_eq_true h1,?_⟩
 rw [pdD,PyData.shown]
 have:=int_text_length_le10 (a:=i) (k:=20) (by decide) h
 have e:(Str.ofString (toString i)).length=(toString i).length:=PySem.ofString_length _
 show (Str.ofString (toString i)).length<=22
 omega
theorem XA {l:List Dat}(h:∀ d ∈ l,(pdD d).showable=true):PyData.showableAll (jU l)=true:=by
 induction l with
 | nil=>simp [jU,PyData.showableAll]
 | cons a r ih=>rw [jU,PyData.showableAll,h a (by simp),ih fun d hd=>h d (by simp [hd])];rfl
theorem yd {b:Nat}{l:List Dat}(h:∀ d ∈ l,(pdD d).shown.length<=b):((PyData.shownAll (jU l)).map (·.length)).sum<=l.length * b/\(PyData.shownAll (jU l)).length=l.length:=by
 induction l with
 | nil=>simp [jU,PyData.shownAll]
 | cons a r ih=>
  obtain ⟨h1,h2⟩:=ih fun d hd=>h d (by simp [hd])
  have h3:=h a (by simp)
  rw [jU,PyData.shownAll]
  simp only [List.map_cons,List.sum_cons,List.length_cons]
  refine ⟨?_,by rw [h2]⟩
  rw [Nat.add_mul,Nat.one_mul]
  omega
theorem GL {b n:Nat}{l:List Dat}(hn:l.length<=n)(h:∀ d ∈ l,Sh b d):Sh (n * b+2 * n+3) (.lst l):=by
 obtain ⟨h1,h2⟩:=yd (fun d hd=>(h d hd).l)
 refine ⟨by rw [pdD,PyData.showable];exact XA fun d hd=>(h d hd).s,?_⟩
 rw [pdD,PyData.shown]
 have:=listText_len_le (PyData.shownAll (jU l))
 have hm:l.length * b<=n * b:=Nat.mul_le_mul_right b hn
 omega
theorem A1 {b n:Nat}{l:List Dat}(hn:l.length<=n)(h:∀ d ∈ l,Sh b d):Sh (n * b+2 * n+3) (.tup l):=by
 obtain ⟨h1,h2⟩:=yd (fun d hd=>(h d hd).l)
 refine ⟨by rw [pdD,PyData.showable];exact XA fun d hd=>(h d hd).s,?_⟩
 rw [pdD,PyData.shown]
 have:=tupleText_len_le (PyData.shownAll (jU l))
 have hm:l.length * b<=n * b:=Nat.mul_le_mul_right b hn
 omega
noncomputable def xG (ρ:ASt)(j:Nat)(p:Addr):Prop:=match ρ[j]? with
 | some (some y)=>y.Has p
 | _=>False
noncomputable def LG (i:Nat)(t:TS):TS:=t
theorem XU {ss:List Stmt}{t:TS}(i:Nat)(h:PSs X ss t):PSs X ss (LG i t):=h
noncomputable def V9 (i:Nat)(a:AS):AS:=fun B D ρ M=>∃ p l ds,ρ[i]?=some (some (.ref p))/\M p=some (.lst l)/\pur l=some ds/\B p=none/\(∀ j:Nat,j ≠ i->¬ xG ρ j p)/\(∀ q o,q ≠ p->M q=some o->B q=some o \/ ¬ vz p o)/\a B D (ρ.set i (some (.d (.lst ds)))) (mdel M p)
theorem Wc {t:TS}{a:AS}(h:jh t a):jh (LG i t) (V9 i a):=⟨fun {H0 O0 M0 D D' σ H O ρ M} w0 w e x q E=>by
 obtain ⟨p,l,ds,hi,hm,hp,hb,ho,hr,q⟩:=q
 obtain ⟨xs,hx,rx⟩:=w.mo p _ hm
 have rx0:=rx
 rw [jL hp] at rx
 have rp:=rx.pure
 have ks:=xr (H:=H) (O:=O) p
 have refs0:∀ q o,M0 q=some o->¬ vz p o:=fun q o eq hr'=>by
  have:=w0.mo q o eq
  cases o with
  | lst l=>obtain ⟨xs,_,rr⟩:=this;obtain ⟨x,hx',hh⟩:=hr';obtain ⟨i,hi⟩:=List.getElem?_of_mem hx';obtain ⟨y,_,ry⟩:=rr.get hi;exact ry.has hh hb
  | dK l=>obtain ⟨xs,_,rr⟩:=this;obtain ⟨x,hx',hh⟩:=hr';obtain ⟨i,hi⟩:=List.getElem?_of_mem hx';obtain ⟨y,_,ry⟩:=rr.2.get hi;exact ry.has hh hb
  | dT l=>obtain ⟨xs,_,rr⟩:=this;obtain ⟨x,hx',hh⟩:=hr';obtain ⟨i,hi⟩:=List.getElem?_of_mem hx';obtain ⟨y,_,ry⟩:=rr.2.get hi;exact ry.has hh hb
  | ins C l=>obtain ⟨dx,xs,_,rr,_⟩:=this;obtain ⟨x,hx',hh⟩:=hr';obtain ⟨i,hi⟩:=List.getElem?_of_mem hx';obtain ⟨y,_,ry⟩:=rr.2.get hi;exact ry.has hh hb
  | exc C l=>exact hr'.elim
  | tb R=>exact hr'.elim
 have av:∀ {v:V} {y:AV},zo H O M v y->¬ y.Has p->zo H (Zs O p) (mdel M p) v y:=fun {v y} r hy=>by
  cases y with
  | d y=>exact Rep.imp ks r
  | ref a=>exact ⟨r.1,by rw [jn (fun z=>hy (show a=p from z))];exact r.2⟩
  | tp m=>
   obtain ⟨a,xs,h1,h2,h3,h4,h5⟩:=r
   refine ⟨a,xs,h1,fun z=>h2 z.2,h3,h4,fun i x d e1 e2=>?_⟩
   have:=h5 i x d e1 e2
   cases d with
   | inl d=>exact Rep.imp ks this
   | inr q=>exact ⟨this.1,by rw [jn (fun z=>hy (by rw [<- z];exact List.mem_of_getElem? e2))];exact this.2⟩
 have avs:∀ {vs:List V} {ys:List AV},zj H O M vs ys->(¬ ∃ x ∈ ys,x.Has p)->zj H (Zs O p) (mdel M p) vs ys:=fun r hy=>⟨r.1,fun i v y e1 e2=>av (r.2 i v y e1 e2) fun z=>hy ⟨_,List.mem_of_getElem? e2,z⟩⟩
 have hOd:∀ dx b,O dx->M dx=none->H dx=some b->(∀ xs,b ≠ .lst xs)->Zs O p dx/\mdel M p dx=none:=fun dx b h1 h2 h3 h4=>⟨⟨QK h3 hx (h4 _),h1⟩,by unfold mdel;split;rfl;exact h2⟩
 refine h.go w0 ⟨fun q o eq=>?_,fun a ha=>?_,fun a (ha:Zs O p a)=>w.al a ha.2⟩ ⟨?_,fun j y hj=>?_⟩ ⟨fun a o ha eo=>⟨(x.fix a o ha eo).1,fun (z:Zs O p a)=>(x.fix a o ha eo).2 z.2⟩,fun a ha eo=>?_,fun a ha=>?_⟩ q E
 ·have hq:q ≠ p:=fun z=>by rw [z,yz] at eq;cases eq
  rw [jn hq] at eq
  have hno:¬ vz p o:=(hr q o hq eq).elim (fun z=>refs0 q o z) (fun z=>z)
  have:=w.mo q o eq
  cases o with
  | lst l=>obtain ⟨xs,h1,rr⟩:=this;exact ⟨xs,h1,avs rr hno⟩
  | dK l=>obtain ⟨xs,h1,rr⟩:=this;exact ⟨xs,h1,rr.1,avs rr.2 hno⟩
  | dT l=>obtain ⟨xs,h1,rr⟩:=this;exact ⟨xs,h1,rr.1,avs rr.2 hno⟩
  | ins C l=>obtain ⟨dx,xs,h1,rr,h2,h3,h4⟩:=this;exact ⟨dx,xs,h1,⟨rr.1,avs rr.2 hno⟩,(hOd dx _ h2 h3 h4 (fun _ z=>nomatch z)).1,(hOd dx _ h2 h3 h4 (fun _ z=>nomatch z)).2,h4⟩
  | exc C l=>
   obtain ⟨d,h1,h2⟩:=this
   refine ⟨d,h1,?_⟩
   rcases h2 with h2 | ⟨dx,e1,h2,h3,h4⟩
   ·exact .inl h2
   ·exact .inr ⟨dx,e1,h2,(hOd dx _ h3 h4 h2 (fun _ z=>nomatch z)).1,(hOd dx _ h3 h4 h2 (fun _ z=>nomatch z)).2⟩
  | tb R=>obtain ⟨ps,h1,h2⟩:=this;exact ⟨ps,h1,h2.imp id fun ⟨c,oc,u,a1,a2,a3⟩=>⟨c,oc,u,a1,fun z=>a2 z.2,a3⟩⟩
 ·have hq:a ≠ p:=fun z=>ha (by rw [z,yz])
  rw [jn hq] at ha
  exact ⟨hq,w.own a ha⟩
 ·rw [List.length_set];exact e.len
 ·rw [List.getElem?_set] at hj
  by_cases c:i=j
  ·rw [if_pos c] at hj
   split at hj
   ·cases hj
    obtain ⟨v,hv,rv⟩:=e.get i _ hi
    rw [<- c]
    exact ⟨v,hv,by rw [rv.1];exact Rep.lst (fun z=>z.1 rfl) hx rp.1 fun i x d e1 e2=>(rp.2 i x d e1 e2).imp ks⟩
   ·cases hj
  ·rw [if_neg c] at hj
   obtain ⟨v,hv,rv⟩:=e.get j y hj
   exact ⟨v,hv,av rv (fun z=>ho j (fun z'=>c z'.symm) (by unfold xG;rw [hj];exact z))⟩
 ·obtain ⟨x1,x2,x3⟩:=x.prv a ha eo
  have hne:a ≠ p:=fun z=>by rw [z,hm] at x3;cases x3
  exact ⟨x1,⟨hne,x2⟩,by rw [jn hne];exact x3⟩
 ·have hq:a ≠ p:=fun z=>ha (by rw [z];exact hb)
  rw [jn hq];exact x.mst a ha⟩
structure SB (M0 M:MH)(b:Addr)(N:Nat):Prop where
 bx:BxM M b N
 fr:∀ q,M0 q ≠ none->q ≠ b->M q=M0 q
 b0:M0 b ≠ none
theorem SB.refl {N:Nat}(h:BxM M b N):SB M M b N:=⟨h,fun _ _ _=>rfl,h.ne⟩
theorem SB.go {N N':Nat}(s:SB M0 M b N)(t:BxS M M' b N'):SB M0 M' b N':=⟨t.1,fun q hq hb=>(t.at hb).trans (s.fr q hq hb),s.b0⟩
theorem SB.mono {N N':Nat}(s:SB M0 M b N)(h:N<=N'):SB M0 M b N':=⟨s.bx.mono h,s.fr,s.b0⟩
theorem BxM.put {N:Nat}(h:BxM M b N)(n:b ≠ p)(o:MO):BxM (mup M p o) b N:=by
 obtain ⟨x,y,z,h1,h2⟩:=h
 exact ⟨x,y,z,by rw [zu n];exact h1,h2⟩
theorem SB.new {M0 M:MH}{b p:Addr}{N:Nat}(s:SB M0 M b N)(hp:M p=none):M0 p=none/\p ≠ b:=by
 have hb:p ≠ b:=fun z=>s.bx.ne (by rw [<- z];exact hp)
 refine ⟨?_,hb⟩
 cases e:M0 p with
 | none=>rfl
 | some o=>rw [s.fr p (by rw [e];exact fun z=>nomatch z) hb,e] at hp;cases hp
theorem SB.put {N:Nat}(s:SB M0 M b N)(h0:M0 p=none)(hb:p ≠ b)(o:MO):SB M0 (mup M p o) b N:=
 ⟨s.bx.put (Ne.symm hb) o,fun q hq hqb=>by rw [zu (fun z=>hq (by rw [z];exact h0))];exact s.fr q hq hqb,s.b0⟩
theorem SB.fin {N:Nat}(s:SB M0 M b N)(d:Dat):∃ M'',va M0 M (.d d) (.d d) M''/\BxS M0 M'' b N:=by
 obtain ⟨x,y,z,h1,h2⟩:=s.bx
 refine ⟨mup M0 b (.lst [.d (.int x),.d (.int y),.d (.int z)]),⟨fun q=>?_,fun q o e=>?_,.inl ⟨rfl,fun p z=>nomatch z⟩⟩,⟨x,y,z,zg,h2⟩,_,rfl⟩
 ·by_cases c:q=b
  ·rw [c,zg,h1];exact .inl rfl
  ·rw [zu c]
   cases e:M0 q with
   | none=>exact .inr ⟨rfl,rfl⟩
   | some o=>exact .inl (by rw [s.fr q (by rw [e];exact fun z=>nomatch z) c,e])
 ·by_cases c:q=b
  ·rw [c,zg] at e
   cases e
   exact .inr fun r hr=>absurd hr (yb (ds:=[.int x,.int y,.int z]) rfl r)
  ·rw [zu c] at e;exact .inl e
theorem SB.rt {N:Nat}{Q:AK} (s:SB M0 M b N)(q:∀ M',BxS M0 M' b N->Q (.d d) M'):rtA M0 Q (.d d) M:=by
 obtain ⟨M'',f,t⟩:=s.fin d
 exact ⟨_,_,f,q M'' t⟩
theorem Q1 {Q:AK} (f:Fr M0 M)(q:Q (.d d) M0):rtA M0 Q (.d d) M:=⟨_,_,qo f d,q⟩
theorem SB.frm {M M2 M':MH} {N:Nat}(f:Fr M M2)(hb:M b=none)(s:SB M2 M' b N):Fr M M':=fun q hq=>by
 have h1:q ≠ b:=fun z=>hq (by rw [z];exact hb)
 rw [s.fr q (by rw [f q hq];exact hq) h1,f q hq]
theorem LR {l:List Dat}{i:Int}(h0:0<=i)(h1:i<l.length):∃ d ∈ l,atI (l.map AV.d) i=some (.d d):=by
 have h2:i.toNat<l.length:=by omega
 refine ⟨l[i.toNat],List.getElem_mem h2,?_⟩
 rw [Fc,Ie h0 h1 .non,List.getD_eq_getElem?_getD,List.getElem?_eq_getElem h2];rfl
section
variable {X:Cx}
end
section
open PySem.SeqAt
open PySem.AutoSeq1 (wpAny_loadPart')
open PySem.MeetsSeq PySem.MeetsSeq2 PySem.MeetsSeq3 PySem.SeqRoads2
end
section
variable {X:Cx}
end
section
variable {X:Cx}{pins:List (Addr × Obj)}{σ:St}{H:Hp}{s:Shared}{a b:Addr}{kvs:List (List Key × V)}{k:List Key}{v:V}{r:Value}{A:Around}{E:Value->Shared->Prop}
end
section
variable {prog:Program}{w:World}{A:Around}{E:Value->Shared->Prop}{s:Shared}
end
section
variable {X:Cx}
end
noncomputable def fl2 (o:Obj):Option Value:=match o.data with
 | .fields vs=>vs[2]?
 | _=>none
noncomputable def SmD (h h':Heap):Prop:=∀ b o,h.get? b=some o->∃ o',h'.get? b=some o'/\o'.dict=o.dict/\fl2 o'=fl2 o
theorem SmD.refl (h:Heap):SmD h h:=fun _ o e=>⟨o,e,rfl,rfl⟩
theorem SmD.trans {h h1 h2:Heap}(a:SmD h h1)(b:SmD h1 h2):SmD h h2:=fun c o e=>
 let ⟨_,e1,d1,f1⟩:=a c o e
 let ⟨o2,e2,d2,f2⟩:=b c _ e1
 ⟨o2,e2,d2.trans d1,f2.trans f1⟩
theorem SmD.push (h:Heap)(o:Obj):SmD h (h.push o):=fun _ u e=>⟨u,Heap.get?_push_of_some _ e,rfl,rfl⟩
theorem SmD.up {h:Heap} {f:Obj->Obj}(k:∀ o,(f o).dict=o.dict/\fl2 (f o)=fl2 o/\(o.isFreed=false->(f o).isFreed=false)):SmD h (h.update a f):=fun b o e=>by
 by_cases c:a=b
 ·subst c
  exact ⟨_,Heap.get?_update_self f e ((k o).2.2 (Heap.get?_some_iff.mp e).2),(k o).1,(k o).2.1⟩
 ·exact ⟨o,(Heap.get?_update_other _ _ c).trans e,rfl,rfl⟩
structure Kd {α:Type}(t:Sem α):Prop where
 out:∀ (M:Model) (G:PySem.Ctx) (R:α->Pos->Shared->Prop) (Ee:Value->Pos->Shared->Prop) (p:Pos) (s:Shared),Sem.wp M G t R Ee p s->Sem.wp M G t (fun a p' s'=>R a p' s'/\SmD s.heap s'.heap) Ee p s
section
variable {α β:Type}
theorem Zr (a:α):Kd (Pure.pure a:Sem α):=⟨fun _ _ _ _ _ s h=>⟨h,SmD.refl _⟩⟩
theorem HP (x:String):Kd (unsupported x:Sem α):=⟨fun _ _ _ _ _ _ h=>h⟩
theorem X8 {m:Sem α}{f:α->Sem β}(hm:Kd m)(hf:∀ a,Kd (f a)):Kd (m >>= f):=⟨fun M G R Ee p s h=>by
 rw [Sem.wp_bind'] at h ⊢
 refine Sem.wp_mono M G m (fun a p1 s1 h1=>?_) (fun _ _ _ z=>z) p s (hm.out M G _ Ee p s h)
 refine Sem.wp_mono M G (f a) (fun b p2 s2 h2=>⟨h2.1,h1.2.trans h2.2⟩) (fun _ _ _ z=>z) p1 s1 ((hf a).out M G R Ee p1 s1 h1.1)⟩
theorem GT {c:Prop}[Decidable c]{t u:Sem α}(ht:Kd t)(hu:Kd u):Kd (if c then t else u):=by split <;> assumption
theorem DN (a:Addr):Kd (PySem.load a):=⟨fun _ _ R _ p s h=>by
 unfold PySem.load at h ⊢
 rw [Sem.wp_load] at h ⊢
 obtain ⟨o,e,h⟩:=h
 exact ⟨o,e,h,SmD.refl _⟩⟩
theorem Yk {f:Obj->Obj}(k:∀ o,(f o).dict=o.dict/\fl2 (f o)=fl2 o/\(o.isFreed=false->(f o).isFreed=false)):Kd (PySem.update a f):=⟨fun _ _ R _ p s h=>by
 unfold PySem.update at h ⊢
 rw [Sem.wp_update] at h ⊢
 exact ⟨h.1,h.2,SmD.up k⟩⟩
theorem Wv:Kd PySem.stack:=⟨fun M G R Ee p s h=>by
 unfold PySem.stack at h ⊢
 rw [Sem.wp_stack] at h ⊢
 exact ⟨h,SmD.refl _⟩⟩
theorem AY (o:Obj):Kd (PySem.alloc o):=⟨fun _ _ R _ p s h=>by
 unfold PySem.alloc at h ⊢
 rw [Sem.wp_alloc] at h ⊢
 exact ⟨h,SmD.push _ _⟩⟩
theorem A6 (v:Value)(i:Nat):Kd (PySem.field v i):=⟨fun _ G R Ee p s h=>by
 obtain ⟨a,o,vs,x,e1,e2,e3,e4,q⟩:=(wp_field_iff G v i R Ee p s).mp h
 exact (wp_field_iff G v i _ Ee p s).mpr ⟨a,o,vs,x,e1,e2,e3,e4,q,SmD.refl _⟩⟩
theorem Yp (hi:i ≠ 2)(x:Value)(o:Obj):(Obj.mapFields (·.setIfInBounds i x) o).dict=o.dict/\fl2 (Obj.mapFields (·.setIfInBounds i x) o)=fl2 o/\(o.isFreed=false->(Obj.mapFields (·.setIfInBounds i x) o).isFreed=false):=by
 obtain ⟨c,d,dt,sl⟩:=o
 cases dt
 case fields vs=>exact ⟨rfl,Array.getElem?_setIfInBounds_ne hi,fun h=>h⟩
 all_goals exact ⟨rfl,rfl,fun h=>h⟩
theorem Ji (v:Value)(i:Nat)(x:Value)(hi:i ≠ 2):Kd (PySem.setField v i x):=⟨fun _ G R Ee p s h=>by
 obtain ⟨a,o,vs,e1,e2,e3,e4,q⟩:=(wp_setField_iff G v i x R Ee p s).mp h
 exact (wp_setField_iff G v i x _ Ee p s).mpr ⟨a,o,vs,e1,e2,e3,e4,q,SmD.up (Yp hi x)⟩⟩
end
local macro_rules | `(tactic| walk_at "kd")=>`(tactic| repeat' with_reducible first
  | assumption
  | exact Zr _
  | exact HP _
  | exact A6 _ _
  | exact Ji _ _ _ (by decide)
  | exact DN _
  | exact Wv
  | exact AY _
  | apply GT
  | apply X8
  | intro _
  | split)
theorem YT (env:Env)(outer:List Env):Kd (behindIsImport env outer):=by
 unfold behindIsImport
 walk_at "kd"
theorem YR:Kd underTheClaimsCaller:=by
 unfold underTheClaimsCaller
 walk_at "kd"
theorem Ef (env:Env)(i:Bool)(l:List Env):Kd (keptBack env i l):=by
 have:=YR
 cases l <;> unfold keptBack <;> walk_at "kd"
theorem Qw:∀ l:List Env,Kd (readyFrames l)
 | []=>Zr _
 | env :: outer=>by
  have ih:=Qw outer
  have h1:=YT env outer
  have h2:=fun i=>Ef env i outer
  unfold readyFrames
  walk_at "kd"
  all_goals first | exact h2 _ | exact Yk fun o=>⟨rfl,rfl,fun z=>by obtain ⟨c,d,dt,sl⟩:=o;cases dt <;> exact z⟩ | skip
theorem Qk (l:List Env):Kd (frameObject l):=by
 cases l with
 | nil=>exact Zr _
 | cons env outer=>
  have:=Qw (env :: outer)
  unfold frameObject
  walk_at "kd"
theorem ZE:Kd frameEnvs:=by
 unfold frameEnvs
 walk_at "kd"
theorem Jw (env:Env):Kd (PySem.frameOf env):=by
 have h1:=ZE
 have h2:=Qk
 unfold PySem.frameOf
 walk_at "kd"
 all_goals first | exact h2 _ | skip
theorem Av (f:Addr)(b:Bool):Kd (entryPlaceOf f b):=by
 unfold entryPlaceOf
 walk_at "kd"
theorem BN (a b c d e:Value)(l:List Value):Kd (EntryCells.newEntry a b c d e l):=by
 unfold EntryCells.newEntry newFields newObj newObjAsIs
 walk_at "kd"
theorem ZV (e:Value)(env:Env):Kd (noteFrame e env):=by
 have h1:=Jw env
 have h2:=Av
 have h3:=BN
 unfold noteFrame
 walk_at "kd"
 all_goals first | exact h2 _ _ | exact h3 _ _ _ _ _ _ | skip
theorem xy (e:Value)(f:Option Addr):Kd (setFlight e f):=by
 unfold setFlight
 walk_at "kd"
theorem wa (env:Env)(e:Value):Kd (leaving env e):=X8 (ZV e env) fun _=>xy e none
theorem Kd.any {α:Type}{t:Sem α}(k:Kd t){M:Model} {Q:α->Shared->Prop}{E:Value->Shared->Prop} (h:wpAny M A t Q E s):wpAny M A t (fun a s'=>Q a s'/\SmD s.heap s'.heap) E s:=
 fun G p hG=>k.out M G _ _ p s (h G p hG)
theorem zR.here {P:Program}{w:World}{H:Hp}{h:Heap}{a:Addr}{o:HO}(x:zR P w H h a o):∃ u,h.get? a=some u:=by
 cases o with
 | lst xs=>obtain ⟨_,_,_,_,e⟩:=x;exact ⟨_,e⟩
 | tup xs=>obtain ⟨_,_,_,o,e,_⟩:=x;exact ⟨_,e⟩
 | dK kvs=>obtain ⟨_,_,_,_,o,_,_,e,_⟩:=x;exact ⟨_,e⟩
 | dT kvs=>obtain ⟨_,_,_,_,o,_,_,e,_⟩:=x;exact ⟨_,e⟩
 | set S n=>obtain ⟨o,_,_,_,e,_⟩:=x;exact ⟨_,e⟩
 | ins C dx fs=>obtain ⟨_,_,_,e,_⟩:=x;exact ⟨_,e⟩
 | own y=>exact x
 | xd fs=>obtain ⟨_,⟨_,_,_,e,_⟩,_⟩:=x;exact ⟨_,e⟩
 | rng lo hi=>obtain ⟨_,_,_,e⟩:=x;exact ⟨_,e⟩
 | frz ob u=>obtain ⟨e,_⟩:=x;exact ⟨_,e⟩
 | tbl ps=>exact ⟨_,x⟩
 | met f y=>exact ⟨_,x⟩
 | ext φ=>exact x.2.1
structure xQ (P:Program)(w:World)(outer:List Env)(H:Hp)(s:Shared)(B:Heap)(H':Hp)(s':Shared):Prop where
 os:s'.os=s.os
 bare:AllBare s'.gens
 stay:B.StaysIn s'.heap
 cov:∀ b o,s.heap.get? b=some o->b ∉ frs outer->∃ o',B.get? b=some o'/\(H b=none->o'=o)
 slot:∀ b o,s.heap.get? b=some o->b ∈ frs outer->∃ sl,s'.heap.get? b=some { o with slots:=sl }
 frf:∀ b ∈ frs outer,H b=none
 free:∀ b o,s.heap.get? b=some o->H b=none->H' b=none
 tups:∀ b xs,H b=some (.tup xs)->H' b=some (.tup xs)
 frzs:∀ b o u,H b=some (.frz o u)->H' b=some (.frz o u)
 tbls:∀ b ps,H b=some (.tbl ps)->∃ more,H' b=some (.tbl (ps ++ more))
 hok:HOk P w H' B
section
variable {P:Program}{w:World}{outer:List Env}{H H':Hp}{s s':Shared}{B h':Heap}
theorem xQ.un (a:xQ P w outer H s B H' s'):Un (frs outer) [] H H' s.heap s'.heap where
 keep:=fun b o e n hb _=>by
  obtain ⟨o',e1,e2⟩:=a.cov b o e hb
  rw [e2 n] at e1
  exact a.stay b o e1
 slot:=fun b o e _ hb _=>a.slot b o e hb
 free:=fun b o e n _=>a.free b o e n
 there:=fun b o e _=>by
  by_cases hb:b ∈ frs outer
  ·obtain ⟨sl,z⟩:=a.slot b o e hb
   exact ⟨_,z⟩
  ·obtain ⟨o',e1,_⟩:=a.cov b o e hb
   exact ⟨_,a.stay b o' e1⟩
 tups:=a.tups
 frzs:=a.frzs
 tbls:=a.tbls
theorem xQ.ok (a:xQ P w outer H s B H' s'):HOk P w H' s'.heap:=a.hok.kept a.stay
theorem xQ.step (a:xQ P w outer H s B H' s'){B0:Heap}(fr:s'.heap.FunFrames B0 outer)(k:B.StaysIn h')(u:s'.heap.UpToSlots h'):xQ P w outer H s B H' { s' with heap:=h' }:=
 ⟨a.os,a.bare,k,a.cov,fun b o e hb=>by
  obtain ⟨sl,z⟩:=a.slot b o e hb
  obtain ⟨_,o2,e2,nf⟩:=fr.mem hb
  rw [z] at e2;cases e2
  obtain ⟨sl2,z2⟩:=u b _ z nf
  exact ⟨sl2,z2⟩,a.frf,a.free,a.tups,a.frzs,a.tbls,a.hok⟩
end
section
variable {X:Cx}{pins:List (Addr × Obj)}{σ:St}{H H':Hp}{s s':Shared}{B h':Heap}
theorem Inv.ltS (I:Inv X pins σ H s) {o:Obj}(e:X.s₀.heap.get? b=some o):b ≠ X.env.locals:=fun z=>by
 have h:=Nat.lt_of_lt_of_le (Heap.lt_size e) I.ok.above
 rw [z] at h
 exact Nat.lt_irrefl _ h
theorem Inv.notStk (I:Inv X pins σ H s) {o:Obj}(e:X.s₀.heap.get? b=some o)(hb:b ∉ frs X.outer):b ∉ frs X.stack:=fun z=>(List.mem_cons.mp (I.stkSub b z)).elim (I.ltS e) hb
theorem yL {X:Cx}(hs:X.stack=X.env :: X.outer){b:Addr}(hb:b ∈ frs X.outer):b ∈ frs X.stack:=by
 rw [hs];unfold frs;rw [List.filterMap_cons]
 cases X.env.frame with
 | none=>exact hb
 | some f=>exact List.mem_cons_of_mem _ hb
theorem xQ.out (I:Inv X pins σ H s)(hs:X.stack=X.env :: X.outer)(hex:X.ex=[])(a:xQ X.prog X.w X.stack H s B H' s'):xQ X.prog X.w X.outer X.H₀ X.s₀ B H' s':=by
 have nx:∀ b,b ∉ X.ex:=fun b=>by rw [hex];simp
 refine ⟨a.os.trans I.os,a.bare,a.stay,fun b o e hb=>?_,fun b o e hb=>?_,I.ok.frf,fun b o e n=>?_,fun b xs e=>a.tups b xs (I.base.tups b xs e),fun b o u e=>a.frzs b o u (I.base.frzs b o u e),fun b ps e=>?_,a.hok⟩
 ·obtain ⟨o1,e1⟩:=I.base.there b o e (nx b)
  obtain ⟨o',e2,e3⟩:=a.cov b o1 e1 (I.notStk e hb)
  refine ⟨o',e2,fun n=>?_⟩
  have:=I.base.keep b o e n hb (nx b)
  rw [e1] at this;cases this
  exact e3 (I.base.free b o e n (nx b))
 ·obtain ⟨sl,e1⟩:=I.base.slot b o e (I.ok.frf b hb) hb (nx b)
  obtain ⟨sl2,e2⟩:=a.slot b _ e1 (yL hs hb)
  exact ⟨sl2,e2⟩
 ·obtain ⟨o1,e1⟩:=I.base.there b o e (nx b)
  exact a.free b o1 e1 (I.base.free b o e n (nx b))
 ·obtain ⟨m1,e1⟩:=I.base.tbls b ps e
  obtain ⟨m2,e2⟩:=a.tbls b _ e1
  exact ⟨m1 ++ m2,by rw [e2,Array.append_assoc]⟩
noncomputable def jl (X:Cx)(s:Shared)(x:Addr):Heap:=PySem.W.hideAll s.heap (x :: frs X.stack)
theorem K2 (I:Inv X pins σ H s){x:Addr}(hx:H x=none):HOk X.prog X.w H (jl X s x):=fun a o e=>by
 refine (I.hok a o e).stay (fun b u hb q=>PySem.W.hideAll_get _ q fun z=>?_) (fun _ q=>q) fun _ _ q=>q
 have:H b=none:=by
  rcases List.mem_cons.mp z with rfl | z
  ·exact hx
  ·exact I.stkFree b z
 rcases hb with rfl | hb
 ·rw [e] at this;cases this
 ·rw [hb] at this;cases this
theorem Kt (I:Inv X pins σ H s)(hs:X.stack=X.env :: X.outer)(hex:X.ex=[]){x:Addr}(hx0:X.s₀.heap.get? x=none)(hx:H x=none)(st:(jl X s x).StaysIn h')(us:s.heap.UpToSlots h') :
  xQ X.prog X.w X.outer X.H₀ X.s₀ (jl X s x) H { s with heap:=h' }:=by
 have nx:∀ b,b ∉ X.ex:=fun b=>by rw [hex];simp
 have hid:∀ b o o',X.s₀.heap.get? b=some o->b ∉ frs X.outer->s.heap.get? b=some o'->(jl X s x).get? b=some o':=fun b o o' e hb e1=>PySem.W.hideAll_get _ e1 fun z=>by
  rcases List.mem_cons.mp z with rfl | z
  ·rw [hx0] at e;cases e
  ·exact I.notStk e hb z
 refine ⟨I.os,I.bare,st,fun b o e hb=>?_,fun b o e hb=>?_,I.ok.frf,fun b o e n=>I.base.free b o e n (nx b),I.base.tups,I.base.frzs,I.base.tbls,K2 I hx⟩
 ·obtain ⟨o1,e1⟩:=I.base.there b o e (nx b)
  refine ⟨o1,hid b o o1 e hb e1,fun n=>?_⟩
  have:=I.base.keep b o e n hb (nx b)
  rw [e1] at this;cases this;rfl
 ·obtain ⟨sl,e1⟩:=I.base.slot b o e (I.ok.frf b hb) hb (nx b)
  obtain ⟨_,o2,e2,nf⟩:=I.stack.mem (yL hs hb)
  rw [e1] at e2;cases e2
  obtain ⟨sl2,e3⟩:=us b _ e1 nf
  exact ⟨sl2,e3⟩
end
noncomputable def Two (d:Option Addr)(H:Hp):Prop:=∃ dx fs,d=some dx/\H dx=some (.xd fs)/\2<=fs.length
structure Air (P:Program)(w:World)(outer:List Env)(H:Hp)(s:Shared)(x C:Addr)(d:Option Addr)(H':Hp)(s':Shared):Prop where
 ex:∃ B a0,xQ P w outer H s B H' s'/\Heap.FlyingW B outer x (.ref C) a0 s'.heap
 dct:∃ o,s'.heap.get? x=some o/\o.dict=d/\(fl2 o=some .none \/ Two d H')
noncomputable def CX1 (P:Program)(w:World):CXT:=fun outer H s E e s'=>∃ x C d H',e=.ref x/\Air P w outer H s x C d H' s'/\E (.ref C) d H'
theorem CX1.imp {s s':Shared}{E E':XK}{e:Value}(h:CX1 P w outer H s E e s')(k:∀ c d H',E c d H'->E' c d H'):CX1 P w outer H s E' e s':=
 let ⟨x,C,d,H',e1,a,q⟩:=h
 ⟨x,C,d,H',e1,a,k _ _ _ q⟩
structure DX (X:Cx)(E:XK):Prop where
 stk:X.stack=X.env :: X.outer
 ex:X.ex=[]
 fr:X.env.frame=some X.env.locals
 xe:X.xe=fun e s'=>wpAny (model X.prog X.w) X.A (leaving X.env e) (fun _ s''=>CX1 X.prog X.w X.outer X.H₀ X.s₀ E e s'') (fun e' s''=>CX1 X.prog X.w X.outer X.H₀ X.s₀ E e' s'') s'
section
variable {X:Cx}{E:XK}{pins:List (Addr × Obj)}{σ:St}{H H':Hp}{s s':Shared}
theorem DX.pass (D:DX X E):kG (CX1 X.prog X.w) X E:=by
 intro pins σ H s e s' I h
 obtain ⟨x,C,d,H',rfl,⟨⟨B,a0,a,fl⟩,o,ho,hd,h2⟩,q⟩:=h
 rw [D.xe]
 have hs:=D.stk
 rw [hs] at fl
 refine wpAny_mono ((wa X.env (.ref x)).any (wpAny_leaves_onW (E:=fun _ _=>False) (Q:=fun _ s2=>∃ h',s2={ s' with heap:=h' }/\Heap.FlyingW B X.outer x (.ref C) a0 h'/\s'.heap.UpToSlots h') (by rw [<- hs];exact I.ok.frames) D.fr fl fun h' f1 us=>⟨h',rfl,f1,us⟩)) (fun _ s2 h2=>?_) fun _ _ z=>z.elim
 obtain ⟨⟨h',rfl,f1,us⟩,sd⟩:=h2
 obtain ⟨o',ho',hd',hf'⟩:=sd x o ho
 exact ⟨x,C,d,H',rfl,⟨⟨B,a0,(a.out I hs D.ex).step (B0:=B) (by
  obtain ⟨_,_,f3,_⟩:=fl
  exact f3.2.2) f1.1 us,f1⟩,o',ho',hd'.trans hd,h2.imp (fun z=>hf'.trans z) id⟩,q⟩
theorem DX.raise (D:DX X E)(I:Inv X pins σ H s){x C:Addr}{d:Option Addr}{oe:Obj}{vs:Array Value}{a0:Value}{h1:Heap}(k:∀ b o,b ≠ x->s.heap.get? b=some o->h1.get? b=some o)(kx:∀ o,s.heap.get? x=some o->∃ vs,o.data=.fields vs)
  (he:h1.get? x=some oe) (hc:oe.cls=.ref C) (hd:oe.dict=d) (hf:oe.data=.fields vs) (hv1:vs[1]?=some .none) (hv0:vs[0]?=some a0) (hv2:vs[2]?=some .none \/ Two d H) (hx0:X.s₀.heap.get? x=none) (hx:H x=none) (q:E (.ref C) d H):X.xe (.ref x) { s with heap:=h1 }:=by
 rw [D.xe]
 have hs:=D.stk
 have st1:(jl X s x).StaysIn h1:=fun b o e=>k b o (fun z=>by rw [z,jl,PySem.W.hideAll_none _ (List.mem_cons_self)] at e;cases e) (PySem.W.of_hideAll _ e)
 have us1:s.heap.UpToSlots h1:=fun b o e nf=>by
  by_cases c:b=x
  ·rw [c] at e
   obtain ⟨vs,z⟩:=kx o e
   exact absurd z (nf vs)
  ·exact ⟨o.slots,k b o c e⟩
 have fr0:s.heap.FunFrames (jl X s x) (X.env :: X.outer):=by
  have:=I.stack
  rw [hs] at this
  exact PySem.W.funFrames_hide this fun env he b hb=>List.mem_cons_of_mem _ (by rw [hs];exact List.mem_filterMap.mpr ⟨env,he,hb⟩)
 have fr1:h1.FunFrames (jl X s x) (X.env :: X.outer):=fr0.of_keeps fun b o e nf=>by
  obtain ⟨sl,z⟩:=us1 b o e nf
  exact ⟨_,z,rfl⟩
 have xn:(jl X s x).get? x=none:=PySem.W.hideAll_none _ List.mem_cons_self
 refine wpAny_mono ((wa X.env (.ref x)).any (wpAny_leaving_firstW (s:={ s with heap:=h1 }) (E:=fun _ _=>False) (base:=jl X s x) (Q:=fun _ s2=>∃ h',s2={ s with heap:=h' }/\Heap.LeftW (jl X s x) (X.env :: X.outer) x oe.cls a0 h1 h') (by rw [<- hs];exact I.ok.frames) fr1 D.fr he st1 xn hf hv1 hv0 fun h' hl=>⟨h',rfl,hl⟩)) (fun _ s2 h2=>?_) fun _ _ z=>z.elim
 obtain ⟨⟨h',rfl,l1,l2,l3,l4⟩,sd⟩:=h2
 obtain ⟨o',ho',hd',hf'⟩:=sd x oe he
 have hff:fl2 oe=vs[2]?:=by unfold fl2;rw [hf]
 rw [hc] at l3
 exact ⟨x,C,d,H,rfl,⟨⟨jl X s x,a0,Kt I hs D.ex hx0 hx l1 (us1.trans l4),l1,xn,l2.2.2,l3⟩,o',ho',hd'.trans hd,hv2.imp (fun z=>(hf'.trans hff).trans z) id⟩,q⟩
end
noncomputable def yM (CX:CXT)(X:Cx)(E:St->XK):Prop:=∀ (pins:List (Addr × Obj)) (σ:St) (H:Hp) (s:Shared) (e:Value) (s':Shared),Inv X pins σ H s->CX X.stack H s (E σ) e s'->X.xe e s'
noncomputable def Kn (sp:Sp)(E:St->XK)(t:TA):TE:=fun σ H Q=>t σ H fun vs H1=>sp vs H1 Q (E σ)
noncomputable def DfX (P:Program)(w:World)(K:PySem.W.Frag)(mg:Str->Option Value)(base:Heap)(x:Str)(ps:List Str)(k:Nat)(sp:Sp):Prop:=
 ∃ f fd,jq P w K mg base (CX1 P w) k f fd ps sp/\jr K fd ps []/\PySem.W.keepIn K (.ref f)=true/\mg x=some (.ref f)
section
variable {X:Cx}{k:Nat}{x:Str}{ps:List Str}{sp:Sp}{E:St->XK}{p pos:Pos}{e:Expr}{es:List Expr}{t:TA}
theorem K3 {CX:CXT}{f:Addr}{fd:FuncData}{pins:List (Addr × Obj)}{σ:St}{H:Hp}{s:Shared}{Q:VK}{us:List Value}{vs:List V}(F:jq X.prog X.w X.K X.mg X.base CX k f fd ps sp)(hr:qc k X.A)(hb:jr X.K fd ps [])(hx:yM CX X E)
  (I:Inv X pins σ H s) (r:zB vs us) (h:sp vs H Q (E σ)):wpAny (model X.prog X.w) X.A (call (.ref f) us) (EP X pins σ Q) X.xe s:=by
 have hl:(us ++ []).length=ps.length:=by rw [List.append_nil,<- r.length];exact F.len _ _ _ _ h
 have b1:=hb s us I.kIn hl
 rw [List.append_nil] at b1
 refine wpAny_call (codeAny_mono (F.run X.A X.stack s H ⟨us,[]⟩ us vs Q (E σ) hr I.env0 b1 r h) fun r s' hq=>?_)
 cases r with
 | error e=>exact hx pins σ H s e s' I hq
 | ok fl=>
  cases fl with
  | ret u=>exact I.after hq
  | next=>exact False.elim hq
  | brk=>exact False.elim hq
  | cont=>exact False.elim hq
theorem WW (D:DfX X.prog X.w X.K X.mg X.base x ps k sp)(hr:qc k X.A)(hg:Gl X x)(hx:yM (CX1 X.prog X.w) X E)(ha:PA X (e :: es) t)(hdb:(x == ("__debug__":Str))=false:=by decide)
  (he:starEach (e :: es) X.env=(false,eval e X.env) :: starEach es X.env:=by rfl) (hpl:(backTo pos (starEach es X.env)).any (·.1)=false:=by rfl):PE X (.Call (.Name x p) (e :: es) [] pos) (Kn sp E t):=by
 obtain ⟨f,fd,F,b,kp,m⟩:=D
 intro pins s σ H Q I h
 refine wpAny_Call_Name_kw (jo I hg m ?_ hdb)
 refine PySem.W.callWith_K (h₀:=X.base) I.ok.mod.kin kp (thn (ha pos pins s σ H _ I h) fun us s1 ⟨vs,H1,I1,r,q⟩=>⟨I1.kIn,?_⟩) he hpl
 exact K3 F hr b hx I1 r q
theorem DX.passX {E0:XK}(D:DX X E0):yM (CX1 X.prog X.w) X fun _=>E0:=fun pins σ H s e s' I h=>D.pass pins σ H s e s' I h
end
theorem Iw {x:Str} (a:At K mg x st)(S:zt N ps (zd st))
  (hb:∀ (kV doc pm:Value) (an:Option Addr) (cdv ct:Value) (us:List Value),us.length=ps.length->bindArgs (PySem.W.fnOf x x (qj st) (zF st) (zd st) .none kV doc pm an cdv ct) ⟨us,[]⟩=pure (ps.zip us))
  (len:∀ vs H Q E,sp vs H Q E->vs.length=ps.length)
  (hbody:∀ (f:Addr) (cdv:Value) (A:Around) (outer:List Env) (s:Shared) (H:Hp) (vs:List V) (Q:VK) (E:XK),qc k (A.deeper (envOfC x (zd st) s.heap.objs.size f cdv))->sp vs H Q E ->
   ∃ t,(DX (jB (CX1 P w) P w K mg base N x (zd st) f cdv A outer s H E) E->PSs (jB (CX1 P w) P w K mg base N x (zd st) f cdv A outer s H E) (zF st) t)/\t { nx:=fun _ H'=>Q .non H',rt:=Q } (qB N vs) H):DfX P w K mg base x ps (k+1) sp:=by
 obtain ⟨f,fd,F,m⟩:=a
 refine ⟨f,fd,?_,F.binds hb,F.kp,m⟩
 obtain ⟨oc,od,kV,doc,pm,an,cdv,ct,osl,rfl,lk,hcd⟩:=F.ex
 refine BU lk hcd S len fun A outer s H vs Q E hr hsp=>?_
 obtain ⟨t,ht,q⟩:=hbody f cdv A outer s H vs Q E hr hsp
 exact ⟨t,ht ⟨rfl,rfl,rfl,rfl⟩,q⟩
abbrev yy:List Value:=[.type "ValueError",.type "Exception",.type "BaseException",.type "object"]
section
variable {X:Cx}{E:XK}{C:Addr}{x:Str}{np cpos pos:Pos}{e:Expr}{es:List Expr}{t:TA}
end
theorem E3 {h:Heap} {d:Option Addr}{o:Obj}{vs:Array Value}(e:h.get? a=some o)(hc:o.cls=.ref C)(hd:o.dict=d)(hf:o.data=.fields vs):zR P w H h a (wA a C d):=
 ⟨⟨o,e,hc,hd,vs,hf⟩,⟨o,e⟩,fun _ _ ⟨o,e,r⟩ k=>⟨o,k o e,r⟩⟩
section
variable {X:Cx}{pins:List (Addr × Obj)}{σ:St}{H H':Hp}{s s':Shared}
theorem Inv.track (I:Inv X pins σ H s){x:Addr} (hx:H x=none)(h0:X.s₀.heap.get? x=none)(hl:x ≠ X.env.locals)(hc:∀ y c,X.env.cells.lookup y=some c->c ≠ x)(hp:∀ p ∈ X.pn ++ pins,p.1 ≠ x)(ok:zR X.prog X.w (upd H x o) s.heap x o):Inv X pins σ (upd H x o) s:=by
 refine ⟨I.ok,I.os,I.bare,⟨I.base.keep,I.base.slot,fun b u e n hb=>?_,I.base.there,fun b xs e=>?_,fun b u v e=>?_,fun b ps e=>?_⟩,I.loc,I.cell,?_,fun y c e=>?_,fun p hp'=>?_,fun b u e=>?_,I.len⟩
 ·rw [zh (fun z=>by rw [z,h0] at e;cases e)];exact I.base.free b u e n hb
 ·have:=I.base.tups b xs e;rw [zh (zl this hx)];exact this
 ·have:=I.base.frzs b u v e;rw [zh (zl this hx)];exact this
 ·obtain ⟨m,this⟩:=I.base.tbls b ps e;exact ⟨m,by rw [zh (zl this hx)];exact this⟩
 ·rw [zh (Ne.symm hl)];exact I.free
 ·rw [zh (hc y c e)];exact I.freeC y c e
 ·obtain ⟨e1,e2,e3⟩:=I.pin p hp'
  exact ⟨e1,by rw [zh (hp p hp')];exact e2,e3⟩
 ·by_cases c:b=x
  ·subst c;rw [zk] at e;cases e;exact ok
  ·rw [zh c] at e
   exact (I.hok b u e).stay (fun _ _ _ q=>q) (fun d q=>by rw [zh (zl q hx)];exact q) fun d xs q=>by rw [zh (zl q hx)];exact q
theorem Inv.goes (I:Inv X pins σ H s) {n:Str}{m:Str->Option Value}{v:Option Value}{h':Heap}{t':Nat}(nd:X.N.Nodup)(hi:X.N[i]?=some n)(hm:s.heap.Ns X.env.locals m)(hn:h'.Ns X.env.locals fun y=>if y=n then v else m y)(sb:Heap.SameBut X.env.locals s.heap h'):Inv X pins (σ.set i none) H { s with heap:=h',toks:=t' }:=by
  have kp:∀ b o,b ≠ X.env.locals->s.heap.get? b=some o->h'.get? b=some o:=fun b o hb e=>(sb.2 b hb).trans e
  refine ⟨I.ok,I.os,I.bare,⟨fun b o e n hb hx=>kp b o (I.ltS e) (I.base.keep b o e n hb hx),fun b o e n hb hx=>?_,I.base.free,fun b o e hx=>?_,I.base.tups,I.base.frzs,I.base.tbls⟩,⟨_,hn,fun j y u e1 e2 e3=>?_⟩,fun y c e=>?_,I.free,I.freeC,fun p hp=>?_,fun b u e=>?_,by rw [List.length_set];exact I.len⟩
  · obtain ⟨sl,e1⟩:=I.base.slot b o e n hb hx
    exact ⟨sl,kp b _ (I.ltS e) e1⟩
  · obtain ⟨o',e1⟩:=I.base.there b o e hx
    exact ⟨o',kp b o' (I.ltS e) e1⟩
  · have ij : j ≠ i := fun z => by
      rw [z,List.getElem?_set] at e2
      simp only [if_true] at e2
      split at e2 <;> cases e2
    rw [List.getElem?_set_ne (Ne.symm ij)] at e2
    obtain ⟨m',hm',hl⟩:=I.loc
    have em:∀ y,m' y=m y:=fun y=>by
      obtain ⟨o1,es1,ep1,g1,g2,_,g4⟩:=hm'
      obtain ⟨o2,es2,ep2,g1',g2',_,g4'⟩:=hm
      rw [g1] at g1';cases g1'
      rw [g2] at g2';cases g2'
      rw [<- g4 y,g4' y]
    obtain ⟨w,rw1,lk⟩:=hl j y u e1 e2 e3
    refine ⟨w,rw1,?_⟩
    have yn:y ≠ n:=fun z=>ij (vw nd e1 (z ▸ hi))
    rcases lk with ⟨k,z⟩ | ⟨k,c,e,z⟩
    · refine .inl ⟨k,?_⟩
      show (if y=n then v else m y)=_
      rw [if_neg yn,<- em];exact z
    · refine .inr ⟨k,c,e,?_⟩
      obtain ⟨o,ho,hd⟩:=z
      exact ⟨o,kp c o (I.cne y c e) ho,hd⟩
  · obtain ⟨v',o,ho,hd⟩:=I.cell y c e
    exact ⟨v',o,kp c o (I.cne y c e) ho,hd⟩
  · obtain ⟨e,n,ne,nf,d⟩:=I.pin p hp
    exact ⟨kp _ _ ne e,n,ne,nf,d⟩
  · refine (I.hok b u e).stay (fun c v hc q=>kp c v (fun z=>?_) q) (fun _ q=>q) fun _ _ q=>q
    have:=I.free
    rw [<- z] at this
    rcases hc with rfl | hc
    · rw [e] at this;cases this
    · rw [hc] at this;cases this
end
noncomputable abbrev Cx.tried (X:Cx)(pins:List (Addr × Obj))(xe:Value->Shared->Prop):Cx:={ X with pn:=X.pn ++ pins,xe:=xe }
noncomputable abbrev Cx.inside (X:Cx)(x:Addr):Cx:={ X with A:=X.A.mark (some (.ref x)),calm:=false,xe:=fun _ _=>False }
theorem Cx.Ok.tried (ok:X.Ok)(pins:List (Addr × Obj))(xe:Value->Shared->Prop):(X.tried pins xe).Ok:=
 ⟨ok.mod,ok.kind,ok.glob,ok.blt,ok.above,ok.inj,ok.has,ok.cab,ok.hd,ok.frames,ok.stk,ok.exf,ok.bs,ok.bsz,ok.noex,ok.exfs,ok.funs,ok.frf⟩
variable {xe:Value->Shared->Prop}
theorem Cx.Ok.untried (ok:(X.tried pins xe).Ok):X.Ok:=
 ⟨ok.mod,ok.kind,ok.glob,ok.blt,ok.above,ok.inj,ok.has,ok.cab,ok.hd,ok.frames,ok.stk,ok.exf,ok.bs,ok.bsz,ok.noex,ok.exfs,ok.funs,ok.frf⟩
theorem Cx.Ok.inside (ok:X.Ok)(x:Addr):(X.inside x).Ok:=
 ⟨ok.mod,ok.kind,ok.glob,ok.blt,ok.above,ok.inj,ok.has,ok.cab,(fun z=>nomatch z),ok.frames,ok.stk,ok.exf,ok.bs,ok.bsz,ok.noex,ok.exfs,ok.funs,ok.frf⟩
section
variable {X:Cx}{pins pins':List (Addr × Obj)}{σ:St}{H:Hp}{s s':Shared}{xe:Value->Shared->Prop}
theorem Inv.tried (I:Inv X pins σ H s)(xe:Value->Shared->Prop):Inv (X.tried pins xe) [] σ H s:=⟨I.ok.tried pins xe,I.os,I.bare,I.base,I.loc,I.cell,I.free,I.freeC,fun p hp=>I.pin p (by rw [List.append_nil] at hp;exact hp),I.hok,I.len⟩
theorem Inv.untried (I:Inv (X.tried pins xe) pins' σ H s):Inv X pins σ H s:=⟨I.ok.untried,I.os,I.bare,I.base,I.loc,I.cell,I.free,I.freeC,fun p hp=>I.pin p (List.mem_append_left _ hp),I.hok,I.len⟩
theorem Inv.inside (I:Inv X pins σ H s)(x:Addr):Inv (X.inside x) pins σ H s:=⟨I.ok.inside x,I.os,I.bare,I.base,I.loc,I.cell,I.free,I.freeC,I.pin,I.hok,I.len⟩
theorem Inv.outside {x:Addr}(ok:X.Ok)(I:Inv (X.inside x) pins σ H s):Inv X pins σ H s:=⟨ok,I.os,I.bare,I.base,I.loc,I.cell,I.free,I.freeC,I.pin,I.hok,I.len⟩
theorem SP.untried {D:kC}{f:Flow}(h:SP (X.tried pins xe) [] D f s'):SP X pins D f s':=by
 cases f with
 | next=>obtain ⟨σ',H',I,q⟩:=h;exact ⟨σ',H',I.untried,q⟩
 | brk=>obtain ⟨σ',H',I,q⟩:=h;exact ⟨σ',H',I.untried,q⟩
 | cont=>obtain ⟨σ',H',I,q⟩:=h;exact ⟨σ',H',I.untried,q⟩
 | ret u=>obtain ⟨v,σ',H',I,r,q⟩:=h;exact ⟨v,σ',H',I.untried,r,q⟩
theorem Air.here (I:Inv X pins σ H s)(hs:X.stack=X.env :: X.outer)(hf:X.env.frame=some X.env.locals)(hex:X.ex=[]){B:Heap}{a0:Value}{x C:Addr}{d:Option Addr} (a:xQ X.prog X.w X.stack H s B H' s')(fl:Heap.FlyingW B X.stack x (.ref C) a0 s'.heap)(hd:∃ o,s'.heap.get? x=some o/\o.dict=d/\(fl2 o=some .none \/ Two d H')) :
  H' x=none/\Inv X pins σ (upd H' x (wA x C d)) s':=by
 obtain ⟨f1,f2,f3,oe,vs,T,oT,ts,he,⟨hc,_⟩,hdt,_⟩:=fl
 obtain ⟨o',ho',hd',_⟩:=hd
 rw [he] at ho';cases ho'
 have hx:H' x=none:=by
  cases z:H' x with
  | none=>rfl
  | some o=>obtain ⟨u,e⟩:=(a.hok x o z).here;rw [f2] at e;cases e
 have I1:Inv X pins σ H' s':=I.call' (ch:=[]) a.os a.un a.ok a.bare (fun b z=>absurd z (by simp))
 have nB:∀ b o,s.heap.get? b=some o->b ∉ frs X.stack->b ≠ x:=fun b o e hb z=>by
  obtain ⟨o',e1,_⟩:=a.cov b o e hb
  rw [z,f2] at e1;cases e1
 refine ⟨hx,I1.track hx ?_ (fun z=>?_) (fun y c e z=>?_) (fun p hp z=>?_) (E3 he hc hd' hdt)⟩
 ·cases z:X.s₀.heap.get? x with
  | none=>rfl
  | some o=>
   obtain ⟨o1,e1⟩:=I.base.there x o z (by rw [hex];simp)
   by_cases hb:x ∈ frs X.stack
   ·obtain ⟨_,o2,e2,nf⟩:=f3.mem hb
    rw [he] at e2;cases e2
    exact absurd hdt (nf vs)
   ·exact absurd rfl (nB x o1 e1 hb)
 ·obtain ⟨m,⟨o,es,ep,ho,hdd,_⟩,_⟩:=I1.loc
  rw [<- z,he] at ho;cases ho
  rw [hdt] at hdd;cases hdd
 ·obtain ⟨v,o,ho,hdd⟩:=I1.cell y c e
  rw [z,he] at ho;cases ho
  rw [hdt] at hdd;cases hdd
 ·obtain ⟨e1,e2,e3,e4,_⟩:=I.pin p hp
  refine nB p.1 p.2 e1 (fun w=>?_) z
  rcases List.mem_cons.mp (I.stkSub p.1 w) with q | q
  ·exact e3 q
  ·exact e4 q
end
noncomputable def FR (i:Nat)(D:kC):kC:={ nx:=fun σ H=>D.nx (σ.set i none) H,rt:=D.rt,bk:=fun σ H=>D.bk (σ.set i none) H,ct:=fun σ H=>D.ct (σ.set i none) H }
noncomputable def eh1 (K:PySem.W.Frag)(i:Nat)(T:Addr)(th:TS)(D:kC):St->XK:=fun σ1 c d H1=>∃ C,c=.ref C/\PySem.W.exmOne K (.ref C) (.ref T)=some true/\∀ x,H1 x=none->th (FR i D) (σ1.set i (some (.ref x))) (upd H1 x (wA x C d))
noncomputable def HR (K:PySem.W.Frag)(i:Nat)(T:Addr)(tb:(St->XK)->TS)(th:TS):TS:=fun D σ H=>tb (eh1 K i T th D) D σ H
noncomputable def yU (X:Cx)(H:Hp)(s:Shared)(B:Heap)(x C:Addr)(d:Option Addr)(a0:Value)(H':Hp)(s':Shared):Prop:=
 xQ X.prog X.w X.stack H s B H' s'/\Heap.FlyingW B X.stack x (.ref C) a0 s'.heap/\∃ o,s'.heap.get? x=some o/\o.dict=d/\(fl2 o=some .none \/ Two d H')
section
variable {X:Cx}{pins:List (Addr × Obj)}{σ:St}{H H':Hp}{s s':Shared}{B:Heap}{x C:Addr}{d:Option Addr}{a0:Value}
theorem yU.lands {M:Model}{E:Value->Shared->Prop}{Q:Unit->Shared->Prop}(h:yU X H s B x C d a0 H' s')(k:∀ s2,yU X H s B x C d a0 H' s2->Q () s2):wpAny M A (setFlight (.ref x) none) Q E s':=by
 obtain ⟨a,fl,o,ho,hd,h2f⟩:=h
 refine wpAny_mono ((xy (.ref x) none).any (lands_againW (E:=E) (Q:=fun _ s2=>∃ h',s2={ s' with heap:=h' }/\Heap.FlyingW B X.stack x (.ref C) a0 h'/\s'.heap.UpToSlots h') fl fun h' f1 us=>⟨h',rfl,f1,us⟩)) (fun _ s2 h2=>?_) fun _ _ z=>z
 obtain ⟨⟨h',rfl,f1,us⟩,sd⟩:=h2
 obtain ⟨o',ho',hd',hf'⟩:=sd x o ho
 exact k _ ⟨a.step fl.2.2.1 f1.1 us,f1,o',ho',hd'.trans hd,h2f.imp (fun z=>hf'.trans z) id⟩
theorem yU.noted {E:Value->Shared->Prop}{Q:Unit->Shared->Prop}(ok:X.Ok)(hs:X.stack=X.env :: X.outer)(hf:X.env.frame=some X.env.locals)(h:yU X H s B x C d a0 H' s')(k:∀ s2,yU X H s B x C d a0 H' s2->Q () s2) :
  wpAny (model X.prog X.w) X.A (noteFrame (.ref x) X.env) (fun _ s2=>wpAny (model X.prog X.w) X.A (setFlight (.ref x) none) Q E s2) E s':=by
 obtain ⟨a,fl,o,ho,hd,h2f⟩:=h
 have fl':=fl
 rw [hs] at fl'
 refine wpAny_mono ((ZV (.ref x) X.env).any (wpAny_looks_onW (E:=E) (Q:=fun _ s2=>∃ h',s2={ s' with heap:=h' }/\Heap.HeldW B (X.env :: X.outer) x (.ref C) a0 X.env.locals h'/\s'.heap.UpToSlots h') (by rw [<- hs];exact ok.frames) hf fl' fun h' f1 us=>⟨h',rfl,f1,us⟩)) (fun _ s2 h2=>?_) fun _ _ z=>z
 obtain ⟨⟨h',rfl,f1,us⟩,sd⟩:=h2
 obtain ⟨o',ho',hd',hf'⟩:=sd x o ho
 have a2:=a.step fl.2.2.1 f1.1 us
 refine wpAny_mono ((xy (.ref x) none).any (wpAny_landsW (E:=E) (Q:=fun _ s3=>∃ h'',s3={ s' with heap:=h'' }/\Heap.FlyingW B (X.env :: X.outer) x (.ref C) a0 h''/\h'.UpToSlots h'') f1 fun h'' f2 us2=>⟨h'',rfl,f2,us2⟩)) (fun _ s3 h3=>?_) fun _ _ z=>z
 obtain ⟨⟨h'',rfl,f2,us2⟩,sd2⟩:=h3
 obtain ⟨o'',ho'',hd'',hf''⟩:=sd2 x o' ho'
 refine k _ ⟨a2.step (s':={ s' with heap:=h' }) (by rw [hs];exact f1.2.2.1) f2.1 us2,by rw [hs];exact f2,o'',ho'',(hd''.trans hd').trans hd,h2f.imp (fun z=>(hf''.trans hf').trans z) id⟩
theorem Fo {D:kC}{E:Value->Shared->Prop}{i:Nat}{n:Str}{hpos:Pos}{f:Flow}(ok:X.Ok)(nd:X.N.Nodup)(hi:X.N[i]?=some n)(hl:X.env.kindOf n=some .local)(h:SP (X.inside x) pins (FR i D) f s) :
  wpAny (model X.prog X.w) X.A (do bindName X.env n .none;unbindBehindTheSuite X.env n hpos) (fun _ s2=>SP X pins D f s2) E s:=by
 have hp:(X.env.scope.kind == .class || (X.env.scope.kind == .module && X.env.locals != X.env.globals))=false:=by rw [ok.kind];rfl
 cases f with
 | next=>
  obtain ⟨σ',H',I,q⟩:=h
  have I':=I.outside ok
  obtain ⟨m,hm,_⟩:=id I'.loc
  exact wpAny_nameGoes_keeps hl hm hp fun h' v hn sb=>⟨_,H',I'.goes nd hi hm hn sb,q⟩
 | brk=>
  obtain ⟨σ',H',I,q⟩:=h
  have I':=I.outside ok
  obtain ⟨m,hm,_⟩:=id I'.loc
  exact wpAny_nameGoes_keeps hl hm hp fun h' v hn sb=>⟨_,H',I'.goes nd hi hm hn sb,q⟩
 | cont=>
  obtain ⟨σ',H',I,q⟩:=h
  have I':=I.outside ok
  obtain ⟨m,hm,_⟩:=id I'.loc
  exact wpAny_nameGoes_keeps hl hm hp fun h' v hn sb=>⟨_,H',I'.goes nd hi hm hn sb,q⟩
 | ret u=>
  obtain ⟨v,σ',H',I,r,q⟩:=h
  have I':=I.outside ok
  obtain ⟨m,hm,_⟩:=id I'.loc
  exact wpAny_nameGoes_keeps hl hm hp fun h' w hn sb=>⟨v,_,H',I'.goes nd hi hm hn sb,r,q⟩
variable {body suite:List Stmt}{b₀:Stmt}{n tx:Str}{i:Nat}{T:Addr}{np hpos pos:Pos}{tb:(St->XK)->TS}{th:TS}
theorem D2 (hs:X.stack=X.env :: X.outer)(hf:X.env.frame=some X.env.locals)(hex:X.ex=[])(nd:X.N.Nodup)(hi:X.N[i]?=some n)(hl:X.env.kindOf n=some .local)(hg:Gl X tx)(hm:X.mg tx=some (.ref T))
  (hb:∀ (pins:List (Addr × Obj)) (xe:Value->Shared->Prop) (Eh:St->XK),yM (CX1 X.prog X.w) (X.tried pins xe) Eh->PSs (X.tried pins xe) body (tb Eh)) (hh:∀ x,PSs (X.inside x) (b₀ :: suite) th)
  (hdb:(tx == ("__debug__":Str))=false:=by decide):PS X (.Try body [.ExceptHandler (some (.Name tx np)) (some n) (b₀ :: suite) hpos] [] [] pos) (HR X.K i T tb th):=by
 intro pins s σ H D I h
 refine wpAny_Try_except (wpAny_mono (hb pins (fun e s'=>∃ σ1 H1 s1,Inv X pins σ1 H1 s1/\CX1 X.prog X.w X.stack H1 s1 (eh1 X.K i T th D σ1) e s') (eh1 X.K i T th D) (fun pins' σ1 H1 s1 e s' I1 c=>⟨σ1,H1,s1,I1.untried,c⟩) [] s σ H D (I.tried _) h) (fun f s1 q=>?_) fun e s1 q=>?_)
 ·have q:=q.untried
  cases f with
  | next=>exact wpAny_execs_nil q
  | brk=>exact q
  | cont=>exact q
  | ret u=>exact q
 ·obtain ⟨σ1,H1,s1',I1,x,C,d,H',rfl,⟨⟨B,a0,a,fl⟩,hd⟩,C',eC,hx,q⟩:=q
  cases eC
  refine yU.noted I.ok hs hf ⟨a,fl,hd⟩ fun s3 h3=>?_
  obtain ⟨hx0,I3⟩:=Air.here I1 hs hf hex h3.1 h3.2.1 h3.2.2
  refine wpAny_handleBy_cons (codeAny_handlers_test (jo (I3.inside x) hg hm ?_ hdb)) (by intro z;cases z)
  obtain ⟨oe,vs,he,hc,_⟩:=h3.2.1.first
  have LT:PySem.W.Looks (model X.prog X.w) s3.heap (typeOf (.ref x)) (.ref C):=hc ▸ (PySem.W.Looks.ld he).andThen .now
  refine (PySem.W.exm_one I3.kIn LT hx).here ?_
  refine codeAny_handlers_suite_as (h3.lands fun s4 h4=>?_)
  obtain ⟨_,I4⟩:=Air.here I1 hs hf hex h4.1 h4.2.1 h4.2.2
  refine je I4 nd hi (Or.inl hl) (show zz (.ref x) (.ref x) from rfl) (fun s5 I5=>?_) (.inr hl)
  exact wpAny_mono (hh x pins s5 _ _ _ (I5.inside x) (q x hx0)) (fun f s6 h6=>Fo I.ok nd hi hl h6) fun _ _ z=>z.elim
end
open PySem.W (Looks InstAt findIn findObj subIn mroIn)
section
variable {prog:Program}{w:World}{A:Around}{E:Value->Shared->Prop}{h:Heap}{g:Array GenState}{d:Drawn}{t:Nat}{os:OsState}{K:PySem.W.Frag}{x C:Addr}{ox:Obj}{od:Option Obj}{name:Str}
theorem Dp {tk : Tok}{R : Result -> Shared -> Prop}(X : K.In h)(I : InstAt h x ox C od)(hb : subIn K (.ref C) (.type "BaseException") = some true)(k : wpAny (model prog w) A.in1 (Builtin.«object.__getattribute__» ⟨[.ref x, .str name tk], []⟩)
      (fun fin s'=>match fin with | .done (.ret v)=>R (.ok (.ret v)) s' | _=>False) (fun _ _=>False) ⟨h,g,d,t,os⟩) :
    codeAny (model prog w) A (.call (.builtin "BaseException.__getattribute__") ⟨[.ref x,.str name tk],[]⟩) R ⟨h,g,d,t,os⟩:=by
  have L0:=I.type (M:=model prog w)
  have L1:=PySem.W.looks_subIn (M:=model prog w) X hb
  have hk:builtinKind "BaseException.__getattribute__"=some .slot:=by decide +kernel
  have hsplit:splitId "BaseException.__getattribute__"=some ("BaseException","__getattribute__"):=by decide +kernel
  have ha:=F.args_bexc_ga (.ref x) (.str name tk)
  refine codeAny_call_builtin F.excAttr_ValueError.ga.plain F.entry_bexc_ga ?_
  simp only [checkBuiltinCall,hk,hsplit]
  have LI:Looks (model prog w) h (isInstance (.ref x) (.type "BaseException")) true:=L0.andThen L1
  refine wpAny_bind (LI.at ?_)
  simp only [Bool.not_true,Bool.false_eq_true,if_false]
  have fin:wpAny (model prog w) A.in1 (Builtin.«object.__getattribute__» ⟨[.ref x,.str name tk],[]⟩) (fun fin s'=>match fin with | .done f=>R (.ok f) s' | .again c'=>c'.quiet=true/\codeAny (model prog w) A c' R s') (fun e s'=>R (.error e) s') ⟨h,g,d,t,os⟩:=
    wpAny_mono k (fun fin s' z=>by rcases fin with (_ | _ | _ | _) | _ <;> first | exact z | exact z.elim) fun _ _ z=>z.elim
  clear k L0 L1 LI
  repeat (any_goals (first | assumption | wp_step))
theorem FF {tk:Tok}{fill expr:Bool}{Q:Value->Shared->Prop}(X:K.In h)(I:InstAt h x ox C od)(hb:subIn K (.ref C) (.type "BaseException")=some true)
  (h1:findIn K (.ref C) "__getattribute__"=some (some (.builtin "BaseException.__getattribute__"))) (h2:findIn K (.ref C) "__getattr__"=some none)
  (k:wpAny (model prog w) A.in1 (Builtin.«object.__getattribute__» ⟨[.ref x,.str name tk],[]⟩)
   (fun fin s'=>match fin with | .done (.ret v)=>wpAny (model prog w) A (handedOut v) Q E s' | _=>False) (fun _ _=>False) ⟨h,g,d,t,os⟩) :
  wpAny (model prog w) A (getAttrBy (.ref x) (.str name tk) fill expr) Q E ⟨h,g,d,t,os⟩:=by
 have L0:=I.type (M:=model prog w)
 have L1:=PySem.W.looks_findIn (M:=model prog w) X h1
 have L2:=PySem.W.looks_findIn (M:=model prog w) X h2
 have f3:=F.excAttr_ValueError.ga.bind (.ref x)
 have hx0:(expr && onTheHeap (Value.builtin "BaseException.__getattribute__"))=false:=by cases expr <;> rfl
 have hx2:(Value.builtin "BaseException.__getattribute__" == Value.builtin "object.__getattribute__")=false:=by decide +kernel
 have hx1:(onTheHeap (Value.ref C) && Value.builtin "BaseException.__getattribute__" == Value.builtin "object.__getattribute__")=false:=by rw [hx2];rfl
 repeat (any_goals (first | assumption | with_reducible refine Looks.at L0 ?_ | with_reducible refine Looks.at L1 ?_ | with_reducible refine Looks.at L2 ?_ | wp_step))
 exact Dp X I hb k
theorem Bv {Q:Option Value->Shared->Prop}(X:K.In h)(I:InstAt h x ox C od)(hb:subIn K (.ref C) (.type "BaseException")=some true)
  (h1:findIn K (.ref C) "__getattribute__"=some (some (.builtin "BaseException.__getattribute__"))) (h2:findIn K (.ref C) "__getattr__"=some none)
  (hf:findObj K C od "__class__"=some (.bind (.builtin "getset_descriptor.__get__") (.builtin "object.__class__"))) (hm:mroIn K C (.type "object")=some true) (q:Q (some (.ref C)) ⟨h,g,d,t+1,os⟩) :
  wpAny (model prog w) A (getAttr? (.ref x) "__class__") Q E ⟨h,g,d,t,os⟩:=by
 unfold getAttr? getAttrBy?
 refine wpAny_bind (wpAny_mkText (wpAny_bind (wpAny_attempt ?_)))
 refine FF X I hb h1 h2 ?_
 have L0:=I.type (M:=model prog w)
 have L1:=PySem.W.looks_find (M:=model prog w) X I hf
 unfold Builtin.«object.__getattribute__»
 repeat (any_goals (first | assumption | with_reducible refine Looks.at L0 ?_ | with_reducible refine Looks.at L1 ?_ | wp_step))
 refine PySem.W.class_get (od:=od) X I hm ?_
 refine wpAny_pure ?_
 exact PySem.W.handed_on rfl (wpAny_pure q)
theorem Zn {a g:Value}(hc:(PySem.W.clsIn K C).isSome=true)(ha:findIn K (.ref C) name=some (some a))(hg:PySem.W.specialIn K a "__get__"=some (some g))(ht:PySem.W.takesIn K a=some true):findObj K C none name=some (.bind g a):=by
 obtain ⟨cd,hc⟩:=Option.isSome_iff_exists.mp hc
 unfold PySem.W.findObj
 rw [hc,Option.bind_some,ha,Option.bind_some]
 simp [hg,ht]
structure wx (K:PySem.W.Frag)(C:Addr):Prop where
 bx:subIn K (.ref C) (.type "BaseException")=some true
 ga:findIn K (.ref C) "__getattribute__"=some (some (.builtin "BaseException.__getattribute__"))
 gt:findIn K (.ref C) "__getattr__"=some none
 cl:findIn K (.ref C) "__class__"=some (some (.builtin "object.__class__"))
 gs:PySem.W.specialIn K (.builtin "object.__class__") "__get__"=some (some (.builtin "getset_descriptor.__get__"))
 tk:PySem.W.takesIn K (.builtin "object.__class__")=some true
 mo:mroIn K C (.type "object")=some true
 is:(PySem.W.clsIn K C).isSome=true
noncomputable def Fd (x C:Addr)(h:Heap):Prop:=∃ o,h.get? x=some o/\o.cls=.ref C/\(o.dict=none \/ ∃ dx u,o.dict=some dx/\h.get? dx=some u)/\∃ vs,o.data=.fields vs
theorem Fd.inst {x C:Addr}{h:Heap}(e:Fd x C h):∃ o od,InstAt h x o C od:=by
 obtain ⟨o,h1,h2,h3,vs,h4⟩:=e
 rcases h3 with h3 | ⟨dx,u,h3,h5⟩
 ·exact ⟨o,none,h1,h2,by unfold PySem.W.notCls;rw [h4],by rw [h3];trivial⟩
 ·exact ⟨o,some u,h1,h2,by unfold PySem.W.notCls;rw [h4],by rw [h3];exact h5⟩
theorem QJ (c:wx K C):PySem.W.KitX K (.ref x) (.ref C) (Fd x C) where
 ty:=fun _ _ _ e=>let ⟨_,_,I⟩:=e.inst;I.type
 it:=fun _ _ X _=>by
  have z:=c.is
  unfold PySem.W.clsIn at z
  split at z
  ·rename_i ho
   intro A' Q' E' s' k q
   unfold isType loadHead
   exact wpAny_bind (wpAny_loadPart (k _ _ (X _ _ ho)) (wpAny_pure q))
  ·cases z
 ne:=fun h tp dd its n sl X htp=>by
  refine Bool.eq_false_iff.mpr fun q=>?_
  have e:C=tp:=Value.ref.inj (beq_iff_eq.mp q)
  subst e
  have z:=c.is
  unfold PySem.W.clsIn at z
  split at z
  ·rename_i ho
   have y:=(X _ _ ho).symm.trans htp
   cases y
  ·cases z
 ca:=fun {prog w A E Q s} X e q=>by
  obtain ⟨o,od,I⟩:=e.inst
  obtain ⟨h,g,d,t,os⟩:=s
  refine Bv X I c.bx c.ga c.gt ?_ c.mo q
  cases od with
  | none=>exact Zn c.is c.cl c.gs c.tk
  | some od=>exact PySem.W.findObj_data c.is c.cl c.gs c.tk
end
inductive wo (X:Cx):List Expr->List Value->Prop
 | nil:wo X [] []
 | own {x:Str} {p:Pos} {C:Addr} {es:List Expr} {cs:List Value}:Gl X x->X.mg x=some (.ref C)->(x == ("__debug__":Str))=false->wo X es cs->wo X (.Name x p :: es) (.ref C :: cs)
 | blt {x:Str} {p:Pos} {T:String} {es:List Expr} {cs:List Value}:Gl X x->X.mg x=none->bootBuiltins x=some (.type T)->x ≠ "__name__"->(x == ("__debug__":Str))=false->wo X es cs->wo X (.Name x p :: es) (.type T :: cs)
noncomputable def Wz (K:PySem.W.Frag)(cs:List Value)(t:TE):TE:=fun σ H Q=>t σ H fun v H1=>∃ a C d b,v=.ref a/\H1 a=some (wA a C d)/\(d=none \/ ∃ dx fs,d=some dx/\H1 dx=some (.xd fs))/\wx K C/\PySem.W.kitAny K (.ref C) cs=some b/\Q (.bl b) H1
section
variable {X:Cx}{e c:Expr}{es:List Expr}{cs:List Value}{t:TE}{p pos tp:Pos}{kk:Nat}
theorem Bo {h:Heap} {d:Option Addr}(ok:HOk P w H h)(x:H a=some (wA a C d))(hd:d=none \/ ∃ dx fs,d=some dx/\H dx=some (.xd fs)):Fd a C h:=by
 obtain ⟨⟨o,h1,h2,h3,h4⟩,_⟩:=ok a _ x
 refine ⟨o,h1,h2,?_,h4⟩
 rcases hd with rfl | ⟨dx,fs,rfl,h5⟩
 ·exact .inl h3
 ·obtain ⟨u,hu⟩:=(ok dx _ h5).here
  exact .inr ⟨dx,u,h3,hu⟩
theorem G3 (he:PE X e t)(hg:Gl X "isinstance")(hm:X.mg "isinstance"=none)(hc:wo X [c] cs)
  (hst:starEach [e,c] X.env=(false,eval e X.env) :: starEach [c] X.env:=by rfl) (hst2:starEach [c] X.env=(false,eval c X.env) :: starEach [] X.env:=by rfl) (hpl:(backTo pos (starEach [c] X.env)).any (·.1)=false:=by rfl):PE X (.Call (.Name "isinstance" p) [e,c] [] pos) (Wz X.K cs t):=by
 intro pins s σ H Q I h
 refine wpAny_Call_Name_kw (jN I hg hm zq ?_ (by decide) (by decide))
 refine PyProof.Rows.callWith_builtin1 ?_ hst hpl
 rw [hst]
 refine Calls.spliced_cons (thn (he pins s σ H _ I h) fun u s1 ⟨v,H1,I1,r,a,C,d,b,ev,ha,hd,xc,hb,q⟩=>?_)
 subst ev
 obtain rfl:u=Value.ref a:=r
 rw [hst2]
 refine Calls.spliced_cons ?_
 rw [if_neg Bool.false_ne_true]
 have one:∀ {c:Value},PySem.W.kitAny X.K (.ref C) [c]=some b->PySem.W.kitOne X.K (.ref C) c=some b:=fun {c} z=>by
  unfold PySem.W.kitAny at z
  split at z
  ·rename_i y;cases z;exact y
  ·rename_i y;have z:some false=some b:=z;cases z;exact y
  ·cases z
 have en:=Bo I1.hok ha hd
 have fin:∀ cv,cs=[cv]->wpAny (model X.prog X.w) X.A (call (.builtin "isinstance") [.ref a,cv]) (EP X pins σ Q) X.xe s1:=fun cv z=>by
  subst z
  exact PySem.W.kia_one (QJ xc) I1.kIn en (one hb) (by intro z;cases z) fun tk=>⟨.bl b,H1,I1.tok tk,rfl,q⟩
 cases hc with
 | own g1 m1 d1 r1=>cases r1;exact jo I1 g1 m1 (Calls.spliced_nil (fin _ rfl)) d1
 | blt g1 m1 v1 n1 d1 r1=>cases r1;exact jN I1 g1 m1 v1 (Calls.spliced_nil (fin _ rfl)) n1 d1
theorem YV {es:List Expr}{cs:List Value}(hc:wo X es cs):∀ {pins:List (Addr × Obj)} {σ:St} {H:Hp} {s:Shared} {Q:List Value->Shared->Prop},Inv X pins σ H s->Q cs s->wpAny (model X.prog X.w) X.A (spliced (backTo tp (starEach es X.env))) Q X.xe s:=by
 induction hc with
 | nil=>exact fun I q=>wpAny_items_nil q
 | own g1 m1 d1 r1 ih=>exact fun I q=>wpAny_items_cons (jo I g1 m1 (ih I q) d1)
 | blt g1 m1 v1 n1 d1 r1 ih=>exact fun I q=>wpAny_items_cons (jN I g1 m1 v1 (ih I q) n1 d1)
theorem EW (he:PE X e t)(hg:Gl X "isinstance")(hm:X.mg "isinstance"=none)(hc:wo X es cs)(hsz:cs.length<=sizeLine)
  (hst:starEach [e,.Tuple es kk tp] X.env=(false,eval e X.env) :: starEach [.Tuple es kk tp] X.env:=by rfl) (hst2:starEach [.Tuple es kk tp] X.env=(false,eval (.Tuple es kk tp) X.env) :: starEach [] X.env:=by rfl) (hpl:(backTo pos (starEach [.Tuple es kk tp] X.env)).any (·.1)=false:=by rfl):PE X (.Call (.Name "isinstance" p) [e,.Tuple es kk tp] [] pos) (Wz X.K cs t):=by
 intro pins s σ H Q I h
 refine wpAny_Call_Name_kw (jN I hg hm zq ?_ (by decide) (by decide))
 refine PyProof.Rows.callWith_builtin1 ?_ hst hpl
 rw [hst]
 refine Calls.spliced_cons (thn (he pins s σ H _ I h) fun u s1 ⟨v,H1,I1,r,a,C,d,b,ev,ha,hd,xc,hb,q⟩=>?_)
 subst ev
 obtain rfl:u=Value.ref a:=r
 rw [hst2]
 refine Calls.spliced_cons ?_
 rw [if_neg Bool.false_ne_true]
 refine wpAny_Tuple ?_
 refine YV hc I1 ⟨hsz,Calls.spliced_nil ?_⟩
 have kp:∀ b o,s1.heap.get? b=some o->(s1.heap.push { cls:=.type "tuple",data:=.seq cs.toArray }).get? b=some o:=fun _ _ z=>Heap.get?_push_of_some _ z
 have I2:=I1.kept (t':=s1.toks) kp
 exact PySem.W.kia_tup (QJ xc) I2.kIn (Bo I2.hok ha hd) (Heap.get?_push_size s1.heap rfl) hb (by intro z;cases z) fun tk=>⟨.bl b,H1,I2.tok tk,rfl,q⟩
end
noncomputable abbrev AXK:=Addr->List (Str × V)->MH->Prop
noncomputable abbrev xD:=List AV->MH->AK->AXK->Prop
noncomputable def JQ (H:Hp)(O:Own)(M:MH)(d:Option Addr)(fs:List (Str × V)):Prop:=d=none/\fs=[] \/ ∃ dx,d=some dx/\H dx=some (.xd fs)/\O dx/\M dx=none
theorem JQ.ext {d:Option Addr}{fs:List (Str × V)}(k:Ext H O M H' O' M')(x:JQ H O M d fs):JQ H' O' M' d fs:=by
 rcases x with x | ⟨dx,e,h1,h2,h3⟩
 ·exact .inl x
 ·obtain ⟨x1,x2,x3⟩:=k.prv dx h2 h3
  exact .inr ⟨dx,e,x1.trans h1,x2,x3⟩
noncomputable def jk (a:xD):Sp:=fun vs H Q E=>∃ xs M O Q' E',Wf H O M/\zj H O M vs xs/\a xs M Q' E'/\(∀ x M' v H' O',Q' x M'->Ext H O M H' O' M'->Wf H' O' M'->zo H' O' M' v x->Q v H') /\
 ∀ C fs M' H' O' d,E' C fs M'->Ext H O M H' O' M'->Wf H' O' M'->JQ H' O' M' d fs->E (.ref C) d H'
noncomputable def cE (H0:Hp)(O0:Own)(M0:MH)(E':AXK):XK:=fun c d H'=>∃ C fs M' O',c=.ref C/\E' C fs M'/\Ext H0 O0 M0 H' O' M'/\Wf H' O' M'/\JQ H' O' M' d fs
structure EXs (H0:Hp)(O0:Own)(M0:MH)(E:St->XK)(EA:ASt->AXK):Prop where
 go:∀ σ ρ C fs M' H' O' d,EA ρ C fs M'->Ext H0 O0 M0 H' O' M'->Wf H' O' M'->Er H' O' M' σ ρ->JQ H' O' M' d fs->E σ (.ref C) d H'
theorem Xm {E':AXK}:EXs H0 O0 M0 (fun _=>cE H0 O0 M0 E') (fun _=>E'):=⟨fun _ _ C fs M' H' O' d q k w _ x=>⟨C,fs,M',O',rfl,q,k,w,x⟩⟩
structure jY (HX:Hp)(OX:Own)(MX:MH)(t:TS)(a:AS):Prop where
 go:∀ {H0:Hp} {O0:Own} {M0:MH} {D:kC} {D':qW} {σ:St} {H:Hp} {O:Own} {ρ:ASt} {M:MH},Ext HX OX MX H0 O0 M0->Wf H0 O0 M0->Wf H O M->Er H O M σ ρ->Ext H0 O0 M0 H O M->a M0 D' ρ M->ED H0 O0 M0 D D'->t D σ H
section
variable {HX:Hp}{OX:Own}{MX:MH}{t u:TS}{a b:AS}{E:St->XK}{EA:ASt->AXK}{sp:xD}{ta:TA}{aa:AA}
theorem Dj (h:jh t a):jY HX OX MX t a:=⟨fun _ w0 w e x q E=>h.go w0 w e x q E⟩
theorem Bd (h1:jY HX OX MX t a)(h2:jY HX OX MX u b):jY HX OX MX (YW t u) (xU a b):=
 ⟨fun kx w0 w e x q E=>h1.go kx w0 w e x q ⟨fun σ H O ρ M w e x q=>h2.go kx w0 w e x q E,E.rt,E.bk,E.ct⟩⟩
theorem W1 {c:TT} (hc:kK c ac)(h1:jY HX OX MX t a)(h2:jY HX OX MX u b):jY HX OX MX (EV c t u) (yr ac a b):=
 ⟨fun kx w0 w e x q E=>hc.go w e q fun k M1 H1 O1 q1 k1 w1=>by
  cases k with
  | true=>exact h1.go kx w0 w1 (e.ext k1) (x.trans k1) q1 E
  | false=>exact h2.go kx w0 w1 (e.ext k1) (x.trans k1) q1 E⟩
theorem Ab (hi:Qy wi ai)(hg:yZ g ag)(hb:jY HX OX MX t a):jY HX OX MX (DO wi g t) (Ht ai ag a):=⟨fun {H0 O0 M0 D D' σ H O ρ M} kx w0 w e x q E=>by
 rw [ZJ]
 refine hi.go w e q fun l G M1 J H1 O1 q1 k1 w1 hj=>?_
 have E1:=E.tr (x.trans k1)
 have kx1:=kx.trans (x.trans k1)
 obtain ⟨Pv,p0,ps,pd⟩:=q1
 refine ⟨fun i m σ H=>m=l.length - i/\i<=l.length/\∃ O ρ M,Wf H O M/\Er H O M σ ρ/\Ext H1 O1 M1 H O M/\Pv i ρ M,⟨l.length,by simp,Nat.zero_le _,O1,ρ,M1,w1,e.ext k1,.refl,p0⟩,?_⟩
 rintro i m σ H ⟨rfl,hi,O,ρ,M,w,e,x,hf⟩
 by_cases hil:i<l.length
 ·have hy:l[i]?=some l[i]:=List.getElem?_eq_getElem hil
  obtain ⟨hG,q2⟩:=ps i l[i] ρ M hy hf
  obtain ⟨j1,j2⟩:=(hj H O M x.fix x.mst w hG i).2 l[i] hy
  refine .inr ⟨j1,fun σ' H'=>∃ O ρ M,Wf H' O M/\Er H' O M σ' ρ/\Ext H1 O1 M1 H' O M/\Pv (i+1) ρ M,fun σ' H' z=>⟨l.length - (i+1),by omega,rfl,hil,z⟩,fun v H' hv=>?_⟩
  obtain ⟨k2,w2,r2⟩:=j2 v H' hv
  refine hg.go w2 (e.ext k2) r2 q2 fun σ3 H3 O3 ρ3 M3 q3 k3 w3 e3=>?_
  exact hb.go kx1 w1 w3 e3 ((x.trans k2).trans k3) q3 ⟨fun σ H O ρ M w e x q=>⟨O,ρ,M,w,e,x,q⟩,E1.rt,E1.nx,fun σ H O ρ M w e x q=>⟨O,ρ,M,w,e,x,q⟩⟩
 ·have e0:i=l.length:=by omega
  subst e0
  obtain ⟨hG,q2⟩:=pd ρ M hf
  exact .inl ⟨(hj H O M x.fix x.mst w hG l.length).1 rfl,E1.nx _ _ _ _ _ w e x q2⟩⟩
noncomputable def Jz (sp:xD)(EA:ASt->AXK)(b:AA):AE:=fun ρ M Q=>b ρ M fun xs M1=>sp xs M1 Q (EA ρ)
theorem VX (hE:EXs HX OX MX E EA)(hu:jc ta aa) {Q':AK}(kx:Ext HX OX MX H O M)(w:Wf H O M)(e:Er H O M σ ρ)(q:Jz sp EA aa ρ M Q')(k:∀ x M' v H' O',Q' x M'->Ext H O M H' O' M'->Wf H' O' M'->zo H' O' M' v x->Q v H'):Kn (jk sp) E ta σ H Q:=
 hu.go w e q fun xs M1 vs H1 O1 q1 k1 w1 r1=>⟨xs,M1,O1,Q',EA ρ,w1,r1,q1,fun x M2 v H2 O2 q2 k2 w2 r2=>k x M2 v H2 O2 q2 (k1.trans k2) w2 r2,fun C fs M' H' O' d q2 k2 w2 xd=>hE.go σ ρ C fs M' H' O' d q2 ((kx.trans k1).trans k2) w2 (e.ext (k1.trans k2)) xd⟩
theorem BB (hE:EXs HX OX MX E EA)(hu:jc ta aa)(hg:yZ g ag):jY HX OX MX (Zv (Kn (jk sp) E ta) g) (DB (Jz sp EA aa) ag):=
 ⟨fun kx _ w e x q D=>VX hE hu (kx.trans x) w e q fun y M1 v H1 O1 q1 k1 w1 r1=>hg.go w1 (e.ext k1) r1 q1 fun σ2 H2 O2 ρ2 M2 q2 k2 w2 e2=>D.nx _ _ _ _ _ w2 e2 ((x.trans k1).trans k2) q2⟩
end
noncomputable def FL (i:Nat)(D:qW):qW:={ nx:=fun ρ M=>D.nx (ρ.set i none) M,rt:=D.rt,bk:=fun ρ M=>D.bk (ρ.set i none) M,ct:=fun ρ M=>D.ct (ρ.set i none) M }
noncomputable def II (K:PySem.W.Frag)(i:Nat)(T:Addr)(ab:(ASt->AXK)->AS)(ah:AS):AS:=fun B D ρ M=>
 ab (fun ρ1 C fs M1=>PySem.W.exmOne K (.ref C) (.ref T)=some true/\∀ x,M1 x=none->ah B (FL i D) (ρ1.set i (some (.ref x))) (mup M1 x (.exc C fs))) B D ρ M
theorem Er.drop (e:Er H O M σ ρ)(i:Nat):Er H O M (σ.set i none) (ρ.set i none):=e.clr [i]
theorem DY (w:Wf H O M){x C:Addr}{d:Option Addr}{fs:List (Str × V)}(hx:H x=none)(xd:JQ H O M d fs) :
  Wf (upd H x (wA x C d)) (yg O x) (mup M x (.exc C fs))/\Ext H O M (upd H x (wA x C d)) (yg O x) (mup M x (.exc C fs)):=by
 have k:=Zq w hx (wA x C d) (.exc C fs)
 exact ⟨Bm w hx (fun _ z=>nomatch z) ⟨d,zk,xd.ext k⟩,k⟩
section
variable {K:PySem.W.Frag}{i:Nat}{T:Addr}{tb:(St->XK)->TS}{th:TS}{ab:(ASt->AXK)->AS}{ah:AS}
theorem Fw (hb:∀ (H0:Hp) (O0:Own) (M0:MH) (E:St->XK) (EA:ASt->AXK),EXs H0 O0 M0 E EA->jY H0 O0 M0 (tb E) (ab EA))(hh:jh th ah):jh (HR K i T tb th) (II K i T ab ah):=
 ⟨fun {H0 O0 M0 D D' σ H O ρ M} w0 w e x q E=>(hb H0 O0 M0 _ _ ⟨fun σ1 ρ1 C fs M1 H1 O1 d q1 k1 w1 e1 xd=>⟨C,rfl,q1.1,fun y hy=>by
  obtain ⟨w2,k2⟩:=DY (C:=C) w1 hy xd
  refine hh.go w0 w2 ((e1.ext k2).set (show zo _ _ _ (.ref y) (.ref y) from ⟨rfl,by rw [zg];exact fun z=>nomatch z⟩) i) (k1.trans k2) (q1.2 y (w1.fresh hy).2) ⟨fun σ H O ρ M w e x q=>E.nx _ _ _ _ _ w (e.drop i) x q,E.rt,fun σ H O ρ M w e x q=>E.bk _ _ _ _ _ w (e.drop i) x q,fun σ H O ρ M w e x q=>E.ct _ _ _ _ _ w (e.drop i) x q⟩⟩⟩).go .refl w0 w e x q E⟩
noncomputable def IM (K:PySem.W.Frag)(cs:List Value)(a:AE):AE:=fun ρ M Q=>a ρ M fun v M1=>∃ x C fs b,v=.ref x/\M1 x=some (.exc C fs)/\wx K C/\PySem.W.kitAny K (.ref C) cs=some b/\Q (.d (.bl b)) M1
theorem Eb {cs:List Value}{t:TE}{a:AE}(h:zG t a):zG (Wz K cs t) (IM K cs a):=⟨fun w e q k=>h.go w e q fun v M1 u H1 O1 q1 k1 w1 r1=>by
 obtain ⟨x,C,fs,b,rfl,hx,xc,hb,q2⟩:=q1
 obtain ⟨d,h1,h2⟩:=w1.mo x _ hx
 refine ⟨x,C,d,b,r1.1,h1,?_,xc,hb,k _ _ _ _ _ q2 k1 w1 .bl⟩
 rcases h2 with h2 | ⟨dx,e1,h2,_⟩
 ·exact .inl h2.1
 ·exact .inr ⟨dx,fs,e1,h2⟩⟩
end
noncomputable def exA (M0:MH)(E:AXK):AXK:=fun C fs M'=>∃ M'',va M0 M' (.d .non) (.d .non) M''/\E C fs M''
theorem PSs.wish' {st:List Stmt}{t:TS}(k:∀ e s,xe e s->X.xe e s)(h:PSs (X.wish xe) st t):PSs X st t:=fun pins s σ H D I hw=>
 wpAny_mono (h pins s σ H D (I.wish _) hw) (fun _ _ q=>q.unwish) fun e s z=>k e s z
theorem Io {P : Program}{w : World}{K : PySem.W.Frag}{mg : Str -> Option Value}{base : Heap}{x : Str}{st : Stmt}{N ps : List Str}{k : Nat}{a : xD}(at_ : At K mg x st)(S : zt N ps (zd st))
    (hb:∀ (kV doc pm:Value) (an:Option Addr) (cdv ct:Value) (us:List Value),us.length=ps.length->bindArgs (PySem.W.fnOf x x (qj st) (zF st) (zd st) .none kV doc pm an cdv ct) ⟨us,[]⟩=pure (ps.zip us))
    (len:∀ xs M Q E,a xs M Q E->xs.length=ps.length)
    (hbody:∀ (f:Addr) (cdv:Value) (A:Around) (outer:List Env) (s:Shared) (H:Hp) (HX:Hp) (OX:Own) (MX:MH) (E':AXK),qc k (A.deeper (envOfC x (zd st) s.heap.objs.size f cdv)) ->
      DX (jB (CX1 P w) P w K mg base N x (zd st) f cdv A outer s H (cE HX OX MX E')) (cE HX OX MX E') ->
      ∃ t,PSs (jB (CX1 P w) P w K mg base N x (zd st) f cdv A outer s H (cE HX OX MX E')) (zF st) t/\∃ b,jY HX OX MX t b/\∀ xs Q E0,E'=exA MX E0->a xs MX Q E0->b MX { nx:=fun _ M'=>rtA MX Q (.d .non) M',rt:=rtA MX Q } (zO N xs) MX):DfX P w K mg base x ps (k+1) (jk a):=by
  refine Iw at_ S hb (fun vs H Q E h=>?_) (fun f cdv A outer s H vs Q E hr h=>?_)
  · obtain ⟨xs,M,O,Q',E',w,r,q,_⟩:=h
    rw [r.1];exact len xs M Q' E' q
  · obtain ⟨xs,M,O,Q',E',w0,r,q,kk,ke⟩:=h
    obtain ⟨t,ht,b,hb,hq⟩:=hbody f cdv A outer s H H O M (exA M E') hr ⟨rfl,rfl,rfl,rfl⟩
    refine ⟨t,fun D=>?_,?_⟩
    · have ce : ∀ c d H', cE H O M (exA M E') c d H' -> E c d H' := fun c d H' ⟨C, fs, M', O', e1, ⟨M'', f, q2⟩, k1, w1, xd⟩ => by
        subst e1
        obtain ⟨O'',w2,k2,-,ko⟩:=ZU w0 w1 k1 (show zo H' O' M' .non (.d .non) from .non) f
        refine ke C fs M'' H' O'' d q2 k2 w2 ?_
        rcases xd with xd | ⟨dx,e1,h1,h2,h3⟩
        · exact .inl xd
        · exact .inr ⟨dx,e1,h1,(ko dx h2 h3).1,(ko dx h2 h3).2⟩
      refine PSs.wish' (fun e s' z=>?_) ht
      exact wpAny_mono z (fun _ s'' y=>y.imp ce) fun e' s'' y=>y.imp ce
    · refine hb.go .refl w0 w0 (kP r N) .refl (hq xs Q' E' rfl q) ⟨fun σ H' O' ρ M' w' e' x' q'=>?_,fun v y H' O' M' w' x' r' q'=>?_,fun _ _ _ _ _ _ _ _ z=>z.elim,fun _ _ _ _ _ _ _ _ z=>z.elim⟩
      · obtain ⟨y',M'',f,q2⟩:=q'
        obtain ⟨O'',w2,k2,r2⟩:=kL w0 w' x' (show zo H' O' M' .non (.d .non) from .non) f
        exact kk _ _ _ _ _ q2 k2 w2 r2
      · obtain ⟨y',M'',f,q2⟩:=q'
        obtain ⟨O'',w2,k2,r2⟩:=kL w0 w' x' r' f
        exact kk _ _ _ _ _ q2 k2 w2 r2
theorem DX.po (D:DX X E):PassesOwn (model X.prog X.w) X.A X.env X.xe:=by rw [D.xe];exact PassesOwn.leaving
section
variable {X:Cx}{K:PySem.W.Frag}{body suite:List Stmt}{b₀:Stmt}{n tx:Str}{i:Nat}{T:Addr}{np hpos pos tp p:Pos}{tb:(St->XK)->TS}{th:TS}{e c:Expr}{es:List Expr}{cs:List Value}{t:TE}{kk:Nat}
theorem AH (hk:X.K=K)(hs:X.stack=X.env :: X.outer)(hf:X.env.frame=some X.env.locals)(hex:X.ex=[])(nd:X.N.Nodup)(hi:X.N[i]?=some n)(hl:X.env.kindOf n=some .local)(hg:Gl X tx)(hm:X.mg tx=some (.ref T))
  (hb:∀ (pins:List (Addr × Obj)) (xe:Value->Shared->Prop) (Eh:St->XK),yM (CX1 X.prog X.w) (X.tried pins xe) Eh->PSs (X.tried pins xe) body (tb Eh)) (hh:∀ x,PSs (X.inside x) (b₀ :: suite) th)
  (hdb:(tx == ("__debug__":Str))=false:=by decide):PS X (.Try body [.ExceptHandler (some (.Name tx np)) (some n) (b₀ :: suite) hpos] [] [] pos) (HR K i T tb th):=hk ▸ D2 hs hf hex nd hi hl hg hm hb hh hdb
theorem ZX (hk:X.K=K)(he:PE X e t)(hg:Gl X "isinstance")(hm:X.mg "isinstance"=none)(hc:wo X [c] cs)
  (hst:starEach [e,c] X.env=(false,eval e X.env) :: starEach [c] X.env:=by rfl) (hst2:starEach [c] X.env=(false,eval c X.env) :: starEach [] X.env:=by rfl) (hpl:(backTo pos (starEach [c] X.env)).any (·.1)=false:=by rfl):PE X (.Call (.Name "isinstance" p) [e,c] [] pos) (Wz K cs t):=hk ▸ G3 he hg hm hc hst hst2 hpl
theorem AB (hk:X.K=K)(he:PE X e t)(hg:Gl X "isinstance")(hm:X.mg "isinstance"=none)(hc:wo X es cs)(hsz:cs.length<=sizeLine)
  (hst:starEach [e,.Tuple es kk tp] X.env=(false,eval e X.env) :: starEach [.Tuple es kk tp] X.env:=by rfl) (hst2:starEach [.Tuple es kk tp] X.env=(false,eval (.Tuple es kk tp) X.env) :: starEach [] X.env:=by rfl) (hpl:(backTo pos (starEach [.Tuple es kk tp] X.env)).any (·.1)=false:=by rfl):PE X (.Call (.Name "isinstance" p) [e,.Tuple es kk tp] [] pos) (Wz K cs t):=hk ▸ EW he hg hm hc hsz hst hst2 hpl
end
theorem exX {HX:Hp}{OX:Own}{MX:MH}{t:TS} {b:AS}(h:jY HX OX MX t b)(k:q b):∃ b,jY HX OX MX t b/\q b:=⟨b,h,k⟩
section
variable {X:Cx}
end
end L2
namespace PySem
open Sem (wp)
section
variable {prog:Program}{w:World}{A:Around}{E:Value->Shared->Prop}{h:Heap}{g:Array GenState}{d:Drawn}{t:Nat}{os:OsState}
variable {nm q:Str}{C N:Addr}{bs bm bmB:List Value}{hdct:Bool}{sn:List Str}{sub:List Value}{ab:Bool}{col:Option Bool}{dd:Option Addr}{k0 k1 k2 k3 k5:Option Value}{B Bn newId nid initId inN:String}{bmN:List Value}
variable {mN:Str->Option Value} {fI:Addr} {oI:Obj}
theorem Z5 (Fn:ExcBaseFacts Bn newId inN bmN)(hBn:bmB.contains (.type Bn)=true)(F:ExcBaseFacts B nid initId bmB)(T:OwnTail h bmB bm) {qG:List Value} {Q:Fin->Shared->Prop}
  (hC:h.get? C=some (excClassObj nm q C N bs bm hdct sn sub ab col dd k0 k1 k2 k3 k5 newId)) (hn:h.Ns N mN) (hi:mN "__init__"=some (.ref fI)) (hfI:h.get? fI=some oI) (hfc:oI.cls=.type "function")
  (hq:∀ h' e,Heap.MadeExcOf h h' e (.ref C) qG->wpAny (model prog w) A (call (.ref fI) (.ref e :: qG)) (fun r s'=>r=.none/\Q (.done (.ret (.ref e))) s') E ⟨h',g,d,t,os⟩) (hrest:qG.length<=sizeLine:=by size_fits) :
  wpAny (model prog w) A (Builtin.«type.__call__» ⟨.ref C :: qG,[]⟩) Q E ⟨h,g,d,t,os⟩:=by
 repeat (first | with_reducible refine wpAny_loadPart_at hC ?_ | with_reducible refine wpAny_madeBy_exc hC ?_ | wp_step)
 refine codeAny_call_builtin_code (Code.quiet_builtin _ Fn.quiet) (wpAny_check_new_subU Fn hBn T hC ?_)
 refine codeAny_exc_new_subU Fn hBn F T hC ?_ hrest
 show wpAny _ _ _ _ _ _
 have hC₁:=Heap.get?_push_of_some { cls:=.ref C,data:=.fields #[.ref h.objs.size,.none,.none,.none,.bool false,.none] }
  (Heap.get?_push_of_some { cls:=.type "tuple",data:=.seq qG.toArray } hC)
 have hfI₁:=Heap.get?_push_of_some { cls:=.ref C,data:=.fields #[.ref h.objs.size,.none,.none,.none,.bool false,.none] }
  (Heap.get?_push_of_some { cls:=.type "tuple",data:=.seq qG.toArray } hfI)
 have hn₁:((h.push { cls:=.type "tuple",data:=.seq qG.toArray }).push { cls:=.ref C,data:=.fields #[.ref h.objs.size,.none,.none,.none,.bool false,.none] }).Ns N mN:=
  let ⟨o,es,ep,e,r⟩:=hn;⟨o,es,ep,Heap.get?_push_of_some _ (Heap.get?_push_of_some _ e),r⟩
 have hget:((h.push { cls:=.type "tuple",data:=.seq qG.toArray }).push
   { cls:=.ref C,data:=.fields #[.ref h.objs.size,.none,.none,.none,.bool false,.none] }).get? (h.objs.size+1)=some
   { cls:=.ref C,data:=.fields #[.ref h.objs.size,.none,.none,.none,.bool false,.none] }:=by heap_get
 have hcC:(Value.ref C :: bm).contains (.ref C)=true:=by simp
 have T₁:=T.keeps (h':=(h.push { cls:=.type "tuple",data:=.seq qG.toArray }).push { cls:=.ref C,data:=.fields #[.ref h.objs.size,.none,.none,.none,.bool false,.none] })
  fun b o e=>Heap.get?_push_of_some _ (Heap.get?_push_of_some _ e)
 unfold isInstance
 repeat (first | with_reducible refine wpAny_loadPart_at hget ?_ | (with_reducible refine wpAny_isSubtype_exc hC₁ ?_;rw [hcC]) | wp_step)
 show wpAny _ _ (typeLookup (.ref C) _) _ _ _
 refine wpAny_typeLookup_tail hC₁ hn₁ T₁ F.mroIs F.init.lookup ?_
 rw [hi]
 refine wpAny_holding (wpAny_bind ?_)
 unfold bindSpecial
 refine wpAny_bind (wpAny_typeOf (T:="function") ⟨_,hfI₁,hfc⟩ ?_)
 rw [if_pos (by decide)]
 refine wpAny_pure (wpAny_bind (wpAny_mono (hq _ (h.objs.size+1) ⟨fun b o hb=>Heap.get?_push_of_some _ (Heap.get?_push_of_some _ hb),Heap.get?_none_of_le (Nat.le_succ _),h.objs.size,hget,Heap.get?_none_of_le (Nat.le_refl _),?_⟩) (fun r s' hr=>?_) fun _ _ x=>x))
 ·exact Heap.get?_push_of_some _ (Heap.get?_push_at rfl rfl)
 ·obtain ⟨rfl,hQ⟩:=hr
  wp_walk
  exact hQ
theorem X1 (Fn:ExcBaseFacts Bn newId inN bmN)(hBn:bmB.contains (.type Bn)=true)(F:ExcBaseFacts B nid initId bmB)(T:OwnTail h bmB bm) {qG:List Value} {Q:Value->Shared->Prop}
  (hC:h.get? C=some (excClassObj nm q C N bs bm hdct sn sub ab col dd k0 k1 k2 k3 k5 newId)) (hn:h.Ns N mN) (hi:mN "__init__"=some (.ref fI)) (hfI:h.get? fI=some oI) (hfc:oI.cls=.type "function")
  (hq:∀ h' e,Heap.MadeExcOf h h' e (.ref C) qG->wpAny (model prog w) (A.under (.builtin "type.__call__" ⟨.ref C :: qG,[]⟩)) (call (.ref fI) (.ref e :: qG)) (fun r s'=>r=.none/\Q (.ref e) s') E ⟨h',g,d,t,os⟩) (hrest:qG.length<=sizeLine:=by size_fits) :
  wpAny (model prog w) A (call (.ref C) qG) Q E ⟨h,g,d,t,os⟩:=by
 have f1:=tc_lookup
 have f2:=tc_bind (.ref C)
 have hT:(⟨h,g,d,t,os⟩:Shared).TypeIs (.ref C) "type":=⟨_,hC,rfl⟩
 refine wpAny_call (codeAny_of_tree ?_)
 show wpAny _ _ (callAny (.ref C) _) _ _ _
 repeat (any_goals (first | assumption | with_reducible refine wpAny_loadPart_at hC ?_ | wp_step))
 refine ⟨rfl,?_⟩
 refine codeAny_call_builtin_at (Code.quiet_builtin _ (by decide +kernel)) entry_typeCall (wpAny_check_type_call_sub hC (Z5 (hrest:=hrest) Fn hBn F T hC hn hi hfI hfc fun h' e hm=>?_))
 exact hq h' e hm
end
section
variable {M:Model}{A:Around}{E:Value->Shared->Prop}{env:Env}
variable {nm q:Str}{C N:Addr}{bs bm:List Value}{hdct:Bool}{sn:List Str}{sub:List Value}{ab:Bool}{col:Option Bool}{dd:Option Addr}{k0 k1 k2 k3 k5:Option Value}{newId:String}
theorem Qe {s:Shared}{x:Sem Value}{Q:Flow->Shared->Prop}(hbase:bm.contains (.type "BaseException")=true)(hh:A.handled=none)
  (h:wpAny M A x (fun v s₁=>∃ e t dx,v=.ref e/\s₁.heap.get? C=some (excClassObj nm q C N bs bm hdct sn sub ab col dd k0 k1 k2 k3 k5 newId) /\
   s₁.heap.get? e=some { cls:=.ref C,data:=.fields #[.ref t,.none,.none,.none,.bool false,.none],dict:=dx }/\E (.ref e) s₁) E s) :
  wpAny M A (raiseStmt env (some x) none) Q E s:=by
 have hcB:(Value.ref C :: bm).contains (.type "BaseException")=true:=by rw [List.contains_cons,hbase,Bool.or_true]
 unfold raiseStmt
 refine wpAny_bind (wpAny_mono h (fun v s₁ h₁=>?_) fun _ _ x=>x)
 obtain ⟨e,t,dx,rfl,hC,he,hE⟩:=h₁
 obtain ⟨hp,g,d,tk,os⟩:=s₁
 repeat (first | with_reducible refine wpAny_loadPart_at he ?_ | with_reducible refine wpAny_loadPart_at hC ?_ | (with_reducible refine wpAny_isSubtype_exc hC ?_;rw [hcB]) | wp_step)
 exact wpAny_raiseNew_none hh hE
end
section
variable {prog:Program}{w:World}{A:Around}{E:Value->Shared->Prop}{s:Shared}{env:Env}
variable {nm q:Str}{C N:Addr}{bs bm bmB:List Value}{hdct:Bool}{sn:List Str}{sub:List Value}{ab:Bool}{col:Option Bool}{dd:Option Addr}{k0 k1 k2 k3 k5:Option Value}{B Bn newId nid initId inN:String}{bmN:List Value}
theorem VH (Fn:ExcBaseFacts Bn newId inN bmN)(hBn:bmB.contains (.type Bn)=true)(F:ExcBaseFacts B nid initId bmB){mN:Str->Option Value}{x:Str}{np cpos pos:Pos}{args:List Expr}{Q:Flow->Shared->Prop}{fI:Addr}{oI:Obj}
  (hbase:bm.contains (.type "BaseException")=true) (hh:A.handled=none) (hplain:(backTo cpos (starEach args env)).any (·.1)=false) (hi:mN "__init__"=some (.ref fI)) (hfc:oI.cls=.type "function")
  (h:wpAny (model prog w) A (eval (.Name x np) env) (fun f s₁=>f=.ref C/\wpAny (model prog w) A (evalArgs (.ref C) true (backTo cpos (starEach args env)) [])
   (fun a s₂=>a.kw=[]/\a.pos.length<=sizeLine/\s₂.heap.get? C=some (excClassObj nm q C N bs bm hdct sn sub ab col dd k0 k1 k2 k3 k5 newId)/\s₂.heap.Ns N mN/\OwnTail s₂.heap bmB bm/\s₂.heap.get? fI=some oI /\
    ∀ h' e,Heap.MadeExcOf s₂.heap h' e (.ref C) a.pos->wpAny (model prog w) (A.under (.builtin "type.__call__" ⟨.ref C :: a.pos,[]⟩)) (call (.ref fI) (.ref e :: a.pos)) (fun r s'=>r=.none /\
     s'.heap.get? C=some (excClassObj nm q C N bs bm hdct sn sub ab col dd k0 k1 k2 k3 k5 newId)/\(∃ t dx,s'.heap.get? e=some { cls:=.ref C,data:=.fields #[.ref t,.none,.none,.none,.bool false,.none],dict:=dx })/\E (.ref e) s') E { s₂ with heap:=h' }) E s₁) E s) :
  wpAny (model prog w) A (exec (.Raise (some (.Call (.Name x np) args [] cpos)) none pos) env) Q E s:=by
 rw [arm_exec_Raise]
 refine wpAny_bind (wpAny_standAt (Qe (C:=C) (nm:=nm) (q:=q) (N:=N) (bs:=bs) (bm:=bm) (hdct:=hdct) (sn:=sn) (sub:=sub) (ab:=ab) (col:=col) (dd:=dd) (k0:=k0) (k1:=k1) (k2:=k2) (k3:=k3) (k5:=k5) (newId:=newId) hbase hh (wpAny_bind (wpAny_mono (wpAny_Call_ofName (wpAny_mono h (fun f s₁ h₁=>?_) fun _ _ x=>x)) (fun v s₃ h₃=>wpAny_bind (wpAny_standAt (wpAny_pure h₃))) fun _ _ x=>x))))
 obtain ⟨rfl,h₁⟩:=h₁
 unfold callWith
 refine wpAny_bind (wpAny_holding (wpAny_mono h₁ (fun a s₂ h₂=>wpAny_bind (wpAny_standAt ?_)) fun _ _ x=>x))
 obtain ⟨apos,akw⟩:=a
 obtain ⟨hkw,hlen,hC,hn,T,hf,h₂⟩:=h₂
 obtain rfl:akw=[]:=hkw
 obtain ⟨hp,g,d,tk,os⟩:=s₂
 simp only [hplain]
 refine wpAny_bind (wpAny_keeperOf_exc hC ?_)
 refine wpAny_bind (X1 (hrest:=hlen) Fn hBn F T hC hn hi hf hfc fun h' e hm=>wpAny_mono (h₂ h' e hm) (fun r s' hr=>⟨hr.1,wpAny_bind (wpAny_holding (wpAny_point (wpAny_pure ?_)))⟩) fun _ _ x=>x)
 obtain ⟨_,hC',⟨t,dx,he⟩,hE⟩:=hr
 exact ⟨e,t,dx,rfl,hC',he,hE⟩
end
end PySem
namespace L2
open PySem PySem.Spec PyProof.Rows
open PySem.W (Looks InstAt findIn findObj subIn mroIn clsIn takerIn hasDictIn)
noncomputable def B5:Value->Bool
 | .ref _=>true
 | _=>false
noncomputable def Au (l:List Value):Bool:=l.dropWhile B5 == yy
theorem W5 {a:Value}(h:B5 a=true):∃ c,a=.ref c:=by cases a <;> first | exact ⟨_,rfl⟩ | cases h
theorem yO (self:Value):∀ l:List Value,refuseLoop self "__setattr__" l=refuseLoop self "__setattr__" (l.dropWhile B5)
 | []=>rfl
 | a :: r=>by
  by_cases h:B5 a=true
  ·obtain ⟨c,rfl⟩:=W5 h
   rw [refuseLoop_ref,List.dropWhile_cons_of_pos h];exact yO self r
  ·rw [List.dropWhile_cons_of_neg h]
theorem YK (self:Value){l:List Value}(h:Au l=true):refuseLoop self "__setattr__" l=pure ():=by
 rw [yO,show l.dropWhile B5=yy from eq_of_beq h];exact PySem.F.store_ValueError.passes self
structure xA (K:PySem.W.Frag)(C:Addr)(name:Str):Prop where
 s:findIn K (.ref C) "__setattr__"=some (some (.builtin "object.__setattr__"))
 t:takerIn K C name=some none
 hd:hasDictIn K C=true
 mo:mroIn K C (.type "object")=some true
 ve:(clsIn K C).any (fun cd=>Au cd.mro)=true
section
variable {prog:Program}{w:World}{A:Around}{E:Value->Shared->Prop}{s:Shared}{K:PySem.W.Frag}{x C:Addr}{ox:Obj}{od:Option Obj}{name:Str}{v:Value}
theorem Xs {tk:Tok}{R:Result->Shared->Prop}(X:K.In s.heap)(I:InstAt s.heap x ox C od)(S:xA K C name)
  (h:∀ b,wpAny (model prog w) A.in1 (Builtin.ObjectAttr.storeInOwnDict (.ref x) (.ref C) (.str name tk) name v b)
   (fun fin s'=>match fin with | .done f=>R (.ok f) s' | .again c'=>c'.quiet=true/\codeAny (model prog w) A c' R s') (fun e s'=>R (.error e) s') s) :
  codeAny (model prog w) A (.call (.builtin "object.__setattr__") ⟨[.ref x,.str name tk,v],[]⟩) R s:=by
 have SF:=PySem.F.store_object
 obtain ⟨cd,hc,ho⟩:=PySem.W.any_some S.ve
 have sub:Looks (model prog w) s.heap (isInstance (.ref x) (.type "object")) true:=I.type.andThen (PySem.W.looks_mroIn X S.mo)
 refine codeAny_call_builtin SF.slot.plain SF.entry (@PySem.W.check_slot (model prog w) _ _ s "object.__setattr__" "object" "__setattr__" (.ref x) [.str name tk,v] [] _ SF.kind SF.split sub (SF.args (.ref x) (.str name tk) v) ?_)
 obtain ⟨attr,ha,hr⟩:=Option.bind_eq_some_iff.mp S.t
 have hm:Looks (model prog w) s.heap (mroOf (.ref C)) cd.mro:=(PySem.W.looks_clsIn X hc).andThen .now
 have L3:Looks (model prog w) s.heap (Builtin.ObjectAttr.storeTaker? attr) none:=by
  cases attr with
  | none=>exact .now
  | some a=>
   obtain ⟨b,hb,hb2⟩:=Option.map_eq_some_iff.mp hr
   cases b with
   | true=>cases hb2
   | false=>exact (PySem.W.looks_takesIn X hb).andThen .now
 rw [PySem.W.osa_eq,refuse_eq]
 refine wpAny_bind (wpAny_bind (I.type.here (wpAny_bind (hm.here ?_))))
 rw [YK _ ho]
 refine wpAny_pure (wpAny_bind (I.type.here (wpAny_bind ((PySem.W.looks_findIn X ha).here (wpAny_bind (L3.here ?_))))))
 exact h _
variable {vs:Array Value} {Q:Unit->Shared->Prop}
theorem Vy (X:K.In s.heap)(hx:s.heap.get? x=some ox)(hc:ox.cls=.ref C)(hf:ox.data=.fields vs)(hd:ox.dict=none)(S:xA K C name)
  (h:∀ h' tk,h'.Ns1 s.heap.objs.size (fun y=>if y=name then some v else none)->h'.get? x=some { ox with dict:=some s.heap.objs.size }->(∀ b o,b ≠ x->s.heap.get? b=some o->h'.get? b=some o)->Q () { s with heap:=h',toks:=tk }) :
  wpAny (model prog w) A (setAttr (.ref x) name v) Q E s:=by
 have I:InstAt s.heap x ox C none:=⟨hx,hc,by unfold PySem.W.notCls;rw [hf],by rw [hd];trivial⟩
 obtain ⟨cd,hcd,hdd⟩:=PySem.W.any_some S.hd
 obtain ⟨oc,odt,oda,osl⟩:=ox
 dsimp only at hc hf hd
 subst hc hf hd
 have hx₁:(s.heap.push { cls:=.type "dict",data:=.dict #[] }).get? x=some ⟨.ref C,none,.fields vs,osl⟩:=Heap.get?_push_of_some _ hx
 have hxs:x ≠ s.heap.objs.size:=Nat.ne_of_lt (Heap.lt_size hx)
 refine PySem.W.set_plain X I S.s (Xs (s:={ s with toks:=s.toks+1 }) (od:=none) X I S fun b=>?_)
 refine wpAny_bind (wpAny_pure (wpAny_bind (wpAny_bind (wpAny_loadPart hx (wpAny_bind (PySem.W.Looks.here (s:={ s with toks:=s.toks+1 }) (PySem.W.looks_clsIn X hcd) ?_))))))
 rw [hdd]
 have htd:typeHasDict (Value.ref C)=true:=by simp [typeHasDict]
 dsimp only
 rw [if_neg (by decide),htd,if_neg (by decide)]
 refine wpAny_bind (wpAny_alloc' ?_)
 refine wpAny_bind (wpAny_update' hx₁ ?_)
 refine wpAny_pure ?_
 have hgd:((s.heap.push { cls:=.type "dict",data:=.dict #[] }).update x fun o=>{ cls:=o.cls,dict:=some s.heap.objs.size,data:=o.data,slots:=o.slots }).get? s.heap.objs.size
  =some { cls:=.type "dict",data:=.dict #[] }:=
  (Heap.get?_update_ne _ _ _ _ hxs.symm).trans (Heap.get?_push_at rfl rfl)
 have hnd:((s.heap.push { cls:=.type "dict",data:=.dict #[] }).update x fun o=>{ cls:=o.cls,dict:=some s.heap.objs.size,data:=o.data,slots:=o.slots }).Ns s.heap.objs.size (fun _=>none):=
  ⟨_,#[],_,hgd,rfl,fun e he=>absurd he (by simp),fun _=>rfl⟩
 show wpAny _ _ (Builtin.ObjectAttr.storeInDict s.heap.objs.size (.str name s.toks) name v) _ _ _
 unfold Builtin.ObjectAttr.storeInDict Builtin.ObjectAttr.newKeyGuard
 refine wpAny_bind (wpAny_pure (wpAny_bind (wpAny_nsSet1 (Heap.Ns1.of_empty hnd) fun h' hn' hs=>?_)))
 obtain ⟨oD,esD,epD,hoD,hdD,hcD⟩:=hn'.count (Within.cons name v Within.nil)
 refine wpAny_bind (wpAny_lookBehind hoD (by rw [hdD];exact pastItsLine_dict (Nat.le_trans hcD (by rw [List.length_cons,List.length_nil,sizeLine_eq];omega))) ?_)
 refine wpAny_pure (h h' _ hn' ?_ fun b o hb e=>?_)
 ·refine (hs.2 x hxs).trans (Heap.get?_update_self _ hx₁ rfl)
 ·exact (hs.2 b (Nat.ne_of_lt (Heap.lt_size e))).trans ((Heap.get?_update_ne _ _ _ _ hb).trans (Heap.get?_push_of_some _ e))
theorem Es {dx:Addr} {mA:Str->Option Value}{ns:List Str} (X:K.In s.heap)(hx:s.heap.get? x=some ox)(hc:ox.cls=.ref C)(hf:ox.data=.fields vs)(hd:ox.dict=some dx)(hn:s.heap.Ns1 dx mA)(S:xA K C name)(hw:Within mA ns)(hsz:ns.length<=1000)
  (h:∀ h' tk,h'.Ns1 dx (fun y=>if y=name then some v else mA y)->Heap.SameBut dx s.heap h'->Q () { s with heap:=h',toks:=tk }) :
  wpAny (model prog w) A (setAttr (.ref x) name v) Q E s:=by
 obtain ⟨u,hu⟩:∃ u,s.heap.get? dx=some u:=let ⟨o,_,_,e,_⟩:=hn;⟨o,e⟩
 have I:InstAt s.heap x ox C (some u):=⟨hx,hc,by unfold PySem.W.notCls;rw [hf],by rw [hd];exact hu⟩
 obtain ⟨cd,hcd,hdd⟩:=PySem.W.any_some S.hd
 obtain ⟨oc,odt,oda,osl⟩:=ox
 dsimp only at hc hf hd
 subst hc hf hd
 refine PySem.W.set_plain X I S.s (Xs (s:={ s with toks:=s.toks+1 }) (od:=some u) X I S fun b=>?_)
 refine wpAny_bind (wpAny_pure (wpAny_bind (wpAny_bind (wpAny_loadPart hx (wpAny_bind (PySem.W.Looks.here (s:={ s with toks:=s.toks+1 }) (PySem.W.looks_clsIn X hcd) ?_))))))
 rw [hdd]
 refine wpAny_pure (a:=some dx) (wpAny_bind (wpAny_pure (wpAny_bind ?_)))
 refine wpAny_nsSet1 (s:={ s with toks:=s.toks+1 }) hn fun h' hn2 hs2=>?_
 obtain ⟨oD,esD,epD,hoD,hdD,hcD⟩:=hn2.count (PySem.Within.cons name v hw)
 refine wpAny_bind (wpAny_lookBehind hoD (by rw [hdD];exact pastItsLine_dict (Nat.le_trans hcD (by rw [List.length_cons,sizeLine_eq];omega))) ?_)
 exact wpAny_pure (h h' _ hn2 hs2)
end
open PySem.W (Looks InstAt findIn findObj subIn mroIn clsIn takerIn hasDictIn)
noncomputable def Yy (C t:Addr)(d:Option Addr):Obj:={ cls:=.ref C,data:=.fields #[.ref t,.none,.none,.none,.bool false,.none],dict:=d }
noncomputable def jX (a C t:Addr)(d:Option Addr):HO:=.ext fun h=>h.get? a=some (Yy C t d)
noncomputable def XdE (dx:Addr)(fs:List (Str × V)):HO:=.ext fun h=>∃ mA,h.Ns1 dx mA/\(∀ f,xN (fs.lookup f) (mA f))/\Within mA (fs.map (·.1))
variable {P:Program} {w:World} {H:Hp}
theorem ZC {h:Heap}{a C t:Addr}{d:Option Addr}(e:h.get? a=some (Yy C t d)):zR P w H h a (jX a C t d):=⟨e,⟨_,e⟩,fun _ _ e k=>k _ e⟩
theorem V5 {h:Heap}{dx:Addr}{fs:List (Str × V)}{mA:Str->Option Value}(n:h.Ns1 dx mA)(r:∀ f,xN (fs.lookup f) (mA f))(wi:Within mA (fs.map (·.1))):zR P w H h dx (XdE dx fs):=by
 refine ⟨⟨mA,n,r,wi⟩,?_,fun h1 h2 ⟨mA,⟨o,es,ep,e,c⟩,r⟩ k=>⟨mA,⟨o,es,ep,k _ e,c⟩,r⟩⟩
 obtain ⟨o,_,_,e,_⟩:=n
 exact ⟨o,e⟩
section
variable {X:Cx}{pins:List (Addr × Obj)}{σ:St}{H:Hp}{s:Shared}
theorem Inv.drop (I:Inv X pins σ H s){x:Addr}(mu:Mut (H x))(h0:X.s₀.heap.get? x=none):Inv X pins σ (fun b=>if b=x then none else H b) s:=by
 have ne1:∀ {b:Addr} {y:Addr},H b=some (.own y)->b ≠ x:=fun e z=>by rw [z] at e;rw [e] at mu;exact mu
 have ne2:∀ {b:Addr} {xs:List V},H b=some (.tup xs)->b ≠ x:=fun e z=>by rw [z] at e;rw [e] at mu;exact mu
 refine ⟨I.ok,I.os,I.bare,⟨I.base.keep,I.base.slot,fun b u e n hb=>?_,I.base.there,fun b xs e=>?_,fun b u v e=>?_,fun b ps e=>?_⟩,I.loc,I.cell,?_,fun y c e=>?_,fun p hp'=>?_,fun b u e=>?_,I.len⟩
 ·show (if b=x then none else H b)=none
  split
  ·rfl
  ·exact I.base.free b u e n hb
 ·have:=I.base.tups b xs e
  show (if b=x then none else H b)=_
  rw [if_neg (ne2 this)];exact this
 ·have:=I.base.frzs b u v e
  show (if b=x then none else H b)=_
  rw [if_neg (fun z=>by rw [z] at this;rw [this] at mu;exact mu)];exact this
 ·obtain ⟨m,this⟩:=I.base.tbls b ps e
  refine ⟨m,?_⟩
  show (if b=x then none else H b)=_
  rw [if_neg (fun z=>by rw [z] at this;rw [this] at mu;exact mu)];exact this
 ·show (if _=x then none else H _)=none
  split
  ·rfl
  ·exact I.free
 ·show (if _=x then none else H _)=none
  split
  ·rfl
  ·exact I.freeC y c e
 ·obtain ⟨e1,e2,e3⟩:=I.pin p hp'
  refine ⟨e1,?_,e3⟩
  show (if _=x then none else H _)=none
  split
  ·rfl
  ·exact e2
 ·have e:(if b=x then none else H b)=some u:=e
  split at e
  ·cases e
  ·exact (I.hok b u e).stay (fun _ _ _ q=>q) (fun d q=>by show (if _=x then none else H _)=_;rw [if_neg (ne1 q)];exact q) fun d xs q=>by show (if _=x then none else H _)=_;rw [if_neg (ne2 q)];exact q
noncomputable def Zc (K:PySem.W.Frag)(ta tv:TE)(f:Str):TS:=fun D σ H=>tv σ H fun y H1=>ta σ H1 fun x H2=>∃ a C t,x=.ref a/\xA K C f /\
 ((H2 a=some (jX a C t none)/\∀ dx,H2 dx=none->dx ≠ a->D.nx σ (upd (upd H2 a (jX a C t (some dx))) dx (XdE dx [(f,y)]))) \/
  ∃ dx fs,H2 a=some (jX a C t (some dx))/\H2 dx=some (XdE dx fs)/\fs.length<1000/\D.nx σ (upd H2 dx (XdE dx (jz f y fs))))
variable {o value:Expr}{f:Str}{ta tv:TE}{pos pos':Pos}
theorem xl (ha:PE X o ta)(hv:PE X value tv)(hs:swapsWith value (some (.Attribute o f pos')) pos.line X.env=pure false):PS X (.Assign [.Attribute o f pos'] value pos) (Zc X.K ta tv f):=by
 intro pins s σ H D I h
 refine plainObj_wpAny_Assign_Attribute (thn (hv pins s σ H _ I h) fun u s1 ⟨y,H1,I1,ry,q⟩=>thn (ha pins s1 σ H1 _ I1 q) fun ov s2 ⟨x,H2,I2,rx,a,C,t,ex,S,q2⟩=>?_) hs
 subst ex
 obtain rfl:ov=Value.ref a:=rx
 rcases q2 with ⟨ea,q2⟩ | ⟨dx,fs,ea,ed,hl,q2⟩
 ·have ho:s2.heap.get? a=some (Yy C t none):=(I2.hok a _ ea).1
  refine Vy I2.kIn ho rfl rfl rfl S fun h' tk hn hx k=>?_
  have dn:H2 s2.heap.objs.size=none:=I2.hok.fresh (Nat.le_refl _)
  have da:s2.heap.objs.size ≠ a:=Nat.ne_of_gt (Heap.lt_size ho)
  have hd:∀ b o,s2.heap.get? b=some o->b ≠ s2.heap.objs.size:=fun b o e=>Nat.ne_of_lt (Heap.lt_size e)
  have na:∀ {b:Addr} {u:HO},H2 b=some u->(∀ φ,u ≠ .ext φ)->b ≠ a:=fun e n z=>by rw [z,ea] at e;cases e;exact n _ rfl
  have I3:Inv X pins σ (upd (upd H2 a (jX a C t (some s2.heap.objs.size))) s2.heap.objs.size (XdE s2.heap.objs.size [(f,y)])) { s2 with heap:=h',toks:=tk }:=by
   refine I2.un ⟨fun b o e n _ _=>k b o (fun z=>by rw [z,ea] at n;cases n) e,fun b o e n _ _=>⟨o.slots,k b o (fun z=>by rw [z,ea] at n;cases n) e⟩,fun b o e n _=>?_,fun b o e _=>?_,fun b xs e=>?_,fun b o u e=>?_,fun b ps e=>?_⟩ fun b u' e=>?_
   ·rw [zh (hd b o e),zh (fun z=>by rw [z,ea] at n;cases n)];exact n
   ·by_cases c:b=a
    ·exact ⟨_,c ▸ hx⟩
    ·exact ⟨o,k b o c e⟩
   ·rw [zh (zl e dn),zh (na e fun _ z=>nomatch z)];exact e
   ·rw [zh (zl e dn),zh (na e fun _ z=>nomatch z)];exact e
   ·exact ⟨#[],by rw [zh (zl e dn),zh (na e fun _ z=>nomatch z),Array.append_empty];exact e⟩
   ·by_cases c:b=s2.heap.objs.size
    ·subst c
     rw [zk] at e
     cases e
     refine V5 hn (fun g=>?_) fun g hg=>?_
     ·have e1:List.lookup g [(f,y)]=if g=f then some y else none:=jQ f g y []
      rw [e1]
      by_cases q:g=f
      ·rw [if_pos q,if_pos q];exact ry
      ·rw [if_neg q,if_neg q];trivial
     ·by_cases q:g=f
      ·rw [q];simp
      ·exact absurd (if_neg q) hg
    ·rw [zh c] at e
     by_cases c2:b=a
     ·subst c2
      rw [zk] at e
      cases e
      exact ZC hx
     ·rw [zh c2] at e
      refine (I2.hok b u' e).stay (fun d v hd' q=>k d v (fun z=>?_) q) (fun d q=>?_) fun d xs q=>?_
      ·rcases hd' with rfl | hd'
       ·exact c2 z
       ·exact na hd' (fun _ z=>nomatch z) z
      ·rw [zh (zl q dn),zh (na q fun _ z=>nomatch z)];exact q
      ·rw [zh (zl q dn),zh (na q fun _ z=>nomatch z)];exact q
  exact ⟨σ,_,I3,q2 _ dn da⟩
 ·have ho:s2.heap.get? a=some (Yy C t (some dx)):=(I2.hok a _ ea).1
  obtain ⟨⟨mA,hn,r,wi⟩,_,_⟩:=I2.hok dx _ ed
  refine Es I2.kIn ho rfl rfl rfl hn S wi (by rw [List.length_map];omega) fun h' tk hn' sb=>?_
  have hd:∃ o,h'.get? dx=some o:=let ⟨o,_,_,e',_⟩:=hn';⟨o,e'⟩
  refine ⟨σ,_,I2.write (x:=dx) (e:=dx) (by rw [ed];exact True.intro) (.inl rfl) (fun b q hb z=>(sb.2 b hb).trans z) hd (V5 hn' (fun g=>?_) fun g hg=>?_),q2⟩
  ·rw [jQ]
   by_cases q:g=f
   ·rw [if_pos q,if_pos q];exact ry
   ·rw [if_neg q,if_neg q];exact r g
  ·by_cases q:g=f
   ·rw [q];exact (j9 f y fs).1
   ·refine (j9 f y fs).2 g (wi g fun z=>hg ?_)
    show (if g=f then some u else mA g)=none
    rw [if_neg q];exact z
end
variable {K:PySem.W.Frag} {mg:Str->Option Value} {v:Value}
theorem Jo {h:Heap}{N:Addr} {n:Str} (X:K.In h)(G:h.Ns N mg)(e:PySem.W.nsIn K N n=some (some v)):mg n=some v:=by
 obtain ⟨o,es,ep,ho,hd,_,hf⟩:=G
 unfold PySem.W.nsIn at e
 split at e
 ·rename_i c d es' n' sl q
  have:=X _ _ q
  rw [ho] at this
  cases this
  cases hd
  split at e
  ·rename_i en he
   cases e
   rw [<- hf]
   unfold nsFind findBy
   rw [<- Array.find?_toList,he]
   rfl
  ·split at e <;> cases e
 ·cases e
noncomputable def jm (K:PySem.W.Frag)(C:Addr)(bmB:List Value)(newId:String)(fI:Addr):Bool:=match K.lookup C with
 | some ⟨.type "type",_,.cls cd,sl⟩=>(match cd.mro,sl.toList with
  | .ref C' :: bm,[_,_,_,_,some (.builtin n),_]=>C' == C && n == newId && !cd.hasDel && PySem.W.tailIn K bmB bm && PySem.W.nsOkIn K cd.ns && PySem.W.nsIn K cd.ns "__init__" == some (some (.ref fI))
  | _,_=>false)
 | _=>false
theorem Jf {h:Heap}{C fI:Addr}{bmB:List Value}{newId:String}(X:K.In h)(q:jm K C bmB newId fI=true) :
  ∃ bm N nm qn bs hdct sn sub ab col dd k0 k1 k2 k3 k5 mN,h.get? C=some (excClassObj nm qn C N bs bm hdct sn sub ab col dd k0 k1 k2 k3 k5 newId)/\h.Ns N mN/\mN "__init__"=some (.ref fI)/\OwnTail h bmB bm:=by
 unfold jm at q
 split at q
 ·rename_i dd cd sl ho
  split at q
  ·rename_i C' bm k0 k1 k2 k3 n k5 hm hs
   simp only [Bool.and_eq_true,beq_iff_eq,Bool.not_eq_true'] at q
   obtain ⟨⟨⟨⟨⟨z1,z2⟩,z3⟩,z4⟩,z5⟩,z6⟩:=q
   subst z1 z2
   obtain ⟨c1,c2,c3,c4,c5,c6,c7,c8,c9,c10,c11⟩:=cd
   dsimp only at hm z3 z5 z6
   subst hm z3
   have es:sl=#[k0,k1,k2,k3,some (.builtin n),k5]:=Array.ext' hs
   subst es
   exact ⟨bm,c4,c1,c5,c2,c6,c7,c8,c9,c10,dd,k0,k1,k2,k3,k5,_,X _ _ ho,.of_isNs (PySem.W.isNs_of_in X z5),Jo X (.of_isNs (PySem.W.isNs_of_in X z5)) z6,PySem.W.tail_of_in X z4⟩
  ·cases q
 ·cases q
noncomputable def spI (C:Addr)(n:Nat)(fn:List V->List (Str × V)):Sp:=fun vs H Q E=>∃ a t us,vs=.ref a :: us/\us.length=n/\H a=some (jX a C t none)/\∀ dx,H dx=none->dx ≠ a->Q .non (upd (upd H a (jX a C t (some dx))) dx (XdE dx (fn us)))
noncomputable def MkX (P:Program)(w:World)(K:PySem.W.Frag)(mg:Str->Option Value)(base:Heap)(C:Addr)(k n:Nat)(fn:List V->List (Str × V)):Prop:=
 ∃ f fd ps,jm K C yy "ValueError.__new__" f=true/\jq P w K mg base CX0 k f fd ps (spI C n fn)/\jr K fd ps []/\(∃ oI,K.lookup f=some oI/\oI.cls=.type "function")/\ps.length=n+1
noncomputable def KO (C:Addr)(n:Nat)(fn:List V->List (Str × V))(E:St->XK)(t:TA):TS:=fun _ σ H=>t σ H fun vs H1=>vs.length=n/\n<=1000/\∀ dx,H1 dx=none->E σ (.ref C) (some dx) (upd H1 dx (.xd (fn vs)))
section
variable {X:Cx}{E:XK}{C:Addr}{x:Str}{np cpos pos:Pos}{e:Expr}{es:List Expr}{t:TA}{k n:Nat}{fn:List V->List (Str × V)}
theorem qu (D:DX X E)(hc:X.calm=true)(m:MkX X.prog X.w X.K X.mg X.base C k n fn)(hr:qc (k+1) X.A)(hg:Gl X x)(hm:X.mg x=some (.ref C))(ha:PA X (e :: es) t)(hdb:(x == ("__debug__":Str))=false:=by decide)
  (he:starEach (e :: es) X.env=(false,eval e X.env) :: starEach es X.env:=by rfl) (hpl:(backTo cpos (starEach es X.env)).any (·.1)=false:=by rfl) :
  PS X (.Raise (some (.Call (.Name x np) (e :: es) [] cpos)) none pos) (KO C n fn (fun _=>E) t):=by
 intro pins s σ H De I h
 obtain ⟨fI,fd,ps,q,F,hb,⟨oI,lk,hfc⟩,hps⟩:=m
 obtain ⟨bm,N,nm,qn,bs,hdct,sn,sub,ab,col,dd,k0,k1,k2,k3,k5,mN,hC,hN,hi,T⟩:=Jf I.ok.mod.kin q
 refine VH (C:=C) (nm:=nm) (q:=qn) (N:=N) (bs:=bs) (bm:=bm) (hdct:=hdct) (sn:=sn) (sub:=sub) (ab:=ab) (col:=col) (dd:=dd) (k0:=k0) (k1:=k1) (k2:=k2) (k3:=k3) (k5:=k5)
  PySem.F.excBase_ValueError (by decide) PySem.F.excBase_ValueError (mN:=mN) (T.hasType PySem.F.excBase_ValueError.hasBase) (I.ok.hd hc) (by rw [he];show (false || (backTo cpos (starEach es X.env)).any (·.1))=false;rw [hpl];rfl) hi hfc (jo I hg hm ⟨rfl,?_⟩ hdb)
 have:=ha cpos pins s σ H _ I h
 rw [he] at this ⊢
 refine Calls.evalArgs_plain (wpAny_mono this (fun us s2 h2=>?_) fun _ _ y=>y)
 obtain ⟨vs,H1,I1,r,hl,hn,q1⟩:=h2
 have hlu:us.length=n:=by rw [<- r.length];exact hl
 refine ⟨rfl,by rw [hlu,sizeLine_eq];omega,I1.bk _ _ hC,hN.keeps I1.bk,T.keeps I1.bk,I1.kIn _ _ lk,fun h' x1 hx=>?_⟩
 obtain ⟨t1,ho,_,_⟩:=hx.there
 have nx:s2.heap.get? x1=none:=hx.new
 have hx0:X.s₀.heap.get? x1=none:=by
  cases z:X.s₀.heap.get? x1 with
  | none=>rfl
  | some o=>
   obtain ⟨o',e'⟩:=I1.base.there x1 o z (by rw [D.ex];simp)
   rw [nx] at e';cases e'
 have hx1:H1 x1=none:=by
  cases z:H1 x1 with
  | none=>rfl
  | some o=>
   obtain ⟨u,e'⟩:=(I1.hok x1 o z).here
   rw [nx] at e';cases e'
 have I2:Inv X pins σ H1 { s2 with heap:=h' }:=I1.kept (t':=s2.toks) hx.keeps
 have I3:Inv X pins σ (upd H1 x1 (jX x1 C t1 none)) { s2 with heap:=h' }:=I2.track hx1 hx0 (fun z=>by
   obtain ⟨mm,⟨o,_,_,e',_⟩,_⟩:=I1.loc
   rw [<- z,nx] at e';cases e') (fun y c e' z=>by
   obtain ⟨v,o,e2,_⟩:=I1.cell y c e'
   rw [z,nx] at e2;cases e2) (fun p hp z=>by
   have:=(I1.pin p hp).1
   rw [z,nx] at this;cases this) (ZC ho)
 have r2:zB (V.ref x1 :: vs) (Value.ref x1 :: us):=.cons rfl r
 have hl2:(Value.ref x1 :: us ++ []).length=ps.length:=by rw [List.append_nil,List.length_cons,hlu,hps]
 have b1:=hb { s2 with heap:=h' } (Value.ref x1 :: us) I3.kIn hl2
 rw [List.append_nil] at b1
 refine wpAny_call (codeAny_mono (F.run _ X.stack _ _ ⟨Value.ref x1 :: us,[]⟩ (Value.ref x1 :: us) (V.ref x1 :: vs) (fun v H2=>v=.non/\∃ dx,H1 dx=none/\dx ≠ x1/\H2=upd (upd H1 x1 (jX x1 C t1 (some dx))) dx (XdE dx (fn vs))) E (hr.make C us []) (I3.env0.make C us []) b1 r2 ⟨x1,t1,vs,rfl,hl,zk,fun dx hd hne=>⟨rfl,dx,?_,hne,by rw [xj]⟩⟩) fun r s' hq'=>?_)
 ·rw [zh hne] at hd;exact hd
 cases r with
 | error e=>exact False.elim hq'
 | ok fl=>
  cases fl with
  | ret u=>
   obtain ⟨v,H',I4,rv,ev,dx,d1,d2,eH⟩:=I3.after hq'
   subst ev eH
   have hcl:=I4.bk _ _ hC
   have hex:s'.heap.get? x1=some (Yy C t1 (some dx)):=by
    have:=I4.hok x1 (jX x1 C t1 (some dx)) (by rw [zh (Ne.symm d2),zk])
    exact this.1
   refine ⟨rv,hcl,⟨t1,some dx,hex⟩,?_⟩
   have I5:=I4.drop (x:=x1) (by rw [zh (Ne.symm d2),zk];exact True.intro) hx0
   have eH:(fun b=>if b=x1 then none else upd (upd H1 x1 (jX x1 C t1 (some dx))) dx (XdE dx (fn vs)) b)=upd H1 dx (XdE dx (fn vs)):=by
    funext b
    by_cases c:b=x1
    ·rw [if_pos c,c,zh (Ne.symm d2)];exact hx1.symm
    ·rw [if_neg c]
     by_cases c2:b=dx
     ·rw [c2,zk,zk]
     ·rw [zh c2,zh c,zh c2]
   rw [eH] at I5
   obtain ⟨⟨mA,hn1,hr1,_⟩,⟨od,hod⟩,_⟩:=I5.hok dx (XdE dx (fn vs)) zk
   have I6:=I5.write (x:=dx) (e:=dx) (h':=s'.heap) (t':=s'.toks) (o:=.xd (fn vs)) (by rw [zk];exact True.intro) (.inl rfl) (fun _ _ _ z=>z) ⟨od,hod⟩ ⟨mA,hn1,hr1⟩
   rw [xj] at I6
   exact D.raise (C:=C) (d:=some dx) I6 (x:=x1) (h1:=s'.heap) (fun b o _ z=>z) (fun o z=>by rw [hex] at z;cases z;exact ⟨_,rfl⟩) hex rfl rfl rfl rfl rfl (.inl rfl) hx0 (by rw [zh (Ne.symm d2)];exact hx1) (q1 dx d1)
  | next=>exact False.elim hq'
  | brk=>exact False.elim hq'
  | cont=>exact False.elim hq'
end
open PySem.W (Looks InstAt findIn findObj subIn mroIn clsIn takerIn hasDictIn)
noncomputable def DmX (P:Program)(w:World)(K:PySem.W.Frag)(mg:Str->Option Value)(base:Heap)(C:Addr)(m:Str)(ps:List Str)(k:Nat)(sp:Sp):Prop:=
 ∃ f fd,jq P w K mg base (CX1 P w) k f fd ps sp/\jr K fd ps []/\JB K C m f
variable {base:Heap} {C:Addr} {m:Str} {ps:List Str} {sp:Sp}
theorem DmX.mono {j k:Nat} (D:DmX P w K mg base C m ps j sp)(h:j<=k):DmX P w K mg base C m ps k sp:=
 let ⟨f,fd,F,r⟩:=D
 ⟨f,fd,F.mono h,r⟩
noncomputable def vX (C:Addr)(m:Str)(sp:Sp)(E:St->XK)(ta:TE)(t:TA):TE:=fun σ H Q=>ta σ H fun x H1=>∃ a dx fs,x=.ref a/\H1 a=some (.ins C dx fs)/\fs.lookup m=none/\t σ H1 fun vs H2=>sp (x :: vs) H2 Q (E σ)
section
variable {X:Cx}{k:Nat}{C:Addr}{m x:Str}{ps:List Str}{sp:Sp}{E:St->XK}{p pos apos:Pos}{o e:Expr}{es:List Expr}{t:TA}{to:TE}
theorem xL {pl:Sem Bool}(c:Cls X.K C)(D:DmX X.prog X.w X.K X.mg X.base C m ps k sp)(hr:qc k X.A)(hx:yM (CX1 X.prog X.w) X E)(ho:PE X o to)(ha:PA X (e :: es) t)
  (hst:starEach (e :: es) X.env=(false,eval e X.env) :: starEach es X.env:=by rfl) (hpl:(backTo pos (starEach es X.env)).any (·.1)=false:=by rfl)
  (ht:eval (.Call (.Attribute o m apos) (e :: es) [] pos) X.env=(do
   let ov <- eval o X.env
   standAt apos.atName
   let (f,first) <- holding [ov] (getMethod ov m pl)
   callWith pos f first (backTo pos (starEach (e :: es) X.env)) (backToKw pos (keywordEach [] X.env))):=by rfl) :
  PE X (.Call (.Attribute o m apos) (e :: es) [] pos) (vX C m sp E to t):=by
 obtain ⟨f,fd,F,b,hm⟩:=D
 intro pins s σ H Q I h
 refine PySem.W.methodCall_KW (pl:=pl) (thn (ho pins s σ H _ I h) fun u s1 ⟨x,H1,I1,rx,a,dx,fs,ex,ea,l,q⟩=>?_) ht
 subst ex
 obtain rfl:u=Value.ref a:=rx
 refine ky I1 ea c hm l ?_
 refine PySem.W.callWith_K (first:=[.ref a]) (h₀:=X.base) I.ok.mod.kin hm.kp (thn (ha pos pins s1 σ H1 _ I1 q) fun us s2 ⟨vs,H2,I2,r,q2⟩=>⟨I2.kIn,?_⟩) hst hpl
 exact K3 (us:=.ref a :: us) (vs:=.ref a :: vs) F hr b hx I2 (.cons rfl r) q2
end
variable {qual:Str} {st:Stmt} {N:List Str} {k:Nat}
theorem IA (a:AtM K C m qual st)(S:zt N ps (zd st))
  (hb:∀ (kV doc pm:Value) (an:Option Addr) (cdv ct:Value) (us:List Value),us.length=ps.length->bindArgs (PySem.W.fnOf m qual (qj st) (zF st) (zd st) .none kV doc pm an cdv ct) ⟨us,[]⟩=pure (ps.zip us))
  (len:∀ vs H Q E,sp vs H Q E->vs.length=ps.length)
  (hbody:∀ (f:Addr) (cdv:Value) (A:Around) (outer:List Env) (s:Shared) (H:Hp) (vs:List V) (Q:VK) (E:XK),qc k (A.deeper (envOfC qual (zd st) s.heap.objs.size f cdv))->sp vs H Q E ->
   ∃ t,(DX (jB (CX1 P w) P w K mg base N qual (zd st) f cdv A outer s H E) E->PSs (jB (CX1 P w) P w K mg base N qual (zd st) f cdv A outer s H E) (zF st) t)/\t { nx:=fun _ H'=>Q .non H',rt:=Q } (qB N vs) H):DmX P w K mg base C m ps (k+1) sp:=by
 obtain ⟨f,fd,F,mt⟩:=a
 refine ⟨f,fd,?_,F.binds hb,mt⟩
 obtain ⟨oc,od,kV,doc,pm,an,cdv,ct,osl,rfl,lk,hcd⟩:=F.ex
 refine BU lk hcd S len fun A outer s H vs Q E hr hsp=>?_
 obtain ⟨t,ht,q⟩:=hbody f cdv A outer s H vs Q E hr hsp
 exact ⟨t,ht ⟨rfl,rfl,rfl,rfl⟩,q⟩
theorem yT {u:Obj}{name:Str} (hh:hasDictIn K C=true)(ha:findIn K (.ref C) name=some none)(hl:PySem.W.lookIn name u=some (some v)):findObj K C (some u) name=some (.value v):=PySem.W.findObj_own hh ha rfl hl
section
variable {prog:Program}{w:World}{A:Around}{E:Value->Shared->Prop}{s:Shared}{K:PySem.W.Frag}{x C:Addr}{ox u:Obj}{name:Str}{v:Value}
theorem WD {expr:Bool}{Q:Value->Shared->Prop}(X:K.In s.heap)(I:InstAt s.heap x ox C (some u))(hb:subIn K (.ref C) (.type "BaseException")=some true)
  (h1:findIn K (.ref C) "__getattribute__"=some (some (.builtin "BaseException.__getattribute__"))) (h2:findIn K (.ref C) "__getattr__"=some none)
  (hf:findObj K C (some u) name=some (.value v)) (hh:PySem.W.handedIn v=true) (q:Q v { s with toks:=s.toks+1 }) :
  wpAny (model prog w) A (getAttr (.ref x) name expr) Q E s:=by
 obtain ⟨h,g,d,t,os⟩:=s
 unfold getAttr
 refine wpAny_bind (wpAny_mkText ?_)
 refine FF X I hb h1 h2 ?_
 have L0:=I.type (M:=model prog w)
 have L1:=PySem.W.looks_find (M:=model prog w) X I hf
 have fin:wpAny (model prog w) A (handedOut v) Q E ⟨h,g,d,t+1,os⟩:=by rw [PySem.W.handedOut_of hh];exact wpAny_pure q
 unfold Builtin.«object.__getattribute__»
 repeat (any_goals (first | assumption | with_reducible refine Looks.at L0 ?_ | with_reducible refine Looks.at L1 ?_ | wp_step))
end
noncomputable def F3 (K:PySem.W.Frag)(ta:TE)(f:Str):TE:=fun σ H Q=>ta σ H fun x H1=>∃ a C dx fs v,x=.ref a/\H1 a=some (wA a C (some dx))/\H1 dx=some (.xd fs)/\wx K C/\hasDictIn K C=true/\findIn K (.ref C) f=some none/\fs.lookup f=some v/\Q v H1
section
variable {X:Cx}{e:Expr}{ta:TE}{f:Str}{pos:Pos}
theorem Zz (he:PE X e ta)(hb:attributeBase e f X.env (eval e X.env)=eval e X.env):PE X (.Attribute e f pos) (F3 X.K ta f):=by
 intro pins s σ H Q I h
 refine ZL hb (thn (he pins s σ H _ I h) fun u s1 ⟨x,H1,I1,rx,a,C,dx,fs,v,ex,ea,ed,c,hh,hn,l,q⟩=>?_)
 subst ex
 obtain rfl:u=Value.ref a:=rx
 obtain ⟨⟨oa,g1,g2,g3,vs,g4⟩,_,_⟩:=I1.hok a _ ea
 obtain ⟨mA,hns,hr⟩:=I1.hok dx _ ed
 obtain ⟨od,ho,hl⟩:=yt hns
 have hv:=hr f
 rw [l] at hv
 cases z:mA f with
 | none=>rw [z] at hv;exact hv.elim
 | some u'=>
  rw [z] at hv
  have J:InstAt s1.heap a oa C (some od):=⟨g1,g2,by unfold PySem.W.notCls;rw [g4],by rw [g3];exact ho⟩
  refine WD I1.kIn J c.bx c.ga c.gt (yT hh hn (by rw [hl,z])) (yD hv) ⟨v,H1,I1.tok _,hv,q⟩
end
variable {n:Nat}
theorem KA {C f:Addr}{fd:FuncData} {fn:List V->List (Str × V)}(F:Fun K "__init__" qual st f fd)(S:zt N ps (zd st))
  (hb:∀ (kV doc pm:Value) (an:Option Addr) (cdv ct:Value) (us:List Value),us.length=ps.length->bindArgs (PySem.W.fnOf "__init__" qual (qj st) (zF st) (zd st) .none kV doc pm an cdv ct) ⟨us,[]⟩=pure (ps.zip us))
  (q:jm K C yy "ValueError.__new__" f=true) (hf:PySem.W.isFn K (.ref f)=true) (hl:ps.length=n+1)
  (hbody:∀ (cdv:Value) (A:Around) (outer:List Env) (s:Shared) (H:Hp) (E:XK),∃ t,PSs (jB CX0 P w K mg base N qual (zd st) f cdv A outer s H E).nox (zF st) t /\
   ∀ (a t0:Addr) (us:List V) (Q:VK),us.length=n->H a=some (jX a C t0 none)->(∀ dx,H dx=none->dx ≠ a->Q .non (upd (upd H a (jX a C t0 (some dx))) dx (XdE dx (fn us))))->t { nx:=fun _ H'=>Q .non H',rt:=Q } (qB N (.ref a :: us)) H):MkX P w K mg base C (k+1) n fn:=by
 have hfc:∃ oI,K.lookup f=some oI/\oI.cls=.type "function":=by
  obtain ⟨oc,od,kV,doc,pm,an,cdv,ct,osl,rfl,lk,hcd⟩:=F.ex
  refine ⟨_,lk,?_⟩
  have hf':=beq_iff_eq.mp hf
  have hf':Option.map (fun x:Obj=>x.cls) (K.lookup f)=some (.type "function"):=hf'
  rw [lk] at hf'
  exact Option.some.inj hf'
 refine ⟨f,fd,ps,q,F.ok S (fun vs H Q E ⟨a,t,us,e,l,_⟩=>by rw [e,List.length_cons,l,hl]) fun cdv A outer s H vs Q E hr ⟨a,t0,us,e,l,ha,hq⟩=>?_,F.binds hb,hfc,hl⟩
 obtain ⟨t,h1,h2⟩:=hbody cdv A outer s H E
 subst e
 exact ⟨t,h1,h2 a t0 us Q l ha hq⟩
open PySem.W (findIn hasDictIn)
theorem vq {H:Hp}{O:Own}{M:MH}:∀ {xs:List (Str × V)} {l:List (Str × AV)},kB H O M xs l->∀ f,(xs.lookup f=none/\l.lookup f=none) \/ ∃ v x,xs.lookup f=some v/\l.lookup f=some x/\zo H O M v x
 | [],[],_,f=>.inl ⟨rfl,rfl⟩
 | [],_ :: _,r,f=>by have:=r.1;simp at this
 | _ :: _,[],r,f=>by have:=r.1;simp at this
 | (g,v) :: xs,(g',x) :: l,r,f=>by
  have h1:=r.1
  rw [List.map_cons,List.map_cons] at h1
  obtain ⟨e0,h2⟩:=List.cons.inj h1
  have e0:g=g':=e0
  subst e0
  have r0:zo H O M v x:=r.2.2 0 v x rfl rfl
  have r1:kB H O M xs l:=⟨h2,by have:=r.2.1;simp at this;simpa using this,fun i a b e1 e2=>r.2.2 (i+1) a b e1 e2⟩
  by_cases c:f=g
  ·subst c
   exact .inr ⟨v,x,by simp [List.lookup],by simp [List.lookup],r0⟩
  ·have e:(f == g)=false:=by simpa using c
   simp only [List.lookup,e]
   exact vq r1 f
noncomputable def xC (f:Str)(v:AV):List (Str × AV)->List (Str × AV)
 | []=>[(f,v)]
 | (g,x) :: r=>if g=f then (g,v) :: r else (g,x) :: xC f v r
theorem Ay {H:Hp}{O:Own}{M:MH}{f:Str}{v:V}{x:AV}(rv:zo H O M v x):∀ {xs:List (Str × V)} {l:List (Str × AV)},kB H O M xs l->kB H O M (jz f v xs) (xC f x l)
  | [], [], _ => ⟨rfl, rfl, fun i a b e1 e2 => by
      cases i with
      | zero=>cases e1;cases e2;exact rv
      | succ i=>cases e1⟩
  | [],_ :: _,r=>by have:=r.1;simp at this
  | _ :: _,[],r=>by have:=r.1;simp at this
  | (g,v') :: xs,(g',x') :: l,r=>by
    have h1:=r.1
    rw [List.map_cons,List.map_cons] at h1
    obtain ⟨e0,h2⟩:=List.cons.inj h1
    have e0:g=g':=e0
    subst e0
    have r0:zo H O M v' x':=r.2.2 0 v' x' rfl rfl
    have ll:xs.length=l.length:=by have:=r.2.1;simp at this;exact this
    have r1:kB H O M xs l:=⟨h2,by simpa using ll,fun i a b e1 e2=>r.2.2 (i+1) a b e1 e2⟩
    unfold jz xC
    by_cases c:g=f
    · rw [if_pos c,if_pos c]
      exact ⟨by rw [List.map_cons,List.map_cons,h2],by simpa using ll,fun i a b e1 e2=>by
        cases i with
        | zero=>cases e1;cases e2;exact rv
        | succ i=>exact r1.2.2 i a b e1 e2⟩
    · rw [if_neg c,if_neg c]
      have ih:=Ay (f:=f) rv r1
      exact ⟨by rw [List.map_cons,List.map_cons,ih.1],by have:=ih.2.1;simpa using this,fun i a b e1 e2=>by
        cases i with
        | zero=>cases e1;cases e2;exact r0
        | succ i=>exact ih.2.2 i a b e1 e2⟩
variable {O:Own} {M:MH}
theorem GC {xs:List (Str × V)}{l:List (Str × AV)}(r:kB H O M xs l):xs.length=l.length:=by simpa using r.2.1
theorem X5 (w:Wf H O M){p C:Addr}{fs:List (Str × AV)}(hp:M p=some (.ins C fs))(f:Str){v:V}{y:AV}(rv:zo H O M v y) :
  ∃ dx xs,H p=some (.ins C dx xs)/\xs.length=fs.length/\Ext H O M (upd H p (.ins C dx (jz f v xs))) O (mup M p (.ins C (xC f y fs)))/\Wf (upd H p (.ins C dx (jz f v xs))) O (mup M p (.ins C (xC f y fs))):=by
 obtain ⟨dx,xs,g1,g2,g3,g4,g5⟩:=w.mo p _ hp
 have np:=qZ hp
 have ks:=xo w np (.ins C dx (jz f v xs)) (.ins C (xC f y fs))
 have kp:=Ay (f:=f) rv g2
 refine ⟨dx,xs,g1,GC g2,ks,Jr w np (fun _ z=>nomatch z) (show qQ _ _ _ p (.ins C (xC f y fs)) from ⟨dx,_,zk,⟨kp.1,kp.2.ext ks⟩,g3,(ks.prv dx g3 g4).2.2,?_⟩)⟩
 rw [(ks.prv dx g3 g4).1];exact g5
noncomputable def IE (K:PySem.W.Frag)(a:AE)(f:Str):AE:=fun ρ M Q=>a ρ M fun x M1=>∃ p C fs v,x=.ref p/\M1 p=some (.ins C fs)/\Cls K C/\jO K C f/\fs.lookup f=some v/\Q v M1
variable {t:TE} {a:AE} {f:Str}
theorem EE (h:zG t a):zG (Hh K t f) (IE K a f):=⟨fun w e q k=>h.go w e q fun x M1 v H1 O1 q1 k1 w1 r1=>by
 obtain ⟨p,C,fs,y,rfl,hp,c,n,hl,q2⟩:=q1
 obtain ⟨dx,xs,h1,h2,_⟩:=w1.mo p _ hp
 rcases vq h2 f with ⟨_,z⟩ | ⟨u,z,h3,h4,h5⟩
 ·rw [z] at hl;cases hl
 ·rw [hl] at h4;cases h4
  exact ⟨p,C,dx,xs,u,r1.1,h1,c,n,h3,k _ _ _ _ _ q2 k1 w1 h5⟩⟩
noncomputable def Br (K:PySem.W.Frag)(a b:AE)(f:Str):AS:=fun _ D ρ M=>b ρ M fun y M1=>a ρ M1 fun x M2=>∃ p C fs,x=.ref p/\M2 p=some (.ins C fs)/\Cls K C/\jO K C f/\fs.length<1000/\D.nx ρ (mup M2 p (.ins C (xC f y fs)))
theorem Ae {t u:TE}{a b:AE} (h1:zG t a)(h2:zG u b):jh (Dv K t u f) (Br K a b f):=⟨fun _ w e x q E=>h2.go w e q fun y M1 v H1 O1 q1 k1 w1 r1=>h1.go w1 (e.ext k1) q1 fun z M2 v2 H2 O2 q2 k2 w2 r2=>by
 obtain ⟨p,C,fs,rfl,hp,c,n,hl,q3⟩:=q2
 obtain ⟨dx,xs,g1,g2,ks,w3⟩:=X5 w2 hp f (r1.ext k2)
 exact ⟨p,C,dx,xs,r2.1,g1,c,n,by rw [g2];exact hl,E.nx _ _ _ _ _ w3 ((e.ext k1).ext (k2.trans ks)) ((x.trans k1).trans (k2.trans ks)) q3⟩⟩
noncomputable def Gq (C:Addr)(m:Str)(sp:ASp)(a:AE)(b:AA):AE:=fun ρ M Q=>a ρ M fun x M1=>∃ p fs,x=.ref p/\M1 p=some (.ins C fs)/\fs.lookup m=none/\b ρ M1 fun xs M2=>sp (.ref p :: xs) M2 Q
theorem Zm {H:Hp}{O:Own}{M:MH}{v:V}{x:AV}{vs:List V}{xs:List AV}(r:zo H O M v x)(rs:zj H O M vs xs):zj H O M (v :: vs) (x :: xs):=⟨by rw [List.length_cons,List.length_cons,rs.1],fun i a b e1 e2=>by
 cases i with
 | zero=>cases e1;cases e2;exact r
 | succ i=>exact rs.2 i a b e1 e2⟩
variable {u:TA} {b:AA}
theorem Be {sp:ASp} (h1:zG t a)(h2:jc u b):zG (wO C m (cSp sp) [] E0 t u) (Gq C m sp a b):=⟨fun w e q k=>h1.go w e q fun x M1 v H1 O1 q1 k1 w1 r1=>by
 obtain ⟨p,fs,rfl,hp,hl,q2⟩:=q1
 obtain ⟨dx,xs,g1,g2,_⟩:=w1.mo p _ hp
 have hn:xs.lookup m=none:=by
  rcases vq g2 m with z | ⟨_,_,_,z,_⟩
  ·exact z.1
  ·rw [hl] at z;cases z
 refine ⟨p,dx,xs,r1.1,g1,hn,h2.go w1 (e.ext k1) q2 fun ys M2 vs H2 O2 q3 k2 w2 r2=>?_⟩
 have rp:zo H2 O2 M2 v (.ref p):=r1.ext k2
 exact ⟨.ref p :: ys,M2,O2,_,w2,by rw [List.append_nil];exact Zm rp r2,q3,fun z M3 v3 H3 O3 q4 k3 w3 r3=>k z M3 v3 H3 O3 q4 ((k1.trans k2).trans k3) w3 r3⟩⟩
section
variable {HX:Hp}{OX:Own}{MX:MH}{E:St->XK}{EA:ASt->AXK}{sp:xD}{te:TE}{ae:AE}{ta:TA}{aa:AA}{C:Addr}{m:Str}
noncomputable def wb (C:Addr)(m:Str)(sp:xD)(EA:ASt->AXK)(a:AE)(b:AA):AE:=fun ρ M Q=>a ρ M fun x M1=>∃ p fs,x=.ref p/\M1 p=some (.ins C fs)/\fs.lookup m=none/\b ρ M1 fun xs M2=>sp (.ref p :: xs) M2 Q (EA ρ)
theorem vW (hE:EXs HX OX MX E EA)(ho:zG te ae)(hu:jc ta aa){σ:St} {ρ:ASt} {Q:VK}{Q':AK}(kx:Ext HX OX MX H O M)(w:Wf H O M)(e:Er H O M σ ρ)(q:wb C m sp EA ae aa ρ M Q')(k:∀ x M' v H' O',Q' x M'->Ext H O M H' O' M'->Wf H' O' M'->zo H' O' M' v x->Q v H'):vX C m (jk sp) E te ta σ H Q:=
 ho.go w e q fun x M1 v H1 O1 q1 k1 w1 r1=>by
  obtain ⟨p,fs,rfl,hp,hl,q2⟩:=q1
  obtain ⟨dx,xs,g1,g2,_⟩:=w1.mo p _ hp
  have hn:xs.lookup m=none:=by
   rcases vq g2 m with z | ⟨_,_,_,z,_⟩
   ·exact z.1
   ·rw [hl] at z;cases z
  refine ⟨p,dx,xs,r1.1,g1,hn,hu.go w1 (e.ext k1) q2 fun ys M2 vs H2 O2 q3 k2 w2 r2=>?_⟩
  have rp:zo H2 O2 M2 v (.ref p):=r1.ext k2
  exact ⟨.ref p :: ys,M2,O2,Q',EA ρ,w2,Zm rp r2,q3,fun x M3 v3 H3 O3 q4 k3 w3 r3=>k x M3 v3 H3 O3 q4 ((k1.trans k2).trans k3) w3 r3,fun C fs M' H' O' d q4 k3 w3 xd=>hE.go σ ρ C fs M' H' O' d q4 (((kx.trans k1).trans k2).trans k3) w3 (e.ext ((k1.trans k2).trans k3)) xd⟩
theorem JZ (hE:EXs HX OX MX E EA)(ho:zG te ae)(hu:jc ta aa):jY HX OX MX (Xt (vX C m (jk sp) E te ta)) (W7 (wb C m sp EA ae aa)):=
 ⟨fun kx _ w e x q D=>vW hE ho hu (kx.trans x) w e q fun y M1 v H1 O1 q1 k1 w1 r1=>D.nx _ _ _ _ _ w1 (e.ext k1) (x.trans k1) q1⟩
theorem YA {to:TE}{ao:AE}(hE:EXs HX OX MX E EA)(ho:zG te ae)(hu:jc ta aa)(h1:zG to ao):jY HX OX MX (Dv K to (vX C m (jk sp) E te ta) f) (Br K ao (wb C m sp EA ae aa) f):=
 ⟨fun kx _ w e x q D=>vW hE ho hu (kx.trans x) w e q fun y M1 v H1 O1 q1 k1 w1 r1=>h1.go w1 (e.ext k1) q1 fun z M2 v2 H2 O2 q2 k2 w2 r2=>by
  obtain ⟨p,C,fs,rfl,hp,c,n,hl,q3⟩:=q2
  obtain ⟨dx,xs,g1,g2,ks,w3⟩:=X5 w2 hp f (r1.ext k2)
  exact ⟨p,C,dx,xs,r2.1,g1,c,n,by rw [g2];exact hl,D.nx _ _ _ _ _ w3 ((e.ext k1).ext (k2.trans ks)) ((x.trans k1).trans (k2.trans ks)) q3⟩⟩
theorem Y5 {g:TG}{ag:AG}(hE:EXs HX OX MX E EA)(ho:zG te ae)(hu:jc ta aa)(hg:yZ g ag):jY HX OX MX (Zv (vX C m (jk sp) E te ta) g) (DB (wb C m sp EA ae aa) ag):=
 ⟨fun kx _ w e x q D=>vW hE ho hu (kx.trans x) w e q fun y M1 v H1 O1 q1 k1 w1 r1=>hg.go w1 (e.ext k1) r1 q1 fun σ2 H2 O2 ρ2 M2 q2 k2 w2 e2=>D.nx _ _ _ _ _ w2 e2 ((x.trans k1).trans k2) q2⟩
noncomputable def Bl:AV->Option V
 | .d (.int i)=>some (.int i)
 | .d (.str s)=>some (.str s)
 | .d .non=>some .non
 | .d (.bl b)=>some (.bl b)
 | _=>none
theorem We {H:Hp}{O:Own}{M:MH}{v u:V}{x:AV}(r:zo H O M v x)(h:Bl x=some u):v=u:=by
 cases x with
 | ref a=>cases h
 | tp l=>cases h
 | d d=>
  have r:Rep H O v d:=r
  cases d <;> first | (cases h;first | exact zM r | exact Yb r | exact vh r | exact kr r) | cases h
theorem Yt {vs us:List V}{xs:List AV}(r:zj H O M vs xs)(h:xs.map Bl=us.map some):vs=us:=by
 have ll:xs.length=us.length:=by simpa using congrArg List.length h
 refine List.ext_getElem (r.1.trans ll) fun i h1 h2=>?_
 have hi:i<xs.length:=by rw [<- r.1];exact h1
 have e:Bl xs[i]=some us[i]:=by
  have:=congrArg (fun z:List (Option V)=>z[i]?) h
  simpa [List.getElem?_map,List.getElem?_eq_getElem hi,List.getElem?_eq_getElem h2] using this
 exact We (r.2 i vs[i] xs[i] (List.getElem?_eq_getElem h1) (List.getElem?_eq_getElem hi)) e
noncomputable def Xx (C:Addr)(n:Nat)(fn:List V->List (Str × V))(EA:ASt->AXK)(b:AA):AS:=fun _ _ ρ M=>b ρ M fun xs M1=>∃ vs,xs.map Bl=vs.map some/\vs.length=n/\n<=1000/\EA ρ C (fn vs) M1
theorem Qi {fn:List V->List (Str × V)}(hE:EXs HX OX MX E EA)(hu:jc ta aa):jY HX OX MX (KO C n fn E ta) (Xx C n fn EA aa):=
 ⟨fun kx _ w e x q D=>hu.go w e q fun xs M1 vs H1 O1 q1 k1 w1 r1=>by
  obtain ⟨us,h1,h2,h3,h4⟩:=q1
  obtain rfl:=Yt r1 h1
  refine ⟨h2,h3,fun dx hd=>?_⟩
  have k2:=qR w1 hd (.xd (fn vs))
  exact hE.go _ _ C (fn vs) M1 _ (yg O1 dx) (some dx) h4 (((kx.trans x).trans k1).trans k2) (kF w1 hd _ (fun _ z=>nomatch z)) (e.ext (k1.trans k2)) (.inr ⟨dx,rfl,zk,.inl rfl,(w1.fresh hd).2⟩)⟩
end
noncomputable def Xo:V->Option Dat
 | .int i=>some (.int i)
 | .str s=>some (.str s)
 | .non=>some .non
 | .bl b=>some (.bl b)
 | _=>none
theorem wR {v:V}{d:Dat}(h:Xo v=some d):Rep H O v d:=by
 cases v <;> first | (cases h;constructor) | cases h
noncomputable def FW (K:PySem.W.Frag)(a:AE)(f:Str):AE:=fun ρ M Q=>a ρ M fun x M1=>∃ p C fs v d,x=.ref p/\M1 p=some (.exc C fs)/\wx K C/\hasDictIn K C=true/\findIn K (.ref C) f=some none/\fs.lookup f=some v/\Xo v=some d/\Q (.d d) M1
theorem V2 (h:zG t a):zG (F3 K t f) (FW K a f):=⟨fun w e q k=>h.go w e q fun x M1 v H1 O1 q1 k1 w1 r1=>by
 obtain ⟨p,C,fs,y,d,rfl,hp,c,hh,hn,hl,hd,q2⟩:=q1
 obtain ⟨dd,h1,h2⟩:=w1.mo p _ hp
 rcases h2 with ⟨_,z⟩ | ⟨dx,e1,h2,_⟩
 ·rw [z] at hl;cases hl
 ·subst e1
  exact ⟨p,C,dx,fs,y,r1.1,h1,h2,c,hh,hn,hl,k _ _ _ _ _ q2 k1 w1 (show Rep _ _ _ _ from wR hd)⟩⟩
theorem dmA {a:ASp}(at_:AtM K C m qual st)(S:zt N ps (zd st))
  (hb:∀ (kV doc pm:Value) (an:Option Addr) (cdv ct:Value) (us:List Value),us.length=ps.length->bindArgs (PySem.W.fnOf m qual (qj st) (zF st) (zd st) .none kV doc pm an cdv ct) ⟨us,[]⟩=pure (ps.zip us))
  (len:∀ xs M Q,a xs M Q->xs.length=ps.length)
  (hbody:∀ (f:Addr) (cdv:Value) (A:Around) (outer:List Env) (s:Shared) (H:Hp) (E:XK),qc k (A.deeper (envOfC qual (zd st) s.heap.objs.size f cdv)) ->
   ∃ t,PSs (jB CX0 P w K mg base N qual (zd st) f cdv A outer s H E).nox (zF st) t/\∃ b,jh t b/\∀ xs M Q,a xs M Q->b M { nx:=fun _ M'=>rtA M Q (.d .non) M',rt:=rtA M Q } (zO N xs) M):Dm P w K mg base C m ps (k+1) (cSp a):=by
 refine Hq at_ S hb (fun vs H Q E h=>?_) (fun f cdv A outer s H vs Q E hr h=>?_)
 ·obtain ⟨xs,M,O,Q',w,r,q,_⟩:=h
  rw [r.1];exact len xs M Q' q
 ·obtain ⟨t,ht,b,hb,hq⟩:=hbody f cdv A outer s H E hr
  refine ⟨t,ht,?_⟩
  obtain ⟨xs,M,O,Q',w,r,q,kk⟩:=h
  refine hb.go w w (kP r N) .refl (hq xs M Q' q) ⟨fun σ H' O' ρ M' w' e' x' q'=>?_,fun v y H' O' M' w' x' r' q'=>?_,fun _ _ _ _ _ _ _ _ z=>z.elim,fun _ _ _ _ _ _ _ _ z=>z.elim⟩
  ·obtain ⟨y',M'',f,q2⟩:=q'
   obtain ⟨O'',w2,k2,r2⟩:=kL w w' x' (show zo H' O' M' .non (.d .non) from .non) f
   exact kk _ _ _ _ _ q2 k2 w2 r2
  ·obtain ⟨y',M'',f,q2⟩:=q'
   obtain ⟨O'',w2,k2,r2⟩:=kL w w' x' r' f
   exact kk _ _ _ _ _ q2 k2 w2 r2
theorem Y6 {P : Program}{w : World}{K : PySem.W.Frag}{mg : Str -> Option Value}{base : Heap}{C : Addr}{m qual : Str}{st : Stmt}{N ps : List Str}{k : Nat}{a : xD}(at_ : AtM K C m qual st)(S : zt N ps (zd st))
    (hb:∀ (kV doc pm:Value) (an:Option Addr) (cdv ct:Value) (us:List Value),us.length=ps.length->bindArgs (PySem.W.fnOf m qual (qj st) (zF st) (zd st) .none kV doc pm an cdv ct) ⟨us,[]⟩=pure (ps.zip us))
    (len:∀ xs M Q E,a xs M Q E->xs.length=ps.length)
    (hbody:∀ (f:Addr) (cdv:Value) (A:Around) (outer:List Env) (s:Shared) (H:Hp) (HX:Hp) (OX:Own) (MX:MH) (E':AXK),qc k (A.deeper (envOfC qual (zd st) s.heap.objs.size f cdv)) ->
      DX (jB (CX1 P w) P w K mg base N qual (zd st) f cdv A outer s H (cE HX OX MX E')) (cE HX OX MX E') ->
      ∃ t,PSs (jB (CX1 P w) P w K mg base N qual (zd st) f cdv A outer s H (cE HX OX MX E')) (zF st) t/\∃ b,jY HX OX MX t b/\∀ xs Q E0,E'=exA MX E0->a xs MX Q E0->b MX { nx:=fun _ M'=>rtA MX Q (.d .non) M',rt:=rtA MX Q } (zO N xs) MX):DmX P w K mg base C m ps (k+1) (jk a):=by
  refine IA at_ S hb (fun vs H Q E h=>?_) (fun f cdv A outer s H vs Q E hr h=>?_)
  · obtain ⟨xs,M,O,Q',E',w,r,q,_⟩:=h
    rw [r.1];exact len xs M Q' E' q
  · obtain ⟨xs,M,O,Q',E',w0,r,q,kk,ke⟩:=h
    obtain ⟨t,ht,b,hb,hq⟩:=hbody f cdv A outer s H H O M (exA M E') hr ⟨rfl,rfl,rfl,rfl⟩
    refine ⟨t,fun D=>?_,?_⟩
    · have ce : ∀ c d H', cE H O M (exA M E') c d H' -> E c d H' := fun c d H' ⟨C, fs, M', O', e1, ⟨M'', f, q2⟩, k1, w1, xd⟩ => by
        subst e1
        obtain ⟨O'',w2,k2,-,ko⟩:=ZU w0 w1 k1 (show zo H' O' M' .non (.d .non) from .non) f
        refine ke C fs M'' H' O'' d q2 k2 w2 ?_
        rcases xd with xd | ⟨dx,e1,h1,h2,h3⟩
        · exact .inl xd
        · exact .inr ⟨dx,e1,h1,(ko dx h2 h3).1,(ko dx h2 h3).2⟩
      refine PSs.wish' (fun e s' z=>?_) ht
      exact wpAny_mono z (fun _ s'' y=>y.imp ce) fun e' s'' y=>y.imp ce
    · refine hb.go .refl w0 w0 (kP r N) .refl (hq xs Q' E' rfl q) ⟨fun σ H' O' ρ M' w' e' x' q'=>?_,fun v y H' O' M' w' x' r' q'=>?_,fun _ _ _ _ _ _ _ _ z=>z.elim,fun _ _ _ _ _ _ _ _ z=>z.elim⟩
      · obtain ⟨y',M'',f,q2⟩:=q'
        obtain ⟨O'',w2,k2,r2⟩:=kL w0 w' x' (show zo H' O' M' .non (.d .non) from .non) f
        exact kk _ _ _ _ _ q2 k2 w2 r2
      · obtain ⟨y',M'',f,q2⟩:=q'
        obtain ⟨O'',w2,k2,r2⟩:=kL w0 w' x' r' f
        exact kk _ _ _ _ _ q2 k2 w2 r2
noncomputable def F8 (C:Addr)(sp:ASp)(b:AA):AE:=fun ρ M Q=>b ρ M fun xs M1=>∀ p,M1 p=none->sp (.ref p :: xs) (mup M1 p (.ins C [])) fun v M2=>v=.d .non/\Q (.ref p) M2
theorem BD {sp:ASp} (h:jc u b):zG (Xj C (cSp sp) [] E0 u) (F8 C sp b):=⟨fun w e q k=>h.go w e q fun ys M1 vs H1 O1 q1 k1 w1 r1=>by
 intro x dx hx hd hne
 have k2:=qR w1 hd (.own x)
 have w2:=kF w1 hd (.own x) (fun _ z=>nomatch z)
 have hx2:upd H1 dx (.own x) x=none:=by rw [zh (Ne.symm hne)];exact hx
 have k3:=Zq w2 hx2 (.ins C dx []) (.ins C [])
 have w3:Wf (upd (upd H1 dx (.own x)) x (.ins C dx [])) (yg (yg O1 dx) x) (mup M1 x (.ins C [])):=Bm w2 hx2 (fun _ z=>nomatch z) (show qQ _ _ _ x (.ins C []) from ⟨dx,[],zk,⟨rfl,rfl,fun i a b e1 _=>nomatch e1⟩,.inr (.inl rfl),by rw [zu hne];exact (w1.fresh hd).2,by rw [zh hne,zk]⟩)
 have mx:mup M1 x (.ins C []) x ≠ none:=by rw [zg];exact fun z=>nomatch z
 refine ⟨.ref x :: ys,mup M1 x (.ins C []),_,_,w3,?_,q1 x (w1.fresh hx).2,fun z M4 v4 H4 O4 q4 k4 w4 r4=>?_⟩
 ·rw [List.append_nil];exact Zm ⟨rfl,mx⟩ (r1.ext (k2.trans k3))
 ·obtain ⟨rfl,q5⟩:=q4
  exact ⟨vh r4,k _ _ _ _ _ q5 (((k1.trans k2).trans k3).trans k4) w4 ⟨rfl,k4.mst x mx⟩⟩⟩
noncomputable def F2 (kvs:List (Key × V))(a:AE):AE:=fun ρ M Q=>a ρ M fun x M1=>∃ s d,x=.d (.str s)/\Xo ((vE kvs (Sum.inr s)).getD .non)=some d/\Q (.d d) M1
theorem WA {kvs:List (Key × V)} (h:zG t a):zG (VD kvs t) (F2 kvs a):=⟨fun w e q k=>h.go w e q fun x M1 v H1 O1 q1 k1 w1 r1=>by
 obtain ⟨s,d,rfl,hd,q2⟩:=q1
 exact ⟨Sum.inr s,Yb r1,k _ _ _ _ _ q2 k1 w1 (show Rep _ _ _ _ from wR hd)⟩⟩
end L2
namespace PySem
open Sem (wp)
theorem wz:entryFor table "proto.unchain"=some Builtin.«proto.unchain»:=entryFor_of_fast (by kernel_rfl)
section
variable {prog:Program}{w:World}{A:Around}{E:Value->Shared->Prop}{s:Shared}
theorem Vj {α:Type}{e x:Addr}{oe ox:Obj}{vs vx:Array Value}{Q:α->Shared->Prop}(hh:A.handled=some (.ref x))(hne:x ≠ e)(hx:s.heap.get? x=some ox)(hxd:ox.data=.fields vx)(hx2:vx[2]?=some .none)(he:s.heap.get? e=some oe)(hed:oe.data=.fields vs)(h2:2<vs.size)
  (h:E (.ref e) { s with heap:=s.heap.update e (Obj.mapFields (·.setIfInBounds 2 (.ref x))) }):wpAny (model prog w) A (raiseNew (.ref e):Sem α) Q E s:=by
 unfold raiseNew
 refine wpAny_bind (wpAny_handled ?_)
 rw [hh]
 dsimp only
 rw [if_pos (by simpa using hne)]
 refine wpAny_bind (wpAny_holding (wpAny_runValue (codeAny_builtin wz ?_)))
 unfold Builtin.«proto.unchain»
 dsimp only
 refine wpAny_bind (wpAny_field hx hxd hx2 ?_)
 rw [if_pos (show (Value.none == Value.none)=true from by decide)]
 refine wpAny_pure ?_
 dsimp only
 refine wpAny_bind ?_
 obtain ⟨c,d,dt,sl⟩:=oe
 simp only at hed
 subst hed
 unfold updateField
 refine wpAny_bind (wpAny_load he ?_)
 dsimp only
 rw [if_pos h2]
 exact wpAny_update he (wpAny_throw h)
end
section
variable {prog:Program}{w:World}{A:Around}{E:Value->Shared->Prop}{env:Env}
variable {nm q:Str}{C N:Addr}{bs bm bmB:List Value}{hdct:Bool}{sn:List Str}{sub:List Value}{ab:Bool}{col:Option Bool}{dd:Option Addr}{k0 k1 k2 k3 k5:Option Value}{B Bn newId nid initId inN:String}{bmN:List Value}
variable {s:Shared} {Q:Flow->Shared->Prop}
theorem Ko {xx:Sem Value}{x:Addr} (hbase:bm.contains (.type "BaseException")=true)(hh:A.handled=some (.ref x))
  (h:wpAny (model prog w) A xx (fun v s₁=>∃ e t dx ox vx,v=.ref e/\x ≠ e/\s₁.heap.get? C=some (excClassObj nm q C N bs bm hdct sn sub ab col dd k0 k1 k2 k3 k5 newId) /\
   s₁.heap.get? e=some { cls:=.ref C,data:=.fields #[.ref t,.none,.none,.none,.bool false,.none],dict:=dx }/\s₁.heap.get? x=some ox/\ox.data=.fields vx/\vx[2]?=some .none /\
   E (.ref e) { s₁ with heap:=s₁.heap.update e (Obj.mapFields (·.setIfInBounds 2 (.ref x))) }) E s) :
  wpAny (model prog w) A (raiseStmt env (some xx) none) Q E s:=by
 have hcB:(Value.ref C :: bm).contains (.type "BaseException")=true:=by rw [List.contains_cons,hbase,Bool.or_true]
 unfold raiseStmt
 refine wpAny_bind (wpAny_mono h (fun v s₁ h₁=>?_) fun _ _ x=>x)
 obtain ⟨e,t,dx,ox,vx,rfl,hne,hC,he,hx,hxd,hx2,hE⟩:=h₁
 obtain ⟨hp,g,d,tk,os⟩:=s₁
 repeat (first | with_reducible refine wpAny_loadPart_at he ?_ | with_reducible refine wpAny_loadPart_at hC ?_ | (with_reducible refine wpAny_isSubtype_exc hC ?_;rw [hcB]) | wp_step)
 exact Vj hh hne hx hxd hx2 he rfl (by simp) hE
theorem HK (Fn:ExcBaseFacts Bn newId inN bmN)(hBn:bmB.contains (.type Bn)=true)(F:ExcBaseFacts B nid initId bmB) {mN:Str->Option Value}{cx:Str}{x:Addr}{np cpos pos:Pos}{args:List Expr} {fI:Addr}{oI:Obj}
  (hbase:bm.contains (.type "BaseException")=true) (hh:A.handled=some (.ref x)) (hplain:(backTo cpos (starEach args env)).any (·.1)=false) (hi:mN "__init__"=some (.ref fI)) (hfc:oI.cls=.type "function")
  (h:wpAny (model prog w) A (eval (.Name cx np) env) (fun f s₁=>f=.ref C/\wpAny (model prog w) A (evalArgs (.ref C) true (backTo cpos (starEach args env)) [])
   (fun a s₂=>a.kw=[]/\a.pos.length<=sizeLine/\s₂.heap.get? C=some (excClassObj nm q C N bs bm hdct sn sub ab col dd k0 k1 k2 k3 k5 newId)/\s₂.heap.Ns N mN/\OwnTail s₂.heap bmB bm/\s₂.heap.get? fI=some oI /\
    ∀ h' e,Heap.MadeExcOf s₂.heap h' e (.ref C) a.pos->wpAny (model prog w) (A.under (.builtin "type.__call__" ⟨.ref C :: a.pos,[]⟩)) (call (.ref fI) (.ref e :: a.pos)) (fun r s'=>r=.none/\x ≠ e /\
     s'.heap.get? C=some (excClassObj nm q C N bs bm hdct sn sub ab col dd k0 k1 k2 k3 k5 newId)/\(∃ t dx,s'.heap.get? e=some { cls:=.ref C,data:=.fields #[.ref t,.none,.none,.none,.bool false,.none],dict:=dx }) /\
     (∃ ox vx,s'.heap.get? x=some ox/\ox.data=.fields vx/\vx[2]?=some .none)/\E (.ref e) { s' with heap:=s'.heap.update e (Obj.mapFields (·.setIfInBounds 2 (.ref x))) }) E { s₂ with heap:=h' }) E s₁) E s) :
  wpAny (model prog w) A (exec (.Raise (some (.Call (.Name cx np) args [] cpos)) none pos) env) Q E s:=by
 rw [arm_exec_Raise]
 refine wpAny_bind (wpAny_standAt (Ko (C:=C) (nm:=nm) (q:=q) (N:=N) (bs:=bs) (bm:=bm) (hdct:=hdct) (sn:=sn) (sub:=sub) (ab:=ab) (col:=col) (dd:=dd) (k0:=k0) (k1:=k1) (k2:=k2) (k3:=k3) (k5:=k5) (newId:=newId) hbase hh (wpAny_bind (wpAny_mono (wpAny_Call_ofName (wpAny_mono h (fun f s₁ h₁=>?_) fun _ _ x=>x)) (fun v s₃ h₃=>wpAny_bind (wpAny_standAt (wpAny_pure h₃))) fun _ _ x=>x))))
 obtain ⟨rfl,h₁⟩:=h₁
 unfold callWith
 refine wpAny_bind (wpAny_holding (wpAny_mono h₁ (fun a s₂ h₂=>wpAny_bind (wpAny_standAt ?_)) fun _ _ x=>x))
 obtain ⟨apos,akw⟩:=a
 obtain ⟨hkw,hlen,hC,hn,T,hf,h₂⟩:=h₂
 obtain rfl:akw=[]:=hkw
 obtain ⟨hp,g,d,tk,os⟩:=s₂
 simp only [hplain]
 refine wpAny_bind (wpAny_keeperOf_exc hC ?_)
 refine wpAny_bind (X1 (hrest:=hlen) Fn hBn F T hC hn hi hf hfc fun h' e hm=>wpAny_mono (h₂ h' e hm) (fun r s' hr=>⟨hr.1,wpAny_bind (wpAny_holding (wpAny_point (wpAny_pure ?_)))⟩) fun _ _ x=>x)
 obtain ⟨_,hne,hC',⟨t,dx,he⟩,⟨ox,vx,hx,hxd,hx2⟩,hE⟩:=hr
 exact ⟨e,t,dx,ox,vx,rfl,hne,hC',he,hx,hxd,hx2,hE⟩
end
end PySem
namespace L2
open PySem PySem.Spec PyProof.Rows
theorem xY {h h' base:Heap}(k:∀ b o,h.get? b=some o->(∀ vs,o.data ≠ .fields vs)->∃ o',h'.get? b=some o'/\∀ vs,o'.data ≠ .fields vs):∀ {l:List Env},h.FunFrames base l->h'.FunFrames base l
 | [],_=>trivial
 | _ :: _,⟨hk,⟨L,o,hf,hn,ho,hd⟩,hr⟩=>let ⟨o',e,d⟩:=k L o ho hd;⟨hk,⟨L,o',hf,hn,e,d⟩,xY k hr⟩
section
variable {M:Model}{A:Around}{E:Value->Shared->Prop}{s:Shared}
variable {base:Heap} {cls a0 fl:Value}
theorem Yf {l:List Env}{e L:Addr} {Q:Unit->Shared->Prop}(hkb:base.StaysIn s.heap)(hl:s.heap.FunFrames base l)(ht:s.heap.TracedAtW base e cls a0 fl)
  (h:∀ h',base.StaysIn h'->h'.FunFrames base l->h'.TracedAtW base e cls a0 (rawInt L)->(∀ b o,s.heap.get? b=some o->(∀ vs,o.data ≠ .fields vs)->h'.get? b=some o)->h'.get? e=s.heap.get? e->Q () { s with heap:=h' }) :
  wpAny M A (setFlight (.ref e) (some L)) Q E s:=by
 obtain ⟨oe,vs,T,oT,ts,he,hcls,hd,h1,hnT,hTe,hT,hdT,h3⟩:=ht
 have hsz:3<ts.size:=(Array.getElem?_eq_some_iff.mp h3).1
 have other:∀ b,b ≠ T->(s.heap.update T (Obj.mapFields (·.setIfInBounds 3 ((some L:Option Addr).elim Value.none fun f=>rawInt f)))).get? b=s.heap.get? b:=fun b hb=>Heap.get?_update_other _ _ (Ne.symm hb)
 have noR:∀ b o,s.heap.get? b=some o->(∀ vs,o.data ≠ .fields vs)->b ≠ T:=fun b o hb hnf q=>by
  rw [q,hT] at hb;injection hb with hb;subst hb;exact hnf ts hdT
 unfold setFlight
 refine wpAny_bind (wpAny_field he hd h1 ?_)
 rw [if_pos (show (Value.ref T != Value.none)=true from by simp)]
 refine wpAny_setField hT hdT hsz (h _ (fun b o hbo=>(other b fun q=>by rw [q,hnT] at hbo;cases hbo).trans (hkb b o hbo)) (hl.of_keeps fun b o hb hnf=>⟨o,(other b (noR b o hb hnf)).trans hb,rfl⟩) ?_ (fun b o hb hnf=>(other b (noR b o hb hnf)).trans hb) (other e (Ne.symm hTe)))
 exact ⟨oe,vs,T,_,_,(other e (Ne.symm hTe)).trans he,hcls,hd,h1,hnT,hTe,Heap.get?_update_self _ hT (Obj.isFreed_of_fields (Obj.data_mapFields hdT _)),Obj.data_mapFields hdT _,by simp [hsz]⟩
theorem yk {e:Addr} {Q:Value->Shared->Prop}(ht:s.heap.TracedAtW base e cls a0 fl)(h:∀ T,Q (.ref T) s):wpAny M A (field (.ref e) 1) Q E s:=by
 obtain ⟨oe,vs,T,oT,ts,he,hcls,hd,h1,_⟩:=ht
 exact wpAny_field he hd h1 (h T)
end
section
variable {X:Cx}{E:XK}{pins:List (Addr × Obj)}{σ:St}{H:Hp}{s:Shared}
theorem VZ (I:Inv X pins σ H s)(hex:X.ex=[]){x:Addr}{s':Shared}(hx0:X.s₀.heap.get? x=none)(hx:H x=none)(ho:s'.os=s.os)(hg:s'.gens=s.gens)(st:(jl X s x).StaysIn s'.heap)
  (us:∀ b o,b ≠ X.env.locals->s.heap.get? b=some o->(∀ vs,o.data ≠ .fields vs)->∃ sl,s'.heap.get? b=some { o with slots:=sl }) (hs:X.stack=X.env :: X.outer):xQ X.prog X.w X.outer X.H₀ X.s₀ (jl X s x) H s':=by
 have nx:∀ b,b ∉ X.ex:=fun b=>by rw [hex];simp
 have hid:∀ b o o',X.s₀.heap.get? b=some o->b ∉ frs X.outer->s.heap.get? b=some o'->(jl X s x).get? b=some o':=fun b o o' e hb e1=>PySem.W.hideAll_get _ e1 fun z=>by
  rcases List.mem_cons.mp z with rfl | z
  ·rw [hx0] at e;cases e
  ·exact I.notStk e hb z
 refine ⟨ho.trans I.os,by rw [hg];exact I.bare,st,fun b o e hb=>?_,fun b o e hb=>?_,I.ok.frf,fun b o e n=>I.base.free b o e n (nx b),I.base.tups,I.base.frzs,I.base.tbls,K2 I hx⟩
 ·obtain ⟨o1,e1⟩:=I.base.there b o e (nx b)
  refine ⟨o1,hid b o o1 e hb e1,fun n=>?_⟩
  have:=I.base.keep b o e n hb (nx b)
  rw [e1] at this;cases this;rfl
 ·obtain ⟨sl,e1⟩:=I.base.slot b o e (I.ok.frf b hb) hb (nx b)
  obtain ⟨_,o2,e2,nf⟩:=I.stack.mem (yL hs hb)
  rw [e1] at e2;cases e2
  obtain ⟨sl2,e3⟩:=us b _ (I.ltS e) e1 nf
  exact ⟨sl2,e3⟩
theorem JT (D:DX X E)(I:Inv X pins σ H s){x x1 C:Addr}{d:Option Addr}{oe:Obj}{vs:Array Value}{a0:Value}{h1:Heap}{n:Str}{hpos:Pos}(hl:X.env.kindOf n=some .local)
  (k:∀ b o,b ≠ x1->s.heap.get? b=some o->h1.get? b=some o) (kx:∀ o,s.heap.get? x1=some o->∃ vs,o.data=.fields vs) (he:h1.get? x1=some oe) (hc:oe.cls=.ref C) (hd:oe.dict=d) (hf:oe.data=.fields vs) (hv1:vs[1]?=some .none) (hv0:vs[0]?=some a0)
  (hx0:X.s₀.heap.get? x1=none) (hx:H x1=none) (two:Two d H) (q:E (.ref C) d H) :
  AsSuiteRaised (model X.prog X.w) (X.A.mark (some (.ref x))) X.env n hpos (notedBy (model X.prog X.w) (X.A.mark (some (.ref x))) X.env (cameBackBy (model X.prog X.w) X.A X.env X.xe)) (.ref x1) { s with heap:=h1 }:=by
 have hs:=D.stk
 have hp:(X.env.scope.kind == .class || (X.env.scope.kind == .module && X.env.locals != X.env.globals))=false:=by rw [I.ok.kind];rfl
 have st1:(jl X s x1).StaysIn h1:=fun b o e=>k b o (fun z=>by rw [z,jl,PySem.W.hideAll_none _ (List.mem_cons_self)] at e;cases e) (PySem.W.of_hideAll _ e)
 have us1:s.heap.UpToSlots h1:=fun b o e nf=>by
  by_cases c:b=x1
  ·rw [c] at e
   obtain ⟨vs,z⟩:=kx o e
   exact absurd z (nf vs)
  ·exact ⟨o.slots,k b o c e⟩
 have fr0:s.heap.FunFrames (jl X s x1) (X.env :: X.outer):=by
  have:=I.stack
  rw [hs] at this
  exact PySem.W.funFrames_hide this fun env he b hb=>List.mem_cons_of_mem _ (by rw [hs];exact List.mem_filterMap.mpr ⟨env,he,hb⟩)
 have fr1:h1.FunFrames (jl X s x1) (X.env :: X.outer):=fr0.of_keeps fun b o e nf=>by
  obtain ⟨sl,z⟩:=us1 b o e nf
  exact ⟨_,z,rfl⟩
 have xn:(jl X s x1).get? x1=none:=PySem.W.hideAll_none _ List.mem_cons_self
 have ln:(jl X s x1).get? X.env.locals=none:=PySem.W.hideAll_none _ (List.mem_cons_of_mem _ (by rw [hs];exact List.mem_filterMap.mpr ⟨X.env,List.mem_cons_self,D.fr⟩))
 have hfr:(X.A.mark (some (.ref x))).frames=some (X.env :: X.outer):=by rw [<- hs];exact I.ok.frames
 have hfr':X.A.frames=some (X.env :: X.outer):=hfr
 have note1:wpAny (model X.prog X.w) (X.A.mark (some (.ref x))) (noteFrame (.ref x1) X.env) (fun _ s2=>∃ h',s2={ s with heap:=h' }/\Heap.NotedW (jl X s x1) (X.env :: X.outer) x1 oe.cls a0 (rawInt X.env.locals) h1 h') (fun _ _=>False) { s with heap:=h1 }:=by
  unfold noteFrame
  simp only [D.fr]
  refine wpAny_bind (wpAny_field he hf hv1 ?_)
  rw [if_neg (by decide)]
  exact wpAny_entryW hfr fr1 D.fr he st1 xn hf (Array.getElem?_eq_some_iff.mp hv1).1 hv0 fun h' hN=>⟨h',rfl,hN⟩
 refine wpAny_mono ((ZV (.ref x1) X.env).any note1) (fun _ s2 h2=>?_) fun _ _ z=>z.elim
 obtain ⟨⟨h2,rfl,l1,l2,l3,l4⟩,sd⟩:=h2
 obtain ⟨o2,ho2,hd2,_⟩:=sd x1 oe he
 obtain ⟨m,⟨ol,es,ep,hol,hdl,rl⟩,_⟩:=id I.loc
 have lx:X.env.locals ≠ x1:=fun z=>by
  obtain ⟨vs,q⟩:=kx ol (z ▸ hol)
  rw [hdl] at q;cases q
 obtain ⟨sl,hol2⟩:=l4 _ ol (k _ ol lx hol) (fun vs q=>by rw [hdl] at q;cases q)
 refine wpAny_nameGoes_keeps hl ⟨_,es,ep,hol2,hdl,rl⟩ hp fun h3 v hn3 sb3=>?_
 have k3:∀ b,b ≠ X.env.locals->h3.get? b=h2.get? b:=fun b hb=>sb3.2 b hb
 have st3:(jl X s x1).StaysIn h3:=fun b o e=>(k3 b (fun z=>by rw [z,ln] at e;cases e)).trans (l1 b o e)
 have fr3:h3.FunFrames (jl X s x1) (X.env :: X.outer):=xY (fun b o e nf=>by
  by_cases c:b=X.env.locals
  ·obtain ⟨o',_,_,ho',hd',_⟩:=hn3
   exact ⟨o',c ▸ ho',fun vs q=>by rw [hd'] at q;cases q⟩
  ·exact ⟨o,(k3 b c).trans e,nf⟩) l2
 have tr3:h3.TracedAtW (jl X s x1) x1 oe.cls a0 (rawInt X.env.locals):=by
  obtain ⟨oe',vs',T,oT,ts,g1,g2,g3,g4,g5,g6,g7,g8,g9⟩:=l3
  have lT:T ≠ X.env.locals:=fun z=>by
   rw [z,hol2] at g7;cases g7
   have g8:ol.data=.fields ts:=g8
   rw [hdl] at g8;cases g8
  exact ⟨oe',vs',T,oT,ts,(k3 _ (Ne.symm lx)).trans g1,g2,g3,g4,g5,g6,(k3 _ lT).trans g7,g8,g9⟩
 have us3:∀ b o,b ≠ X.env.locals->s.heap.get? b=some o->(∀ vs,o.data ≠ .fields vs)->∃ sl,h3.get? b=some { o with slots:=sl }:=fun b o hb e nf=>by
  obtain ⟨sl,e1⟩:=us1 b o e nf
  obtain ⟨sl2,e2⟩:=l4 b _ e1 nf
  exact ⟨sl2,(k3 b hb).trans e2⟩
 have ho3:h3.get? x1=some o2:=(k3 _ (Ne.symm lx)).trans ho2
 have hd3:o2.dict=d:=hd2.trans hd
 clear note1 sd l1 l2 l3 l4 hn3
 unfold PySem.passOn
 refine wpAny_bind (yk (s:=⟨h3,_,_,_,_⟩) tr3 fun T=>?_)
 rw [if_neg (show ¬ (Value.ref T == Value.none)=true from by simp)]
 rw [D.fr]
 refine wpAny_bind ?_
 refine Yf (s:=⟨h3,_,_,_,_⟩) st3 fr3 tr3 fun h4 st4 fr4 tr4 us4 e4=>wpAny_throw ?_
 have us4':∀ b o,b ≠ X.env.locals->s.heap.get? b=some o->(∀ vs,o.data ≠ .fields vs)->∃ sl,h4.get? b=some { o with slots:=sl }:=fun b o hb e nf=>by
  obtain ⟨sl,e1⟩:=us3 b o hb e nf
  exact ⟨sl,us4 b _ e1 nf⟩
 have ho4:h4.get? x1=some o2:=e4.trans ho3
 unfold notedBy
 refine wpAny_noteFrame_againW D.fr tr4 ?_
 unfold cameBackBy
 refine wpAny_bind (yk (s:=⟨h4,_,_,_,_⟩) tr4 fun T=>?_)
 rw [if_neg (show ¬ (Value.ref T == Value.none)=true from by simp)]
 rw [D.fr]
 refine Yf (s:=⟨h4,_,_,_,_⟩) st4 fr4 tr4 fun h5 st5 fr5 tr5 us5 e5=>?_
 have us5':∀ b o,b ≠ X.env.locals->s.heap.get? b=some o->(∀ vs,o.data ≠ .fields vs)->∃ sl,h5.get? b=some { o with slots:=sl }:=fun b o hb e nf=>by
  obtain ⟨sl,e1⟩:=us4' b o hb e nf
  exact ⟨sl,us5 b _ e1 nf⟩
 have ho5:h5.get? x1=some o2:=e5.trans ho4
 rw [D.xe]
 unfold leaving
 refine wpAny_bind (wpAny_noteFrame_againW D.fr tr5 ?_)
 refine wpAny_mono ((xy (.ref x1) none).any (wpAny_landsW (s:=⟨h5,_,_,_,_⟩) (E:=fun _ _=>False) (Q:=fun _ s6=>∃ h6,s6=⟨h6,_,_,_,_⟩/\Heap.FlyingW (jl X s x1) (X.env :: X.outer) x1 oe.cls a0 h6/\h5.UpToSlots h6) ⟨st5,xn,fr5,tr5⟩ fun h6 f6 u6=>⟨h6,rfl,f6,u6⟩)) (fun _ s6 h6=>?_) fun _ _ z=>z.elim
 obtain ⟨⟨h6,rfl,f6,u6⟩,sd6⟩:=h6
 obtain ⟨o6,ho6,hd6,_⟩:=sd6 x1 o2 ho5
 rw [hc] at f6
 refine ⟨x1,C,d,H,rfl,⟨⟨jl X s x1,a0,VZ I D.ex (s':=⟨h6,_,_,_,_⟩) hx0 hx rfl rfl f6.1 (fun b o hb e nf=>?_) hs,f6.1,xn,f6.2.2.1.2.2,f6.2.2.2⟩,o6,ho6,hd6.trans hd3,.inr two⟩,q⟩
 obtain ⟨sl,e1⟩:=us5' b o hb e nf
 obtain ⟨sl2,e2⟩:=u6 b _ e1 nf
 exact ⟨sl2,e2⟩
end
open PySem.W (Looks InstAt findIn findObj subIn mroIn clsIn takerIn hasDictIn)
structure yV (k:Nat)(A:Around):Prop where
 gd:A.guards=some []
 dp:A.depth+3 * k+5<recursionLimit
 un:A.units+16 * k+200<cLine
theorem qc.h {k:Nat}{A:Around}(r:qc k A)(h:Option Value):yV k (A.mark h):=⟨r.gd,r.dp,r.un⟩
variable {j k:Nat} {A:Around}
theorem yV.mono (r:yV k A)(h:j<=k):yV j A:=⟨r.gd,by have:=r.dp;omega,by have:=r.un;omega⟩
theorem yV.make (r:yV (k+1) A)(C:Addr)(us:List Value)(kw:List (Str × Value)):yV k (A.under (.builtin "type.__call__" ⟨.ref C :: us,kw⟩)):=
 ⟨(yN).trans r.gd,by have:=r.dp;rw [vJ];omega,by have:=r.un;rw [vP];omega⟩
noncomputable def FnH (P:Program)(w:World)(K:PySem.W.Frag)(mg:Str->Option Value)(base:Heap)(k:Nat)(f:Addr)(fd:FuncData)(ps:List Str)(sp:Sp):Prop:=
 ∀ (A:Around) (x:Addr) (outer:List Env) (s:Shared) (H:Hp) (args:Args) (us:List Value) (vs:List V) (Q:VK) (E:XK),A.handled=some (.ref x)->yV k A->ZP P w K mg base A outer s H->BindsTo s fd args (ps.zip us)->zB vs us->sp vs H Q E ->
  codeAny (model P w) A (.call (.ref f) args) (CR CX0 outer P w H s Q E) s
variable {P:Program} {w:World} {K:PySem.W.Frag} {mg:Str->Option Value} {base:Heap} {f:Addr} {fd:FuncData} {ps:List Str}
theorem FnH.mono {sp:Sp}(F:FnH P w K mg base j f fd ps sp)(h:j<=k):FnH P w K mg base k f fd ps sp:=
 fun A x outer s H args us vs Q E hh hr=>F A x outer s H args us vs Q E hh (hr.mono h)
theorem Hw {P:Program}{w:World}{K:PySem.W.Frag}{mg:Str->Option Value}{base:Heap}{k:Nat}{f:Addr}{name qual:Str}{params:Arguments}{body:List Stmt}{scope:Scope}{dV kV doc pm cdv ct oc:Value}{an od:Option Addr}
  {osl:Array (Option Value)} {N ps:List Str} {sp:Sp} (lk:K.lookup f=some ⟨oc,od,.func (PySem.W.fnOf name qual params body scope dV kV doc pm an cdv ct),osl⟩) (hcd:PySem.W.codeIn K cdv qual=true) (S:zt N ps scope)
  (len:∀ vs H Q E,sp vs H Q E->vs.length=ps.length)
  (hbody:∀ (A:Around) (outer:List Env) (s:Shared) (H:Hp) (vs:List V) (Q:VK) (E:XK) (x:Addr),sp vs H Q E ->
   ∃ t,PSs ((jB CX0 P w K mg base N qual scope f cdv A outer s H E).inside x) body t/\t { nx:=fun _ H'=>Q .non H',rt:=Q } (qB N vs) H) :
  FnH P w K mg base k f (PySem.W.fnOf name qual params body scope dV kV doc pm an cdv ct) ps sp:=by
 intro A x outer s H args us vs Q E hh hr e0 hb r hsp
 have hl:=len _ _ _ _ hsp
 obtain ⟨h0,dp,fr,gd,un⟩:=A
 obtain rfl:h0=some (.ref x):=hh
 have KX:K.In s.heap:=e0.mod.kin.keeps fun b o e=>(e0.bs b o e).1
 have lim:s.heap.NoLimit:=e0.mod.nolimit.keeps fun b o e=>(e0.bs b o e).1
 have hkind:∀ y ∈ ps.zip us,scope.names.lookup y.1=some .local \/ (scope.names.lookup y.1=some .cell/\((cellsFrom (s.heap.objs.size+1) scope.names []).lookup y.1).isSome=true):=fun ⟨n,v⟩ hy=>by
  rcases S.par n (List.of_mem_zip hy).1 with q | q
  ·exact .inl q
  ·exact .inr ⟨q,PySem.W.cellsFrom_some _ _ _ (.inl q)⟩
 have hdp:dp<recursionLimit:=by have:dp+3 * k+5<recursionLimit:=hr.dp;omega
 refine codeAny_call_function hdp (KX _ _ lk) rfl S.co S.gen rfl (PySem.W.codeRec_of KX hcd) (hb _ _ _ _ ?_)
 refine wpAny_newFunctionEnv_cells S.kind hkind fun env he s1 xx=>?_
 subst he
 refine ⟨lim.keeps xx.toInCall.keep,codeAny_func ?_⟩
 obtain ⟨t,ht,hq⟩:=hbody ⟨none,dp,fr,gd,un⟩ outer s H vs Q E x hsp
 have e0':ZP P w K mg base ⟨none,dp,fr,gd,un⟩ outer s H:=⟨e0.frames,e0.mod,e0.bs,e0.bsz,e0.funs,e0.frf,e0.hok,e0.bare⟩
 have I:Inv ((jB CX0 P w K mg base N qual scope f cdv ⟨none,dp,fr,gd,un⟩ outer s H E).inside x) [] (qB N vs) H s1:=(Zg S rfl e0' hl r xx).inside x
 refine wpAny_mono (ht [] s1 (qB N vs) H _ I hq) (fun fl s' hs=>?_) fun e s' hs=>hs.elim
 have fin:∀ {σ':St} {H':Hp} {v:V} {u:Value},Inv ((jB CX0 P w K mg base N qual scope f cdv ⟨none,dp,fr,gd,un⟩ outer s H E).inside x) [] σ' H' s'->zz v u->Q v H'->CE outer P w H s Q u s':=
  fun {σ' H' v u} J rv q=>⟨v,H',J.os,J.bare,J.base,J.hok,rv,q⟩
 cases fl with
 | ret u=>
  obtain ⟨v,σ',H',J,rv,q⟩:=hs
  exact fin J rv q
 | next=>
  obtain ⟨σ',H',J,q⟩:=hs
  exact fin (v:=V.non) (u:=Value.none) J rfl q
 | brk=>
  obtain ⟨_,_,_,q⟩:=hs
  exact False.elim q
 | cont=>
  obtain ⟨_,_,_,q⟩:=hs
  exact False.elim q
noncomputable def ZN (P:Program)(w:World)(K:PySem.W.Frag)(mg:Str->Option Value)(base:Heap)(C:Addr)(k n:Nat)(fn:List V->List (Str × V)):Prop:=
 ∃ f fd ps,jm K C yy "ValueError.__new__" f=true/\FnH P w K mg base k f fd ps (spI C n fn)/\jr K fd ps []/\(∃ oI,K.lookup f=some oI/\oI.cls=.type "function")/\ps.length=n+1
variable {C:Addr} {n:Nat}
theorem ZN.mono {fn:List V->List (Str × V)}(m:ZN P w K mg base C j n fn)(h:j<=k):ZN P w K mg base C k n fn:=
 let ⟨f,fd,ps,q,F,r⟩:=m
 ⟨f,fd,ps,q,F.mono h,r⟩
variable {st:Stmt} {N:List Str}
theorem Eu {qual:Str} {fn:List V->List (Str × V)}(F:Fun K "__init__" qual st f fd)(S:zt N ps (zd st))
  (hb:∀ (kV doc pm:Value) (an:Option Addr) (cdv ct:Value) (us:List Value),us.length=ps.length->bindArgs (PySem.W.fnOf "__init__" qual (qj st) (zF st) (zd st) .none kV doc pm an cdv ct) ⟨us,[]⟩=pure (ps.zip us))
  (q:jm K C yy "ValueError.__new__" f=true) (hf:PySem.W.isFn K (.ref f)=true) (hl:ps.length=n+1)
  (hbody:∀ (cdv:Value) (A:Around) (outer:List Env) (s:Shared) (H:Hp) (E:XK) (x:Addr),∃ t,PSs ((jB CX0 P w K mg base N qual (zd st) f cdv A outer s H E).inside x) (zF st) t /\
   ∀ (a t0:Addr) (us:List V) (Q:VK),us.length=n->H a=some (jX a C t0 none)->(∀ dx,H dx=none->dx ≠ a->Q .non (upd (upd H a (jX a C t0 (some dx))) dx (XdE dx (fn us))))->t { nx:=fun _ H'=>Q .non H',rt:=Q } (qB N (.ref a :: us)) H):ZN P w K mg base C k n fn:=by
 have bd:=F.binds hb
 obtain ⟨oc,od,kV,doc,pm,an,cdv,ct,osl,rfl,lk,hcd⟩:=F.ex
 have hfc:∃ oI,K.lookup f=some oI/\oI.cls=.type "function":=by
  refine ⟨_,lk,?_⟩
  have hf':=beq_iff_eq.mp hf
  have hf':Option.map (fun x:Obj=>x.cls) (K.lookup f)=some (.type "function"):=hf'
  rw [lk] at hf'
  exact Option.some.inj hf'
 refine ⟨f,_,ps,q,Hw lk hcd S (fun vs H Q E ⟨a,t,us,e,l,_⟩=>by rw [e,List.length_cons,l,hl]) fun A outer s H vs Q E x ⟨a,t0,us,e,l,ha,hq⟩=>?_,bd,hfc,hl⟩
 obtain ⟨t,h1,h2⟩:=hbody cdv A outer s H E x
 subst e
 exact ⟨t,h1,h2 a t0 us Q l ha hq⟩
open PySem.W (Looks InstAt findIn findObj subIn mroIn clsIn takerIn hasDictIn)
noncomputable def Z2 (a C:Addr)(d:Option Addr):HO:=.ext fun h=>∃ o,h.get? a=some o/\o.cls=.ref C/\o.dict=d/\∃ vs,o.data=.fields vs/\vs[2]?=some .none
theorem Fq {H:Hp}{h:Heap}{a C:Addr}{d:Option Addr}{o:Obj}{vs:Array Value}(e:h.get? a=some o)(hc:o.cls=.ref C)(hd:o.dict=d)(hf:o.data=.fields vs)(h2:vs[2]?=some .none):zR P w H h a (Z2 a C d):=
 ⟨⟨o,e,hc,hd,vs,hf,h2⟩,⟨o,e⟩,fun _ _ ⟨o,e,r⟩ k=>⟨o,k o e,r⟩⟩
noncomputable def ehR (K:PySem.W.Frag)(i:Nat)(T C2:Addr)(n:Nat)(fn:List V->List (Str × V))(E:XK)(ta:TA):St->XK:=fun σ1 c d H1=>∃ C,c=.ref C/\PySem.W.exmOne K (.ref C) (.ref T)=some true/\¬ Two d H1 /\
 ∀ x,H1 x=none->ta (σ1.set i (some (.ref x))) (upd H1 x (Z2 x C d)) fun vs H2=>vs.length=n/\n<=1000/\H2 x=some (Z2 x C d)/\∀ dx,H2 dx=none->E (.ref C2) (some dx) (upd H2 dx (.xd (fn vs)))
noncomputable def Ws (K:PySem.W.Frag)(i:Nat)(T C2:Addr)(n:Nat)(fn:List V->List (Str × V))(E:XK)(tb:(St->XK)->TS)(ta:TA):TS:=fun D σ H=>tb (ehR K i T C2 n fn E ta) D σ H
section
variable {X:Cx}{E:XK}{body:List Stmt}{n tx cx:Str}{i k nn:Nat}{T C2:Addr}{np cp cpos rpos hpos pos:Pos}{tb:(St->XK)->TS}{ta:TA}{e1:Expr}{es:List Expr}{fn:List V->List (Str × V)}
theorem Fa (D:DX X E)(nd:X.N.Nodup)(hi:X.N[i]?=some n)(hl:X.env.kindOf n=some .local)(hg:Gl X tx)(hm:X.mg tx=some (.ref T))(m:ZN X.prog X.w X.K X.mg X.base C2 k nn fn)(hr:qc (k+1) X.A)(hgc:Gl X cx)(hmc:X.mg cx=some (.ref C2))
  (hf2:∀ vs,2<=(fn vs).length) (hb:∀ (pins:List (Addr × Obj)) (xe:Value->Shared->Prop) (Eh:St->XK),yM (CX1 X.prog X.w) (X.tried pins xe) Eh->PSs (X.tried pins xe) body (tb Eh)) (ha:∀ x,PA (X.inside x) (e1 :: es) ta)
  (hdb:(tx == ("__debug__":Str))=false:=by decide) (hdc:(cx == ("__debug__":Str))=false:=by decide) (he:starEach (e1 :: es) X.env=(false,eval e1 X.env) :: starEach es X.env:=by rfl) (hpl:(backTo cpos (starEach es X.env)).any (·.1)=false:=by rfl) :
  PS X (.Try body [.ExceptHandler (some (.Name tx np)) (some n) [.Raise (some (.Call (.Name cx cp) (e1 :: es) [] cpos)) none rpos] hpos] [] [] pos) (Ws X.K i T C2 nn fn E tb ta):=by
 intro pins s σ H De I h
 have hs:=D.stk
 have hf:=D.fr
 have hex:=D.ex
 refine wpAny_Try_except (wpAny_mono (hb pins (fun e s'=>∃ σ1 H1 s1,Inv X pins σ1 H1 s1/\CX1 X.prog X.w X.stack H1 s1 (ehR X.K i T C2 nn fn E ta σ1) e s') (ehR X.K i T C2 nn fn E ta) (fun pins' σ1 H1 s1 e s' I1 c=>⟨σ1,H1,s1,I1.untried,c⟩) [] s σ H De (I.tried _) h) (fun f s1 q=>?_) fun e s1 q=>?_)
 ·have q:=q.untried
  cases f with
  | next=>exact wpAny_execs_nil q
  | brk=>exact q
  | cont=>exact q
  | ret u=>exact q
 ·obtain ⟨σ1,H1,s1',I1,x,C,d,H',rfl,⟨⟨B,a0,a,fl⟩,hd⟩,C',eC,hx,ntw,q⟩:=q
  cases eC
  refine yU.noted I.ok hs hf ⟨a,fl,hd⟩ fun s3 h3=>?_
  obtain ⟨hx0,I3⟩:=Air.here I1 hs hf hex h3.1 h3.2.1 h3.2.2
  refine wpAny_handleBy_cons (codeAny_handlers_test (jo (I3.inside x) hg hm ?_ hdb)) (by intro z;cases z)
  obtain ⟨oe,vs,he1,hc,_⟩:=h3.2.1.first
  have LT:PySem.W.Looks (model X.prog X.w) s3.heap (typeOf (.ref x)) (.ref C):=hc ▸ (PySem.W.Looks.ld he1).andThen .now
  refine (PySem.W.exm_one I3.kIn LT hx).here ?_
  refine codeAny_handlers_suite_as (h3.lands fun s4 h4=>?_)
  obtain ⟨_,I4⟩:=Air.here I1 hs hf hex h4.1 h4.2.1 h4.2.2
  have I4:Inv X pins σ1 (upd H' x (Z2 x C d)) s4:=by
   obtain ⟨o,ho,hdo,h2o⟩:=h4.2.2
   obtain ⟨o',vs',ho',hc',hd',_⟩:=h4.2.1.first
   rw [ho] at ho';cases ho'
   have h2o:fl2 o=some .none:=h2o.resolve_right ntw
   have h2v:vs'[2]?=some .none:=by unfold fl2 at h2o;rw [hd'] at h2o;exact h2o
   have:=I4.write (x:=x) (e:=x) (h':=s4.heap) (t':=s4.toks) (o:=Z2 x C d) (by rw [zk];exact True.intro) (.inl rfl) (fun _ _ _ z=>z) ⟨o,ho⟩ (Fq ho hc' hdo hd' h2v)
   rw [xj] at this
   exact this
  refine je I4 nd hi (Or.inl hl) (show zz (.ref x) (.ref x) from rfl) (fun s5 I5=>?_) (.inr hl)
  obtain ⟨fI,fd,ps,qI,F,hbI,⟨oI,lk,hfc⟩,hps⟩:=m
  obtain ⟨bm,N,nm,qn,bs,hdct,sn,sub,ab,col,dd,k0,k1,k2,k3,k5,mN,hC,hN,hii,TT⟩:=Jf I.ok.mod.kin qI
  refine wpAny_execs_cons ?_
  refine HK (C:=C2) (nm:=nm) (q:=qn) (N:=N) (bs:=bs) (bm:=bm) (hdct:=hdct) (sn:=sn) (sub:=sub) (ab:=ab) (col:=col) (dd:=dd) (k0:=k0) (k1:=k1) (k2:=k2) (k3:=k3) (k5:=k5)
   PySem.F.excBase_ValueError (by decide) PySem.F.excBase_ValueError (mN:=mN) (TT.hasType PySem.F.excBase_ValueError.hasBase) rfl (by rw [he];show (false || (backTo cpos (starEach es X.env)).any (·.1))=false;rw [hpl];rfl) hii hfc (jo (I5.inside x) hgc hmc ⟨rfl,?_⟩ hdc)
  have this:=ha x cpos pins s5 _ _ _ (I5.inside x) (q x hx0)
  have this:wpAny (model X.prog X.w) (X.A.mark (some (.ref x))) (spliced (backTo cpos (starEach (e1 :: es) X.env))) _ (fun _ _=>False) s5:=this
  rw [he] at this ⊢
  refine Calls.evalArgs_plain (wpAny_mono this (fun us s2 h2=>?_) fun _ _ y=>y.elim)
  obtain ⟨vs2,H2,I6,r,hlv,hnn,hxq,q1⟩:=h2
  have hlu:us.length=nn:=by rw [<- r.length];exact hlv
  refine ⟨rfl,by rw [hlu,sizeLine_eq];omega,I6.bk _ _ hC,hN.keeps I6.bk,TT.keeps I6.bk,I6.kIn _ _ lk,fun h' x1 hx1=>?_⟩
  obtain ⟨t1,ho,_,_⟩:=hx1.there
  have nx:s2.heap.get? x1=none:=hx1.new
  have hx10:X.s₀.heap.get? x1=none:=by
   cases z:X.s₀.heap.get? x1 with
   | none=>rfl
   | some o=>
    obtain ⟨o',e'⟩:=I6.base.there x1 o z (by show x1 ∉ X.ex;rw [D.ex];simp)
    rw [nx] at e';cases e'
  have hx11:H2 x1=none:=by
   cases z:H2 x1 with
   | none=>rfl
   | some o=>
    obtain ⟨u,e'⟩:=(I6.hok x1 o z).here
    rw [nx] at e';cases e'
  have J2:Inv (X.inside x) pins _ H2 { s2 with heap:=h' }:=I6.kept (t':=s2.toks) hx1.keeps
  have J3:Inv (X.inside x) pins _ (upd H2 x1 (jX x1 C2 t1 none)) { s2 with heap:=h' }:=J2.track hx11 hx10 (fun z=>by
    obtain ⟨mm,⟨o,_,_,e',_⟩,_⟩:=I6.loc
    rw [<- z,nx] at e';cases e') (fun y c e' z=>by
    obtain ⟨v,o,e2,_⟩:=I6.cell y c e'
    rw [z,nx] at e2;cases e2) (fun p hp z=>by
    have:=(I6.pin p hp).1
    rw [z,nx] at this;cases this) (ZC ho)
  have r2:zB (V.ref x1 :: vs2) (Value.ref x1 :: us):=.cons rfl r
  have hl2:(Value.ref x1 :: us ++ []).length=ps.length:=by rw [List.append_nil,List.length_cons,hlu,hps]
  have b1:=hbI { s2 with heap:=h' } (Value.ref x1 :: us) J3.kIn hl2
  rw [List.append_nil] at b1
  refine wpAny_call (codeAny_mono (F _ x X.stack _ _ ⟨Value.ref x1 :: us,[]⟩ (Value.ref x1 :: us) (V.ref x1 :: vs2) (fun v H3=>v=.non/\∃ dx,H2 dx=none/\dx ≠ x1/\H3=upd (upd H2 x1 (jX x1 C2 t1 (some dx))) dx (XdE dx (fn vs2))) E rfl ((hr.h _).make C2 us []) (J3.env0.make C2 us []) b1 r2 ⟨x1,t1,vs2,rfl,hlv,zk,fun dx hd hne=>⟨rfl,dx,?_,hne,by rw [xj]⟩⟩) fun r s' hq'=>?_)
  ·rw [zh hne] at hd;exact hd
  cases r with
  | error e=>exact False.elim hq'
  | ok fl=>
   cases fl with
   | ret u=>
    obtain ⟨v,H3,J4,rv,ev,dx,d1,d2,eH⟩:=J3.after hq'
    subst ev eH
    have hcl:=J4.bk _ _ hC
    have hexo:s'.heap.get? x1=some (Yy C2 t1 (some dx)):=by
     have:=J4.hok x1 (jX x1 C2 t1 (some dx)) (by rw [zh (Ne.symm d2),zk])
     exact this.1
    have xx1:x ≠ x1:=fun z=>by rw [z,hx11] at hxq;cases hxq
    have xdx:x ≠ dx:=fun z=>by rw [z,d1] at hxq;cases hxq
    have hxo:∃ ox vx,s'.heap.get? x=some ox/\ox.data=.fields vx/\vx[2]?=some .none:=by
     obtain ⟨⟨o,g1,_,_,vx,g2,g3⟩,_⟩:=J4.hok x (Z2 x C d) (by rw [zh xdx,zh xx1];exact hxq)
     exact ⟨o,vx,g1,g2,g3⟩
    refine ⟨rv,xx1,hcl,⟨t1,some dx,hexo⟩,hxo,?_⟩
    have J5:=J4.drop (x:=x1) (by rw [zh (Ne.symm d2),zk];exact True.intro) hx10
    have eH:(fun b=>if b=x1 then none else upd (upd H2 x1 (jX x1 C2 t1 (some dx))) dx (XdE dx (fn vs2)) b)=upd H2 dx (XdE dx (fn vs2)):=by
     funext b
     by_cases c:b=x1
     ·rw [if_pos c,c,zh (Ne.symm d2)];exact hx11.symm
     ·rw [if_neg c]
      by_cases c2:b=dx
      ·rw [c2,zk,zk]
      ·rw [zh c2,zh c,zh c2]
    rw [eH] at J5
    obtain ⟨⟨mA,hn1,hr1,_⟩,⟨od,hod⟩,_⟩:=J5.hok dx (XdE dx (fn vs2)) zk
    have J6:=J5.write (x:=dx) (e:=dx) (h':=s'.heap) (t':=s'.toks) (o:=.xd (fn vs2)) (by rw [zk];exact True.intro) (.inl rfl) (fun _ _ _ z=>z) ⟨od,hod⟩ ⟨mA,hn1,hr1⟩
    rw [xj] at J6
    have J7:Inv X pins _ (upd H2 dx (.xd (fn vs2))) s':=J6.outside I.ok
    have hup:=Heap.get?_update_self (Obj.mapFields (·.setIfInBounds 2 (.ref x))) hexo rfl
    exact JT D J7 hl (fun b o hb e'=>(Heap.get?_update_other _ _ (Ne.symm hb)).trans e') (fun o z=>by rw [hexo] at z;cases z;exact ⟨_,rfl⟩) hup rfl rfl rfl rfl rfl hx10 (by rw [zh (Ne.symm d2)];exact hx11) ⟨dx,_,rfl,zk,hf2 _⟩ (q1 dx d1)
   | next=>exact False.elim hq'
   | brk=>exact False.elim hq'
   | cont=>exact False.elim hq'
end
open PySem.W (Looks InstAt findIn findObj subIn mroIn clsIn takerIn hasDictIn)
noncomputable def Kr (K:PySem.W.Frag)(ta:TE)(f:Str):TE:=fun σ H Q=>ta σ H fun x H1=>∃ a C dx fs v,x=.ref a/\H1 a=some (Z2 a C (some dx))/\H1 dx=some (.xd fs)/\wx K C/\hasDictIn K C=true/\findIn K (.ref C) f=some none/\fs.lookup f=some v/\Q v H1
section
variable {X:Cx}{e:Expr}{ta:TE}{f:Str}{pos:Pos}{K:PySem.W.Frag}
theorem BI (he:PE X e ta)(hb:attributeBase e f X.env (eval e X.env)=eval e X.env):PE X (.Attribute e f pos) (Kr X.K ta f):=by
 intro pins s σ H Q I h
 refine ZL hb (thn (he pins s σ H _ I h) fun u s1 ⟨x,H1,I1,rx,a,C,dx,fs,v,ex,ea,ed,c,hh,hn,l,q⟩=>?_)
 subst ex
 obtain rfl:u=Value.ref a:=rx
 obtain ⟨⟨oa,g1,g2,g3,vs,g4,_⟩,_,_⟩:=I1.hok a _ ea
 obtain ⟨mA,hns,hr⟩:=I1.hok dx _ ed
 obtain ⟨od,ho,hl⟩:=yt hns
 have hv:=hr f
 rw [l] at hv
 cases z:mA f with
 | none=>rw [z] at hv;exact hv.elim
 | some u'=>
  rw [z] at hv
  have J:InstAt s1.heap a oa C (some od):=⟨g1,g2,by unfold PySem.W.notCls;rw [g4],by rw [g3];exact ho⟩
  refine WD I1.kIn J c.bx c.ga c.gt (yT hh hn (by rw [hl,z])) (yD hv) ⟨v,H1,I1.tok _,hv,q⟩
theorem Yq (h:X.K=K)(he:PE X e ta)(hb:attributeBase e f X.env (eval e X.env)=eval e X.env):PE X (.Attribute e f pos) (Kr K ta f):=h ▸ BI he hb
end
noncomputable def Gd (K:PySem.W.Frag)(i j:Nat)(T C2:Addr)(f:Str)(fn:List V->List (Str × V))(EA:ASt->AXK)(ab:(ASt->AXK)->AS):AS:=fun B D ρ M=>
 ab (fun ρ1 C fs M1=>PySem.W.exmOne K (.ref C) (.ref T)=some true/\∃ (a:Int) (v:V),ρ1[j]?=some (some (.d (.int a)))/\fs=[(f,v)]/\wx K C/\hasDictIn K C=true/\findIn K (.ref C) f=some none/\i ≠ j/\i<ρ1.length/\EA ρ1 C2 (fn [.int a,v]) M1) B D ρ M
section
variable {HX:Hp}{OX:Own}{MX:MH}{K:PySem.W.Frag}{i j:Nat}{T C2:Addr}{f:Str}{fn:List V->List (Str × V)}{E:XK}{EA:ASt->AXK}{tb:(St->XK)->TS}{ab:(ASt->AXK)->AS}
theorem YE (hE:EXs HX OX MX (fun _=>E) EA)(hb:∀ (H0:Hp) (O0:Own) (M0:MH) (E:St->XK) (EA:ASt->AXK),EXs H0 O0 M0 E EA->jY H0 O0 M0 (tb E) (ab EA)) :
  jY HX OX MX (Ws K i T C2 2 fn E tb (Q2 (wu j) (Q2 (Kr K (wu i) f) Vp))) (Gd K i j T C2 f fn EA ab):=
 ⟨fun {H0 O0 M0 D D' σ H O ρ M} kx w0 w e x q Dd=>(hb H0 O0 M0 _ _ ⟨fun σ1 ρ1 C fs M1 H1 O1 d q1 k1 w1 e1 xd=>by
  obtain ⟨hx,a,v,hj,rfl,xc,hh,hn,ij,il,q2⟩:=q1
  obtain ⟨dx,rfl,h1,h2,h3⟩:∃ dx,d=some dx/\H1 dx=some (.xd [(f,v)])/\O1 dx/\M1 dx=none:=by
   rcases xd with ⟨_,z⟩ | xd
   ·cases z
   ·exact xd
  refine ⟨C,rfl,hx,fun ⟨dx',fs',z1,z2,z3⟩=>?_,fun y hy=>?_⟩
  ·cases z1
   rw [h1] at z2;cases z2
   simp at z3
  obtain ⟨u,g1,g2⟩:=e1.get j _ hj
  obtain rfl:=zM g2
  have ydx:dx ≠ y:=fun z=>by rw [z,hy] at h1;cases h1
  refine ⟨.int a,by rw [List.getElem?_set_ne ij];exact g1,?_⟩
  refine ⟨.ref y,by rw [List.getElem?_set_self (by rw [e1.len];exact il)],y,C,dx,[(f,v)],v,rfl,zk,by rw [zh ydx];exact h1,xc,hh,hn,by simp,?_⟩
  refine ⟨rfl,by decide,zk,fun dx2 hd2=>?_⟩
  have k2:=qR w1 hy (Z2 y C (some dx))
  have w2:=kF w1 hy (Z2 y C (some dx)) (fun _ z=>nomatch z)
  have k3:=qR w2 hd2 (.xd (fn [.int a,v]))
  have w3:=kF w2 hd2 (.xd (fn [.int a,v])) (fun _ z=>nomatch z)
  exact hE.go _ _ C2 (fn [.int a,v]) M1 _ _ (some dx2) q2 (((kx.trans k1).trans k2).trans k3) w3 (e1.ext (k2.trans k3)) (.inr ⟨dx2,rfl,zk,.inl rfl,(w2.fresh hd2).2⟩)⟩).go .refl w0 w e x q Dd⟩
end
section
variable {X:Cx}{K:PySem.W.Frag}{E:XK}{body:List Stmt}{n tx cx:Str}{i k nn:Nat}{T C2:Addr}{np cp cpos rpos hpos pos:Pos}{tb:(St->XK)->TS}{ta:TA}{e1:Expr}{es:List Expr}{fn:List V->List (Str × V)}
theorem Ad (h:X.K=K)(D:DX X E)(nd:X.N.Nodup)(hi:X.N[i]?=some n)(hl:X.env.kindOf n=some .local)(hg:Gl X tx)(hm:X.mg tx=some (.ref T))(m:ZN X.prog X.w X.K X.mg X.base C2 k nn fn)(hr:qc (k+1) X.A)(hgc:Gl X cx)(hmc:X.mg cx=some (.ref C2))
  (hf2:∀ vs,2<=(fn vs).length) (hb:∀ (pins:List (Addr × Obj)) (xe:Value->Shared->Prop) (Eh:St->XK),yM (CX1 X.prog X.w) (X.tried pins xe) Eh->PSs (X.tried pins xe) body (tb Eh)) (ha:∀ x,PA (X.inside x) (e1 :: es) ta)
  (hdb:(tx == ("__debug__":Str))=false:=by decide) (hdc:(cx == ("__debug__":Str))=false:=by decide) (he:starEach (e1 :: es) X.env=(false,eval e1 X.env) :: starEach es X.env:=by rfl) (hpl:(backTo cpos (starEach es X.env)).any (·.1)=false:=by rfl) :
  PS X (.Try body [.ExceptHandler (some (.Name tx np)) (some n) [.Raise (some (.Call (.Name cx cp) (e1 :: es) [] cpos)) none rpos] hpos] [] [] pos) (Ws K i T C2 nn fn E tb ta):=h ▸ Fa D nd hi hl hg hm m hr hgc hmc hf2 hb ha hdb hdc he hpl
end
noncomputable abbrev V7:=List AV->MH->(List AV->MH->Prop)->Prop
noncomputable def Fv (a:V7):Sp:=fun vs H Q _=>∃ xs M O Q',Wf H O M/\zj H O M vs xs/\a xs M Q'/\∀ ys M' us H' O' p,Q' ys M'->Ext H O M H' O' M'->Wf H' O' M'->H' p=some (.tup us)->zj H' O' M' us ys->Q (.ref p) H'
noncomputable def Gs (sp:V7)(b:AA)(n:Nat)(ag:AGs):AS:=fun _ D ρ M=>b ρ M fun xs M1=>sp xs M1 fun ys M2=>ys.length=n/\ag ys ρ M2 fun ρ2 M3=>D.nx ρ2 M3
variable {u:TA} {b:AA} {gs:TGs} {ag:AGs}
theorem Vz {sp:V7} (h:jc u b)(hg:wW gs ag):jh (Zv (Zl (Fv sp) [] E0 u) (Vs K n gs)) (Gs sp b n ag):=⟨fun _ w e x q E=>h.go w e q fun xs M1 vs H1 O1 q1 k1 w1 r1=>
 ⟨xs,M1,O1,_,w1,by rw [List.append_nil];exact r1,q1,fun ys M2 us H2 O2 p q2 k2 w2 hp r2=>
  ⟨p,us,rfl,SqT.of hp,r2.1.trans q2.1,hg.go w2 (e.ext (k1.trans k2)) r2 q2.2 fun σ3 H3 O3 ρ3 M3 q3 k3 w3 e3=>E.nx _ _ _ _ _ w3 e3 (((x.trans k1).trans k2).trans k3) q3⟩⟩⟩
noncomputable def FZ (b:AA)(n:Nat)(ag:AGs):AS:=fun _ D ρ M=>b ρ M fun xs M1=>xs.length=n/\n<=sizeLine/\ag xs ρ M1 fun ρ2 M3=>D.nx ρ2 M3
theorem Wl (h:jc u b)(hg:wW gs ag):jh (Zv (Vd u) (Vs K n gs)) (FZ b n ag):=⟨fun _ w e x q E=>h.go w e q fun xs M1 vs H1 O1 q1 k1 w1 r1=>
 ⟨by rw [r1.1,q1.1];exact q1.2.1,fun p hp=>
  have k2:=qC w1 hp (.tup vs)
  ⟨p,vs,rfl,SqT.of zk,r1.1.trans q1.1,hg.go (xi w1 hp _) (e.ext (k1.trans k2)) (r1.ext k2) q1.2.2 fun σ3 H3 O3 ρ3 M3 q3 k3 w3 e3=>E.nx _ _ _ _ _ w3 e3 (((x.trans k1).trans k2).trans k3) q3⟩⟩⟩
noncomputable def XR:V->List V->Hp->VK->Prop:=fun x vs H Q=>∃ l xs v j,x=.ref l/\vs=[v]/\H l=some (.lst xs)/\xs.all kg=true/\kg v=true/\j<xs.length/\(∀ y,xs[j]?=some y->eqV y v=true)/\(∀ m y,m<j->xs[m]?=some y->eqV y v=false)/\Q (.int (j:Nat)) H
section
variable {X:Cx}
theorem Y3:MtR X "list.index" XR:=by
 intro pins s σ H x vs v us Q I rx rv h
 obtain ⟨l,xs,i,j,rfl,rfl,hH,hf,hfi,hj,hji,hm,q⟩:=h
 cases rx
 obtain ⟨u,rfl,ru⟩:=rv.one
 obtain ⟨z,its,n,r,hl,e⟩:=I.lstM hH
 have hlen:=r.length
 have hsz:sizeLine<2 ^ 62:=by rw [sizeLine_eq];decide
 have item:∀ m (hmm:m<its.length),∃ y,xs[m]?=some y/\eqU i its[m]=eqV y i:=fun m hmm=>by
  have h1:xs[m]?=some xs[m]:=List.getElem?_eq_getElem (by omega)
  obtain ⟨w,hw,rw1⟩:=r.get h1
  have hw2:=(List.getElem?_eq_some_iff.mp hw).2
  exact ⟨_,h1,by rw [hw2];exact JA rw1 (List.all_eq_true.mp hf _ (List.getElem_mem _))⟩
 refine call_meets F.slot_list_index ⟨_,e,rfl⟩ F.entry_list_index (F.args_list_index_2 _ _) (SeqAt.list_indexAt l its.toArray n none _ u (eqU i) j (by rw [List.size_toArray];omega) (by omega) ?_ ?_) ⟨e,?_,?_⟩
 ·obtain ⟨y,y1,y2⟩:=item j (by omega)
  rw [List.getElem_toArray,y2]
  exact hji y y1
 ·intro m hmm hmj
  obtain ⟨y,y1,y2⟩:=item m (by rw [List.size_toArray] at hmm;exact hmm)
  rw [List.getElem_toArray,y2]
  exact hm m y hmj y1
 ·intro y hy
  exact jP (x:=i) ru hfi r hf y (by simpa using hy)
 ·exact ⟨.int (j:Nat),H,I.kept (t':=s.toks+1) fun b o e=>e,⟨_,rfl⟩,q⟩
end
noncomputable def K4:AV->List AV->MH->AK->Prop:=fun x xs M Q=>∃ l vs d v j,qm x M=some l/\xs=[.d d]/\Qm l=some vs/\flD d=some v/\j<vs.length/\(∀ y,vs[j]?=some y->eqV y v=true)/\(∀ m y,m<j->vs[m]?=some y->eqV y v=false)/\Q (.d (.int (j:Nat))) M
theorem Jx:WF XR K4:=⟨fun w r1 r2 ⟨l,vs,d,v,j,hl,e,hs,hv,hj,h1,h2,q⟩ k=>by
 subst e
 obtain ⟨u,rfl,ru⟩:=jy r2
 obtain ⟨a,xs,rfl,g1,p1⟩:=qw w r1 hl
 obtain ⟨rfl,f1⟩:=Kb ru hv
 obtain ⟨rfl,f2⟩:=Z3 p1 hs
 exact ⟨a,xs,u,j,rfl,rfl,g1,f2,f1,hj,h1,h2,k _ _ _ _ _ q .refl w .int⟩⟩
structure Ki where
 nx:ASt->MH->Prop
 rt:List AV->MH->Prop
noncomputable abbrev AST:=MH->Ki->ASt->MH->Prop
structure wF (t:TS)(a:AST):Prop where
 go:∀ {H0:Hp} {O0:Own} {M0:MH} {Q:VK} {D':Ki} {σ:St} {H:Hp} {O:Own} {ρ:ASt} {M:MH} {nx:St->Hp->Prop},Wf H0 O0 M0->Wf H O M->Er H O M σ ρ->Ext H0 O0 M0 H O M->a M0 D' ρ M ->
  (∀ ys M' us H' O' p,D'.rt ys M'->Ext H0 O0 M0 H' O' M'->Wf H' O' M'->H' p=some (.tup us)->zj H' O' M' us ys->Q (.ref p) H')->t { nx:=nx,rt:=Q } σ H
noncomputable def Xd (a:AS)(b:AST):AST:=fun B D ρ M=>a B { nx:=fun ρ' M'=>b B D ρ' M',rt:=fun _ _=>False } ρ M
noncomputable def Gi (b:AA):AST:=fun _ D ρ M=>b ρ M fun ys M'=>ys.length<=sizeLine/\D.rt ys M'
variable {a:AS}
theorem Yr {t u:TS} {b:AST}(h1:jh t a)(h2:wF u b):wF (YW t u) (Xd a b):=
 ⟨fun w0 w e x q k=>h1.go w0 w e x q ⟨fun σ H O ρ M w e x q=>h2.go w0 w e x q k,fun _ _ _ _ _ _ _ _ z=>z.elim,fun _ _ _ _ _ _ _ _ z=>z.elim,fun _ _ _ _ _ _ _ _ z=>z.elim⟩⟩
theorem Yn (h:jc u b):wF (E9 (Vd u)) (Gi b):=
 ⟨fun w0 w e x q k=>h.go w e q fun ys M1 us H1 O1 q1 k1 w1 r1=>⟨by rw [r1.1];exact q1.1,fun p hp=>
  have k2:=qC w1 hp (.tup us)
  k ys M1 us _ O1 p q1.2 ((x.trans k1).trans k2) (xi w1 hp _) zk (r1.ext k2)⟩⟩
theorem QI {b:AST}{B:MH}{D:Ki}{ρ:ASt}{M:MH}(h:∀ r,r=b->Xd a r B D ρ M):Xd a b B D ρ M:=h b rfl
theorem dfT {x:Str} {a:V7}(at_:At K mg x st)(S:zt N ps (zd st))
  (hb:∀ (kV doc pm:Value) (an:Option Addr) (cdv ct:Value) (us:List Value),us.length=ps.length->bindArgs (PySem.W.fnOf x x (qj st) (zF st) (zd st) .none kV doc pm an cdv ct) ⟨us,[]⟩=pure (ps.zip us))
  (len:∀ xs M Q,a xs M Q->xs.length=ps.length)
  (hbody:∀ (f:Addr) (cdv:Value) (A:Around) (outer:List Env) (s:Shared) (H:Hp) (E:XK),qc k (A.deeper (envOfC x (zd st) s.heap.objs.size f cdv)) ->
   ∃ t,PSs (jB CX0 P w K mg base N x (zd st) f cdv A outer s H E).nox (zF st) t/\∃ b,wF t b/\∀ xs M Q,a xs M Q->b M { nx:=fun _ _=>False,rt:=Q } (zO N xs) M):Df P w K mg base x ps (k+1) (Fv a):=by
 refine wj at_ S hb (fun vs H Q E h=>?_) (fun f cdv A outer s H vs Q E hr h=>?_)
 ·obtain ⟨xs,M,O,Q',w,r,q,_⟩:=h
  rw [r.1];exact len xs M Q' q
 ·obtain ⟨t,ht,b,hb,hq⟩:=hbody f cdv A outer s H E hr
  refine ⟨t,ht,?_⟩
  obtain ⟨xs,M,O,Q',w,r,q,kk⟩:=h
  exact hb.go w w (kP r N) .refl (hq xs M Q' q) kk
end L2
namespace L2
open PySem PyProof.Rows
noncomputable def kn (p:Keyed):Int:=numOf p.1
noncomputable def LEr (rk:Keyed->Int)(p q:Keyed):Prop:=kn p<kn q \/ (kn p=kn q/\rk p<=rk q)
section
variable {rk:Keyed->Int}{p q r:Keyed}
end
noncomputable def IsI (p:Keyed):Prop:=∃ n t,p.1=Value.int n t
section
variable {prog:Program}{w:World}{A:Around}{E:Value->Shared->Prop}{s:Shared}
end
noncomputable def byd (left:Bool)(key x:Keyed):Bool:=if left then decide (kn x<kn key) else !decide (kn key<kn x)
structure Cut (left:Bool)(key:Keyed)(f:Nat->Keyed)(n k:Nat):Prop where
 le:k<=n
 lo:∀ i,i<k->byd left key (f i)=true
 hi:∀ i,k<=i->i<n->byd left key (f i)=false
section
variable {prog:Program}{w:World}{A:Around}{E:Value->Shared->Prop}{s:Shared}
end
end L2
namespace L2
open PySem PyProof.Rows
section
variable {rk:Keyed->Int}
structure MLo (rk:Keyed->Int)(X Y:List Keyed)(a b:Nat)(o:List Keyed):Prop where
 la:a<=X.length
 lb:b<=Y.length
 perm:o.Perm (X.take a ++ Y.take b)
 pw:o.Pairwise (LEr rk)
 lx:∀ x ∈ o,∀ y ∈ X.drop a,LEr rk x y
 ly:∀ x ∈ o,∀ y ∈ Y.drop b,LEr rk x y
structure L8 (rk:Keyed->Int)(X Y:List Keyed):Prop where
 px:X.Pairwise (LEr rk)
 py:Y.Pairwise (LEr rk)
 bel:∀ x ∈ X,∀ y ∈ Y,rk x<=rk y
 ix:∀ x ∈ X,IsI x
 iy:∀ y ∈ Y,IsI y
variable {X Y o:List Keyed}{a b:Nat}
end
section
variable {prog:Program}{w:World}{A:Around}{E:Value->Shared->Prop}{s:Shared}{rk:Keyed->Int}
end
end L2
namespace L2
open PySem PyProof.Rows
section
variable {prog:Program}{w:World}{A:Around}{E:Value->Shared->Prop}{s:Shared}{rk:Keyed->Int}
end
end L2
namespace L2
open PySem PyProof.Rows
section
variable {rk:Keyed->Int}{X Y o:List Keyed}{a b:Nat}
structure MHi (rk:Keyed->Int)(X Y:List Keyed)(a b:Nat)(o:List Keyed):Prop where
 la:a<=X.length
 lb:b<=Y.length
 perm:o.Perm (X.drop a ++ Y.drop b)
 pw:o.Pairwise fun p q=>LEr rk q p
 lx:∀ x ∈ o,∀ y ∈ X.take a,LEr rk y x
 ly:∀ x ∈ o,∀ y ∈ Y.take b,LEr rk y x
end
section
variable {prog:Program}{w:World}{A:Around}{E:Value->Shared->Prop}{s:Shared}{rk:Keyed->Int}
end
end L2
namespace L2
open PySem PyProof.Rows
noncomputable def gK (xs:Array Keyed)(i:Nat):Keyed:=xs[i]?.getD (.none,.none)
structure Sg (xs ys:Array Keyed)(lo hi:Nat):Prop where
 perm:ys.Perm xs
 out:∀ i,i<lo \/ hi<=i->ys[i]?=xs[i]?
 inn:∀ i,lo<=i->i<hi->∃ j,lo<=j/\j<hi/\ys[i]?=xs[j]?
structure SoB (a₀:Array Keyed)(st:SortSt):Prop where
 perm:(arrOf st).Perm a₀
 kind:kindOf st=oneType'
 failed:failedOf st=none
section
variable {prog:Program}{w:World}{A:Around}{E:Value->Shared->Prop}{s:Shared}{a₀:Array Keyed}{rk:Keyed->Int}
end
end L2
namespace L2
open PySem PyProof.Rows
section
variable {prog:Program}{w:World}{A:Around}{E:Value->Shared->Prop}{s:Shared}{a₀:Array Keyed}{rk:Keyed->Int}
noncomputable def Fal (rk:Keyed->Int)(xs:Array Keyed)(lo hi:Nat):Prop:=∀ i j,lo<=i->i<=j->j<hi->LEr rk (gK xs j) (gK xs i)
structure Dsc (rk:Keyed->Int)(xs:Array Keyed)(lo T hi:Nat):Prop where
 l:lo<=T
 t:T<hi
 a:Fal rk xs lo T
 b:∀ i,lo<=i->i<T->kn (gK xs (hi - 1))<kn (gK xs i)
 c:∀ i j,T<=i->i<=j->j<hi->kn (gK xs i)=kn (gK xs (hi - 1))/\rk (gK xs i)<=rk (gK xs j)
end
end L2
namespace L2
open PySem PyProof.Rows
section
variable {prog:Program}{w:World}{A:Around}{E:Value->Shared->Prop}{s:Shared}{rk:Keyed->Int}
end
end L2
namespace L2
open PySem PyProof.Rows
noncomputable def Pnd:Nat->List (Nat × Nat × Nat)->List (List Keyed)->Prop
 | _,[],[]=>True
 | o,p :: ps,r :: rs=>p.1=o/\p.2.1=r.length/\Pnd (o+r.length) ps rs
 | _,_,_=>False
section
variable {prog:Program}{w:World}{A:Around}{E:Value->Shared->Prop}{s:Shared}{a₀:Array Keyed}{rk:Keyed->Int}
structure Rns (rk:Keyed->Int)(a₀:Array Keyed)(rs:List (List Keyed))(qG:List Keyed)(st:SortSt):Prop where
 b:SoB a₀ st
 e:(arrOf st).toList=rs.flatten ++ qG
 ne:∀ r ∈ rs,0<r.length
 so:∀ r ∈ rs,r.Pairwise (LEr rk)
 bel:rs.Pairwise fun X Y=>∀ x ∈ X,∀ y ∈ Y,rk x<=rk y
 be:∀ x ∈ rs.flatten,∀ y ∈ qG,rk x<=rk y
 pn:Pnd 0 (pendingOf st).toList rs
end
end L2
namespace L2
open PySem PyProof.Rows
section
variable {prog:Program}{w:World}{A:Around}{E:Value->Shared->Prop}{s:Shared}{a₀:Array Keyed}{rk:Keyed->Int}
end
end L2
namespace L2
open PySem PyProof.Rows
section
variable {prog:Program}{w:World}{A:Around}{E:Value->Shared->Prop}{s:Shared}{a₀:Array Keyed}{rk:Keyed->Int}
end
end L2
namespace L2
open PySem PyProof.Rows
section
variable {prog:Program}{w:World}{A:Around}{E:Value->Shared->Prop}{s:Shared}
end
section
variable {prog:Program}{w:World}{A:Around}{E:Value->Shared->Prop}{s:Shared}
end
section
variable {X:Cx}
end
section
variable {X:Cx}
variable {o e:Expr}{es:List Expr}{to:TE}{t:TA}{name:Str}{apos cpos:Pos}{T1 id1 T2 id2:String}{r1 r2:V->List V->Hp->VK->Prop}{K:PySem.W.Frag}
end
section
variable {prog:Program}{w:World}{A:Around}{R:Result->Shared->Prop}{s:Shared}
end
section
variable {C:Cx}{kx vx tg iter:Expr}{ifs:List Expr}{gens:List Comprehension}{scope:Scope}{pos:Pos}{d:Nat}{D:Addr}{g:TG}{tt:TT}{te:TE}{tr:TR}
end
section
variable {X:Cx}{ts:List Nat}{scope:Scope}{tg iter kx vx:Expr}{ifs:List Expr}{qG:List Comprehension}{wi:TI}{g:TG}{tt:TT}{tr:Addr->TR}{pos:Pos}
end
section
variable {P:Program}{w:World}{A:Around}{E:Value->Shared->Prop}{s:Shared}{n l1 l2 l3:Nat}{k:Nat}{xs ys zs:Array Value}{x y u a b c:Value}{Q:Option Value->Shared->Prop}
end
section
variable {X:Cx}{es:List Expr}{kt:Nat}{tp:Pos}
end
section
variable {X:Cx}{o i:Expr}{pos:Pos}{td ty:TE}
end
section
variable {X:Cx}{es:List Expr}{kt:Nat}{tp gp:Pos}{body:List Stmt}{pos:Pos}{tb:TS}{g:Str}{a:Addr}{is:List Nat}
end
noncomputable def VO (v:V):Option AV->Prop
 | none=>True
 | some (.d (.int i))=>v=.int i
 | some _=>False
inductive VOs:List V->List (Option AV)->Prop
 | nil:VOs [] []
 | cons {v:V} {x:Option AV} {vs:List V} {xs:List (Option AV)}:VO v x->VOs vs xs->VOs (v :: vs) (x :: xs)
inductive Bh (b:List V->TS):List (List V)->List (List (Option AV) × AS)->Prop
 | nil:Bh b [] []
 | cons {vs:List V} {vss:List (List V)} {xs:List (Option AV)} {ab:AS} {r:List (List (Option AV) × AS)}:VOs vs xs->jh (b vs) ab->Bh b vss r->Bh b (vs :: vss) ((xs,ab) :: r)
noncomputable abbrev ATD:=ASt->MH->(ASt->MH->Prop)->Prop
structure L6 (tr:TR)(a:ATD):Prop where
 go:∀ {σ:St} {H:Hp} {O:Own} {ρ:ASt} {M:MH} {N:St->Hp->Prop} {N':ASt->MH->Prop},Wf H O M->Er H O M σ ρ->a ρ M N'->(∀ σ' H' O' ρ' M',N' ρ' M'->Ext H O M H' O' M'->Wf H' O' M'->Er H' O' M' σ' ρ'->N σ' H')->tr σ H N
section
variable {X:Cx}{ts:List Nat}{scope:Scope}{tg iter kx vx:Expr}{ifs:List Expr}{qG:List Comprehension}{wi:TI}{g:TG}{tt:TT}{tr:Addr->TR}{pos:Pos}
end
section
variable {X:Cx}{es:List Expr}{kt:Nat}{tp gp:Pos}{elt:Expr}{scope:Scope}{pos:Pos}{te:TE}{g:Str}{a:Addr}{is ts:List Nat}
end
inductive GQ:List (List V)->List (List (Option AV))->Prop
 | nil:GQ [] []
 | cons {vs:List V} {xs:List (Option AV)} {vss:List (List V)} {xss:List (List (Option AV))}:VOs vs xs->GQ vss xss->GQ (vs :: vss) (xs :: xss)
section
variable {X:Cx}{e hi st:Expr}{te:TE}{th ts:TO}{p2 pos:Pos}{K:PySem.W.Frag}
end
section
variable {prog:Program}{w:World}{K:Type}[DecidableEq K]{knd:KeyKind prog w K}{A:Around}{E:Value->Shared->Prop}{s:Shared}{a b:Addr}
end
inductive QB:List (TE × TE)->List (AE × AE)->Prop
 | nil:QB [] []
 | cons {tk tv:TE} {ak av:AE} {ts:List (TE × TE)} {as:List (AE × AE)}:zG tk ak->zG tv av->QB ts as->QB ((tk,tv) :: ts) ((ak,av) :: as)
noncomputable def Gp (t:TE):TE:=t
variable {X:Cx} {e:Expr} {t:TE}
theorem K9 (h:PE X e t):PE X e (Gp t):=h
noncomputable def Gj (b:AA):AE:=fun ρ M Q=>b ρ M fun xs M1=>xs.length<=sizeLine/\∃ l,xs=l.map tiA/\Q (.tp l) M1
variable {u:TA} {b:AA}
theorem Ba (h:jc u b):zG (Gp (Vd u)) (Gj b):=
 ⟨fun w e q k=>h.go w e q fun x M1 v H1 O1 q1 k1 w1 r1=>⟨by rw [r1.1];exact q1.1,fun p hp=>by
  obtain ⟨_,l,e1,q2⟩:=q1
  subst e1
  have r2:=r1.ext (qC w1 hp (.tup v))
  refine k _ _ _ _ _ q2 (k1.trans (qC w1 hp _)) (xi w1 hp _) ⟨p,v,rfl,(w1.fresh hp).1,zk,by have:=r2.1;rw [List.length_map] at this;exact this,fun i x d e1 e2=>?_⟩
  have:=r2.2 i x (tiA d) e1 (by rw [List.getElem?_map,e2];rfl)
  cases d <;> exact this⟩⟩
variable {p:Addr} {l:List AV} {ds:List Dat}
theorem BE {M0 M:MH}(f:Fr M0 M) (h0:M0 p=none)(h:M p=some (.lst l))(hp:pur l=some ds){m:List (Dat ⊕ Addr)}(hm:∀ r,Sum.inr r ∈ m->r=p):va M0 M (.tp m) (.tp m) (mup M0 p (.lst l)):=by
 obtain ⟨h1,h2,h3⟩:=ZM f h0 h hp
 exact ⟨h1,h2,.inl ⟨rfl,fun q z=>by rw [hm q z,zg];exact fun z=>nomatch z⟩⟩
inductive xH (M:MH):AV->Dat->Prop
 | d {x:Dat}:xH M (.d x) x
 | lst {p:Addr} {l:List AV} {ds:List Dat}:M p=some (.lst l)->l.length=ds.length->(∀ (i:Nat) a b,l[i]?=some a->ds[i]?=some b->xH M a b)->xH M (.ref p) (.lst ds)
 | tp {l:List (Dat ⊕ Addr)} {ds:List Dat}:l.length=ds.length->(∀ (i:Nat) a b,l[i]?=some a->ds[i]?=some b->xH M (tiA a) b)->xH M (.tp l) (.tup ds)
theorem xH.pure {M:MH} (h:M p=some (.lst l))(hp:pur l=some ds):xH M (.ref p) (.lst ds):=by
 rw [jL hp] at h
 refine .lst h (List.length_map _) fun i a b e1 e2=>?_
 rw [List.getElem?_map,e2] at e1
 cases e1;exact .d
theorem xH.rep {H:Hp}{O:Own}{M:MH}(w:Wf H O M){x:AV}{d:Dat}(h:xH M x d):∀ {v:V},zo H O M v x->Rep H (fun a=>O a/\M a=none) v d:=by
 induction h with
 | d=>exact fun r=>Rep.imp (fun a u h e=>⟨e,fun z=>h z.1⟩) r
 | @lst p l ds hm hl _ ih=>
  intro v r
  obtain ⟨xs,hx,rx⟩:=w.mo p _ hm
  rw [r.1]
  refine Rep.lst (fun z=>qZ hm z.2) hx (rx.1.trans hl) fun i x d e1 e2=>?_
  have hi:=(List.getElem?_eq_some_iff.mp e2).1
  have ha:l[i]?=some (l[i]'(by omega)):=List.getElem?_eq_getElem (by omega)
  exact ih i _ d ha e2 (rx.2 i x _ e1 ha)
 | @tp l ds hl _ ih=>
  intro v r
  obtain ⟨a,xs,rfl,o1,h1,l1,r1⟩:=r
  refine Rep.tup (fun z=>o1 z.1) h1 (l1.trans hl) fun i x d e1 e2=>?_
  have hi:=(List.getElem?_eq_some_iff.mp e2).1
  have ha:l[i]?=some (l[i]'(by omega)):=List.getElem?_eq_getElem (by omega)
  refine ih i _ d ha e2 ?_
  have:=r1 i x _ e1 ha
  revert this
  cases l[i]'(by omega) <;> exact fun z=>z
noncomputable def Gm (t:TE):TE:=t
theorem EJ (h:PE X e t):PE X e (Gm t):=h
noncomputable def Gn (sp:ASp)(b:AA):AE:=fun ρ M Q=>b ρ M fun xs M1=>∃ (ds:List Dat) (y:Bool),xs.length=ds.length/\(∀ (i:Nat) x d,xs[i]?=some x->ds[i]?=some d->xH M1 x d)/\sp (ds.map .d) (fun _=>none) (fun z _=>z=.d (.bl y))/\Q (.d (.bl y)) M1
theorem Bi {sp:ASp} (h:jc u b):zG (Gm (Zl (cSp sp) [] E0 u)) (Gn sp b):=
 ⟨fun w e q k=>h.go w e q fun xs M1 vs H1 O1 ⟨ds,y,hl,hd,hs,q1⟩ k1 w1 r1=>by
  refine ⟨ds.map .d,fun _=>none,fun a=>O1 a/\M1 a=none,_,⟨(fun a o e=>by cases e),(fun a h=>absurd rfl h),fun a h=>w1.al a h.1⟩,?_,hs,fun z M3 v3 H3 O3 q3 k3 w3 r3=>?_⟩
  ·rw [List.append_nil]
   refine ⟨by rw [List.length_map];exact r1.1.trans hl,fun i x d e1 e2=>?_⟩
   rw [List.getElem?_map] at e2
   obtain ⟨t,e3,rfl⟩:=Option.map_eq_some_iff.mp e2
   obtain ⟨a,ha⟩:∃ a,xs[i]?=some a:=⟨_,List.getElem?_eq_getElem (by rw [hl];exact (List.getElem?_eq_some_iff.mp e3).1)⟩
   exact (hd i a t ha e3).rep w1 (r1.2 i x a e1 ha)
  ·subst q3
   rw [kr r3]
   have mono:∀ a o,H1 a=some o->H3 a=some o:=fun a o ea=>by
    by_cases c:O1 a/\M1 a=none
    ·rw [(k3.prv a c rfl).1];exact ea
    ·exact (k3.fix a o c ea).1
   have ks:∀ a o,¬ O1 a->H1 a=some o->H3 a=some o/\¬ O1 a:=fun a o h e=>⟨mono a o e,h⟩
   have w':Wf H3 O1 M1:=⟨fun a o e=>by
    obtain ⟨u,eu,_⟩:=w1.al a (w1.own a (qZ e))
    exact qQ.imp ks ((mono a u eu).trans eu.symm) (fun dx x h1 _ h3 _=>⟨mono dx x h3,h1⟩) (w1.mo a o e),w1.own,fun a h=>by
    obtain ⟨o,eo,n⟩:=w1.al a h
    exact ⟨o,mono a o eo,n⟩⟩
   refine k _ _ _ _ _ q1 (k1.trans ⟨ks,fun a h e=>⟨(k3.prv a ⟨h,e⟩ rfl).1,h,e⟩,fun a h=>h⟩) w' .bl⟩
end L2
namespace Ot
open PySem PySem.Spec PyProof.Rows L2
noncomputable def top (i:Nat):Stmt:=PySem.Challenge.pw_ownturn_k55_orders_done.main.body.getD i (.Pass ⟨0,0,0,0⟩)
section
variable {P:Program}{w:World}{K:PySem.W.Frag}{mg:Str->Option Value}{base:Heap}{k:Nat}
local macro_rules | `(tactic| walk_at "rd")=>do
 let t:=("VI YW EV K5 tOp tUn rU wu tC tB Dw GX KN rI0 rI Zv Qo E9 Xt WQ Vs By GI HC tCB Q2 Vp FU Zl F0 JW Hi DG rEq G9 Vd tBM vk vp Xl Yv Jt JE wO Xj Hh Dv VD AZ ipI Yg YL tIf tOr Hv G6 Wu Ho Wj ZJ Af cxK BW iLT Gh ZD tSl V0 ZQ IY List.append_nil List.getElem?_cons_zero List.getElem?_cons_succ Option.some.injEq exists_eq_left' exists_eq_left V.int.injEq V.ref.injEq V.bl.injEq List.cons.injEq and_true true_and and_assoc decide_eq_true_eq Bool.not_eq_true' decide_eq_false_iff_not Bool.false_eq_true if_false if_true reduceIte exists_and_left exists_and_right List.set_cons_zero List.set_cons_succ List.nil_append List.cons_append".splitOn " ").toArray.map fun s=>(Lean.mkIdent s.toName:Lean.Ident)
 `(tactic| try simp only [$[$t:ident],*])
variable {H:Hp} {a b:Addr}
theorem xb {o:HO}(h':H b=none)(h:H a=some o):a ≠ b:=zl h h'
variable {H':Hp}
theorem Q0 {l:Addr}(h:H' l=none)(e:Kp [] H H'):H l=none:=e.free h
theorem JF {xs:List V}(h:SqL K H a xs)(e:Kp [] H H'):SqL K H' a xs:=by
 rcases h with (h | ⟨o,h⟩) | h
 ·exact .inl (.inl (e _ _ (by simp) h))
 ·exact .inl (.inr ⟨o,e _ _ (by simp) h⟩)
 ·exact .inr h
theorem hsl:100000<sizeLine:=by rw [sizeLine_eq];decide
theorem E7 {α:Type}(k:Nat)(v:α):(List.replicate k [v]).flatten=List.replicate k v:=by simp
variable {j:Int}
theorem kq (i:Int) (h:0<j):0<=i % j/\i % j<j:=⟨Int.emod_nonneg _ (by omega),Int.emod_lt_of_pos _ h⟩
variable {i:Int}
theorem Ic (h1:0<=i)(h2:i<18446744073709551616):WM i j:=.inl ⟨by omega,by omega⟩
theorem Dh (h1:0<=j)(h2:j<18446744073709551616):WM i j:=.inr ⟨by omega,by omega⟩
theorem b01 (c:Prop)[Decidable c]:0<=(if c then (1:Int) else 0):=by split <;> decide
theorem Dq (h1:0<j)(h2:j<1073741824):Ij i j:=⟨h1,h2⟩
local macro_rules | `(tactic| walk_at "ne")=>`(tactic| first | (with_reducible assumption) | exact Ne.symm (by with_reducible assumption) | exact xb (by with_reducible assumption) (by walk_at "hp") | exact Ne.symm (xb (by with_reducible assumption) (by walk_at "hp")))
local macro_rules | `(tactic| walk_at "hp")=>`(tactic| first | (with_reducible assumption) | (with_reducible exact zk) | ((with_reducible refine Eq.trans (zh ?ne) ?_);(case ne=>walk_at "ne");walk_at "hp"))
local macro_rules | `(tactic| walk_at "kp")=>`(tactic| first | (with_reducible assumption) | (with_reducible exact Kp.refl) | ((with_reducible refine Kp.trans ?_ (Kp.new _ ?h));(case h=>with_reducible assumption);walk_at "kp") | ((with_reducible refine Kp.trans ?_ (Kp.set _ ?h));(case h=>(simp;done));walk_at "kp"))
local macro_rules | `(tactic| walk_at "fr")=>`(tactic| first | (with_reducible assumption) | exact Q0 (by with_reducible assumption) (by walk_at "kp"))
local macro_rules | `(tactic| walk_at "sz")=>`(tactic| (simp only [List.length_cons,List.length_nil,List.length_map,List.length_append,List.length_replicate,List.length_take,List.length_drop,qi,E7,Nat.zero_add,Nat.one_mul];omega))
local macro_rules | `(tactic| walk_at "fact")=>`(tactic| first | (with_reducible assumption) | exact rfl | exact SqL.of (by walk_at "hp") | exact SqT.of (by walk_at "hp") | exact Or.inl (SqL.of (by walk_at "hp")) | exact Or.inr (SqT.of (by walk_at "hp")) | exact Or.inl (by with_reducible assumption) | exact JF (by with_reducible assumption) (by walk_at "kp") | exact Or.inl (JF (by with_reducible assumption) (by walk_at "kp")) | exact Exists.intro _ (SqL.of (by walk_at "hp")) | exact Exists.intro _ (JF (by with_reducible assumption) (by walk_at "kp")) | (walk_at "hp") | decide | omega | exact Ic (by omega) (by omega) | exact Dh (by omega) (by omega) | exact Dq (by omega) (by omega) | exact ⟨by omega,by omega⟩ | (walk_at "sz") | exact ⟨by decide,by decide,by decide⟩ | exact Dh (b01 _) (b01' _) | (walk_at "fr"))
local macro_rules | `(tactic| walk_at "x1")=>`(tactic| first
 | ((with_reducible refine Exists.intro ?w (And.intro ?h ?_));(case h=>walk_at "fact"))
 | ((with_reducible refine And.intro ?h ?_);(case h=>walk_at "fact"))
 | ((with_reducible refine Exists.intro ?w (Exists.intro ?w2 (And.intro ?h ?_)));(case h=>walk_at "fact")))
local macro_rules | `(tactic| walk_at "xs")=>`(tactic| repeat walk_at "x1")
local macro_rules | `(tactic| walk_at "sim1")=>do
 let a←("Yr Yn".splitOn " ").toArray.mapM fun s=>`(Lean.Parser.Tactic.tacticSeq| apply $(Lean.mkIdent s.toName))
 let b←("Bd W1 Ab BB Qi JZ YA Y5 Ae EE V2 Be BD WA Dj Xm Eb".splitOn " ").toArray.mapM fun s=>`(Lean.Parser.Tactic.tacticSeq| apply $(Lean.mkIdent s.toName))
 let c←("Dc DW G8 Ik Gw He GZ ER VT Y8 VQ DR Aj EU E8 Bc W4 EF Fs Fy Ak HM GE DL Wx Ec GF VF Yz Dk AX VW Fh WK Kv Kj Vv Jx WB Jj YS wI Ba Bi QB.cons QB.nil Vz Wl D8 Fe Dy Ey Wg Fj Dz V1 WN AW Vg As Aa Lj D6 Hl EC G7 Em G5 Ek Wo Dx GN YJ Bs Ah EM GH GD QQ B6 K1 KQ YO E4 Wc AN GM Y4 Iv ZG".splitOn " ").toArray.mapM fun s=>`(Lean.Parser.Tactic.tacticSeq| apply $(Lean.mkIdent s.toName))
 `(tactic| first | (with_reducible first $[| $a]*) | ((with_reducible apply YE Xm);intro HX_ OX_ MX_ E_ EA_ hE_) | (with_reducible first $[| $b]*) | ((with_reducible apply Fw);intro HX_ OX_ MX_ E_ EA_ hE_) | ((with_reducible apply sim_try0);intro HX_ OX_ MX_ E_ EA_ hE_) | (with_reducible assumption) | (with_reducible first $[| $c]*))
local macro_rules | `(tactic| walk_at "sim")=>`(tactic| repeat' walk_at "sim1")
local macro_rules | `(tactic| walk_at "ra")=>do
 let t:=("Gj Gn Xd Gi K4 Gs FZ Gd IE Br Gq wb Xx FW F8 F2 xC Jz II FL IM qh aC aOp aUn jt zP aCB Q6 aFz aOw HD VP aB wl D5 aOr Jc VB aIf Km jZ xU W7 YG yr kO X4 xT XI FH asL DB Lp FC Gv Ht aiS IC aiE HS xE Q3 aI0 aU YX aIx fOp Lf GJ Li Gf IH yu aIn QR bI2 FQ Wd fCB F6 wB VL FK V9 HY Ga B2 aBM Xn Xc AD Dr kJ VS G0 Ha Hb IR Lg IF IT Ll LC VR Va Option.map_some Bg Bk Vw WH AR Wq KL ZA Kx Gz BR KI ZI JP Hr Bp WS HN vF GO Ai Wt Ib ZW GB W3 BH Hc V6 Kg Qa V3 Ip A7 JS Z9 DM Yj zX jf EN XZ F1 HB HZ Ir Fu E5 D9 DZ EY EB DH qT QM qv Ky Kz xK kY A2 Bw Iu GA Ii Hf Hy id decide_true decide_false Bool.decide_eq_true not_true_eq_false not_false_eq_true ZZ List.getElem?_cons_zero List.getElem?_cons_succ Option.some.injEq exists_eq_left' exists_eq_left AV.d.injEq AV.ref.injEq Dat.int.injEq Dat.bl.injEq Dat.str.injEq Dat.lst.injEq Dat.tup.injEq Dat.ty.injEq List.cons.injEq and_true true_and and_assoc decide_eq_true_eq Bool.not_eq_true' decide_eq_false_iff_not Bool.false_eq_true if_false if_true reduceIte exists_and_left exists_and_right List.set_cons_zero List.set_cons_succ List.nil_append List.cons_append List.length_map List.map_cons List.map_nil Nat.zero_le Bool.not_true Bool.not_false Bool.true_eq_false eq_self List.length_cons List.length_nil".splitOn " ").toArray.map fun s=>(Lean.mkIdent s.toName:Lean.Ident)
 `(tactic| try simp only [$[$t:ident],*])
local macro_rules | `(tactic| walk_at "sk")=>`(tactic| (refine zi fun r9 hr9=>?_;walk_at "ra";refine ⟨_,rfl,_,rfl,by rw [qv];omega,?_⟩;rw [kY,if_neg (by decide +kernel)];subst hr9))
theorem Qr (ns:List Int)(lo hi:Option Int):wv (ns.map V.int) lo hi=List.map V.int ((ns.drop (HT.sIx ns.length 0 lo)).take (HT.sIx ns.length ns.length hi - HT.sIx ns.length 0 lo)):=by
 unfold wv
 rw [List.length_map,<- List.map_drop,<- List.map_take]
theorem ZH (cs:List Int)(j:Nat)(v:Int):(cs.map V.int).set j (.int v)=(cs.set j v).map V.int:=by rw [List.map_set]
variable {cs:List Int}
theorem yP {k:Int}(h0:0<=k)(h1:k<cs.length):ixN (cs.map V.int).length k=some k.toNat/\atI (cs.map V.int) k=some (.int (cs.getD k.toNat 0)):=by
 have hk:k.toNat<cs.length:=by omega
 have e1:ixN (cs.map V.int).length k=some k.toNat:=by unfold ixN;rw [List.length_map,if_pos h0,if_pos h1]
 refine ⟨e1,?_⟩
 unfold atI
 rw [e1]
 show (cs.map V.int)[k.toNat]?=_
 rw [List.getElem?_map,List.getD_eq_getElem?_getD,List.getElem?_eq_getElem hk];rfl
theorem Zu {ns:List Int}{i:Nat}{x:V}(h:(ns.map V.int)[i]?=some x):x=.int (ns.getD i 0)/\i<ns.length:=by
 rw [List.getElem?_map] at h
 cases e:ns[i]? with
 | none=>rw [e] at h;cases h
 | some v=>
  rw [e] at h
  cases h
  exact ⟨by rw [List.getD_eq_getElem?_getD,e];rfl,(List.getElem?_eq_some_iff.mp e).1⟩
noncomputable abbrev Ku:Stmt:=top 23
theorem XC:zt ["_law_box_here","_law_many","_law_once","_law_found"] ["_law_box_here","_law_many"] (zd Ku):=⟨rfl,rfl,rfl,by decide +kernel,rfl,by decide +kernel,by decide +kernel⟩
noncomputable def JI:Sp:=fun vs H Q _=>∃ (b:Addr) (many:Int) (N:Nat),vs=[.ref b,.int many]/\Bx H b N/\N<1000000000/\0<many/\many<1073741824/\∀ r H',Kp [b] H H'->Bx H' b (N+1)->0<=r->r<many->Q (.int r) H'
theorem Dn (a:At K mg "_law_take" Ku)(B:Blt mg):Df P w K mg base "_law_take" ["_law_box_here","_law_many"] 1 JI:=by
 refine wj (k:=0) a XC (fun _ _ _ _ _ _=>Pn2_ fun _ _=>rfl) (fun vs H Q E h=>?_) (fun f cdv A outer s H vs Q E hr h=>?_)
 ·obtain ⟨b,m,N,rfl,_⟩:=h;rfl
 obtain ⟨b,m,N,rfl,⟨x,y,z,hb,hx,hy,hy',hz,hz'⟩,hN,hm,hm',q⟩:=h
 have sc:=XC
 refine ⟨_,(zc (zH (zn F9 (zx qE (pv 0) ze (fun _ _=>rfl)) ze (zr _)) (zc (qy (zm Qt rfl B.divmod YC (za (zx qE (pv 0) ze (fun _ _=>rfl)) (za (pv 1) zb))) (qA (K:=K) 2 rfl rfl (zC (qO (pv 0) ze zI) (zC (zD (i:=3) sc.nd rfl (by first | exact Or.inl rfl | exact Or.inr rfl)) qD))))
  (zf (zA (pv 3)))) zv)
  (zc (qy (zJ ja (zx qE (pv 0) ze (fun _ _=>rfl)) ze) (qO (pv 0) ze zI))
  (zc (zN (i:=2) sc.nd rfl (by first | exact Or.inl rfl | exact Or.inr rfl) (zJ j4 (zJ kQ (zJ ja (zx qE (pv 0) ze (fun _ _=>rfl)) (zJ kQ ze (zx qE (pv 0) ze (fun _ _=>rfl)))) (zJ ja ze (zx qE (pv 0) ze (fun _ _=>rfl)))) ze))
  (zc (qy (zJ j4 (zJ ja (zJ kQ (pv 2) (zJ ja (zJ j4 (pv 2) ze) ze)) (zx qE (pv 0) ze (fun _ _=>rfl))) ze) (qO (pv 0) ze zI))
  (zf (zA (zJ j4 (zJ X7 (zJ j4 (zJ kQ (zx qE (pv 0) ze (fun _ _=>rfl)) (zJ ja (zJ j4 (zx qE (pv 0) ze (fun _ _=>rfl)) ze) ze)) ze) ze) (pv 1)))))))),?_⟩
 rw [show qB ["_law_box_here","_law_many","_law_once","_law_found"] [V.ref b,V.int m]=[some (.ref b),some (.int m),none,none] from rfl]
 walk_at "rd"
 walk_at "xs"
 refine IG (fun c=>?_) (fun c=>?_)
 ·walk_at "xs"
  refine fun p hp=>?_
  walk_at "xs"
  refine q _ _ ((Kp.new _ hp).trans (Kp.set _ (by simp))) ⟨_,_,_,zk,Int.ediv_nonneg hx (by omega),hy,hy',hz,by omega⟩ (kq x hm).1 (kq x hm).2
 ·walk_at "xs"
  refine q _ _ ((Kp.set _ (by simp)).trans (Kp.set _ (by simp))) ⟨_,_,_,zk,hx,?_,?_,?_,?_⟩ (kq _ hm).1 (kq _ hm).2
  ·exact (kq _ (by decide)).1
  ·exact Int.lt_trans (kq _ (by decide)).2 (by decide)
  ·omega
  ·omega
noncomputable abbrev BO:Stmt:=top 22
theorem Ag:zt ["_law_script","_law_k","_law_cell"] ["_law_script","_law_k"] (zd BO):=⟨rfl,rfl,rfl,by decide +kernel,rfl,by decide +kernel,by decide +kernel⟩
noncomputable def FD:Sp:=fun vs H Q _=>∃ (a:Addr) (k:Int) (cs:List Int),vs=[.ref a,.int k]/\H a=some (il cs)/\0<=k/\k<=1000/\cs.length<=1000/\∀ p H',Kp [] H H'->H p=none->Bx H' p 0->Q (.ref p) H'
theorem El {k:Int}(h0:0<=k):∃ c:Int,atI (cs.map V.int ++ List.replicate (k+1).toNat (V.int 0)) k=some (.int c):=by
 have e:cs.map V.int ++ List.replicate (k+1).toNat (V.int 0)=(cs ++ List.replicate (k+1).toNat 0).map V.int:=by simp
 have ek:k=((k.toNat:Nat):Int):=by omega
 have hk:k.toNat<(cs ++ List.replicate (k+1).toNat (0:Int)).length:=by rw [List.length_append,List.length_replicate];omega
 refine ⟨(cs ++ List.replicate (k+1).toNat 0)[k.toNat],?_⟩
 rw [e]
 have q:atI ((cs ++ List.replicate (k+1).toNat (0:Int)).map V.int) ((k.toNat:Nat):Int)=some (.int (cs ++ List.replicate (k+1).toNat 0)[k.toNat]):=Ed (by rw [List.getElem?_map,List.getElem?_eq_getElem hk] <;> rfl)
 rw [<- ek] at q
 exact q
theorem Ia (a:At K mg "_law_box" BO)(B:Blt mg):Df P w K mg base "_law_box" ["_law_script","_law_k"] 1 FD:=by
 refine wj (k:=0) a Ag (fun _ _ _ _ _ _=>Pn2_ fun _ _=>rfl) (fun vs H Q E h=>?_) (fun f cdv A outer s H vs Q E hr h=>?_)
 ·obtain ⟨a,k,cs,rfl,_⟩:=h;rfl
 obtain ⟨a,k,cs,rfl,ha,hk,hk',hcs,q⟩:=h
 have sc:=Ag
 have hsl:=hsl
 refine ⟨_,(zc (zN (i:=2) sc.nd rfl (by first | exact Or.inl rfl | exact Or.inr rfl) (zx qE (zJ B1 (pv 0) (zJ Z4 (qL (za ze zb)) (zJ ja (pv 1) ze))) (pv 1) (fun _ _=>rfl)))
  (zf (zA (qL (za (zJ kQ (zm QS rfl B.abs WJ (za (pv 2) zb)) (zQ yE rfl B.int yC (za (jR Lx (zm QS rfl B.abs WJ (za (pv 2) zb)) (zJ HW ze ze) (zr _)) zb))) (za (zJ j4 (zJ kQ (zJ ja (zJ ja (zJ j4 (pv 2) ze) (zJ kQ ze (pv 1))) ze) ze) ze) (za ze zb))))))),?_⟩
 rw [show qB ["_law_script","_law_k","_law_cell"] [V.ref a,V.int k]=[some (.ref a),some (.int k),none] from rfl]
 walk_at "rd"
 walk_at "xs"
 intro p1 hp1
 walk_at "xs"
 intro p2 hp2
 walk_at "xs"
 intro p3 hp3
 simp only [E7] at hp3 ⊢
 obtain ⟨c,hc⟩:=El (cs:=cs) hk
 walk_at "xs"
 intro p4 hp4
 refine q _ _ (by walk_at "kp") (by walk_at "fr") ⟨_,_,_,zk,?_,?_,?_,?_,?_⟩
 ·exact Int.mul_nonneg (by split <;> omega) (b01 _)
 ·exact (kq _ (by decide)).1
 ·exact Int.lt_trans (kq _ (by decide)).2 (by decide)
 ·decide
 ·decide
noncomputable abbrev vV:Stmt:=top 24
theorem wN:zt ["_law_script","_law_many","_law_cells","_law_k","_law_cell"] ["_law_script","_law_many"] (zd vV):=⟨rfl,rfl,rfl,by decide +kernel,rfl,by decide +kernel,by decide +kernel⟩
noncomputable def QF (K:PySem.W.Frag):Sp:=fun vs H Q _=>∃ (a:Addr) (m:Int) (ns:List Int),vs=[.ref a,.int m]/\SqL K H a (ns.map V.int)/\0<m/\m<=60/\ns.length<=63/\∀ p H' cs,Kp [] H H'->H p=none->H' p=some (il cs)->cs.length<=1000->Q (.ref p) H'
theorem Vb (a:At K mg "_law_folded" vV)(B:Blt mg):Df P w K mg base "_law_folded" ["_law_script","_law_many"] 1 (QF K):=by
 refine wj (k:=0) a wN (fun _ _ _ _ _ _=>Pn2_ fun _ _=>rfl) (fun vs H Q E h=>?_) (fun f cdv A outer s H vs Q E hr h=>?_)
 ·obtain ⟨a,k,cs,rfl,_⟩:=h;rfl
 obtain ⟨a,m,ns,rfl,ha,hm,hm',hns,q⟩:=h
 obtain ⟨M,rfl⟩:∃ M:Nat,m=M:=⟨m.toNat,by omega⟩
 have sc:=wN
 have hsl:=hsl
 refine ⟨_,(zc (zN (i:=2) sc.nd rfl (by first | exact Or.inl rfl | exact Or.inr rfl) (zQ xZ rfl B.list jH (za (j6 Xk (pv 0) vd (jT (pv 1))) zb)))
  (zc (xg PassesOwn.never rfl (Ds rfl B.enumerate (za (j6 Xk (pv 0) (jT (pv 1)) (jT ze)) zb)) (qA (K:=K) 2 rfl rfl (zC (zD (i:=3) sc.nd rfl (by first | exact Or.inl rfl | exact Or.inr rfl)) (zC (zD (i:=4) sc.nd rfl (by first | exact Or.inl rfl | exact Or.inr rfl)) qD))) (zf (qy (zJ ja (zx qE (pv 2) (zJ j4 (pv 3) (pv 1)) (fun _ _=>rfl)) (zJ kQ (pv 4) (zJ ja (pv 3) ze))) (qO (pv 2) (zJ j4 (pv 3) (pv 1)) zI))))
  (zf (zA (pv 2))))),?_⟩
 rw [show qB ["_law_script","_law_many","_law_cells","_law_k","_law_cell"] [V.ref a,V.int M]=[some (.ref a),some (.int M),none,none,none] from rfl]
 walk_at "rd"
 walk_at "xs"
 intro p1 hp1
 rw [Qr]
 walk_at "xs"
 intro p2 hp2
 walk_at "xs"
 intro p3 hp3
 rw [Qr]
 have e63:(63:Int)=((63:Nat):Int):=rfl
 simp only [HT.sIx_none,HT.sIx_nat,e63,List.drop_zero,Nat.sub_zero] at hp2 hp3 ⊢
 walk_at "xs"
 generalize hc0:ns.take (min M ns.length)=c0 at hp2 hp3 ⊢
 generalize hd0:(ns.drop (min M ns.length)).take (min 63 ns.length - min M ns.length)=d0 at hp2 hp3 ⊢
 have lc:c0.length=min M ns.length:=by rw [<- hc0,List.length_take];omega
 have ld:d0.length<=ns.length - M:=by rw [<- hd0,List.length_take,List.length_drop];omega
 have n23:p2 ≠ p3:=by walk_at "ne"
 refine Ei (xs:=d0.map V.int) (fun i τ H'=>∃ u v cs,τ=[some (.ref a),some (.int M),some (.ref p2),u,v]/\Kp [p2] (upd (upd (upd H p1 (HO.lst (List.map V.int c0))) p2 (HO.lst (List.map V.int c0))) p3 (HO.lst (List.map V.int d0))) H'/\H' p2=some (il cs)/\cs.length=c0.length) ?_ ?_ ?_ ?_
 ·exact ⟨none,none,c0,rfl,Kp.refl,by walk_at "hp",rfl⟩
 ·rintro i τ H' _ ⟨u,v,cs,rfl,kp,_⟩
  exact SqL.of (kp _ _ (by simp [Ne.symm n23]) (by walk_at "hp"))
 ·rintro i x pp τ H' hx hpp ⟨u,v,cs,rfl,kp,hcs,hl⟩
  obtain ⟨rfl,hi⟩:=Zu hx
  have b1:=kq (i:Int) hm
  obtain ⟨g1,g2⟩:=yP (cs:=cs) (k:=(i:Int) % (M:Int)) b1.1 (by omega)
  have hcs':upd H' pp (HO.tup [V.int i,V.int (d0.getD i 0)]) p2=some (il cs):=by walk_at "hp"
  walk_at "rd"
  walk_at "xs"
  refine ⟨(kp.trans (Kp.new _ hpp)).trans (Kp.set _ (by simp)),_,zk.trans (congrArg some (congrArg HO.lst (ZH _ _ _))),by rw [List.length_set];exact hl⟩
 ·rintro τ H' ⟨u,v,cs,rfl,kp,hcs,hl⟩
  walk_at "rd"
  refine q _ _ cs (fun c o hc hh=>kp c o ?_ ((((Kp.new _ hp1).trans (Kp.new _ hp2)).trans (Kp.new _ hp3)) c o hc hh)) (by walk_at "fr") hcs (by omega)
  have:c ≠ p2:=xb (Q0 hp2 (Kp.new _ hp1)) hh
  simpa using this
noncomputable abbrev QZ:List Int:=[0,1,2,3,4,5,6,7,4,5,6,7]
noncomputable abbrev vK:Stmt:=top 25
theorem wH:zt ["_law_box_here","_law_most","_law_few"] ["_law_box_here","_law_most"] (zd vK):=⟨rfl,rfl,rfl,by decide +kernel,rfl,by decide +kernel,by decide +kernel⟩
noncomputable def QA:Sp:=fun vs H Q _=>∃ (b:Addr) (m:Int) (N:Nat),vs=[.ref b,.int m]/\Bx H b N/\N<100000000/\24<=m/\m<=1000/\∀ r H',Kp [b] H H'->Bx H' b (N+10)->0<=r->r<=m->Q (.int r) H'
theorem Vr (a:At K mg "_law_length" vK)(B:Blt mg)(D_law_take:Df P w K mg base "_law_take" ["_law_box_here","_law_many"] 1 JI):Df P w K mg base "_law_length" ["_law_box_here","_law_most"] 2 QA:=by
 refine wj (k:=1) a wH (fun _ _ _ _ _ _=>Pn2_ fun _ _=>rfl) (fun vs H Q E h=>?_) (fun f cdv A outer s H vs Q E hr h=>?_)
 ·obtain ⟨a,k,cs,rfl,_⟩:=h;rfl
 obtain ⟨b,m,N,rfl,hb,hN,hm,hm',q⟩:=h
 have sc:=wH
 have hsl:=hsl
 refine' ⟨_,zc (zH (zn Gb (zZ D_law_take hr rfl (za (pv 0) (za ze zb))) ze (zr _)) (zf (zA (zJ vS (pv 1) (zZ D_law_take hr rfl (za (pv 0) (za (zm (wK rfl) rfl B.max BM (za ze (za (zJ X7 (pv 1) ze) zb))) zb)))))) zv) (zc _ _),?_⟩
 rotate_left 2
 ·refine' zN (i:=2) _ _ _ _ _ _
  rotate_left 1
  ·exact sc.nd
  ·rfl
  ·first | exact Or.inl rfl | exact Or.inr rfl
  ·refine' zx _ _ _ _
   rotate_left 3
   ·exact qE
   ·refine' qL _
    rotate_left 1
    refine' XJ (is:=[0,1,2,3,4,5,6,7,4,5,6,7]) _
    rfl
   ·exact (zZ D_law_take hr rfl (za (pv 0) (za ze zb)))
   ·exact (fun _ _=>rfl)
  ·rfl
  ·first | exact .inl rfl | exact .inr rfl | assumption
 ·refine' zf _
  rotate_left 1
  refine' zA _
  rotate_left 1
  refine' zx _ _ _ _
  rotate_left 3
  ·exact qE
  ·refine' qL _
   rotate_left 1
   refine' za _ _ _
   rotate_left 2
   ·exact pv 2
   ·exact (za (zJ ja ze (zZ D_law_take hr rfl (za (pv 0) (za ze zb)))) zb)
   ·rfl
  ·exact (zQ yE rfl B.int yC (za (jR Gb (zZ D_law_take hr rfl (za (pv 0) (za ze zb))) ze (zr _)) zb))
  ·exact (fun _ _=>rfl)
 rw [show qB ["_law_box_here","_law_most","_law_few"] [V.ref b,V.int m]=[some (.ref b),some (.int m),none] from rfl]
 walk_at "rd"
 refine ⟨b,16,N,rfl,hb,by omega,by decide,by decide,fun r1 H1 k1 b1 l1 u1=>⟨rfl,?_⟩⟩
 walk_at "rd"
 refine IG (fun c=>?_) (fun c=>?_)
 ·walk_at "xs"
  refine ⟨b,_,_,rfl,b1,by omega,by split <;> omega,by split <;> omega,fun r2 H2 k2 b2 l2 u2=>⟨_,rfl,?_⟩⟩
  refine q _ _ (k1.trans k2) (b2.mono (by omega)) ?_ ?_
  ·split at u2 <;> omega
  ·omega
 ·walk_at "xs"
  intro p1 hp1
  refine ⟨b,12,_,rfl,b1.new hp1,by omega,by decide,by decide,fun r2 H2 k2 b2 l2 u2=>?_⟩
  have hne:p1 ≠ b:=by obtain ⟨_,_,_,h,_⟩:=b1;exact Ne.symm (zl h hp1)
  have h2:=k2 p1 _ (by simpa using hne) zk
  obtain ⟨e1,e2⟩:=yP (cs:=QZ) (k:=r2) l2 (by simpa using u2)
  refine ⟨_,_,rfl,SqL.of h2,_,e2,b,17,_,rfl,b2,by omega,by decide,by decide,fun r3 H3 k3 b3 l3 u3=>?_⟩
  have hv:0<=QZ.getD r2.toNat 0/\QZ.getD r2.toNat 0<=(24:Int):=by
   have:∀ j:Nat,0<=QZ.getD j 0/\QZ.getD j 0<=(24:Int):=by
    intro j
    by_cases hj:j<12
    ·have hd:∀ j:Nat,j<12->0<=QZ.getD j 0/\QZ.getD j 0<=(24:Int):=by decide
     exact hd j hj
    ·have e:QZ.getD j (0:Int)=0:=by rw [List.getD_eq_getElem?_getD,List.getElem?_eq_none (by simpa using hj)];rfl
     rw [e];decide
   exact this _
  refine ⟨_,rfl,by show 2<=sizeLine;decide,fun p2 hp2=>?_⟩
  refine ⟨b,6,_,rfl,b3.new hp2,by omega,by decide,by decide,fun r4 H4 k4 b4 l4 u4=>⟨rfl,?_⟩⟩
  have hne2:p2 ≠ b:=by obtain ⟨_,_,_,h,_⟩:=b3;exact Ne.symm (zl h hp2)
  have h4:=k4 p2 _ (by simpa using hne2) zk
  have fin:∀ r,0<=r->r<=24->Q (.int r) H4:=fun r g1 g2=>by
   refine q r H4 ?_ (b4.mono (by omega)) g1 (by omega)
   exact (((k1.trans (Kp.new _ hp1)).trans k2).trans k3).trans ((Kp.new _ hp2).trans k4)
  by_cases c4:r4=0
  ·subst c4
   exact ⟨_,SqL.of h4,_,rfl,fin _ (by omega) (by omega)⟩
  ·rw [if_neg (fun z=>c4 (V.int.inj z))]
   exact ⟨_,SqL.of h4,_,rfl,fin _ hv.1 hv.2⟩
noncomputable def cE:Option Int->V
 | none=>.non
 | some x=>.int x
inductive De where
 | swap (a b:Nat) | take (p:Nat) | move (p g:Nat) | lay (g:Nat)
noncomputable abbrev ES:=List (Option Int) × Option Int
inductive DoE:De->ES->ES->Prop
 | swap {a b:Nat} {row:List (Option Int)} {h:Option Int} {x y:Int}:a ≠ b->row[a]?=some (some x)->row[b]?=some (some y)->DoE (.swap a b) (row,h) ((row.set a (some y)).set b (some x),h)
 | take {p:Nat} {row:List (Option Int)} {x:Int}:row[p]?=some (some x)->DoE (.take p) (row,none) (row.set p none,some x)
 | move {p g:Nat} {row:List (Option Int)} {h:Option Int} {x:Int}:row[p]?=some (some x)->row[g]?=some none->DoE (.move p g) (row,h) ((row.set p none).set g (some x),h)
 | lay {g:Nat} {row:List (Option Int)} {x:Int}:row[g]?=some none->DoE (.lay g) (row,some x) (row.set g (some x),none)
inductive yB:List De->ES->ES->Prop
 | nil {s:ES}:yB [] s s
 | cons {d:De} {l:List De} {s t u:ES}:DoE d s t->yB l t u->yB (d :: l) s u
theorem yB.append {a b:List De}{s t u:ES}(h1:yB a s t)(h2:yB b t u):yB (a ++ b) s u:=by
 induction h1 with
 | nil=>exact h2
 | cons d _ ih=>exact .cons d (ih h2)
variable {d:De} {s t:ES}
theorem yB.one (h:DoE d s t):yB [d] s t:=.cons h .nil
theorem DoE.len (h:DoE d s t):t.1.length=s.1.length:=by
 cases h <;> simp
noncomputable abbrev Tst (c:AT)(ρ:ASt)(M:MH)(b:Bool):Prop:=∀ Q,Q b M->c ρ M Q
variable {c:AT} {ρ:ASt} {M:MH}
theorem zy {b b':Bool}(h:Tst c ρ M b)(e:b=b'):Tst c ρ M b':=e ▸ h
theorem jA {c d:AT} (h:Tst c ρ M false):Tst (D5 c d) ρ M false:=fun Q q=>h _ (by rw [if_neg (fun z=>nomatch z)];exact q)
theorem qN {c d:AT} {b:Bool}(h:Tst c ρ M true)(h':Tst d ρ M b):Tst (D5 c d) ρ M b:=fun Q q=>h _ (by rw [if_pos rfl];exact h' _ q)
theorem qK {c d:AT} {b:Bool}(h:Tst c ρ M false)(h':Tst d ρ M b):Tst (aOr c d) ρ M b:=fun Q q=>h _ (by rw [if_neg (fun z=>nomatch z)];exact h' _ q)
theorem vT {c d:AT} (h:Tst c ρ M true):Tst (aOr c d) ρ M true:=fun Q q=>h _ (by rw [if_pos rfl];exact q)
variable {B:MH} {D:qW}
theorem zW {t r:AS} (h:Tst c ρ M false)(k:r B D ρ M):xU (yr c t jZ) r B D ρ M:=h _ (by rw [if_neg (fun z=>nomatch z)];exact k)
variable {e:AE} {r:AS}
theorem jW (h:Tst c ρ M true)(k:e ρ M D.rt):xU (yr c (YG e) jZ) r B D ρ M:=h _ (by rw [if_pos rfl];exact k)
theorem BA {t:AS} (h:Tst c ρ M false)(k:D.nx ρ M):yr c t jZ B D ρ M:=h _ (by rw [if_neg (fun z=>nomatch z)];exact k)
theorem GK (h:Tst c ρ M true)(k:e ρ M D.rt):yr c (YG e) jZ B D ρ M:=h _ (by rw [if_pos rfl];exact k)
variable {f:AE} {Q:AK}
theorem Iz (h:Tst c ρ M true)(k:e ρ M Q):aIf c e f ρ M Q:=h _ (by rw [if_pos rfl];exact k)
theorem D3 (h:Tst c ρ M false)(k:f ρ M Q):aIf c e f ρ M Q:=h _ (by rw [if_neg (fun z=>nomatch z)];exact k)
variable {ps:List Dat}
theorem vm {w:Dat}:atI (AV.d w :: ps.map AV.d) 0=some (.d w):=by
 unfold atI
 rw [qU (by omega) (by rw [List.length_cons];omega)]
 rfl
theorem tW {i:Nat}{w w':Str} (hρ:ρ[i]?=some (some (.d (.tup (.str w :: ps))))):Tst (aB (aOp (yu id) (aOp (aIx qF) (qh i) (aC (.int 0))) (aC (.str w')))) ρ M (decide (w=w')):=fun Q q=>by
 refine ⟨_,hρ,_,0,.d (.str w),rfl,rfl,vm,_,_,rfl,rfl,by rw [qv];omega,by rw [qv];omega,_,rfl,?_⟩
 rw [kY]
 exact q
theorem tNN {i:Nat}{x:AV} (hρ:ρ[i]?=some (some x)):Tst (aB (aOp (YX not) (qh i) (aC .non))) ρ M (!jC x):=fun Q q=>⟨_,hρ,rfl,_,rfl,q⟩
theorem tIN {i:Nat}{x:AV} (hρ:ρ[i]?=some (some x)):Tst (aB (aOp (YX id) (qh i) (aC .non))) ρ M (jC x):=fun Q q=>⟨_,hρ,rfl,_,rfl,q⟩
theorem tNt {b:Bool}(h:Tst c ρ M b):Tst (Jc c) ρ M (!b):=fun Q q=>h _ q
theorem Zo {i:Nat}{x:AV}{t c:String}{b:Bool} (h:ρ[i]?=some (some x))(ht:tyA x M=some t)(hb:isT t c=some b):Tst (aB (aCB wB (zP (qh i) (zP (aC (.ty c)) jt)))) ρ M b:=fun Q q=>⟨_,h,_,_,_,_,rfl,ht,hb,_,rfl,q⟩
theorem Vu {i:Nat}{w:Dat} {t c:String}{b:Bool} (h:ρ[i]?=some (some (.d (.tup (w :: ps)))))(ht:tyA (.d w) M=some t)(hb:isT t c=some b):Tst (aB (aCB wB (zP (aOp (aIx qF) (qh i) (aC (.int 0))) (zP (aC (.ty c)) jt)))) ρ M b:=fun Q q=>⟨_,h,_,_,_,rfl,rfl,vm,_,_,_,_,rfl,ht,hb,_,rfl,q⟩
theorem tNo {i:Nat}{x:AV}{t c:String}{d:AT} (h:ρ[i]?=some (some x))(ht:tyA x M=some t)(hb:isT t c=some false):Tst (aOr (Jc (aB (aCB wB (zP (qh i) (zP (aC (.ty c)) jt))))) d) ρ M true:=vT (tNt (Zo h ht hb))
theorem QH {t r:AS} (h:Tst c ρ M true)(k:t B { D with nx:=r B D } ρ M):xU (yr c t jZ) r B D ρ M:=h _ (by rw [if_pos rfl];exact k)
noncomputable abbrev Val (e:AE)(ρ:ASt)(M:MH)(v:AV):Prop:=∀ Q:AK,Q v M->e ρ M Q
theorem vB {b:Bool}(h:Val e ρ M (.d (.bl b))):Tst (aB e) ρ M b:=fun Q q=>h _ ⟨_,rfl,q⟩
theorem kD {i:Nat}{x:AV}{t c:String}{b:Bool} (h:ρ[i]?=some (some x))(ht:tyA x M=some t)(hb:isT t c=some b):Val (aCB wB (zP (qh i) (zP (aC (.ty c)) jt))) ρ M (.d (.bl b)):=fun Q q=>⟨_,h,_,_,_,_,rfl,ht,hb,q⟩
theorem Q8 {a e:AE}{f:Bool->Bool} {b c:Bool}(h:Val a ρ M (.d (.bl b)))(h':Val e ρ M (.d (.bl c))):Val (aOp (yu f) a e) ρ M (.d (.bl (f (decide (b=c))))):=fun Q q=>h _ (h' _ ⟨_,_,rfl,rfl,by rw [QM];omega,by rw [QM];omega,by rw [Kz];exact q⟩)
theorem Lw {a e:AE}{f:Bool->Bool} {b c:Int}(h:Val a ρ M (.d (.int b)))(h':Val e ρ M (.d (.int c))):Val (aOp (yu f) a e) ρ M (.d (.bl (f (decide (b=c))))):=fun Q q=>h _ (h' _ ⟨_,_,rfl,rfl,by rw [qT];omega,by rw [qT];omega,by rw [xK];exact q⟩)
theorem DI {i j:Nat}{f:Bool->Bool} {x y:AV}{d d':Dat}{b:Bool}(hi:ρ[i]?=some (some x))(hj:ρ[j]?=some (some y))(hx:kE x M=some d)(hy:kE y M=some d')(h1:dp d<=40)(h2:dp d'<=40)(e:f (eqD d d')=b):Val (aOp (yu f) (qh i) (qh j)) ρ M (.d (.bl b)):=fun Q q=>⟨_,hi,_,hj,_,_,hx,hy,h1,h2,by rw [e];exact q⟩
variable {l:List AV}
theorem Ff {i:Nat} {x:AV} (hi:ρ[i]?=some (some x))(hx:qF x M=some l):Val (aCB QR (zP (qh i) jt)) ρ M (.d (.int (l.length:Nat))):=fun Q q=>⟨_,hi,_,_,rfl,hx,q⟩
theorem kH {a e:AE} (h:Val a ρ M (.d (.bl true)))(k:e ρ M Q):VB a e ρ M Q:=h _ ⟨_,rfl,by rw [if_pos rfl];exact k⟩
theorem yW {b b':Bool}(h:Val e ρ M (.d (.bl b)))(q:b=b'):Val e ρ M (.d (.bl b')):=q ▸ h
theorem Ve {i:Nat}{x:AV}{t c c':String}{b:Bool} (h:ρ[i]?=some (some x))(ht:tyA x M=some t)(hb:yY t [c,c']=some b)(hs:2<=sizeLine):Tst (aB (aCB VL (zP (qh i) (zP (VP (zP (aC (.ty c)) (zP (aC (.ty c')) jt))) jt)))) ρ M b:=fun Q q=>⟨_,h,hs,_,rfl,_,_,_,_,_,rfl,rfl,ht,hb,_,rfl,q⟩
theorem Wy {i:Nat}{t:AS} (h:∀ r,r=t->V9 i r B D ρ M):V9 i t B D ρ M:=h t rfl
noncomputable def jV (ms:List Int)(x:Int):List Int:=ms.set x.toNat (ms.getD x.toNat 0+1)
theorem QN (ms:List Int)(x:Int):(jV ms x).length=ms.length:=by unfold jV;rw [List.length_set]
noncomputable def OkM (s:ES)(n:Nat):Prop:=(∀ x,some x ∈ s.1->0<=x/\x<(n:Int))/\∀ x,s.2=some x->0<=x/\x<(n:Int)
noncomputable def cA:Option Int->AV
 | none=>.d .non
 | some x=>.d (.int x)
noncomputable abbrev Vf (row:List (Option Int)):MO:=.lst (row.map cA)
noncomputable abbrev msA (ms:List Int):MO:=.lst (ms.map fun i=>AV.d (.int i))
noncomputable abbrev AM (C rw_ mv:Addr)(h:Option Int):MO:=.ins C [("row",.ref rw_),("hand",cA h),("moved",.ref mv)]
structure qa (C:Addr)(M:MH)(p rw_ mv:Addr)(s:ES)(ms:List Int):Prop where
 ins:M p=some (AM C rw_ mv s.2)
 row:M rw_=some (Vf s.1)
 mvd:M mv=some (msA ms)
 ne:rw_ ≠ mv
noncomputable def rmP (C:Addr)(M:MH)(p rw_ mv:Addr)(s:ES)(ms:List Int):MH:=mup (mup (mup M p (AM C rw_ mv s.2)) rw_ (Vf s.1)) mv (msA ms)
variable {C p rw_ mv:Addr} {ms:List Int}
theorem qa.pr (r:qa C M p rw_ mv s ms):p ≠ rw_/\p ≠ mv:=
 ⟨fun z=>(by have:=r.ins;rw [z,r.row] at this;cases this),fun z=>(by have:=r.ins;rw [z,r.mvd] at this;cases this)⟩
theorem qa.same (r:qa C M p rw_ mv s ms):rmP C M p rw_ mv s ms=M:=by
 funext b
 unfold rmP mup
 by_cases c1:b=mv
 ·rw [if_pos c1,c1,r.mvd]
 ·rw [if_neg c1]
  by_cases c2:b=rw_
  ·rw [if_pos c2,c2,r.row]
  ·rw [if_neg c2]
   by_cases c3:b=p
   ·rw [if_pos c3,c3,r.ins]
   ·rw [if_neg c3]
theorem qa.to (r:qa C M p rw_ mv s ms)(s':ES)(ms':List Int):qa C (rmP C M p rw_ mv s' ms') p rw_ mv s' ms':=by
 obtain ⟨n1,n2⟩:=r.pr
 have n3:=r.ne
 unfold rmP
 exact ⟨by rw [zu n2,zu n1,zg],by rw [zu n3,zg],zg,n3⟩
theorem qa.again (r:qa C M p rw_ mv s ms)(s' s2:ES)(ms' ms2:List Int):rmP C (rmP C M p rw_ mv s' ms') p rw_ mv s2 ms2=rmP C M p rw_ mv s2 ms2:=by
 funext b
 unfold rmP mup
 by_cases c1:b=mv <;> by_cases c2:b=rw_ <;> by_cases c3:b=p <;> simp [c1,c2,c3]
theorem qa.setRow (r:qa C M p rw_ mv s ms)(row:List (Option Int)):mup M rw_ (Vf row)=rmP C M p rw_ mv (row,s.2) ms:=by
 obtain ⟨n1,n2⟩:=r.pr
 funext b
 unfold rmP mup
 by_cases c1:b=mv
 ·rw [if_pos c1,if_neg (fun z=>r.ne (z.symm.trans c1)),c1,r.mvd]
 ·rw [if_neg c1]
  by_cases c2:b=rw_
  ·rw [if_pos c2,if_pos c2]
  ·rw [if_neg c2,if_neg c2]
   by_cases c3:b=p
   ·rw [if_pos c3,c3,r.ins]
   ·rw [if_neg c3]
theorem qa.setMv (r:qa C M p rw_ mv s ms)(ms':List Int):mup M mv (msA ms')=rmP C M p rw_ mv s ms':=by
 have:=r.same
 calc mup M mv (msA ms')=mup (rmP C M p rw_ mv s ms) mv (msA ms'):=by rw [this]
  _=_:=by unfold rmP;rw [ZZ]
theorem qa.setHand (r:qa C M p rw_ mv s ms)(h:Option Int):mup M p (AM C rw_ mv h)=rmP C M p rw_ mv (s.1,h) ms:=by
 obtain ⟨n1,n2⟩:=r.pr
 funext b
 unfold rmP mup
 by_cases c1:b=mv
 ·rw [if_pos c1,if_neg (fun z=>n2 (z.symm.trans c1)),c1,r.mvd]
 ·rw [if_neg c1]
  by_cases c2:b=rw_
  ·rw [if_pos c2,if_neg (fun z=>n1 (z.symm.trans c2)),c2,r.row]
  ·rw [if_neg c2]
theorem qa.fin (r:qa C M p rw_ mv s ms)(s':ES)(ms':List Int)(d:Dat):va M (rmP C M p rw_ mv s' ms') (.d d) (.d d) (rmP C M p rw_ mv s' ms'):=by
 have t:=r.to s' ms'
 refine ⟨fun q=>.inl rfl,fun q o e=>?_,.inl ⟨rfl,fun p z=>nomatch z⟩⟩
 by_cases c1:q=mv
 ·rw [c1,t.mvd] at e
  cases e
  exact .inr fun z hz=>absurd hz (yb (ds:=ms'.map .int) (jf _) z)
 ·by_cases c2:q=rw_
  ·rw [c2,t.row] at e
   cases e
   refine .inr fun z hz=>?_
   obtain ⟨y,hy,hz⟩:=(show ∃ x ∈ s'.1.map cA,x.Has z from hz)
   obtain ⟨x,_,rfl⟩:=List.mem_map.mp hy
   cases x <;> exact (show False from hz).elim
  ·by_cases c3:q=p
   ·rw [c3,t.ins] at e
    cases e
    refine .inr fun z hz=>?_
    obtain ⟨y,hy,hz⟩:=(show ∃ x ∈ [AV.ref rw_,cA s'.2,AV.ref mv],x.Has z from hz)
    simp only [List.mem_cons,List.not_mem_nil,or_false] at hy
    rcases hy with rfl | rfl | rfl
    ·obtain rfl:rw_=z:=hz
     rw [t.row];exact fun z=>nomatch z
    ·cases h:s'.2 <;> rw [h] at hz <;> exact (show False from hz).elim
    ·obtain rfl:mv=z:=hz
     rw [t.mvd];exact fun z=>nomatch z
   ·refine .inl ?_
    unfold rmP at e
    rw [zu c1,zu c2,zu c3] at e
    exact e
structure RTx (K:PySem.W.Frag)(C:Addr):Prop where
 cl:Cls K C
 nr:jO K C "row"
 nh:jO K C "hand"
 nm:jO K C "moved"
noncomputable abbrev wrd (x:String):List (Str × V):=[("word",.str (Str.ofString x))]
noncomputable def fnW (vs:List V):List (Str × V):=[("word",vs.getD 0 .non)]
variable {row:List (Option Int)}
theorem yf {a:Nat}(h:a<row.length):atI (row.map cA) (a:Int)=some (cA (row.getD a none))/\ixN (row.map cA).length (a:Int)=some a:=by
 have e:ixN (row.map cA).length (a:Int)=some a:=by rw [List.length_map,qU (by omega) (by omega),Int.toNat_natCast]
 refine ⟨?_,e⟩
 unfold atI
 rw [e]
 show (row.map cA)[a]?=_
 rw [List.getElem?_map,List.getElem?_eq_getElem h,List.getD_eq_getElem?_getD,List.getElem?_eq_getElem h];rfl
theorem Xa {x:Int}(h0:0<=x)(h1:x<(ms.length:Int)):atI (ms.map fun i=>AV.d (.int i)) x=some (.d (.int (ms.getD x.toNat 0)))/\ixN (ms.map fun i=>AV.d (Dat.int i)).length x=some x.toNat:=by
 have hx:x.toNat<ms.length:=by omega
 have e:ixN (ms.map fun i=>AV.d (Dat.int i)).length x=some x.toNat:=by rw [List.length_map,qU h0 (by omega)]
 refine ⟨?_,e⟩
 unfold atI
 rw [e]
 show (ms.map fun i=>AV.d (Dat.int i))[x.toNat]?=_
 rw [List.getElem?_map,List.getElem?_eq_getElem hx,List.getD_eq_getElem?_getD,List.getElem?_eq_getElem hx];rfl
theorem ET (x:Int):(ms.map fun i=>AV.d (.int i)).set x.toNat (.d (.int (ms.getD x.toNat 0+1)))=(jV ms x).map fun i=>AV.d (.int i):=by unfold jV;rw [List.map_set]
theorem Ax (row:List (Option Int))(a:Nat)(c:Option Int):(row.map cA).set a (cA c)=(row.set a c).map cA:=List.map_set.symm
theorem rz {M0 M' M'':MH}{E0:AXK}{cB:Addr}{w:Str}(f:va M0 M' (.d .non) (.d .non) M'')(q:E0 cB [("word",.str w)] M''):∃ vs,[Bl (.d (.str w))]=List.map some vs/\vs.length=1/\1<=1000/\exA M0 E0 cB (fnW vs) M':=⟨[.str w],rfl,rfl,by decide,M'',f,q⟩
theorem qz (c:Option Int):jC (cA c)=c.isNone:=by cases c <;> rfl
noncomputable def Wp (C cB:Addr):xD:=fun xs M Q E=>∃ (p rw_ mv:Addr) (s:ES) (ms:List Int) (a:Nat),xs=[.ref p,.d (.int a)]/\qa C M p rw_ mv s ms/\a<s.1.length/\OkM s ms.length /\
 (∀ x,s.1.getD a none=some x->Q (.d (.int x)) (rmP C M p rw_ mv (s.1.set a none,s.2) (jV ms x)))/\(s.1.getD a none=none->E cB (wrd "empty") M)
noncomputable abbrev KC:Stmt:=(qM (top 15) 6)
theorem XW:zt ["self","a","thing"] ["self","a"] (zd KC):=⟨rfl,rfl,rfl,by decide +kernel,rfl,by decide +kernel,by decide +kernel⟩
theorem VM {C:Addr}(a:AtM K C "lift" "Room.lift" KC)(R:RTx K C)(B:Blt mg){cBadDeed:Addr}(MX_BadDeed:MkX P w K mg base cBadDeed 1 1 fnW)(XG_BadDeed:mg "BadDeed"=some (.ref cBadDeed)):DmX P w K mg base C "lift" ["self","a"] 3 (jk (Wp C cBadDeed)):=by
 refine Y6 (k:=2) a XW (fun _ _ _ _ _ _=>Pn2_ fun _ _=>rfl) (fun xs M Q E h=>?_) (fun f cdv A outer s H HX OX MX E1 hr hD=>?_)
 ·obtain ⟨_,_,_,_,_,_,rfl,_⟩:=h;rfl
 have sc:=XW
 have hsl:=hsl
 have CL:=R.cl
 refine ⟨_,(zc (zN (i:=2) sc.nd rfl (by first | exact Or.inl rfl | exact Or.inr rfl) (zx zE (qd (pv 0) rfl) (pv 1) (fun _ _=>rfl)))
  (zc (zH (zn kj (pv 2) zL (zr _)) (zf (qu hD rfl MX_BadDeed hr rfl XG_BadDeed (za zp zb))) zv)
  (zc (qy zL (qO (qd (pv 0) rfl) (pv 1) zI))
  (zc (vn (qd (pv 0) rfl) (pv 2) xq ze ZK zI)
  (zf (zA (pv 2))))))),?_⟩
 refine exX (by walk_at "sim") ?_
 rintro xs Q E0 rfl ⟨p,rw_,mv,⟨row,hd⟩,ms,a,rfl,r,ha,ok,q,qe⟩
 rw [show zO ["self","a","thing"] [.ref p,.d (.int a)]=[some (.ref p),some (.d (.int a)),none] from rfl]
 refine zi fun r1 hr1=>?_
 walk_at "ra"
 obtain ⟨c1,c2⟩:=yf ha
 refine ⟨_,_,r.ins,R.cl,R.nr,_,rfl,_,qk r.row,_,c1,?_⟩
 subst hr1
 refine zi fun r1 hr1=>?_
 walk_at "ra"
 cases hx:row.getD a none with
 | none=>
  rw [if_pos (by rw [qz];rfl)]
  exact rz (qo Fr.refl .non) (qe hx)
 | some x=>
  rw [if_neg (by rw [qz];exact fun z=>nomatch z)]
  subst hr1
  obtain ⟨x0,x1⟩:=ok.1 x (by rw [List.getD_eq_getElem?_getD,List.getElem?_eq_getElem ha] at hx;rw [<- hx];exact List.getElem_mem ha)
  obtain ⟨m1,m2⟩:=Xa x0 x1
  show xU _ _ _ _ _ _
  rw [show cA (some x)=.d (.int x) from rfl]
  refine zi fun r1 hr1=>?_
  walk_at "ra"
  refine ⟨_,_,r.ins,R.cl,R.nr,_,rfl,_,rfl,_,r.row,_,c2,?_⟩
  rw [show (row.map cA).set a (.d .non)=(row.set a none).map cA from Ax row a none,r.setRow]
  have r2:=r.to (row.set a none,hd) ms
  subst hr1
  walk_at "ra"
  refine ⟨_,_,r2.ins,R.cl,R.nm,_,rfl,_,jp r2.mvd,_,m1,_,rfl,_,rfl,_,r2.mvd,_,m2,?_⟩
  rw [ET,r2.setMv,r.again]
  exact ⟨_,_,r.fin _ _ (.int x),q x hx⟩
variable {n:Nat}
theorem Xg (ok:OkM s n){a:Nat}{x:Int}(ha:a<s.1.length)(h:s.1.getD a none=some x):0<=x/\x<(n:Int):=ok.1 x (by rw [List.getD_eq_getElem?_getD,List.getElem?_eq_getElem ha] at h;rw [<- h];exact List.getElem_mem ha)
noncomputable def FG (C cB:Addr):xD:=fun xs M Q E=>∃ (p rw_ mv:Addr) (s:ES) (ms:List Int) (a b:Nat),xs=[.ref p,.d (.int a),.d (.int b)]/\qa C M p rw_ mv s ms/\a<s.1.length/\b<s.1.length/\OkM s ms.length /\
 (a=b->E cB (wrd "same") M)/\(a ≠ b->s.1.getD a none=none \/ s.1.getD b none=none->E cB (wrd "empty") M) /\
 (a ≠ b->∀ x y,s.1.getD a none=some x->s.1.getD b none=some y->Q (.d .non) (rmP C M p rw_ mv ((s.1.set a (some y)).set b (some x),s.2) (jV (jV ms x) y)))
noncomputable abbrev Jy:Stmt:=(qM (top 15) 2)
theorem Ye:zt ["self","a","b","one","other"] ["self","a","b"] (zd Jy):=⟨rfl,rfl,rfl,by decide +kernel,rfl,by decide +kernel,by decide +kernel⟩
theorem A5 {C:Addr}(a:AtM K C "swap" "Room.swap" Jy)(R:RTx K C)(B:Blt mg){cBadDeed:Addr}(MX_BadDeed:MkX P w K mg base cBadDeed 1 1 fnW)(XG_BadDeed:mg "BadDeed"=some (.ref cBadDeed)):DmX P w K mg base C "swap" ["self","a","b"] 3 (jk (FG C cBadDeed)):=by
 refine Y6 (k:=2) a Ye (fun _ _ _ _ _ _=>Pn3_ fun _ _ _=>rfl) (fun xs M Q E h=>?_) (fun f cdv A outer s H HX OX MX E1 hr hD=>?_)
 ·obtain ⟨_,_,_,_,_,_,_,rfl,_⟩:=h;rfl
 have sc:=Ye
 have hsl:=hsl
 have CL:=R.cl
 refine ⟨_,(zc (zH (zn (zY hr.units) (pv 1) (pv 2) (zr _)) (zf (qu hD rfl MX_BadDeed hr rfl XG_BadDeed (za zp zb))) zv)
  (zc (zN (i:=3) sc.nd rfl (by first | exact Or.inl rfl | exact Or.inr rfl) (zx zE (qd (pv 0) rfl) (pv 1) (fun _ _=>rfl)))
  (zc (zN (i:=4) sc.nd rfl (by first | exact Or.inl rfl | exact Or.inr rfl) (zx zE (qd (pv 0) rfl) (pv 2) (fun _ _=>rfl)))
  (zc (zH (PW.pt (jS (zn kj (pv 3) zL (zr _)) (jx (zn kj (pv 4) zL (zr _))))) (zf (qu hD rfl MX_BadDeed hr rfl XG_BadDeed (za zp zb))) zv)
  (zc (qy (pv 4) (qO (qd (pv 0) rfl) (pv 1) zI))
  (zc (qy (pv 3) (qO (qd (pv 0) rfl) (pv 2) zI))
  (zc (vn (qd (pv 0) rfl) (pv 3) xq ze ZK zI)
  (zf (vn (qd (pv 0) rfl) (pv 4) xq ze ZK zI))))))))),?_⟩
 refine exX (by walk_at "sim") ?_
 rintro xs Q E0 rfl ⟨p,rw_,mv,⟨row,hd⟩,ms,a,b,rfl,r,ha,hb,ok,qs,qe,q⟩
 rw [show zO ["self","a","b","one","other"] [.ref p,.d (.int a),.d (.int b)]=[some (.ref p),some (.d (.int a)),some (.d (.int b)),none,none] from rfl]
 refine zi fun r1 hr1=>?_
 walk_at "ra"
 by_cases hab:a=b
 ·rw [if_pos (by rw [hab])]
  exact rz (qo Fr.refl .non) (qs hab)
 rw [if_neg (by omega)]
 subst hr1
 obtain ⟨c1,c2⟩:=yf ha
 obtain ⟨d1,d2⟩:=yf hb
 refine zi fun r1 hr1=>?_
 walk_at "ra"
 refine ⟨_,_,r.ins,R.cl,R.nr,_,rfl,_,qk r.row,_,c1,?_⟩
 subst hr1
 refine zi fun r1 hr1=>?_
 walk_at "ra"
 refine ⟨_,_,r.ins,R.cl,R.nr,_,rfl,_,qk r.row,_,d1,?_⟩
 subst hr1
 refine zi fun r1 hr1=>?_
 walk_at "ra"
 cases hx:row.getD a none with
 | none=>
  rw [if_pos (by rw [qz];rfl)]
  exact rz (qo Fr.refl .non) (qe hab (.inl hx))
 | some x=>
  rw [if_neg (by rw [qz];exact fun z=>nomatch z)]
  cases hy:row.getD b none with
  | none=>
   rw [if_pos (by rw [qz];rfl)]
   exact rz (qo Fr.refl .non) (qe hab (.inr hy))
  | some y=>
   rw [if_neg (by rw [qz];exact fun z=>nomatch z)]
   obtain ⟨x0,x1⟩:=Xg ok ha hx
   obtain ⟨y0,y1⟩:=Xg ok hb hy
   obtain ⟨m1,m2⟩:=Xa x0 x1
   obtain ⟨n1,n2⟩:=Xa (ms:=jV ms x) y0 (by rw [QN];exact y1)
   subst hr1
   rw [show cA (some x)=.d (.int x) from rfl,show cA (some y)=.d (.int y) from rfl]
   refine zi fun r1 hr1=>?_
   walk_at "ra"
   refine ⟨_,_,r.ins,R.cl,R.nr,_,rfl,_,rfl,_,r.row,_,c2,?_⟩
   rw [show (row.map cA).set a (.d (.int y))=(row.set a (some y)).map cA from Ax row a (some y),r.setRow]
   have r2:=r.to (row.set a (some y),hd) ms
   subst hr1
   refine zi fun r1 hr1=>?_
   walk_at "ra"
   refine ⟨_,_,r2.ins,R.cl,R.nr,_,rfl,_,rfl,_,r2.row,b,by rw [List.length_map,List.length_set,qU (by omega) (by show (b:Int)<row.length;have:b<row.length:=hb;omega),Int.toNat_natCast],?_⟩
   rw [show ((row.set a (some y)).map cA).set b (.d (.int x))=((row.set a (some y)).set b (some x)).map cA from Ax _ b (some x),r2.setRow,r.again]
   have r3:=r.to ((row.set a (some y)).set b (some x),hd) ms
   subst hr1
   refine zi fun r1 hr1=>?_
   walk_at "ra"
   refine ⟨_,_,r3.ins,R.cl,R.nm,_,rfl,_,jp r3.mvd,_,m1,_,rfl,_,rfl,_,r3.mvd,_,m2,?_⟩
   rw [ET,r3.setMv,r.again]
   have r4:=r.to ((row.set a (some y)).set b (some x),hd) (jV ms x)
   subst hr1
   walk_at "ra"
   refine ⟨_,_,r4.ins,R.cl,R.nm,_,rfl,_,jp r4.mvd,_,n1,_,rfl,_,rfl,_,r4.mvd,_,n2,?_⟩
   rw [ET,r4.setMv,r.again]
   exact ⟨_,_,r.fin _ _ .non,q hab x y hx hy⟩
theorem QP {a b c y:AV}:xC (Str.ofString "hand") y [(Str.ofString "row",a),(Str.ofString "hand",b),(Str.ofString "moved",c)]=[(Str.ofString "row",a),(Str.ofString "hand",y),(Str.ofString "moved",c)]:=by
 unfold xC;rw [if_neg (by decide +kernel)];unfold xC;rw [if_pos rfl]
noncomputable def V4 (C cB:Addr):xD:=fun xs M Q E=>∃ (p rw_ mv:Addr) (s:ES) (ms:List Int) (a:Nat),xs=[.ref p,.d (.int a)]/\qa C M p rw_ mv s ms/\a<s.1.length/\OkM s ms.length /\
 (s.2 ≠ none->E cB (wrd "full") M)/\(s.2=none->s.1.getD a none=none->E cB (wrd "empty") M) /\
 (s.2=none->∀ x,s.1.getD a none=some x->Q (.d .non) (rmP C M p rw_ mv (s.1.set a none,some x) (jV ms x)))
noncomputable abbrev Zy:Stmt:=(qM (top 15) 3)
theorem Ja:zt ["self","a"] ["self","a"] (zd Zy):=⟨rfl,rfl,rfl,by decide +kernel,rfl,by decide +kernel,by decide +kernel⟩
theorem Vo {C:Addr}(a:AtM K C "take" "Room.take" Zy)(R:RTx K C)(B:Blt mg){cBadDeed:Addr}(MX_BadDeed:MkX P w K mg base cBadDeed 2 1 fnW)(XG_BadDeed:mg "BadDeed"=some (.ref cBadDeed))(DM_lift:DmX P w K mg base C "lift" ["self","a"] 3 (jk (Wp C cBadDeed))):DmX P w K mg base C "take" ["self","a"] 4 (jk (V4 C cBadDeed)):=by
 refine Y6 (k:=3) a Ja (fun _ _ _ _ _ _=>Pn2_ fun _ _=>rfl) (fun xs M Q E h=>?_) (fun f cdv A outer s H HX OX MX E1 hr hD=>?_)
 ·obtain ⟨_,_,_,_,_,_,rfl,_⟩:=h;rfl
 have sc:=Ja
 have hsl:=hsl
 have CL:=R.cl
 refine ⟨_,(zc (zH (zn qX (qd (pv 0) rfl) zL (zr _)) (zf (qu hD rfl MX_BadDeed hr rfl XG_BadDeed (za zp zb))) zv)
  (zf (vR (pv 0) (xL CL DM_lift hr hD.passX (pv 0) (za (pv 1) zb)) rfl))),?_⟩
 refine exX (by walk_at "sim") ?_
 rintro xs Q E0 rfl ⟨p,rw_,mv,⟨row,hd⟩,ms,a,rfl,r,ha,ok,qf,qe,q⟩
 rw [show zO ["self","a"] [.ref p,.d (.int a)]=[some (.ref p),some (.d (.int a))] from rfl]
 refine zi fun r1 hr1=>?_
 walk_at "ra"
 refine ⟨_,_,r.ins,R.cl,R.nh,_,rfl,?_⟩
 cases hd with
 | some x=>
  rw [if_pos (by rw [qz];rfl)]
  exact rz (qo Fr.refl .non) (qf (fun z=>nomatch z))
 | none=>
  rw [if_neg (by rw [qz];exact fun z=>nomatch z)]
  subst hr1
  walk_at "ra"
  refine ⟨_,r.ins,rfl,p,rw_,mv,(row,none),ms,a,rfl,r,ha,ok,fun x hx=>?_,fun hx=>⟨_,qo Fr.refl .non,qe rfl hx⟩⟩
  have r2:=r.to (row.set a none,none) (jV ms x)
  refine ⟨_,_,r2.ins,R.cl,R.nh,Nat.lt_of_sub_eq_succ rfl,?_⟩
  rw [QP,show AV.d (.int x)=cA (some x) from rfl,r2.setHand,r.again]
  exact ⟨_,_,r.fin _ _ .non,q rfl x hx⟩
noncomputable def FM (C cB:Addr):xD:=fun xs M Q E=>∃ (p rw_ mv:Addr) (s:ES) (ms:List Int) (a b:Nat),xs=[.ref p,.d (.int a),.d (.int b)]/\qa C M p rw_ mv s ms/\a<s.1.length/\b<s.1.length/\OkM s ms.length /\
 (a=b->E cB (wrd "same") M)/\(a ≠ b->s.1.getD b none ≠ none->E cB (wrd "full") M)/\(a ≠ b->s.1.getD b none=none->s.1.getD a none=none->E cB (wrd "empty") M) /\
 (a ≠ b->s.1.getD b none=none->∀ x,s.1.getD a none=some x->Q (.d .non) (rmP C M p rw_ mv ((s.1.set a none).set b (some x),s.2) (jV ms x)))
noncomputable abbrev KG:Stmt:=(qM (top 15) 4)
theorem Xy:zt ["self","a","b"] ["self","a","b"] (zd KG):=⟨rfl,rfl,rfl,by decide +kernel,rfl,by decide +kernel,by decide +kernel⟩
theorem WX {C:Addr}(a:AtM K C "move" "Room.move" KG)(R:RTx K C)(B:Blt mg){cBadDeed:Addr}(MX_BadDeed:MkX P w K mg base cBadDeed 2 1 fnW)(XG_BadDeed:mg "BadDeed"=some (.ref cBadDeed))(DM_lift:DmX P w K mg base C "lift" ["self","a"] 3 (jk (Wp C cBadDeed))):DmX P w K mg base C "move" ["self","a","b"] 4 (jk (FM C cBadDeed)):=by
 refine Y6 (k:=3) a Xy (fun _ _ _ _ _ _=>Pn3_ fun _ _ _=>rfl) (fun xs M Q E h=>?_) (fun f cdv A outer s H HX OX MX E1 hr hD=>?_)
 ·obtain ⟨_,_,_,_,_,_,_,rfl,_⟩:=h;rfl
 have sc:=Xy
 have hsl:=hsl
 have CL:=R.cl
 refine ⟨_,(zc (zH (zn (zY hr.units) (pv 1) (pv 2) (zr _)) (zf (qu hD rfl MX_BadDeed hr rfl XG_BadDeed (za zp zb))) zv)
  (zc (zH (zn qX (zx zE (qd (pv 0) rfl) (pv 2) (fun _ _=>rfl)) zL (zr _)) (zf (qu hD rfl MX_BadDeed hr rfl XG_BadDeed (za zp zb))) zv)
  (zf (qy (xL CL DM_lift hr hD.passX (pv 0) (za (pv 1) zb)) (qO (qd (pv 0) rfl) (pv 2) zI))))),?_⟩
 refine exX (by walk_at "sim") ?_
 rintro xs Q E0 rfl ⟨p,rw_,mv,⟨row,hd⟩,ms,a,b,rfl,r,ha,hb,ok,qs,qf,qe,q⟩
 rw [show zO ["self","a","b"] [.ref p,.d (.int a),.d (.int b)]=[some (.ref p),some (.d (.int a)),some (.d (.int b))] from rfl]
 refine zi fun r1 hr1=>?_
 walk_at "ra"
 by_cases hab:a=b
 ·rw [if_pos (by rw [hab])]
  exact rz (qo Fr.refl .non) (qs hab)
 rw [if_neg (by omega)]
 subst hr1
 obtain ⟨d1,d2⟩:=yf hb
 refine zi fun r1 hr1=>?_
 walk_at "ra"
 refine ⟨_,_,r.ins,R.cl,R.nr,_,rfl,_,qk r.row,_,d1,?_⟩
 cases hy:row.getD b none with
 | some y=>
  rw [if_pos (by rw [qz];rfl)]
  exact rz (qo Fr.refl .non) (qf hab (by rw [hy];exact fun z=>nomatch z))
 | none=>
  rw [if_neg (by rw [qz];exact fun z=>nomatch z)]
  subst hr1
  walk_at "ra"
  refine ⟨_,r.ins,rfl,p,rw_,mv,(row,hd),ms,a,rfl,r,ha,ok,fun x hx=>?_,fun hx=>⟨_,qo Fr.refl .non,qe hab hy hx⟩⟩
  have r2:=r.to (row.set a none,hd) (jV ms x)
  refine ⟨_,_,r2.ins,R.cl,R.nr,_,rfl,_,rfl,_,r2.row,b,by rw [List.length_map,List.length_set,qU (by omega) (by show (b:Int)<row.length;have:b<row.length:=hb;omega),Int.toNat_natCast],?_⟩
  rw [show ((row.set a none).map cA).set b (.d (.int x))=((row.set a none).set b (some x)).map cA from Ax _ b (some x),r2.setRow,r.again]
  exact ⟨_,_,r.fin _ _ .non,q hab hy x hx⟩
noncomputable def Lh (C cB:Addr):xD:=fun xs M Q E=>∃ (p rw_ mv:Addr) (s:ES) (ms:List Int) (b:Nat),xs=[.ref p,.d (.int b)]/\qa C M p rw_ mv s ms/\b<s.1.length/\OkM s ms.length /\
 (s.1.getD b none ≠ none->E cB (wrd "full") M)/\(s.1.getD b none=none->s.2=none->E cB (wrd "empty") M) /\
 (s.1.getD b none=none->∀ x,s.2=some x->Q (.d .non) (rmP C M p rw_ mv (s.1.set b (some x),none) (jV ms x)))
noncomputable abbrev BY:Stmt:=(qM (top 15) 5)
theorem BK:zt ["self","b"] ["self","b"] (zd BY):=⟨rfl,rfl,rfl,by decide +kernel,rfl,by decide +kernel,by decide +kernel⟩
theorem Ft {C:Addr}(a:AtM K C "lay" "Room.lay" BY)(R:RTx K C)(B:Blt mg){cBadDeed:Addr}(MX_BadDeed:MkX P w K mg base cBadDeed 1 1 fnW)(XG_BadDeed:mg "BadDeed"=some (.ref cBadDeed)):DmX P w K mg base C "lay" ["self","b"] 3 (jk (Lh C cBadDeed)):=by
 refine Y6 (k:=2) a BK (fun _ _ _ _ _ _=>Pn2_ fun _ _=>rfl) (fun xs M Q E h=>?_) (fun f cdv A outer s H HX OX MX E1 hr hD=>?_)
 ·obtain ⟨_,_,_,_,_,_,rfl,_⟩:=h;rfl
 have sc:=BK
 have hsl:=hsl
 have CL:=R.cl
 refine ⟨_,(zc (zH (zn qX (zx zE (qd (pv 0) rfl) (pv 1) (fun _ _=>rfl)) zL (zr _)) (zf (qu hD rfl MX_BadDeed hr rfl XG_BadDeed (za zp zb))) zv)
  (zc (zH (zn kj (qd (pv 0) rfl) zL (zr _)) (zf (qu hD rfl MX_BadDeed hr rfl XG_BadDeed (za zp zb))) zv)
  (zc (qy (qd (pv 0) rfl) (qO (qd (pv 0) rfl) (pv 1) zI))
  (zc (vn (qd (pv 0) rfl) (qd (pv 0) rfl) xq ze ZK zI)
  (zf (vR (pv 0) zL rfl)))))),?_⟩
 refine exX (by walk_at "sim") ?_
 rintro xs Q E0 rfl ⟨p,rw_,mv,⟨row,hd⟩,ms,b,rfl,r,hb,ok,qf,qe,q⟩
 rw [show zO ["self","b"] [.ref p,.d (.int b)]=[some (.ref p),some (.d (.int b))] from rfl]
 obtain ⟨d1,d2⟩:=yf hb
 refine zi fun r1 hr1=>?_
 walk_at "ra"
 refine ⟨_,_,r.ins,R.cl,R.nr,_,rfl,_,qk r.row,_,d1,?_⟩
 cases hy:row.getD b none with
 | some y=>
  rw [if_pos (by rw [qz];rfl)]
  exact rz (qo Fr.refl .non) (qf (by rw [hy];exact fun z=>nomatch z))
 | none=>
  rw [if_neg (by rw [qz];exact fun z=>nomatch z)]
  subst hr1
  refine zi fun r1 hr1=>?_
  walk_at "ra"
  refine ⟨_,_,r.ins,R.cl,R.nh,_,rfl,?_⟩
  cases hd with
  | none=>
   rw [if_pos (by rw [qz];rfl)]
   exact rz (qo Fr.refl .non) (qe hy rfl)
  | some x=>
   rw [if_neg (by rw [qz];exact fun z=>nomatch z)]
   obtain ⟨x0,x1⟩:=ok.2 x rfl
   obtain ⟨m1,m2⟩:=Xa x0 x1
   subst hr1
   refine zi fun r1 hr1=>?_
   walk_at "ra"
   refine ⟨_,_,r.ins,R.cl,R.nh,_,rfl,_,_,r.ins,R.cl,R.nr,_,rfl,_,rfl,_,r.row,_,d2,?_⟩
   rw [show (row.map cA).set b (cA (some x))=(row.set b (some x)).map cA from Ax row b (some x),r.setRow]
   have r2:=r.to (row.set b (some x),some x) ms
   subst hr1
   refine zi fun r1 hr1=>?_
   walk_at "ra"
   refine ⟨_,_,r2.ins,R.cl,R.nm,_,rfl,_,_,r2.ins,R.cl,R.nh,_,rfl,_,jp r2.mvd,_,rfl,_,m1,_,rfl,_,rfl,_,_,rfl,r2.mvd,_,m2,?_⟩
   rw [ET,r2.setMv,r.again]
   have r3:=r.to (row.set b (some x),some x) (jV ms x)
   subst hr1
   walk_at "ra"
   refine ⟨_,_,r3.ins,R.cl,R.nh,Nat.lt_of_sub_eq_succ rfl,?_⟩
   rw [QP,show AV.d .non=cA none from rfl,r3.setHand,r.again]
   exact ⟨_,_,r.fin _ _ .non,q hy x rfl⟩
noncomputable abbrev xJ:Stmt:=top 10
theorem yQ:zt ["thing","n"] ["thing","n"] (zd xJ):=⟨rfl,rfl,rfl,by decide +kernel,rfl,by decide +kernel,by decide +kernel⟩
noncomputable def zT (d:Dat)(n:Int):Bool:=match d with
 | .int i=>decide (0<=i/\i<n)
 | _=>false
noncomputable def Qx:ASp:=fun xs M Q=>∃ (d:Dat) (n:Int),xs=[.d d,.d (.int n)]/\dp d<=100/\Q (.d (.bl (zT d n))) M
theorem QU (a:At K mg "is_place" xJ)(B:Blt mg):Df P w K mg base "is_place" ["thing","n"] 1 (cSp Qx):=by
 refine dfA (k:=0) a yQ (fun _ _ _ _ _ _=>Pn2_ fun _ _=>rfl) (fun xs M Q h=>?_) (fun f cdv A outer s H E hr=>?_)
 ·obtain ⟨_,_,rfl,_⟩:=h;rfl
 have sc:=yQ
 have hsl:=hsl
 refine ⟨_,(zc (zH (PW.pt (jS (qJ (zm zU rfl B.isinstance zq (za (pv 0) (za (zS (v:=.ty "bool") rfl B.bool vf rfl) zb))) (fun _=>rfl)) (jx (jM (qJ (zm zU rfl B.isinstance zq (za (pv 0) (za (zS (v:=.ty "int") rfl B.int yC rfl) zb))) (fun _=>rfl)))))) (zf (zA vG)) zv)
  (zf (zA (WO FJ Gk ze (pv 0) (pv 1))))),?_⟩
 refine ex2 (by walk_at "sim") ?_
 rintro xs M Q ⟨d,n,rfl,hd,q⟩
 rw [show zO ["thing","n"] [.d d,.d (.int n)]=[some (.d d),some (.d (.int n))] from rfl]
 have fin:=fun b=>qo (M0:=M) Fr.refl (.bl b)
 cases d with
 | non=>walk_at "ra";exact ⟨_,_,fin _,q⟩
 | bl b=>walk_at "ra";exact ⟨_,_,fin _,q⟩
 | str b=>walk_at "ra";exact ⟨_,_,fin _,q⟩
 | lst b=>walk_at "ra";exact ⟨_,_,fin _,q⟩
 | tup b=>walk_at "ra";exact ⟨_,_,fin _,q⟩
 | int i=>
  walk_at "ra"
  have q:Q (.d (.bl (decide (0<=i/\i<n)))) M:=q
  by_cases c:0<=i
  ·rw [if_pos c]
   rw [show decide (0<=i/\i<n)=decide (i<n) by simp [c]] at q
   walk_at "ra"
   exact ⟨_,_,fin _,q⟩
  ·rw [if_neg c]
   rw [show decide (0<=i/\i<n)=false by simp [c]] at q
   walk_at "ra"
   exact ⟨_,_,fin _,q⟩
 | ty _=>rw [dp] at hd;omega
 | rng _ _ _=>rw [dp] at hd;omega
 | scr _ _=>rw [dp] at hd;omega
noncomputable abbrev EL:List (Key × V):=[(Sum.inr (Str.ofString "swap"),.int 2),(Sum.inr (Str.ofString "take"),.int 1),(Sum.inr (Str.ofString "move"),.int 2),(Sum.inr (Str.ofString "lay"),.int 1)]
noncomputable def jg (w:Str):Option Int:=if w=Str.ofString "swap" then some 2 else if w=Str.ofString "take" then some 1 else if w=Str.ofString "move" then some 2 else if w=Str.ofString "lay" then some 1 else none
noncomputable def oD:Option Int->Dat
 | none=>.non
 | some x=>.int x
theorem Im (w:Str):Xo ((vE EL (Sum.inr w)).getD .non)=some (oD (jg w)):=by
 unfold jg vE
 by_cases c1:w=Str.ofString "swap"
 ·subst c1;rfl
 rw [if_neg c1]
 by_cases c2:w=Str.ofString "take"
 ·subst c2;rfl
 rw [if_neg c2]
 by_cases c3:w=Str.ofString "move"
 ·subst c3;rfl
 rw [if_neg c3]
 by_cases c4:w=Str.ofString "lay"
 ·subst c4;rfl
 rw [if_neg c4]
 have n:∀ x:Str,w ≠ x->¬ decide ((Sum.inr x:Key)=Sum.inr w)=true:=fun x h z=>h (Sum.inr.inj (of_decide_eq_true z)).symm
 simp only [List.find?_cons,n _ c1,n _ c2,n _ c3,n _ c4,List.find?_nil]
 rfl
theorem ya:∀ {l:List Dat} {n:Nat},dps l<=n->∀ d ∈ l,dp d<=n
 | a :: r,n,h,d,hd=>by
  rw [dps] at h
  rcases List.mem_cons.mp hd with rfl | hd
  ·omega
  ·exact ya (by omega) d hd
noncomputable def zV (x:Dat)(n:Int):Bool:=match x with
 | .tup (.str w :: ps)=>jg w == some (ps.length:Int) && ps.all (zT · n)
 | _=>false
noncomputable def XQ:ASp:=fun xs M Q=>∃ (x:Dat) (n:Int),xs=[.d x,.d (.int n)]/\dp x<=40/\(∀ l,x=.tup l->l.length<=1000)/\Q (.d (.bl (zV x n))) M
noncomputable abbrev vN:Stmt:=top 14
theorem wX:zt ["thing","n","word","part"] ["thing","n"] (zd vN):=⟨rfl,rfl,rfl,by decide +kernel,rfl,by decide +kernel,by decide +kernel⟩
theorem YM (a:At K mg "is_deed" vN)(B:Blt mg)(Ball:mg "all"=none)(D_is_place:Df P w K mg base "is_place" ["thing","n"] 1 (cSp Qx)){pa:Addr}(KP:KD K w pa EL)(MP:mg "PLACES_OF"=some (.ref pa)):Df P w K mg base "is_deed" ["thing","n"] 2 (cSp XQ):=by
 refine dfA (k:=1) a wX (fun _ _ _ _ _ _=>Pn2_ fun _ _=>rfl) (fun xs M Q h=>?_) (fun f cdv A outer s H E hr=>?_)
 ·obtain ⟨_,_,rfl,_⟩:=h;rfl
 have sc:=wX
 have hsl:=hsl
 refine ⟨_,(zc (zH (PW.pt (jS (jM (qJ (zm zU rfl B.isinstance zq (za (pv 0) (za (zS (v:=.ty "tuple") rfl B.tuple jb rfl) zb))) (fun _=>rfl))) (jx (zn (zY hr.units) (zm zw rfl B.len qg (za (pv 0) zb)) ze (zr _))))) (zf (zA vG)) zv)
  (zc (zN (i:=2) sc.nd rfl (by first | exact Or.inl rfl | exact Or.inr rfl) (zx zE (pv 0) ze (fun _ _=>rfl)))
  (zc (zH (PW.pt (jS (jM (qJ (zm zU rfl B.isinstance zq (za (pv 2) (za (zS (v:=.ty "str") rfl B.str xI rfl) zb))) (fun _=>rfl))) (jx (zn (jv hr.units) (FA KP rfl MP (pv 2) ⟨rfl,rfl,rfl,rfl⟩) (zJ vS (zm zw rfl B.len qg (za (pv 0) zb)) ze) (zr _))))) (zf (zA vG)) zv)
  (zf (zA (zm (wG rfl) rfl Ball VE (za (vt (ts:=[3]) rfl rfl (KW (j6 Qd (pv 0) (jT ze) vd)) (fun _ _ _ _=>(zD (i:=3) sc.nd rfl (by first | exact Or.inl rfl | exact Or.inr rfl))) (fun _ _ _ _=>vg) (fun _ _ _ _=>(zZ D_is_place hr rfl (za (pv 3) (za (pv 1) zb))))) zb))))))),?_⟩
 refine ex2 (by walk_at "sim") ?_
 rintro xs M Q ⟨x,n,rfl,hd,hl,q⟩
 rw [show zO ["thing","n","word","part"] [.d x,.d (.int n)]=[some (.d x),some (.d (.int n)),none,none] from rfl]
 have fin:=fun b=>qo (M0:=M) Fr.refl (.bl b)
 refine zi fun r1 hr1=>?_
 cases x with
 | non=>walk_at "ra";exact ⟨_,_,fin _,q⟩
 | bl b=>walk_at "ra";exact ⟨_,_,fin _,q⟩
 | str b=>walk_at "ra";exact ⟨_,_,fin _,q⟩
 | lst b=>walk_at "ra";exact ⟨_,_,fin _,q⟩
 | int i=>walk_at "ra";exact ⟨_,_,fin _,q⟩
 | ty _=>rw [dp] at hd;omega
 | rng _ _ _=>rw [dp] at hd;omega
 | scr _ _=>rw [dp] at hd;omega
 | tup l=>
  have hl:=hl l rfl
  walk_at "ra"
  cases l with
  | nil=>walk_at "ra";exact ⟨_,_,fin _,q⟩
  | cons w ps=>
   rw [if_neg (by rw [List.length_cons];omega)]
   subst hr1
   refine zi fun r1 hr1=>?_
   walk_at "ra"
   have a0:atI (AV.d w :: ps.map AV.d) 0=some (.d w):=by
    unfold atI
    rw [qU (by omega) (by rw [List.length_cons];omega)]
    rfl
   refine ⟨_,a0,?_⟩
   have dw:dps (w :: ps)<=39:=by rw [dp] at hd;omega
   have dwi:∀ d ∈ w :: ps,dp d<=39:=ya dw
   subst hr1
   refine zi fun r1 hr1=>?_
   have no:(∀ t,w ≠ .str t)->Q (.d (.bl false)) M:=fun h=>by
    have e:zV (.tup (w :: ps)) n=false:=by
     unfold zV
     split
     ·rename_i w' ps' z
      cases z
      exact absurd rfl (h _)
     ·rfl
    rw [e] at q;exact q
   have dpw:=dwi w List.mem_cons_self
   cases w with
   | non=>walk_at "ra";exact ⟨_,_,fin _,no fun _ z=>nomatch z⟩
   | bl b=>walk_at "ra";exact ⟨_,_,fin _,no fun _ z=>nomatch z⟩
   | lst b=>walk_at "ra";exact ⟨_,_,fin _,no fun _ z=>nomatch z⟩
   | tup b=>walk_at "ra";exact ⟨_,_,fin _,no fun _ z=>nomatch z⟩
   | int i=>walk_at "ra";exact ⟨_,_,fin _,no fun _ z=>nomatch z⟩
   | ty _=>rw [dp] at dpw;omega
   | rng _ _ _=>rw [dp] at dpw;omega
   | scr _ _=>rw [dp] at dpw;omega
   | str t=>
    walk_at "ra"
    refine ⟨_,Im t,?_,?_⟩
    ·cases jg t <;> simp [oD,dp]
    have ee:eqD (oD (jg t)) (.int (((ps.length+1:Nat):Int) - 1))=(jg t == some (ps.length:Int)):=by
     cases jg t with
     | none=>show eqD .non (.int _)=_;rw [Bw];rfl
     | some k=>
      show eqD (.int k) (.int _)=_
      rw [xK,show ((ps.length+1:Nat):Int) - 1=ps.length by omega]
      by_cases c:k=(ps.length:Int)
      ·simp [c]
      ·simp [c]
    rw [ee]
    have q:Q (.d (.bl (jg t == some (ps.length:Int) && ps.all (zT · n)))) M:=q
    cases hp:jg t == some (ps.length:Int) with
    | false=>
     rw [if_pos rfl]
     rw [hp,Bool.false_and] at q
     exact ⟨_,_,fin _,q⟩
    | true=>
     rw [if_neg (fun z=>nomatch z)]
     rw [hp,Bool.true_and] at q
     subst hr1
     walk_at "ra"
     have ec:wC (Dat.str t :: ps) (some 1) none=ps:=by
      rw [show (some 1:Option Int)=some ((1:Nat):Int) from rfl,wQ];rfl
     rw [ec]
     refine ⟨?_,?_⟩
     ·rintro ⟨z,_⟩
      unfold HT.sIx at z
      simp at z
      try omega
     refine KF (fun (o:Option AV)=>[some (.d (.tup (.str t :: ps))),some (.d (.int n)),some (.d (.str t)),o]) (fun x=>match x with | .d d=>.d (.bl (zT d n)) | x=>x) ⟨_,rfl⟩ trivial (by rw [List.length_map];rw [List.length_cons] at hl;omega) (fun o x Q hx q=>?_) fun o=>?_
     ·obtain ⟨d,hd,rfl⟩:=List.mem_map.mp hx
      walk_at "ra"
      exact ⟨d,n,rfl,by have:=dwi d (List.mem_cons_of_mem _ hd);omega,q (some (.d d))⟩
     ·refine ⟨ps.map fun d=>.bl (zT d n),by rw [List.map_map,<- zX (ps.map fun d=>.bl (zT d n)),List.map_map];rfl,ps.map (zT · n),by rw [List.map_map,List.map_map];rfl,?_⟩
      rw [List.all_map]
      exact ⟨_,_,fin _,q⟩
theorem Ys {pa:Addr}{t1 t2 t3 t4 u1 u2 u3 u4:Tok}{ep:Nat}(lP:K.lookup pa=some ⟨.type "dict",none,.dict #[⟨hashStr w "swap",.str "swap" t1,.int 2 u1⟩,⟨hashStr w "take",.str "take" t2,.int 1 u2⟩,⟨hashStr w "move",.str "move" t3,.int 2 u3⟩,⟨hashStr w "lay",.str "lay" t4,.int 1 u4⟩] ep,#[]⟩)(nP:(pa == sysModules)=false):KD K w pa EL:=by
 refine ⟨⟨_,_,lP,fun P=>?_⟩,nP⟩
 refine ⟨fun e he=>?_,[(Sum.inr "swap",.int 2 u1),(Sum.inr "take",.int 1 u2),(Sum.inr "move",.int 2 u3),(Sum.inr "lay",.int 1 u4)],?_,?_,by show ([Sum.inr (Str.ofString "swap"),Sum.inr (Str.ofString "take"),Sum.inr (Str.ofString "move"),Sum.inr (Str.ofString "lay")]:List Key).Nodup;decide +kernel⟩
 ·have he:e ∈ [_,_,_,_]:=Array.mem_toList_iff.mpr he
  rcases List.mem_cons.mp he with z | he
  ·exact ⟨Sum.inr "swap",by rw [z];rfl,by rw [z];rfl⟩
  rcases List.mem_cons.mp he with z | he
  ·exact ⟨Sum.inr "take",by rw [z];rfl,by rw [z];rfl⟩
  rcases List.mem_cons.mp he with z | he
  ·exact ⟨Sum.inr "move",by rw [z];rfl,by rw [z];rfl⟩
  rw [List.mem_singleton.mp he]
  exact ⟨Sum.inr "lay",rfl,rfl⟩
 ·exact .cons ⟨rfl,_,rfl⟩ (.cons ⟨rfl,_,rfl⟩ (.cons ⟨rfl,_,rfl⟩ (.cons ⟨rfl,_,rfl⟩ .nil)))
 ·exact .cons rfl rfl (.cons rfl rfl (.cons rfl rfl (.cons rfl rfl .nil)))
noncomputable abbrev RS:=ES × List Int
noncomputable def qV (s:ES)(ms:List Int)(a b:Nat):Except String RS:=if a=b then .error "same" else match s.1.getD a none,s.1.getD b none with
 | some x,some y=>.ok (((s.1.set a (some y)).set b (some x),s.2),jV (jV ms x) y)
 | _,_=>.error "empty"
noncomputable def qP (s:ES)(ms:List Int)(a b:Nat):Except String RS:=if a=b then .error "same" else match s.1.getD b none with
 | some _=>.error "full"
 | none=>match s.1.getD a none with
  | some x=>.ok (((s.1.set a none).set b (some x),s.2),jV ms x)
  | none=>.error "empty"
noncomputable def qY (s:ES)(ms:List Int)(a:Nat):Except String RS:=match s.2 with
 | some _=>.error "full"
 | none=>match s.1.getD a none with
  | some x=>.ok ((s.1.set a none,some x),jV ms x)
  | none=>.error "empty"
noncomputable def kz (s:ES)(ms:List Int)(b:Nat):Except String RS:=match s.1.getD b none with
 | some _=>.error "full"
 | none=>match s.2 with
  | some x=>.ok ((s.1.set b (some x),none),jV ms x)
  | none=>.error "empty"
noncomputable def iN:Dat->Nat
 | .int i=>i.toNat
 | _=>0
noncomputable def doR (s:ES)(ms:List Int)(x:Dat):Except String RS:=if zV x s.1.length=true then (match x with
  | .tup (.str w :: ps)=>if w=Str.ofString "swap" then qV s ms (iN (ps.getD 0 .non)) (iN (ps.getD 1 .non)) else if w=Str.ofString "take" then qY s ms (iN (ps.getD 0 .non)) else if w=Str.ofString "move" then qP s ms (iN (ps.getD 0 .non)) (iN (ps.getD 1 .non)) else kz s ms (iN (ps.getD 0 .non))
  | _=>.error "form") else .error "form"
theorem xp {x:Dat} (h:zV x n=true):∃ (w:Str) (ps:List Dat),x=.tup (.str w :: ps)/\jg w=some (ps.length:Int)/\∀ d ∈ ps,∃ k:Nat,d=.int k/\k<n:=by
 unfold zV at h
 split at h
 ·rename_i w ps
  rw [Bool.and_eq_true] at h
  refine ⟨w,ps,rfl,eq_of_beq h.1,fun d hd=>?_⟩
  have:=List.all_eq_true.mp h.2 d hd
  cases d with
  | int i=>
   have:decide (0<=i/\i<(n:Int))=true:=this
   have:=of_decide_eq_true this
   exact ⟨i.toNat,by rw [Int.toNat_of_nonneg this.1],by omega⟩
  | _=>cases this
 ·cases h
theorem yG {w:Str}{ps:List Dat}{n:Nat}(h:jg w=some (ps.length:Int))(hp:∀ d ∈ ps,∃ k:Nat,d=.int k/\k<n)(hw:w=Str.ofString "swap" \/ w=Str.ofString "move"):∃ a b:Nat,ps=[.int a,.int b]/\a<n/\b<n:=by
 have e:jg w=some 2:=by rcases hw with rfl | rfl <;> rfl
 rw [e] at h
 have hl:ps.length=2:=by injection h with h;omega
 match ps,hl with
 | [x,y],_=>
  obtain ⟨a,rfl,ha⟩:=hp x (by simp)
  obtain ⟨b,rfl,hb⟩:=hp y (by simp)
  exact ⟨a,b,rfl,ha,hb⟩
theorem yK {w:Str} (h:jg w=some (ps.length:Int))(hp:∀ d ∈ ps,∃ k:Nat,d=.int k/\k<n)(h1:w ≠ Str.ofString "swap")(h2:w ≠ Str.ofString "move"):∃ a:Nat,ps=[.int a]/\a<n:=by
 have e:jg w=some 1 \/ jg w=none:=by
  unfold jg
  rw [if_neg h1]
  by_cases c:w=Str.ofString "take"
  ·rw [if_pos c];exact .inl rfl
  rw [if_neg c,if_neg h2]
  by_cases c:w=Str.ofString "lay"
  ·rw [if_pos c];exact .inl rfl
  rw [if_neg c];exact .inr rfl
 rcases e with e | e <;> rw [e] at h
 ·have hl:ps.length=1:=by injection h with h;omega
  match ps,hl with
  | [x],_=>
   obtain ⟨a,rfl,ha⟩:=hp x (by simp)
   exact ⟨a,rfl,ha⟩
 ·cases h
noncomputable def aDo (C cB:Addr):xD:=fun xs M Q E=>∃ (p rw_ mv:Addr) (s:ES) (ms:List Int) (x:Dat),xs=[.ref p,.d x]/\qa C M p rw_ mv s ms/\OkM s ms.length/\dp x<=40/\(∀ l,x=.tup l->l.length<=1000) /\
 (∀ w,doR s ms x=.error w->E cB (wrd w) M)/\(∀ t,doR s ms x=.ok t->Q (.d .non) (rmP C M p rw_ mv t.1 t.2))
noncomputable abbrev Hu:Stmt:=(qM (top 15) 1)
theorem FV:zt ["self","thing","word"] ["self","thing"] (zd Hu):=⟨rfl,rfl,rfl,by decide +kernel,rfl,by decide +kernel,by decide +kernel⟩
theorem HL {C:Addr}(a:AtM K C "do" "Room.do" Hu)(R:RTx K C)(B:Blt mg){cBadDeed:Addr}(MX_BadDeed:MkX P w K mg base cBadDeed 3 1 fnW)(XG_BadDeed:mg "BadDeed"=some (.ref cBadDeed))(D_is_deed:Df P w K mg base "is_deed" ["thing","n"] 4 (cSp XQ))(DM_swap:DmX P w K mg base C "swap" ["self","a","b"] 4 (jk (FG C cBadDeed)))(DM_take:DmX P w K mg base C "take" ["self","a"] 4 (jk (V4 C cBadDeed)))(DM_move:DmX P w K mg base C "move" ["self","a","b"] 4 (jk (FM C cBadDeed)))(DM_lay:DmX P w K mg base C "lay" ["self","b"] 4 (jk (Lh C cBadDeed))):DmX P w K mg base C "do" ["self","thing"] 5 (jk (aDo C cBadDeed)):=by
 refine Y6 (k:=4) a FV (fun _ _ _ _ _ _=>Pn2_ fun _ _=>rfl) (fun xs M Q E h=>?_) (fun f cdv A outer s H HX OX MX E1 hr hD=>?_)
 ·obtain ⟨_,_,_,_,_,_,rfl,_⟩:=h;rfl
 have sc:=FV
 have hsl:=hsl
 have CL:=R.cl
 refine ⟨_,(zc (zH (jM (qJ (zZ D_is_deed hr rfl (za (pv 1) (za (zm zw rfl B.len qg (za (qd (pv 0) rfl) zb)) zb))) (fun _=>rfl))) (zf (qu hD rfl MX_BadDeed hr rfl XG_BadDeed (za zp zb))) zv)
  (zc (zN (i:=2) sc.nd rfl (by first | exact Or.inl rfl | exact Or.inr rfl) (zx zE (pv 1) ze (fun _ _=>rfl)))
  (zf (zH (zn (zY hr.units) (pv 2) zp (zr _)) (zf (qS (xL CL DM_swap hr hD.passX (pv 0) (za (zx zE (pv 1) ze (fun _ _=>rfl)) (za (zx zE (pv 1) ze (fun _ _=>rfl)) zb))))) (zf (zH (zn (zY hr.units) (pv 2) zp (zr _)) (zf (qS (xL CL DM_take hr hD.passX (pv 0) (za (zx zE (pv 1) ze (fun _ _=>rfl)) zb)))) (zf (zH (zn (zY hr.units) (pv 2) zp (zr _)) (zf (qS (xL CL DM_move hr hD.passX (pv 0) (za (zx zE (pv 1) ze (fun _ _=>rfl)) (za (zx zE (pv 1) ze (fun _ _=>rfl)) zb))))) (zf (qS (xL CL DM_lay hr hD.passX (pv 0) (za (zx zE (pv 1) ze (fun _ _=>rfl)) zb)))))))))))),?_⟩
 refine exX (by walk_at "sim") ?_
 rintro xs Q E0 rfl ⟨p,rw_,mv,⟨row,hd⟩,ms,x,rfl,r,ok,hdp,hl,qe,q⟩
 rw [show zO ["self","thing","word"] [.ref p,.d x]=[some (.ref p),some (.d x),none] from rfl]
 refine zi fun r1 hr1=>?_
 walk_at "ra"
 refine ⟨_,_,r.ins,R.cl,R.nr,_,rfl,_,qk r.row,x,row.length,by rw [List.length_map],hdp,hl,_,rfl,?_⟩
 cases hf:zV x row.length with
 | false=>
  rw [if_pos rfl]
  exact rz (qo Fr.refl .non) (qe "form" (by unfold doR;rw [if_neg (by show ¬ zV x row.length=true;rw [hf];exact fun z=>nomatch z)]))
 | true=>
  rw [if_neg (fun z=>nomatch z)]
  obtain ⟨w,ps,rfl,hpl,hps⟩:=xp hf
  have ed:doR (row,hd) ms (.tup (.str w :: ps))=if w=Str.ofString "swap" then qV (row,hd) ms (iN (ps.getD 0 .non)) (iN (ps.getD 1 .non)) else if w=Str.ofString "take" then qY (row,hd) ms (iN (ps.getD 0 .non)) else if w=Str.ofString "move" then qP (row,hd) ms (iN (ps.getD 0 .non)) (iN (ps.getD 1 .non)) else kz (row,hd) ms (iN (ps.getD 0 .non)):=by
   unfold doR;rw [if_pos (show zV (.tup (.str w :: ps)) row.length=true from hf)]
  rw [ed] at qe q
  subst hr1
  refine zi fun r1 hr1=>?_
  walk_at "ra"
  have a0:atI (AV.d (.str w) :: ps.map AV.d) 0=some (.d (.str w)):=by
   unfold atI
   rw [qU (by omega) (by rw [List.length_cons];omega)]
   rfl
  refine ⟨_,a0,?_⟩
  subst hr1
  walk_at "ra"
  have f0:=qo (M0:=MX) Fr.refl .non
  by_cases w1:w=Str.ofString "swap"
  ·rw [if_pos w1] at qe q ⊢
   obtain ⟨a,b,rfl,ha,hb⟩:=yG hpl hps (.inl w1)
   have qe:∀ w,qV (row,hd) ms a b=.error w->E0 cBadDeed (wrd w) MX:=qe
   have q:∀ t,qV (row,hd) ms a b=.ok t->Q (.d .non) (rmP C MX p rw_ mv t.1 t.2):=q
   refine ⟨_,r.ins,rfl,_,rfl,_,rfl,p,rw_,mv,(row,hd),ms,a,b,rfl,r,ha,hb,ok,fun hab=>⟨_,f0,qe "same" (by unfold qV;rw [if_pos hab])⟩,fun hab hh=>⟨_,f0,qe "empty" ?_⟩,fun hab x y hx hy=>⟨_,_,r.fin _ _ .non,q (_,_) ?_⟩⟩
   ·unfold qV
    rw [if_neg hab]
    dsimp only at hh ⊢
    rcases hh with hh | hh
    ·rw [hh]
    ·rw [hh];cases row.getD a none <;> rfl
   ·unfold qV
    rw [if_neg hab]
    dsimp only at hx hy ⊢
    rw [hx,hy];rfl
  rw [if_neg w1] at qe q ⊢
  by_cases w2:w=Str.ofString "take"
  ·rw [if_pos w2] at qe q ⊢
   obtain ⟨a,rfl,ha⟩:=yK hpl hps w1 (by rw [w2];decide +kernel)
   have qe:∀ w,qY (row,hd) ms a=.error w->E0 cBadDeed (wrd w) MX:=qe
   have q:∀ t,qY (row,hd) ms a=.ok t->Q (.d .non) (rmP C MX p rw_ mv t.1 t.2):=q
   refine ⟨_,r.ins,rfl,_,rfl,p,rw_,mv,(row,hd),ms,a,rfl,r,ha,ok,fun hh=>⟨_,f0,qe "full" ?_⟩,fun hh hx=>⟨_,f0,qe "empty" ?_⟩,fun hh x hx=>⟨_,_,r.fin _ _ .non,q (_,_) ?_⟩⟩
   ·unfold qY
    cases hd with
    | none=>exact absurd rfl hh
    | some y=>rfl
   ·unfold qY
    dsimp only at hh hx ⊢
    rw [hh];dsimp only;rw [hx]
   ·unfold qY
    dsimp only at hh hx ⊢
    rw [hh];dsimp only;rw [hx];rfl
  rw [if_neg w2] at qe q ⊢
  by_cases w3:w=Str.ofString "move"
  ·rw [if_pos w3] at qe q ⊢
   obtain ⟨a,b,rfl,ha,hb⟩:=yG hpl hps (.inr w3)
   have qe:∀ w,qP (row,hd) ms a b=.error w->E0 cBadDeed (wrd w) MX:=qe
   have q:∀ t,qP (row,hd) ms a b=.ok t->Q (.d .non) (rmP C MX p rw_ mv t.1 t.2):=q
   refine ⟨_,r.ins,rfl,_,rfl,_,rfl,p,rw_,mv,(row,hd),ms,a,b,rfl,r,ha,hb,ok,fun hab=>⟨_,f0,qe "same" (by unfold qP;rw [if_pos hab])⟩,fun hab hh=>⟨_,f0,qe "full" ?_⟩,fun hab hb' hx=>⟨_,f0,qe "empty" ?_⟩,fun hab hb' x hx=>⟨_,_,r.fin _ _ .non,q (_,_) ?_⟩⟩
   ·unfold qP
    rw [if_neg hab]
    dsimp only at hh ⊢
    cases z:row.getD b none with
    | none=>exact absurd z hh
    | some y=>rfl
   ·unfold qP
    rw [if_neg hab]
    dsimp only at hb' hx ⊢
    rw [hb'];dsimp only;rw [hx]
   ·unfold qP
    rw [if_neg hab]
    dsimp only at hb' hx ⊢
    rw [hb'];dsimp only;rw [hx];rfl
  rw [if_neg w3] at qe q ⊢
  obtain ⟨b,rfl,hb⟩:=yK hpl hps w1 w3
  have qe:∀ w,kz (row,hd) ms b=.error w->E0 cBadDeed (wrd w) MX:=qe
  have q:∀ t,kz (row,hd) ms b=.ok t->Q (.d .non) (rmP C MX p rw_ mv t.1 t.2):=q
  refine ⟨_,r.ins,rfl,_,rfl,p,rw_,mv,(row,hd),ms,b,rfl,r,hb,ok,fun hh=>⟨_,f0,qe "full" ?_⟩,fun hh hx=>⟨_,f0,qe "empty" ?_⟩,fun hh x hx=>⟨_,_,r.fin _ _ .non,q (_,_) ?_⟩⟩
  ·unfold kz
   dsimp only at hh ⊢
   cases z:row.getD b none with
   | none=>exact absurd z hh
   | some y=>rfl
  ·unfold kz
   dsimp only at hh hx ⊢
   rw [hh];dsimp only;rw [hx]
  ·unfold kz
   dsimp only at hh hx ⊢
   rw [hh];dsimp only;rw [hx];rfl
theorem Gu (c:Option Int):cA c=.d (oD c):=by cases c <;> rfl
theorem EI (row:List (Option Int)):pur (row.map cA)=some (row.map oD):=by
 rw [show row.map cA=(row.map oD).map AV.d by rw [List.map_map];exact List.map_congr_left fun c _=>Gu c,zX]
noncomputable def FE (C:Addr):ASp:=fun xs M Q=>∃ (p rw_ mv:Addr) (s:ES) (ms:List Int),xs=[.ref p]/\qa C M p rw_ mv s ms/\s.1.length<=1000/\Q (.d (.tup (s.1.map oD))) M
noncomputable abbrev KH:Stmt:=(qM (top 15) 7)
theorem XO:zt ["self"] ["self"] (zd KH):=⟨rfl,rfl,rfl,by decide +kernel,rfl,by decide +kernel,by decide +kernel⟩
theorem Ew (a:AtM K C "row_now" "Room.row_now" KH)(R:RTx K C)(B:Blt mg):Dm P w K mg base C "row_now" ["self"] 1 (cSp (FE C)):=by
 refine dmA (k:=0) a XO (fun _ _ _ _ _ _=>Pn1_ fun _=>rfl) (fun xs M Q h=>?_) (fun f cdv A outer s H E hr=>?_)
 ·obtain ⟨_,_,_,_,_,rfl,_⟩:=h;rfl
 have sc:=XO
 have hsl:=hsl
 have CL:=R.cl
 refine ⟨_,(zf (zA (zQ j0 rfl B.tuple jb (za (qd (pv 0) rfl) zb)))),?_⟩
 refine ex2 (by walk_at "sim") ?_
 rintro xs M Q ⟨p,rw_,mv,⟨row,hd⟩,ms,rfl,r,hl,q⟩
 rw [show zO ["self"] [.ref p]=[some (.ref p)] from rfl]
 walk_at "ra"
 refine ⟨_,_,r.ins,R.cl,R.nr,_,rfl,_,qk r.row,_,EI _,?_⟩
 exact ⟨_,_,qo Fr.refl _,q⟩
noncomputable def FX (C:Addr):ASp:=fun xs M Q=>∃ (p rw_ mv:Addr) (s:ES) (ms:List Int),xs=[.ref p]/\qa C M p rw_ mv s ms/\ms.length<=1000/\Q (.d (.tup (ms.map .int))) M
noncomputable abbrev Ju:Stmt:=(qM (top 15) 9)
theorem XH:zt ["self"] ["self"] (zd Ju):=⟨rfl,rfl,rfl,by decide +kernel,rfl,by decide +kernel,by decide +kernel⟩
theorem DV (a:AtM K C "moved_now" "Room.moved_now" Ju)(R:RTx K C)(B:Blt mg):Dm P w K mg base C "moved_now" ["self"] 1 (cSp (FX C)):=by
 refine dmA (k:=0) a XH (fun _ _ _ _ _ _=>Pn1_ fun _=>rfl) (fun xs M Q h=>?_) (fun f cdv A outer s H E hr=>?_)
 ·obtain ⟨_,_,_,_,_,rfl,_⟩:=h;rfl
 have sc:=XH
 have hsl:=hsl
 have CL:=R.cl
 refine ⟨_,(zf (zA (zQ j0 rfl B.tuple jb (za (qd (pv 0) rfl) zb)))),?_⟩
 refine ex2 (by walk_at "sim") ?_
 rintro xs M Q ⟨p,rw_,mv,⟨row,hd⟩,ms,rfl,r,hl,q⟩
 rw [show zO ["self"] [.ref p]=[some (.ref p)] from rfl]
 walk_at "ra"
 refine ⟨_,_,r.ins,R.cl,R.nm,_,rfl,_,qk r.mvd,_,jf _,?_⟩
 exact ⟨_,_,qo Fr.refl _,q⟩
noncomputable def FI (C:Addr):ASp:=fun xs M Q=>∃ (p rw_ mv:Addr) (s:ES) (ms:List Int),xs=[.ref p]/\qa C M p rw_ mv s ms/\Q (.d (oD s.2)) M
noncomputable abbrev Kw:Stmt:=(qM (top 15) 8)
theorem Yc:zt ["self"] ["self"] (zd Kw):=⟨rfl,rfl,rfl,by decide +kernel,rfl,by decide +kernel,by decide +kernel⟩
theorem EO (a:AtM K C "hand_now" "Room.hand_now" Kw)(R:RTx K C)(B:Blt mg):Dm P w K mg base C "hand_now" ["self"] 1 (cSp (FI C)):=by
 refine dmA (k:=0) a Yc (fun _ _ _ _ _ _=>Pn1_ fun _=>rfl) (fun xs M Q h=>?_) (fun f cdv A outer s H E hr=>?_)
 ·obtain ⟨_,_,_,_,_,rfl,_⟩:=h;rfl
 have sc:=Yc
 have hsl:=hsl
 have CL:=R.cl
 refine ⟨_,(zf (zA (qd (pv 0) rfl))),?_⟩
 refine ex2 (by walk_at "sim") ?_
 rintro xs M Q ⟨p,rw_,mv,⟨row,hd⟩,ms,rfl,r,q⟩
 rw [show zO ["self"] [.ref p]=[some (.ref p)] from rfl]
 walk_at "ra"
 refine ⟨_,_,r.ins,R.cl,R.nh,_,rfl,?_⟩
 rw [Gu]
 exact ⟨_,_,qo Fr.refl _,q⟩
theorem Q7 {s':ES}{ms':List Int}(t:qa C (rmP C M p rw_ mv s' ms') p rw_ mv s' ms')(d:Dat):va M (rmP C M p rw_ mv s' ms') (.d d) (.d d) (rmP C M p rw_ mv s' ms'):=by
 refine ⟨fun q=>.inl rfl,fun q o e=>?_,.inl ⟨rfl,fun p z=>nomatch z⟩⟩
 by_cases c1:q=mv
 ·rw [c1,t.mvd] at e
  cases e
  exact .inr fun z hz=>absurd hz (yb (ds:=ms'.map .int) (jf _) z)
 ·by_cases c2:q=rw_
  ·rw [c2,t.row] at e
   cases e
   refine .inr fun z hz=>?_
   obtain ⟨y,hy,hz⟩:=(show ∃ x ∈ s'.1.map cA,x.Has z from hz)
   obtain ⟨x,_,rfl⟩:=List.mem_map.mp hy
   cases x <;> exact (show False from hz).elim
  ·by_cases c3:q=p
   ·rw [c3,t.ins] at e
    cases e
    refine .inr fun z hz=>?_
    obtain ⟨y,hy,hz⟩:=(show ∃ x ∈ [AV.ref rw_,cA s'.2,AV.ref mv],x.Has z from hz)
    simp only [List.mem_cons,List.not_mem_nil,or_false] at hy
    rcases hy with rfl | rfl | rfl
    ·obtain rfl:rw_=z:=hz
     rw [t.row];exact fun z=>nomatch z
    ·cases h:s'.2 <;> rw [h] at hz <;> exact (show False from hz).elim
    ·obtain rfl:mv=z:=hz
     rw [t.mvd];exact fun z=>nomatch z
   ·refine .inl ?_
    unfold rmP at e
    rw [zu c1,zu c2,zu c3] at e
    exact e
theorem YN {a b y:AV}:xC (Str.ofString "moved") y [(Str.ofString "row",a),(Str.ofString "hand",b)]=[(Str.ofString "row",a),(Str.ofString "hand",b),(Str.ofString "moved",y)]:=by
 unfold xC;rw [if_neg (by decide +kernel)];unfold xC;rw [if_neg (by decide +kernel)];unfold xC;rfl
noncomputable def Bu (C:Addr):ASp:=fun xs M Q=>∃ (p:Addr) (n:Nat),xs=[.ref p,.d (.int n)]/\M p=some (.ins C [])/\n<=1000 /\
 ∀ rw_ mv,M rw_=none->M mv=none->rw_ ≠ mv->rw_ ≠ p->mv ≠ p->Q (.d .non) (rmP C M p rw_ mv ((qp 0 1 n).map some,none) (List.replicate n 0))
noncomputable abbrev ZO:Stmt:=(qM (top 15) 0)
theorem Qp:zt ["self","n"] ["self","n"] (zd ZO):=⟨rfl,rfl,rfl,by decide +kernel,rfl,by decide +kernel,by decide +kernel⟩
theorem WY (a:AtM K C "__init__" "Room.__init__" ZO)(R:RTx K C)(B:Blt mg):Dm P w K mg base C "__init__" ["self","n"] 1 (cSp (Bu C)):=by
 refine dmA (k:=0) a Qp (fun _ _ _ _ _ _=>Pn2_ fun _ _=>rfl) (fun xs M Q h=>?_) (fun f cdv A outer s H E hr=>?_)
 ·obtain ⟨_,_,rfl,_⟩:=h;rfl
 have sc:=Qp
 have hsl:=hsl
 have CL:=R.cl
 refine ⟨_,(zc (vR (pv 0) (xS (zQ (j5 rfl) rfl B.list jH (za (zQ kT rfl B.range vD (za (pv 1) zb)) zb))) rfl)
  (zc (vR (pv 0) zL rfl)
  (zf (vR (pv 0) (xS (zJ Z4 (qL (za ze zb)) (pv 1))) rfl)))),?_⟩
 refine ex2 (by walk_at "sim") ?_
 rintro xs M Q ⟨p,n,rfl,hp,hn,q⟩
 rw [show zO ["self","n"] [.ref p,.d (.int n)]=[some (.ref p),some (.d (.int n))] from rfl]
 refine zi fun r1 hr1=>?_
 walk_at "ra"
 refine ⟨_,_,_,rfl,small_one (by omega) (by omega) (by omega) (by omega),n,by rw [rangeSize_one];split <;> omega,by omega,fun rw_ hrw _=>?_⟩
 have np:p ≠ rw_:=fun z=>by rw [z,hrw] at hp;cases hp
 refine ⟨C,[],by rw [zu np];exact hp,R.cl,R.nr,Nat.lt_of_sub_eq_succ rfl,?_⟩
 subst hr1
 refine zi fun r1 hr1=>?_
 walk_at "ra"
 refine ⟨_,_,zg,R.cl,R.nh,Nat.lt_of_sub_eq_succ rfl,?_⟩
 subst hr1
 walk_at "ra"
 rw [if_neg (show ¬ Str.ofString "row"=Str.ofString "hand" by decide +kernel)]
 refine ⟨by omega,by omega,by omega,by omega,fun mv hmv _=>?_⟩
 have n1:mv ≠ p:=fun z=>by rw [z,zg] at hmv;cases hmv
 rw [zu n1] at hmv
 have n2:mv ≠ rw_:=fun z=>by rw [z,zg] at hmv;cases hmv
 rw [zu n2] at hmv
 refine ⟨C,_,by rw [zu (Ne.symm n1),zg],R.cl,R.nm,Nat.lt_of_sub_eq_succ rfl,?_⟩
 rw [YN,E7,Int.toNat_natCast]
 have e1:(MO.lst ((qp 0 1 n).map fun i=>AV.d (.int i)))=Vf ((qp 0 1 n).map some):=by show MO.lst _=MO.lst _;rw [List.map_map];rfl
 have e2:MO.lst (List.replicate n (AV.d (.int 0)))=msA (List.replicate n 0):=by show MO.lst _=MO.lst _;rw [List.map_replicate]
 rw [e1,e2]
 have em:∀ (x y:MO),mup (mup (mup (mup M rw_ (Vf ((qp 0 1 n).map some))) p x) mv (msA (List.replicate n 0))) p (AM C rw_ mv none)=rmP C M p rw_ mv ((qp 0 1 n).map some,none) (List.replicate n 0):=fun x _=>by
  funext b
  unfold rmP mup
  by_cases c1:b=mv
  ·have:¬ b=p:=fun z=>n1 (c1.symm.trans z)
   simp [c1,n1]
  ·by_cases c2:b=rw_
   ·have:¬ b=p:=fun z=>np (z.symm.trans c2)
    simp [c1,c2,Ne.symm np,Ne.symm n2]
   ·by_cases c3:b=p <;> simp [c1,c2,c3,np,Ne.symm n1]
 show rtA M Q (.d .non) (mup (mup (mup (mup M rw_ (Vf ((qp 0 1 n).map some))) p _) mv (msA (List.replicate n 0))) p (AM C rw_ mv none))
 rw [em _ (.lst [])]
 have t:qa C (rmP C M p rw_ mv ((qp 0 1 n).map some,none) (List.replicate n 0)) p rw_ mv ((qp 0 1 n).map some,none) (List.replicate n 0):=by
  unfold rmP
  exact ⟨by rw [zu (Ne.symm n1),zu np,zg],by rw [zu (Ne.symm n2),zg],zg,Ne.symm n2⟩
 exact ⟨_,_,Q7 t .non,q rw_ mv hrw hmv (Ne.symm n2) (Ne.symm np) n1⟩
theorem MkX.mono {j k n:Nat}{fn:List V->List (Str × V)}(m:MkX P w K mg base C j n fn)(h:j<=k):MkX P w K mg base C k n fn:=
 let ⟨f,fd,ps,q,F,r⟩:=m
 ⟨f,fd,ps,q,F.mono h,r⟩
noncomputable abbrev wg:Stmt:=(qM (top 5) 0)
theorem Ze:zt ["self","word"] ["self","word"] (zd wg):=⟨rfl,rfl,rfl,by decide +kernel,rfl,by decide +kernel,by decide +kernel⟩
theorem GR {C f:Addr}{fd:FuncData}(F:Fun K "__init__" "BadDeed.__init__" wg f fd)(q:jm K C yy "ValueError.__new__" f=true)(hf:PySem.W.isFn K (.ref f)=true)(S:xA K C "word"):MkX P w K mg base C 1 1 fnW:=by
 refine KA (k:=0) F Ze (fun _ _ _ _ _ _=>Pn2_ fun _ _=>rfl) q hf rfl (fun cdv A outer s H E=>?_)
 have sc:=Ze
 refine ⟨_,(zf (xl (pv 0) (pv 1) rfl)),?_⟩
 intro a t0 us Q hl ha hq
 match us,hl with
 | [v],_=>
  show Zc _ _ _ _ _ _ _
  refine ⟨v,rfl,.ref a,rfl,a,C,t0,rfl,S,.inl ⟨ha,fun dx hd hne=>hq dx hd hne⟩⟩
noncomputable def JD (s:ES)(x:Dat):String:=match doR s [] x with
 | .error w=>w
 | .ok _=>""
theorem Vh {x:Dat}(h:zV x s.1.length=false):JD s x="form":=by
 unfold JD doR
 rw [if_neg (by rw [h];exact fun z=>nomatch z)]
theorem Z6 (t:Str)(l:List Str):inV (.str t) (l.map V.str)=decide (t ∈ l):=by
 induction l with
 | nil=>rfl
 | cons a l ih=>
  show (eqV (.str a) (.str t) || inV (.str t) (l.map V.str))=_
  rw [ih]
  show ((a == t) || decide (t ∈ l))=_
  by_cases c:a=t
  ·subst c;simp
  ·have:(a == t)=false:=by simpa using c
   rw [this,Bool.false_or]
   have na:t ≠ a:=fun z=>c z.symm
   simp [na]
theorem in4 (t:Str):inV (.str t) [.str (Str.ofString "swap"),.str (Str.ofString "take"),.str (Str.ofString "move"),.str (Str.ofString "lay")]=(jg t).isSome:=by
 rw [show [V.str (Str.ofString "swap"),.str (Str.ofString "take"),.str (Str.ofString "move"),.str (Str.ofString "lay")]=[Str.ofString "swap",Str.ofString "take",Str.ofString "move",Str.ofString "lay"].map V.str from rfl,Z6]
 unfold jg
 by_cases c1:t=Str.ofString "swap"
 ·simp [c1]
 by_cases c2:t=Str.ofString "take"
 ·simp [c2];split <;> rfl
 by_cases c3:t=Str.ofString "move"
 ·simp [c3];repeat' split <;> try rfl
 by_cases c4:t=Str.ofString "lay"
 ·simp [c4];repeat' split <;> try rfl
 simp [c1,c2,c3,c4]
theorem in2 (t:Str):inV (.str t) [.str (Str.ofString "swap"),.str (Str.ofString "move")]=decide (t=Str.ofString "swap" \/ t=Str.ofString "move"):=by
 rw [show [V.str (Str.ofString "swap"),.str (Str.ofString "move")]=[Str.ofString "swap",Str.ofString "move"].map V.str from rfl,Z6]
 simp
theorem ye {a:Nat}(h:a<row.length):atI ((row.map oD).map AV.d) (a:Int)=some (.d (oD (row.getD a none))):=by
 unfold atI
 rw [List.length_map,List.length_map,qU (by omega) (by omega),Int.toNat_natCast]
 show ((row.map oD).map AV.d)[a]?=_
 rw [List.getElem?_map,List.getElem?_map,List.getElem?_eq_getElem h,List.getD_eq_getElem?_getD,List.getElem?_eq_getElem h];rfl
noncomputable def vC:Option Int->V
 | none=>.non
 | some x=>.int x
theorem Ld (c:Option Int):flD (oD c)=some (vC c):=by cases c <;> rfl
theorem AQ (cs:List (Option Int)):Qm (cs.map fun c=>AV.d (oD c))=some (cs.map vC):=by
 induction cs with
 | nil=>rfl
 | cons c cs ih=>
  show (match flD (oD c),Qm (cs.map fun c=>AV.d (oD c)) with | some v,some l=>some (v :: l) | _,_=>none)=_
  rw [Ld,ih];rfl
theorem IQ (cs:List (Option Int)):inV .non (cs.map vC)=cs.any (·.isNone):=by
 induction cs with
 | nil=>rfl
 | cons c cs ih=>
  show (eqV (vC c) .non || inV .non (cs.map vC))=_
  rw [ih]
  cases c <;> rfl
theorem vY {row : List (Option Int)}{h x u : Option AV}{M : MH}{Q : AK}{ks : List Nat}{nx : ASt -> MH -> Prop}(hk : ∀ k ∈ ks, k < row.length)(hl : ks.length <= 1000)(q : Q (.d (.str (Str.ofString (if (ks.map fun k => row.getD k none).any (·.isNone) = true then "empty" else "")))) M) :
    YG (aIf (aB (aOp (aIn false) (aC Dat.non) (aFz (Q3 [3] (aiS (qh 4)) (kO 3) wl (xE (aOp (aIx qF) (qh 0) (qh 3))))))) (aC (Dat.str (Str.ofString "empty"))) (aC (Dat.str (Str.ofString ""))))
      M { nx:=nx,rt:=rtA M Q } [some (.d (.lst (row.map oD))),h,x,u,some (.d (.tup (ks.map fun k:Nat=>Dat.int k)))] M:=by
  walk_at "ra"
  refine KF (fun (o:Option AV)=>[some (.d (.lst (row.map oD))),h,x,o,some (.d (.tup (ks.map fun k:Nat=>Dat.int k)))]) (fun y=>match y with | .d (.int k)=>.d (oD (row.getD k.toNat none)) | y=>y) ⟨_,rfl⟩ trivial (by rw [List.length_map,List.length_map];omega) (fun o y Q hy q=>?_) fun o=>?_
  · obtain ⟨d,hd,rfl⟩:=List.mem_map.mp hy
    obtain ⟨k,hk',rfl⟩:=List.mem_map.mp hd
    walk_at "ra"
    exact ⟨_,ye (hk k hk'),q (some (.d (.int k)))⟩
  · have e : ((ks.map fun k : Nat => Dat.int k).map AV.d).map (fun y => match y with | .d (.int k) => AV.d (oD (row.getD k.toNat none)) | y => y) = (ks.map fun k => row.getD k none).map fun c => AV.d (oD c) := by
      simp only [List.map_map];exact List.map_congr_left fun _ _=>rfl
    rw [e]
    generalize (ks.map fun k=>row.getD k none)=cs at *
    have e2:(cs.map fun c=>AV.d (oD c))=(cs.map oD).map AV.d:=by rw [List.map_map];rfl
    refine ⟨cs.map oD,by rw [e2];exact zX _,?_⟩
    refine ⟨_,rfl,_,by rw [<- e2];exact AQ cs,?_⟩
    rw [IQ]
    by_cases c:cs.any (·.isNone)=true
    · rw [if_pos c] at q ⊢;exact ⟨_,_,qo Fr.refl _,q⟩
    · rw [if_neg c] at q ⊢;exact ⟨_,_,qo Fr.refl _,q⟩
theorem Hs {t:Str}{k:Int}(h:jg t=some k):k=1+if t=Str.ofString "swap" \/ t=Str.ofString "move" then 1 else 0:=by
 unfold jg at h
 by_cases c1:t=Str.ofString "swap"
 ·rw [if_pos c1] at h;cases h;rw [if_pos (.inl c1)];rfl
 rw [if_neg c1] at h
 by_cases c2:t=Str.ofString "take"
 ·rw [if_pos c2] at h;cases h;rw [if_neg (by rw [c2];decide +kernel)];rfl
 rw [if_neg c2] at h
 by_cases c3:t=Str.ofString "move"
 ·rw [if_pos c3] at h;cases h;rw [if_pos (.inr c3)];rfl
 rw [if_neg c3] at h
 by_cases c4:t=Str.ofString "lay"
 ·rw [if_pos c4] at h;cases h;rw [if_neg (by rw [c4];decide +kernel)];rfl
 rw [if_neg c4] at h;cases h
theorem tIn {i:Nat}{w a b:Str} (hρ:ρ[i]?=some (some (.d (.tup (.str w :: ps))))):Tst (aB (aOp (aIn false) (aOp (aIx qF) (qh i) (aC (.int 0))) (VP (zP (aC (.str a)) (zP (aC (.str b)) jt))))) ρ M (decide (w=a \/ w=b)):=fun Q q=>by
 refine ⟨_,hρ,_,0,.d (.str w),rfl,rfl,vm,Nat.le_of_ble_eq_true rfl,_,rfl,_,_,_,_,rfl,rfl,rfl,rfl,_,rfl,?_⟩
 rw [show (if false=true then !inV (.str w) [V.str a,V.str b] else inV (.str w) [V.str a,V.str b])=decide (w=a \/ w=b) by
  rw [if_neg (fun z=>nomatch z),show [V.str a,V.str b]=[a,b].map V.str from rfl,Z6];simp]
 exact q
theorem tL3 {i:Nat}{l:List Dat} (hρ:ρ[i]?=some (some (.d (.tup l)))):Tst (aB (aOp (yu id) (aCB QR (zP (qh i) jt)) (aC (.int 3)))) ρ M (decide ((l.length:Int)=3)):=fun Q q=>by
 refine ⟨_,hρ,_,_,rfl,rfl,_,_,rfl,rfl,by rw [qT];omega,by rw [qT];omega,_,rfl,?_⟩
 rw [xK,List.length_map]
 exact q
theorem D0 {i:Nat}{t:Str}{a b:Nat} (hρ:ρ[i]?=some (some (.d (.tup [.str t,.int (a:Int),.int (b:Int)])))):Tst (aB (aOp (yu id) (aOp (aIx qF) (qh i) (aC (.int 1))) (aOp (aIx qF) (qh i) (aC (.int 2))))) ρ M (decide ((a:Int)=(b:Int))):=fun Q q=>by
 refine ⟨_,hρ,_,_,_,rfl,rfl,rfl,_,hρ,_,_,_,rfl,rfl,rfl,_,_,rfl,rfl,by rw [qT];omega,by rw [qT];omega,_,rfl,?_⟩
 rw [xK]
 exact q
theorem DK {l:List Dat}{b:Nat} (h0:ρ[0]?=some (some (.d (.lst (row.map oD)))))(hρ:ρ[2]?=some (some (.d (.tup l))))(hz:atI (l.map AV.d) (-1)=some (.d (.int (b:Int))))(hb:b<row.length):Tst (aB (aOp (YX not) (aOp (aIx qF) (qh 0) (aOp (aIx qF) (qh 2) (aUn (aU fun i=>.int (-i)) (aC (.int 1))))) (aC .non))) ρ M (!jC (.d (oD (row.getD b none)))):=fun Q q=>
 ⟨_,h0,_,hρ,_,rfl,_,_,_,rfl,rfl,hz,_,_,_,rfl,rfl,ye hb,rfl,_,rfl,q⟩
theorem tL0 {i:Nat}{l:List Dat} (hρ:ρ[i]?=some (some (.d (.tup l)))):Tst (aB (aOp (yu id) (aCB QR (zP (qh i) jt)) (aC (.int 0)))) ρ M (decide ((l.length:Int)=0)):=fun Q q=>by
 refine ⟨_,hρ,_,_,rfl,rfl,_,_,rfl,rfl,by rw [qT];omega,by rw [qT];omega,_,rfl,?_⟩
 rw [xK,List.length_map]
 exact q
noncomputable def Aq:Dat->Bool
 | .tup (.str _ :: _)=>true
 | _=>false
theorem tFm {i:Nat}{x:Dat}{ρ:ASt}{M:MH}(h2:ρ[i]?=some (some (.d x)))(hx:dp x<=40):Tst (aOr (Jc (aB (aCB wB (zP (qh i) (zP (aC (.ty "tuple")) jt))))) (aOr (aB (aOp (yu id) (aCB QR (zP (qh i) jt)) (aC (.int 0)))) (Jc (aB (aCB wB (zP (aOp (aIx qF) (qh i) (aC (.int 0))) (zP (aC (.ty "str")) jt))))))) ρ M (!Aq x):=by
 cases x with
 | ty _=>rw [dp] at hx;omega
 | rng _ _ _=>rw [dp] at hx;omega
 | scr _ _=>rw [dp] at hx;omega
 | tup l=>
  have yes:=tNt (Zo (c:="tuple") (M:=M) h2 rfl (Z9))
  cases l with
  | nil=>exact qK yes (vT (zy (tL0 h2) rfl))
  | cons w ps=>
   have l0:decide (((w :: ps).length:Int)=0)=false:=decide_eq_false (by rw [List.length_cons];omega)
   have dw:dp w<=39:=by
    have e:dps (w :: ps)<=39:=by rw [dp] at hx;omega
    exact ya e w List.mem_cons_self
   refine qK yes (qK (zy (tL0 h2) l0) ?_)
   cases w with
   | ty _=>rw [dp] at dw;omega
   | rng _ _ _=>rw [dp] at dw;omega
   | scr _ _=>rw [dp] at dw;omega
   | str _=>exact tNt (Vu h2 rfl vF)
   | non=>exact tNt (Vu h2 rfl ZW)
   | bl _=>exact tNt (Vu h2 rfl JP)
   | lst _=>exact tNt (Vu h2 rfl V6)
   | tup _=>exact tNt (Vu h2 rfl A7)
   | int _=>exact tNt (Vu h2 rfl Kx)
 | non=>exact tNo h2 rfl W3
 | bl _=>exact tNo h2 rfl Bp
 | str _=>exact tNo h2 rfl Ai
 | lst _=>exact tNo h2 rfl Qa
 | int _=>exact tNo h2 rfl BR
theorem IU {x:Dat}(h:Aq x=true):∃ t ps,x=.tup (.str t :: ps):=by
 unfold Aq at h
 split at h
 ·exact ⟨_,_,rfl⟩
 ·cases h
theorem La {x:Dat}{n:Nat}(h:Aq x=false):zV x n=false:=by
 cases e:zV x n with
 | false=>rfl
 | true=>
  obtain ⟨w,ps,rfl,_⟩:=xp e
  cases h
theorem tPl {row:List (Option Int)}{d:Dat}{ρ:ASt}{M:MH}(h0:ρ[0]?=some (some (.d (.lst (row.map oD)))))(h3:ρ[3]?=some (some (.d d)))(hd:dp d<=40):Tst (aOr (Jc (aB (aCB wB (zP (qh 3) (zP (aC (.ty "int")) jt))))) (aOr (aB (aCB wB (zP (qh 3) (zP (aC (.ty "bool")) jt)))) (Jc (aB (Km (aI0 fun i j=>.bl (decide (i<=j))) (aI0 fun i j=>.bl (decide (i<j))) (aC (.int 0)) (qh 3) (aCB QR (zP (qh 0) jt))))))) ρ M (!zT d row.length):=by
 cases d with
 | ty _=>rw [dp] at hd;omega
 | rng _ _ _=>rw [dp] at hd;omega
 | scr _ _=>rw [dp] at hd;omega
 | non=>exact tNo h3 rfl Wt
 | bl _=>exact qK (tNt (Zo h3 rfl KI)) (vT (Zo h3 rfl ZI))
 | str _=>exact tNo h3 rfl WS
 | lst _=>exact tNo h3 rfl BH
 | tup _=>exact tNo h3 rfl V3
 | int j=>
  refine qK (tNt (Zo h3 rfl KL)) (qK (Zo h3 rfl ZA) (tNt fun Q q=>?_))
  by_cases c1:0<=j
  ·refine ⟨_,h3,_,_,rfl,rfl,_,rfl,?_⟩
   rw [if_pos (decide_eq_true c1)]
   refine ⟨_,h0,_,_,rfl,rfl,_,_,rfl,rfl,_,rfl,?_⟩
   rw [List.length_map,List.length_map]
   rw [show zT (.int j) row.length=decide (j<(row.length:Int)) from decide_eq_decide.mpr ⟨And.right,fun z=>⟨c1,z⟩⟩] at q
   exact q
  ·refine ⟨_,h3,_,_,rfl,rfl,_,rfl,?_⟩
   rw [if_neg (fun z=>c1 (of_decide_eq_true z))]
   rw [show zT (.int j) row.length=false from decide_eq_false fun z=>c1 z.1] at q
   exact ⟨_,rfl,q⟩
theorem LU:¬(HT.sIx 3 0 (some 1)=0/\HT.sIx 3 3 none=3):=by decide
theorem LL:¬(HT.sIx 2 0 (some 1)=0/\HT.sIx 2 2 (some 2)=2):=by decide
theorem LV:¬(HT.sIx 3 0 (some 1)=0/\HT.sIx 3 3 (some 2)=3):=by decide
theorem LH:decide (Str.ofString "swap"=Str.ofString "take")=false:=by decide +kernel
theorem IL:decide (Str.ofString "swap"=Str.ofString "lay")=false:=by decide +kernel
theorem IX:decide (Str.ofString "swap"=Str.ofString "move" \/ Str.ofString "swap"=Str.ofString "lay")=false:=by decide +kernel
theorem Ly:decide (Str.ofString "take"=Str.ofString "move" \/ Str.ofString "take"=Str.ofString "lay")=false:=by decide +kernel
theorem IN:decide (Str.ofString "take"=Str.ofString "lay")=false:=by decide +kernel
theorem Lq:decide (Str.ofString "take"=Str.ofString "swap")=false:=by decide +kernel
theorem Ge:decide (Str.ofString "move"=Str.ofString "take")=false:=by decide +kernel
theorem Ls:decide (Str.ofString "move"=Str.ofString "lay")=false:=by decide +kernel
theorem IW:decide (Str.ofString "move"=Str.ofString "swap")=false:=by decide +kernel
theorem F7:decide (Str.ofString "lay"=Str.ofString "take")=false:=by decide +kernel
theorem yw {t u:Str}:decide (t=t \/ t=u)=true:=decide_eq_true (.inl rfl)
theorem yw' {t u:Str}:decide (u=t \/ u=u)=true:=decide_eq_true (.inr rfl)
noncomputable def LD:ASp:=fun xs M Q=>∃ (s:ES) (x:Dat),xs=[.d (.lst (s.1.map oD)),.d (oD s.2),.d x]/\dp x<=40/\(∀ l,x=.tup l->l.length<=1000)/\s.1.length<=1000/\Q (.d (.str (Str.ofString (JD s x)))) M
noncomputable abbrev JV:Stmt:=top 30
theorem Xf:zt ["_law_row","_law_hand","_law_thing","_law_place","_law_some"] ["_law_row","_law_hand","_law_thing"] (zd JV):=⟨rfl,rfl,rfl,by decide +kernel,rfl,by decide +kernel,by decide +kernel⟩
theorem DQ (a:At K mg "_law_why" JV)(B:Blt mg):Df P w K mg base "_law_why" ["_law_row","_law_hand","_law_thing"] 1 (cSp LD):=by
  refine dfA (k:=0) a Xf (fun _ _ _ _ _ _=>Pn3_ fun _ _ _=>rfl) (fun xs M Q h=>?_) (fun f cdv A outer s H E hr=>?_)
  · obtain ⟨_,_,rfl,_⟩:=h;rfl
  have sc:=Xf
  have hsl:=hsl
  refine ⟨_,(zc (zH (PW.pt (jS (jM (qJ (zm zU rfl B.isinstance zq (za (pv 2) (za (zS (v:=.ty "tuple") rfl B.tuple jb rfl) zb))) (fun _=>rfl))) (jS (zn (zY hr.units) (zm zw rfl B.len qg (za (pv 2) zb)) ze (zr _)) (jx (jM (qJ (zm zU rfl B.isinstance zq (za (zx zE (pv 2) ze (fun _ _=>rfl)) (za (zS (v:=.ty "str") rfl B.str xI rfl) zb))) (fun _=>rfl))))))) (zf (zA zp)) zv)
    (zc (zH (PW.pt (jS (zn Qf (zx zE (pv 2) ze (fun _ _=>rfl)) (zK (za zp (za zp (za zp (za zp zb))))) rfl) (jx (zn (jv hr.units) (zm zw rfl B.len qg (za (pv 2) zb)) (zJ ja ze (zQ yE rfl B.int yC (za (jR yp (zx zE (pv 2) ze (fun _ _=>rfl)) (zK (za zp (za zp zb))) rfl) zb))) (zr _))))) (zf (zA zp)) zv)
    (zc (xg PassesOwn.never rfl (KW (j6 Qd (pv 2) (jT ze) vd)) (zD (i:=3) sc.nd rfl (by first | exact Or.inl rfl | exact Or.inr rfl)) (zf (zH (PW.pt (jS (jM (qJ (zm zU rfl B.isinstance zq (za (pv 3) (za (zS (v:=.ty "int") rfl B.int yC rfl) zb))) (fun _=>rfl))) (jS (qJ (zm zU rfl B.isinstance zq (za (pv 3) (za (zS (v:=.ty "bool") rfl B.bool vf rfl) zb))) (fun _=>rfl)) (jx (jM (W8 FJ Gk ze (pv 3) (zm zw rfl B.len qg (za (pv 0) zb)))))))) (zf (zA zp)) zv)))
    (zc (zH (PW.pt (xO (zn (zY hr.units) (zm zw rfl B.len qg (za (pv 2) zb)) ze (zr _)) (kl (zn (zY hr.units) (zx zE (pv 2) ze (fun _ _=>rfl)) (zx zE (pv 2) ze (fun _ _=>rfl)) (zr _))))) (zf (zA zp)) zv)
    (zc (zH (PW.pt (jS (PW.pt (xO (zn (zY hr.units) (zx zE (pv 2) ze (fun _ _=>rfl)) zp (zr _)) (kl (zn qX (pv 1) zL (zr _))))) (jx (PW.pt (xO (zn yp (zx zE (pv 2) ze (fun _ _=>rfl)) (zK (za zp (za zp zb))) rfl) (kl (zn qX (zx zE (pv 0) (zx zE (pv 2) (LA GU ze) (fun _ _=>rfl)) (fun _ _=>rfl)) zL (zr _)))))))) (zf (zA zp)) zv)
    (zc (zH (zn (zY hr.units) (zx zE (pv 2) ze (fun _ _=>rfl)) zp (zr _)) (zf (zA (kZ (zn kj (pv 1) zL (zr _)) zp zp))) zv)
    (zc (zN (i:=4) sc.nd rfl (by first | exact Or.inl rfl | exact Or.inr rfl) (kZ (zn (zY hr.units) (zx zE (pv 2) ze (fun _ _=>rfl)) zp (zr _)) (j6 Qd (pv 2) (jT ze) vd) (j6 Qd (pv 2) (jT ze) (jT ze))))
    (zf (zA (kZ (zn yp zL (vt (ts:=[3]) rfl rfl (KW (pv 4)) (fun _ _ _ _=>(zD (i:=3) sc.nd rfl (by first | exact Or.inl rfl | exact Or.inr rfl))) (fun _ _ _ _=>vg) (fun _ _ _ _=>(zx (JU (K:=K) rfl) (pv 0) (pv 3) (fun _ _=>rfl)))) rfl) zp zp)))))))))),?_⟩
  refine ex2 (by walk_at "sim") ?_
  rintro xs M Q ⟨⟨row,hd⟩,x,rfl,hdp,hl,hr_,q⟩
  rw [show zO ["_law_row","_law_hand","_law_thing","_law_place","_law_some"] [.d (.lst (row.map oD)),.d (oD hd),.d x]=[some (.d (.lst (row.map oD))),some (.d (oD hd)),some (.d x),none,none] from rfl]
  have fin:=fun b=>qo (M0:=M) Fr.refl (.str b)
  have no:zV x row.length=false->Q (.d (.str (Str.ofString "form"))) M:=fun h=>by rw [Vh h] at q;exact q
  cases hf0:Aq x with
  | false=>exact jW (zy (tFm rfl hdp) (by rw [hf0];rfl)) ⟨_,_,fin _,no (La hf0)⟩
  | true =>
        refine zW (zy (tFm rfl hdp) (by rw [hf0];rfl)) ?_
        obtain ⟨t,ps,rfl⟩:=IU hf0
        have hl:=hl _ rfl
        have dw:dps (.str t :: ps)<=39:=by rw [dp] at hdp;omega
        have dwi:∀ d ∈ .str t :: ps,dp d<=39:=ya dw
        have dpw:=dwi (.str t) List.mem_cons_self
        have a0:atI (AV.d (.str t) :: ps.map AV.d) 0=some (.d (.str t)):=vm
        refine zi fun r1 hr1=>?_
        walk_at "ra"
        refine ⟨_,a0,by omega,_,rfl,_,rfl,_,rfl,?_⟩
        rw [in4]
        have q0:zV (.tup (.str t :: ps)) row.length=(jg t == some (ps.length:Int) && ps.all (zT · row.length)):=rfl
        cases hp:jg t with
        | none=>
          rw [if_pos (show (none:Option Int).isSome=false from rfl)]
          exact ⟨_,_,fin _,no (by rw [q0,hp];rfl)⟩
        | some k=>
          rw [if_neg (fun z=>nomatch z)]
          refine ⟨_,a0,by omega,_,rfl,_,rfl,_,rfl,?_⟩
          rw [in2]
          have hk:=Hs hp
          have ee:(if decide (t=Str.ofString "swap" \/ t=Str.ofString "move")=true then (1:Int) else 0)=k - 1:=by
            by_cases cc:t=Str.ofString "swap" \/ t=Str.ofString "move"
            · rw [if_pos cc] at hk;rw [if_pos (decide_eq_true cc)];omega
            · rw [if_neg cc] at hk;rw [if_neg (fun z=>cc (of_decide_eq_true z))];omega
          rw [ee]
          by_cases ck:k=(ps.length:Int)
          case neg=>
            rw [if_pos (by omega)]
            exact ⟨_,_,fin _,no (by rw [q0,hp,show (some k == some (ps.length:Int))=false by simpa using ck];rfl)⟩
          rw [if_neg (by omega)]
          subst hr1
          refine zi fun r1 hr1=>?_
          walk_at "ra"
          have ec:wC (Dat.str t :: ps) (some 1) none=ps:=by
            rw [show (some 1:Option Int)=some ((1:Nat):Int) from rfl,wQ];rfl
          rw [ec]
          have nsl:¬(HT.sIx (ps.length+1) 0 (some 1)=0/\HT.sIx (ps.length+1) (ps.length+1) none=ps.length+1):=by
            rintro ⟨z,_⟩
            unfold HT.sIx at z
            simp at z
            try omega
          refine ⟨nsl,?_⟩
          have hpl:jg t=some (ps.length:Int):=by rw [hp,ck]
          refine ⟨fun i ρ M'=>M=M'/\(∃ u,ρ=[some (.d (.lst (row.map oD))),some (.d (oD hd)),some (.d (.tup (.str t :: ps))),u,none])/\∀ d ∈ ps.take i,zT d row.length=true,⟨rfl,⟨_,rfl⟩,by simp⟩,?_,?_⟩
          · rintro i y ρ M' hy ⟨rfl,⟨u,rfl⟩,hpr⟩
            refine ⟨trivial,?_⟩
            rw [List.getElem?_map] at hy
            cases e:ps[i]? with
            | none=>rw [e] at hy;cases hy
            | some d=>
              rw [e] at hy
              cases hy
              have hmem:=List.mem_of_getElem? e
              have dd:=dwi d (List.mem_cons_of_mem _ hmem)
              have bad:zT d row.length=false->Q (.d (.str (Str.ofString "form"))) M:=fun h=>no (by
                rw [q0,hpl]
                have:ps.all (zT · row.length)=false:=by
                  rw [List.all_eq_false]
                  exact ⟨d,hmem,by rw [h];exact fun z=>nomatch z⟩
                rw [this,Bool.and_false])
              have good:zT d row.length=true->∀ x ∈ ps.take (i+1),zT x row.length=true:=fun h x hx=>by
                rw [List.take_succ,e] at hx
                rcases List.mem_append.mp hx with z | z
                · exact hpr x z
                · rw [List.mem_singleton.mp z];exact h
              cases hpd:zT d row.length with
              | true=>exact BA (zy (tPl rfl rfl (by omega)) (by rw [hpd];rfl)) ⟨rfl,⟨_,rfl⟩,good hpd⟩
              | false=>exact GK (zy (tPl rfl rfl (by omega)) (by rw [hpd];rfl)) ⟨_,_,fin _,bad hpd⟩
          · rintro ρ M' ⟨rfl,⟨u,rfl⟩,hpr⟩
            refine ⟨trivial,?_⟩
            rw [List.length_map,List.take_length] at hpr
            dsimp only
            have hf:zV (.tup (.str t :: ps)) row.length=true:=by
              rw [q0,hpl,List.all_eq_true.mpr hpr];simp
            obtain ⟨w',ps',ex,_,hps⟩:=xp hf
            cases ex
            have ed:doR (row,hd) [] (.tup (.str t :: ps))=if t=Str.ofString "swap" then qV (row,hd) [] (iN (ps.getD 0 .non)) (iN (ps.getD 1 .non)) else if t=Str.ofString "take" then qY (row,hd) [] (iN (ps.getD 0 .non)) else if t=Str.ofString "move" then qP (row,hd) [] (iN (ps.getD 0 .non)) (iN (ps.getD 1 .non)) else kz (row,hd) [] (iN (ps.getD 0 .non)):=by
              unfold doR;rw [if_pos (show zV (.tup (.str t :: ps)) row.length=true from hf)]
            have q:∀ w,(match doR (row,hd) [] (.tup (.str t :: ps)) with | .error w=>w | .ok _=>"")=w->Q (.d (.str (Str.ofString w))) M:=fun w h=>h ▸ q
            rw [ed] at q
            clear ed no q0 hp ck hk ee
            subst hr1
            by_cases w1:t=Str.ofString "swap"
            · rw [if_pos w1] at q
              obtain ⟨a,b,rfl,ha,hb⟩:=yG hpl hps (.inl w1)
              have qq:∀ w,(match qV (row,hd) [] a b with | .error w=>w | .ok _=>"")=w->Q (.d (.str (Str.ofString w))) M:=q
              clear q
              subst w1
              by_cases hab:a=b
              · exact jW (qN (zy (tL3 rfl) rfl) (zy (D0 rfl) (by rw [hab];exact decide_eq_true rfl))) ⟨_,_,fin _,qq "same" (by unfold qV;rw [if_pos hab])⟩
              refine zW (qN (zy (tL3 rfl) rfl) (zy (D0 rfl) (decide_eq_false fun z=>hab (Int.ofNat.inj z)))) ?_
              refine zW (qK (jA (zy (tW rfl) LH)) (jA (zy (tIn rfl) IX))) ?_
              refine zW (zy (tW rfl) IL) ?_
              refine Iz (zy (tW rfl) (decide_eq_true rfl)) ⟨_,rfl,_,rfl,_,rfl,LU,?_⟩
              refine vY (ks:=[a,b]) (by simp [show a<row.length from ha,show b<row.length from hb]) (Nat.le_of_ble_eq_true rfl) (qq _ ?_)
              unfold qV
              rw [if_neg hab]
              show (match (match row.getD a none,row.getD b none with | some x,some y=>_ | _,_=>_:Except String RS) with | .error w=>w | .ok _=>"")=if [row.getD a none,row.getD b none].any (·.isNone)=true then "empty" else ""
              cases row.getD a none <;> cases row.getD b none <;> rfl
            rw [if_neg w1] at q
            by_cases w2:t=Str.ofString "take"
            · rw [if_pos w2] at q
              obtain ⟨a,rfl,ha⟩:=yK hpl hps w1 (by rw [w2];decide +kernel)
              have qq:∀ w,(match qY (row,hd) [] a with | .error w=>w | .ok _=>"")=w->Q (.d (.str (Str.ofString w))) M:=q
              clear q
              subst w2
              refine zW (jA (zy (tL3 rfl) rfl)) ?_
              cases hd with
              | some y=>exact jW (vT (qN (zy (tW rfl) (decide_eq_true rfl)) (zy (tNN rfl) rfl))) ⟨_,_,fin _,qq "full" rfl⟩
              | none=>
                refine zW (qK (qN (zy (tW rfl) (decide_eq_true rfl)) (zy (tNN rfl) rfl)) (jA (zy (tIn rfl) Ly))) ?_
                refine zW (zy (tW rfl) IN) ?_
                refine D3 (zy (tW rfl) Lq) ⟨_,rfl,_,rfl,_,rfl,_,rfl,LL,?_⟩
                refine vY (ks:=[a]) (by simp [show a<row.length from ha]) (Nat.le_of_ble_eq_true rfl) (qq _ ?_)
                unfold qY
                show (match (match row.getD a none with | some x=>_ | none=>_:Except String RS) with | .error w=>w | .ok _=>"")=if [row.getD a none].any (·.isNone)=true then "empty" else ""
                cases row.getD a none <;> rfl
            rw [if_neg w2] at q
            by_cases w3:t=Str.ofString "move"
            · rw [if_pos w3] at q
              obtain ⟨a,b,rfl,ha,hb⟩:=yG hpl hps (.inr w3)
              have qq:∀ w,(match qP (row,hd) [] a b with | .error w=>w | .ok _=>"")=w->Q (.d (.str (Str.ofString w))) M:=q
              clear q
              subst w3
              by_cases hab:a=b
              · exact jW (qN (zy (tL3 rfl) rfl) (zy (D0 rfl) (by rw [hab];exact decide_eq_true rfl))) ⟨_,_,fin _,qq "same" (by unfold qP;rw [if_pos hab])⟩
              refine zW (qN (zy (tL3 rfl) rfl) (zy (D0 rfl) (decide_eq_false fun z=>hab (Int.ofNat.inj z)))) ?_
              unfold qP at qq
              rw [if_neg hab] at qq
              dsimp only at qq
              cases hy:row.getD b none with
              | some y=>
                rw [hy] at qq
                exact jW (qK (jA (zy (tW rfl) Ge)) (qN (zy (tIn rfl) yw) (zy (DK rfl rfl rfl hb) (by rw [hy];rfl)))) ⟨_,_,fin _,qq "full" rfl⟩
              | none=>
                rw [hy] at qq
                refine zW (qK (jA (zy (tW rfl) Ge)) (qN (zy (tIn rfl) yw) (zy (DK rfl rfl rfl hb) (by rw [hy];rfl)))) ?_
                refine zW (zy (tW rfl) Ls) ?_
                refine D3 (zy (tW rfl) IW) ⟨_,rfl,_,rfl,_,rfl,_,rfl,LV,?_⟩
                refine vY (ks:=[a]) (by simp [show a<row.length from ha]) (Nat.le_of_ble_eq_true rfl) (qq _ ?_)
                show (match (match row.getD a none with | some x=>_ | none=>_:Except String RS) with | .error w=>w | .ok _=>"")=if [row.getD a none].any (·.isNone)=true then "empty" else ""
                cases row.getD a none <;> rfl
            rw [if_neg w3] at q
            obtain ⟨b,rfl,hb⟩:=yK hpl hps w1 w3
            have w4:t=Str.ofString "lay":=by
              unfold jg at hpl
              rw [if_neg w1,if_neg w2,if_neg w3] at hpl
              by_cases c:t=Str.ofString "lay"
              · exact c
              · rw [if_neg c] at hpl;cases hpl
            have qq:∀ w,(match kz (row,hd) [] b with | .error w=>w | .ok _=>"")=w->Q (.d (.str (Str.ofString w))) M:=q
            clear q
            subst w4
            refine zW (jA (zy (tL3 rfl) rfl)) ?_
            unfold kz at qq
            dsimp only at qq
            cases hy:row.getD b none with
            | some y=>
              rw [hy] at qq
              exact jW (qK (jA (zy (tW rfl) F7)) (qN (zy (tIn rfl) yw') (zy (DK rfl rfl rfl hb) (by rw [hy];rfl)))) ⟨_,_,fin _,qq "full" rfl⟩
            | none=>
              rw [hy] at qq
              refine zW (qK (jA (zy (tW rfl) F7)) (qN (zy (tIn rfl) yw') (zy (DK rfl rfl rfl hb) (by rw [hy];rfl)))) ?_
              cases hd with
              | none=>exact jW (zy (tW rfl) (decide_eq_true rfl)) (Iz (zy (tIN rfl) rfl) ⟨_,_,fin _,qq "empty" rfl⟩)
              | some y=>exact jW (zy (tW rfl) (decide_eq_true rfl)) (D3 (zy (tIN rfl) rfl) ⟨_,_,fin _,qq "" rfl⟩)
theorem KZ {ms ns:List Int}{x:Dat}{w:String}(h:doR s ms x=.error w):doR s ns x=.error w:=by
 unfold doR at h ⊢
 split at h
 ·rename_i c
  rw [if_pos c]
  split at h
  ·rename_i t ps
   have g1:∀ a b,qV s ms a b=.error w->qV s ns a b=.error w:=fun a b=>by
    unfold qV
    split
    ·exact id
    ·cases s.1.getD a none <;> cases s.1.getD b none <;> intro h <;> first | exact h | cases h
   have g2:∀ a b,qP s ms a b=.error w->qP s ns a b=.error w:=fun a b=>by
    unfold qP
    split
    ·exact id
    ·cases s.1.getD b none <;> cases s.1.getD a none <;> intro h <;> first | exact h | cases h
   have g3:∀ a,qY s ms a=.error w->qY s ns a=.error w:=fun a=>by
    unfold qY
    cases s.2 <;> cases s.1.getD a none <;> intro h <;> first | exact h | cases h
   have g4:∀ a,kz s ms a=.error w->kz s ns a=.error w:=fun a=>by
    unfold kz
    cases s.1.getD a none <;> cases s.2 <;> intro h <;> first | exact h | cases h
   split at h
   ·rename_i c1;rw [if_pos c1];exact g1 _ _ h
   ·rename_i c1
    rw [if_neg c1]
    split at h
    ·rename_i c2;rw [if_pos c2];exact g3 _ h
    ·rename_i c2
     rw [if_neg c2]
     split at h
     ·rename_i c3;rw [if_pos c3];exact g2 _ _ h
     ·rename_i c3;rw [if_neg c3];exact g4 _ h
  ·exact h
 ·rename_i c
  rw [if_neg c];exact h
theorem BS {x:Dat}{w:String}(h:doR s ms x=.error w):JD s x=w:=by
 unfold JD;rw [KZ (ns:=[]) h]
theorem Ea {s:ES}{ms:List Int}{x:Dat}{t:RS}(h:doR s ms x=.ok t):JD s x="":=by
 unfold JD
 cases e:doR s [] x with
 | ok _=>rfl
 | error w=>rw [KZ (ns:=ms) e] at h;cases h
noncomputable def XE:ASp:=fun xs M Q=>∃ (b:Addr) (many:Int) (N:Nat),xs=[.ref b,.d (.int many)]/\BxM M b N/\N<1000000000/\0<many/\many<1073741824/\∀ r M',BxS M M' b (N+1)->0<=r->r<many->Q (.d (.int r)) M'
theorem DC (vs:List V)(H:Hp)(Q:VK)(E:XK)(h:cSp XE vs H Q E):JI vs H Q E:=by
 obtain ⟨xs,M,O,Q',w,r,⟨b,many,N,rfl,hb,h1,h2,h3,q⟩,k⟩:=h
 obtain ⟨v,u,rfl,rv,ru⟩:=xf r
 rw [zM ru,rv.1]
 refine ⟨b,many,N,rfl,hb.bx w,h1,h2,h3,fun r H' kp hb' r0 r1=>?_⟩
 obtain ⟨M',s,e,w'⟩:=Wk w hb kp hb'
 exact k _ _ _ _ _ (q r M' s r0 r1) e w' .int
noncomputable def Lv:ASp:=fun xs M Q=>∃ (x:AV) (k:Int) (cs:List Int),xs=[x,.d (.int k)]/\qm x M=some (cs.map fun i=>.d (.int i))/\0<=k/\k<=1000/\cs.length<=1000/\∀ p o,M p=none->BxM (mup M p o) p 0->Q (.ref p) (mup M p o)
theorem G1 (vs:List V)(H:Hp)(Q:VK)(E:XK)(h:cSp Lv vs H Q E):FD vs H Q E:=by
 obtain ⟨xs,M,O,Q',w,r,⟨x,n,cs,rfl,hx,h1,h2,h3,q⟩,k⟩:=h
 obtain ⟨v,u,rfl,rv,ru⟩:=xf r
 rw [zM ru]
 obtain ⟨a,rfl,ha⟩:=BP w rv hx
 refine ⟨a,n,cs,rfl,ha,h1,h2,h3,fun p H' kp hp hb'=>?_⟩
 obtain ⟨x',y',z',g1,g2⟩:=hb'
 obtain ⟨e1,w1⟩:=Bb w kp
 have fr:=w.fresh hp
 have e2:=Ext.owned (O':=yg O p) (p:=p) w ⟨fun a o h e=>⟨(e1.fix a o h e).1,fun z=>z.elim (zl e hp) h⟩,fun a h e=>⟨(e1.prv a h e).1,.inr h,e⟩,fun _ h=>h⟩ hp (.lst ([x',y',z'].map fun i=>.d (.int i)))
 refine k _ _ _ _ _ (q p _ fr.2 ⟨x',y',z',zg,g2⟩) e2 (Jd (O:=yg O p) (xs:=[V.int x',V.int y',V.int z']) ⟨fun a o h=>?_,fun a h=>.inr (w1.own a h),fun a h=>?_⟩ (.inl rfl) fr.2 g1 (JC [x',y',z'])) ⟨rfl,by rw [zg];exact fun z=>nomatch z⟩
 ·have e3:Ext H O M H' (yg O p) M:=⟨fun a o h e=>⟨(e1.fix a o h e).1,fun z=>z.elim (zl e hp) h⟩,fun a h e=>⟨(e1.prv a h e).1,.inr h,e⟩,fun _ h=>h⟩
  refine qQ.ext e3 ?_ (w.mo a o h)
  obtain ⟨u,hu,_⟩:=w.al a (w.own a (qZ h))
  rw [hu];exact kp a u (by simp) hu
 ·rcases h with rfl | h
  ·exact ⟨_,g1,fun xs z=>nomatch z⟩
  ·exact w1.al a h
noncomputable def KY (K:PySem.W.Frag):ASp:=fun xs M Q=>∃ (m:Int) (ns:List Int),xs=[.d (.scr K ns),.d (.int m)]/\0<m/\m<=60/\ns.length<=63/\∀ cs:List Int,cs.length<=1000->Q (.d (.lst (cs.map .int))) M
theorem Y7 (vs:List V)(H:Hp)(Q:VK)(E:XK)(h:cSp (KY K) vs H Q E):QF K vs H Q E:=by
 obtain ⟨xs,M,O,Q',w,r,⟨m,ns,rfl,h1,h2,h3,q⟩,k⟩:=h
 obtain ⟨v,u,rfl,rv,ru⟩:=xf r
 rw [zM ru]
 obtain ⟨a,rfl,ha⟩:=Eo rv
 refine ⟨a,m,ns,rfl,ha,h1,h2,h3,fun p H' cs kp hp hc lc=>?_⟩
 obtain ⟨e1,w1⟩:=Bb w kp
 exact k _ _ _ _ _ (q cs lc) e1 w1 (AJ (w.fresh hp).1 hc)
noncomputable def XS:ASp:=fun xs M Q=>∃ (b:Addr) (m:Int) (N:Nat),xs=[.ref b,.d (.int m)]/\BxM M b N/\N<100000000/\24<=m/\m<=1000/\∀ r M',BxS M M' b (N+10)->0<=r->r<=m->Q (.d (.int r)) M'
theorem Vn (vs:List V)(H:Hp)(Q:VK)(E:XK)(h:cSp XS vs H Q E):QA vs H Q E:=by
 obtain ⟨xs,M,O,Q',w,r,⟨b,many,N,rfl,hb,h1,h2,h3,q⟩,k⟩:=h
 obtain ⟨v,u,rfl,rv,ru⟩:=xf r
 rw [zM ru,rv.1]
 refine ⟨b,many,N,rfl,hb.bx w,h1,h2,h3,fun r H' kp hb' r0 r1=>?_⟩
 obtain ⟨M',s,e,w'⟩:=Wk w hb kp hb'
 exact k _ _ _ _ _ (q r M' s r0 r1) e w' .int
noncomputable def OkX (x:Dat):Prop:=dp x<=40/\∀ l,x=.tup l->l.length<=1000
noncomputable def OkP (x:Dat):Prop:=dp x<=41/\∀ l,(x=.tup l \/ x=.lst l)->l.length<=1000/\∀ d ∈ l,OkX d
structure OkS (x:Dat):Prop where
 d:dp x<=5
 s:Sh 500 x
 p:OkP x
theorem W9 {x:Dat}(hd:dp x<=5)(h:∀ l,(x=.tup l \/ x=.lst l)->l.length<=1000/\∀ d ∈ l,∀ l',d=.tup l'->l'.length<=1000):OkP x:=by
 refine ⟨by omega,fun l hl=>⟨(h l hl).1,fun d hd'=>⟨?_,(h l hl).2 d hd'⟩⟩⟩
 have:dps l<=4:=by rcases hl with rfl | rfl <;> (rw [dp] at hd;omega)
 exact Nat.le_trans (ya this d hd') (by decide)
noncomputable def dD:De->Dat
 | .swap a b=>.tup [.str (Str.ofString "swap"),.int (a:Int),.int (b:Int)]
 | .take p=>.tup [.str (Str.ofString "take"),.int (p:Int)]
 | .move p g=>.tup [.str (Str.ofString "move"),.int (p:Int),.int (g:Int)]
 | .lay g=>.tup [.str (Str.ofString "lay"),.int (g:Int)]
noncomputable def VC:ASp:=fun xs M Q=>∃ (d:De) (st st':ES),xs=[.d (.lst (st.1.map oD)),.d (oD st.2),.d (dD d)]/\DoE d st st'/\st.1.length<=1000/\Q (.d (.tup [.lst (st'.1.map oD),oD st'.2])) M
noncomputable abbrev Ln (row:List (Option Int)):MO:=.lst ((row.map oD).map AV.d)
theorem j8 {a:Nat}{c:Option Int}(h:row[a]?=some c):atI ((row.map oD).map AV.d) (a:Int)=some (.d (oD c))/\ixN ((row.map oD).map AV.d).length (a:Int)=some a:=by
 have hl:a<row.length:=(List.getElem?_eq_some_iff.mp h).1
 have e:ixN ((row.map oD).map AV.d).length (a:Int)=some a:=by rw [List.length_map,List.length_map,qU (by omega) (by omega),Int.toNat_natCast]
 refine ⟨?_,e⟩
 unfold atI
 rw [e]
 show ((row.map oD).map AV.d)[a]?=_
 rw [List.getElem?_map,List.getElem?_map,h];rfl
theorem jJ (row:List (Option Int))(a:Nat)(c:Option Int):((row.map oD).map AV.d).set a (.d (oD c))=((row.set a c).map oD).map AV.d:=by rw [List.map_set,List.map_set]
theorem Fm {t u:AS} {v:AS}(h:∀ r,r=t->xU (yr c r u) v B D ρ M):xU (yr c t u) v B D ρ M:=h t rfl
theorem xu {t:AS} (h:∀ D',D'=D->t B D' ρ M):t B D ρ M:=h D rfl
theorem jw {i:Nat}{w w':Str} {t r:AS} (hρ:ρ[i]?=some (some (.d (.tup (.str w :: ps)))))(hw:decide (w=w')=false)(h:r B D ρ M):xU (yr (aB (aOp (yu id) (aOp (aIx qF) (qh i) (aC (.int 0))) (aC (.str w')))) t jZ) r B D ρ M:=by
 refine ⟨_,hρ,_,0,.d (.str w),rfl,rfl,?_,?_⟩
 ·unfold atI;rw [qU (by omega) (by rw [List.length_map,List.length_cons];omega)];rfl
 ·refine ⟨_,_,rfl,rfl,by rw [qv];omega,by rw [qv];omega,_,rfl,?_⟩
  show (if id (eqD (.str w) (.str w'))=true then _ else _)
  rw [kY,hw]
  exact h
theorem vo {i:Nat}{w w':Str} {t r:AS} (hρ:ρ[i]?=some (some (.d (.tup (.str w :: ps)))))(hw:decide (w=w')=true)(h:t B { nx:=fun ρ' M'=>r B D ρ' M',rt:=D.rt,bk:=D.bk,ct:=D.ct } ρ M):xU (yr (aB (aOp (yu id) (aOp (aIx qF) (qh i) (aC (.int 0))) (aC (.str w')))) t jZ) r B D ρ M:=by
 refine ⟨_,hρ,_,0,.d (.str w),rfl,rfl,?_,?_⟩
 ·unfold atI;rw [qU (by omega) (by rw [List.length_map,List.length_cons];omega)];rfl
 ·refine ⟨_,_,rfl,rfl,by rw [qv];omega,by rw [qv];omega,_,rfl,?_⟩
  show (if id (eqD (.str w) (.str w'))=true then _ else _)
  rw [kY,hw]
  exact h
noncomputable abbrev KB:Stmt:=top 27
theorem Xe:zt ["_law_row","_law_hand","_law_deed_here","_law_one","_law_other"] ["_law_row","_law_hand","_law_deed_here"] (zd KB):=⟨rfl,rfl,rfl,by decide +kernel,rfl,by decide +kernel,by decide +kernel⟩
theorem EZ (a:At K mg "_law_done" KB)(B:Blt mg):Df P w K mg base "_law_done" ["_law_row","_law_hand","_law_deed_here"] 1 (cSp VC):=by
 refine dfA (k:=0) a Xe (fun _ _ _ _ _ _=>Pn3_ fun _ _ _=>rfl) (fun xs M Q h=>?_) (fun f cdv A outer s H E hr=>?_)
 ·obtain ⟨_,_,_,rfl,_⟩:=h;rfl
 have sc:=Xe
 have hsl:=hsl
 refine ⟨_,(zc (zN (i:=0) sc.nd rfl (by first | exact Or.inl rfl | exact Or.inr rfl) (xS (zQ xZ rfl B.list jH (za (pv 0) zb))))
  (zc (zH (zn (zY hr.units) (zx zE (pv 2) ze (fun _ _=>rfl)) zp (zr _)) (zc (BC (i:=3) (j:=4) rfl sc.nd rfl rfl (by decide) rfl rfl (za (zx zE (pv 0) (zx zE (pv 2) ze (fun _ _=>rfl)) (fun _ _=>rfl)) (za (zx zE (pv 0) (zx zE (pv 2) ze (fun _ _=>rfl)) (fun _ _=>rfl)) zb)) rfl)
  (zf (qy (zK (za (pv 4) (za (pv 3) zb))) (qA (K:=K) 2 rfl rfl (zC (qO (pv 0) (zx zE (pv 2) ze (fun _ _=>rfl)) zI) (zC (qO (pv 0) (zx zE (pv 2) ze (fun _ _=>rfl)) zI) qD)))))) zv)
  (zc (zH (zn (zY hr.units) (zx zE (pv 2) ze (fun _ _=>rfl)) zp (zr _)) (zf (qy (zK (za zL (za (zx zE (pv 0) (zx zE (pv 2) ze (fun _ _=>rfl)) (fun _ _=>rfl)) zb))) (qA (K:=K) 2 rfl rfl (zC (qO (pv 0) (zx zE (pv 2) ze (fun _ _=>rfl)) zI) (zC (zD (i:=1) sc.nd rfl (by first | exact Or.inl rfl | exact Or.inr rfl)) qD))))) zv)
  (zc (zH (zn (zY hr.units) (zx zE (pv 2) ze (fun _ _=>rfl)) zp (zr _)) (zf (qy (zK (za zL (za (zx zE (pv 0) (zx zE (pv 2) ze (fun _ _=>rfl)) (fun _ _=>rfl)) zb))) (qA (K:=K) 2 rfl rfl (zC (qO (pv 0) (zx zE (pv 2) ze (fun _ _=>rfl)) zI) (zC (qO (pv 0) (zx zE (pv 2) ze (fun _ _=>rfl)) zI) qD))))) zv)
  (zc (zH (zn (zY hr.units) (zx zE (pv 2) ze (fun _ _=>rfl)) zp (zr _)) (zf (qy (zK (za (pv 1) (za zL zb))) (qA (K:=K) 2 rfl rfl (zC (qO (pv 0) (zx zE (pv 2) ze (fun _ _=>rfl)) zI) (zC (zD (i:=1) sc.nd rfl (by first | exact Or.inl rfl | exact Or.inr rfl)) qD))))) zv)
  (XU 0 (zf (zA (zK (za (pv 0) (za (pv 1) zb))))))))))),?_⟩
 refine ex2 (by walk_at "sim") ?_
 rintro xs M Q ⟨d,⟨row,hd⟩,st',rfl,hdo,hl,q⟩
 rw [show zO ["_law_row","_law_hand","_law_deed_here","_law_one","_law_other"] [.d (.lst (row.map oD)),.d (oD hd),.d (dD d)]=[some (.d (.lst (row.map oD))),some (.d (oD hd)),some (.d (dD d)),none,none] from rfl]
 refine zi fun r1 hr1=>?_
 walk_at "ra"
 intro p hp _
 have hl:row.length<=1000:=hl
 have frz:∀ (row':List (Option Int)) (hd':Option Int) dd,st'=(row',hd')->∀ u v,¬ xG [u] 0 p->¬ xG [v] 0 p->V9 0 (YG (VP (zP (qh 0) (zP (qh 1) jt)))) M { nx:=fun x M'=>rtA M Q (.d .non) M',rt:=rtA M Q } [some (.ref p),some (.d (oD hd')),some (.d dd),u,v] (mup M p (Ln row')):=fun row' hd' dd e u v hu hv=>by
  subst e
  walk_at "ra"
  refine ⟨_,zg,_,zX _,hp,fun j hj z=>?_,fun q' o hq e=>?_,by omega,Q1 (fun q' hq'=>?_) q⟩
  ·match j with
   | 0=>exact hj rfl
   | 1=>cases z
   | 2=>cases z
   | 3=>exact hu z
   | 4=>exact hv z
   | n+5=>cases z
  ·rw [zu hq] at e;exact .inl e
  ·have hne:q' ≠ p:=fun z=>hq' (by rw [z];exact hp)
   rw [jn hne,zu hne]
 subst hr1
 cases hdo with
 | @swap a b row hd x y ne h1 h2=>
  rw [show dD (.swap a b)=.tup [.str (Str.ofString "swap"),.int (a:Int),.int (b:Int)] from rfl]
  refine vo rfl (by decide +kernel) ?_
  refine xu fun D hD=>?_
  walk_at "ra"
  obtain ⟨a1,a2⟩:=j8 h1
  obtain ⟨b1,b2⟩:=j8 h2
  refine ⟨_,rfl,_,qk zg,_,rfl,_,a1,_,rfl,_,qk zg,_,rfl,_,b1,by omega,_,rfl,_,_,rfl,zg,a,a2,_,rfl,_,_,rfl,zg,b,by rw [List.length_set];exact b2,?_⟩
  rw [jJ,jJ]
  subst hD
  refine jw rfl (by decide +kernel) ?_
  refine jw rfl (by decide +kernel) ?_
  refine jw rfl (by decide +kernel) ?_
  exact frz _ _ _ rfl _ _ (fun z=>by cases x <;> cases z) (fun z=>by cases y <;> cases z)
 | @take a row x h1=>
  rw [show dD (.take a)=.tup [.str (Str.ofString "take"),.int (a:Int)] from rfl]
  refine jw rfl (by decide +kernel) ?_
  refine vo rfl (by decide +kernel) ?_
  refine xu fun D hD=>?_
  walk_at "ra"
  obtain ⟨a1,a2⟩:=j8 h1
  refine ⟨_,rfl,_,qk zg,_,rfl,_,a1,by omega,_,rfl,_,_,rfl,zg,a,a2,?_⟩
  rw [show ((row.map oD).map AV.d).set a (AV.d .non)=_ from jJ row a none]
  subst hD
  refine jw rfl (by decide +kernel) ?_
  refine jw rfl (by decide +kernel) ?_
  exact frz _ (some x) _ rfl _ _ (fun z=>nomatch z) (fun z=>nomatch z)
 | @move a b row hd x h1 h2=>
  rw [show dD (.move a b)=.tup [.str (Str.ofString "move"),.int (a:Int),.int (b:Int)] from rfl]
  refine jw rfl (by decide +kernel) ?_
  refine jw rfl (by decide +kernel) ?_
  refine vo rfl (by decide +kernel) ?_
  refine xu fun D hD=>?_
  walk_at "ra"
  obtain ⟨a1,a2⟩:=j8 h1
  obtain ⟨b1,b2⟩:=j8 h2
  refine ⟨_,rfl,_,qk zg,_,rfl,_,a1,by omega,_,rfl,_,_,rfl,zg,a,a2,_,rfl,_,_,rfl,zg,b,by rw [List.length_set];exact b2,?_⟩
  rw [show ((row.map oD).map AV.d).set a (AV.d .non)=_ from jJ row a none,jJ]
  subst hD
  refine jw rfl (by decide +kernel) ?_
  exact frz _ _ _ rfl _ _ (fun z=>nomatch z) (fun z=>nomatch z)
 | @lay g row x h1=>
  rw [show dD (.lay g)=.tup [.str (Str.ofString "lay"),.int (g:Int)] from rfl]
  refine jw rfl (by decide +kernel) ?_
  refine jw rfl (by decide +kernel) ?_
  refine jw rfl (by decide +kernel) ?_
  refine vo rfl (by decide +kernel) ?_
  refine xu fun D hD=>?_
  walk_at "ra"
  obtain ⟨a1,a2⟩:=j8 h1
  refine ⟨by omega,_,rfl,_,_,rfl,zg,g,a2,?_⟩
  rw [jJ]
  subst hD
  exact frz _ none _ rfl _ _ (fun z=>nomatch z) (fun z=>nomatch z)
noncomputable def F5:ASp:=fun xs M Q=>∃ (b:Addr) (row:List (Option Int)) (h:Option Int) (N:Nat),xs=[.ref b,.d (.lst (row.map oD)),.d (oD h)]/\BxM M b N/\N<2000000/\row.length<=1000 /\
 ∀ M',BxS M M' b (N+10)->Q (.d .non) M'/\∀ d t,DoE d (row,h) t->Q (.d (dD d)) M'
noncomputable def y9 (p:Option Int->Bool)(row:List (Option Int)):List Nat:=(List.range row.length).filter fun k=>p (row.getD k none)
noncomputable abbrev niA (l:List Nat):List AV:=l.map fun k:Nat=>AV.d (.int k)
theorem Ya {p:Option Int->Bool} (h:k ∈ y9 p row):∃ c,row[k]?=some c/\p c=true:=by
 obtain ⟨h1,h2⟩:=List.mem_filter.mp h
 have hk:=List.mem_range.mp h1
 refine ⟨row.getD k none,?_,h2⟩
 rw [List.getD_eq_getElem?_getD,List.getElem?_eq_getElem hk];rfl
theorem Hz (p:Option Int->Bool)(row:List (Option Int)):(y9 p row).Nodup:=List.Pairwise.sublist List.filter_sublist List.nodup_range
theorem B8 {l:List Nat}{r:Int}(h0:0<=r)(h1:r<l.length):∃ k,k ∈ l/\l[r.toNat]?=some k/\atI (niA l) r=some (.d (.int k)):=by
 have hr:r.toNat<l.length:=by omega
 refine ⟨l[r.toNat],List.getElem_mem hr,List.getElem?_eq_getElem hr,?_⟩
 unfold atI
 rw [qU h0 (by rw [List.length_map];exact h1)]
 show (niA l)[r.toNat]?=_
 rw [List.getElem?_map,List.getElem?_eq_getElem hr];rfl
theorem Bz {l:List Nat}{r t:Int}(h0:0<=r)(h1:r<l.length)(t0:0<=t)(t1:t<(l.length:Int) - 1):∃ j k,j ≠ r.toNat/\l[j]?=some k/\atI (niA l) (r - 1 - t)=some (.d (.int k)):=by
 by_cases c:0<=r - 1 - t
 ·obtain ⟨k,_,e1,e2⟩:=B8 (l:=l) c (by omega)
  exact ⟨(r - 1 - t).toNat,k,by omega,e1,e2⟩
 ·have hj:(r - 1 - t+l.length).toNat<l.length:=by omega
  refine ⟨(r - 1 - t+l.length).toNat,l[(r - 1 - t+l.length).toNat],by omega,List.getElem?_eq_getElem hj,?_⟩
  unfold atI ixN
  rw [List.length_map,if_neg c,if_pos (by omega)]
  show (niA l)[(r - 1 - t+(l.length:Int)).toNat]?=_
  rw [List.getElem?_map,List.getElem?_eq_getElem hj];rfl
theorem Jb {p : Option Int -> Bool}{row : List (Option Int)}{at_ : AT}{N : List AV -> ASt -> MH -> Prop}{M : MH}{R : Option AV -> ASt}{u : Option AV}(hl : row.length <= 1000)
    (ht:∀ (o:Option AV) (k:Nat) (Q:Bool->MH->Prop),k<row.length->Q (p (row.getD k none)) M->at_ ((R o).set 7 (some (.d (.int k)))) M Q) (hv:∀ o (y:AV),(R o).set 7 (some y)=R (some y)) (h7:∀ (y:AV),(R (some y))[7]?=some (some y)) (hN:∀ o,N (niA (y9 p row)) (R o) M) :
    J0 (kO 7) at_ (xE (qh 7)) (fun _=>True) N (wt 0 1 row.length) [] (R u) M:=by
  refine Vc R (fun y=>match y with | .d (.int k)=>p (row.getD k.toNat none) | _=>false) id ⟨_,rfl⟩ trivial (by rw [kf];omega) (fun o y Q hy q=>?_) fun o=>?_
  · obtain ⟨i,hi⟩:=List.getElem?_of_mem hy
    obtain ⟨hk,rfl⟩:=kI hi
    rw [show (0:Int)+(i:Int) * 1=(i:Int) by omega] at q ⊢
    show at_ _ _ _
    refine ht o i _ hk ?_
    have q:Q (if p (row.getD (i:Int).toNat none)=true then some (id (AV.d (.int i))) else none) (R (some (.d (.int i)))) M:=q (some (.d (.int i)))
    rw [Int.toNat_natCast] at q
    cases hp:p (row.getD i none) with
    | true=>
      rw [if_pos rfl]
      refine ⟨_,by rw [hv];exact h7 _,?_⟩
      rw [hv]
      rw [hp,if_pos rfl] at q;exact q
    | false=>
      rw [if_neg (fun z=>nomatch z),hv]
      rw [hp,if_neg (fun z=>nomatch z)] at q;exact q
  · have e : ((wt 0 1 row.length).filter (fun y => match y with | .d (.int k) => p (row.getD k.toNat none) | _ => false)).map id = niA (y9 p row) := by
      rw [List.map_id]
      unfold wt y9 niA
      rw [List.filter_map]
      have:((fun y=>match y with | AV.d (.int k)=>p (row.getD k.toNat none) | _=>false) ∘ fun i:Nat=>AV.d (.int (0+(i:Int) * 1)))=fun k=>p (row.getD k none):=by
        funext k
        show p (row.getD (0+(k:Int) * 1).toNat none)=_
        rw [show (0+(k:Int) * 1).toNat=k by omega]
      rw [this]
      exact List.map_congr_left fun k _=>by rw [show (0:Int)+(k:Int) * 1=(k:Int) by omega]
    rw [e];exact hN o
theorem LP (l:List Dat):eqD (.lst l) (.lst [])=l.isEmpty:=by cases l <;> simp [eqD,y6]
theorem tNe {i:Nat}{x:AV}{l:List Dat} (h:ρ[i]?=some (some x))(hx:kE x M=some (.lst l))(hd:dp (.lst l)<=40):Tst (aB (aOp (yu not) (qh i) (aFz (HD jt)))) ρ M (!l.isEmpty):=fun Q q=>
 ⟨_,h,Nat.zero_le _,_,rfl,_,_,hx,rfl,hd,by simp [dp,dps],_,rfl,by rw [LP];exact q⟩
theorem yj (l:List Nat):dp (.lst (l.map fun k:Nat=>Dat.int k))<=40:=by
 rw [dp]
 have:=xR (l:=l.map fun k:Nat=>Dat.int k) (n:=0) fun d hd=>by obtain ⟨k,_,rfl⟩:=List.mem_map.mp hd;rw [qT];omega
 omega
variable {N:Nat}
theorem Xi {i:Nat}{l:List Nat} (h0:ρ[0]?=some (some (.ref b)))(hi:ρ[i]?=some (some (.d (.lst (l.map fun k:Nat=>Dat.int k)))))(hb:BxM M b N)(hN:N<10000000)(hl:l.length<=1000)(h:l ≠ [])(k:∀ k ∈ l,∀ M',BxS M M' b (N+1)->Q (.d (.int (k:Nat))) M') :
  aOp (aIx qF) (qh i) (Q6 XE (zP (qh 0) (zP (aCB QR (zP (qh i) jt)) jt))) ρ M Q:=by
 have e:(l.map fun k:Nat=>Dat.int k).map AV.d=niA l:=by rw [List.map_map];rfl
 have hp:0<l.length:=List.length_pos_iff.mpr h
 refine ⟨_,hi,_,h0,_,hi,_,_,rfl,rfl,b,_,N,rfl,hb,by omega,by rw [e,List.length_map];omega,by rw [e,List.length_map];omega,fun r M' s r0 r1=>?_⟩
 rw [e,List.length_map] at r1
 obtain ⟨j,hj,_,a⟩:=B8 r0 r1
 exact ⟨_,_,_,rfl,rfl,by rw [e];exact a,k j hj M' s⟩
theorem vO {l:List Nat}(h:l ≠ []):(!(l.map fun k:Nat=>Dat.int k).isEmpty)=true:=by cases l;exact absurd rfl h;rfl
theorem Q5 (h:M p=some (.lst l)):qm (.ref p) M=some l:=by unfold qm;dsimp only;rw [h]
structure DIn (M M':MH)(b p:Addr)(row:List (Option Int))(hd:Option Int)(N j:Nat)(ds:List De):Prop where
 sb:SB M M' b (N+2 * j)
 p0:M p=none
 pb:p ≠ b
 at_:M' p=some (.lst ((ds.map dD).map .d))
 len:ds.length<=2 * j
 ok:∀ d ∈ ds,∃ t,DoE d (row,hd) t
variable {M':MH} {hd:Option Int} {ds:List De}
theorem DIn.mono {N j k:Nat} (I:DIn M M' b p row hd N j ds)(h:j<=k)(_:j<=k):DIn M M' b p row hd N k ds:=⟨I.sb.mono (by omega),I.p0,I.pb,I.at_,by have:=I.len;omega,I.ok⟩
structure YD (M M':MH)(b p:Addr)(row:List (Option Int))(hd:Option Int)(N j:Nat)(ds:List De):Prop where
 sb:SB M M' b N
 p0:M p=none
 pb:p ≠ b
 at_:M' p=some (.lst ((ds.map dD).map .d))
 len:ds.length<=2 * j
 ok:∀ d ∈ ds,∃ t,DoE d (row,hd) t
theorem DIn.go {M M' M2:MH} {N j N':Nat} (I:DIn M M' b p row hd N j ds)(s:BxS M' M2 b N'):YD M M2 b p row hd N' j ds:=⟨I.sb.go s,I.p0,I.pb,by rw [s.at I.pb];exact I.at_,I.len,I.ok⟩
theorem YD.go {M M' M2:MH} {N j N':Nat} (I:YD M M' b p row hd N j ds)(s:BxS M' M2 b N'):YD M M2 b p row hd N' j ds:=⟨I.sb.go s,I.p0,I.pb,by rw [s.at I.pb];exact I.at_,I.len,I.ok⟩
theorem YD.add {N N0 j:Nat} (I:YD M M' b p row hd N j ds) (h:DoE d (row,hd) t)(hn:N<=N0+2 * (j+1)):DIn M (mup M' p (.lst ((ds.map dD).map .d ++ [.d (dD d)]))) b p row hd N0 (j+1) (ds ++ [d]):=by
 refine ⟨(I.sb.put I.p0 I.pb _).mono hn,I.p0,I.pb,?_,by rw [List.length_append];have:=I.len;show _+1<=_;omega,fun e he=>?_⟩
 ·rw [List.map_append,List.map_append];exact zg
 ·rcases List.mem_append.mp he with he | he
  ·exact I.ok e he
  ·rw [List.mem_singleton.mp he];exact ⟨t,h⟩
noncomputable abbrev Jv:Stmt:=top 26
theorem X0:zt ["_law_box_here","_law_row","_law_hand","_law_there","_law_free","_law_some","_law_one","_law_k"] ["_law_box_here","_law_row","_law_hand"] (zd Jv):=⟨rfl,rfl,rfl,by decide +kernel,rfl,by decide +kernel,by decide +kernel⟩
theorem Ez (a:At K mg "_law_deed" Jv)(B:Blt mg)(D_law_take:Df P w K mg base "_law_take" ["_law_box_here","_law_many"] 1 (cSp XE)):Df P w K mg base "_law_deed" ["_law_box_here","_law_row","_law_hand"] 2 (cSp F5):=by
 refine dfA (k:=1) a X0 (fun _ _ _ _ _ _=>Pn3_ fun _ _ _=>rfl) (fun xs M Q h=>?_) (fun f cdv A outer s H E hr=>?_)
 ·obtain ⟨_,_,_,_,rfl,_⟩:=h;rfl
 have sc:=X0
 have hsl:=hsl
 refine ⟨_,(zc (Xv (j:=3) rfl sc.nd rfl (by first | exact Or.inl rfl | exact Or.inr rfl) (ts:=[7]) rfl (ka rfl B.range (za (zm zw rfl B.len qg (za (pv 1) zb)) zb)) (fun _ _ _ _=>(zD (i:=7) sc.nd rfl (by first | exact Or.inl rfl | exact Or.inr rfl))) (fun _ _ _ _=>XF (zn qX (zx (JU (K:=K) rfl) (pv 1) (pv 7) (fun _ _=>rfl)) zL (zr _))) (fun _ _ _ _=>(pv 7)))
  (zc (Xv (j:=4) rfl sc.nd rfl (by first | exact Or.inl rfl | exact Or.inr rfl) (ts:=[7]) rfl (ka rfl B.range (za (zm zw rfl B.len qg (za (pv 1) zb)) zb)) (fun _ _ _ _=>(zD (i:=7) sc.nd rfl (by first | exact Or.inl rfl | exact Or.inr rfl))) (fun _ _ _ _=>XF (zn kj (zx (JU (K:=K) rfl) (pv 1) (pv 7) (fun _ _=>rfl)) zL (zr _))) (fun _ _ _ _=>(pv 7)))
  (zc (zN (i:=5) sc.nd rfl (by first | exact Or.inl rfl | exact Or.inr rfl) (xS (qL zb)))
  (zc (zH (zn F9 (zm zw rfl B.len qg (za (pv 3) zb)) ze (zr _)) (zc (zN (i:=6) sc.nd rfl (by first | exact Or.inl rfl | exact Or.inr rfl) (zZ D_law_take hr rfl (za (pv 0) (za (zm zw rfl B.len qg (za (pv 3) zb)) zb))))
  (zf (qS (ym PySem.F.plainAttrs_list PySem.F.slot_list_append PySem.F.type_list_append jK (pv 5) (za (zK (za zp (za (zx zE (pv 3) (pv 6) (fun _ _=>rfl)) (za (zx zE (pv 3) (zJ vS (zJ vS (pv 6) ze) (zZ D_law_take hr rfl (za (pv 0) (za (zJ vS (zm zw rfl B.len qg (za (pv 3) zb)) ze) zb)))) (fun _ _=>rfl)) zb)))) zb))))) zv)
  (zc (zH (PW.pt (xO (zn kj (pv 2) zL (zr _)) (kl (zn (jv hr.units) (pv 3) (qL zb) (zr _))))) (zf (qS (ym PySem.F.plainAttrs_list PySem.F.slot_list_append PySem.F.type_list_append jK (pv 5) (za (zK (za zp (za (zx zE (pv 3) (zZ D_law_take hr rfl (za (pv 0) (za (zm zw rfl B.len qg (za (pv 3) zb)) zb))) (fun _ _=>rfl)) zb))) zb)))) zv)
  (zc (zH (PW.pt (xO (zn (jv hr.units) (pv 3) (qL zb) (zr _)) (kl (zn (jv hr.units) (pv 4) (qL zb) (zr _))))) (zf (zN (i:=5) sc.nd rfl (by first | exact Or.inl rfl | exact Or.inr rfl) (xS (zJ B1 (pv 5) (zJ Z4 (qL (za (zK (za zp (za (zx zE (pv 3) (zZ D_law_take hr rfl (za (pv 0) (za (zm zw rfl B.len qg (za (pv 3) zb)) zb))) (fun _ _=>rfl)) (za (zx zE (pv 4) (zZ D_law_take hr rfl (za (pv 0) (za (zm zw rfl B.len qg (za (pv 4) zb)) zb))) (fun _ _=>rfl)) zb)))) zb)) ze))))) zv)
  (zc (zH (PW.pt (xO (zn qX (pv 2) zL (zr _)) (kl (zn (jv hr.units) (pv 4) (qL zb) (zr _))))) (zf (qS (ym PySem.F.plainAttrs_list PySem.F.slot_list_append PySem.F.type_list_append jK (pv 5) (za (zK (za zp (za (zx zE (pv 4) (zZ D_law_take hr rfl (za (pv 0) (za (zm zw rfl B.len qg (za (pv 4) zb)) zb))) (fun _ _=>rfl)) zb))) zb)))) zv)
  (zf (zA (kZ (zn (jv hr.units) (pv 5) (qL zb) (zr _)) (zx zE (pv 5) (zZ D_law_take hr rfl (za (pv 0) (za (zm zw rfl B.len qg (za (pv 5) zb)) zb))) (fun _ _=>rfl)) zL)))))))))),?_⟩
 refine ex2 (by walk_at "sim") ?_
 rintro xs M Q ⟨b,row,hd,N,rfl,hb,hN,hl,q⟩
 rw [show zO ["_law_box_here","_law_row","_law_hand","_law_there","_law_free","_law_some","_law_one","_law_k"] [.ref b,.d (.lst (row.map oD)),.d (oD hd)]=[some (.ref b),some (.d (.lst (row.map oD))),some (.d (oD hd)),none,none,none,none,none] from rfl]
 have sb:=SB.refl hb
 refine zi fun r1 hr1=>?_
 walk_at "ra"
 refine ⟨by omega,by omega,?_⟩
 rw [Int.toNat_natCast]
 have pn:∀ l:List Nat,pur (niA l)=some (l.map fun k:Nat=>Dat.int k):=fun l=>by
  unfold niA;rw [show (fun k:Nat=>AV.d (.int k))=AV.d ∘ fun k:Nat=>Dat.int k from rfl,<- List.map_map];exact zX _
 refine Jb (p:=fun c=>c.isSome) (R:=fun o=>[some (.ref b),some (.d (.lst (row.map oD))),some (.d (oD hd)),none,none,none,none,o]) hl (fun o k Q hk q=>?_) (fun _ _=>rfl) (fun _=>rfl) fun o=>⟨_,pn _,?_⟩
 ·refine ⟨_,rfl,_,rfl,_,_,_,rfl,rfl,ye hk,rfl,_,rfl,?_⟩
  cases h:row.getD k none <;> rw [h] at q <;> exact q
 subst hr1
 refine zi fun r1 hr1=>?_
 walk_at "ra"
 refine ⟨by omega,by omega,?_⟩
 rw [Int.toNat_natCast]
 refine Jb (p:=fun c=>c.isNone) (R:=fun o=>[some (.ref b),some (.d (.lst (row.map oD))),some (.d (oD hd)),some (.d (.lst ((y9 (fun c=>c.isSome) row).map fun k:Nat=>Dat.int k))),none,none,none,o]) hl (fun o k Q hk q=>?_) (fun _ _=>rfl) (fun _=>rfl) fun o=>⟨_,pn _,?_⟩
 ·refine ⟨_,rfl,_,rfl,_,_,_,rfl,rfl,ye hk,rfl,_,rfl,?_⟩
  cases h:row.getD k none <;> rw [h] at q <;> exact q
 have hth:∀ k ∈ y9 (fun c=>c.isSome) row,∃ x,row[k]?=some (some x):=fun k hk=>by
  obtain ⟨c,h1,h2⟩:=Ya hk
  cases c with
  | none=>cases h2
  | some x=>exact ⟨x,h1⟩
 have hfr:∀ k ∈ y9 (fun c=>c.isNone) row,row[k]?=some none:=fun k hk=>by
  obtain ⟨c,h1,h2⟩:=Ya hk
  cases c with
  | none=>exact h1
  | some x=>cases h2
 have ndt:=Hz (fun c=>c.isSome) row
 have lth:(y9 (fun c=>c.isSome) row).length<=1000:=Nat.le_trans (List.length_filter_le _ _) (by rw [List.length_range];exact hl)
 have lfr:(y9 (fun c=>c.isNone) row).length<=1000:=Nat.le_trans (List.length_filter_le _ _) (by rw [List.length_range];exact hl)
 generalize y9 (fun c=>c.isSome) row=th at *
 generalize y9 (fun c=>c.isNone) row=fr at *
 subst hr1
 refine zi fun r1 hr1=>?_
 walk_at "ra"
 intro p hp _
 obtain ⟨p0,pb⟩:=sb.new hp
 have I0:DIn M (mup M p (.lst [])) b p row hd N 0 []:=⟨sb.put p0 pb _,p0,pb,zg,Nat.le_refl 0,by simp⟩
 generalize mup M p (.lst [])=M1 at *
 have mth:(th.map fun k:Nat=>Dat.int k).map AV.d=niA th:=by rw [List.map_map];rfl
 have mfr:(fr.map fun k:Nat=>Dat.int k).map AV.d=niA fr:=by rw [List.map_map];rfl
 subst hr1
 refine zi fun r1 hr1=>?_
 have go1:∀ ds u6 M',DIn M M' b p row hd N 1 ds->r1 M { nx:=fun x M'=>rtA M Q (.d .non) M',rt:=rtA M Q } [some (.ref b),some (.d (.lst (row.map oD))),some (.d (oD hd)),some (.d (.lst (th.map fun k:Nat=>Dat.int k))),some (.d (.lst (fr.map fun k:Nat=>Dat.int k))),some (.ref p),u6,none] M':=fun ds u6 M' I=>by
  subst hr1
  refine zi fun r1 hr1=>?_
  have go2:∀ ds M',DIn M M' b p row hd N 2 ds->r1 M { nx:=fun x M'=>rtA M Q (.d .non) M',rt:=rtA M Q } [some (.ref b),some (.d (.lst (row.map oD))),some (.d (oD hd)),some (.d (.lst (th.map fun k:Nat=>Dat.int k))),some (.d (.lst (fr.map fun k:Nat=>Dat.int k))),some (.ref p),u6,none] M':=fun ds M' I=>by
   subst hr1
   refine zi fun r1 hr1=>?_
   have go3:∀ p ds M',DIn M M' b p row hd N 3 ds->r1 M { nx:=fun x M'=>rtA M Q (.d .non) M',rt:=rtA M Q } [some (.ref b),some (.d (.lst (row.map oD))),some (.d (oD hd)),some (.d (.lst (th.map fun k:Nat=>Dat.int k))),some (.d (.lst (fr.map fun k:Nat=>Dat.int k))),some (.ref p),u6,none] M':=fun p ds M' I=>by
    subst hr1
    refine zi fun r1 hr1=>?_
    have go4:∀ ds M',DIn M M' b p row hd N 4 ds->r1 M { nx:=fun x M'=>rtA M Q (.d .non) M',rt:=rtA M Q } [some (.ref b),some (.d (.lst (row.map oD))),some (.d (oD hd)),some (.d (.lst (th.map fun k:Nat=>Dat.int k))),some (.d (.lst (fr.map fun k:Nat=>Dat.int k))),some (.ref p),u6,none] M':=fun ds M' I=>by
     subst hr1
     have hda:kE (.ref p) M'=some (.lst (ds.map dD)):=by unfold kE;dsimp only;rw [I.at_];dsimp only;rw [zX];rfl
     have hdd:dp (.lst (ds.map dD))<=40:=by
      rw [dp]
      have:=xR (l:=ds.map dD) (n:=1) fun x hx=>by obtain ⟨d,_,rfl⟩:=List.mem_map.mp hx;cases d <;> simp [dD,dp,dps]
      omega
     cases ds with
     | nil=>exact D3 (zy (tNe rfl hda hdd) rfl) ((I.sb.mono (show _<=N+10 by omega)).rt fun M'' s=>(q M'' s).1)
     | cons d0 ds0=>
      refine Iz (zy (tNe rfl hda hdd) rfl) ?_
      have hsq:∀ {M2},M2 p=M' p->qF (.ref p) M2=some (((d0 :: ds0).map dD).map .d):=fun h=>by unfold qF;dsimp only;rw [h,I.at_]
      have hl8:=I.len
      refine ⟨_,rfl,_,rfl,_,rfl,_,_,rfl,hsq rfl,b,_,_,rfl,I.sb.bx,by omega,by rw [List.length_map,List.length_map,List.length_cons];omega,by rw [List.length_map,List.length_map];omega,fun r M2 s2 r0 r1=>?_⟩
      rw [List.length_map,List.length_map] at r1
      have hr:r.toNat<(d0 :: ds0).length:=by omega
      have hm:=List.getElem_mem hr
      obtain ⟨t,ht⟩:=I.ok _ hm
      refine ⟨_,_,.d (dD ((d0 :: ds0)[r.toNat])),hsq (s2.at I.pb),rfl,?_,((I.sb.go s2).mono (show _<=N+10 by omega)).rt fun M'' s=>(q M'' s).2 _ t ht⟩
      unfold atI
      rw [qU r0 (by rw [List.length_map,List.length_map];exact r1)]
      show (((d0 :: ds0).map dD).map AV.d)[r.toNat]?=_
      rw [List.getElem?_map,List.getElem?_map,List.getElem?_eq_getElem hr];rfl
    cases hd with
    | none=>exact zW (jA (zy (tNN rfl) rfl)) (go4 ds M' (I.mono (by omega) (by omega)))
    | some x=>
     by_cases hf:fr=[]
     ·exact zW (qN (zy (tNN rfl) rfl) (zy (tNe rfl rfl (yj _)) (by rw [hf];rfl))) (go4 ds M' (I.mono (by omega) (by omega)))
     refine QH (qN (zy (tNN rfl) rfl) (zy (tNe rfl rfl (yj _)) (vO hf))) ?_
     have:=I.len
     refine ⟨_,rfl,⟨_,Q5 I.at_⟩,Xi rfl rfl I.sb.bx (by omega) lfr hf fun k hk M2 s2=>⟨by show 2<=_;omega,_,rfl,_,_,_,rfl,rfl,(I.go s2).at_,by rw [List.length_map,List.length_map];omega,go4 _ _ ((I.go s2).add (d:=.lay k) (DoE.lay (hfr k hk)) (by omega))⟩⟩
   by_cases ht:th=[]
   ·exact zW (jA (zy (tNe rfl rfl (yj _)) (by rw [ht];rfl))) (go3 p ds M' (I.mono (by omega) (by omega)))
   by_cases hf:fr=[]
   ·exact zW (qN (zy (tNe rfl rfl (yj _)) (vO ht)) (zy (tNe rfl rfl (yj _)) (by rw [hf];rfl))) (go3 p ds M' (I.mono (by omega) (by omega)))
   refine QH (qN (zy (tNe rfl rfl (yj _)) (vO ht)) (zy (tNe rfl rfl (yj _)) (vO hf))) ?_
   have:=I.len
   refine ⟨_,rfl,Xi rfl rfl I.sb.bx (by omega) lth ht fun k hk M2 s2=>Xi rfl rfl (I.go s2).sb.bx (by omega) lfr hf fun g hg M3 s3=>?_⟩
   obtain ⟨x,hx⟩:=hth k hk
   have I3:=(I.go s2).go s3
   refine ⟨by show 3<=_;omega,_,rfl,by show 1<=_;omega,_,rfl,_,_,rfl,rfl,by decide,by decide,by show 1 * 2<=_;omega,_,rfl,_,_,Q5 I3.at_,rfl,by rw [List.length_map,List.length_map];show _+2<=_;omega,fun p' hp0 hp'=>?_⟩
   obtain ⟨q0,qb⟩:=I3.sb.new hp'
   refine go3 p' (ds ++ [.move k g,.move k g]) _ ⟨(I3.sb.put q0 qb _).mono (by omega),q0,qb,?_,by rw [List.length_append];show _+2<=_;omega,fun e he=>?_⟩
   ·rw [List.map_append,List.map_append];exact zg
   ·rcases List.mem_append.mp he with he | he
    ·exact I.ok e he
    ·obtain rfl | rfl:e=.move k g \/ e=.move k g:=by simpa using he
     all_goals exact ⟨_,DoE.move hx (hfr g hg)⟩
  cases hd with
  | some x=>exact zW (jA (zy (tIN rfl) rfl)) (go2 ds M' (I.mono (by omega) (by omega)))
  | none=>
   by_cases ht:th=[]
   ·exact zW (qN (zy (tIN rfl) rfl) (zy (tNe rfl rfl (yj _)) (by rw [ht];rfl))) (go2 ds M' (I.mono (by omega) (by omega)))
   refine QH (qN (zy (tIN rfl) rfl) (zy (tNe rfl rfl (yj _)) (vO ht))) ?_
   have:=I.len
   refine ⟨_,rfl,⟨_,Q5 I.at_⟩,Xi rfl rfl I.sb.bx (by omega) lth ht fun k hk M2 s2=>⟨by show 2<=_;omega,_,rfl,_,_,_,rfl,rfl,(I.go s2).at_,by rw [List.length_map,List.length_map];omega,?_⟩⟩
   obtain ⟨x,hx⟩:=hth k hk
   exact go2 _ _ ((I.go s2).add (d:=.take k) (DoE.take hx) (by omega))
 refine Fm fun r2 hr2=>?_
 walk_at "ra"
 by_cases c:1<(th.length:Int)
 case neg=>rw [if_neg c];exact go1 [] none M1 (I0.mono (by omega) (by omega))
 rw [if_pos c]
 subst hr2
 walk_at "ra"
 refine ⟨b,_,_,rfl,I0.sb.bx,by omega,by omega,by omega,fun one M2 s2 o0 o1=>?_⟩
 have I1:=I0.go s2
 obtain ⟨k1,m1,e1,a1⟩:=B8 o0 o1
 refine ⟨⟨_,Q5 I1.at_⟩,_,rfl,_,by rw [mth];exact a1,_,rfl,b,_,_,rfl,I1.sb.bx,by omega,by omega,by omega,fun oth M3 s3 t0 t1=>?_⟩
 have I2:=I1.go s3
 obtain ⟨j,k2,hj,e2,a2⟩:=Bz o0 o1 t0 t1
 obtain ⟨x1,hx1⟩:=hth k1 m1
 obtain ⟨x2,hx2⟩:=hth k2 (List.mem_of_getElem? e2)
 refine ⟨_,rfl,_,by rw [mth];exact a2,by omega,_,rfl,_,I2.at_,by show 0<_;omega,?_⟩
 refine go1 _ _ _ (I2.add (d:=.swap k1 k2) (DoE.swap (fun z=>hj ?_) hx1 hx2) (by omega))
 subst z
 exact (List.getElem?_inj (List.getElem?_eq_some_iff.mp e2).1 ndt).mp (e2.trans e1.symm)
noncomputable def Dg:V7:=fun xs M Q=>∃ (b:Addr) (n N:Nat) (m:Int),xs=[.ref b,.d (.int n),.d (.int m)]/\n<=1000/\0<=m/\m<=100/\BxM M b N/\N<1000000 /\
 ∀ M' (ds:List De) (st:ES) p,BxS M M' b (N+10 * m.toNat)->M p=none->p ≠ b->ds.length<=m.toNat->yB ds ((qp 0 1 n).map some,none) st->Q [.ref p,.d (.lst (st.1.map oD)),.d (oD st.2)] (mup M' p (.lst ((ds.map dD).map .d)))
theorem IZ {t:AS} (h:Tst c ρ M true)(k:t B D ρ M):yr c t jZ B D ρ M:=h _ (by rw [if_pos rfl];exact k)
theorem exT {t:TS}{q:AST->Prop}{b:AST}(h:wF t b)(k:q b):∃ b,wF t b/\q b:=⟨b,h,k⟩
noncomputable abbrev JN:Stmt:=top 28
theorem KS:zt ["_law_box_here","_law_n","_law_many","_law_turn","_law_row","_law_hand","_law_plan_here","_law_deed_here"] ["_law_box_here","_law_n","_law_many"] (zd JN):=⟨rfl,rfl,rfl,by decide +kernel,rfl,by decide +kernel,by decide +kernel⟩
theorem DS (a:At K mg "_law_plan" JN)(B:Blt mg)(D_law_deed:Df P w K mg base "_law_deed" ["_law_box_here","_law_row","_law_hand"] 2 (cSp F5))(D_law_done:Df P w K mg base "_law_done" ["_law_row","_law_hand","_law_deed_here"] 2 (cSp VC)):Df P w K mg base "_law_plan" ["_law_box_here","_law_n","_law_many"] 3 (Fv Dg):=by
 refine dfT (k:=2) a KS (fun _ _ _ _ _ _=>Pn3_ fun _ _ _=>rfl) (fun xs M Q h=>?_) (fun f cdv A outer s H E hr=>?_)
 ·obtain ⟨_,_,_,_,rfl,_⟩:=h;rfl
 have sc:=KS
 have hsl:=hsl
 refine' ⟨_,?q0,?qr⟩
 (case q0=>
  refine' zc ?s1 ?s2
  (case s1=>exact (Fk (i:=4) (j:=5) (k:=6) rfl sc.nd rfl rfl rfl (by decide) (by decide) (by decide) rfl rfl rfl (za (zQ (j5 rfl) rfl B.list jH (za (zQ kT rfl B.range vD (za (pv 1) zb)) zb)) (za zL (za (xS (qL zb)) zb))) rfl))
  (case s2=>
   refine' zc ?s3 ?s4
   (case s3=>exact (xg PassesOwn.never rfl (ka rfl B.range (za (pv 2) zb)) (zD (i:=3) sc.nd rfl (by first | exact Or.inl rfl | exact Or.inr rfl)) (zc (zN (i:=7) sc.nd rfl (by first | exact Or.inl rfl | exact Or.inr rfl) (zZ D_law_deed hr rfl (za (pv 0) (za (pv 4) (za (pv 5) zb))))) (zf (zH (zn qX (pv 7) zL (zr _)) (zc (qS (ym PySem.F.plainAttrs_list PySem.F.slot_list_append PySem.F.type_list_append jK (pv 6) (za (pv 7) zb))) (zf (qy (zZ D_law_done hr rfl (za (pv 4) (za (pv 5) (za (pv 7) zb)))) (qA (K:=K) 2 rfl rfl (zC (zD (i:=4) sc.nd rfl (by first | exact Or.inl rfl | exact Or.inr rfl)) (zC (zD (i:=5) sc.nd rfl (by first | exact Or.inl rfl | exact Or.inr rfl)) qD)))))) zv)))))
   (case s4=>exact (zf (zA (zK (za (pv 6) (za (pv 4) (za (pv 5) zb)))))))))
 refine exT (by walk_at "sim") ?_
 rintro xs M Q ⟨b,n,N,m,rfl,hn,hm0,hm1,hb,hN,q⟩
 rw [show zO ["_law_box_here","_law_n","_law_many","_law_turn","_law_row","_law_hand","_law_plan_here","_law_deed_here"] [.ref b,.d (.int n),.d (.int m)]=[some (.ref b),some (.d (.int n)),some (.d (.int m)),none,none,none,none,none] from rfl]
 refine QI fun r1 hr1=>?_
 walk_at "ra"
 refine ⟨0,n,1,rfl,small_one (by omega) (by omega) (by omega) (by omega),n,by rw [rangeSize_one];split <;> omega,by omega,fun p hp _=>?_⟩
 have pb:p ≠ b:=fun z=>hb.ne (z ▸ hp)
 subst hr1
 refine QI fun r1 hr1=>?_
 walk_at "ra"
 refine ⟨by omega,by omega,?_⟩
 refine ⟨fun i ρ Mi=>∃ (u3 u7:Option AV) (st:ES) (ds:List De),ρ=[some (.ref b),some (.d (.int n)),some (.d (.int m)),u3,some (.d (.lst (st.1.map oD))),some (.d (oD st.2)),some (.ref p),u7]/\BxM Mi b (N+10 * i)/\Mi p=some (.lst ((ds.map dD).map .d))/\(∀ q,q ≠ b->q ≠ p->Mi q=M q)/\ds.length<=i/\st.1.length=n/\yB ds ((qp 0 1 n).map some,none) st,?_,?_,?_⟩
 ·exact ⟨none,none,((qp 0 1 n).map some,none),[],by rw [List.map_map];rfl,((SB.refl hb).put hp pb _).bx,zg,fun q h1 h2=>zu h2,Nat.le_refl 0,by rw [List.length_map,qi],.nil⟩
 ·rintro i y ρ Mi hy ⟨u3,u7,⟨row,hd⟩,ds,rfl,bx,hpl,fr,ld,lr,hdo⟩
  obtain ⟨hi,rfl⟩:=kI hy
  have lr:row.length=n:=lr
  refine ⟨trivial,_,rfl,_,rfl,_,rfl,b,row,hd,N+10 * i,rfl,bx,by omega,by omega,fun M2 s2=>?_⟩
  have p2:M2 p=_:=(s2.at pb).trans hpl
  refine ⟨BA (zy (tNN rfl) rfl) ⟨_,_,(row,hd),ds,rfl,s2.1.mono (by omega),p2,fun q h1 h2=>(s2.at h1).trans (fr q h1 h2),by omega,lr,hdo⟩,fun d t hd'=>?_⟩
  refine IZ (zy (tNN rfl) (by cases d <;> rfl)) ?_
  refine ⟨_,rfl,⟨_,Q5 p2⟩,_,rfl,_,_,_,rfl,rfl,p2,by rw [List.length_map,List.length_map];omega,?_⟩
  refine ⟨_,rfl,_,rfl,_,rfl,d,(row,hd),t,rfl,hd',by show row.length<=1000;omega,?_⟩
  walk_at "ra"
  refine ⟨_,t,rfl,rfl,rfl,(s2.1.mono (by omega)).put (Ne.symm pb) _,ds ++ [d],?_,fun q h1 h2=>(zu h2).trans ((s2.at h1).trans (fr q h1 h2)),by rw [List.length_append];show _+1<=_;omega,hd'.len.trans lr,hdo.append (.one hd')⟩
  rw [List.map_append,List.map_append];exact zg
 ·rintro ρ Mi ⟨u3,u7,st,ds,rfl,bx,hpl,fr,ld,lr,hdo⟩
  subst hr1
  walk_at "ra"
  refine ⟨by omega,?_⟩
  rw [kf] at bx ld
  obtain ⟨o,ho⟩:∃ o,Mi b=some o:=by
   cases e:Mi b with
   | none=>exact absurd e bx.ne
   | some o=>exact ⟨o,rfl⟩
  have e1:Mi=mup (mup M b o) p (.lst ((ds.map dD).map .d)):=by
   funext q
   by_cases c:q=p
   ·rw [c,hpl,zg]
   rw [zu c]
   by_cases c2:q=b
   ·rw [c2,ho,zg]
   ·rw [zu c2];exact fr q c2 c
  have bx2:BxM (mup M b o) b (N+10 * m.toNat):=by
   obtain ⟨x,y,z,h,k⟩:=bx
   exact ⟨x,y,z,by rw [zg,<- ho];exact h,k⟩
  rw [e1]
  exact q _ ds st p ⟨bx2,o,rfl⟩ hp pb ld hdo
theorem xt {a:Nat}{c:Option Int}(h:row[a]?=some c):a<row.length/\row.getD a none=c:=⟨(List.getElem?_eq_some_iff.mp h).1,by rw [List.getD_eq_getElem?_getD,h];rfl⟩
theorem wL {n a:Nat}(h:a<n):zT (.int (a:Int)) n=true:=decide_eq_true ⟨by omega,by omega⟩
noncomputable def xF (ms:List Int):Option Int->List Int
 | none=>ms
 | some x=>jV ms x
noncomputable def vv (s:ES):De->List (Option Int)
 | .swap a b=>[s.1.getD a none,s.1.getD b none]
 | .take p=>[s.1.getD p none]
 | .move p g=>[s.1.getD p none,s.1.getD g none]
 | .lay _=>[s.2]
theorem JY {d:De}{s t:ES}(h:DoE d s t)(ms:List Int):doR s ms (dD d)=.ok (t,(vv s d).foldl xF ms):=by
 cases h with
 | @swap a b row hd x y ne h1 h2=>
  obtain ⟨l1,g1⟩:=xt h1
  obtain ⟨l2,g2⟩:=xt h2
  have hf:zV (dD (.swap a b)) row.length=true:=by
   show (jg (Str.ofString "swap") == some 2 && [Dat.int (a:Int),Dat.int (b:Int)].all (zT · row.length))=true
   simp only [List.all_cons,List.all_nil,wL l1,wL l2];rfl
  show _=Except.ok (_,[row.getD a none,row.getD b none].foldl xF ms)
  unfold doR
  rw [if_pos hf]
  show qV (row,hd) ms a b=_
  unfold qV
  rw [if_neg ne]
  dsimp only
  rw [g1,g2];rfl
 | @take p row x h1=>
  obtain ⟨l1,g1⟩:=xt h1
  have hf:zV (dD (.take p)) row.length=true:=by
   show (jg (Str.ofString "take") == some 1 && [Dat.int (p:Int)].all (zT · row.length))=true
   simp only [List.all_cons,List.all_nil,wL l1];rfl
  show _=Except.ok (_,[row.getD p none].foldl xF ms)
  unfold doR
  rw [if_pos hf]
  show qY (row,none) ms p=_
  unfold qY
  dsimp only
  rw [g1];rfl
 | @move p g row hd x h1 h2=>
  obtain ⟨l1,g1⟩:=xt h1
  obtain ⟨l2,g2⟩:=xt h2
  have ne:p ≠ g:=fun z=>by rw [z,h2] at h1;cases h1
  have hf:zV (dD (.move p g)) row.length=true:=by
   show (jg (Str.ofString "move") == some 2 && [Dat.int (p:Int),Dat.int (g:Int)].all (zT · row.length))=true
   simp only [List.all_cons,List.all_nil,wL l1,wL l2];rfl
  show _=Except.ok (_,[row.getD p none,row.getD g none].foldl xF ms)
  unfold doR
  rw [if_pos hf]
  show qP (row,hd) ms p g=_
  unfold qP
  rw [if_neg ne]
  dsimp only
  rw [g2];dsimp only;rw [g1];rfl
 | @lay g row x h1=>
  obtain ⟨l1,g1⟩:=xt h1
  have hf:zV (dD (.lay g)) row.length=true:=by
   show (jg (Str.ofString "lay") == some 1 && [Dat.int (g:Int)].all (zT · row.length))=true
   simp only [List.all_cons,List.all_nil,wL l1];rfl
  show _=Except.ok (_,[some x].foldl xF ms)
  unfold doR
  rw [if_pos hf]
  show kz (row,some x) ms g=_
  unfold kz
  dsimp only
  rw [g1];rfl
theorem xk {a:Nat}{c:Option Int}(h:a<row.length)(g:row.getD a none=c):row[a]?=some c:=by
 rw [List.getD_eq_getElem?_getD,List.getElem?_eq_getElem h] at g
 rw [List.getElem?_eq_getElem h]
 exact congrArg some g
theorem ZF {s:ES}{ms:List Int}{x:Dat}{t:RS}(h:doR s ms x=.ok t):∃ d,x=dD d/\DoE d s t.1:=by
 obtain ⟨row,hd⟩:=s
 unfold doR at h
 by_cases hf:zV x row.length=true
 case neg=>rw [if_neg hf] at h;cases h
 rw [if_pos hf] at h
 obtain ⟨w,ps,rfl,hpl,hps⟩:=xp hf
 dsimp only at h
 by_cases w1:w=Str.ofString "swap"
 ·rw [if_pos w1] at h
  obtain ⟨a,b,rfl,ha,hb⟩:=yG hpl hps (.inl w1)
  have h:qV (row,hd) ms a b=.ok t:=h
  unfold qV at h
  by_cases hab:a=b
  ·rw [if_pos hab] at h;cases h
  rw [if_neg hab] at h
  dsimp only at h
  cases hx:row.getD a none with
  | none=>rw [hx] at h;cases h
  | some x=>
   cases hy:row.getD b none with
   | none=>rw [hx,hy] at h;cases h
   | some y=>
    rw [hx,hy] at h
    cases h
    exact ⟨.swap a b,by rw [w1];rfl,.swap hab (xk ha hx) (xk hb hy)⟩
 rw [if_neg w1] at h
 by_cases w2:w=Str.ofString "take"
 ·rw [if_pos w2] at h
  obtain ⟨a,rfl,ha⟩:=yK hpl hps w1 (by rw [w2];decide +kernel)
  have h:qY (row,hd) ms a=.ok t:=h
  unfold qY at h
  dsimp only at h
  cases hd with
  | some y=>cases h
  | none=>
   dsimp only at h
   cases hx:row.getD a none with
   | none=>rw [hx] at h;cases h
   | some x=>
    rw [hx] at h
    cases h
    exact ⟨.take a,by rw [w2];rfl,.take (xk ha hx)⟩
 rw [if_neg w2] at h
 by_cases w3:w=Str.ofString "move"
 ·rw [if_pos w3] at h
  obtain ⟨a,b,rfl,ha,hb⟩:=yG hpl hps (.inr w3)
  have h:qP (row,hd) ms a b=.ok t:=h
  unfold qP at h
  by_cases hab:a=b
  ·rw [if_pos hab] at h;cases h
  rw [if_neg hab] at h
  dsimp only at h
  cases hy:row.getD b none with
  | some y=>rw [hy] at h;cases h
  | none=>
   rw [hy] at h
   dsimp only at h
   cases hx:row.getD a none with
   | none=>rw [hx] at h;cases h
   | some x=>
    rw [hx] at h
    cases h
    exact ⟨.move a b,by rw [w3];rfl,.move (xk ha hx) (xk hb hy)⟩
 rw [if_neg w3] at h
 obtain ⟨b,rfl,hb⟩:=yK hpl hps w1 w3
 have w4:w=Str.ofString "lay":=by
  unfold jg at hpl
  rw [if_neg w1,if_neg w2,if_neg w3] at hpl
  by_cases c:w=Str.ofString "lay"
  ·exact c
  ·rw [if_neg c] at hpl;cases hpl
 have h:kz (row,hd) ms b=.ok t:=h
 unfold kz at h
 dsimp only at h
 cases hy:row.getD b none with
 | some y=>rw [hy] at h;cases h
 | none=>
  rw [hy] at h
  dsimp only at h
  cases hd with
  | none=>cases h
  | some x=>
   cases h
   exact ⟨.lay b,by rw [w4];rfl,.lay (xk hb hy)⟩
theorem YB (ms:List Int)(c:Option Int):(xF ms c).length=ms.length:=by cases c;rfl;exact QN _ _
theorem yF (cs:List (Option Int)):∀ ms,(cs.foldl xF ms).length=ms.length:=by
 induction cs with
 | nil=>exact fun _=>rfl
 | cons c cs ih=>intro ms;rw [List.foldl_cons,ih,YB]
noncomputable def dW:De->Str
 | .swap _ _=>Str.ofString "swap"
 | .take _=>Str.ofString "take"
 | .move _ _=>Str.ofString "move"
 | .lay _=>Str.ofString "lay"
noncomputable def dPs:De->List Nat
 | .swap a b=>[a,b]
 | .take a=>[a]
 | .move a b=>[a,b]
 | .lay a=>[a]
theorem IK (d:De):dD d=.tup (.str (dW d) :: (dPs d).map fun k:Nat=>Dat.int k):=by cases d <;> rfl
theorem Fz (d:De):(dPs d).length<=2:=by cases d <;> simp [dPs]
theorem Lm (h:DoE d s t):∀ k ∈ dPs d,k<s.1.length:=by
 have g:∀ {row:List (Option Int)} {a:Nat} {c:Option Int},row[a]?=some c->a<row.length:=fun h=>(List.getElem?_eq_some_iff.mp h).1
 cases h <;> intro k hk <;> simp only [dPs,List.mem_cons,List.not_mem_nil,or_false] at hk
 ·rename_i h1 h2;rcases hk with rfl | rfl;exact g h1;exact g h2
 ·rename_i h1;subst hk;exact g h1
 ·rename_i h1 h2;rcases hk with rfl | rfl;exact g h1;exact g h2
 ·rename_i h1;subst hk;exact g h1
noncomputable abbrev vQ:Stmt:=top 29
theorem ZT:zt ["_law_found","_law_due_here","_law_one","_law_other"] ["_law_found","_law_due_here"] (zd vQ):=⟨rfl,rfl,rfl,by decide +kernel,rfl,by decide +kernel,by decide +kernel⟩
noncomputable def vH (n:Nat):ASp:=fun xs M Q=>∃ (x y:AV) (d:Dat),xs=[x,y]/\kE x M=some d/\kE y M=some d/\jG n d/\n<=30/\Q (.d (.bl true)) M
noncomputable def aNo:ASp:=fun _ _ _=>False
variable {sp:ASp}
theorem Bf {x y:AV} {l:List Dat} (hsp:∀ xs M Q,vH n xs M Q->sp xs M Q){N:List AV->ASt->MH->Prop}(hl:l.length<=100000)(hd:∀ d ∈ l,jG n d)(hn:n<=30){u v:Option AV}(hN:N (l.map fun _=>AV.d (.bl true)) [] M)(hN':∀ acc ρ ρ' M,N acc ρ M->N acc ρ' M) :
  J0 (XI 2 (xT (kO 2) (xT (kO 3) X4))) wl (xE (Q6 sp (zP (qh 2) (zP (qh 3) jt)))) (fun M'=>qm x M'=qm x M/\qm y M'=qm y M) N (Z8 l l) [] [some x,some y,u,v] M:=by
 have e:(Z8 l l).map (fun _=>AV.d (.bl true))=l.map fun _=>AV.d (.bl true):=by
  rw [List.map_const',List.map_const',kN,Nat.min_self]
 refine KF (fun (o:Option AV × Option AV)=>[some x,some y,o.1,o.2]) (fun _=>.d (.bl true)) ⟨(u,v),rfl⟩ ⟨rfl,rfl⟩ (by rw [kN,Nat.min_self];exact hl) (fun o z Q hz q=>?_) fun o=>by rw [e];exact hN' _ _ _ _ hN
 obtain ⟨i,hi⟩:=List.getElem?_of_mem hz
 obtain ⟨d,d',h1,h2,rfl⟩:=wn hi
 rw [h1] at h2;cases h2
 walk_at "ra"
 exact hsp _ _ _ ⟨_,_,d,rfl,rfl,rfl,hd d (List.mem_of_getElem? h1),hn,q (some (.d d),some (.d d))⟩
theorem BX {l:List Dat}:∃ bs:List Bool,(l.map fun _=>Dat.bl true)=bs.map Dat.bl/\(l.map fun _=>AV.d (Dat.bl true))=bs.map (fun b=>AV.d (.bl b))/\bs.all id=true:=⟨l.map fun _=>true,by rw [List.map_map];rfl,by rw [List.map_map];rfl,by simp⟩
theorem XM {x y:AV} {l:List Dat} (hxy:(qm x M=some (l.map AV.d)/\qm y M=some (l.map AV.d)) \/ (x=.d (.tup l)/\y=.d (.tup l)/\l.length<=l.length))(hsp:∀ xs M Q,vH n xs M Q->sp xs M Q)(hl:l.length<=100000)(hd:∀ d ∈ l,jG n d)(hn:n<=30)(q:Q (.d (.bl true)) M) :
  aCB (HY fun bs=>bs.all id) (zP (aFz (Q3 [2,3] (HS (zP (qh 0) (zP (qh 1) jt))) (XI 2 (xT (kO 2) (xT (kO 3) X4))) wl (xE (Q6 sp (zP (qh 2) (zP (qh 3) jt)))))) jt) [some x,some y,none,none] M Q:=by
 walk_at "ra"
 refine ⟨l,l,hxy,Bf (n:=n) (sp:=sp) hsp hl hd hn ?_ (fun _ _ _ _ z=>z)⟩
 obtain ⟨bs,b1,b2,b3⟩:=BX (l:=l)
 refine ⟨l.map fun _=>.bl true,?_,bs,by rw [List.map_map];exact b2,?_⟩
 ·rw [<- zX (l.map fun _=>Dat.bl true),List.map_map];rfl
 ·rw [b3];exact q
theorem LF (a:At K mg "_law_same" vQ):Df P w K mg base "_law_same" ["_law_found","_law_due_here"] 1 (cSp aNo):=
 wj (k:=0) a ZT (fun _ _ _ _ _ _=>Pn2_ fun _ _=>rfl) (fun vs H Q E h=>by obtain ⟨_,_,_,_,_,_,h,_⟩:=h;exact h.elim) (fun f cdv A outer s H vs Q E hr h=>by obtain ⟨_,_,_,_,_,_,h,_⟩:=h;exact h.elim)
theorem XY (a:At K mg "_law_same" vQ)(B:Blt mg)(Ball:mg "all"=none){kk:Nat}(n:Nat){sp:ASp}(hsp:∀ xs M Q,1<=n->vH (n - 1) xs M Q->sp xs M Q)(D_law_same:Df P w K mg base "_law_same" ["_law_found","_law_due_here"] kk (cSp sp)):Df P w K mg base "_law_same" ["_law_found","_law_due_here"] (kk+1) (cSp (vH n)):=by
 refine dfA (k:=kk) a ZT (fun _ _ _ _ _ _=>Pn2_ fun _ _=>rfl) (fun xs M Q h=>?_) (fun f cdv A outer s H E hr=>?_)
 ·obtain ⟨_,_,_,rfl,_⟩:=h;rfl
 have sc:=ZT
 have hsl:=hsl
 have hs2:2<=sizeLine:=by omega
 refine ⟨_,(zc (zH (qJ (zm Zi rfl B.isinstance zq (za (pv 1) (za (zK (za (zS (v:=.ty "list") rfl B.list jH rfl) (za (zS (v:=.ty "tuple") rfl B.tuple jb rfl) zb))) zb))) (fun _=>rfl)) (zc (zH (PW.pt (jS (zn (jv hr.units) (zm zU rfl B.isinstance zq (za (pv 0) (za (zS (v:=.ty "list") rfl B.list jH rfl) zb))) (zm zU rfl B.isinstance zq (za (pv 1) (za (zS (v:=.ty "list") rfl B.list jH rfl) zb))) (zr _)) (jx (zn (jv hr.units) (zm zU rfl B.isinstance zq (za (pv 0) (za (zS (v:=.ty "tuple") rfl B.tuple jb rfl) zb))) (zm zU rfl B.isinstance zq (za (pv 1) (za (zS (v:=.ty "tuple") rfl B.tuple jb rfl) zb))) (zr _))))) (zf (zA vG)) zv)
  (zf (zA (Qg (jR (zY hr.units) (zm zw rfl B.len qg (za (pv 0) zb)) (zm zw rfl B.len qg (za (pv 1) zb)) (zr _)) (KJ (zm (wG rfl) rfl Ball VE (za (vt (ts:=[2,3]) rfl rfl (WR rfl B.zip (za (pv 0) (za (pv 1) zb))) (fun _ _ _ _=>(qA (K:=K) 2 rfl rfl (zC (zD (i:=2) sc.nd rfl (by first | exact Or.inl rfl | exact Or.inr rfl)) (zC (zD (i:=3) sc.nd rfl (by first | exact Or.inl rfl | exact Or.inr rfl)) qD)))) (fun _ _ _ _=>vg) (fun _ _ _ _=>(zZ D_law_same hr rfl (za (pv 2) (za (pv 3) zb))))) zb))))))) zv)
  (zc (zH (PW.pt (jS (zn kj (pv 1) zL (zr _)) (jx (qJ (zm zU rfl B.isinstance zq (za (pv 1) (za (zS (v:=.ty "str") rfl B.str xI rfl) zb))) (fun _=>rfl))))) (zf (zA (Qg (jR (zY hr.units) (pv 0) (pv 1) (zr _)) (KJ (jR (zY hr.units) (zm zU rfl B.isinstance zq (za (pv 0) (za (zS (v:=.ty "str") rfl B.str xI rfl) zb))) (zm zU rfl B.isinstance zq (za (pv 1) (za (zS (v:=.ty "str") rfl B.str xI rfl) zb))) (zr _)))))) zv)
  (zf (zA (Qg (zm zU rfl B.isinstance zq (za (pv 0) (za (zS (v:=.ty "int") rfl B.int yC rfl) zb))) (Qg (jR (zY hr.units) (zm zU rfl B.isinstance zq (za (pv 0) (za (zS (v:=.ty "bool") rfl B.bool vf rfl) zb))) (zm zU rfl B.isinstance zq (za (pv 1) (za (zS (v:=.ty "bool") rfl B.bool vf rfl) zb))) (zr _)) (KJ (jR (zY hr.units) (pv 0) (pv 1) (zr _))))))))),?_⟩
 refine ex2 (by walk_at "sim") ?_
 rintro xs M Q ⟨x,y,d,rfl,hx,hy,hd,hn,q⟩
 rw [show zO ["_law_found","_law_due_here","_law_one","_law_other"] [x,y]=[some x,some y,none,none] from rfl]
 have fin:=qo (M0:=M) Fr.refl (.bl true)
 cases d with
 | non=>
  obtain rfl:=qx hx (fun _ z=>nomatch z);obtain rfl:=qx hy (fun _ z=>nomatch z)
  exact zW (Ve rfl rfl WH hs2) (jW (vT (zy (tIN rfl) rfl)) (kH (DI rfl rfl rfl rfl (by rw [Ky];omega) (by rw [Ky];omega) A2) (Q8 (kD rfl rfl ZW) (kD rfl rfl ZW) _ ⟨_,_,fin,q⟩)))
 | bl b=>
  obtain rfl:=qx hx (fun _ z=>nomatch z);obtain rfl:=qx hy (fun _ z=>nomatch z)
  exact zW (Ve rfl rfl Bk hs2) (zW (qK (zy (tIN rfl) rfl) (Zo rfl rfl JP)) (kH (kD rfl rfl KI) (kH (yW (Q8 (kD rfl rfl ZI) (kD rfl rfl ZI)) rfl) (DI rfl rfl rfl rfl (by rw [QM];omega) (by rw [QM];omega) (by rw [Kz];exact decide_eq_true rfl) _ ⟨_,_,fin,q⟩))))
 | int i=>
  obtain rfl:=qx hx (fun _ z=>nomatch z);obtain rfl:=qx hy (fun _ z=>nomatch z)
  exact zW (Ve rfl rfl Bg hs2) (zW (qK (zy (tIN rfl) rfl) (Zo rfl rfl Kx)) (kH (kD rfl rfl KL) (kH (yW (Q8 (kD rfl rfl ZA) (kD rfl rfl ZA)) rfl) (DI rfl rfl rfl rfl (by rw [qT];omega) (by rw [qT];omega) (by rw [xK];exact decide_eq_true rfl) _ ⟨_,_,fin,q⟩))))
 | str i=>
  obtain rfl:=qx hx (fun _ z=>nomatch z);obtain rfl:=qx hy (fun _ z=>nomatch z)
  exact zW (Ve rfl rfl Vw hs2) (jW (qK (zy (tIN rfl) rfl) (Zo rfl rfl vF)) (kH (DI rfl rfl rfl rfl (by rw [qv];omega) (by rw [qv];omega) (by rw [kY];exact decide_eq_true rfl)) (Q8 (kD rfl rfl vF) (kD rfl rfl vF) _ ⟨_,_,fin,q⟩)))
 | tup l=>
  obtain rfl:=qx hx (fun _ z=>nomatch z)
  obtain rfl:=qx hy (fun _ z=>nomatch z)
  cases n with
  | zero=>exact hd.no_t.elim
  | succ n=>
   obtain ⟨hl,hd'⟩:=hd.tup
   refine QH (Ve rfl rfl Wq hs2) (zW (qK (vB (yW (Q8 (kD rfl rfl JS) (kD rfl rfl JS)) rfl)) (vB (yW (Q8 (kD rfl rfl Z9) (kD rfl rfl Z9)) rfl))) (kH (yW (Lw (Ff rfl rfl) (Ff rfl rfl)) (decide_eq_true rfl)) ?_))
   exact XM (x:=.d (.tup l)) (y:=.d (.tup l)) (.inr ⟨rfl,rfl,Nat.le_refl _⟩) (fun xs M Q h=>hsp xs M Q (by omega) h) hl hd' (by omega) ⟨_,_,fin,q⟩
 | lst l=>
  obtain ⟨x1,x2,x3,x4⟩:=Q9 hx
  obtain ⟨y1,y2,y3,y4⟩:=Q9 hy
  cases n with
  | zero=>exact hd.no_l.elim
  | succ n=>
   obtain ⟨hl,hd'⟩:=hd.lst
   refine QH (Ve rfl y3 AR hs2) (zW (qK (vB (yW (Q8 (kD rfl x3 Kg) (kD rfl y3 Kg)) rfl)) (vB (yW (Q8 (kD rfl x3 Qa) (kD rfl y3 Qa)) rfl))) (kH (yW (Lw (Ff rfl x2) (Ff rfl y2)) (decide_eq_true rfl)) ?_))
   exact XM (.inl ⟨x1,y1⟩) (fun xs M Q h=>hsp xs M Q (by omega) h) hl hd' (by omega) ⟨_,_,fin,q⟩
 | ty t=>have:=hd.1;rw [dp] at this;omega
 | rng _ _ _=>have:=hd.1;rw [dp] at this;omega
 | scr _ _=>have:=hd.1;rw [dp] at this;omega
theorem QX (a:At K mg "_law_same" vQ)(B:Blt mg)(Ball:mg "all"=none):∀ n,Df P w K mg base "_law_same" ["_law_found","_law_due_here"] (n+2) (cSp (vH n))
 | 0=>XY a B Ball 0 (sp:=aNo) (fun _ _ _ h=>absurd h (by omega)) (LF a)
 | n+1=>XY a B Ball (n+1) (sp:=vH n) (fun _ _ _ _ h=>h) (QX a B Ball n)
theorem DoE.okM {d:De}{s t:ES}{n:Nat}(h:DoE d s t)(o:OkM s n):OkM t n:=by
 have g:∀ {row:List (Option Int)} {a:Nat} {c:Option Int},row[a]?=some c->c ∈ row:=fun h=>List.mem_of_getElem? h
 cases h with
 | swap ne h1 h2=>
  refine ⟨fun x hx=>?_,o.2⟩
  rcases List.mem_or_eq_of_mem_set hx with hx | hx
  ·rcases List.mem_or_eq_of_mem_set hx with hx | hx
   ·exact o.1 x hx
   ·exact o.1 x (hx ▸ g h2)
  ·exact o.1 x (hx ▸ g h1)
 | take h1=>
  refine ⟨fun x hx=>?_,fun x hx=>?_⟩
  ·rcases List.mem_or_eq_of_mem_set hx with hx | hx
   ·exact o.1 x hx
   ·cases hx
  ·cases hx;exact o.1 _ (g h1)
 | move h1 h2=>
  refine ⟨fun x hx=>?_,o.2⟩
  rcases List.mem_or_eq_of_mem_set hx with hx | hx
  ·rcases List.mem_or_eq_of_mem_set hx with hx | hx
   ·exact o.1 x hx
   ·cases hx
  ·exact o.1 x (hx ▸ g h1)
 | lay h1=>
  refine ⟨fun x hx=>?_,fun x hx=>nomatch hx⟩
  rcases List.mem_or_eq_of_mem_set hx with hx | hx
  ·exact o.1 x hx
  ·exact o.2 x hx.symm
theorem Wh {x:Dat}{w:String}(h:doR s ms x=.error w):w="form" \/ w="same" \/ w="full" \/ w="empty":=by
 have g1:∀ a b,qV s ms a b=.error w->w="form" \/ w="same" \/ w="full" \/ w="empty":=fun a b h=>by
  unfold qV at h
  split at h
  ·cases h;simp
  ·cases hb:s.1.getD a none <;> cases ha:s.1.getD b none <;> rw [hb] at h <;> (try rw [ha] at h) <;> cases h <;> simp
 have g2:∀ a b,qP s ms a b=.error w->w="form" \/ w="same" \/ w="full" \/ w="empty":=fun a b h=>by
  unfold qP at h
  split at h
  ·cases h;simp
  ·cases hb:s.1.getD b none <;> cases ha:s.1.getD a none <;> rw [hb] at h <;> (try rw [ha] at h) <;> cases h <;> simp
 have g3:∀ a,qY s ms a=.error w->w="form" \/ w="same" \/ w="full" \/ w="empty":=fun a h=>by
  unfold qY at h
  cases hb:s.2 <;> cases ha:s.1.getD a none <;> rw [hb] at h <;> (try rw [ha] at h) <;> cases h <;> simp
 have g4:∀ a,kz s ms a=.error w->w="form" \/ w="same" \/ w="full" \/ w="empty":=fun a h=>by
  unfold kz at h
  cases ha:s.1.getD a none <;> cases hb:s.2 <;> rw [ha] at h <;> (try rw [hb] at h) <;> cases h <;> simp
 unfold doR at h
 split at h
 ·split at h
  ·split at h
   ·exact g1 _ _ h
   ·split at h
    ·exact g3 _ h
    ·split at h
     ·exact g2 _ _ h
     ·exact g4 _ h
  ·cases h;simp
 ·cases h;simp
theorem EK {x:Dat}{w:String}(h:doR s ms x=.error w):¬ decide (Str.ofString w=Str.ofString "")=true:=by
 rcases Wh h with rfl | rfl | rfl | rfl <;> decide +kernel
theorem Xw (n:Nat):OkM ((qp 0 1 n).map some,none) n:=by
 refine ⟨fun x hx=>?_,fun x hx=>nomatch hx⟩
 obtain ⟨y,hy,e⟩:=List.mem_map.mp hx
 injection e with e
 subst e
 unfold qp at hy
 obtain ⟨k,hk,e⟩:=List.mem_map.mp hy
 rw [List.mem_range] at hk
 omega
noncomputable def fnP (vs:List V):List (Str × V):=[("place",vs.getD 0 .non),("word",vs.getD 1 .non)]
noncomputable abbrev plw (i:Nat)(x:String):List (Str × V):=[("place",.int i),("word",.str (Str.ofString x))]
noncomputable abbrev yl:Stmt:=(qM (top 6) 0)
theorem xw:zt ["self","place","word"] ["self","place","word"] (zd yl):=⟨rfl,rfl,rfl,by decide +kernel,rfl,by decide +kernel,by decide +kernel⟩
theorem K0 {C a t0:Addr}{us:List V}{H:Hp}{Q:VK}(S1:xA K C "place")(S2:xA K C "word")(hl:us.length=2)(ha:H a=some (jX a C t0 none))(hq:∀ dx,H dx=none->dx ≠ a->Q .non (upd (upd H a (jX a C t0 (some dx))) dx (XdE dx (fnP us)))) :
  YW (Zc K (wu 0) (wu 1) "place") (Zc K (wu 0) (wu 2) "word") { nx:=fun _ H'=>Q .non H',rt:=Q } (qB ["self","place","word"] (.ref a :: us)) H:=by
 match us,hl with
 | [v,u],_=>
  show Zc _ _ _ _ _ _ _
  refine ⟨v,rfl,.ref a,rfl,a,C,t0,rfl,S1,.inl ⟨ha,fun dx hd hne=>?_⟩⟩
  refine ⟨u,rfl,.ref a,rfl,a,C,t0,rfl,S2,.inr ⟨dx,[("place",v)],by rw [zh (Ne.symm hne),zk],zk,Nat.le_of_ble_eq_true rfl,?_⟩⟩
  rw [xj]
  have e:jz (Str.ofString "word") u [(Str.ofString "place",v)]=fnP [v,u]:=by
   unfold jz;rw [if_neg (by decide +kernel)];rfl
  show Q .non (upd _ dx (XdE dx (jz (Str.ofString "word") u [(Str.ofString "place",v)])))
  rw [e]
  exact hq dx hd hne
variable {fd:FuncData}
theorem GP {C f:Addr} (F:Fun K "__init__" "BadPlan.__init__" yl f fd)(q:jm K C yy "ValueError.__new__" f=true)(hf:PySem.W.isFn K (.ref f)=true)(S1:xA K C "place")(S2:xA K C "word"):MkX P w K mg base C 1 2 fnP:=by
 refine KA (k:=0) F xw (fun _ _ _ _ _ _=>Pn3_ fun _ _ _=>rfl) q hf rfl (fun cdv A outer s H E=>?_)
 have sc:=xw
 refine ⟨_,(zc (xl (pv 0) (pv 1) rfl) (zf (xl (pv 0) (pv 2) rfl))),?_⟩
 intro a t0 us Q hl ha hq
 exact K0 S1 S2 hl ha hq
theorem Fb {C f:Addr} (F:Fun K "__init__" "BadPlan.__init__" yl f fd)(q:jm K C yy "ValueError.__new__" f=true)(hf:PySem.W.isFn K (.ref f)=true)(S1:xA K C "place")(S2:xA K C "word"):ZN P w K mg base C 1 2 fnP:=by
 refine Eu F xw (fun _ _ _ _ _ _=>Pn3_ fun _ _ _=>rfl) q hf rfl (fun cdv A outer s H E x=>?_)
 have sc:=xw
 refine ⟨_,(zc (xl (pv 0) (pv 1) rfl) (zf (xl (pv 0) (pv 2) rfl))),?_⟩
 intro a t0 us Q hl ha hq
 exact K0 S1 S2 hl ha hq
noncomputable def v7 (n:Nat)(s:ES):Prop:=s.1.length=n/\∀ x:Int,s.1.count (some x)+(if s.2=some x then 1 else 0)=if 0<=x/\x<(n:Int) then 1 else 0
theorem xv {l:List (Option Int)}{i:Nat}{c:Option Int}(h:l[i]?=some c)(a b:Option Int):(l.set i a).count b+(if c=b then 1 else 0)=l.count b+(if a=b then 1 else 0):=by
 induction l generalizing i with
 | nil=>cases h
 | cons e l ih=>
  cases i with
  | zero=>
   cases h
   rw [List.set_cons_zero,List.count_cons,List.count_cons]
   simp only [beq_iff_eq]
   omega
  | succ i=>
   have h:l[i]?=some c:=h
   rw [List.set_cons_succ,List.count_cons,List.count_cons]
   have:=ih h
   omega
theorem ZY {d:De}{s t:ES}{n:Nat}(h:DoE d s t)(c:v7 n s):v7 n t:=by
 refine ⟨by rw [h.len];exact c.1,fun x=>?_⟩
 have cx:=c.2 x
 cases h with
 | @swap a b row hd u v ne h1 h2=>
  have e1:=xv h1 (some v) (some x)
  have e2:=xv (l:=row.set a (some v)) (i:=b) (c:=some v) (by rw [List.getElem?_set_ne ne];exact h2) (some u) (some x)
  dsimp only at cx ⊢
  omega
 | @take p row u h1=>
  have e1:=xv h1 none (some x)
  rw [if_neg (show ¬ (none:Option Int)=some x from fun z=>nomatch z)] at e1
  dsimp only at cx ⊢
  rw [if_neg (show ¬ (none:Option Int)=some x from fun z=>nomatch z)] at cx
  omega
 | @move p g row hd u h1 h2=>
  have ne:p ≠ g:=fun z=>by rw [z,h2] at h1;cases h1
  have e1:=xv h1 none (some x)
  have e2:=xv (l:=row.set p none) (i:=g) (c:=none) (by rw [List.getElem?_set_ne ne];exact h2) (some u) (some x)
  rw [if_neg (show ¬ (none:Option Int)=some x from fun z=>nomatch z)] at e1 e2
  dsimp only at cx ⊢
  omega
 | @lay g row u h1=>
  have e1:=xv h1 (some u) (some x)
  rw [if_neg (show ¬ (none:Option Int)=some x from fun z=>nomatch z)] at e1
  dsimp only at cx ⊢
  rw [if_neg (show ¬ (none:Option Int)=some x from fun z=>nomatch z)]
  omega
theorem AL {α:Type}[BEq α][LawfulBEq α][DecidableEq α]{l:List α}(h:l.Nodup)(a:α):l.count a=if a ∈ l then 1 else 0:=by
 induction l with
 | nil=>rfl
 | cons b l ih=>
  have:=List.nodup_cons.mp h
  rw [List.count_cons,ih this.2]
  by_cases c:b=a
  ·subst c;simp [this.1]
  ·have:(b == a)=false:=by simpa using c
   simp [this,Ne.symm c,c]
theorem JG (n:Nat):((qp 0 1 n).map some).Nodup:=by
 unfold qp
 rw [List.map_map]
 unfold List.Nodup
 rw [List.pairwise_map]
 refine List.nodup_range.imp fun {a b} h z=>h ?_
 have z:some ((0:Int)+(a:Int) * 1)=some (0+(b:Int) * 1):=z
 injection z with z
 omega
theorem xm {x:Int}:some x ∈ (qp 0 1 n).map some ↔ 0<=x/\x<(n:Int):=by
 unfold qp
 simp only [List.mem_map,List.mem_range,Option.some.injEq]
 constructor
 ·rintro ⟨a,⟨k,hk,rfl⟩,rfl⟩;omega
 ·rintro ⟨h1,h2⟩;exact ⟨x,⟨x.toNat,by omega,by omega⟩,rfl⟩
theorem ku (n:Nat):v7 n ((qp 0 1 n).map some,none):=by
 refine ⟨by show ((qp 0 1 n).map some).length=n;rw [List.length_map,qi],fun x=>?_⟩
 show ((qp 0 1 n).map some).count (some x)+0=_
 rw [AL (JG n)]
 by_cases c:0<=x/\x<(n:Int)
 ·rw [if_pos c,if_pos (xm.mpr c)]
 ·rw [if_neg c,if_neg (fun z=>c (xm.mp z))]
theorem vA {α:Type}[DecidableEq α]:∀ {l r:List α},l.Nodup->(∀ x ∈ l,x ∈ r)->r.length<=l.length->l.Perm r
 | [],r,_,_,h=>by
  have:r=[]:=List.length_eq_zero_iff.mp (by simpa using h)
  rw [this]
 | a :: l,r,nd,hs,h=>by
  have nd':=List.nodup_cons.mp nd
  have ha:=hs a List.mem_cons_self
  have ih:=vA (l:=l) (r:=r.erase a) nd'.2 (fun x hx=>(List.mem_erase_of_ne (fun z=>nd'.1 (by rw [<- z];exact hx))).mpr (hs x (List.mem_cons_of_mem _ hx))) (by rw [List.length_erase_of_mem ha];rw [List.length_cons] at h;omega)
  exact (ih.cons a).trans (List.perm_cons_erase ha).symm
theorem Wi (c:v7 n (row,none)):∃ os,row=os.map some/\yR n os:=by
 have hl:row.length=n:=c.1
 have hp:((qp 0 1 n).map some).Perm row:=vA (JG n) (fun x hx=>by
  obtain ⟨i,hi,rfl⟩:=List.mem_map.mp hx
  have h:=c.2 i
  rw [if_pos (xm.mp hx)] at h
  have h:row.count (some i)+0=1:=h
  exact List.count_pos_iff.mp (by omega)) (by rw [List.length_map,qi];omega)
 have hm:∀ x ∈ row,∃ i,x=some i/\0<=i/\i<(n:Int):=fun x hx=>by
  have:=hp.mem_iff.mpr hx
  obtain ⟨i,hi,rfl⟩:=List.mem_map.mp this
  exact ⟨i,rfl,xm.mp this⟩
 have e:row=(row.map (·.getD 0)).map some:=by
  rw [List.map_map]
  conv=>lhs;rw [<- List.map_id row]
  exact List.map_congr_left fun x hx=>by obtain ⟨i,rfl,_⟩:=hm x hx;rfl
 refine ⟨row.map (·.getD 0),e,by rw [List.length_map];exact hl,?_,fun x hx=>?_⟩
 ·have:row.Nodup:=hp.nodup_iff.mp (JG n)
  rw [e] at this
  exact (List.pairwise_map.mp this).imp fun h z=>h (by rw [z])
 ·obtain ⟨y,hy,rfl⟩:=List.mem_map.mp hx
  obtain ⟨i,rfl,h⟩:=hm y hy
  exact h
noncomputable def bL (row:List (Option Int)):List Int:=(List.range row.length).map fun k:Nat=>(row.idxOf (some (k:Int)):Int)
variable {os:List Int}
theorem Xh (ho:yR n os) (hk:k<n):(k:Int) ∈ os:=by
 have hp:os.Perm (qp 0 1 n):=by
  refine vA ho.2.1 (fun x hx=>?_) (by rw [qi,ho.1];exact Nat.le_refl _)
  have:=ho.2.2 x hx
  unfold qp
  exact List.mem_map.mpr ⟨x.toNat,List.mem_range.mpr (by omega),by omega⟩
 exact hp.mem_iff.mpr (by unfold qp;exact List.mem_map.mpr ⟨k,List.mem_range.mpr hk,by omega⟩)
theorem X3 (os:List Int)(x:Int):(os.map some).idxOf (some x)=os.idxOf x:=by
 induction os with
 | nil=>rfl
 | cons a l ih=>
  rw [List.map_cons,List.idxOf_cons,List.idxOf_cons,ih]
  rfl
theorem D7 {os bs:List Int}(ho:yR n os)(hb:Ap os bs):bs=bL (os.map some):=by
 have h1:=ho.1
 unfold bL
 rw [List.length_map]
 refine List.ext_getElem (by rw [List.length_map,List.length_range];exact hb.1) fun k k1 k2=>?_
 rw [List.getElem_map,List.getElem_range,X3]
 have kn:k<n:=by rw [<- h1,<- hb.1];exact k1
 have hm:=Xh ho kn
 have hi:os.idxOf (k:Int)<os.length:=List.idxOf_lt_length_of_mem hm
 have:=hb.2 (os.idxOf (k:Int)) hi
 have e:os.getD (os.idxOf (k:Int)) 0=(k:Int):=by
  rw [List.getD_eq_getElem?_getD,List.getElem?_eq_getElem hi]
  exact List.getElem_idxOf hi
 rw [e,Int.toNat_natCast,List.getD_eq_getElem?_getD,List.getElem?_eq_getElem k1] at this
 exact this
noncomputable def HI:Dat->Option (List Dat)
 | .lst l=>some l
 | .tup l=>some l
 | _=>none
theorem HA {d:Dat}{l:List Dat}(h:HI d=some l)(M:MH):qF (.d d) M=some (l.map .d):=by
 cases d with
 | lst m=>cases h;rfl
 | tup m=>cases h;rfl
 | _=>cases h
theorem ZS {d:Dat} (h:HI d=some (os.map .int))(M:MH):qF (.d d) M=some (os.map fun i=>.d (.int i)):=by rw [HA h,XZ]
noncomputable def Wr:ASp:=fun xs M Q=>∃ (dx:Dat) (n:Nat) (os:List Int),xs=[.d dx]/\HI dx=some (os.map .int)/\yR n os/\n<=2000/\∀ bs p,Ap os bs->M p=none->Q (.ref p) (mup M p (.lst (bs.map fun i=>AV.d (.int i))))
noncomputable abbrev Z7:Stmt:=top 11
theorem Jg:zt ["order","back","place","goal"] ["order"] (zd Z7):=⟨rfl,rfl,rfl,by decide +kernel,rfl,by decide +kernel,by decide +kernel⟩
theorem Wb (a:At K mg "back_of" Z7)(B:Blt mg):Df P w K mg base "back_of" ["order"] 1 (cSp Wr):=by
 refine dfA (k:=0) a Jg (fun _ _ _ _ _ _=>Pn1_ fun _=>rfl) (fun xs M Q h=>?_) (fun f cdv A outer s H E hr=>?_)
 ·obtain ⟨_,_,_,rfl,_⟩:=h;rfl
 have sc:=Jg
 have hsl:=hsl
 refine ⟨_,(zc (zN (i:=1) sc.nd rfl (by first | exact Or.inl rfl | exact Or.inr rfl) (xS (zJ Z4 (qL (za ze zb)) (zm zw rfl B.len qg (za (pv 0) zb)))))
  (zc (xg PassesOwn.never rfl (yo rfl B.enumerate (za (pv 0) zb)) (qA (K:=K) 2 rfl rfl (zC (zD (i:=2) sc.nd rfl (by first | exact Or.inl rfl | exact Or.inr rfl)) (zC (zD (i:=3) sc.nd rfl (by first | exact Or.inl rfl | exact Or.inr rfl)) qD))) (zf (qy (pv 2) (qO (pv 1) (pv 3) zI))))
  (zf (zA (pv 1))))),?_⟩
 refine ex2 (by walk_at "sim") ?_
 rintro xs M Q ⟨dx,n,os,rfl,hx,ho,hn,q⟩
 rw [show zO ["order","back","place","goal"] [.d dx]=[some (.d dx),none,none,none] from rfl]
 have h1:=ho.1
 refine zi fun r hr0=>?_
 walk_at "ra"
 refine ⟨by omega,_,ZS hx M,by rw [List.length_map];omega,by rw [List.length_map];omega,by rw [List.length_map];omega,fun p hp _=>?_⟩
 rw [List.length_map,h1,Int.toNat_natCast,E7]
 have hp1:=zg (M:=M) (a:=p) (o:=.lst (List.replicate n (AV.d (.int 0))))
 have f1:=(Fr.refl (M:=M)).mup hp (.lst (List.replicate n (AV.d (.int 0))))
 subst hr0
 refine zi fun r hr0=>?_
 walk_at "ra"
 refine ⟨_,ZS hx _,_,jf _,?_⟩
 refine ⟨fun i ρ M'=>∃ u v bs,ρ=[some (.d dx),some (.ref p),u,v]/\M'=mup M p (.lst (bs.map fun i=>AV.d (.int i)))/\bs.length=n/\∀ j,j<i->bs.getD (os.getD j 0).toNat 0=(j:Int),⟨none,none,List.replicate n 0,rfl,by rw [List.map_replicate],by simp,fun j hj=>nomatch hj⟩,?_,?_⟩
 ·rintro i y ρ M' hy ⟨u,v,bs,rfl,rfl,lb,hj⟩
  refine ⟨ZS hx _,?_⟩
  obtain ⟨d,hd,rfl⟩:=kh hy
  rw [List.getElem?_map] at hd
  cases e:os[i]? with
  | none=>rw [e] at hd;cases hd
  | some k=>
   rw [e] at hd
   cases hd
   have hi:=(List.getElem?_eq_some_iff.mp e).1
   have hk:os.getD i 0=k:=by rw [List.getD_eq_getElem?_getD,e];rfl
   have kb:=ho.2.2 k (List.mem_of_getElem? e)
   walk_at "ra"
   refine ⟨_,zg,k.toNat,by rw [List.length_map,qU kb.1 (by omega)],bs.set k.toNat (i:Int),?_,by rw [List.length_set];exact lb,fun j hj'=>?_⟩
   ·rw [List.map_set]
   ·rw [A3 (by omega)]
    by_cases c:j=i
    ·subst c;rw [hk,if_pos rfl]
    ·rw [if_neg,hj j (by omega)]
     intro z
     have gj:=ho.getD (i:=j) (by omega)
     exact c (ho.inj (by omega) (by omega) (by rw [hk];omega))
 ·rintro ρ M' ⟨u,v,bs,rfl,rfl,lb,hj⟩
  refine ⟨ZS hx _,?_⟩
  subst hr0
  walk_at "ra"
  refine ⟨_,_,ZM (Fr.refl.mup hp _) hp zg (jf _),q bs p ⟨by omega,fun i hi=>hj i ?_⟩ hp⟩
  simp only [jI,List.length_map]
  exact hi
noncomputable def jE:Nat->RS->List Dat->Except (Nat × String) RS
 | _,t,[]=>.ok t
 | i,t,x :: l=>match doR t.1 t.2 x with
  | .error w=>.error (i,w)
  | .ok t'=>jE (i+1) t' l
noncomputable def kR (n:Nat):RS:=(((qp 0 1 n).map some,none),List.replicate n 0)
noncomputable def jD (n:Nat)(x:Dat):Except (Nat × String) RS:=match x with
 | .lst l=>jE 0 (kR n) l
 | .tup l=>jE 0 (kR n) l
 | _=>.error (0,"form")
structure XB (K:PySem.W.Frag)(cB:Addr):Prop where
 x:wx K cB
 i:PySem.W.exmOne K (.ref cB) (.ref cB)=some true
 hd:PySem.W.hasDictIn K cB=true
 fw:PySem.W.findIn K (.ref cB) "word"=some none
theorem vM (n1:rw_ ≠ mv)(n2:rw_ ≠ p)(n3:mv ≠ p):qa C (rmP C M p rw_ mv s ms) p rw_ mv s ms:=by
 unfold rmP
 exact ⟨by rw [zu (Ne.symm n3),zu (Ne.symm n2),zg],by rw [zu n1,zg],zg,n1⟩
theorem DD (s' s2:ES)(ms' ms2:List Int):rmP C (rmP C M p rw_ mv s' ms') p rw_ mv s2 ms2=rmP C M p rw_ mv s2 ms2:=by
 funext b
 unfold rmP mup
 by_cases c1:b=mv <;> by_cases c2:b=rw_ <;> by_cases c3:b=p <;> simp [c1,c2,c3]
theorem Yl (t:qa C (rmP C M p rw_ mv s ms) p rw_ mv s ms):va M (rmP C M p rw_ mv s ms) (.ref p) (.ref p) (rmP C M p rw_ mv s ms):=by
 have f:=Q7 t .non
 exact ⟨f.1,f.2,.inl ⟨rfl,fun q z=>by cases z;rw [t.ins];exact fun z=>nomatch z⟩⟩
noncomputable def Gc (C cP:Addr):xD:=fun xs M Q E=>∃ (n:Nat) (x:Dat),xs=[.d (.int n),.d x]/\n<=1000/\OkP x /\
 (∀ i w,jD n x=.error (i,w)->E cP (plw i w) M)/\(∀ t,jD n x=.ok t->∀ p rw_ mv,M p=none->M rw_=none->M mv=none->rw_ ≠ mv->rw_ ≠ p->mv ≠ p->Q (.ref p) (rmP C M p rw_ mv t.1 t.2))
noncomputable abbrev Ks:Stmt:=top 17
theorem Xq:zt ["n","plan","room","at","deed","refusal"] ["n","plan"] (zd Ks):=⟨rfl,rfl,rfl,by decide +kernel,rfl,by decide +kernel,by decide +kernel⟩
theorem Du {C cBadDeed cBadPlan:Addr}(a:At K mg "room_behind" Ks)(B:Blt mg)(CL:Cls K C)(XG_BadDeed:mg "BadDeed"=some (.ref cBadDeed))(XG_BadPlan:mg "BadPlan"=some (.ref cBadPlan))(MX_BadPlan:MkX P w K mg base cBadPlan 5 2 fnP)(MXH_BadPlan:ZN P w K mg base cBadPlan 5 2 fnP)(X2:XB K cBadDeed)
  (M_Room:Mkr P w K mg base "Room" C ["self","n"] 5 (cSp (Bu C))) (DM_do:DmX P w K mg base C "do" ["self","thing"] 6 (jk (aDo C cBadDeed))):DfX P w K mg base "room_behind" ["n","plan"] 7 (jk (Gc C cBadPlan)):=by
 refine Io (k:=6) a Xq (fun _ _ _ _ _ _=>Pn2_ fun _ _=>rfl) (fun xs M Q E h=>?_) (fun f cdv A outer s H HX OX MX E1 hr hD=>?_)
 ·obtain ⟨_,_,rfl,_⟩:=h;rfl
 have sc:=Xq
 have hsl:=hsl
 refine ⟨_,(zc (zH (jM (qJ (zm Zi rfl B.isinstance zq (za (pv 1) (za (zK (za (zS (v:=.ty "list") rfl B.list jH rfl) (za (zS (v:=.ty "tuple") rfl B.tuple jb rfl) zb))) zb))) (fun _=>rfl))) (zf (qu hD rfl MX_BadPlan hr rfl XG_BadPlan (za ze (za zp zb)))) zv)
  (zc (zN (i:=2) sc.nd rfl (by first | exact Or.inl rfl | exact Or.inr rfl) (IP M_Room hr rfl (za (pv 0) zb)))
  (zc (xg hD.po rfl (yo rfl B.enumerate (za (pv 1) zb)) (qA (K:=K) 2 rfl rfl (zC (zD (i:=3) sc.nd rfl (by first | exact Or.inl rfl | exact Or.inr rfl)) (zC (zD (i:=4) sc.nd rfl (by first | exact Or.inl rfl | exact Or.inr rfl)) qD))) (zf (Ad (K:=K) (i:=5) rfl hD sc.nd rfl rfl rfl XG_BadDeed MXH_BadPlan hr rfl XG_BadPlan (fun _=>Nat.le_refl 2) (fun pins xe Eh hP=>(zf (qS (xL CL DM_do hr hP (pv 2) (za (pv 4) zb))))) (fun x=>(za (pv 3) (za (Yq (K:=K) rfl (pv 5) rfl) zb))))))
  (zf (zA (pv 2)))))),?_⟩
 refine exX (by walk_at "sim") ?_
 rintro xs Q E0 rfl ⟨n,x,rfl,hn,ok,qe,q⟩
 rw [show zO ["n","plan","room","at","deed","refusal"] [.d (.int n),.d x]=[some (.d (.int n)),some (.d x),none,none,none,none] from rfl]
 refine zi fun r1 hr1=>?_
 have hs2:0+1+1<=sizeLine:=by omega
 have bad:jD n x=.error (0,"form")->∃ vs,[some (V.int 0),some (V.str (Str.ofString "form"))]=List.map some vs/\vs.length=2/\2<=1000/\exA MX E0 cBadPlan (fnP vs) MX:=fun h=>
  ⟨[.int 0,.str (Str.ofString "form")],rfl,rfl,by decide,_,qo Fr.refl .non,qe 0 "form" h⟩
 have main:∀ l,(x=.tup l \/ x=.lst l)->jD n x=jE 0 (kR n) l->r1 MX { nx:=fun x M'=>rtA MX Q (.d .non) M',rt:=rtA MX Q } [some (.d (.int n)),some (.d x),none,none,none,none] MX:=fun l hx hw=>by
  obtain ⟨ll,lo⟩:=ok.2 l hx
  have hsq:∀ M,qF (.d x) M=some (l.map AV.d):=fun M=>by rcases hx with rfl | rfl <;> rfl
  rw [hw] at qe q
  subst hr1
  refine zi fun r1 hr1=>?_
  walk_at "ra"
  intro p hp
  refine ⟨p,n,rfl,zg,hn,fun rw_ mv hrw hmv n1 n2 n3=>⟨rfl,?_⟩⟩
  rw [zu n2] at hrw
  rw [zu n3] at hmv
  have em:∀ t ms,rmP C (mup MX p (.ins C [])) p rw_ mv t ms=rmP C MX p rw_ mv t ms:=fun t ms=>by unfold rmP;rw [ZZ]
  rw [em]
  subst hr1
  refine zi fun r1 hr1=>?_
  walk_at "ra"
  refine ⟨_,hsq _,_,zX _,?_⟩
  have fr:∀ t ms,Fr MX (rmP C MX p rw_ mv t ms):=fun t ms=>((Fr.refl.mup hp _).mup hrw _).mup hmv _
  refine ⟨fun i ρ M'=>∃ (t:RS),M'=rmP C MX p rw_ mv t.1 t.2/\jE i t (l.drop i)=jE 0 (kR n) l/\OkM t.1 t.2.length/\t.1.1.length=n/\t.2.length=n/\∃ u v,ρ=[some (.d (.int n)),some (.d x),some (.ref p),u,v,none],⟨kR n,rfl,rfl,by show OkM _ (List.replicate n (0:Int)).length;rw [List.length_replicate];exact Xw n,by show ((qp 0 1 n).map some).length=n;rw [List.length_map,qi],List.length_replicate,_,_,rfl⟩,?_,?_⟩
  ·rintro i y ρ M' hy ⟨t,rfl,ht,okt,l1,l2,u,v,rfl⟩
   refine ⟨hsq _,?_⟩
   obtain ⟨d,hd,rfl⟩:=kh hy
   have r:=vM (C:=C) (M:=MX) (s:=t.1) (ms:=t.2) n1 n2 n3
   have hi:=(List.getElem?_eq_some_iff.mp hd).1
   have dm:=lo d (List.mem_of_getElem? hd)
   rw [List.drop_eq_getElem_cons hi,show l[i]=d from (List.getElem?_eq_some_iff.mp hd).2] at ht
   walk_at "ra"
   refine ⟨_,r.ins,rfl,p,rw_,mv,t.1,t.2,d,rfl,r,okt,dm.1,dm.2,fun wd hw=>?_,fun t' ht'=>?_⟩
   ·refine ⟨X2.i,.str (Str.ofString wd),rfl,X2.x,X2.hd,X2.fw,by decide,by decide,MX,qo (fr _ _) .non,?_⟩
    refine qe i wd ?_
    rw [<- ht]
    unfold jE
    rw [hw]
   ·obtain ⟨dd,rfl,hdo⟩:=ZF ht'
    have e2:=JY hdo t.2
    rw [ht'] at e2
    have e2:t'.2=(vv t.1 dd).foldl xF t.2:=by injection e2 with e2;rw [e2]
    have lm:t'.2.length=t.2.length:=by rw [e2,yF]
    refine ⟨t',by rw [DD],?_,by rw [lm];exact hdo.okM okt,by rw [hdo.len];exact l1,by rw [lm];exact l2,_,rfl⟩
    rw [<- ht]
    conv=>rhs;unfold jE
    rw [ht']
  ·rintro ρ M' ⟨t,rfl,ht,okt,l1,l2,u,v,rfl⟩
   refine ⟨hsq _,?_⟩
   subst hr1
   walk_at "ra"
   rw [List.drop_of_length_le (by rw [jI];exact Nat.le_refl _)] at ht
   exact ⟨_,_,Yl (vM n1 n2 n3),q t (by rw [<- ht];rfl) p rw_ mv hp hrw hmv n1 n2 n3⟩
 cases x with
 | tup l=>walk_at "ra";exact ⟨hs2,main l (.inl rfl) rfl⟩
 | lst l=>walk_at "ra";exact ⟨hs2,main l (.inr rfl) rfl⟩
 | non=>walk_at "ra";exact ⟨hs2,bad rfl⟩
 | bl b=>walk_at "ra";exact ⟨hs2,bad rfl⟩
 | str b=>walk_at "ra";exact ⟨hs2,bad rfl⟩
 | int b=>walk_at "ra";exact ⟨hs2,bad rfl⟩
 | ty _=>have:=ok.1;rw [dp] at this;omega
 | rng _ _ _=>have:=ok.1;rw [dp] at this;omega
 | scr _ _=>have:=ok.1;rw [dp] at this;omega
noncomputable def Gr (t:RS)(h:Int):Dat:=.tup [.str (Str.ofString "open"),.tup (t.1.1.map oD),.int h,.tup (t.2.map .int)]
noncomputable def XX (t:RS)(p:Addr):List (Dat ⊕ Addr):=[.inl (.str (Str.ofString "done")),.inr p,.inl (.tup (t.2.map .int))]
noncomputable abbrev Jh (t:RS):List AV:=(bL t.1.1).map fun i=>.d (.int i)
theorem xM {n:Nat}:∀ {l:List Dat} {i:Nat} {t t':RS},jE i t l=.ok t'->v7 n t.1->t.2.length=n->v7 n t'.1/\t'.2.length=n
 | [],_,t,t',h,c,e=>by cases h;exact ⟨c,e⟩
 | x :: l,i,t,t',h,c,e=>by
  unfold jE at h
  cases hd:doR t.1 t.2 x with
  | error w=>rw [hd] at h;cases h
  | ok u=>
   rw [hd] at h
   obtain ⟨d,rfl,hdo⟩:=ZF hd
   have e2:=JY hdo t.2
   rw [hd] at e2
   have e2:u.2=(vv t.1 d).foldl xF t.2:=by injection e2 with e2;rw [e2]
   exact xM h (ZY hdo c) (by rw [e2,yF];exact e)
theorem xP {x:Dat}{t:RS}(h:jD n x=.ok t):v7 n t.1/\t.2.length=n:=by
 unfold jD at h
 split at h
 ·exact xM h (ku n) List.length_replicate
 ·exact xM h (ku n) List.length_replicate
 ·cases h
noncomputable def FT (cP:Addr):xD:=fun xs M Q E=>∃ (n:Nat) (x:Dat),xs=[.d (.int n),.d x]/\n<=1000/\OkP x /\
 (∀ i w,jD n x=.error (i,w)->E cP (plw i w) M)/\(∀ t,jD n x=.ok t->(∀ h,t.1.2=some h->Q (.d (Gr t h)) M)/\(t.1.2=none->∀ p,M p=none->Q (.tp (XX t p)) (mup M p (.lst (Jh t)))))
noncomputable abbrev W6:Stmt:=top 18
theorem Vx:zt ["n","plan","room","row","hand","moved"] ["n","plan"] (zd W6):=⟨rfl,rfl,rfl,by decide +kernel,rfl,by decide +kernel,by decide +kernel⟩
theorem Hd {C cBadPlan:Addr}(a:At K mg "walked" W6)(B:Blt mg)(CL:Cls K C)(DX_room_behind:DfX P w K mg base "room_behind" ["n","plan"] 7 (jk (Gc C cBadPlan)))(D_back_of:Df P w K mg base "back_of" ["order"] 7 (cSp Wr))
  (M_row_now:Dm P w K mg base C "row_now" ["self"] 7 (cSp (FE C))) (M_hand_now:Dm P w K mg base C "hand_now" ["self"] 7 (cSp (FI C))) (M_moved_now:Dm P w K mg base C "moved_now" ["self"] 7 (cSp (FX C))):DfX P w K mg base "walked" ["n","plan"] 8 (jk (FT cBadPlan)):=by
 refine Io (k:=7) a Vx (fun _ _ _ _ _ _=>Pn2_ fun _ _=>rfl) (fun xs M Q E h=>?_) (fun f cdv A outer s H HX OX MX E1 hr hD=>?_)
 ·obtain ⟨_,_,rfl,_⟩:=h;rfl
 have sc:=Vx
 have hsl:=hsl
 refine ⟨_,(zc (zN (i:=2) sc.nd rfl (by first | exact Or.inl rfl | exact Or.inr rfl) (WW DX_room_behind hr rfl hD.passX (za (pv 0) (za (pv 1) zb))))
  (zc (zN (i:=3) sc.nd rfl (by first | exact Or.inl rfl | exact Or.inr rfl) (Kq CL M_row_now hr (pv 2)))
  (zc (zN (i:=4) sc.nd rfl (by first | exact Or.inl rfl | exact Or.inr rfl) (Kq CL M_hand_now hr (pv 2)))
  (zc (zN (i:=5) sc.nd rfl (by first | exact Or.inl rfl | exact Or.inr rfl) (Kq CL M_moved_now hr (pv 2)))
  (zc (zH (zn qX (pv 4) zL (zr _)) (zf (zA (zK (za zp (za (pv 3) (za (pv 4) (za (pv 5) zb))))))) zv)
  (zf (zA (K9 (zK (za zp (za (zZ D_back_of hr rfl (za (pv 3) zb)) (za (pv 5) zb)))))))))))),?_⟩
 refine exX (by walk_at "sim") ?_
 rintro xs Q E0 rfl ⟨n,x,rfl,hn,ok,qe,q⟩
 rw [show zO ["n","plan","room","row","hand","moved"] [.d (.int n),.d x]=[some (.d (.int n)),some (.d x),none,none,none,none] from rfl]
 refine zi fun r1 hr1=>?_
 walk_at "ra"
 refine ⟨n,x,rfl,hn,ok,fun i w h=>⟨_,qo Fr.refl .non,qe i w h⟩,fun t ht p rw_ mv hp hrw hmv n1 n2 n3=>?_⟩
 have fr:Fr MX (rmP C MX p rw_ mv t.1 t.2):=((Fr.refl.mup hp _).mup hrw _).mup hmv _
 have r:=vM (C:=C) (M:=MX) (s:=t.1) (ms:=t.2) n1 n2 n3
 generalize rmP C MX p rw_ mv t.1 t.2=M1 at fr r
 obtain ⟨cs,l2⟩:=xP ht
 have l1:=cs.1
 subst hr1
 refine zi fun r1 hr1=>?_
 walk_at "ra"
 refine ⟨_,r.ins,rfl,p,rw_,mv,t.1,t.2,rfl,r,by omega,?_⟩
 subst hr1
 refine zi fun r1 hr1=>?_
 walk_at "ra"
 refine ⟨_,r.ins,rfl,p,rw_,mv,t.1,t.2,rfl,r,?_⟩
 subst hr1
 refine zi fun r1 hr1=>?_
 walk_at "ra"
 refine ⟨_,r.ins,rfl,p,rw_,mv,t.1,t.2,rfl,r,by omega,?_⟩
 subst hr1
 have q:=q t ht
 obtain ⟨⟨row,hd⟩,ms⟩:=t
 cases hd with
 | some h=>
  rw [show oD (some h)=.int h from rfl]
  walk_at "ra"
  exact ⟨by omega,Q1 fr (q.1 h rfl)⟩
 | none=>
  rw [show oD none=.non from rfl]
  have q:=q.2 rfl
  obtain ⟨os,rfl,ho⟩:=Wi cs
  walk_at "ra"
  refine ⟨_,n,os,rfl,?_,ho,by omega,fun bs z hb hz=>?_⟩
  ·show some ((os.map some).map oD)=_
   rw [List.map_map];rfl
  ·have z0:=fr.non hz
   have e:=D7 ho hb
   refine ⟨by omega,XX ((os.map some,none),ms) z,rfl,_,_,BE (fr.mup z0 _) z0 zg (jf _) (fun r h=>?_),?_⟩
   ·simp only [XX,List.mem_cons,List.not_mem_nil,or_false,reduceCtorEq,false_or,Sum.inr.injEq] at h
    exact h
   ·have q:=q z z0
    rw [e]
    exact q
noncomputable def fnN (vs:List V):List (Str × V):=[("hand",vs.getD 0 .non)]
noncomputable abbrev v9:Stmt:=(qM (top 7) 0)
theorem wY:zt ["self","hand"] ["self","hand"] (zd v9):=⟨rfl,rfl,rfl,by decide +kernel,rfl,by decide +kernel,by decide +kernel⟩
theorem HV {C f:Addr}{fd:FuncData}(F:Fun K "__init__" "NotDone.__init__" v9 f fd)(q:jm K C yy "ValueError.__new__" f=true)(hf:PySem.W.isFn K (.ref f)=true)(S:xA K C "hand"):MkX P w K mg base C 1 1 fnN:=by
 refine KA (k:=0) F wY (fun _ _ _ _ _ _=>Pn2_ fun _ _=>rfl) q hf rfl (fun cdv A outer s H E=>?_)
 have sc:=wY
 refine ⟨_,(zf (xl (pv 0) (pv 1) rfl)),?_⟩
 intro a t0 us Q hl ha hq
 match us,hl with
 | [v],_=>
  show Zc _ _ _ _ _ _ _
  refine ⟨v,rfl,.ref a,rfl,a,C,t0,rfl,S,.inl ⟨ha,fun dx hd hne=>hq dx hd hne⟩⟩
noncomputable abbrev hdw (h:Int):List (Str × V):=[("hand",.int h)]
noncomputable def B3 (cP cN:Addr):xD:=fun xs M Q E=>∃ (n:Nat) (x:Dat),xs=[.d (.int n),.d x]/\n<=1000/\OkP x /\
 (∀ i w,jD n x=.error (i,w)->E cP (plw i w) M)/\(∀ t,jD n x=.ok t->(∀ h,t.1.2=some h->E cN (hdw h) M)/\(t.1.2=none->∀ p,M p=none->Q (.ref p) (mup M p (.lst (Jh t)))))
noncomputable abbrev Qb:Stmt:=top 20
theorem Qu:zt ["n","plan","told"] ["n","plan"] (zd Qb):=⟨rfl,rfl,rfl,by decide +kernel,rfl,by decide +kernel,by decide +kernel⟩
variable {cBadPlan cNotDone:Addr}
theorem VV (a:At K mg "order_done" Qb)(B:Blt mg)(XG_NotDone:mg "NotDone"=some (.ref cNotDone))(MX_NotDone:MkX P w K mg base cNotDone 7 1 fnN)(DX_walked:DfX P w K mg base "walked" ["n","plan"] 8 (jk (FT cBadPlan))):DfX P w K mg base "order_done" ["n","plan"] 9 (jk (B3 cBadPlan cNotDone)):=by
 refine Io (k:=8) a Qu (fun _ _ _ _ _ _=>Pn2_ fun _ _=>rfl) (fun xs M Q E h=>?_) (fun f cdv A outer s H HX OX MX E1 hr hD=>?_)
 ·obtain ⟨_,_,rfl,_⟩:=h;rfl
 have sc:=Qu
 have hsl:=hsl
 refine ⟨_,(zc (zN (i:=2) sc.nd rfl (by first | exact Or.inl rfl | exact Or.inr rfl) (WW DX_walked hr rfl hD.passX (za (pv 0) (za (pv 1) zb))))
  (zc (zH (zn (zY hr.units) (zx yv (pv 2) ze (fun _ _=>rfl)) zp (zr _)) (zf (qu hD rfl MX_NotDone hr rfl XG_NotDone (za (zx yv (pv 2) ze (fun _ _=>rfl)) zb))) zv)
  (zf (zA (zx yv (pv 2) ze (fun _ _=>rfl)))))),?_⟩
 refine exX (by walk_at "sim") ?_
 rintro xs Q E0 rfl ⟨n,x,rfl,hn,ok,qe,q⟩
 rw [show zO ["n","plan","told"] [.d (.int n),.d x]=[some (.d (.int n)),some (.d x),none] from rfl]
 refine zi fun r1 hr1=>?_
 walk_at "ra"
 refine ⟨n,x,rfl,hn,ok,fun i w h=>⟨_,qo Fr.refl .non,qe i w h⟩,fun t ht=>⟨fun h e=>?_,fun e p hp=>?_⟩⟩
 ·subst hr1
  unfold Gr
  walk_at "ra"
  refine ⟨_,rfl,_,rfl,by rw [qv];omega,?_⟩
  rw [if_pos (by decide +kernel)]
  exact ⟨_,rfl,[.int h],rfl,rfl,by decide,_,qo Fr.refl .non,(q t ht).1 h e⟩
 ·subst hr1
  unfold XX
  walk_at "ra"
  refine ⟨_,rfl,_,rfl,_,rfl,by rw [qv];omega,?_⟩
  rw [if_neg (by decide +kernel)]
  exact ⟨_,rfl,_,rfl,_,_,ZM (Fr.refl.mup hp _) hp zg (jf _),(q t ht).2 e p hp⟩
noncomputable def OkE (x:Dat):Prop:=OkX x/\OkS x
theorem VU {l:List Dat}{w:Str}{ks:List Nat}(hk:ks.length<=2)(hb:∀ k ∈ ks,k<10 ^ 20)(hw:Sh 100 (.str w))(e:l=.str w :: ks.map fun k:Nat=>Dat.int k):OkE (.tup l):=by
 subst e
 have hd1:dp (.tup (.str w :: ks.map fun k:Nat=>Dat.int k))<=1:=by
  rw [dp]
  refine Nat.succ_le_succ (xR (n:=0) fun d hd=>?_)
  rcases List.mem_cons.mp hd with rfl | hd
  ·rw [qv];exact Nat.le_refl 0
  ·obtain ⟨k,_,rfl⟩:=List.mem_map.mp hd;rw [qT];exact Nat.le_refl 0
 refine ⟨⟨by omega,fun l' e=>?_⟩,by omega,?_,W9 (by omega) fun l' e=>?_⟩
 ·cases e;rw [List.length_cons,List.length_map];omega
 ·refine (A1 (b:=100) (n:=3) (by rw [List.length_cons,List.length_map];omega) fun d hd=>?_).mono (by decide)
  rcases List.mem_cons.mp hd with rfl | hd
  ·exact hw
  ·obtain ⟨k,hk,rfl⟩:=List.mem_map.mp hd
   exact (G4 (by have:=hb k hk;omega)).mono (by decide)
 ·rcases e with e | e <;> cases e
  refine ⟨by rw [List.length_cons,List.length_map];omega,fun d hd l' e=>?_⟩
  rcases List.mem_cons.mp hd with rfl | hd
  ·cases e
  ·obtain ⟨k,_,rfl⟩:=List.mem_map.mp hd;cases e
theorem Lr (d:De):Sh 100 (.str (dW d)):=by
 have h1:Sh 100 (.str (Str.ofString "swap")):=⟨by decide +kernel,by decide +kernel⟩
 have h2:Sh 100 (.str (Str.ofString "take")):=⟨by decide +kernel,by decide +kernel⟩
 have h3:Sh 100 (.str (Str.ofString "move")):=⟨by decide +kernel,by decide +kernel⟩
 have h4:Sh 100 (.str (Str.ofString "lay")):=⟨by decide +kernel,by decide +kernel⟩
 cases d <;> assumption
theorem VN (h:∀ k ∈ dPs d,k<10 ^ 20):OkE (dD d):=by
 rw [IK]
 exact VU (Fz d) h (Lr d) rfl
theorem HE {l:List De}{s t:ES}(h:yB l s t):∀ d ∈ l,∀ k ∈ dPs d,k<s.1.length:=by
 induction h with
 | nil=>intro d hd;cases hd
 | @cons d l s t u h1 h2 ih=>
  intro d' hd'
  rcases List.mem_cons.mp hd' with rfl | hd'
  ·exact Lm h1
  ·intro k hk
   rw [<- h1.len];exact ih d' hd' k hk
theorem BL {l:List De}{s t:ES}{n:Nat}(h:yB l s t)(c:v7 n s):v7 n t:=by
 induction h with
 | nil=>exact c
 | cons h1 h2 ih=>exact ih (ZY h1 c)
structure OkW (x:Dat):Prop where
 p:OkP x
 d:dp x<=40
 s:(pdD x).showable=true
 l:(pdD x).shown.length<=sizeLine
theorem DU {l:List Dat}(hl:l.length<=1000)(h:∀ d ∈ l,OkE d):OkW (.lst l):=by
 have sh:=GL (b:=500) (n:=1000) hl fun d hd=>(h d hd).2.s
 have hd:dp (.lst l)<=6:=by rw [dp];exact Nat.succ_le_succ (xR fun d hd=>(h d hd).2.d)
 refine ⟨⟨by omega,fun l' e=>?_⟩,by omega,sh.s,Nat.le_trans sh.l (by rw [sizeLine_eq];decide)⟩
 rcases e with e | e <;> cases e
 exact ⟨hl,fun d hd=>(h d hd).1⟩
theorem WC {α:Type}[DecidableEq α]:∀ {l r:List α},l.Nodup->(∀ x ∈ l,x ∈ r)->l.length<=r.length
 | [],_,_,_=>Nat.zero_le _
 | a :: l,r,nd,hs=>by
  have nd':=List.nodup_cons.mp nd
  have ha:=hs a List.mem_cons_self
  have ih:=WC (l:=l) (r:=r.erase a) nd'.2 (fun x hx=>(List.mem_erase_of_ne (fun z=>nd'.1 (by rw [<- z];exact hx))).mpr (hs x (List.mem_cons_of_mem _ hx)))
  rw [List.length_erase_of_mem ha] at ih
  have:=List.length_pos_of_mem ha
  rw [List.length_cons];omega
theorem Di {h:Int}(c:v7 n (row,some h)):none ∈ row:=by
 by_cases hn:none ∈ row
 ·exact hn
 exfalso
 have hl:row.length=n:=c.1
 have cnt:∀ x,row.count (some x)+(if some h=some x then 1 else 0)=if 0<=x/\x<(n:Int) then 1 else 0:=c.2
 have nd:row.Nodup:=by
  rw [List.nodup_iff_count]
  intro a
  cases a with
  | none=>rw [List.count_eq_zero.mpr hn];omega
  | some x=>have:=cnt x;split at this <;> split at this <;> omega
 have hm:∀ x ∈ some h :: row,x ∈ (qp 0 1 n).map some:=fun x hx=>by
  rcases List.mem_cons.mp hx with rfl | hx
  ·have:=cnt h
   rw [if_pos rfl] at this
   by_cases z:0<=h/\h<(n:Int)
   ·exact xm.mpr z
   ·rw [if_neg z] at this;omega
  ·cases x with
   | none=>exact absurd hx hn
   | some x=>
    have:=cnt x
    have p:=List.count_pos_iff.mpr hx
    by_cases z:0<=x/\x<(n:Int)
    ·exact xm.mpr z
    ·rw [if_neg z] at this;omega
 have nd2:(some h :: row).Nodup:=List.nodup_cons.mpr ⟨fun hx=>by
  have:=cnt h
  have p:=List.count_pos_iff.mpr hx
  rw [if_pos rfl] at this
  split at this <;> omega,nd⟩
 have:=WC nd2 hm
 rw [List.length_cons,List.length_map,qi] at this
 omega
noncomputable def yh (n:Nat)(x:Dat):Dat:=match jD n x with
 | .error (i,w)=>.tup [.str (Str.ofString "bad"),.int i,.str (Str.ofString w)]
 | .ok t=>match t.1.2 with
  | some h=>.tup [.str (Str.ofString "open"),.int h]
  | none=>.tup [.str (Str.ofString "order"),.lst ((bL t.1.1).map .int)]
noncomputable def FS:ASp:=fun xs M Q=>∃ (n:Nat) (x:Dat) (l:List Dat),xs=[.d (.int n),.d x]/\n<=1000/\OkP x/\(x=.tup l \/ x=.lst l)/\Q (.d (yh n x)) M
noncomputable abbrev JL:Stmt:=top 31
theorem X6:zt ["_law_n","_law_plan_here","_law_row","_law_hand","_law_number","_law_thing","_law_word"] ["_law_n","_law_plan_here"] (zd JL):=⟨rfl,rfl,rfl,by decide +kernel,rfl,by decide +kernel,by decide +kernel⟩
theorem Fx (a:At K mg "_law_due" JL)(B:Blt mg)(D_law_why:Df P w K mg base "_law_why" ["_law_row","_law_hand","_law_thing"] 4 (cSp LD))(D_law_done:Df P w K mg base "_law_done" ["_law_row","_law_hand","_law_deed_here"] 4 (cSp VC)):Df P w K mg base "_law_due" ["_law_n","_law_plan_here"] 5 (cSp FS):=by
 refine dfA (k:=4) a X6 (fun _ _ _ _ _ _=>Pn2_ fun _ _=>rfl) (fun xs M Q h=>?_) (fun f cdv A outer s H E hr=>?_)
 ·obtain ⟨_,_,_,rfl,_⟩:=h;rfl
 have sc:=X6
 have hsl:=hsl
 refine ⟨_,(zc (qy (zK (za (zQ (j5 rfl) rfl B.list jH (za (zQ kT rfl B.range vD (za (pv 0) zb)) zb)) (za zL zb))) (qA (K:=K) 2 rfl rfl (zC (zD (i:=2) sc.nd rfl (by first | exact Or.inl rfl | exact Or.inr rfl)) (zC (zD (i:=3) sc.nd rfl (by first | exact Or.inl rfl | exact Or.inr rfl)) qD))))
  (zc (xg PassesOwn.never rfl (yo rfl B.enumerate (za (pv 1) zb)) (qA (K:=K) 2 rfl rfl (zC (zD (i:=4) sc.nd rfl (by first | exact Or.inl rfl | exact Or.inr rfl)) (zC (zD (i:=5) sc.nd rfl (by first | exact Or.inl rfl | exact Or.inr rfl)) qD))) (zc (zN (i:=6) sc.nd rfl (by first | exact Or.inl rfl | exact Or.inr rfl) (zZ D_law_why hr rfl (za (pv 2) (za (pv 3) (za (pv 5) zb)))))
  (zc (zH (zn (jv hr.units) (pv 6) zp (zr _)) (zf (zA (zK (za zp (za (pv 4) (za (pv 6) zb)))))) zv)
  (zf (qy (zZ D_law_done hr rfl (za (pv 2) (za (pv 3) (za (pv 5) zb)))) (qA (K:=K) 2 rfl rfl (zC (zD (i:=2) sc.nd rfl (by first | exact Or.inl rfl | exact Or.inr rfl)) (zC (zD (i:=3) sc.nd rfl (by first | exact Or.inl rfl | exact Or.inr rfl)) qD))))))))
  (zc (zH (zn qX (pv 3) zL (zr _)) (zf (zA (zK (za zp (za (pv 3) zb))))) zv)
  (zf (zA (zK (za zp (za (vt (ts:=[5]) rfl rfl (ka rfl B.range (za (pv 0) zb)) (fun _ _ _ _=>(zD (i:=5) sc.nd rfl (by first | exact Or.inl rfl | exact Or.inr rfl))) (fun _ _ _ _=>vg) (fun _ _ _ _=>(HF (K:=K) rfl PySem.F.plainAttrs_list PySem.F.slot_list_index PySem.F.type_list_index B4 (pv 2) (za (pv 5) zb)))) zb)))))))),?_⟩
 refine ex2 (by walk_at "sim") ?_
 rintro xs M Q ⟨n,x,l,rfl,hn,ok,hx,q⟩
 rw [show zO ["_law_n","_law_plan_here","_law_row","_law_hand","_law_number","_law_thing","_law_word"] [.d (.int n),.d x]=[some (.d (.int n)),some (.d x),none,none,none,none,none] from rfl]
 have hs2:0+1+1<=sizeLine:=by omega
 have hs3:0+1+1+1<=sizeLine:=by omega
 have hw:jD n x=jE 0 (kR n) l:=by rcases hx with rfl | rfl <;> rfl
 obtain ⟨ll,lo⟩:=ok.2 l hx
 have hsq:∀ M,qF (.d x) M=some (l.map AV.d):=fun M=>by rcases hx with rfl | rfl <;> rfl
 unfold yh at q
 rw [hw] at q
 refine zi fun r1 hr1=>?_
 walk_at "ra"
 refine ⟨_,_,_,rfl,small_one (by omega) (by omega) (by omega) (by omega),n,by rw [rangeSize_one];split <;> omega,by omega,by omega,?_⟩
 rw [show (qp 0 1 n).map Dat.int=((qp 0 1 n).map some).map oD by rw [List.map_map];rfl,show Dat.non=oD none from rfl]
 subst hr1
 refine zi fun r1 hr1=>?_
 walk_at "ra"
 refine ⟨_,hsq _,_,zX _,?_⟩
 refine ⟨fun i ρ M'=>∃ (t:RS),M'=M/\jE i t (l.drop i)=jE 0 (kR n) l/\OkM t.1 t.2.length/\v7 n t.1/\t.2.length=n/\∃ u v z,ρ=[some (.d (.int n)),some (.d x),some (.d (.lst (t.1.1.map oD))),some (.d (oD t.1.2)),u,v,z],⟨kR n,rfl,rfl,?_,ku n,List.length_replicate,none,none,none,rfl⟩,?_,?_⟩
 ·show OkM _ (List.replicate n (0:Int)).length
  rw [List.length_replicate];exact Xw n
 ·rintro i y ρ M' hy ⟨t,rfl,ht,okt,cs,l2,u,v,z,rfl⟩
  refine ⟨hsq _,?_⟩
  obtain ⟨d,hd,rfl⟩:=kh hy
  have l1:=cs.1
  have hi:=(List.getElem?_eq_some_iff.mp hd).1
  have dm:=lo d (List.mem_of_getElem? hd)
  rw [List.drop_eq_getElem_cons hi,show l[i]=d from (List.getElem?_eq_some_iff.mp hd).2] at ht
  refine ⟨_,rfl,rfl,?_⟩
  show xT _ _ _ _ _ _
  walk_at "ra"
  refine ⟨t.1,d,rfl,dm.1,dm.2,by omega,?_⟩
  cases hw:doR t.1 t.2 d with
  | error wd=>
   rw [BS hw]
   refine ⟨_,rfl,by rw [qv];omega,?_⟩
   rw [kY,if_pos (by have:=EK hw;simpa using this)]
   refine ⟨hs3,_,rfl,Q1 Fr.refl ?_⟩
   rw [<- ht] at q
   unfold jE at q
   rw [hw] at q
   exact q
  | ok t'=>
   rw [Ea hw]
   refine ⟨_,rfl,by rw [qv];omega,?_⟩
   rw [kY,if_neg (by simp)]
   obtain ⟨dd,rfl,hdo⟩:=ZF hw
   have e2:=JY hdo t.2
   rw [hw] at e2
   have e2:t'.2=(vv t.1 dd).foldl xF t.2:=by injection e2 with e2;rw [e2]
   have lm:t'.2.length=t.2.length:=by rw [e2,yF]
   refine ⟨dd,t.1,t'.1,rfl,hdo,by omega,_,rfl,rfl,_,_,rfl,_,_,rfl,rfl,rfl,t',?_,by rw [lm];exact hdo.okM okt,ZY hdo cs,by rw [lm];exact l2,rfl,rfl,_,rfl⟩
   rw [<- ht]
   conv=>rhs;unfold jE
   rw [hw]
 ·rintro ρ M' ⟨t,rfl,ht,okt,cs,l2,u,v,z,rfl⟩
  refine ⟨hsq _,?_⟩
  rw [List.drop_of_length_le (by rw [jI];exact Nat.le_refl _)] at ht
  rw [<- ht] at q
  dsimp only [jE] at q
  subst hr1
  have l1:=cs.1
  obtain ⟨⟨row,hd⟩,ms⟩:=t
  cases hd with
  | some h=>
   rw [show oD (some h)=.int h from rfl]
   dsimp only at q ⊢
   walk_at "ra"
   exact ⟨hs2,Q1 Fr.refl q⟩
  | none=>
   rw [show oD none=.non from rfl]
   obtain ⟨os,rfl,ho⟩:=Wi cs
   dsimp only at q ⊢
   walk_at "ra"
   refine ⟨by omega,by omega,?_⟩
   rw [Int.toNat_natCast]
   have h1:=ho.1
   refine D4 (fun (o:Option AV)=>[some (.d (.int n)),some (.d x),some (.d (.lst ((os.map some).map oD))),some (.d .non),u,o,z]) (fun i=>.d (.int (os.idxOf (i:Int):Nat))) ⟨_,rfl⟩ trivial (by rw [kf];omega) (fun o i y Q hy q=>?_) fun o=>?_
   ·obtain ⟨hi,rfl⟩:=kI hy
    walk_at "ra"
    have hm:=Xh ho hi
    have hlt:os.idxOf (i:Int)<os.length:=List.idxOf_lt_length_of_mem hm
    have hg:os.getD (os.idxOf (i:Int)) 0=(i:Int):=by
     rw [List.getD_eq_getElem?_getD,List.getElem?_eq_getElem hlt]
     exact List.getElem_idxOf hlt
    refine ⟨⟨_,rfl⟩,os,?_,os.idxOf (i:Int),hlt,by rw [hg];omega,fun m hmm z=>?_,q _⟩
    ·rw [List.map_map,List.map_map];rfl
    ·have:=ho.inj (i:=m) (j:=os.idxOf (i:Int)) (by omega) (by omega) (by rw [z,hg];omega)
     omega
   ·refine ⟨(bL (os.map some)).map .int,?_,by omega,Q1 Fr.refl q⟩
    have e:(List.range (wt 0 1 n).length).map (fun i:Nat=>AV.d (.int (os.idxOf (i:Int):Nat)))=((bL (os.map some)).map Dat.int).map AV.d:=by
     unfold bL
     rw [kf,List.length_map,h1,List.map_map,List.map_map]
     exact List.map_congr_left fun k _=>by show AV.d (.int (os.idxOf (k:Int):Nat))=AV.d (.int ((os.map some).idxOf (some (k:Int)):Nat));rw [X3]
    rw [e];exact zX _
structure LB (K:PySem.W.Frag)(cT cD cP cR cW cN cO:Addr):Prop where
 x:wx K cP
 t:PySem.W.exmOne K (.ref cP) (.ref cT)=some true
 i:PySem.W.kitAny K (.ref cP) [.ref cP]=some true
 v:PySem.W.kitAny K (.ref cP) [.type "ValueError"]=some true
 o:PySem.W.kitAny K (.ref cP) [.ref cD,.ref cR,.ref cW,.ref cN]=some false
 n:PySem.W.kitAny K (.ref cP) [.ref cO]=some false
 hd:PySem.W.hasDictIn K cP=true
 fw:PySem.W.findIn K (.ref cP) "word"=some none
 fp:PySem.W.findIn K (.ref cP) "place"=some none
 x':wx K cO
 t':PySem.W.exmOne K (.ref cO) (.ref cT)=some true
 i':PySem.W.kitAny K (.ref cO) [.ref cP]=some false
 v':PySem.W.kitAny K (.ref cO) [.type "ValueError"]=some true
 o':PySem.W.kitAny K (.ref cO) [.ref cD,.ref cR,.ref cW,.ref cN]=some false
 hd':PySem.W.hasDictIn K cO=true
 fh:PySem.W.findIn K (.ref cO) "hand"=some none
theorem WT (i:Nat)(w:String):List.lookup (Str.ofString "place") (plw i w)=some (.int i):=by
 unfold plw List.lookup
 rw [show (Str.ofString "place" == ("place":Str))=true from by decide +kernel]
theorem EH (i:Nat)(w:String):List.lookup (Str.ofString "word") (plw i w)=some (.str (Str.ofString w)):=by
 unfold plw List.lookup
 rw [show (Str.ofString "word" == ("place":Str))=false from by decide +kernel]
 unfold List.lookup
 rw [show (Str.ofString "word" == ("word":Str))=true from by decide +kernel]
theorem Et (h:Int):List.lookup (Str.ofString "hand") (hdw h)=some (.int h):=by
 unfold hdw List.lookup
 rw [show (Str.ofString "hand" == ("hand":Str))=true from by decide +kernel]
noncomputable def QW (p:Addr):List (Dat ⊕ Addr):=[.inl (.str (Str.ofString "order")),.inr p]
noncomputable def FO:ASp:=fun xs M Q=>∃ (n:Nat) (x:Dat),xs=[.d (.int n),.d x]/\n<=1000/\OkP x /\
 (∀ (i:Nat) (w:String),jD n x=.error (i,w)->Q (.d (.tup [.str (Str.ofString "bad"),.int i,.str (Str.ofString w)])) M) /\
 (∀ t,jD n x=.ok t->(∀ h,t.1.2=some h->Q (.d (.tup [.str (Str.ofString "open"),.int h])) M)/\(t.1.2=none->∀ p,M p=none->Q (.tp (QW p)) (mup M p (.lst (Jh t)))))
noncomputable abbrev Zw:Stmt:=top 32
theorem Q4:zt ["_law_n","_law_plan_here","_law_caught","_law_found","refusal"] ["_law_n","_law_plan_here"] (zd Zw):=⟨rfl,rfl,rfl,by decide +kernel,rfl,by decide +kernel,by decide +kernel⟩
theorem Az (a:At K mg "_law_told" Zw)(B:Blt mg)(BValueError:mg "ValueError"=none){cTurnError:Addr}(XG_TurnError:mg "TurnError"=some (.ref cTurnError)){cBadDeed:Addr}(XG_BadDeed:mg "BadDeed"=some (.ref cBadDeed)) (XG_BadPlan:mg "BadPlan"=some (.ref cBadPlan)){cBadRing:Addr}(XG_BadRing:mg "BadRing"=some (.ref cBadRing)){cBadRow:Addr}(XG_BadRow:mg "BadRow"=some (.ref cBadRow)){cNoMatch:Addr}(XG_NoMatch:mg "NoMatch"=some (.ref cNoMatch)) (XG_NotDone:mg "NotDone"=some (.ref cNotDone))(DX_order_done:DfX P w K mg base "order_done" ["n","plan"] 9 (jk (B3 cBadPlan cNotDone)))(X2:LB K cTurnError cBadDeed cBadPlan cBadRing cBadRow cNoMatch cNotDone):Df P w K mg base "_law_told" ["_law_n","_law_plan_here"] 10 (cSp FO):=by
 refine dfA (k:=9) a Q4 (fun _ _ _ _ _ _=>Pn2_ fun _ _=>rfl) (fun xs M Q h=>?_) (fun f cdv A outer s H E hr=>?_)
 ·obtain ⟨_,_,rfl,_⟩:=h;rfl
 have sc:=Q4
 have hsl:=hsl
 refine ⟨_,(zc (zN (i:=2) sc.nd rfl (by first | exact Or.inl rfl | exact Or.inr rfl) zL)
  (zc (zN (i:=3) sc.nd rfl (by first | exact Or.inl rfl | exact Or.inr rfl) zL)
  (zc (AH (K:=K) (i:=4) rfl rfl rfl rfl sc.nd rfl rfl rfl XG_TurnError (fun pins xe Eh hP=>(zf (zN (i:=3) sc.nd rfl (by first | exact Or.inl rfl | exact Or.inr rfl) (WW DX_order_done hr rfl hP (za (pv 0) (za (pv 1) zb)))))) (fun x=>(zf (zN (i:=2) sc.nd rfl (by first | exact Or.inl rfl | exact Or.inr rfl) (pv 4)))))
  (zc (zH (zn kj (pv 2) zL (zr _)) (zf (zA (K9 (zK (za zp (za (pv 3) zb)))))) zv)
  (zc (zH (PW.pt (jS (jM (qJ (ZX (K:=K) rfl (pv 2) rfl B.isinstance (.blt rfl BValueError PyProof.Rows.Boot.«ValueError» (by decide) (by decide) .nil)) (fun _=>rfl))) (jx (qJ (AB (K:=K) rfl (pv 2) rfl B.isinstance (.own rfl XG_BadDeed (by decide) (.own rfl XG_BadRing (by decide) (.own rfl XG_BadRow (by decide) (.own rfl XG_NoMatch (by decide) .nil)))) (Nat.le_trans (show _<=1000 by show 4<=1000;decide) (Nat.le_of_lt (Y9 (Nat.le_refl _))))) (fun _=>rfl))))) (zf (zA (zK (za zp zb)))) zv)
  (zc (zH (qJ (ZX (K:=K) rfl (pv 2) rfl B.isinstance (.own rfl XG_BadPlan (by decide) .nil)) (fun _=>rfl)) (zf (zA (kZ (qJ (ZX (K:=K) rfl (pv 2) rfl B.isinstance (.own rfl XG_NotDone (by decide) .nil)) (fun _=>rfl)) (zK (za zp zb)) (zK (za zp (za (Zz (pv 2) rfl) (za (Zz (pv 2) rfl) zb))))))) zv)
  (zf (zA (zK (za zp (za (Zz (pv 2) rfl) zb))))))))))),?_⟩
 refine ex2 (by walk_at "sim") ?_
 rintro xs M Q ⟨n,x,rfl,hn,ok,qe,q⟩
 rw [show zO ["_law_n","_law_plan_here","_law_caught","_law_found","refusal"] [.d (.int n),.d x]=[some (.d (.int n)),some (.d x),none,none,none] from rfl]
 refine zi fun r1 hr1=>?_
 walk_at "ra"
 subst hr1
 refine zi fun r1 hr1=>?_
 walk_at "ra"
 subst hr1
 refine zi fun r1 hr1=>?_
 walk_at "ra"
 refine ⟨n,x,rfl,hn,ok,fun i w h=>⟨X2.t,fun z hz=>?_⟩,fun t ht=>⟨fun h e=>⟨X2.t',fun z hz=>?_⟩,fun e p hp=>?_⟩⟩
 ·subst hr1
  walk_at "ra"
  refine ⟨_,⟨_,zg⟩,X2.x,_,X2.v,?_⟩
  rw [if_neg (fun z=>nomatch z)]
  refine ⟨_,⟨_,zg⟩,X2.x,_,X2.o,?_⟩
  rw [if_neg (fun z=>nomatch z)]
  refine ⟨_,⟨_,zg⟩,X2.x,_,X2.i,?_⟩
  rw [if_pos rfl]
  refine ⟨_,⟨_,zg⟩,X2.x,_,X2.n,?_⟩
  rw [if_neg (fun z=>nomatch z)]
  exact ⟨_,_,zg,X2.x,X2.hd,X2.fp,_,WT _ _,_,rfl,_,_,zg,X2.x,X2.hd,X2.fw,_,EH _ _,_,rfl,by omega,Q1 (Fr.refl.mup hz _) (qe i w h)⟩
 ·subst hr1
  walk_at "ra"
  refine ⟨_,⟨_,zg⟩,X2.x',_,X2.v',?_⟩
  rw [if_neg (fun z=>nomatch z)]
  refine ⟨_,⟨_,zg⟩,X2.x',_,X2.o',?_⟩
  rw [if_neg (fun z=>nomatch z)]
  refine ⟨_,⟨_,zg⟩,X2.x',_,X2.i',?_⟩
  rw [if_neg (fun z=>nomatch z)]
  exact ⟨_,_,zg,X2.x',X2.hd',X2.fh,_,Et _,_,rfl,by omega,Q1 (Fr.refl.mup hz _) ((q t ht).1 h e)⟩
 ·subst hr1
  walk_at "ra"
  refine ⟨by omega,QW p,rfl,_,_,BE (Fr.refl.mup hp _) hp zg (jf _) (fun r h=>?_),(q t ht).2 e p hp⟩
  simp only [QW,List.mem_cons,List.not_mem_nil,or_false,reduceCtorEq,false_or,Sum.inr.injEq] at h
  exact h
noncomputable def Pu (M0 M:MH):Prop:=∀ q o,M q=some o->M0 q=some o \/ ∀ r,¬ vz r o
theorem Pu.refl:Pu M M:=fun _ _ h=>.inl h
theorem Pu.mup {M0 M:MH}(h:Pu M0 M)(p:Addr)(l:List Dat):Pu M0 (mup M p (.lst (l.map .d))):=fun q o e=>by
 by_cases c:q=p
 ·rw [c,zg] at e
  cases e
  exact .inr fun r hr=>yb (zX l) r hr
 ·rw [zu c] at e;exact h q o e
theorem Pu.mdel {M0 M:MH}(h:Pu M0 M)(p:Addr):Pu M0 (mdel M p):=fun q o e=>by
 by_cases c:q=p
 ·rw [c,yz] at e;cases e
 ·rw [jn c] at e;exact h q o e
variable {M0:MH}
theorem Pu.box (h:Pu M0 M) {o:MO}(e:M'=L2.mup M b o) (hb:BxM M' b N):Pu M0 M':=by
 obtain ⟨x,y,z,h1,_⟩:=hb
 subst e
 rw [zg] at h1
 cases h1
 exact h.mup b ([x,y,z].map .int)
theorem Pu.bx (h:Pu M0 M) (s:BxS M M' b N):Pu M0 M':=by
 obtain ⟨hb,o,e⟩:=s
 exact h.box e hb
noncomputable abbrev An:Stmt:=top 33
theorem VG:zt ["_law_script","_law_k","_law_box_here","_law_n","_law_handed","_law_plan_here","_law_row","_law_hand","_law_some","_law_found","_law_kept","_law_due_here"] ["_law_script"] (zd An):=⟨rfl,rfl,rfl,by decide +kernel,rfl,by decide +kernel,by decide +kernel⟩
noncomputable def X9 (K:PySem.W.Frag):Sp:=fun vs H Q _=>∃ (a:Addr) (ns:List Int),vs=[.ref a]/\SqL K H a (ns.map V.int)/\ns.length<=63/\∀ H',Q (.bl true) H'
noncomputable def ID (K:PySem.W.Frag):ASp:=fun xs M Q=>∃ ns:List Int,xs=[.d (.scr K ns)]/\ns.length<=63/\Q (.d (.bl true)) M
theorem sp_law (vs:List V)(H:Hp)(Q:VK)(E:XK)(h:X9 K vs H Q E):cSp (ID K) vs H Q E:=by
 obtain ⟨a,ns,rfl,ha,hn,q⟩:=h
 refine ⟨[.d (.scr K ns)],fun _=>none,fun _=>False,fun x _=>x=.d (.bl true),⟨(fun a o e=>nomatch e),(fun a h=>h rfl),fun a h=>h.elim⟩,.cons (Eg (fun _ z=>z) ha) .nil,⟨ns,rfl,hn,rfl⟩,fun x M' v H' O' hx _ _ r=>?_⟩
 subst hx
 rw [kr r]
 exact q H'
theorem vU:∀ {row:List (Option Int)},none ∈ row->∃ j,j<row.length/\row[j]?=some none/\∀ m c,m<j->row[m]?=some c->c ≠ none
 | [],h=>nomatch h
 | none :: row,_=>⟨0,by simp,rfl,fun m c h=>nomatch h⟩
 | some x :: row,h=>by
  obtain ⟨j,h1,h2,h3⟩:=vU (row:=row) (by simpa using h)
  refine ⟨j+1,by simpa using h1,h2,fun m c hm e=>?_⟩
  cases m with
  | zero=>cases e;exact fun z=>nomatch z
  | succ m=>exact h3 m c (by omega) e
noncomputable def Tr (x:Option AV):Prop:=∀ q,¬ xG [x] 0 q
theorem wr (d:Dat):Tr (some (.d d)):=fun _ z=>z
theorem Ex:Tr none:=fun _ z=>z
theorem SB.mdel {M0 M:MH}{b p:Addr}{N:Nat}(s:SB M0 M b N)(h0:M0 p=none)(hb:p ≠ b):SB M0 (mdel M p) b N:=by
 refine ⟨?_,fun q hq hqb=>?_,s.b0⟩
 ·obtain ⟨x,y,z,h1,h2⟩:=s.bx
  exact ⟨x,y,z,by rw [jn (Ne.symm hb)];exact h1,h2⟩
 ·rw [jn (fun z=>hq (by rw [z];exact h0))];exact s.fr q hq hqb
structure I55 (cs:List Int)(M:MH)(n:Nat)(ρ:ASt)(M':MH):Prop where
 fr:Fr M M'
 pu:Pu M M'
 ex:∃ x1 x2 x3 x4 x5 x6 x7 x8 x9 x10 x11,ρ=[some (.d (ilD cs)),x1,x2,x3,x4,x5,x6,x7,x8,x9,x10,x11]/\Tr x4/\Tr x8/\(∀ q,xG [x9] 0 q->M' q ≠ none)/\Tr x10/\Tr x11
theorem EQ {l:List Dat}(hl:l.length<=1000)(h:∀ d ∈ l,OkE d):OkW (.tup l):=by
 have sh:=A1 (b:=500) (n:=1000) hl fun d hd=>(h d hd).2.s
 have hd:dp (.tup l)<=6:=by rw [dp];exact Nat.succ_le_succ (xR fun d hd=>(h d hd).2.d)
 refine ⟨⟨by omega,fun l' e=>?_⟩,by omega,sh.s,Nat.le_trans sh.l (by rw [sizeLine_eq];decide)⟩
 rcases e with e | e <;> cases e
 exact ⟨hl,fun d hd=>(h d hd).1⟩
theorem V8 {n:Nat}{x:Dat}(hn:n<=1000):jG 4 (yh n x):=by
 unfold yh
 cases h:jD n x with
 | error e=>
  obtain ⟨i,w⟩:=e
  refine v8 (by simp) fun d hd=>?_
  simp only [List.mem_cons,List.not_mem_nil,or_false] at hd
  rcases hd with rfl | rfl | rfl
  ·exact xX _ _
  ·exact wf _ _
  ·exact xX _ _
 | ok t=>
  obtain ⟨cs,l2⟩:=xP h
  have l1:=cs.1
  dsimp only
  cases hd:t.1.2 with
  | none=>
   refine v8 (by simp) fun d hd=>?_
   simp only [List.mem_cons,List.not_mem_nil,or_false] at hd
   rcases hd with rfl | rfl
   ·exact xX _ _
   ·exact (YU (ns:=bL t.1.1) (by unfold bL;rw [List.length_map,List.length_range];omega)).mono (by omega)
  | some h=>
   refine v8 (by simp) fun d hd=>?_
   simp only [List.mem_cons,List.not_mem_nil,or_false] at hd
   rcases hd with rfl | rfl
   ·exact xX _ _
   ·exact wf _ _
noncomputable def Gy (n:Nat):List Dat:=[.tup [.str (Str.ofString "take"),.int n],.tup [.str (Str.ofString "swap"),.int 0,.int 0],.tup [.str (Str.ofString "lay"),.int 0],.non,.tup [.str (Str.ofString "move"),.int 0,.int 1],.lst [.str (Str.ofString "take"),.int 0],.tup [.lst [.str (Str.ofString "take")],.int 0]]
theorem wM {x:Dat}(h1:dp x<=5)(h2:(pdD x).showable=true)(h3:(pdD x).shown.length<=500)(h4:∀ l,(x=.tup l \/ x=.lst l)->l.length<=1000/\∀ d ∈ l,∀ l',d=.tup l'->l'.length<=1000):OkE x:=
 ⟨⟨by omega,fun l e=>(h4 l (.inl e)).1⟩,⟨h1,⟨h2,h3⟩,W9 h1 h4⟩⟩
theorem DE (hn:n<=1000):∀ d ∈ Gy n,OkE d:=fun d hd=>by
 have tk:Sh 100 (.str (Str.ofString "take")):=⟨by decide +kernel,by decide +kernel⟩
 simp only [Gy,List.mem_cons,List.not_mem_nil,or_false] at hd
 have fl:∀ {l:List Dat},(∀ d ∈ l,∀ l',d ≠ .tup l')->l.length<=1000->∀ x:Dat,(x=.tup l \/ x=.lst l)->∀ l',(x=.tup l' \/ x=.lst l')->l'.length<=1000/\∀ d ∈ l',∀ l2,d=.tup l2->l2.length<=1000:=fun {l} h hl x hx l' hx'=>by
  obtain rfl:l=l':=by rcases hx with rfl | rfl <;> rcases hx' with e | e <;> cases e <;> rfl
  exact ⟨hl,fun d hd l2 e=>absurd e (h d hd l2)⟩
 rcases hd with rfl | rfl | rfl | rfl | rfl | rfl | rfl
 ·exact VU (ks:=[n]) (by simp) (fun k hk=>by rw [List.mem_singleton.mp hk];exact Nat.lt_of_le_of_lt hn (by decide)) tk rfl
 ·exact wM (by decide +kernel) (by decide +kernel) (by decide +kernel) (fl (l:=[.str (Str.ofString "swap"),.int 0,.int 0]) (by simp) (by simp) _ (.inl rfl))
 ·exact wM (by decide +kernel) (by decide +kernel) (by decide +kernel) (fl (l:=[.str (Str.ofString "lay"),.int 0]) (by simp) (by simp) _ (.inl rfl))
 ·exact wM (by decide +kernel) (by decide +kernel) (by decide +kernel) (fun l e=>by rcases e with e | e <;> cases e)
 ·exact wM (by decide +kernel) (by decide +kernel) (by decide +kernel) (fl (l:=[.str (Str.ofString "move"),.int 0,.int 1]) (by simp) (by simp) _ (.inl rfl))
 ·exact wM (by decide +kernel) (by decide +kernel) (by decide +kernel) (fl (l:=[.str (Str.ofString "take"),.int 0]) (by simp) (by simp) _ (.inr rfl))
 ·exact wM (by decide +kernel) (by decide +kernel) (by decide +kernel) (fl (l:=[.lst [.str (Str.ofString "take")],.int 0]) (by simp) (by simp) _ (.inl rfl))
theorem GG (a:At K mg "law" An)(B:Blt mg)(D_law_box:Df P w K mg base "_law_box" ["_law_script","_law_k"] 19 (cSp Lv))(D_law_folded:Df P w K mg base "_law_folded" ["_law_script","_law_many"] 19 (cSp (KY K)))(D_law_length:Df P w K mg base "_law_length" ["_law_box_here","_law_most"] 19 (cSp XS))(D_law_take:Df P w K mg base "_law_take" ["_law_box_here","_law_many"] 19 (cSp XE))(D_law_plan:Df P w K mg base "_law_plan" ["_law_box_here","_law_n","_law_many"] 19 (Fv Dg))
  (D_law_told:Df P w K mg base "_law_told" ["_law_n","_law_plan_here"] 19 (cSp FO)) (D_law_due:Df P w K mg base "_law_due" ["_law_n","_law_plan_here"] 19 (cSp FS)) (D_law_same:Df P w K mg base "_law_same" ["_law_found","_law_due_here"] 19 (cSp (vH 4))) :
  Df P w K mg base "law" ["_law_script"] 20 (cSp (ID K)):=by
 refine dfA (k:=19) a VG (fun _ _ _ _ _ _=>Pn1_ fun _=>rfl) (fun xs M Q h=>?_) (fun f cdv A outer s H E hr=>?_)
 ·obtain ⟨_,rfl,_⟩:=h;rfl
 have sc:=VG
 have hsl:=hsl
 refine' ⟨_,?q0,?qr⟩
 (case q0=>
  refine' zc ?q1 ?q2
  (case q1=>exact (zN (i:=0) sc.nd rfl (by first | exact Or.inl rfl | exact Or.inr rfl) (zZ D_law_folded hr rfl (za (pv 0) (za ze zb)))))
  (case q2=>
   refine' zc ?q3 ?q4
   (case q3=>
    refine' xg ?q5 ?q6 ?q7 ?q8 ?q9
    (case q5=>exact PassesOwn.never)
    (case q6=>exact rfl)
    (case q7=>exact (ka rfl B.range (za (zm (wK rfl) rfl B.max BM (za ze (za (zm zw rfl B.len qg (za (pv 0) zb)) zb))) zb)))
    (case q8=>exact (zD (i:=1) sc.nd rfl (by first | exact Or.inl rfl | exact Or.inr rfl)))
    (case q9=>
     refine' zc ?q10 ?q11
     (case q10=>exact (zN (i:=2) sc.nd rfl (by first | exact Or.inl rfl | exact Or.inr rfl) (zZ D_law_box hr rfl (za (pv 0) (za (pv 1) zb)))))
     (case q11=>
      refine' zc ?q12 ?q13
      (case q12=>exact (zN (i:=3) sc.nd rfl (by first | exact Or.inl rfl | exact Or.inr rfl) (zZ D_law_length hr rfl (za (pv 2) (za ze zb)))))
      (case q13=>
       refine' zc ?q14 ?q15
       (case q14=>exact (qy (zZ D_law_plan hr rfl (za (pv 2) (za (pv 3) (za (zZ D_law_take hr rfl (za (pv 2) (za ze zb))) zb)))) (qA (K:=K) 3 rfl rfl (zC (zD (i:=5) sc.nd rfl (by first | exact Or.inl rfl | exact Or.inr rfl)) (zC (zD (i:=6) sc.nd rfl (by first | exact Or.inl rfl | exact Or.inr rfl)) (zC (zD (i:=7) sc.nd rfl (by first | exact Or.inl rfl | exact Or.inr rfl)) qD))))))
       (case q15=>
        refine' zc ?q16 ?q17
        (case q16=>exact (zH (PW.pt (xO (zn qX (pv 7) zL (zr _)) (kl (zn (zY hr.units) (zZ D_law_take hr rfl (za (pv 2) (za ze zb))) ze (zr _))))) (zf (qS (ym PySem.F.plainAttrs_list PySem.F.slot_list_append PySem.F.type_list_append jK (pv 5) (za (zK (za zp (za (ym PySem.F.plainAttrs_list PySem.F.slot_list_index PySem.F.type_list_index Y3 (pv 6) (za zL zb)) zb))) zb)))) zv))
        (case q17=>
         refine' zc ?q18 ?q19
         (case q18=>
          refine' zH ?q20 ?q21 ?q22
          (case q20=>exact (zn (zY hr.units) (zZ D_law_take hr rfl (za (pv 2) (za ze zb))) ze (zr _)))
          (case q21=>
           refine' zc ?q23 ?q24
           (case q23=>
            refine' zN (i:=8) ?q25 ?q26 ?q27 ?q28
            (case q25=>exact sc.nd)
            (case q26=>exact rfl)
            (case q27=>exact (by first | exact Or.inl rfl | exact Or.inr rfl))
            (case q28=>
             refine' qL ?q29
             (case q29=>
              refine' za ?q30 ?q31
              (case q30=>exact (zK (za zp (za (pv 3) zb))))
              (case q31=>
               refine' za ?q32 ?q33
               (case q32=>exact (zK (za zp (za ze (za ze zb)))))
               (case q33=>
                refine' za ?q34 ?q35
                (case q34=>exact (zK (za zp (za ze zb))))
                (case q35=>
                 refine' za ?q36 ?q37
                 (case q36=>exact zL)
                 (case q37=>
                  refine' za ?q38 ?q39
                  (case q38=>exact (zK (za zp (za ze (za ze zb)))))
                  (case q39=>
                   refine' za ?q40 ?q41
                   (case q40=>exact (qL (za zp (za ze zb))))
                   (case q41=>
                    refine' za ?q42 ?q43
                    (case q42=>exact (zK (za (qL (za zp zb)) (za ze zb))))
                    (case q43=>exact zb))))))))))
           (case q24=>exact (zf (qS (ym PySem.F.plainAttrs_list PySem.F.slot_list_insert PySem.F.type_list_insert YZ (pv 5) (za (zZ D_law_take hr rfl (za (pv 2) (za (zJ ja (zm zw rfl B.len qg (za (pv 5) zb)) ze) zb))) (za (zx zE (pv 8) (zZ D_law_take hr rfl (za (pv 2) (za ze zb))) (fun _ _=>rfl)) zb)))))))
          (case q22=>exact zv))
         (case q19=>exact (XU 5 (zc (xg PassesOwn.never rfl (KW (zK (za (pv 5) (za (zQ j0 rfl B.tuple jb (za (pv 5) zb)) (za (pv 5) zb))))) (zD (i:=4) sc.nd rfl (by first | exact Or.inl rfl | exact Or.inr rfl)) (zc (BC (i:=10) (j:=11) rfl sc.nd rfl rfl (by decide) rfl rfl (za (zQ (wU hr.gd hr.units) rfl B.str xI (za (pv 4) zb)) (za (zZ D_law_due hr rfl (za (pv 3) (za (pv 4) zb))) zb)) rfl) (zc (zN (i:=9) sc.nd rfl (by first | exact Or.inl rfl | exact Or.inr rfl) (zZ D_law_told hr rfl (za (pv 3) (za (pv 4) zb)))) (zc (zH (PW.pt (jS (jM (qJ (EJ (zZ D_law_same hr rfl (za (pv 9) (za (pv 11) zb)))) (fun _=>rfl))) (jx (zn (jv hr.units) (zQ (wU hr.gd hr.units) rfl B.str xI (za (pv 4) zb)) (pv 10) (zr _))))) (zf (zA vG)) zv) (zf (zH (zn (zY hr.units) (zx yv (pv 9) ze (fun _ _=>rfl)) zp (zr _)) (zf (qS (ym PySem.F.plainAttrs_list PySem.F.slot_list_append PySem.F.type_list_append jK (zx yv (pv 9) ze (fun _ _=>rfl)) (za ze zb)))) zv)))))) (zf (zH (zn (jv hr.units) (zZ D_law_told hr rfl (za (pv 3) (za zp zb))) (zK (za zp (za ze (za zp zb)))) (zr _)) (zf (zA vG)) zv)))))))))))
   (case q4=>exact (zf (zA vG)))))
 refine ex2 (by walk_at "sim") ?_
 rintro xs M Q ⟨ns,rfl,hn,q⟩
 rw [show zO ["_law_script","_law_k","_law_box_here","_law_n","_law_handed","_law_plan_here","_law_row","_law_hand","_law_some","_law_found","_law_kept","_law_due_here"] [.d (.scr K ns)]=[some (.d (.scr K ns)),none,none,none,none,none,none,none,none,none,none,none] from rfl]
 refine zi fun r hr0=>?_
 walk_at "ra"
 refine ⟨6,ns,rfl,by omega,by omega,hn,fun cs lc=>?_⟩
 subst hr0
 refine zi fun r hr0=>?_
 walk_at "ra"
 refine ⟨by split <;> omega,by split <;> omega,?_⟩
 refine ⟨I55 cs M,⟨Fr.refl,Pu.refl,_,_,_,_,_,_,_,_,_,_,_,rfl,Ex,Ex,fun _ z=>z.elim,Ex,Ex⟩,?_,?_⟩
 ·rintro i y ρ M1 hy ⟨f1,pu,x1,x2,x3,x4,x5,x6,x7,x8,x9,x10,x11,rfl,t4,t8,t9,t10,t11⟩
  obtain ⟨hi,rfl⟩:=kI hy
  have hi':(i:Int)<=1000:=by
   have:(i:Int)<(if (cs.length:Int) > 2 then (cs.length:Int) else 2):=by omega
   split at this <;> omega
  refine ⟨trivial,?_⟩
  rw [Int.zero_add,Int.mul_one]
  show xU _ _ _ _ _ _
  refine zi fun r2 hr2=>?_
  walk_at "ra"
  refine ⟨_,i,cs,rfl,Fg _ _,by omega,by omega,by omega,fun b o hb bx=>?_⟩
  have b0:=f1.non hb
  have f2:=f1.mup b0 o
  have sb:=SB.refl bx
  have pu:=pu.box rfl bx
  have f2':∀ q,xG [x9] 0 q->mup M1 b o q=M1 q:=fun q h=>zu (fun z=>t9 q h (by rw [z];exact hb))
  have t9':∀ q,xG [x9] 0 q->mup M1 b o q ≠ none:=fun q h=>by rw [f2' q h];exact t9 q h
  generalize mup M1 b o=M2 at *
  subst hr2
  refine zi fun r2 hr2=>?_
  walk_at "ra"
  refine ⟨b,60,0,rfl,sb.bx,by omega,by omega,by omega,fun n M3 s3 n0 n1=>?_⟩
  have sb:=sb.go s3
  have pu:=pu.bx s3
  obtain ⟨n,rfl⟩:∃ k:Nat,n=k:=⟨n.toNat,by omega⟩
  subst hr2
  refine zi fun r2 hr2=>?_
  walk_at "ra"
  refine ⟨b,31,_,rfl,sb.bx,by omega,by omega,by omega,fun m M4 s4 m0 m1=>?_⟩
  have sb:=sb.go s4
  have pu:=pu.bx s4
  refine ⟨b,n,_,m,rfl,by omega,m0,by omega,sb.bx,by omega,fun M5 ds st p s5 hp hpb ld hdo=>⟨rfl,?_⟩⟩
  obtain ⟨p0,pb⟩:=sb.new hp
  have sb:=((sb.go s5).mono (show _<=400 by omega)).put p0 pb (.lst ((ds.map dD).map .d))
  have pu:=(pu.bx s5).mup p (ds.map dD)
  have hpl:mup M5 p (.lst ((ds.map dD).map .d)) p=some (.lst ((ds.map dD).map .d)):=zg
  generalize mup M5 p (.lst ((ds.map dD).map .d))=M6 at *
  have cst:=BL hdo (ku n)
  have l1:st.1.length=n:=cst.1
  have okd:∀ d ∈ ds.map dD,OkE d:=fun d hd=>by
   obtain ⟨e,he,rfl⟩:=List.mem_map.mp hd
   refine VN fun k hk=>?_
   have:=HE hdo e he k hk
   rw [show ((qp 0 1 n).map some,(none:Option Int)).1.length=n by rw [List.length_map,qi]] at this
   exact Nat.lt_of_le_of_lt (show k<=60 by omega) (by decide)
  refine ⟨_,_,rfl,_,_,rfl,_,_,rfl,rfl,?_⟩
  subst hr2
  refine zi fun r2 hr2=>?_
  have key:∀ (l:List Dat) M',(∀ d ∈ l,OkE d)->l.length<=31->SB M2 M' b 401->Pu M M'->M' p=some (.lst (l.map .d))->r2 M { nx:=I55 cs M (i+1),rt:=rtA M Q,bk:=r M { nx:=fun x M'=>rtA M Q (.d .non) M',rt:=rtA M Q },ct:=I55 cs M (i+1) }
    [some (.d (ilD cs)),some (.d (.int i)),some (.ref b),some (.d (.int n)),x4,some (.ref p),some (.d (.lst (st.1.map oD))),some (.d (oD st.2)),x8,x9,x10,x11] M':=fun l M' okl ll sb pu hpl=>by
   subst hr2
   refine zi fun r3 hr3=>?_
   have key2:∀ (l:List Dat) M' x8,Tr x8->(∀ d ∈ l,OkE d)->l.length<=32->SB M2 M' b 410->Pu M M'->M' p=some (.lst (l.map .d))->r3 M { nx:=I55 cs M (i+1),rt:=rtA M Q,bk:=r M { nx:=fun x M'=>rtA M Q (.d .non) M',rt:=rtA M Q },ct:=I55 cs M (i+1) }
     [some (.d (ilD cs)),some (.d (.int i)),some (.ref b),some (.d (.int n)),x4,some (.ref p),some (.d (.lst (st.1.map oD))),some (.d (oD st.2)),x8,x9,x10,x11] M':=fun l M' x8 t8 okl ll sb pu hpl=>by
    subst hr3
    have mp:=f2.non p0
    refine Wy fun r3 hr3=>?_
    walk_at "ra"
    refine ⟨_,hpl,_,zX _,mp,fun j hj z=>?_,fun q o hq e=>(pu q o e).imp id fun z=>z p,?_⟩
    ·match j with
     | 0 | 1 | 3 | 6 | 7=>cases z
     | 2=>exact pb (show b=p from z).symm
     | 4=>exact t4 p z
     | 5=>exact hj rfl
     | 8=>exact t8 p z
     | 9=>exact t9' p z p0
     | 10=>exact t10 p z
     | 11=>exact t11 p z
     | n+12=>cases z
    have sb:=SB.mdel sb p0 pb
    have pu:=pu.mdel p
    have hm:=fun q (h:M2 q ≠ none)=>h
    generalize mdel M' p=M7 at *
    have fr7:=SB.frm f2 b0 sb
    have t9'':∀ q,xG [x9] 0 q->M7 q ≠ none:=fun q h=>by
     by_cases c:q=b
     ·rw [c];exact sb.bx.ne
     ·rw [sb.fr q (t9' q h) c];exact t9' q h
    subst hr3
    refine zi fun r3 hr3=>?_
    walk_at "ra"
    refine ⟨by omega,?_⟩
    refine ⟨fun j ρ M'=>∃ x4 x9 x10 x11,ρ=[some (.d (ilD cs)),some (.d (.int i)),some (.ref b),some (.d (.int n)),x4,some (.d (.lst l)),some (.d (.lst (st.1.map oD))),some (.d (oD st.2)),x8,x9,x10,x11]/\Fr M7 M'/\Pu M M'/\Tr x4/\(∀ q,xG [x9] 0 q->M' q ≠ none)/\Tr x10/\Tr x11,⟨_,_,_,_,rfl,Fr.refl,pu,t4,t9'',t10,t11⟩,?_,?_⟩
    ·rintro j y ρ M' hy ⟨x4,x9,x10,x11,rfl,f8,pu8,t4,t9,t10,t11⟩
     obtain ⟨x,rfl,hx⟩:∃ x,y=.d x/\(x=.tup l \/ x=.lst l):=by
      match j,hy with
      | 0,hy=>cases hy;exact ⟨_,rfl,.inr rfl⟩
      | 1,hy=>cases hy;exact ⟨_,rfl,.inl rfl⟩
      | 2,hy=>cases hy;exact ⟨_,rfl,.inr rfl⟩
     have okt:OkW x:=by rcases hx with rfl | rfl;exact EQ (by omega) okl;exact DU (by omega) okl
     refine ⟨trivial,?_⟩
     show xU _ _ _ _ _ _
     refine zi fun r4 hr4=>?_
     walk_at "ra"
     refine ⟨okt.d,okt.s,okt.l,n,x,l,rfl,by omega,okt.p,hx,?_⟩
     subst hr4
     refine zi fun r4 hr4=>?_
     walk_at "ra"
     have fD:=V8 (n:=n) (x:=x) (by omega)
     have dS:dp (.str (stD x))<=40:=by rw [qv];omega
     refine ⟨n,x,rfl,by omega,okt.p,fun ii w h=>?_,fun t ht=>⟨fun h e=>?_,fun e q hq=>?_⟩⟩
     ·have hd:yh n x=.tup [.str (Str.ofString "bad"),.int ii,.str (Str.ofString w)]:=by unfold yh;rw [h]
      subst hr4
      refine zi fun r4 hr4=>?_
      walk_at "ra"
      refine ⟨[.tup [.str (Str.ofString "bad"),.int ii,.str (Str.ofString w)],yh n x],rfl,fun k a d e1 e2=>?_,true,⟨_,_,_,rfl,kJ _ _,by rw [hd];exact kJ _ _,by rw [<- hd];exact fD,by omega,rfl⟩,?_⟩
      ·match k,e1,e2 with
       | 0,e1,e2=>cases e1;cases e2;exact .d
       | 1,e1,e2=>cases e1;cases e2;exact .d
       | k+2,e1,_=>cases e1
      rw [if_neg (fun z=>nomatch z)]
      refine ⟨okt.d,okt.s,okt.l,?_⟩
      subst hr4
      walk_at "ra"
      refine ⟨_,rfl,_,rfl,by rw [qv];omega,?_⟩
      rw [if_neg (by decide +kernel)]
      exact ⟨f8,pu8,wr _,fun q z=>z.elim,wr _,wr _⟩
     ·have hd:yh n x=.tup [.str (Str.ofString "open"),.int h]:=by unfold yh;rw [ht];dsimp only;rw [e]
      subst hr4
      refine zi fun r4 hr4=>?_
      walk_at "ra"
      refine ⟨[.tup [.str (Str.ofString "open"),.int h],yh n x],rfl,fun k a d e1 e2=>?_,true,⟨_,_,_,rfl,kJ _ _,by rw [hd];exact kJ _ _,by rw [<- hd];exact fD,by omega,rfl⟩,?_⟩
      ·match k,e1,e2 with
       | 0,e1,e2=>cases e1;cases e2;exact .d
       | 1,e1,e2=>cases e1;cases e2;exact .d
       | k+2,e1,_=>cases e1
      rw [if_neg (fun z=>nomatch z)]
      refine ⟨okt.d,okt.s,okt.l,?_⟩
      subst hr4
      walk_at "ra"
      refine ⟨_,rfl,_,rfl,by rw [qv];omega,?_⟩
      rw [if_neg (by decide +kernel)]
      exact ⟨f8,pu8,wr _,fun q z=>z.elim,wr _,wr _⟩
     ·have hd:yh n x=.tup [.str (Str.ofString "order"),.lst ((bL t.1.1).map .int)]:=by unfold yh;rw [ht];dsimp only;rw [e]
      have oL:MO.lst (Jh t)=.lst (((bL t.1.1).map Dat.int).map .d):=by rw [List.map_map];rfl
      have q7:=f8.non hq
      have f9:=f8.mup q7 (.lst (Jh t))
      have pu9:Pu M (mup M' q (.lst (Jh t))):=by rw [oL];exact pu8.mup q _
      have m9:mup M' q (.lst (Jh t)) q=some (.lst (((bL t.1.1).map Dat.int).map .d)):=by rw [zg,oL]
      generalize mup M' q (.lst (Jh t))=M9 at *
      subst hr4
      refine zi fun r4 hr4=>?_
      walk_at "ra"
      refine ⟨[yh n x,yh n x],rfl,fun k a d e1 e2=>?_,true,⟨_,_,_,rfl,kJ _ _,kJ _ _,fD,by omega,rfl⟩,?_⟩
      ·match k,e1,e2 with
       | 0,e1,e2=>
        cases e1;cases e2
        rw [hd]
        refine .tp rfl fun k a d e1 e2=>?_
        match k,e1,e2 with
        | 0,e1,e2=>cases e1;cases e2;exact .d
        | 1,e1,e2=>cases e1;cases e2;exact .pure m9 (zX _)
        | k+2,e1,_=>cases e1
       | 1,e1,e2=>cases e1;cases e2;exact .d
       | k+2,e1,_=>cases e1
      rw [if_neg (fun z=>nomatch z)]
      refine ⟨okt.d,okt.s,okt.l,?_⟩
      subst hr4
      walk_at "ra"
      refine ⟨_,rfl,_,rfl,_,rfl,by rw [qv];omega,?_⟩
      rw [if_pos (by decide +kernel)]
      obtain ⟨cs',l2⟩:=xP ht
      have lb:(List.map AV.d (List.map Dat.int (bL t.1.1))).length=n:=by
       rw [List.length_map,List.length_map];unfold bL;rw [List.length_map,List.length_range];exact cs'.1
      refine ⟨_,rfl,_,rfl,⟨_,jp m9⟩,q,rfl,_,m9,by rw [lb];omega,f9.mup q7 _,?_,wr _,fun q' z=>?_,wr _,wr _⟩
      ·rw [show List.map AV.d (List.map Dat.int (bL t.1.1)) ++ [AV.d (Dat.int 0)]=(List.map Dat.int (bL t.1.1) ++ [Dat.int 0]).map AV.d by rw [List.map_append];rfl]
       exact pu9.mup q _
      ·have z:Sum.inr q' ∈ QW q:=z
       simp only [QW,List.mem_cons,List.not_mem_nil,or_false,reduceCtorEq,false_or,Sum.inr.injEq] at z
       rw [z,zg];exact fun z=>nomatch z
    ·rintro ρ M' ⟨x4,x9,x10,x11,rfl,f8,pu8,t4,t9,t10,t11⟩
     refine ⟨trivial,?_⟩
     subst hr3
     walk_at "ra"
     have we:jD n (.str (Str.ofString ""))=.error (0,"form"):=rfl
     refine ⟨n,_,rfl,by omega,⟨by decide +kernel,fun l e=>by rcases e with e | e <;> cases e⟩,fun ii w h=>?_,fun t ht=>by rw [we] at ht;cases ht⟩
     rw [we] at h
     cases h
     refine ⟨by omega,_,kJ _ _,by decide +kernel,by decide +kernel,?_⟩
     rw [if_neg (by decide +kernel)]
     exact ⟨fr7.trans f8,pu8,_,_,_,_,_,_,_,_,_,_,_,rfl,t4,t8,t9,t10,t11⟩
   walk_at "ra"
   refine ⟨b,3,_,rfl,sb.bx,by omega,by omega,by omega,fun w M7 s7 w0 w1=>⟨_,rfl,by rw [qT];omega,?_⟩⟩
   have sb:=sb.go s7
   have pu:=pu.bx s7
   rw [<- s7.at pb] at hpl
   by_cases c:eqD (.int w) (.int 0)=true
   case neg=>rw [if_neg c];exact key2 _ _ _ t8 okl (by omega) (sb.mono (by omega)) pu hpl
   rw [if_pos c]
   have lx:(l.map AV.d).length=l.length:=List.length_map _
   refine ⟨by omega,by omega,by omega,by omega,by omega,by omega,by omega,by omega,⟨_,jp hpl⟩,_,qk hpl,b,_,_,rfl,sb.bx,by omega,by omega,by omega,fun u M8 s8 u0 u1=>?_⟩
   have sb:=sb.go s8
   have pu:=pu.bx s8
   refine ⟨b,7,_,rfl,sb.bx,by omega,by omega,by omega,fun v M9 s9 v0 v1=>?_⟩
   have sb:=sb.go s9
   have pu:=pu.bx s9
   rw [<- s8.at pb,<- s9.at pb] at hpl
   obtain ⟨d,hd,e⟩:=LR (l:=Gy n) v0 v1
   refine ⟨_,rfl,_,e,_,_,rfl,hpl,u0,by omega,by omega,?_⟩
   have el:List.take u.toNat (l.map AV.d) ++ AV.d d :: List.drop u.toNat (l.map AV.d)=(l.take u.toNat ++ d :: l.drop u.toNat).map AV.d:=by rw [List.map_append,List.map_cons,List.map_take,List.map_drop]
   rw [el]
   refine key2 _ _ _ (wr _) (fun d' hd'=>?_) (by rw [List.length_append,List.length_cons,List.length_take,List.length_drop];omega) ((sb.put p0 pb _).mono (by omega)) (pu.mup p _) zg
   rcases List.mem_append.mp hd' with h | h
   ·exact okl d' (List.mem_of_mem_take h)
   ·rcases List.mem_cons.mp h with rfl | h
    ·exact DE (by omega) _ hd
    ·exact okl d' (List.mem_of_mem_drop h)
  walk_at "ra"
  have ld':(ds.map dD).length<=30:=by rw [List.length_map];omega
  cases hst:st.2 with
  | none=>rw [if_neg (by rw [show jC (AV.d (oD none))=true from rfl];exact fun z=>nomatch z),<- hst];exact key _ _ okd (by omega) (sb.mono (by omega)) pu hpl
  | some h=>
   rw [if_pos (show jC (AV.d (oD (some h)))=false from rfl),<- hst]
   refine ⟨b,2,_,rfl,sb.bx,by omega,by omega,by omega,fun w M7 s7 w0 w1=>⟨_,rfl,by rw [qT];omega,?_⟩⟩
   have sb:=sb.go s7
   have pu:=pu.bx s7
   rw [<- s7.at pb] at hpl
   by_cases c:eqD (.int w) (.int 0)=true
   case neg=>rw [if_neg c];exact key _ _ okd (by omega) sb pu hpl
   rw [if_pos c]
   obtain ⟨row,hd⟩:=st
   have hst:hd=some h:=hst
   subst hst
   obtain ⟨j,j1,j2,j3⟩:=vU (Di cst)
   have j1':j<n:=by rw [<- l1];exact j1
   refine ⟨⟨_,jp hpl⟩,⟨_,rfl⟩,row.map vC,by rw [List.map_map];exact AQ row,.non,rfl,j,by rw [List.length_map];exact j1,fun y hy=>?_,fun m y hm hy=>?_,by omega,_,hpl,by rw [List.length_map];omega,?_⟩
   ·rw [List.getElem?_map,j2] at hy;cases hy;rfl
   ·rw [List.getElem?_map] at hy
    cases e:row[m]? with
    | none=>rw [e] at hy;cases hy
    | some c=>
     rw [e] at hy;cases hy
     cases c with
     | none=>exact absurd rfl (j3 m none hm e)
     | some x=>rfl
   ·have el:(ds.map dD).map AV.d ++ [AV.d (.tup [.str (Str.ofString "lay"),.int j])]=(ds.map dD ++ [Dat.tup [.str (Str.ofString "lay"),.int j]]).map AV.d:=by rw [List.map_append];rfl
    rw [el]
    refine key _ _ (fun d hd=>?_) (by rw [List.length_append];show _+1<=_;omega) (sb.put p0 pb _) (pu.mup p _) zg
    rcases List.mem_append.mp hd with hd | hd
    ·exact okd d hd
    ·rw [List.mem_singleton.mp hd]
     exact VN (d:=.lay j) fun k hk=>by
      rw [List.mem_singleton.mp (show k ∈ [j] from hk)]
      exact Nat.lt_of_le_of_lt (show j<=60 by omega) (by decide)
 ·rintro ρ M' ⟨f1,_,x1,x2,x3,x4,x5,x6,x7,x8,x9,x10,x11,rfl,_⟩
  refine ⟨trivial,?_⟩
  subst hr0
  walk_at "ra"
  exact Q1 f1 q
end
variable {l:PySem.W.OpenLaw}
theorem all_mk {w:World}{K:PySem.W.Frag}{h:Heap}{mg:Str->Option Value}{fa C pa cTurnError cBadDeed cBadPlan cBadRing cBadRow cNoMatch cNotDone fBadDeed fBadPlan fNotDone:Addr}{cdd:ClassData}{cdp:ClassData}{cdo:ClassData}(X:K.In h)(G:h.Ns mainGlobals mg)(hfa:mg "law"=some (.ref fa))(a:At K mg "law" An)(B:Blt mg)(Ball:mg "all"=none)(BValueError:mg "ValueError"=none)
  (a__law_take:At K mg "_law_take" Ku) (a__law_box:At K mg "_law_box" BO) (a__law_folded:At K mg "_law_folded" vV) (a__law_length:At K mg "_law_length" vK) (a__law_deed:At K mg "_law_deed" Jv) (a__law_done:At K mg "_law_done" KB) (a__law_plan:At K mg "_law_plan" JN) (a__law_same:At K mg "_law_same" vQ) (a__law_why:At K mg "_law_why" JV) (a__law_due:At K mg "_law_due" JL) (a__law_told:At K mg "_law_told" Zw) (a_is_place:At K mg "is_place" xJ) (a_is_deed:At K mg "is_deed" vN) (a_back_of:At K mg "back_of" Z7) (a_room_behind:At K mg "room_behind" Ks) (a_walked:At K mg "walked" W6) (a_order_done:At K mg "order_done" Qb)
  (ag_TurnError:PySem.W.nsIn K mainGlobals "TurnError"=some (some (.ref cTurnError)))
  (ag_BadDeed:PySem.W.nsIn K mainGlobals "BadDeed"=some (some (.ref cBadDeed)))
  (ag_BadPlan:PySem.W.nsIn K mainGlobals "BadPlan"=some (some (.ref cBadPlan)))
  (ag_BadRing:PySem.W.nsIn K mainGlobals "BadRing"=some (some (.ref cBadRing)))
  (ag_BadRow:PySem.W.nsIn K mainGlobals "BadRow"=some (some (.ref cBadRow)))
  (ag_NoMatch:PySem.W.nsIn K mainGlobals "NoMatch"=some (some (.ref cNoMatch)))
  (ag_NotDone:PySem.W.nsIn K mainGlobals "NotDone"=some (some (.ref cNotDone)))
  (xgs:PySem.W.specialIn K (.builtin "object.__class__") "__get__"=some (some (.builtin "getset_descriptor.__get__")))
  (xtk:PySem.W.takesIn K (.builtin "object.__class__")=some true)
  (dbx:PySem.W.subIn K (.ref cBadDeed) (.type "BaseException")=some true)
  (dga:PySem.W.findIn K (.ref cBadDeed) "__getattribute__"=some (some (.builtin "BaseException.__getattribute__")))
  (dgt:PySem.W.findIn K (.ref cBadDeed) "__getattr__"=some none)
  (dcl:PySem.W.findIn K (.ref cBadDeed) "__class__"=some (some (.builtin "object.__class__")))
  (dmo:PySem.W.mroIn K cBadDeed (.type "object")=some true)
  (dis:PySem.W.clsIn K cBadDeed=some cdd)
  (dhd:PySem.W.hasDictIn K cBadDeed=true)
  (dfw:PySem.W.findIn K (.ref cBadDeed) "word"=some none)
  (pbx:PySem.W.subIn K (.ref cBadPlan) (.type "BaseException")=some true)
  (pga:PySem.W.findIn K (.ref cBadPlan) "__getattribute__"=some (some (.builtin "BaseException.__getattribute__")))
  (pgt:PySem.W.findIn K (.ref cBadPlan) "__getattr__"=some none)
  (pcl:PySem.W.findIn K (.ref cBadPlan) "__class__"=some (some (.builtin "object.__class__")))
  (pmo:PySem.W.mroIn K cBadPlan (.type "object")=some true)
  (pis:PySem.W.clsIn K cBadPlan=some cdp)
  (phd:PySem.W.hasDictIn K cBadPlan=true)
  (pfw:PySem.W.findIn K (.ref cBadPlan) "word"=some none)
  (di:PySem.W.exmOne K (.ref cBadDeed) (.ref cBadDeed)=some true)
  (pfp:PySem.W.findIn K (.ref cBadPlan) "place"=some none)
  (pt:PySem.W.exmOne K (.ref cBadPlan) (.ref cTurnError)=some true)
  (pi:PySem.W.kitAny K (.ref cBadPlan) [.ref cBadPlan]=some true)
  (pv:PySem.W.kitAny K (.ref cBadPlan) [.type "ValueError"]=some true)
  (pxo:PySem.W.kitAny K (.ref cBadPlan) [.ref cBadDeed,.ref cBadRing,.ref cBadRow,.ref cNoMatch]=some false)
  (pn:PySem.W.kitAny K (.ref cBadPlan) [.ref cNotDone]=some false)
  (obx:PySem.W.subIn K (.ref cNotDone) (.type "BaseException")=some true)
  (oga:PySem.W.findIn K (.ref cNotDone) "__getattribute__"=some (some (.builtin "BaseException.__getattribute__")))
  (ogt:PySem.W.findIn K (.ref cNotDone) "__getattr__"=some none)
  (ocl:PySem.W.findIn K (.ref cNotDone) "__class__"=some (some (.builtin "object.__class__")))
  (omo:PySem.W.mroIn K cNotDone (.type "object")=some true)
  (ois:PySem.W.clsIn K cNotDone=some cdo)
  (ohd:PySem.W.hasDictIn K cNotDone=true)
  (ofh:PySem.W.findIn K (.ref cNotDone) "hand"=some none)
  (ot:PySem.W.exmOne K (.ref cNotDone) (.ref cTurnError)=some true)
  (oi:PySem.W.kitAny K (.ref cNotDone) [.ref cBadPlan]=some false)
  (ov:PySem.W.kitAny K (.ref cNotDone) [.type "ValueError"]=some true)
  (oo:PySem.W.kitAny K (.ref cNotDone) [.ref cBadDeed,.ref cBadRing,.ref cBadRow,.ref cNoMatch]=some false)
  (xa_BadDeed:PySem.W.findIn K (.ref cBadDeed) "__init__"=some (some (.ref fBadDeed))) (xd_BadDeed:∃ fd,Fun K "__init__" "BadDeed.__init__" wg fBadDeed fd) (xn_BadDeed:PySem.W.isFn K (.ref fBadDeed)=true) (xq_BadDeed:jm K cBadDeed yy "ValueError.__new__" fBadDeed=true) (xs_BadDeed_word:xA K cBadDeed "word")
  (xa_BadPlan:PySem.W.findIn K (.ref cBadPlan) "__init__"=some (some (.ref fBadPlan))) (xd_BadPlan:∃ fd,Fun K "__init__" "BadPlan.__init__" yl fBadPlan fd) (xn_BadPlan:PySem.W.isFn K (.ref fBadPlan)=true) (xq_BadPlan:jm K cBadPlan yy "ValueError.__new__" fBadPlan=true) (xs_BadPlan_place:xA K cBadPlan "place") (xs_BadPlan_word:xA K cBadPlan "word")
  (xa_NotDone:PySem.W.findIn K (.ref cNotDone) "__init__"=some (some (.ref fNotDone))) (xd_NotDone:∃ fd,Fun K "__init__" "NotDone.__init__" v9 fNotDone fd) (xn_NotDone:PySem.W.isFn K (.ref fNotDone)=true) (xq_NotDone:jm K cNotDone yy "ValueError.__new__" fNotDone=true) (xs_NotDone_hand:xA K cNotDone "hand")
  (aP:PySem.W.nsIn K mainGlobals "PLACES_OF"=some (some (.ref pa))) {t1 t2 t3 t4 u1 u2 u3 u4:Tok} {ep:Nat}
  (lP:K.lookup pa=some ⟨.type "dict",none,.dict #[⟨hashStr w "swap",.str "swap" t1,.int 2 u1⟩,⟨hashStr w "take",.str "take" t2,.int 1 u2⟩,⟨hashStr w "move",.str "move" t3,.int 2 u3⟩,⟨hashStr w "lay",.str "lay" t4,.int 1 u4⟩] ep,#[]⟩) (nP:(pa == sysModules)=false)
  (aC:PySem.W.nsIn K mainGlobals "Room"=some (some (.ref C))) (pg:PySem.W.plainGet K C Str.empty=true) (hd:PySem.W.hasDictIn K C=true) (po:PySem.W.plainOver K C=true) (sa:PySem.W.findIn K (.ref C) "__setattr__"=some (some (.builtin "object.__setattr__"))) (mk:PySem.W.makesIn K C=true) (kc:PySem.W.keepIn K (.ref C)=true)
  (nr:PySem.W.findIn K (.ref C) "row"=some none) (nh:PySem.W.findIn K (.ref C) "hand"=some none) (nm:PySem.W.findIn K (.ref C) "moved"=some none)
  (am___init__:AtM K C "__init__" "Room.__init__" ZO) (am_do:AtM K C "do" "Room.do" Hu) (am_swap:AtM K C "swap" "Room.swap" Jy) (am_take:AtM K C "take" "Room.take" Zy) (am_move:AtM K C "move" "Room.move" KG) (am_lay:AtM K C "lay" "Room.lay" BY) (am_lift:AtM K C "lift" "Room.lift" KC) (am_row_now:AtM K C "row_now" "Room.row_now" KH) (am_hand_now:AtM K C "hand_now" "Room.hand_now" Kw) (am_moved_now:AtM K C "moved_now" "Room.moved_now" Ju)
 :∃ fd:FuncData,(∀ (s:Shared) (v:Value),BindsTo s fd ⟨[v],[]⟩ [("_law_script",v)])/\∀ base:Heap,K.In base->base.Ns mainGlobals mg->jq l.prog w K mg base CX0 20 fa fd ["_law_script"] (X9 K):=by
 obtain ⟨f,fd,F,m⟩:=id a
 obtain rfl:fa=f:=by rw [hfa] at m;cases m;rfl
 obtain ⟨oc,od,kV,doc,pm,an,cdv,ct,osl,e,lk,hcd⟩:=F.ex
 refine ⟨fd,fun s v=>?_,fun base _ _=>?_⟩
 ·subst e;exact .of_eq rfl
 ·have T:=Dn (P:=l.prog) (w:=w) (base:=base) a__law_take B
  have XG_TurnError:=PySem.W.mg_of X G ag_TurnError
  have XG_BadDeed:=PySem.W.mg_of X G ag_BadDeed
  have XG_BadPlan:=PySem.W.mg_of X G ag_BadPlan
  have XG_BadRing:=PySem.W.mg_of X G ag_BadRing
  have XG_BadRow:=PySem.W.mg_of X G ag_BadRow
  have XG_NoMatch:=PySem.W.mg_of X G ag_NoMatch
  have XG_NotDone:=PySem.W.mg_of X G ag_NotDone
  have R:RTx K C:=⟨⟨pg,hd,po,sa⟩,nr,nh,nm⟩
  have KP:KD K w pa EL:=Ys lP nP
  have MP:=PySem.W.mg_of X G aP
  have MC:=PySem.W.mg_of X G aC
  have XD:XB K cBadDeed:=⟨⟨dbx,dga,dgt,dcl,xgs,xtk,dmo,by rw [dis];rfl⟩,di,dhd,dfw⟩
  have X2:LB K cTurnError cBadDeed cBadPlan cBadRing cBadRow cNoMatch cNotDone:=⟨⟨pbx,pga,pgt,pcl,xgs,xtk,pmo,by rw [pis];rfl⟩,pt,pi,pv,pxo,pn,phd,pfw,pfp,⟨obx,oga,ogt,ocl,xgs,xtk,omo,by rw [ois];rfl⟩,ot,oi,ov,oo,ohd,ofh⟩
  obtain ⟨fdB,FB⟩:=xd_BadDeed
  obtain ⟨fdP,FP⟩:=xd_BadPlan
  obtain ⟨fdN,FN⟩:=xd_NotDone
  have MX:MkX l.prog w K mg base cBadDeed 1 1 fnW:=GR FB xq_BadDeed xn_BadDeed xs_BadDeed_word
  have MP1:MkX l.prog w K mg base cBadPlan 1 2 fnP:=GP FP xq_BadPlan xn_BadPlan xs_BadPlan_place xs_BadPlan_word
  have MP2:ZN l.prog w K mg base cBadPlan 1 2 fnP:=Fb FP xq_BadPlan xn_BadPlan xs_BadPlan_place xs_BadPlan_word
  have MN:MkX l.prog w K mg base cNotDone 1 1 fnN:=HV FN xq_NotDone xn_NotDone xs_NotDone_hand
  have d1:=YM (P:=l.prog) (w:=w) (base:=base) a_is_deed B Ball (QU a_is_place B) KP MP
  have ml:=VM am_lift R B MX XG_BadDeed
  have md:=HL am_do R B (MkX.mono MX (by decide)) XG_BadDeed (d1.mono (by decide)) ((A5 am_swap R B MX XG_BadDeed).mono (by decide)) (Vo am_take R B (MkX.mono MX (by decide)) XG_BadDeed ml) (WX am_move R B (MkX.mono MX (by decide)) XG_BadDeed ml) ((Ft am_lay R B MX XG_BadDeed).mono (by decide))
  obtain ⟨fi,fdi,Fi,bi,mi⟩:=(WY (P:=l.prog) (w:=w) (base:=base) am___init__ R B).mono (show 1<=5 by decide)
  have MR:Mkr l.prog w K mg base "Room" C ["self","n"] 5 (cSp (Bu C)):=⟨fi,fdi,Fi,bi,⟨mk,mi.at_,mi.fn,kc⟩,MC⟩
  have rb:=Du (P:=l.prog) (w:=w) (base:=base) a_room_behind B R.cl XG_BadDeed XG_BadPlan (MkX.mono MP1 (by decide)) (MP2.mono (by decide)) XD MR (md.mono (by decide))
  have wk:=Hd (P:=l.prog) (w:=w) (base:=base) a_walked B R.cl rb ((Wb a_back_of B).mono (by decide)) ((Ew am_row_now R B).mono (by decide)) ((EO am_hand_now R B).mono (by decide)) ((DV am_moved_now R B).mono (by decide))
  have od:=VV (P:=l.prog) (w:=w) (base:=base) a_order_done B XG_NotDone (MkX.mono MN (by decide)) wk
  have tk:=T.imp' DC
  have dn:=(EZ (P:=l.prog) (w:=w) (base:=base) a__law_done B)
  have dd:=(Ez (P:=l.prog) (w:=w) (base:=base) a__law_deed B tk)
  have wy:=DQ (P:=l.prog) (w:=w) (base:=base) a__law_why B
  have jd:=Fx (P:=l.prog) (w:=w) (base:=base) a__law_due B (wy.mono (by decide)) (dn.mono (by decide))
  have tl:=Az (P:=l.prog) (w:=w) (base:=base) a__law_told B BValueError XG_TurnError XG_BadDeed XG_BadPlan XG_BadRing XG_BadRow XG_NoMatch XG_NotDone od X2
  have pl:=DS (P:=l.prog) (w:=w) (base:=base) a__law_plan B dd (dn.mono (by decide))
  have L:=GG (P:=l.prog) (w:=w) (base:=base) a B (((Ia a__law_box B).imp' G1).mono (by decide)) (((Vb a__law_folded B).imp' Y7).mono (by decide)) (((Vr a__law_length B T).imp' Vn).mono (by decide)) (tk.mono (by decide)) (pl.mono (by decide)) (tl.mono (by decide)) (jd.mono (by decide)) ((QX a__law_same B Ball 4).mono (by decide))
  exact (L.imp' (sp_law (K:=K))).fn m lk
theorem walk {q:Program}{loose:List Str}{XP:(Str->Option Value)->Heap->Prop}{YP:World->Heap->Prop}{d:DefRec}{K:Params->PySem.W.Frag}(hn:l.most=some 63)(hdf:d.params.defaults=[])
  (hY:∀ (w:World) (h:Heap),YP w h->(K w.params).In h)
  (F:∀ (w:World) (mg:Str->Option Value) (fa:Addr) (h:Heap),(K w.params).In h->h.Ns mainGlobals mg->mg d.name=some (.ref fa) ->
   ∃ fd:FuncData,(∀ (s:Shared) (u:Value),BindsTo s fd ⟨[u],[]⟩ [("_law_script",u)])/\∀ base:Heap,(K w.params).In base->base.Ns mainGlobals mg->jq l.prog w (K w.params) mg base CX0 20 fa fd ["_law_script"] (X9 (K w.params))) :
  PySem.W.WalkO q loose XP YP l.row.toRowW d [] (fun f vs=>PySem.call f vs):=
 L2.walk_of (n:=63) (k:=20) (x:="_law_script") (CX:=fun _=>CX0) (sp:=fun w=>X9 (K w.params)) hn (by decide) hdf ⟨rfl,rfl,by decide,by decide⟩ hY F (fun _ _ a ns hl _ hS=>⟨a,ns,rfl,hS,hl,fun _=>rfl⟩) fun _ _ _ _ _ z=>z
end Ot
theorem PySem.W.Fast.te10865923747864281642:True:=trivial
theorem PySem.W.Fast.te13635976515924474417:True:=trivial
theorem PySem.W.Fast.te18080135209221232507:True:=trivial
namespace PySem.W.Fast
def tw10228594302859878745:=()
def tw14317947430976253405:=()
def tw6682142629705373698:=()
def tw1547022249461120311:=()
def tw13427636131441383780:=()
def tw14906366009894043971:=()
def tw2499723975393817958:=()
def tw4470241868793979025:=()
def tw12950655565020213020:=()
def tw3308868801852511489:=()
def tw7463915384682539067:=()
def tw3332885233526668951:=()
def tw16505994251131724689:=()
def tw5286709607630957515:=()
def tw16647656674059634856:=()
def tw650986643985248355:=()
def tw4667354328053573340:=()
def tw16571712010928103727:=()
def tw9598033135107936910:=()
def tw11152550947324271018:=()
def tw11507941196291245762:=()
def tw9864944811217894722:=()
def tw6419503916244298242:=()
def tw17079168512173170878:=()
def tw14797195858718840383:=()
def tw416078889092413380:=()
def tw17168529937860352776:=()
def tw5894882305424502117:=()
def tw2468884772856743723:=()
def tw13127614253809977282:=()
def tw229525765321715714:=()
def tw2418085793884110211:=()
def tw9711807463112582013:=()
def tw15485250005071713379:=()
def tw4050453839954224532:=()
def tw9982464005420026413:=()
def tw10890699631344980542:=()
def tw2718088635981054722:=()
def tw4877661929759548690:=()
def tw14227045109291009261:=()
def tw11495510535711839851:=()
def tw2783261772341674310:=()
def tw6377730819205215749:=()
def tw14092489909914174074:=()
def tw15043496575540643947:=()
def tw2551298728675653473:=()
def tw10403497409228872623:=()
def tw12827674475065889230:=()
def tw15419014840863436026:=()
def tw6963028730246177807:=()
def tw9168885377325237111:=()
def tw3881371454253691245:=()
def tw2067792519966754293:=()
def tw4089434295022322421:=()
def tw9847137011250494638:=()
def tw4539874030133928408:=()
def tw2293932467262266191:=()
def tw688456728680640119:=()
def tw8171491519273517838:=()
def tw3492784488221667365:=()
def tw11325074681590462824:=()
def tw17407241177940937806:=()
def tw7402819054602197215:=()
def tw13700202447074958744:=()
def tw7077856789749845369:=()
def tw14582504519500916236:=()
def tw15653344216359901416:=()
def tw15812692082162054098:=()
def tw10983893720804221283:=()
def tw14808842778665891437:=()
def tw3523498883295513586:=()
def tw13013965331370035848:=()
def tw4878948941378706596:=()
def tw13795747377002436788:=()
def tw5645402673245886846:=()
def tw5808622420953508155:=()
def tw15595565035232387608:=()
def tw14398078579418164715:=()
def tw8488959457426984860:=()
def tw10602697727319015497:=()
def tw18179686675799130644:=()
def tw10673046992809538238:=()
def tw2729514746421998308:=()
def tw1807413759147923266:=()
def tw4787676350866554549:=()
def tw13857398192505625755:=()
def tw6779725358230275707:=()
def tw16137196307850861283:=()
def tw8039785899157317684:=()
def tw5404872223283878881:=()
def tw12150213307304549692:=()
def tw17531928855787425101:=()
def tw201517208435511138:=()
def tw15136095095924039596:=()
def tw3479650959176680863:=()
def tw12083114719038286731:=()
def tw4525250057812402751:=()
def tw6527529124677792060:=()
def tw17699598391913935921:=()
def tw7672897343858105757:=()
def tw11257767877321825743:=()
def tw2887370980896856420:=()
def tw6172530696163540581:=()
def tw16101667190453930513:=()
def tw15018788062581081229:=()
def tw6869211633216835269:=()
def tw14222146047610647379:=()
def tw17813947502993228942:=()
def tw5090091459087969978:=()
def tw2820919749709399399:=()
def tw18780733503558729:=()
def tw14455097428571712433:=()
def tw2591520853481955318:=()
def tw13329169989260563207:=()
def tw3144668851764661063:=()
def tw14178378475985344287:=()
def tw3431669656826962044:=()
def tw5175403359688655271:=()
def tw11667600786200809394:=()
def tw13691921647254292133:=()
def tw11844716586119817415:=()
def tw6874483552990179050:=()
def tw1497426274412977390:=()
def tw3080704120668237711:=()
def tw7015206247066517737:=()
def tw17456929841167438233:=()
def tw14502674797046604067:=()
def tw8184546754079500801:=()
def tw2369763416493106330:=()
def tw17453572952748402269:=()
def tw6695567940079944389:=()
def tw7962076589834426900:=()
def tw5515879431441337606:=()
def tw10416964028348160370:=()
def tw14283843455248500763:=()
def tw14328934151805783578:=()
def tw6788774500297278599:=()
def tw17020857903494318412:=()
def tw13498407292277277343:=()
def tw3909577750839914673:=()
def tw4351212829778344049:=()
def tw3439899419862136018:=()
def tw1685819628588697113:=()
def tw13823087431006768087:=()
def tw7354496361634849877:=()
def tw1698866871233876610:=()
def tw13574181713087644857:=()
def tw9019051196674843058:=()
def tw3700397999203309896:=()
def tw1481364230599764817:=()
def tw10930321600373951224:=()
def tw10982467913465890599:=()
def tw15151321803362055431:=()
def tw14903448311896111093:=()
def tw7443295761802287792:=()
def tw15800916110597635303:=()
def tw15064891866551345818:=()
def tw13791393820793982178:=()
def tw14670751031252788142:=()
def tw13664371024814321405:=()
def tw8422253425966345641:=()
def tw1784343250738336068:=()
def tw12276919846846242887:=()
def tw2222459236091080576:=()
def tw9607269044409327368:=()
def tw5882501513406732905:=()
def tw7499043384953266342:=()
def tw6778191533165079710:=()
def tw11441839684598077194:=()
def tw4592827217842746049:=()
def tw18094208269262264150:=()
def tw7667304132073975922:=()
def tw15693919992713474221:=()
def tw17280783589692740924:=()
def tw9082737459102234364:=()
def tw12834463053833171893:=()
def tw15076277520428577351:=()
def tw5007457301700737410:=()
def tw15978975950048168365:=()
def tw15689274961133009512:=()
def tw2130610787630041583:=()
def tw16765747500607219650:=()
def tw2425340186070694402:=()
def tw9349654123614781423:=()
def tw109343623491388492:=()
def tw8012008613492702580:=()
def tw5223573245540910828:=()
def tw3334066957833007670:=()
def tw15231284566222092016:=()
def tw11728610503688640589:=()
def tw13772034016936680986:=()
def tw682028551567533598:=()
def tw732985345307710152:=()
def tw16718979078952814835:=()
def tw6148260859689949844:=()
def tw6168678573852061937:=()
def tw43884352549780846:=()
def tw9052623826896026507:=()
def tw3352349438486623228:=()
def tw5620627978801726759:=()
def tw13744804991482665313:=()
def tw17320200323661242700:=()
def tw11779591249186010792:=()
def tw18395579660036762798:=()
def tw11797030256295610809:=()
def tw4897612507334227080:=()
def tw11647933876925312136:=()
def tw18263175890206027013:=()
def tw3674453234078196070:=()
def tw6557988165250914943:=()
def tw8456034896624081579:=()
def tw4978479695878976349:=()
def tw14411991701469318204:=()
def tw16374027957846901006:=()
def tw16647778789932786899:=()
def tw15209171242095757591:=()
def tw1170124544421879088:=()
def tw16435221280358115228:=()
def tw9420989295095636201:=()
def tw3533195071034067038:=()
def tw3776277694312261685:=()
def tw14050957494760328972:=()
def tw18281449431263473122:=()
def tw1465348722199726748:=()
def tw2149850534120307798:=()
def tw18091030667317529846:=()
def tw8206854198441016293:=()
def tw12901019921403655042:=()
def tw18208677943078430852:=()
def tw11892433332737688250:=()
def tw7556011228118706835:=()
def tw2396104090074540321:=()
def tw8131748574952637808:=()
def tw1235766652615693890:=()
def tw4270512170426578266:=()
def tw7189115077462417736:=()
def tw2608938328097434428:=()
def tw3406038537453536553:=()
def tw14630346346058970569:=()
def tw17557508995510724788:=()
def tw914853444127087333:=()
def tw14537027032720304904:=()
def tw10932181817687752203:=()
def tw18171764047017238307:=()
def tw14588493101898426504:=()
def tw16265400899469679414:=()
def tw2551594827175240995:=()
def tw10132150704378959643:=()
def tw10902933620095543028:=()
def tw345420704951872373:=()
def tw5802309372299639621:=()
def tw9711147336698710094:=()
def tw10282314287274476680:=()
def tw12573836733124412080:=()
def tw11748569413395036624:=()
def tw9476781877581741741:=()
def tw14581701245398931361:=()
def tw2851412375449122094:=()
def tw9026465656400642109:=()
def tw2920470031887063645:=()
def tw6319817832668177777:=()
def tw2997164402358021834:=()
def tw7930699664608924877:=()
def tw9931121837270924334:=()
def tw10128535477913325205:=()
def tw12957711899315114934:=()
def tw9912313484664264150:=()
def tw2771730618020238283:=()
def tw18146372920151761749:=()
def tw7904341848459740264:=()
def tw4235553495495433400:=()
def tw264280059674999565:=()
def tw4890206723655834111:=()
def tw6625509703206292438:=()
def tw2686984808441551459:=()
def tw7077331366381917444:=()
def tw9137635123616950867:=()
def tw4905940989933072148:=()
def tw9438981962424302283:=()
def tw782459708537164924:=()
def tw4982826138957262813:=()
def tw601114440478320066:=()
def tw15523015529626175564:=()
def tw5781482092325070968:=()
def tw1477220753010974407:=()
def tw9693803581472438461:=()
def tw10443302531261843647:=()
def tw11943115230648459463:=()
def tw3022378049298306581:=()
def tw14929767182130515812:=()
def tw8206214574751816833:=()
def tw17892633026648772768:=()
def tw16895849753078970813:=()
def tw8118083377627077142:=()
def tw12890311540861339296:=()
def tw4314979522073366554:=()
def tw6980297791739089916:=()
def tw7338957593063152158:=()
def tw925541442670079467:=()
def tw7650073924732023455:=()
def tw9880463996001130988:=()
def tw1748418056270615:=()
def tw8326392170003918728:=()
def tw7857507712760473938:=()
def tw90281154340662921:=()
def tw2656981381209836576:=()
def tw13317010528112611282:=()
def tw12975773713918889189:=()
def tw16341718456321491385:=()
def tw6364176399343504381:=()
def tw4691146510534812617:=()
def tw9282041948957320437:=()
def tw15908260454186045279:=()
def tw3005817012423157314:=()
def tw11387042986558296543:=()
def tw17121334810500646752:=()
def tw2739656872206072228:=()
def tw9708321551007197535:=()
def tw14506939843749462168:=()
def tw8207851067864897370:=()
def tw13776625273141292200:=()
def tw10740135767406784613:=()
def tw9705592187430640368:=()
def tw5449861593614325324:=()
def tw12326452549743798769:=()
def tw11363007912282347141:=()
def tw11113720656664502356:=()
def tw15405914709754505057:=()
def tw11837504959761212147:=()
def tw5594811280941142580:=()
def tw14048299672783257085:=()
def tw12187903034560149514:=()
def tw3318909112951792807:=()
def tw1544737249792653161:=()
end PySem.W.Fast
open PySem PySem.W PyProof.Rows
set_option maxRecDepth 100000 in
set_option maxHeartbeats 0 in
theorem PySem.Challenge.cw_ownturn_k55_orders_done_holds : PySem.Challenge.rw_ownturn_k55_orders_done.Holds := by
 w_on; o_law; k_head; (case hw => w_witness2)
 k_fill
 refine Ot.walk (l := PySem.Challenge.rw_ownturn_k55_orders_done) rfl rfl (fun w h Y => PySem.W.kIn_of Y) ?F
 case F =>
  intro w mg fa h KX G hmg
  refine' Ot.all_mk KX G hmg (L2.at_mk KX G ?a0 ?l0 ?c0 ?k0) (L2.blt_mk KX G ?z1 ?z2 ?z3 ?z4 ?z5 ?z6 ?z7 ?z8 ?z9 ?z10 ?z11 ?z12 ?z13 ?z14 ?z15 ?z16) (PySem.W.mg_none_of KX G ?zall) (PySem.W.mg_none_of KX G ?zValueError) (L2.at_mk KX G ?a1 ?l1 ?c1 ?k1) (L2.at_mk KX G ?a2 ?l2 ?c2 ?k2) (L2.at_mk KX G ?a3 ?l3 ?c3 ?k3) (L2.at_mk KX G ?a4 ?l4 ?c4 ?k4) (L2.at_mk KX G ?a5 ?l5 ?c5 ?k5) (L2.at_mk KX G ?a6 ?l6 ?c6 ?k6) (L2.at_mk KX G ?a7 ?l7 ?c7 ?k7) (L2.at_mk KX G ?a8 ?l8 ?c8 ?k8) (L2.at_mk KX G ?a9 ?l9 ?c9 ?k9) (L2.at_mk KX G ?a10 ?l10 ?c10 ?k10) (L2.at_mk KX G ?a11 ?l11 ?c11 ?k11) (L2.at_mk KX G ?a12 ?l12 ?c12 ?k12) (L2.at_mk KX G ?a13 ?l13 ?c13 ?k13) (L2.at_mk KX G ?a14 ?l14 ?c14 ?k14) (L2.at_mk KX G ?a15 ?l15 ?c15 ?k15) (L2.at_mk KX G ?a16 ?l16 ?c16 ?k16) (L2.at_mk KX G ?a17 ?l17 ?c17 ?k17) ?xgTurnError ?xgBadDeed ?xgBadPlan ?xgBadRing ?xgBadRow ?xgNoMatch ?xgNotDone ?xfxgs ?xfxtk ?xfdbx ?xfdga ?xfdgt ?xfdcl ?xfdmo ?xfdis ?xfdhd ?xfdfw ?xfpbx ?xfpga ?xfpgt ?xfpcl ?xfpmo ?xfpis ?xfphd ?xfpfw ?xfdi ?xfpfp ?xfpt ?xfpi ?xfpv ?xfpxo ?xfpn ?xfobx ?xfoga ?xfogt ?xfocl ?xfomo ?xfois ?xfohd ?xfofh ?xfot ?xfoi ?xfov ?xfoo ?xaBadDeed ⟨_, L2.fun_mk ?xlBadDeed ?xcBadDeed ?xkBadDeed⟩ ?xnBadDeed ?xqBadDeed ⟨?xsBadDeedword, ?xtBadDeedword, ?xhBadDeedword, ?xmBadDeedword, ?xvBadDeedword⟩ ?xaBadPlan ⟨_, L2.fun_mk ?xlBadPlan ?xcBadPlan ?xkBadPlan⟩ ?xnBadPlan ?xqBadPlan ⟨?xsBadPlanplace, ?xtBadPlanplace, ?xhBadPlanplace, ?xmBadPlanplace, ?xvBadPlanplace⟩ ⟨?xsBadPlanword, ?xtBadPlanword, ?xhBadPlanword, ?xmBadPlanword, ?xvBadPlanword⟩ ?xaNotDone ⟨_, L2.fun_mk ?xlNotDone ?xcNotDone ?xkNotDone⟩ ?xnNotDone ?xqNotDone ⟨?xsNotDonehand, ?xtNotDonehand, ?xhNotDonehand, ?xmNotDonehand, ?xvNotDonehand⟩ ?aP ?lP ?nP ?aC ?pg ?hd ?po ?sa ?mk ?kc ?nr ?nh ?nm (L2.atm_mk ?ma0 ?mi0 ?ml0 ?mc0 ?mk0) (L2.atm_mk ?ma1 ?mi1 ?ml1 ?mc1 ?mk1) (L2.atm_mk ?ma2 ?mi2 ?ml2 ?mc2 ?mk2) (L2.atm_mk ?ma3 ?mi3 ?ml3 ?mc3 ?mk3) (L2.atm_mk ?ma4 ?mi4 ?ml4 ?mc4 ?mk4) (L2.atm_mk ?ma5 ?mi5 ?ml5 ?mc5 ?mk5) (L2.atm_mk ?ma6 ?mi6 ?ml6 ?mc6 ?mk6) (L2.atm_mk ?ma7 ?mi7 ?ml7 ?mc7 ?mk7) (L2.atm_mk ?ma8 ?mi8 ?ml8 ?mc8 ?mk8) (L2.atm_mk ?ma9 ?mi9 ?ml9 ?mc9 ?mk9)
  (case xgTurnError | xgBadDeed | xgBadPlan | xgBadRing | xgBadRow | xgNoMatch | xgNotDone => k_is)
  (case xfxgs | xfxtk | xfdbx | xfdga | xfdgt | xfdcl | xfdmo | xfdis | xfdhd | xfdfw | xfpbx | xfpga | xfpgt | xfpcl | xfpmo | xfpis | xfphd | xfpfw | xfdi | xfpfp | xfpt | xfpi | xfpv | xfpxo | xfpn | xfobx | xfoga | xfogt | xfocl | xfomo | xfois | xfohd | xfofh | xfot | xfoi | xfov | xfoo => first | k_is | kit_is | kts_exm)
  (case xaBadDeed | xlBadDeed | xcBadDeed | xkBadDeed | xnBadDeed => k_is)
  (case xqBadDeed => first | rfl | with_unfolding_all rfl | exact Eq.refl true)
  (case xsBadDeedword | xtBadDeedword | xhBadDeedword | xmBadDeedword => k_is)
  (case xvBadDeedword => first | rfl | with_unfolding_all rfl | exact Eq.refl true)
  (case xaBadPlan | xlBadPlan | xcBadPlan | xkBadPlan | xnBadPlan => k_is)
  (case xqBadPlan => first | rfl | with_unfolding_all rfl | exact Eq.refl true)
  (case xsBadPlanplace | xtBadPlanplace | xhBadPlanplace | xmBadPlanplace => k_is)
  (case xvBadPlanplace => first | rfl | with_unfolding_all rfl | exact Eq.refl true)
  (case xsBadPlanword | xtBadPlanword | xhBadPlanword | xmBadPlanword => k_is)
  (case xvBadPlanword => first | rfl | with_unfolding_all rfl | exact Eq.refl true)
  (case xaNotDone | xlNotDone | xcNotDone | xkNotDone | xnNotDone => k_is)
  (case xqNotDone => first | rfl | with_unfolding_all rfl | exact Eq.refl true)
  (case xsNotDonehand | xtNotDonehand | xhNotDonehand | xmNotDonehand => k_is)
  (case xvNotDonehand => first | rfl | with_unfolding_all rfl | exact Eq.refl true)
  (case aP | lP => k_is)
  (case nP => first | rfl | decide | k_is)
  (case aC | a0 | l0 | c0 | k0 | a1 | l1 | c1 | k1 | a2 | l2 | c2 | k2 | a3 | l3 | c3 | k3 | a4 | l4 | c4 | k4 | a5 | l5 | c5 | k5 | a6 | l6 | c6 | k6 | a7 | l7 | c7 | k7 | a8 | l8 | c8 | k8 | a9 | l9 | c9 | k9 | a10 | l10 | c10 | k10 | a11 | l11 | c11 | k11 | a12 | l12 | c12 | k12 | a13 | l13 | c13 | k13 | a14 | l14 | c14 | k14 | a15 | l15 | c15 | k15 | a16 | l16 | c16 | k16 | a17 | l17 | c17 | k17 | zall | zValueError | z1 | z2 | z3 | z4 | z5 | z6 | z7 | z8 | z9 | z10 | z11 | z12 | z13 | z14 | z15 | z16 | pg | hd | po | sa | mk | kc | nr | nh | nm | ma0 | mi0 | ml0 | mc0 | mk0 | ma1 | mi1 | ml1 | mc1 | mk1 | ma2 | mi2 | ml2 | mc2 | mk2 | ma3 | mi3 | ml3 | mc3 | mk3 | ma4 | mi4 | ml4 | mc4 | mk4 | ma5 | mi5 | ml5 | mc5 | mk5 | ma6 | mi6 | ml6 | mc6 | mk6 | ma7 | mi7 | ml7 | mc7 | mk7 | ma8 | mi8 | ml8 | mc8 | mk8 | ma9 | mi9 | ml9 | mc9 | mk9 => k_is)
