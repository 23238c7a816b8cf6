import PyProof.Rows.All
import Wide.All
import OpenK.AllK
import Wide.FinOn
import Lean
import PyProof.EqAt
import PyProof.EqKinds
import PyProof.TupleCall
import PyProof.AttrMissHeap
import PyProof.FactsAll.zip_1
import KE.KDictOf
import PyProof.DictList
import PySem.Challenge.RW_ownturn_k37_tables_of_three_ways
set_option compiler.extract_closed false
set_option Elab.async false
set_option linter.all false
set_option maxRecDepth 100000
namespace L2
open PySem PySem.Spec PyProof.Rows
noncomputable abbrev Key:=Sum Int Str
noncomputable def xw:Key->Value->Bool
 | .inl k,v=>Value.isInt k v
 | .inr x,v=>Value.isStrOf x v
noncomputable def Ad (w:World):Key->Int
 | .inl k=>hashInt k
 | .inr x=>hashStr w x
theorem zD:∀ {k:Key} {v:Value},xw k v=true->(∃ i t,k=Sum.inl i/\v=Value.int i t) \/ (∃ x t,k=Sum.inr x/\v=Value.str x t)
 | .inl i,v,h=>by
  obtain ⟨t,e⟩:=Value.isInt_shape (k:=i) (v:=v) h
  exact .inl ⟨i,t,rfl,e⟩
 | .inr x,v,h=>by
  obtain ⟨t,e⟩:=Value.isStrOf_shape (x:=x) (v:=v) h
  exact .inr ⟨x,t,rfl,e⟩
theorem Z2 (i:Int)(t:Tok):xw (.inl i) (.int i t)=true:=by simp [xw,Value.isInt]
theorem ZG (x:Str)(t:Tok):xw (.inr x) (.str x t)=true:=by simp [xw,Value.isStrOf]
theorem VO (a b:Int):decide ((Sum.inl a:Key)=Sum.inl b)=(a == b):=by
 by_cases e:a=b
 ·subst e;simp
 ·have h:¬ (Sum.inl a:Key)=Sum.inl b:=fun q=>e (Sum.inl.inj q)
  rw [decide_eq_false h]
  exact (beq_eq_false_iff_ne.mpr e).symm
theorem YW (a b:Str):decide ((Sum.inr a:Key)=Sum.inr b)=decide (a=b):=by
 by_cases e:a=b
 ·subst e;simp
 ·have h:¬ (Sum.inr a:Key)=Sum.inr b:=fun q=>e (Sum.inr.inj q)
  rw [decide_eq_false h,decide_eq_false e]
theorem Vc (a:Int)(b:Str):decide ((Sum.inl a:Key)=Sum.inr b)=false:=decide_eq_false (fun q=>nomatch q)
theorem Vx (a:Str)(b:Int):decide ((Sum.inr a:Key)=Sum.inl b)=false:=decide_eq_false (fun q=>nomatch q)
noncomputable def zv (prog:Program)(w:World):PySem.KeyKind prog w Key where
 is:=xw
 hash:=Ad w
 inj:=fun v a b ha hb=>by
  rcases zD ha with ⟨i,t,rfl,rfl⟩ | ⟨x,t,rfl,rfl⟩
  ·rcases zD hb with ⟨j,u,rfl,e⟩ | ⟨y,u,rfl,e⟩
   ·injection e with e1 _;rw [e1]
   ·exact nomatch e
  ·rcases zD hb with ⟨j,u,rfl,e⟩ | ⟨y,u,rfl,e⟩
   ·exact nomatch e
   ·injection e with e1 _;rw [e1]
 byValue:=fun k v h=>by
  rcases zD h with ⟨i,t,rfl,rfl⟩ | ⟨x,t,rfl,rfl⟩ <;> rfl
 pyHash:=fun hv h=>by
  rcases zD hv with ⟨i,t,rfl,rfl⟩ | ⟨x,t,rfl,rfl⟩
  ·exact wpAny_pyHash_int h
  ·exact wpAny_pyHash_str h
 eqBool:=fun hu hv h=>by
  rcases zD hu with ⟨i,t,rfl,rfl⟩ | ⟨x,t,rfl,rfl⟩
  ·rcases zD hv with ⟨j,u,rfl,rfl⟩ | ⟨y,u,rfl,rfl⟩
   ·rw [VO] at h;exact wpAny_eqBool_int h
   ·rw [Vc] at h;exact SeqAt.EqAt.int_str i t y u _ _ _ _ h
  ·rcases zD hv with ⟨j,u,rfl,rfl⟩ | ⟨y,u,rfl,rfl⟩
   ·rw [Vx] at h;exact SeqAt.EqAt.str_int x t j u _ _ _ _ h
   ·rw [YW] at h;exact wpAny_eqBool_str h
 «strs»:=fun k x t v h=>by
  rcases zD h with ⟨i,u,rfl,e⟩ | ⟨y,u,rfl,e⟩
  ·exact nomatch e
  ·injection e with e1 _
   subst e1
   cases v <;> rfl
theorem yQ (prog:Program)(w:World)(i:Int)(t:Tok):(zv prog w).is (.inl i) (.int i t)=true:=Z2 i t
theorem y9 (prog:Program)(w:World)(x:Str)(t:Tok):(zv prog w).is (.inr x) (.str x t)=true:=ZG x t
inductive V where
 | non | bl (b:Bool) | int (i:Int) | str (x:Str) | byt (b:Array UInt8) | flt (b:UInt64) | ref (a:Addr) | ty (n:String)
 deriving DecidableEq
noncomputable def zm:V->Value->Prop
 | .non,u=>u=Value.none
 | .bl b,u=>u=Value.bool b
 | .int i,u=>∃ t,u=Value.int i t
 | .str x,u=>∃ t,u=Value.str x t
 | .byt b,u=>∃ t,u=Value.bytes b t
 | .flt b,u=>∃ t,u=Value.float b t
 | .ref a,u=>u=Value.ref a
 | .ty n,u=>u=Value.type n
noncomputable abbrev zk:List V->List Value->Prop:=Paired zm
theorem zk.length {xs:List V}{us:List Value}(r:zk xs us):xs.length=us.length:=Paired.length r
theorem zk.get:∀ {xs:List V} {us:List Value} {i:Nat} {x:V},zk xs us->xs[i]?=some x->∃ u,us[i]?=some u/\zm x u
 | _,_,_,_,.nil,e=>by simp at e
 | _,_,0,_,.cons r _,e=>by simp at e;subst e;exact ⟨_,rfl,r⟩
 | _,_,i+1,x,.cons _ t,e=>by
  obtain ⟨u,h1,h2⟩:=zk.get (i:=i) (x:=x) t (by simpa using e)
  exact ⟨u,by simpa using h1,h2⟩
theorem zk.set {x:V}{u:Value}(r:zm x u):∀ {xs:List V} {us:List Value} (i:Nat),zk xs us->zk (xs.set i x) (us.set i u)
 | _,_,_,.nil=>.nil
 | _,_,0,.cons _ t=>.cons r t
 | _,_,i+1,.cons q t=>.cons q (zk.set r i t)
theorem zk.append:∀ {xs ys:List V} {us ws:List Value},zk xs us->zk ys ws->zk (xs ++ ys) (us ++ ws)
 | _,_,_,_,.nil,s=>s
 | _,_,_,_,.cons r t,s=>.cons r (zk.append t s)
theorem zk.take:∀ {xs:List V} {us:List Value} (n:Nat),zk xs us->zk (xs.take n) (us.take n)
 | _,_,0,_=>.nil
 | _,_,_+1,.nil=>.nil
 | _,_,n+1,.cons r t=>.cons r (zk.take n t)
theorem zk.drop:∀ {xs:List V} {us:List Value} (n:Nat),zk xs us->zk (xs.drop n) (us.drop n)
 | _,_,0,r=>r
 | _,_,_+1,.nil=>.nil
 | _,_,n+1,.cons _ t=>zk.drop n t
noncomputable def yh:Option V->Option Value->Prop
 | some v,some u=>zm v u
 | none,none=>True
 | _,_=>False
noncomputable def KV {κ:Type}:List (κ × V)->List (κ × Value)->Prop:=Paired fun (p:κ × V) (q:κ × Value)=>p.1=q.1/\zm p.2 q.2
noncomputable def kV:Key->V
 | .inl i=>.int i
 | .inr x=>.str x
inductive HO where
  | lst (xs:List V)
  | tup (xs:List V)
  | dK (kvs:List (Key × V)) | dT (kvs:List (List Key × V))
  | set (S:Int->Bool) (n:Nat)
  | ins (C dx:Addr) (fs:List (Str × V))
  | own (x:Addr)
  | xd (fs:List (Str × V))
  | met (f x:Addr)
  | rng (lo hi:Int)
  | frz (o:Obj) (u:HO)
  | tbl (ps:Array Value)
  | ext (φ:Heap->Prop)
noncomputable abbrev Hp:=Addr->Option HO
noncomputable def upd (H:Hp)(a:Addr)(o:HO):Hp:=fun b=>if b=a then some o else H b
theorem zl {H:Hp}{a:Addr}{o:HO}:upd H a o a=some o:=by unfold upd;rw [if_pos rfl]
theorem ze {H:Hp}{a b:Addr}{o:HO}(h:b ≠ a):upd H a o b=H b:=by unfold upd;rw [if_neg h]
theorem ww {H:Hp}{a b:Addr}{o u:HO}(h:H a=some o)(h':H b=some u)(d:o ≠ u):a ≠ b:=by
 intro e;subst e;rw [h] at h';exact d (Option.some.inj h')
theorem zg {H:Hp}{a b:Addr}{o:HO}(h:H a=some o)(h':H b=none):a ≠ b:=by
 intro e;subst e;rw [h] at h';cases h'
noncomputable def vz (h:Heap)(a:Addr)(items:Array Value):Prop:=∃ o,h.get? a=some o/\o.cls=.type "tuple"/\(∃ n,o.data=.seq items n)/\o.dict=none
theorem vz.is {h:Heap}{a:Addr}{items:Array Value}(x:vz h a items):IsTup h a items:=let ⟨o,e,c,n,_⟩:=x;⟨o,e,c,n⟩
theorem vz.lt {h:Heap}{a:Addr}{items:Array Value}(x:vz h a items):a<h.objs.size:=x.is.lt
theorem vz.new (h:Heap)(items:Array Value):vz (h.push { cls:=.type "tuple",data:=.seq items }) h.objs.size items:=⟨_,Heap.get?_push_size _ rfl,rfl,⟨_,rfl⟩,rfl⟩
section
variable (P:Program)(w:World)
noncomputable def zx (H:Hp)(h:Heap)(a:Addr):HO->Prop
  | .lst xs=>xs.length<=sizeLine/\∃ (its:List Value) (n:Nat),zk xs its/\h.get? a=some { cls:=.type "list",data:=.seq its.toArray n }
  | .tup xs=>xs.length<=sizeLine/\∃ its:List Value,zk xs its/\vz h a its.toArray
  | .dK kvs=>kvs.length<=sizeLine/\(a == sysModules)=false/\∃ vs,KV kvs vs/\h.DictOf (zv P w) a vs
  | .dT kvs => kvs.length <= sizeLine /\ (a == sysModules) = false /\ ∃ xs : List (List Key × Addr × Value),
      Paired (fun (p:List Key × V) (q:List Key × Addr × Value)=>p.1=q.1/\H q.2.1=some (.tup (p.1.map kV))/\zm p.2 q.2.2) kvs xs /\
      ∃ o es ep,h.get? a=some o/\o.ExactDict/\o.data=.dict es ep/\es.toList=xs.map (entryOfKey (tupleKind (zv P w)))/\(xs.map (·.1)).Nodup
  | .set S n=>h.SetOf (intKind P w) a S n
  | .ins C dx fs => H dx = some (.own a) /\ fs.length <= 1000 /\ dx ≠ a /\ h.get? a = some (PySem.W.instObj C dx) /\
      ∃ mA,h.Ns1 dx mA/\(∀ f,yh (fs.lookup f) (mA f))/\PySem.Within mA (fs.map (·.1))
  | .own _=>∃ o,h.get? a=some o
  | .xd fs=>∃ mA,h.Ns1 a mA/\∀ f,yh (fs.lookup f) (mA f)
  | .rng lo hi=>∃ t u v,h.get? a=some { cls:=.type "range",data:=.fields #[.int lo t,.int hi u,.int 1 v] }
  | .frz o u=>h.get? a=some o/\zx H h a u
  | .tbl ps=>h.get? a=some { cls:=.none,data:=.fields ps }
  | .met f x=>h.get? a=some (PySem.W.methodObj (.ref f) (.ref x))
  | .ext φ=>φ h/\(∃ o,h.get? a=some o)/\∀ h1 h2:Heap,φ h1->(∀ o,h1.get? a=some o->h2.get? a=some o)->φ h2
noncomputable def HOk (H:Hp)(h:Heap):Prop:=∀ a o,H a=some o->zx P w H h a o
end
section
variable {P:Program}{w:World}{H H':Hp}{h h':Heap}{a:Addr}{o:HO}
theorem zx.lt (x:zx P w H h a o):a<h.objs.size:=by
 cases o with
 | lst xs=>obtain ⟨_,_,_,_,e⟩:=x;exact Heap.lt_size e
 | tup xs=>obtain ⟨_,_,_,p⟩:=x;exact p.lt
 | dK kvs=>obtain ⟨_,_,_,_,o,_,_,e,_⟩:=x;exact Heap.lt_size e
 | dT kvs=>obtain ⟨_,_,_,_,o,_,_,e,_⟩:=x;exact Heap.lt_size e
 | set S n=>obtain ⟨o,_,_,_,e,_⟩:=x;exact Heap.lt_size e
 | ins C dx fs=>obtain ⟨_,_,_,e,_⟩:=x;exact Heap.lt_size e
 | own y=>obtain ⟨_,e⟩:=x;exact Heap.lt_size e
 | xd fs=>obtain ⟨_,⟨_,_,_,e,_⟩,_⟩:=x;exact Heap.lt_size e
 | rng lo hi=>obtain ⟨_,_,_,e⟩:=x;exact Heap.lt_size e
 | frz ob u=>obtain ⟨e,_⟩:=x;exact Heap.lt_size e
 | tbl ps=>exact Heap.lt_size (show h.get? a=some _ from x)
 | met f y=>exact Heap.lt_size (show h.get? a=some _ from x)
 | ext φ=>obtain ⟨_,⟨_,e⟩,_⟩:=x;exact Heap.lt_size e
theorem Paired.mapP {α β:Type}{F G:α->β->Prop}:∀ {l₁:List α} {l₂:List β},Paired F l₁ l₂->(∀ a b,F a b->G a b)->Paired G l₁ l₂
 | _,_,.nil,_=>.nil
 | _,_,.cons r t,f=>.cons (f _ _ r) (Paired.mapP t f)
theorem zx.stay (x:zx P w H h a o)(k:∀ b u,(b=a \/ H b=some (.own a))->h.get? b=some u->h'.get? b=some u)
  (ho:∀ b,H b=some (.own a)->H' b=some (.own a)) (ht:∀ b xs,H b=some (.tup xs)->H' b=some (.tup xs)):zx P w H' h' a o:=by
 induction o with
 | lst xs=>obtain ⟨z,its,n,r,e⟩:=x;exact ⟨z,its,n,r,k _ _ (.inl rfl) e⟩
 | tup xs=>obtain ⟨z,its,r,ob,e,c⟩:=x;exact ⟨z,its,r,ob,k _ _ (.inl rfl) e,c⟩
 | dK kvs=>obtain ⟨z,y,vs,r,ob,es,ep,e,c⟩:=x;exact ⟨z,y,vs,r,ob,es,ep,k _ _ (.inl rfl) e,c⟩
 | dT kvs=>
  obtain ⟨z,y,xs,r,ob,es,ep,e,c⟩:=x
  exact ⟨z,y,xs,Paired.mapP r fun p q z=>⟨z.1,ht _ _ z.2.1,z.2.2⟩,ob,es,ep,k _ _ (.inl rfl) e,c⟩
 | set S n=>obtain ⟨ob,es,ep,t,e,c⟩:=x;exact ⟨ob,es,ep,t,k _ _ (.inl rfl) e,c⟩
 | ins C dx fs=>
  obtain ⟨d,z,ne,e,mA,⟨od,es,ep,e2,c⟩,r⟩:=x
  exact ⟨ho _ d,z,ne,k _ _ (.inl rfl) e,mA,⟨od,es,ep,k _ _ (.inr d) e2,c⟩,r⟩
 | own y=>obtain ⟨ob,e⟩:=x;exact ⟨ob,k _ _ (.inl rfl) e⟩
 | xd fs=>obtain ⟨mA,⟨od,es,ep,e,c⟩,r⟩:=x;exact ⟨mA,⟨od,es,ep,k _ _ (.inl rfl) e,c⟩,r⟩
 | rng lo hi=>obtain ⟨t,u,v,e⟩:=x;exact ⟨t,u,v,k _ _ (.inl rfl) e⟩
 | frz ob u ih=>obtain ⟨e,q⟩:=x;exact ⟨k _ _ (.inl rfl) e,ih q⟩
 | tbl ps=>
  have e:h.get? a=some { cls:=.none,data:=.fields ps }:=x
  show h'.get? a=some { cls:=.none,data:=.fields ps }
  exact k a _ (.inl rfl) e
 | met f y=>
  have e:h.get? a=some (PySem.W.methodObj (.ref f) (.ref y)):=x
  show h'.get? a=some (PySem.W.methodObj (.ref f) (.ref y))
  exact k a _ (.inl rfl) e
 | ext φ=>obtain ⟨p,⟨o,e⟩,st⟩:=x;exact ⟨st _ _ p fun o q=>k _ _ (.inl rfl) q,⟨o,k _ _ (.inl rfl) e⟩,st⟩
theorem HOk.lt (x:HOk P w H h)(e:H a=some o):a<h.objs.size:=(x a o e).lt
theorem HOk.fresh (x:HOk P w H h)(e:h.objs.size<=a):H a=none:=by
 cases q:H a with
 | none=>rfl
 | some u=>exact absurd (Nat.lt_of_lt_of_le (x.lt q) e) (Nat.lt_irrefl _)
theorem HOk.kept (x:HOk P w H h)(k:∀ b u,h.get? b=some u->h'.get? b=some u):HOk P w H h':=fun a o e=>
 (x a o e).stay (fun b u _ q=>k b u q) (fun _ q=>q) fun _ _ q=>q
theorem HOk.laid (x:HOk P w H h)(k:∀ b u,h.get? b=some u->h'.get? b=some u)(hp:h.objs.size<=a)(new:zx P w (upd H a o) h' a o):HOk P w (upd H a o) h':=fun b u e=>by
 have hn:=x.fresh hp
 by_cases hb:b=a
 ·subst hb;rw [zl] at e;cases e;exact new
 ·rw [ze hb] at e
  exact (x b u e).stay (fun c v _ q=>k c v q) (fun c q=>by rw [ze (zg q hn)];exact q) fun c xs q=>by rw [ze (zg q hn)];exact q
end
noncomputable def Rd (H:Hp)(a:Addr)(u:HO):Prop:=H a=some u \/ ∃ o,H a=some (.frz o u)
theorem Rd.ok {P:Program}{w:World}{H:Hp}{h:Heap}{a:Addr}{u:HO}(r:Rd H a u)(x:HOk P w H h):zx P w H h a u:=by
 rcases r with r | ⟨o,r⟩
 ·exact x a u r
 ·obtain ⟨_,q⟩:=x a _ r
  exact q
noncomputable def Mut:Option HO->Prop
 | some (.lst _)=>True
 | some (.dK _)=>True
 | some (.dT _)=>True
 | some (.set _ _)=>True
 | some (.ins _ _ _)=>True
 | some (.ext _)=>True
 | _=>False
section
variable {P:Program}{w:World}{H:Hp}{h h':Heap}{x e:Addr}{o':HO}
theorem HOk.write (ok : HOk P w H h)(mu : Mut (H x))(he : e = x \/ H e = some (.own x))(k : ∀ b u, b ≠ e -> h.get? b = some u -> h'.get? b = some u)(heo : ∃ u, h'.get? e = some u)
    (new:zx P w (upd H x o') h' x o'):HOk P w (upd H x o') h':=fun b u q=>by
  have nown:∀ c y,H c=some (.own y)->c ≠ x:=fun c y r z=>by subst z;rw [r] at mu;exact mu
  have ntup:∀ c xs,H c=some (.tup xs)->c ≠ x:=fun c xs r z=>by subst z;rw [r] at mu;exact mu
  by_cases hb:b=x
  · subst hb;rw [zl] at q;cases q;exact new
  · rw [ze hb] at q
    by_cases hbe:b=e
    · have q' : H b = some (.own x) := by
        rcases he with z | z
        · exact absurd (hbe.trans z) hb
        · rw [hbe];exact z
      rw [q] at q';cases q'
      obtain ⟨v,hv⟩:=heo
      exact ⟨v,by rw [hbe];exact hv⟩
    · refine (ok b u q).stay (fun c v hc r=>k c v ?_ r) (fun c r=>by rw [ze (nown c b r)];exact r) fun c xs r=>by rw [ze (ntup c xs r)];exact r
      rcases hc with rfl | hc
      · exact hbe
      · rintro rfl
        rcases he with z | z
        · exact nown c b hc z
        · rw [hc] at z;cases z;exact hb rfl
end
structure Un (fs ex:List Addr)(H H':Hp)(h h':Heap):Prop where
 keep:∀ b o,h.get? b=some o->H b=none->b ∉ fs->b ∉ ex->h'.get? b=some o
 slot:∀ b o,h.get? b=some o->H b=none->b ∈ fs->b ∉ ex->∃ sl,h'.get? b=some { o with slots:=sl }
 free:∀ b o,h.get? b=some o->H b=none->b ∉ ex->H' b=none
 there:∀ b o,h.get? b=some o->b ∉ ex->∃ o',h'.get? b=some o'
 tups:∀ b xs,H b=some (.tup xs)->H' b=some (.tup xs)
 frzs:∀ b o u,H b=some (.frz o u)->H' b=some (.frz o u)
 tbls:∀ b ps,H b=some (.tbl ps)->∃ more,H' b=some (.tbl (ps ++ more))
section
variable {fs fs' ex ex':List Addr}{H H1 H2:Hp}{h h1 h2 h':Heap}{a x e:Addr}{o:HO}
theorem Un.any (u:Un fs ex H H1 h h1){b:Addr}{ob:Obj}(q:h.get? b=some ob)(n:H b=none)(hx:b ∉ ex):∃ sl,h1.get? b=some { ob with slots:=sl }:=by
 by_cases hb:b ∈ fs
 ·exact u.slot b ob q n hb hx
 ·exact ⟨ob.slots,u.keep b ob q n hb hx⟩
theorem Un.kept (k:∀ b u,h.get? b=some u->h'.get? b=some u):Un fs ex H H h h':=
 ⟨fun b ob q _ _ _=>k b ob q,fun b ob q _ _ _=>⟨ob.slots,k b ob q⟩,fun _ _ _ n _=>n,fun b ob q _=>⟨ob,k b ob q⟩,fun _ _ q=>q,fun _ _ _ q=>q,fun _ ps q=>⟨#[],by rw [q];simp⟩⟩
theorem Un.refl:Un fs ex H H h h:=Un.kept fun _ _ q=>q
theorem Un.laid (k:∀ b u,h.get? b=some u->h'.get? b=some u)(hp:h.objs.size<=a)(hn:H a=none):Un fs ex H (upd H a o) h h' where
 keep:=fun b u q _ _ _=>k b u q
 slot:=fun b u q _ _ _=>⟨u.slots,k b u q⟩
 free:=fun b u q n _=>by rw [ze (Nat.ne_of_lt (Nat.lt_of_lt_of_le (Heap.lt_size q) hp))];exact n
 there:=fun b u q _=>⟨u,k b u q⟩
 tups:=fun b xs q=>by rw [ze (zg q hn)];exact q
 frzs:=fun b u xs q=>by rw [ze (zg q hn)];exact q
 tbls:=fun b ps q=>⟨#[],by rw [ze (zg q hn),q];simp⟩
theorem Un.write (mu:Mut (H x))(he:e=x \/ H e=some (.own x))(k:∀ b u,b ≠ e->h.get? b=some u->h'.get? b=some u)(heo:∃ u,h'.get? e=some u):Un fs ex H (upd H x o) h h':=by
 have hx:∀ b,H b=none->b ≠ x:=fun b n z=>by subst z;rw [n] at mu;exact mu
 have hb:∀ b,H b=none->b ≠ e:=fun b n z=>by
  subst z
  rcases he with r | r
  ·exact hx b n r
  ·rw [n] at r;cases r
 have hm:∀ b u,H b=some u->¬ Mut (some u)->b ≠ x:=fun b u q nm z=>by subst z;rw [q] at mu;exact nm mu
 refine ⟨fun b u q n _ _=>k b u (hb b n) q,fun b u q n _ _=>⟨u.slots,k b u (hb b n) q⟩,fun b u q n _=>by rw [ze (hx b n)];exact n,fun b u q _=>?_,
  fun b xs q=>by rw [ze (hm b _ q fun z=>z)];exact q,fun b u xs q=>by rw [ze (hm b _ q fun z=>z)];exact q,fun b ps q=>⟨#[],by rw [ze (hm b _ q fun z=>z),q];simp⟩⟩
 by_cases hbe:b=e
 ·subst hbe;exact heo
 ·exact ⟨u,k b u hbe q⟩
end
noncomputable def trk (h:Heap)(H:Hp):List Addr:=(List.range h.objs.size).filter fun a=>(H a).isSome
noncomputable def ym (h:Heap)(H:Hp):Heap:=PySem.W.hideAll h (trk h H)
theorem ZU (h:Heap)(H:Hp):(ym h H).objs.size=h.objs.size:=PySem.W.hideAll_size _ _
theorem JB {h:Heap}{H:Hp}{b:Addr}{o:Obj}(e:h.get? b=some o)(n:H b=none):(ym h H).get? b=some o:=
 PySem.W.hideAll_get _ e fun hm=>by
  have q:(H b).isSome=true:=(List.mem_filter.mp hm).2
  rw [n] at q;simp at q
theorem Xe {h:Heap}{H:Hp}{b:Addr}{o:Obj}(e:(ym h H).get? b=some o):h.get? b=some o/\H b=none:=by
 have e':h.get? b=some o:=PySem.W.of_hideAll (trk h H) e
 refine ⟨e',?_⟩
 cases q:H b with
 | none=>rfl
 | some x=>
  have hm:b ∈ trk h H:=List.mem_filter.mpr ⟨List.mem_range.mpr (Heap.lt_size e'),by simp [q]⟩
  have z:(ym h H).get? b=none:=PySem.W.hideAll_none (trk h H) hm
  rw [z] at e;cases e
noncomputable def Xn (g h:Heap)(L:Addr):List (Addr × Obj):=(List.range h.objs.size).filterMap fun a=>if a=L \/ (g.get? a).isSome=true then none else (h.get? a).map fun o=>(a,o)
noncomputable def qb (g h:Heap)(L d:Addr):List (Addr × Obj):=(Xn g h L).filter fun p=>decide (p.1 ≠ d)
structure Mod (K:PySem.W.Frag)(mg:Str->Option Value)(base:Heap):Prop where
 kin:K.In base
 glob:base.Ns mainGlobals mg
 blt:∃ mb,base.Ns builtinsNs mb/\∀ x:Str,x ≠ "__name__"->mb x=bootBuiltins x
 nolimit:base.NoLimit
structure Cx where
 prog:Program
 w:World
 K:PySem.W.Frag
 mg:Str->Option Value
 base:Heap
 A:Around
 N:List Str
 s₀:Shared
 H₀:Hp
 env:Env
 outer:List Env
 stack:List Env
 ex:List Addr
 fn:Str->Bool
 calm:Bool
 pn:List (Addr × Obj)
 xe:Value->Shared->Prop
noncomputable def frs (l:List Env):List Addr:=l.filterMap (·.frame)
noncomputable abbrev Cx.fs (X:Cx):List Addr:=frs X.outer
noncomputable def Vis (sc:Scope)(x:Str):Prop:=sc.names.lookup x=some .local \/ sc.names.lookup x=some .cell \/ sc.names.lookup x=some .free
noncomputable def Loc (sc:Scope)(x:Str):Prop:=sc.names.lookup x=some .local \/ sc.names.lookup x=some .cell
noncomputable def Ae (env:Env)(h:Heap)(m:Str->Option Value)(x:Str)(u:Value):Prop:=
 (env.kindOf x=some .local/\m x=some u) \/ ((env.kindOf x=some .cell \/ env.kindOf x=some .free)/\∃ c,env.cells.lookup x=some c/\h.IsCell c (some u))
structure Cx.Ok (X:Cx):Prop where
 mod:Mod X.K X.mg X.base
 kind:X.env.scope.kind=.function
 glob:X.env.globals=mainGlobals
 blt:X.env.builtins=builtinsNs
 above:X.s₀.heap.objs.size<=X.env.locals
 inj:∀ x y c,X.env.cells.lookup x=some c->X.env.cells.lookup y=some c->x=y
 has:∀ x,(X.env.kindOf x=some .cell \/ X.env.kindOf x=some .free)->∃ c,X.env.cells.lookup x=some c
 cab:∀ x c,X.fn x=true->X.env.cells.lookup x=some c->X.s₀.heap.objs.size<=c
 hd:X.calm=true->X.A.handled=none
 frames:X.A.frames=some X.stack
 stk:X.stack=X.outer \/ (X.stack=X.env :: X.outer/\X.env.frame=some X.env.locals)
 exf:∀ b ∈ X.ex,b ≠ X.env.locals/\∀ x c,X.env.cells.lookup x=some c->c ≠ b
 bs:∀ b o,X.base.get? b=some o->X.s₀.heap.get? b=some o/\X.H₀ b=none
 bsz:X.base.objs.size<=X.s₀.heap.objs.size
 noex:∀ b o,X.base.get? b=some o->b ∉ X.ex
 exfs:∀ b ∈ X.ex,b ∉ X.fs
 funs:X.s₀.heap.FunFrames X.base X.outer
 frf:∀ b ∈ X.fs,X.H₀ b=none
structure Inv (X:Cx)(pins:List (Addr × Obj))(σ:List (Option V))(H:Hp)(s:Shared):Prop where
 ok:X.Ok
 os:s.os=X.s₀.os
 bare:AllBare s.gens
 base:Un X.fs X.ex X.H₀ H X.s₀.heap s.heap
 loc:∃ m,s.heap.Ns X.env.locals m/\∀ (i:Nat) (x:Str) (v:V),X.N[i]?=some x->σ[i]?=some (some v)->Vis X.env.scope x->∃ u,zm v u/\Ae X.env s.heap m x u
 cell:∀ x c,X.env.cells.lookup x=some c->∃ v,s.heap.IsCell c v
 free:H X.env.locals=none
 freeC:∀ x c,X.env.cells.lookup x=some c->H c=none
 pin:∀ p ∈ X.pn ++ pins,s.heap.get? p.1=some p.2/\H p.1=none/\p.1 ≠ X.env.locals/\p.1 ∉ X.fs/\∀ v,p.2.data ≠ .cell v
 hok:HOk X.prog X.w H s.heap
 len:σ.length=X.N.length
section
variable {X:Cx}{pins:List (Addr × Obj)}{σ:List (Option V)}{H H':Hp}{s:Shared}{h':Heap}
theorem Cx.Ok.nofr (ok:X.Ok){b:Addr}{o:Obj}(e:X.base.get? b=some o):b ∉ X.fs:=fun hb=>by
 have:=(ok.funs.mem hb).1
 rw [e] at this;cases this
theorem Inv.bs (I:Inv X pins σ H s):∀ b o,X.base.get? b=some o->s.heap.get? b=some o/\H b=none:=fun b o e=>
 ⟨I.base.keep b o (I.ok.bs b o e).1 (I.ok.bs b o e).2 (I.ok.nofr e) (I.ok.noex b o e),I.base.free b o (I.ok.bs b o e).1 (I.ok.bs b o e).2 (I.ok.noex b o e)⟩
theorem Inv.bk (I:Inv X pins σ H s):∀ b o,X.base.get? b=some o->s.heap.get? b=some o:=fun b o e=>(I.bs b o e).1
theorem Inv.mod (I:Inv X pins σ H s):Mod X.K X.mg X.base:=I.ok.mod
theorem Inv.kIn (I:Inv X pins σ H s):X.K.In s.heap:=I.ok.mod.kin.keeps I.bk
theorem Inv.lt (I:Inv X pins σ H s):X.env.locals<s.heap.objs.size:=let ⟨_,hn,_⟩:=I.loc;hn.lt
theorem Inv.sz (I:Inv X pins σ H s):X.s₀.heap.objs.size<=s.heap.objs.size:=Nat.le_trans I.ok.above (Nat.le_of_lt I.lt)
theorem Inv.nofs (I:Inv X pins σ H s){a:Addr}(h:s.heap.objs.size<=a):a ∉ X.fs:=fun hb=>by
 obtain ⟨_,o,ho,_⟩:=I.ok.funs.mem hb
 exact absurd (Nat.lt_of_lt_of_le (Heap.lt_size ho) (Nat.le_trans I.sz h)) (Nat.lt_irrefl _)
theorem Inv.cne (I:Inv X pins σ H s):∀ x c,X.env.cells.lookup x=some c->c ≠ X.env.locals:=fun x c e z=>by
 obtain ⟨v,o,ho,hd⟩:=I.cell x c e
 obtain ⟨m,⟨o',es,ep,ho',hd',_⟩,_⟩:=I.loc
 rw [z,ho'] at ho;cases ho;rw [hd'] at hd;cases hd
theorem Inv.funs (I:Inv X pins σ H s):s.heap.FunFrames X.base X.outer:=by
 have all:∀ (l:List Env),(∀ b ∈ frs l,b ∈ X.fs)->X.s₀.heap.FunFrames X.base l->s.heap.FunFrames X.base l:=by
  intro l
  induction l with
  | nil=>intro _ _;trivial
  | cons env r ih=>
   intro hs hl
   obtain ⟨hk,⟨L,o,hf,hn,ho,hd⟩,hr⟩:=hl
   have hL:L ∈ X.fs:=hs L (by unfold frs;rw [List.filterMap_cons,hf];exact List.mem_cons_self)
   obtain ⟨sl,e⟩:=I.base.slot L o ho (I.ok.frf L hL) hL fun z=>I.ok.exfs L z hL
   exact ⟨hk,⟨L,_,hf,hn,e,hd⟩,ih (fun b hb=>hs b (by unfold frs;rw [List.filterMap_cons,hf];exact List.mem_cons_of_mem _ hb)) hr⟩
 exact all X.outer (fun _ hb=>hb) I.ok.funs
theorem Inv.stack (I:Inv X pins σ H s):s.heap.FunFrames X.base X.stack:=by
 rcases I.ok.stk with e | ⟨e,hf⟩
 ·rw [e];exact I.funs
 ·rw [e]
  obtain ⟨m,hn,_⟩:=I.loc
  refine .cons (by rw [I.ok.kind];decide) hf hn ?_ I.funs
  exact Heap.get?_none_of_le (Nat.le_trans I.ok.bsz I.ok.above)
theorem Inv.stkSub (I:Inv X pins σ H s):∀ b ∈ frs X.stack,b ∈ X.env.locals :: X.fs:=fun b hb=>by
 rcases I.ok.stk with e | ⟨e,hf⟩
 ·rw [e] at hb;exact List.mem_cons_of_mem _ hb
 ·rw [e] at hb
  unfold frs at hb
  rw [List.filterMap_cons,hf] at hb
  exact hb
theorem Inv.stkFree (I:Inv X pins σ H s):∀ b ∈ frs X.stack,H b=none:=fun b hb=>by
 rcases List.mem_cons.mp (I.stkSub b hb) with e | hb
 ·rw [e];exact I.free
 ·obtain ⟨_,o,ho,_⟩:=I.ok.funs.mem hb
  exact I.base.free b o ho (I.ok.frf b hb) fun z=>I.ok.exfs b z hb
theorem Inv.step {g':Array GenState}{t':Nat}{d':Drawn}{ch:List Addr}(I:Inv X pins σ H s)
  (hch:∀ b ∈ ch,(b ∈ X.ex \/ X.s₀.heap.objs.size<=b)/\b ≠ X.env.locals/\(∀ x c,X.env.cells.lookup x=some c->c ≠ b)/\∀ p ∈ X.pn ++ pins,p.1 ≠ b)
  (keep:∀ b o,b ≠ X.env.locals->b ∉ X.fs->b ∉ ch->s.heap.get? b=some o->H b=none->h'.get? b=some o)
  (slot:∀ b o,b ≠ X.env.locals->b ∈ X.fs->b ∉ ch->s.heap.get? b=some o->H b=none->∃ sl,h'.get? b=some { o with slots:=sl }) (free:∀ b o,b ∉ ch->s.heap.get? b=some o->H b=none->H' b=none)
  (there:∀ b o,b ∉ ch->s.heap.get? b=some o->∃ o',h'.get? b=some o')
  (tups:∀ b xs,H b=some (.tup xs)->H' b=some (.tup xs)) (frzs:∀ b o u,H b=some (.frz o u)->H' b=some (.frz o u)) (tbls:∀ b ps,H b=some (.tbl ps)->∃ more,H' b=some (.tbl (ps ++ more)))
  (ns:∀ m,s.heap.Ns X.env.locals m->h'.Ns X.env.locals m) (hok:HOk X.prog X.w H' h') (hg:AllBare g') :
  Inv X pins σ H' { s with heap:=h',gens:=g',drawn:=d',toks:=t' }:=by
 have neL:∀ b o,X.s₀.heap.get? b=some o->b ≠ X.env.locals:=fun b o e=>Nat.ne_of_lt (Nat.lt_of_lt_of_le (Heap.lt_size e) I.ok.above)
 have neC:∀ b o,X.s₀.heap.get? b=some o->b ∉ X.ex->b ∉ ch:=fun b o e hx hb=>by
  rcases (hch b hb).1 with z | z
  ·exact hx z
  ·exact absurd (Nat.lt_of_lt_of_le (Heap.lt_size e) z) (Nat.lt_irrefl _)
 have cellK:∀ x c,X.env.cells.lookup x=some c->∀ v,s.heap.IsCell c v->h'.IsCell c v:=fun x c e v ⟨o,ho,hd⟩=>by
  have nch:c ∉ ch:=fun z=>(hch c z).2.2.1 x c e rfl
  by_cases hc:c ∈ X.fs
  ·obtain ⟨sl,q⟩:=slot c o (I.cne x c e) hc nch ho (I.freeC x c e)
   exact ⟨_,q,hd⟩
  ·exact ⟨o,keep c o (I.cne x c e) hc nch ho (I.freeC x c e),hd⟩
 refine ⟨I.ok,I.os,hg,⟨fun b o e n hb hx=>?_,fun b o e n hb hx=>?_,fun b o e n hx=>?_,fun b o e hx=>?_,fun b xs e=>tups b xs (I.base.tups b xs e),fun b o xs e=>frzs b o xs (I.base.frzs b o xs e),fun b ps e=>?_⟩,?_,fun x c e=>?_,?_,fun x c e=>?_,fun p hp=>?_,hok,I.len⟩
 ·exact keep b o (neL b o e) hb (neC b o e hx) (I.base.keep b o e n hb hx) (I.base.free b o e n hx)
 ·obtain ⟨sl,e1⟩:=I.base.slot b o e n hb hx
  obtain ⟨sl',e2⟩:=slot b _ (neL b o e) hb (neC b o e hx) e1 (I.base.free b o e n hx)
  exact ⟨sl',e2⟩
 ·obtain ⟨o',e1⟩:=I.base.there b o e hx
  exact free b o' (neC b o e hx) e1 (I.base.free b o e n hx)
 ·obtain ⟨o',e1⟩:=I.base.there b o e hx
  exact there b o' (neC b o e hx) e1
 ·obtain ⟨m1,e1⟩:=I.base.tbls b ps e
  obtain ⟨m2,e2⟩:=tbls b _ e1
  exact ⟨m1 ++ m2,by rw [e2,Array.append_assoc]⟩
 ·obtain ⟨m,hn,hl⟩:=I.loc
  refine ⟨m,ns m hn,fun i x v e1 e2 e3=>?_⟩
  obtain ⟨u,r,l⟩:=hl i x v e1 e2 e3
  refine ⟨u,r,?_⟩
  rcases l with l | ⟨k,c,e,z⟩
  ·exact .inl l
  ·exact .inr ⟨k,c,e,cellK x c e _ z⟩
 ·obtain ⟨v,z⟩:=I.cell x c e
  exact ⟨v,cellK x c e v z⟩
 ·obtain ⟨m,⟨o,_,_,ho,_⟩,_⟩:=I.loc
  exact free _ o (fun z=>(hch _ z).2.1 rfl) ho I.free
 ·obtain ⟨v,o,ho,hd⟩:=I.cell x c e
  exact free c o (fun z=>(hch c z).2.2.1 x c e rfl) ho (I.freeC x c e)
 ·obtain ⟨e,n,ne,nf,d⟩:=I.pin p hp
  have nch:p.1 ∉ ch:=fun z=>(hch p.1 z).2.2.2 p hp rfl
  exact ⟨keep p.1 p.2 ne nf nch e n,free p.1 p.2 nch e n,ne,nf,d⟩
theorem Inv.un {t':Nat}(I:Inv X pins σ H s)(u:Un X.fs [] H H' s.heap h')(hok:HOk X.prog X.w H' h'):Inv X pins σ H' { s with heap:=h',toks:=t' }:=by
 obtain ⟨m,⟨o,es,ep,ho,r⟩,_⟩:=id I.loc
 obtain ⟨sl,hL⟩:=u.any ho I.free (by simp)
 exact I.step (g':=s.gens) (d':=s.drawn) (ch:=[]) (fun _ z=>nomatch z) (fun b o _ hb _ e n=>u.keep b o e n hb (by simp)) (fun b o _ hb _ e n=>u.slot b o e n hb (by simp)) (fun b o _ e n=>u.free b o e n (by simp)) (fun b o _ e=>u.there b o e (by simp)) u.tups u.frzs u.tbls (fun m' hm=>by
  obtain ⟨o',es',ep',ho',r'⟩:=hm
  rw [ho] at ho';cases ho'
  exact ⟨_,es',ep',hL,r'⟩) hok I.bare
theorem Inv.call {g':Array GenState}{t':Nat}{d':Drawn}{ch:List Addr}(I:Inv X pins σ H s)(u:Un (frs X.stack) ch H H' s.heap h')(hok:HOk X.prog X.w H' h')(hg:AllBare g')
  (hch:∀ b ∈ ch,(b ∈ X.ex \/ X.s₀.heap.objs.size<=b)/\b ≠ X.env.locals/\(∀ x c,X.env.cells.lookup x=some c->c ≠ b)/\∀ p ∈ X.pn ++ pins,p.1 ≠ b) :
  Inv X pins σ H' { s with heap:=h',gens:=g',drawn:=d',toks:=t' }:=by
 obtain ⟨m,⟨o,es,ep,ho,r⟩,_⟩:=id I.loc
 obtain ⟨sl,hL⟩:=u.any ho I.free fun z=>(hch _ z).2.1 rfl
 exact I.step (ch:=ch) hch (fun b o hL hb hc e n=>u.keep b o e n (fun z=>(List.mem_cons.mp (I.stkSub b z)).elim hL hb) hc) (fun b o _ _ hc e n=>u.any e n hc) (fun b o hc e n=>u.free b o e n hc) (fun b o hc e=>u.there b o e hc) u.tups u.frzs u.tbls (fun m' hm=>by
  obtain ⟨o',es',ep',ho',r'⟩:=hm
  rw [ho] at ho';cases ho'
  exact ⟨_,es',ep',hL,r'⟩) hok hg
theorem Inv.turned {t':Nat}{it:Addr}(I:Inv X pins σ H s)(k:∀ b o,b ≠ it->s.heap.get? b=some o->h'.get? b=some o)(hn:H it=none)(hL:it ≠ X.env.locals)
  (h1:it ∈ X.ex \/ X.s₀.heap.objs.size<=it) (h2:∀ x c,X.env.cells.lookup x=some c->c ≠ it) (h3:∀ p ∈ X.pn ++ pins,p.1 ≠ it):Inv X pins σ H { s with heap:=h',toks:=t' }:=by
 have nit:∀ b u,H b=some u->b ≠ it:=fun b u e z=>by rw [z,hn] at e;cases e
 refine I.step (g':=s.gens) (d':=s.drawn) (ch:=[it]) (fun b hb=>?_) (fun b o _ _ hc e _=>k b o (fun z=>hc (by simp [z])) e) (fun b o _ _ hc e _=>⟨o.slots,k b o (fun z=>hc (by simp [z])) e⟩) (fun _ _ _ _ n=>n)
  (fun b o hc e=>⟨o,k b o (fun z=>hc (by simp [z])) e⟩) (fun _ _ e=>e) (fun _ _ _ e=>e) (fun b ps e=>⟨#[],by rw [e];simp⟩) (fun m hm=>?_) (fun b u e=>?_) I.bare
 ·have e:b=it:=by simpa using hb
  subst e
  exact ⟨h1,hL,h2,h3⟩
 ·obtain ⟨o,es,ep,ho,r⟩:=hm
  exact ⟨o,es,ep,k _ o (Ne.symm hL) ho,r⟩
 ·refine (I.hok b u e).stay (fun c v hc q=>k c v ?_ q) (fun _ q=>q) fun _ _ q=>q
  rcases hc with z | z
  ·rw [z];exact nit b u e
  ·exact nit c _ z
theorem Inv.tok (I:Inv X pins σ H s)(t:Nat):Inv X pins σ H { s with toks:=t }:=I.un (h':=s.heap) (t':=t) Un.refl I.hok
theorem Inv.kept {t':Nat}(I:Inv X pins σ H s)(k:∀ b u,s.heap.get? b=some u->h'.get? b=some u):Inv X pins σ H { s with heap:=h',toks:=t' }:=I.un (Un.kept k) (I.hok.kept k)
theorem Inv.laid {a:Addr}{o:HO}{t':Nat}(I:Inv X pins σ H s)(k:∀ b u,s.heap.get? b=some u->h'.get? b=some u)(hp:s.heap.objs.size<=a)(new:zx X.prog X.w (upd H a o) h' a o) :
  Inv X pins σ (upd H a o) { s with heap:=h',toks:=t' }:=I.un (Un.laid k hp (I.hok.fresh hp)) (I.hok.laid k hp new)
theorem Inv.write {x e:Addr}{o:HO}{t':Nat}(I:Inv X pins σ H s)(mu:Mut (H x))(he:e=x \/ H e=some (.own x))(k:∀ b u,b ≠ e->s.heap.get? b=some u->h'.get? b=some u)(heo:∃ u,h'.get? e=some u)
  (new:zx X.prog X.w (upd H x o) h' x o):Inv X pins σ (upd H x o) { s with heap:=h',toks:=t' }:=I.un (Un.write mu he k heo) (I.hok.write mu he k heo new)
theorem Inv.pins_of {pins':List (Addr × Obj)}(I:Inv X pins σ H s)(h:∀ p ∈ pins',s.heap.get? p.1=some p.2/\H p.1=none/\p.1 ≠ X.env.locals/\p.1 ∉ X.fs/\∀ v,p.2.data ≠ .cell v):Inv X pins' σ H s:=
 ⟨I.ok,I.os,I.bare,I.base,I.loc,I.cell,I.free,I.freeC,fun p hp=>(List.mem_append.mp hp).elim (fun z=>I.pin p (List.mem_append_left _ z)) (h p),I.hok,I.len⟩
theorem vp {N:List Str}(hN:N.Nodup){i j:Nat}{x:Str}(a:N[i]?=some x)(b:N[j]?=some x):i=j:=by
 obtain ⟨h1,e1⟩:=List.getElem?_eq_some_iff.mp a
 obtain ⟨h2,e2⟩:=List.getElem?_eq_some_iff.mp b
 exact (List.getElem_inj hN).mp (e1.trans e2.symm)
theorem xK {M : Model}{A : Around}{E : Value -> Shared -> Prop}{i : Nat}{x : Str}{v : V}{u : Value}{Q : Unit -> Shared -> Prop}(I : Inv X pins σ H s)(hN : X.N.Nodup)(hi : X.N[i]? = some x)(hx : Loc X.env.scope x)(r : zm v u)
    (h:∀ s',Inv X pins (σ.set i (some v)) H s'->(∃ a,Heap.SameBut a s.heap s'.heap/\(a=X.env.locals \/ X.env.cells.lookup x=some a))->Q () s') (hf:X.fn x=true \/ X.env.scope.names.lookup x=some .local:=by first | exact .inl rfl | exact .inr rfl | assumption):wpAny M A (storeName X.env x u) Q E s:=by
  obtain ⟨m,hn,hl⟩:=id I.loc
  have hcls:(X.env.scope.kind == .class || (X.env.scope.kind == .module && X.env.locals != X.env.globals))=false:=by rw [I.ok.kind];rfl
  have hiσ:i<σ.length:=by rw [I.len];exact (List.getElem?_eq_some_iff.mp hi).1
  have cne:=I.cne
  have tracked:∀ {a:Addr} {h':Heap},(∃ o,s.heap.get? a=some o/\H a=none)->Heap.SameBut a s.heap h'->HOk X.prog X.w H h':=fun {a h'} ha hs b ob e=>by
    obtain ⟨_,_,hfree⟩:=ha
    refine (I.hok b ob e).stay (fun c w' hc q=>(hs.2 c ?_).trans q) (fun _ q=>q) fun _ _ q=>q
    rintro rfl
    rcases hc with rfl | hc
    · rw [hfree] at e;cases e
    · rw [hfree] at hc;cases hc
  rcases hx with hk | hk
  · refine wpAny_storeName_local hk hn (fun h' hn' hs=>?_) hcls
    obtain ⟨oL,_,_,hoL,_⟩:=id hn
    refine h _ ⟨I.ok,I.os,I.bare,⟨fun b o e n hb hx=>?_,fun b o e n hb hx=>?_,I.base.free,fun b o e hx=>?_,I.base.tups,I.base.frzs,I.base.tbls⟩,⟨_,hn',fun j y v' e1 e2 e3=>?_⟩,fun y c e=>?_,I.free,I.freeC,fun p hp=>?_,tracked ⟨oL,hoL,I.free⟩ hs,by simpa using I.len⟩ ⟨_,hs,.inl rfl⟩
    · exact (hs.2 b (Nat.ne_of_lt (Nat.lt_of_lt_of_le (Heap.lt_size e) I.ok.above))).trans (I.base.keep b o e n hb hx)
    · obtain ⟨sl,e1⟩:=I.base.slot b o e n hb hx
      exact ⟨sl,(hs.2 b (Nat.ne_of_lt (Nat.lt_of_lt_of_le (Heap.lt_size e) I.ok.above))).trans e1⟩
    · obtain ⟨o',e1⟩:=I.base.there b o e hx
      exact ⟨o',(hs.2 b (Nat.ne_of_lt (Nat.lt_of_lt_of_le (Heap.lt_size e) I.ok.above))).trans e1⟩
    · by_cases hj:j=i
      · subst hj
        rw [hi] at e1;cases e1
        rw [List.getElem?_set_self hiσ] at e2
        cases e2
        exact ⟨u,r,.inl ⟨hk,by simp⟩⟩
      · rw [List.getElem?_set_ne (Ne.symm hj)] at e2
        obtain ⟨u',r',q⟩:=hl j y v' e1 e2 e3
        refine ⟨u',r',?_⟩
        rcases q with ⟨k,e⟩ | ⟨k,c,e,z⟩
        · refine .inl ⟨k,?_⟩
          have:y ≠ x:=fun e=>hj (vp hN e1 (e ▸ hi))
          simp [this,e]
        · exact .inr ⟨k,c,e,z.sameBut hs (cne y c e)⟩
    · obtain ⟨w',z⟩:=I.cell y c e
      exact ⟨w',z.sameBut hs (cne y c e)⟩
    · obtain ⟨e,n,ne,nf,d⟩:=I.pin p hp
      exact ⟨(hs.2 p.1 ne).trans e,n,ne,nf,d⟩
  · have hfn : X.fn x = true := by
      rcases hf with z | z
      · exact z
      · rw [z] at hk;cases hk
    obtain ⟨c,hc⟩:=I.ok.has x (.inl hk)
    obtain ⟨w',z⟩:=I.cell x c hc
    refine wpAny_storeName_cell I.ok.kind hk hc z (fun h' hc' hs=>?_)
    obtain ⟨oc,hoc,hocd⟩:=id z
    refine h { s with heap:=h' } ⟨I.ok,I.os,I.bare,⟨fun b o e n hb hx=>?_,fun b o e n hb hx=>?_,I.base.free,fun b o e hx=>?_,I.base.tups,I.base.frzs,I.base.tbls⟩,⟨m,hn.sameBut hs (Ne.symm (cne x c hc)),fun j y v' e1 e2 e3=>?_⟩,fun y c' e=>?_,I.free,I.freeC,fun p hp=>?_,tracked ⟨oc,hoc,I.freeC x c hc⟩ hs,by simpa using I.len⟩ ⟨c,hs,.inr hc⟩
    · exact (hs.2 b (Nat.ne_of_lt (Nat.lt_of_lt_of_le (Heap.lt_size e) (I.ok.cab x c hfn hc)))).trans (I.base.keep b o e n hb hx)
    · obtain ⟨sl,e1⟩:=I.base.slot b o e n hb hx
      exact ⟨sl,(hs.2 b (Nat.ne_of_lt (Nat.lt_of_lt_of_le (Heap.lt_size e) (I.ok.cab x c hfn hc)))).trans e1⟩
    · obtain ⟨o',e1⟩:=I.base.there b o e hx
      exact ⟨o',(hs.2 b (Nat.ne_of_lt (Nat.lt_of_lt_of_le (Heap.lt_size e) (I.ok.cab x c hfn hc)))).trans e1⟩
    · by_cases hj:j=i
      · subst hj
        rw [hi] at e1;cases e1
        rw [List.getElem?_set_self hiσ] at e2
        cases e2
        exact ⟨u,r,.inr ⟨.inl hk,c,hc,hc'⟩⟩
      · rw [List.getElem?_set_ne (Ne.symm hj)] at e2
        obtain ⟨u',r',q⟩:=hl j y v' e1 e2 e3
        refine ⟨u',r',?_⟩
        rcases q with q | ⟨k,c',e,z'⟩
        · exact .inl q
        · refine .inr ⟨k,c',e,z'.sameBut hs ?_⟩
          rintro rfl
          exact hj (vp hN e1 (I.ok.inj _ _ _ e hc ▸ hi))
    · by_cases hcc:c'=c
      · subst hcc;exact ⟨_,hc'⟩
      · obtain ⟨w2,z2⟩:=I.cell y c' e
        exact ⟨w2,z2.sameBut hs hcc⟩
    · obtain ⟨e,n,ne,nf,d⟩:=I.pin p hp
      refine ⟨(hs.2 p.1 ?_).trans e,n,ne,nf,d⟩
      intro q
      rw [q,hoc] at e
      have q':oc=p.2:=Option.some.inj e
      exact d w' (by rw [<- q'];exact hocd)
theorem yP {M:Model}{A:Around}{E:Value->Shared->Prop}{i:Nat}{x:Str}{v:V}{u:Value}{Q:Unit->Shared->Prop}(I:Inv X pins σ H s)(hN:X.N.Nodup)(hi:X.N[i]?=some x)(hx:Loc X.env.scope x)(r:zm v u)
  (h:∀ s',Inv X pins (σ.set i (some v)) H s'->Q () s') (hf:X.fn x=true \/ X.env.scope.names.lookup x=some .local:=by first | exact .inl rfl | exact .inr rfl | assumption):wpAny M A (storeName X.env x u) Q E s:=
 xK I hN hi hx r (fun s' I' _=>h s' I') hf
theorem Inv.call' {s':Shared}{ch:List Addr}(I:Inv X pins σ H s)(ho:s'.os=s.os)(u:Un (frs X.stack) ch H H' s.heap s'.heap)(hok:HOk X.prog X.w H' s'.heap)(hg:AllBare s'.gens)
  (hch:∀ b ∈ ch,(b ∈ X.ex \/ X.s₀.heap.objs.size<=b)/\b ≠ X.env.locals/\(∀ x c,X.env.cells.lookup x=some c->c ≠ b)/\∀ p ∈ X.pn ++ pins,p.1 ≠ b):Inv X pins σ H' s':=by
 obtain ⟨h',g',d',t',o'⟩:=s'
 have e:o'=s.os:=ho
 subst e
 exact I.call (g':=g') (t':=t') (d':=d') u hok hg hch
end
noncomputable abbrev XK:=Value->Option Addr->Hp->Prop
noncomputable abbrev St:=List (Option V)
noncomputable abbrev VK:=V->Hp->Prop
noncomputable abbrev TE:=St->Hp->VK->Prop
noncomputable abbrev TT:=St->Hp->(Bool->Hp->Prop)->Prop
noncomputable abbrev TA:=St->Hp->(List V->Hp->Prop)->Prop
structure kd where
 nx:St->Hp->Prop
 rt:VK
 bk:St->Hp->Prop:=fun _ _=>False
 ct:St->Hp->Prop:=fun _ _=>False
noncomputable abbrev TS:=kd->St->Hp->Prop
noncomputable def EP (X:Cx)(pins:List (Addr × Obj))(σ:St)(Q:VK)(u:Value)(s':Shared):Prop:=∃ v H',Inv X pins σ H' s'/\zm v u/\Q v H'
noncomputable def TP (X:Cx)(pins:List (Addr × Obj))(σ:St)(Q:Bool->Hp->Prop)(b:Bool)(s':Shared):Prop:=∃ H',Inv X pins σ H' s'/\Q b H'
noncomputable def AP (X:Cx)(pins:List (Addr × Obj))(σ:St)(Q:List V->Hp->Prop)(us:List Value)(s':Shared):Prop:=∃ vs H',Inv X pins σ H' s'/\zk vs us/\Q vs H'
noncomputable def SP (X:Cx)(pins:List (Addr × Obj))(D:kd)(f:Flow)(s':Shared):Prop:=
 match f with
 | .next=>∃ σ' H',Inv X pins σ' H' s'/\D.nx σ' H'
 | .brk=>∃ σ' H',Inv X pins σ' H' s'/\D.bk σ' H'
 | .cont=>∃ σ' H',Inv X pins σ' H' s'/\D.ct σ' H'
 | .ret u=>∃ v σ' H',Inv X pins σ' H' s'/\zm v u/\D.rt v H'
noncomputable def PE (X:Cx)(e:Expr)(t:TE):Prop:=
 ∀ (pins:List (Addr × Obj)) (s:Shared) (σ:St) (H:Hp) (Q:VK),Inv X pins σ H s->t σ H Q->wpAny (model X.prog X.w) X.A (eval e X.env) (EP X pins σ Q) X.xe s
noncomputable def PT (X:Cx)(e:Expr)(t:TT):Prop:=
 ∀ (pins:List (Addr × Obj)) (s:Shared) (σ:St) (H:Hp) (Q:Bool->Hp->Prop),Inv X pins σ H s->t σ H Q->wpAny (model X.prog X.w) X.A (isTrue e X.env (eval e X.env)) (TP X pins σ Q) X.xe s
noncomputable def PW (X:Cx)(e:Expr)(t:TT):Prop:=
 ∀ (whole:Sem Value) (pins:List (Addr × Obj)) (s:Shared) (σ:St) (H:Hp) (Q:Bool->Hp->Prop),Inv X pins σ H s->t σ H Q->wpAny (model X.prog X.w) X.A (isTrue e X.env whole) (TP X pins σ Q) X.xe s
theorem PW.pt {X:Cx}{e:Expr}{t:TT}(h:PW X e t):PT X e t:=h _
noncomputable def PA (X:Cx)(es:List Expr)(t:TA):Prop:=
 ∀ (pos:Pos) (pins:List (Addr × Obj)) (s:Shared) (σ:St) (H:Hp) (Q:List V->Hp->Prop),Inv X pins σ H s->t σ H Q->wpAny (model X.prog X.w) X.A (spliced (backTo pos (starEach es X.env))) (AP X pins σ Q) X.xe s
noncomputable def PS (X:Cx)(st:Stmt)(t:TS):Prop:=
 ∀ (pins:List (Addr × Obj)) (s:Shared) (σ:St) (H:Hp) (D:kd),Inv X pins σ H s->t D σ H->wpAny (model X.prog X.w) X.A (exec st X.env) (SP X pins D) X.xe s
noncomputable def PSs (X:Cx)(st:List Stmt)(t:TS):Prop:=
 ∀ (pins:List (Addr × Obj)) (s:Shared) (σ:St) (H:Hp) (D:kd),Inv X pins σ H s->t D σ H->wpAny (model X.prog X.w) X.A (execs st X.env) (SP X pins D) X.xe s
theorem thn {α:Type}{t:Sem α}{Q Q':α->Shared->Prop}{M:Model}{A:Around}{E:Value->Shared->Prop}{s:Shared}(h:wpAny M A t Q E s)(hQ:∀ a s,Q a s->Q' a s):wpAny M A t Q' E s:=wpAny_mono h hQ fun _ _ x=>x
section
variable {X:Cx}
theorem bin {a b:Expr}{ta tb:TE}(ha:PE X a ta)(hb:PE X b tb){pins:List (Addr × Obj)}{s:Shared}{σ:St}{H:Hp}{R:V->V->Hp->Prop}(I:Inv X pins σ H s)(h:ta σ H fun x H1=>tb σ H1 fun y H2=>R x y H2)
  {α:Type} {Q:α->Shared->Prop} {f:Value->Value->Sem α}
  (hf:∀ v u s2 x y H2,Inv X pins σ H2 s2->zm x v->zm y u->R x y H2->wpAny (model X.prog X.w) X.A (f v u) Q X.xe s2) :
  wpAny (model X.prog X.w) X.A (eval a X.env) (fun v s₁=>wpAny (model X.prog X.w) X.A (eval b X.env) (fun u s₂=>wpAny (model X.prog X.w) X.A (f v u) Q X.xe s₂) X.xe s₁) X.xe s:=by
 refine thn (ha pins s σ H _ I h) fun v s1 ⟨x,H1,I1,r1,q1⟩=>?_
 refine thn (hb pins s1 σ H1 _ I1 q1) fun u s2 ⟨y,H2,I2,r2,q2⟩=>?_
 exact hf v u s2 x y H2 I2 r1 r2 q2
noncomputable def Kr (i:Nat):TE:=fun σ H Q=>∃ v,σ[i]?=some (some v)/\Q v H
noncomputable def tC (v:V):TE:=fun _ H Q=>Q v H
theorem Yo {i:Nat}{x:Str}{pos:Pos}(hN:X.N[i]?=some x)(hv:Vis X.env.scope x)(hd:(x == ("__debug__":Str))=false:=by decide)(hcd:(x == ("__classdict__":Str))=false:=by decide):PE X (.Name x pos) (Kr i):=by
 intro pins s σ H Q I h
 obtain ⟨v,e,h⟩:=h
 obtain ⟨m,hn,hl⟩:=I.loc
 obtain ⟨u,r,l⟩:=hl i x v hN e hv
 have fin:EP X pins σ Q u s:=⟨v,H,I,r,h⟩
 rcases l with ⟨hk,hm⟩ | ⟨hk,c,hc,hcell⟩
 ·exact wpAny_Name (wpAny_loadName_local I.ok.kind hk hn hm fin) hd
 ·rcases hk with hk | hk
  ·exact wpAny_Name (wpAny_loadName_cell I.ok.kind hk hc hcell fin) hd
  ·exact wpAny_Name (wpAny_loadName_free I.ok.kind hk hc hcell fin hcd) hd
theorem zc {i j pos}:PE X (.Constant (.int i) j pos) (tC (.int i)):=fun _ _ _ H _ I h=>wpAny_Constant_int ⟨.int i,H,I.tok _,⟨_,rfl⟩,h⟩
theorem yD {b j pos}:PE X (.Constant (.bool b) j pos) (tC (.bl b)):=fun _ _ _ H _ I h=>Constant_bool ⟨.bl b,H,I,rfl,h⟩
theorem Y6 {j pos}:PE X (.Constant .none j pos) (tC .non):=fun _ _ _ H _ I h=>Constant_none ⟨.non,H,I,rfl,h⟩
noncomputable def Gl (X:Cx)(x:Str):Prop:=X.env.kindOf x=some .globalImplicit
theorem Xy {E:Value->Shared->Prop}{pins:List (Addr × Obj)}{s:Shared}{σ:St}{H:Hp}{x:Str}{u:Value}{pos:Pos}{Q:Value->Shared->Prop}(I:Inv X pins σ H s)(hg:Gl X x)(hm:X.mg x=some u)(h:Q u s)
  (hd:(x == ("__debug__":Str))=false:=by decide):wpAny (model X.prog X.w) X.A (eval (.Name x pos) X.env) Q E s:=
 Calls.Name_function_global I.ok.kind hg (Calls.loadGlobal_global (by rw [I.ok.glob];exact I.mod.glob.keeps I.bk) hm h) hd
theorem qN {E:Value->Shared->Prop}{pins:List (Addr × Obj)}{s:Shared}{σ:St}{H:Hp}{x:Str}{u:Value}{pos:Pos}{Q:Value->Shared->Prop}(I:Inv X pins σ H s)(hg:Gl X x)(hm:X.mg x=none)(hv:bootBuiltins x=some u)(h:Q u s)
  (hn:x ≠ "__name__":=by decide) (hd:(x == ("__debug__":Str))=false:=by decide):wpAny (model X.prog X.w) X.A (eval (.Name x pos) X.env) Q E s:=by
 obtain ⟨mb,h1,h2⟩:=I.mod.blt
 exact Calls.Name_function_global I.ok.kind hg (Calls.loadGlobal_builtin (by rw [I.ok.glob];exact I.mod.glob.keeps I.bk) hm (by rw [I.ok.blt];exact h1.keeps I.bk) ((h2 x hn).trans hv) h) hd
theorem zP {x:Str}{v:V}{u:Value}{pos:Pos}(hg:Gl X x)(hm:X.mg x=none)(hv:bootBuiltins x=some u)(r:zm v u)(hn:x ≠ "__name__":=by decide)(hd:(x == ("__debug__":Str))=false:=by decide):PE X (.Name x pos) (tC v):=
 fun _ _ _ H _ I h=>qN I hg hm hv ⟨v,H,I,r,h⟩ hn hd
variable {a b:Expr}{ta tb:TE}{pos:Pos}
noncomputable def PC (X:Cx)(op:CmpOp)(a b:Expr)(t:TE):Prop:=
 ∀ (pins:List (Addr × Obj)) (s:Shared) (σ:St) (H:Hp) (Q:VK),Inv X pins σ H s->t σ H Q ->
  wpAny (model X.prog X.w) X.A (eval a X.env) (fun v s₁=>wpAny (model X.prog X.w) X.A (eval b X.env) (fun u s₂=>wpAny (model X.prog X.w) X.A (compareOp op v u) (EP X pins σ Q) X.xe s₂) X.xe s₁) X.xe s
theorem QL (b:Expr){op:CmpOp}(h:op ≠ .In)(h2:op ≠ .NotIn):behindInMarks op b=false:=by
 have e1:(op == CmpOp.In)=false:=by cases op <;> first | rfl | exact absurd rfl h
 have e2:(op == CmpOp.NotIn)=false:=by cases op <;> first | rfl | exact absurd rfl h2
 cases b <;> simp [behindInMarks,e1,e2]
noncomputable def tB (t:TE):TT:=fun σ H Q=>t σ H fun x H1=>∃ c,x=.bl c/\Q c H1
theorem Aa {op:CmpOp}{t:TE}(h:PC X op a b t)(h1:behindInMarks op b=false:=by first | exact QL _ (by decide) (by decide) | rfl):PT X (.Compare a [op] [b] pos) (tB t):=by
 intro pins s σ H Q I hw
 refine wpAny_isTrue_Compare1 (thn (h pins s σ H _ I hw) fun v s1 h1=>thn h1 fun u s2 h2=>thn h2 fun c s3 ⟨x,H1,I1,r1,q1⟩=>?_) h1
 obtain ⟨d,rfl,q⟩:=q1
 cases r1
 exact wpAny_truthy_bool ⟨H1,I1,q⟩
theorem ky {e:Expr}{t:TE}(h:PE X e t)(he:∀ whole,isTrue e X.env whole=(do let v <- whole;standAt e.pos;holding [v] (truthy v)):=by intro _;rfl):PT X e (tB t):=by
 intro pins s σ H Q I hw
 refine isTrue_plain (thn (h pins s σ H _ I hw) fun v s1 ⟨x,H1,I1,r1,q1⟩=>?_) (he _)
 obtain ⟨d,rfl,q⟩:=q1
 cases r1
 exact wpAny_truthy_bool ⟨H1,I1,q⟩
variable {tA tB':TT}{qb:List Expr}
noncomputable def tOr (t u:TT):TT:=fun σ H Q=>t σ H fun c H1=>if c=true then Q true H1 else u σ H1 Q
noncomputable def VP (t:TT):TT:=fun σ H Q=>t σ H fun c H1=>Q (!c) H1
theorem v5 (ha:PT X a tA):PW X (.BoolOp .Or [a] pos) tA:=by
 intro wh pins s σ H Q I h
 refine isTrue_or (thn (ha pins s σ H Q I h) fun c s1 e=>?_)
 cases c with
 | false=>exact isTrue_or_nil e
 | true=>exact e
theorem Qi (ha:PT X a tA)(hb:PW X (.BoolOp .Or (b :: qb) pos) tB'):PW X (.BoolOp .Or (a :: b :: qb) pos) (tOr tA tB'):=by
 intro wh pins s σ H Q I h
 refine isTrue_or (thn (ha pins s σ H _ I h) fun c s1 ⟨H1,I1,q1⟩=>?_)
 cases c with
 | true=>exact ⟨H1,I1,q1⟩
 | false=>exact hb wh pins s1 σ H1 Q I1 q1
theorem wb (ha:PT X a tA):PT X (.UnaryOp .Not a pos) (VP tA):=by
 intro pins s σ H Q I h
 exact isTrue_not (ha pins s σ H (fun c H1=>Q (!c) H1) I h)
noncomputable def Qe (ta tb:TE):TE:=fun σ H Q=>ta σ H fun x H1=>∃ c,x=.bl c/\if c=true then tb σ H1 Q else Q (.bl false) H1
theorem vO {op}{t:TE}(h:PE X a t):PE X (.BoolOp op [a] pos) t:=fun pins s σ H Q I hw=>BoolOp_one (h pins s σ H Q I hw)
theorem yn (ha:PE X a ta)(hb:PE X (.BoolOp .And (b :: qb) pos) tb):PE X (.BoolOp .And (a :: b :: qb) pos) (Qe ta tb):=by
 intro pins s σ H Q I h
 refine BoolOp_and (thn (ha pins s σ H _ I h) fun v s1 ⟨x,H1,I1,r1,q1⟩=>?_)
 obtain ⟨c,rfl,q1⟩:=q1
 cases r1
 refine wpAny_truthy_bool ?_
 cases c with
 | true=>exact hb pins s1 σ H1 Q I1 q1
 | false=>exact ⟨.bl false,H1,I1,rfl,q1⟩
end
noncomputable def SqL (K:PySem.W.Frag)(H:Hp)(a:Addr)(xs:List V):Prop:=
 Rd H a (.lst xs) \/
  ∃ (o:Obj) (its:Array Value) (n:Nat),K.lookup a=some o/\o.cls=.type "list"/\o.dict=none/\o.data=.seq its n/\its.size<=sizeLine/\zk xs its.toList
noncomputable def SqT (K:PySem.W.Frag)(H:Hp)(a:Addr)(xs:List V):Prop:=
 Rd H a (.tup xs) \/
  ∃ (o:Obj) (its:Array Value) (n:Nat),K.lookup a=some o/\o.cls=.type "tuple"/\o.data=.seq its n/\its.size<=sizeLine/\zk xs its.toList
noncomputable def W7:Value->Option V
 | .none=>some .non
 | .bool b=>some (.bl b)
 | .int i _=>some (.int i)
 | .str x _=>some (.str x)
 | .bytes b _=>some (.byt b)
 | .float b _=>some (.flt b)
 | .ref a=>some (.ref a)
 | .type n=>some (.ty n)
 | _=>none
theorem zm.abs {x:V}{u:Value}(r:zm x u):W7 u=some x:=by
 cases x with
 | non=>cases r;rfl
 | bl _=>cases r;rfl
 | int _=>obtain ⟨t,rfl⟩:=r;rfl
 | str _=>obtain ⟨t,rfl⟩:=r;rfl
 | byt _=>obtain ⟨t,rfl⟩:=r;rfl
 | flt _=>obtain ⟨t,rfl⟩:=r;rfl
 | ref _=>cases r;rfl
 | ty _=>cases r;rfl
theorem zm.inj {x y:V}{u:Value}(r:zm x u)(q:zm y u):x=y:=Option.some.inj (r.abs.symm.trans q.abs)
theorem zk.inj:∀ {xs ys:List V} {us:List Value},zk xs us->zk ys us->xs=ys
 | _,_,_,.nil,.nil=>rfl
 | _,_,_,.cons r t,.cons r' t'=>by rw [r.inj r',zk.inj t t']
section
variable {X:Cx}{pins:List (Addr × Obj)}{σ:St}{H:Hp}{s:Shared}{a:Addr}{xs ys:List V}
theorem SqL.of {K:PySem.W.Frag}(h:H a=some (.lst xs)):SqL K H a xs:=.inl (.inl h)
theorem SqT.of {K:PySem.W.Frag}(h:H a=some (.tup xs)):SqT K H a xs:=.inl (.inl h)
theorem Inv.list (I:Inv X pins σ H s)(h:SqL X.K H a xs):∃ its:List Value,zk xs its/\PlainL s.heap a its.toArray/\xs.length<=sizeLine:=by
 rcases h with h | ⟨o,its,n,hk,hc,hd,hs,hz,r⟩
 ·obtain ⟨z,its,n,r,e⟩:=h.ok I.hok
  exact ⟨its,r,⟨_,n,e,rfl,rfl,rfl⟩,z⟩
 ·refine ⟨its.toList,r,⟨o,n,I.kIn a o hk,hc,hd,by simpa using hs⟩,?_⟩
  have e:=r.length
  simp only [Array.length_toList] at e
  omega
theorem Inv.tuple (I:Inv X pins σ H s)(h:SqT X.K H a xs):∃ its:List Value,zk xs its/\IsTup s.heap a its.toArray/\xs.length<=sizeLine:=by
 rcases h with h | ⟨o,its,n,hk,hc,hs,hz,r⟩
 ·obtain ⟨z,its,r,p⟩:=h.ok I.hok
  exact ⟨its,r,p.is,z⟩
 ·refine ⟨its.toList,r,⟨o,I.kIn a o hk,hc,n,by simpa using hs⟩,?_⟩
  have e:=r.length
  simp only [Array.length_toList] at e
  omega
theorem Inv.list_inj (I:Inv X pins σ H s)(h:SqL X.K H a xs)(h':SqL X.K H a ys):xs=ys:=by
 obtain ⟨its,r,⟨o,n,e,_,_,d⟩,_⟩:=I.list h
 obtain ⟨its',r',⟨o',n',e',_,_,d'⟩,_⟩:=I.list h'
 rw [e] at e';cases e'
 rw [d] at d'
 injection d' with d1 _
 have:its=its':=by simpa using congrArg Array.toList d1
 subst this
 exact r.inj r'
theorem Inv.tuple_inj (I:Inv X pins σ H s)(h:SqT X.K H a xs)(h':SqT X.K H a ys):xs=ys:=by
 obtain ⟨its,r,⟨o,e,_,n,d⟩,_⟩:=I.tuple h
 obtain ⟨its',r',⟨o',e',_,n',d'⟩,_⟩:=I.tuple h'
 rw [e] at e';cases e'
 rw [d] at d'
 injection d' with d1 _
 have:its=its':=by simpa using congrArg Array.toList d1
 subst this
 exact r.inj r'
end
noncomputable abbrev Cx.wish (X:Cx)(E:Value->Shared->Prop):Cx:={ X with xe:=E }
noncomputable abbrev Cx.nox (X:Cx):Cx:=X.wish fun _ _=>False
theorem Cx.Ok.wish {X:Cx}(ok:X.Ok)(E:Value->Shared->Prop):(X.wish E).Ok:=
 ⟨ok.mod,ok.kind,ok.glob,ok.blt,ok.above,ok.inj,ok.has,ok.cab,ok.hd,ok.frames,ok.stk,ok.exf,ok.bs,ok.bsz,ok.noex,ok.exfs,ok.funs,ok.frf⟩
theorem Cx.Ok.unwish {X:Cx}{E:Value->Shared->Prop}(ok:(X.wish E).Ok):X.Ok:=
 ⟨ok.mod,ok.kind,ok.glob,ok.blt,ok.above,ok.inj,ok.has,ok.cab,ok.hd,ok.frames,ok.stk,ok.exf,ok.bs,ok.bsz,ok.noex,ok.exfs,ok.funs,ok.frf⟩
section
variable {X:Cx}{pins:List (Addr × Obj)}{σ:St}{H:Hp}{s:Shared}{E:Value->Shared->Prop}
theorem Inv.wish (I:Inv X pins σ H s)(E:Value->Shared->Prop):Inv (X.wish E) pins σ H s:=⟨I.ok.wish E,I.os,I.bare,I.base,I.loc,I.cell,I.free,I.freeC,I.pin,I.hok,I.len⟩
theorem Inv.unwish (I:Inv (X.wish E) pins σ H s):Inv X pins σ H s:=⟨I.ok.unwish,I.os,I.bare,I.base,I.loc,I.cell,I.free,I.freeC,I.pin,I.hok,I.len⟩
theorem SP.unwish {D:kd}{f:Flow}{s':Shared}(h:SP (X.wish E) pins D f s'):SP X pins D f s':=by
 cases f with
 | next=>obtain ⟨σ',H',I,q⟩:=h;exact ⟨σ',H',I.unwish,q⟩
 | brk=>obtain ⟨σ',H',I,q⟩:=h;exact ⟨σ',H',I.unwish,q⟩
 | cont=>obtain ⟨σ',H',I,q⟩:=h;exact ⟨σ',H',I.unwish,q⟩
 | ret u=>obtain ⟨v,σ',H',I,r,q⟩:=h;exact ⟨v,σ',H',I.unwish,r,q⟩
theorem PSs.nox {st:List Stmt}{t:TS}(h:PSs X.nox st t):PSs X st t:=fun pins s σ H D I hw=>
 wpAny_mono (h pins s σ H D (I.wish _) hw) (fun _ _ q=>q.unwish) fun _ _ z=>False.elim z
end
section
variable {X:Cx}{st:Stmt}{qb:List Stmt}{t u:TS}{e:Expr}{te:TE}{pos:Pos}
noncomputable def JY:TS:=fun D σ H=>D.nx σ H
noncomputable def Yx (t u:TS):TS:=fun D σ H=>t { D with nx:=u D } σ H
theorem qy:PSs X [] JY:=fun _ _ σ H _ I h=>wpAny_execs_nil ⟨σ,H,I,h⟩
theorem zh (h1:PS X st t)(h2:PSs X qb u):PSs X (st :: qb) (Yx t u):=by
 intro pins s σ H D I h
 refine wpAny_execs_cons (thn (h1 pins s σ H { D with nx:=u D } I h) fun f s1 q=>?_)
 cases f with
 | next=>
  obtain ⟨σ',H',I',q⟩:=q
  exact h2 pins s1 σ' H' D I' q
 | ret v=>exact q
 | brk=>exact q
 | cont=>exact q
theorem zn (h1:PS X st t):PSs X [st] t:=by
 intro pins s σ H D I h
 refine wpAny_execs_cons (thn (h1 pins s σ H D I h) fun f s1 q=>?_)
 cases f with
 | next=>exact wpAny_execs_nil q
 | ret v=>exact q
 | brk=>exact q
 | cont=>exact q
theorem Inv.quiet {pins:List (Addr × Obj)}{σ:St}{H:Hp}{s:Shared}(I:Inv X pins σ H s):interactive X.env=false:=by simp [interactive,I.ok.kind]
noncomputable def Q5 (te:TE):TS:=fun D σ H=>te σ H fun _ H1=>D.nx σ H1
theorem wA (he:PE X e te)(hs:swapsWith e none pos.line X.env=pure false:=by rfl):PS X (.Expr e pos) (Q5 te):=by
 intro pins s σ H D I h
 exact wpAny_Expr_any (thn (he pins s σ H _ I h) fun v s1 ⟨x,H1,I1,r1,q1⟩=>⟨σ,H1,I1,q1⟩) I.quiet hs
noncomputable def X5 (te:TE):TS:=fun D σ H=>te σ H D.rt
theorem zF (he:PE X e te):PS X (.Return (some e) pos) (X5 te):=by
 intro pins s σ H D I h
 exact wpAny_Return_some (thn (he pins s σ H _ I h) fun v s1 ⟨x,H1,I1,r1,q1⟩=>⟨x,σ,H1,I1,r1,q1⟩)
noncomputable def Vg (c:TT)(t u:TS):TS:=fun D σ H=>c σ H fun b H1=>if b=true then t D σ H1 else u D σ H1
theorem kc {c:Expr}{a b:List Stmt}{tc:TT}(hc:PT X c tc)(ha:PSs X a t)(hb:PSs X b u):PS X (.If c a b pos) (Vg tc t u):=by
 intro pins s σ H D I h
 refine wpAny_If (thn (hc pins s σ H _ I h) fun d s1 ⟨H1,I1,q1⟩=>?_)
 cases d with
 | true=>exact ha pins s1 σ H1 D I1 q1
 | false=>exact hb pins s1 σ H1 D I1 q1
end
noncomputable abbrev TG:=V->St->Hp->(St->Hp->Prop)->Prop
noncomputable abbrev TGs:=List V->St->Hp->(St->Hp->Prop)->Prop
noncomputable def PG (X:Cx)(target:Expr)(t:TG):Prop:=
 ∀ (pins:List (Addr × Obj)) (s:Shared) (σ:St) (H:Hp) (v:V) (u:Value) (Q:St->Hp->Prop),Inv X pins σ H s->zm v u->t v σ H Q ->
  wpAny (model X.prog X.w) X.A (assign target X.env u) (fun _ s'=>∃ σ' H',Inv X pins σ' H' s'/\Q σ' H') X.xe s
noncomputable def PGs (X:Cx)(ts:List Expr)(t:TGs):Prop:=
 ∀ (pins:List (Addr × Obj)) (s:Shared) (σ:St) (H:Hp) (vs:List V) (us:List Value) (Q:St->Hp->Prop),Inv X pins σ H s->zk vs us->t vs σ H Q ->
  wpAny (model X.prog X.w) X.A (assignInOrder ((assignEach ts X.env).map (·.2)) us) (fun _ s'=>∃ σ' H',Inv X pins σ' H' s'/\Q σ' H') X.xe s
noncomputable abbrev Qj:=V->V->V->Hp->(Hp->Prop)->Prop
noncomputable def Yc (X:Cx)(t:Qj):Prop:=
 ∀ (pins:List (Addr × Obj)) (s:Shared) (σ:St) (H:Hp) (o i v:V) (ov iv u:Value) (Q:Hp->Prop),Inv X pins σ H s->zm o ov->zm i iv->zm v u->t o i v H Q ->
  wpAny (model X.prog X.w) X.A (setItem ov iv u) (fun _ s'=>∃ H',Inv X pins σ H' s'/\Q H') X.xe s
noncomputable abbrev TIp:=V->V->Hp->VK->Prop
section
variable {X:Cx}{pos:Pos}
noncomputable def yL (i:Nat):TG:=fun v σ H Q=>Q (σ.set i (some v)) H
theorem zr {i:Nat}{x:Str}(hN:X.N.Nodup)(hi:X.N[i]?=some x)(hx:Loc X.env.scope x)(hf:X.fn x=true \/ X.env.scope.names.lookup x=some .local:=by first | exact .inl rfl | exact .inr rfl | assumption):PG X (.Name x pos) (yL i):=by
 intro pins s σ H v u Q I r h
 exact wpAny_assign_Name (yP I hN hi hx r (fun s' I'=>⟨_,H,I',h⟩) hf)
noncomputable def X4:TGs:=fun vs σ H Q=>vs=[]/\Q σ H
noncomputable def Qs (t:TG)(u:TGs):TGs:=fun vs σ H Q=>∃ v r,vs=v :: r/\t v σ H fun σ' H'=>u r σ' H' Q
theorem jE:PGs X [] X4:=by
 intro pins s σ H vs us Q I r h
 obtain ⟨e,h⟩:=h
 subst e
 cases r
 exact assignInOrder_nil ⟨σ,H,I,h⟩
theorem zM {e:Expr}{es:List Expr}{t:TG}{u:TGs}(h1:PG X e t)(h2:PGs X es u)
  (hs:(assignEach (e :: es) X.env).map (·.2)=assign e X.env :: (assignEach es X.env).map (·.2):=by rfl):PGs X (e :: es) (Qs t u):=by
 intro pins s σ H vs us Q I r h
 obtain ⟨v,vr,e1,h⟩:=h
 subst e1
 cases r with
 | cons r rr=>
  rw [hs]
  refine assignInOrder_cons (thn (h1 pins s σ H _ _ _ I r h) fun _ s1 ⟨σ1,H1,I1,q1⟩=>?_)
  exact h2 pins s1 σ1 H1 _ _ Q I1 rr q1
noncomputable def Kx (K:PySem.W.Frag)(n:Nat)(t:TGs):TG:=fun v σ H Q=>∃ a xs,v=.ref a/\SqT K H a xs/\xs.length=n/\t xs σ H Q
theorem Vm {es:List Expr}{k:Nat}{t:TGs}{n:Nat}(hc:X.calm=true)(h:PGs X es t)
  (hn:(assignEach es X.env).length=n:=by rfl) (hst:(assignEach es X.env).findIdx? (·.1)=none:=by rfl):PG X (.Tuple es k pos) (Kx X.K n t):=by
 intro pins s σ H v u Q I r hw
 obtain ⟨a,xs,e1,hq,hl,hw⟩:=hw
 subst e1
 cases r
 obtain ⟨its,rv,ht,hz⟩:=I.tuple hq
 refine assign_Tuple_tuple (I.ok.hd hc) ht (by simp [hn,<- hl,rv.length]) hst fun h' hx=>?_
 have I1:Inv X pins σ H { s with heap:=h' }:=I.kept (t':=s.toks) fun b o e=>hx b o (Nat.ne_of_lt (Heap.lt_size e)) e
 exact h pins _ σ H xs _ Q I1 (by simpa using rv) hw
noncomputable def Yl (to ti:TE)(t:Qj):TG:=fun v σ H Q=>to σ H fun o H1=>ti σ H1 fun i H2=>t o i v H2 fun H3=>Q σ H3
theorem jP {o i:Expr}{to ti:TE}{t:Qj}(ho:PE X o to)(hi:PE X i ti)(hs:Yc X t)
  (ha:∀ v,assign (.Subscript o i pos) X.env v=(do
   let ov <- holding [v] (eval o X.env)
   let iv <- holding [v,ov] (eval i X.env)
   standAt pos
   holding [v,ov,iv] (setItem ov iv v)
   release [v,ov,iv] []):=by intro _;rfl):PG X (.Subscript o i pos) (Yl to ti t):=by
 intro pins s σ H v u Q I r h
 rw [ha]
 refine wpAny_bind (wpAny_holding (thn (ho pins s σ H _ I h) fun ov s1 ⟨x,H1,I1,r1,q1⟩=>?_))
 refine wpAny_bind (wpAny_holding (thn (hi pins s1 σ H1 _ I1 q1) fun iv s2 ⟨y,H2,I2,r2,q2⟩=>?_))
 refine wpAny_bind (wpAny_standAt (wpAny_bind (wpAny_holding (thn (hs pins s2 σ H2 x y v ov iv u _ I2 r1 r2 r q2) fun _ s3 ⟨H3,I3,q3⟩=>?_))))
 exact wpAny_release ⟨σ,H3,I3,q3⟩
noncomputable def JH (te:TE)(g:TG):TS:=fun D σ H=>te σ H fun x H1=>g x σ H1 D.nx
theorem jx {tg e:Expr}{te:TE}{g:TG}(he:PE X e te)(hg:PG X tg g)(hs:swapsWithSole [tg] e pos.line X.env=pure false:=by rfl)(hw:swappedStores [tg] e X.env=pure none:=by rfl)
  (h1:(assignEach [tg] X.env).map (·.2)=[assign tg X.env]:=by rfl):PS X (.Assign [tg] e pos) (JH te g):=by
 intro pins s σ H D I h
 refine wpAny_Assign_stores (thn (he pins s σ H _ I h) fun v s1 ⟨x,H1,I1,r1,q1⟩=>?_) hs hw
 rw [h1]
 exact thn (hg pins s1 σ H1 x v _ I1 r1 q1) fun _ s2 q=>q
theorem zT {i:Nat}{x:Str}{e:Expr}{te:TE}{pos':Pos}(hN:X.N.Nodup)(hi:X.N[i]?=some x)(hx:Loc X.env.scope x)(he:PE X e te)(hs:swapsWith e (some (.Name x pos')) pos.line X.env=pure false:=by rfl)(hf:X.fn x=true \/ X.env.scope.names.lookup x=some .local:=by first | exact .inl rfl | exact .inr rfl | assumption) :
  PS X (.Assign [.Name x pos'] e pos) (JH te (yL i)):=by
 intro pins s σ H D I h
 refine wpAny_Assign_Name (thn (he pins s σ H _ I h) fun v s1 ⟨y,H1,I1,r1,q1⟩=>?_) hs
 exact yP I1 hN hi hx r1 (fun s2 I2=>⟨_,H1,I2,q1⟩) hf
end
section
variable {X:Cx}{pos:Pos}
end
structure It where
 go:Nat->Hp->Prop
 yld:Nat->Hp->V->Hp->Prop
 stop:Nat->Hp->Prop
noncomputable def jm (X:Cx)(pins:List (Addr × Obj))(H:Hp)(b:Addr):Prop:=
 H b=none/\b ≠ X.env.locals/\b ∉ X.fs/\(b ∈ X.ex \/ X.s₀.heap.objs.size<=b)/\(∀ x c,X.env.cells.lookup x=some c->c ≠ b)/\∀ p ∈ X.pn ++ pins,p.1 ≠ b
theorem Inv.fpOk {X:Cx}{pins:List (Addr × Obj)}{σ:St}{H H':Hp}{s:Shared}{b:Addr}(I:Inv X pins σ H s)(hb:s.heap.objs.size<=b)(hn:H' b=none):jm X pins H' b:=by
 refine ⟨hn,Nat.ne_of_gt (Nat.lt_of_lt_of_le I.lt hb),I.nofs hb,.inr (Nat.le_trans I.sz hb),fun x c e z=>?_,fun p hp z=>?_⟩
 ·obtain ⟨v,q⟩:=I.cell x c e
  exact absurd (Nat.lt_of_lt_of_le q.lt (by rw [z];exact hb)) (Nat.lt_irrefl _)
 ·exact absurd (Nat.lt_of_lt_of_le (Heap.lt_size (I.pin p hp).1) (by rw [z];exact hb)) (Nat.lt_irrefl _)
structure yb (P:Program)(w:World)(K:PySem.W.Frag)(tg:Expr)(J:It)(fp:List Addr)(it:Addr)(tn:Nat->Heap->Prop):Prop where
 mem:it ∈ fp
 obj:∀ i h,tn i h->∀ b ∈ fp,∃ o,h.get? b=some o/\∀ v,o.data ≠ .cell v
 keep:∀ i h h',tn i h->(∀ b ∈ fp,∀ o,h.get? b=some o->h'.get? b=some o)->tn i h'
 item:∀ (X:Cx),X.prog=P->X.w=w->X.K=K->X.calm=true->∀ (i:Nat) (pins:List (Addr × Obj)) (s:Shared) (σ:St) (H:Hp) (E:Value->Shared->Prop),Inv X pins σ H s->(∀ b ∈ fp,jm X pins H b)->tn i s.heap->J.go i H ->
  wpAny (model P w) X.A (pyNext (.ref it)) (fun r s1=>∃ u,r=some u /\
   wpAny (model P w) X.A (letOwnedTupleGo tg (.ref it) u) (fun _ s2=>∃ x H',Inv X pins σ H' s2/\zm x u/\J.yld i H x H'/\tn (i+1) s2.heap/\∀ b ∈ fp,H' b=none) E s1) E s
 done:∀ (X:Cx),X.prog=P->X.w=w->X.K=K->X.calm=true->∀ (i:Nat) (pins:List (Addr × Obj)) (s:Shared) (σ:St) (H:Hp) (E:Value->Shared->Prop),Inv X pins σ H s->(∀ b ∈ fp,jm X pins H b)->tn i s.heap->J.stop i H ->
  wpAny (model P w) X.A (pyNext (.ref it)) (fun r s1=>r=none/\Inv X pins σ H s1) E s
 self:∀ (A:Around) (i:Nat) (s:Shared) (Q:Value->Shared->Prop) (E:Value->Shared->Prop),tn i s.heap->Q (.ref it) s->wpAny (model P w) A (pyIter (.ref it)) Q E s
noncomputable abbrev TI:=St->Hp->(It->Hp->Prop)->Prop
noncomputable def PIE (X:Cx)(pins:List (Addr × Obj))(σ:St)(tg:Expr)(R:It->Hp->Prop)(itv:Value)(s2:Shared):Prop:=
 ∃ (it:Addr) (fp:List Addr) (tn:Nat->Heap->Prop) (J:It) (H':Hp),itv=.ref it/\Inv X pins σ H' s2/\yb X.prog X.w X.K tg J fp it tn/\tn 0 s2.heap/\(∀ b ∈ fp,jm X pins H' b)/\R J H'
noncomputable def PI (X:Cx)(tg iter:Expr)(wi:TI):Prop:=
 ∀ (pins:List (Addr × Obj)) (s:Shared) (σ:St) (H:Hp) (R:It->Hp->Prop),Inv X pins σ H s->wi σ H R ->
  wpAny (model X.prog X.w) X.A (eval iter X.env) (fun v s1=>wpAny (model X.prog X.w) X.A (pyIter v) (PIE X pins σ tg R) X.xe s1) X.xe s
theorem QV {M : Model}{A : Around}{E : Value -> Shared -> Prop}{s : Shared}{tg : Expr}{it : Addr}{u : Value}{o : Obj}{n : String}{vs : Array Value}{Q : Unit -> Shared -> Prop}(ho : s.heap.get? it = some o)(hc : o.cls = .type n)(hd : o.data = .fields vs)
    (hn:["enumerate","zip","dict_itemiterator","dict_reverseitemiterator","odict_iterator","itertools.zip_longest","itertools.pairwise"].contains n=false) (hQ:Q () s):wpAny M A (letOwnedTupleGo tg (.ref it) u) Q E s:=by
  unfold letOwnedTupleGo
  cases tg <;> first
    | exact wpAny_pure hQ
    | (cases u <;> first
        | exact wpAny_pure hQ
        | (refine wpAny_bind (wpAny_load ho ?_)
           rw [hc,hd]
           show wpAny M A (if (["enumerate","zip","dict_itemiterator","dict_reverseitemiterator","odict_iterator","itertools.zip_longest","itertools.pairwise"].contains n && vs[0]? == some (rawInt _))=true then _ else _) Q E s
           rw [if_neg (by intro h;rw [hn,Bool.false_and] at h;cases h)]
           exact wpAny_pure hQ))
noncomputable def Itl (K:PySem.W.Frag)(a:Addr):It:=
 ⟨fun i H=>∃ xs x,SqL K H a xs/\xs[i]?=some x,fun i H x H'=>H'=H/\∀ xs,SqL K H a xs->xs[i]?=some x,fun i H=>∃ xs,SqL K H a xs/\xs.length<=i⟩
noncomputable def Itt (K:PySem.W.Frag)(a:Addr):It:=
 ⟨fun i H=>∃ xs x,SqT K H a xs/\xs[i]?=some x,fun i H x H'=>H'=H/\∀ xs,SqT K H a xs->xs[i]?=some x,fun i H=>∃ xs,SqT K H a xs/\xs.length<=i⟩
noncomputable def Itr (lo:Int)(n:Nat):It:=⟨fun i _=>i<n,fun i H x H'=>H'=H/\x=.int (lo+i),fun i _=>n<=i⟩
theorem Z6 {P:Program}{w:World}{K:PySem.W.Frag}{tg:Expr}(a it:Addr):yb P w K tg (Itl K a) [it] it (fun i h=>h.IsListIter it a i) where
 mem:=by simp
 obj:=fun i h st b hb=>by
  have e:b=it:=by simpa using hb
  subst e
  obtain ⟨o,e,c,d⟩:=st
  exact ⟨o,e,fun v z=>by rw [d] at z;cases z⟩
 keep:=fun i h h' st k=>st.at fun o e=>k it (by simp) o e
 item:=by
  intro X hP hw hK hc i pins s σ H E I hf st hg
  subst hP hw hK
  obtain ⟨xs,x,hq,hx⟩:=hg
  obtain ⟨its,rv,p,hz⟩:=I.list hq
  obtain ⟨u,hu,ru⟩:=rv.get hx
  obtain ⟨f0,f1,f2,f3,f4,f5⟩:=hf it (by simp)
  refine wpAny_pyNext_list_item st p.isList (x:=u) (by simpa using hu) fun h' st' sb=>?_
  have I1:Inv X pins σ H { s with heap:=h' }:=I.turned (t':=s.toks) (fun b o hb e=>(sb.2 b hb).trans e) f0 f1 f3 f4 f5
  obtain ⟨o,e,c,d⟩:=id st'
  exact ⟨u,rfl,QV (s:={ s with heap:=h' }) e c d (by decide) ⟨x,H,I1,ru,⟨rfl,fun ys hy=>by rw [I.list_inj hy hq];exact hx⟩,st',fun b hb=>(hf b hb).1⟩⟩
 done:=by
  intro X hP hw hK hc i pins s σ H E I hf st hg
  subst hP hw hK
  obtain ⟨xs,hq,hx⟩:=hg
  obtain ⟨its,rv,p,hz⟩:=I.list hq
  obtain ⟨f0,f1,f2,f3,f4,f5⟩:=hf it (by simp)
  have hl:=rv.length
  exact wpAny_pyNext_list_end (I.ok.hd hc) st p.isList (by simp;omega) fun h' eb=>⟨rfl,I.turned (t':=s.toks) (fun b o hb e=>eb b o hb e) f0 f1 f3 f4 f5⟩
 self:=fun _ _ _ _ _ st h=>wpAny_pyIter_listiter st h
theorem vP {P:Program}{w:World}{K:PySem.W.Frag}{tg:Expr}(a it:Addr):yb P w K tg (Itt K a) [it] it (fun i h=>h.IsTupleIter it a i) where
 mem:=by simp
 obj:=fun i h st b hb=>by
  have e:b=it:=by simpa using hb
  subst e
  obtain ⟨o,e,c,d⟩:=st
  exact ⟨o,e,fun v z=>by rw [d] at z;cases z⟩
 keep:=fun i h h' st k=>st.at fun o e=>k it (by simp) o e
 item:=by
  intro X hP hw hK hc i pins s σ H E I hf st hg
  subst hP hw hK
  obtain ⟨xs,x,hq,hx⟩:=hg
  obtain ⟨its,rv,p,hz⟩:=I.tuple hq
  obtain ⟨u,hu,ru⟩:=rv.get hx
  obtain ⟨f0,f1,f2,f3,f4,f5⟩:=hf it (by simp)
  refine wpAny_pyNext_tuple_item st (show s.heap.IsTuple a its.toArray from p) (x:=u) (by simpa using hu) fun h' st' sb=>?_
  have I1:Inv X pins σ H { s with heap:=h' }:=I.turned (t':=s.toks) (fun b o hb e=>(sb.2 b hb).trans e) f0 f1 f3 f4 f5
  obtain ⟨o,e,c,d⟩:=id st'
  exact ⟨u,rfl,QV (s:={ s with heap:=h' }) e c d (by decide) ⟨x,H,I1,ru,⟨rfl,fun ys hy=>by rw [I.tuple_inj hy hq];exact hx⟩,st',fun b hb=>(hf b hb).1⟩⟩
 done:=by
  intro X hP hw hK hc i pins s σ H E I hf st hg
  subst hP hw hK
  obtain ⟨xs,hq,hx⟩:=hg
  obtain ⟨its,rv,p,hz⟩:=I.tuple hq
  obtain ⟨f0,f1,f2,f3,f4,f5⟩:=hf it (by simp)
  have hl:=rv.length
  exact wpAny_pyNext_tuple_end (I.ok.hd hc) st (show s.heap.IsTuple a its.toArray from p) (by simp;omega) fun h' eb=>⟨rfl,I.turned (t':=s.toks) (fun b o hb e=>eb b o hb e) f0 f1 f3 f4 f5⟩
 self:=fun _ _ _ _ _ st h=>wpAny_pyIter_tupleiter st h
theorem v4 {P:Program}{w:World}{K:PySem.W.Frag}{tg:Expr}(it:Addr)(lo:Int)(n:Nat):yb P w K tg (Itr lo n) [it] it (fun i h=>IsRangeIter h it (lo+(i:Nat) * 1) ((n:Int) - (i:Nat)) 1) where
 mem:=by simp
 obj:=fun i h st b hb=>by
  have e:b=it:=by simpa using hb
  subst e
  exact ⟨_,st,fun v z=>by
   have z':Data.fields _=Data.cell v:=z
   cases z'⟩
 keep:=fun i h h' st k=>k it (by simp) _ st
 item:=by
  intro X hP hw hK hc i pins s σ H E I hf st hg
  subst hP hw hK
  obtain ⟨f0,f1,f2,f3,f4,f5⟩:=hf it (by simp)
  have W:=Walks.range (prog:=X.prog) (w:=X.w) (I.ok.hd hc) it lo 1 n
  refine W.item i s _ _ hg st fun v h' tk hv st' kk=>?_
  obtain ⟨t,rfl⟩:=hv
  have I1:Inv X pins σ H { s with heap:=h',toks:=tk }:=I.turned (fun b o hb e=>kk b o (by simpa using hb) e) f0 f1 f3 f4 f5
  refine ⟨_,rfl,QV (s:={ s with heap:=h',toks:=tk }) (n:="range_iterator") st' rfl rfl (by decide) ⟨.int (lo+i),H,I1,⟨t,?_⟩,⟨rfl,rfl⟩,st',fun b hb=>(hf b hb).1⟩⟩
  rw [Int.mul_one]
 done:=by
  intro X hP hw hK hc i pins s σ H E I hf st hg
  subst hP hw hK
  obtain ⟨f0,f1,f2,f3,f4,f5⟩:=hf it (by simp)
  exact wpAny_pyNext_range_end (I.ok.hd hc) st (by have:n<=i:=hg;omega) fun h' eb=>⟨rfl,I.turned (t':=s.toks) (fun b o hb e=>eb b o hb e) f0 f1 f3 f4 f5⟩
 self:=fun _ _ _ _ _ st h=>wpAny_pyIter_rangeiter st h
section
variable {X:Cx}{tg:Expr}
theorem QC {pins:List (Addr × Obj)}{σ:St}{H:Hp}{s:Shared}{R:It->Hp->Prop}{E:Value->Shared->Prop}{lo hi:Int}{t u v:Tok}{tk:Nat}(I:Inv X pins σ H s)(h1:-(2 ^ 62)<=lo)(h2:lo<2 ^ 62)(h3:-(2 ^ 62)<=hi)(h4:hi<2 ^ 62)
  (q:R (Itr lo (hi - lo).toNat) H):wpAny (model X.prog X.w) X.A (pyIter (.ref s.heap.objs.size)) (PIE X pins σ tg R) E { s with heap:=s.heap.push { cls:=.type "range",data:=.fields #[.int lo t,.int hi u,.int 1 v] },toks:=tk }:=by
 refine wpAny_pyIter_range (IsRange.new ..) (small_one h1 h2 h3 h4) ?_
 have I1:Inv X pins σ H { s with heap:=s.heap.push { cls:=.type "range",data:=.fields #[.int lo t,.int hi u,.int 1 v] },toks:=tk }:=I.kept fun b o e=>Heap.get?_push_of_some _ e
 refine ⟨(s.heap.push { cls:=.type "range",data:=.fields #[.int lo t,.int hi u,.int 1 v] }).objs.size,[(s.heap.push { cls:=.type "range",data:=.fields #[.int lo t,.int hi u,.int 1 v] }).objs.size],_,_,H,rfl,
  I1.kept (t':=tk) fun b o e=>Heap.get?_push_of_some _ e,v4 _ lo (hi - lo).toNat,?_,fun b hb=>?_,q⟩
 ·have e1:lo+((0:Nat):Int) * 1=lo:=by simp
  have e2:(((hi - lo).toNat:Nat):Int) - ((0:Nat):Int)=Builtin.Range.rangeSize lo hi 1:=by rw [rangeSize_one];split <;> omega
  show IsRangeIter _ _ (lo+((0:Nat):Int) * 1) ((((hi - lo).toNat:Nat):Int) - ((0:Nat):Int)) 1
  rw [e1,e2]
  exact Heap.get?_push_size _ rfl
 ·have e:b=(s.heap.push { cls:=.type "range",data:=.fields #[.int lo t,.int hi u,.int 1 v] }).objs.size:=by simpa using hb
  subst e
  exact I1.fpOk (Nat.le_refl _) (I1.hok.fresh (Nat.le_refl _))
noncomputable def QB (ta:TA):TI:=fun σ H R=>ta σ H fun vs H1=>∃ j:Int,vs=[.int j]/\-(2 ^ 62)<=j/\j<2 ^ 62/\R (Itr 0 j.toNat) H1
theorem zU {a:Expr}{ta:TA}{p pos:Pos}(hg:Gl X "range")(hm:X.mg "range"=none)(ha:PA X [a] ta)(hs:starEach [a] X.env=[(false,eval a X.env)]:=by rfl):PI X tg (.Call (.Name "range" p) [a] [] pos) (QB ta):=by
 intro pins s σ H R I h
 refine Call_ (qN I hg hm boot_range (PyProof.Rows.callWith_type1 (thn (ha pos pins s σ H _ I h) fun us s1 ⟨vs,H1,I1,r1,q1⟩=>?_) hs rfl))
 obtain ⟨j,e,q1,q2,q⟩:=q1
 subst e
 cases r1 with
 | cons r rr=>
  cases rr
  obtain ⟨t,rfl⟩:=r
  exact call_range_1 (QC I1 (by omega) (by omega) q1 q2 (by simpa using q))
noncomputable def VQ (wi:TI)(g:TG)(tb:TS):TS:=fun D σ H=>wi σ H fun J H1=>∃ W:Nat->Nat->St->Hp->Prop,(∃ m,W 0 m σ H1)/\∀ i m σ H,W i m σ H ->
 (J.stop i H/\D.nx σ H) \/ (J.go i H/\∃ N:St->Hp->Prop,(∀ σ' H',N σ' H'->∃ m',m'<m/\W (i+1) m' σ' H')/\∀ x H',J.yld i H x H'->g x σ H' fun σ2 H2=>tb { D with nx:=N,ct:=N,bk:=D.nx } σ2 H2)
noncomputable def j5 (fp:List Addr)(h:Heap):List (Addr × Obj):=fp.filterMap fun b=>(h.get? b).map fun o=>(b,o)
theorem qg {fp:List Addr}{h:Heap}{b:Addr}{o:Obj}(hb:b ∈ fp)(e:h.get? b=some o):(b,o) ∈ j5 fp h:=List.mem_filterMap.mpr ⟨b,hb,by rw [e];rfl⟩
theorem Zn {fp:List Addr}{h:Heap}{p:Addr × Obj}(hp:p ∈ j5 fp h):p.1 ∈ fp/\h.get? p.1=some p.2:=by
 obtain ⟨b,hb,e⟩:=List.mem_filterMap.mp hp
 cases q:h.get? b with
 | none=>rw [q] at e;cases e
 | some o=>
  rw [q] at e
  have e':(b,o)=p:=Option.some.inj e
  subst e'
  exact ⟨hb,q⟩
theorem Inv.pinned {pins:List (Addr × Obj)}{σ:St}{H:Hp}{s:Shared}{fp:List Addr}(I:Inv X pins σ H s)(hf:∀ b ∈ fp,jm X pins H b)(ho:∀ b ∈ fp,∃ o,s.heap.get? b=some o/\∀ v,o.data ≠ .cell v):Inv X (pins ++ j5 fp s.heap) σ H s:=
 I.pins_of fun p hp=>(List.mem_append.mp hp).elim (fun z=>I.pin p (List.mem_append_right _ z)) fun z=>by
  obtain ⟨hb,e⟩:=Zn z
  obtain ⟨f0,f1,f2,_⟩:=hf p.1 hb
  obtain ⟨o,e',d⟩:=ho p.1 hb
  rw [e] at e';cases e'
  exact ⟨e,f0,f1,f2,d⟩
theorem Inv.unpinned {pins pl:List (Addr × Obj)}{σ:St}{H:Hp}{s:Shared}(I:Inv X (pins ++ pl) σ H s):Inv X pins σ H s:=I.pins_of fun p hp=>I.pin p (List.mem_append_right _ (List.mem_append_left _ hp))
theorem qT {iter:Expr}{body:List Stmt}{wi:TI}{g:TG}{tb:TS}{pos:Pos}(hp:PassesOwn (model X.prog X.w) X.A X.env X.xe)(hc:X.calm=true)(hi:PI X tg iter wi)(hg:PG X tg g)(hb:PSs X body tb)
  (hs:∀ x,foldedSetIterable iter X.env x=pure x:=by intro _;rfl):PS X (.For tg iter body [] pos) (VQ wi g tb):=by
 intro pins s σ H D I h
 refine wpAny_For (thn (hi pins s σ H _ I h) fun v s1 h1=>thn h1 fun itv s2 h2=>?_) hs
 obtain ⟨it,fp,tn,J,H2,e,I2,T,st2,f2,W,⟨m0,w0⟩,turn⟩:=h2
 subst e
 have stat:∀ {H':Hp},(∀ b ∈ fp,H' b=none)->∀ b ∈ fp,jm X pins H' b:=fun hn b hb=>⟨hn b hb,(f2 b hb).2⟩
 refine codeAny_forLoop_any (fun n s'=>∃ i σ' H',Inv X pins σ' H' s'/\tn i s'.heap/\(∀ b ∈ fp,H' b=none)/\W i n σ' H') ?_ m0 ⟨0,σ,H2,I2,st2,fun b hb=>(f2 b hb).1,w0⟩
 rintro n s3 ⟨i,σ3,H3,I3,st3,fr3,w3⟩
 rcases turn i n σ3 H3 w3 with ⟨stop,qn⟩ | ⟨go,N,hN,step⟩
 ·refine wpAny_passesOwn hp (thn (T.done X rfl rfl rfl hc i pins s3 σ3 H3 X.xe I3 (stat fr3) st3 stop) fun r s4 ⟨hr,I4⟩=>?_)
  subst hr
  exact wpAny_execs_nil ⟨σ3,H3,I4,qn⟩
 ·refine wpAny_passesOwn hp (thn (T.item X rfl rfl rfl hc i pins s3 σ3 H3 X.xe I3 (stat fr3) st3 go) fun r s4 ⟨u,hr,h4⟩=>?_)
  subst hr
  refine wpAny_passesOwn hp (thn h4 fun _ s5 ⟨x,H5,I5,r5,y5,st5,fr5⟩=>?_)
  have I5':=I5.pinned (stat fr5) (T.obj _ _ st5)
  refine wpAny_passesOwn hp (thn (hg _ s5 σ3 H5 x u _ I5' r5 (step x H5 y5)) fun _ s6 ⟨σ6,H6,I6,q6⟩=>?_)
  refine wpAny_passesOwn hp (thn (hb _ s6 σ6 H6 _ I6 q6) fun f s7 q7=>?_)
  have again:∀ {σ7:St} {H7:Hp},Inv X (pins ++ j5 fp s5.heap) σ7 H7 s7->N σ7 H7->∃ m,m<n/\∃ i σ' H',Inv X pins σ' H' s7/\tn i s7.heap/\(∀ b ∈ fp,H' b=none)/\W i m σ' H':=fun {σ7 H7} I7 n7=>by
   obtain ⟨m',hm,w7⟩:=hN σ7 H7 n7
   refine ⟨m',hm,i+1,σ7,H7,I7.unpinned,T.keep _ _ _ st5 fun b hb o e=>(I7.pin (b,o) (List.mem_append_right _ (List.mem_append_right _ (qg hb e)))).1,fun b hb=>?_,w7⟩
   obtain ⟨o,e,d⟩:=T.obj _ _ st5 b hb
   exact (I7.pin (b,o) (List.mem_append_right _ (List.mem_append_right _ (qg hb e)))).2.1
  cases f with
  | next=>obtain ⟨σ7,H7,I7,n7⟩:=q7;exact again I7 n7
  | cont=>obtain ⟨σ7,H7,I7,n7⟩:=q7;exact again I7 n7
  | brk=>obtain ⟨σ7,H7,I7,q7⟩:=q7;exact ⟨σ7,H7,I7.unpinned,q7⟩
  | ret v=>obtain ⟨x7,σ7,H7,I7,r7,q7⟩:=q7;exact ⟨x7,σ7,H7,I7.unpinned,r7,q7⟩
end
noncomputable abbrev R2:=V->V->Hp->VK->Prop
noncomputable def OpR (X:Cx)(f:Value->Value->Sem Value)(r:R2):Prop:=
 ∀ (pins:List (Addr × Obj)) (s:Shared) (σ:St) (H:Hp) (x y:V) (v u:Value) (Q:VK),Inv X pins σ H s->zm x v->zm y u->r x y H Q ->
  wpAny (model X.prog X.w) X.A (f v u) (EP X pins σ Q) X.xe s
noncomputable def qm (X:Cx)(f:Value)(r:List V->Hp->VK->Prop):Prop:=
 ∀ (pins:List (Addr × Obj)) (s:Shared) (σ:St) (H:Hp) (xs:List V) (us:List Value) (Q:VK),Inv X pins σ H s->zk xs us->r xs H Q ->
  wpAny (model X.prog X.w) X.A (call f us) (EP X pins σ Q) X.xe s
noncomputable def tOp (r:R2)(ta tb:TE):TE:=fun σ H Q=>ta σ H fun x H1=>tb σ H1 fun y H2=>r x y H2 Q
noncomputable def rI (C:Int->Int->Prop)(g:Int->Int->V):R2:=fun x y H Q=>∃ i j,x=.int i/\y=.int j/\C i j/\Q (g i j) H
noncomputable def rI0 (g:Int->Int->V):R2:=fun x y H Q=>∃ i j,x=.int i/\y=.int j/\Q (g i j) H
section
variable {X:Cx}{a b c:Expr}{ta tb tc:TE}{pos:Pos}
theorem X3 (ha:PE X a ta)(hb:PE X b tb){pins:List (Addr × Obj)}{s:Shared}{σ:St}{H:Hp}{R:V->V->Hp->Prop}(I:Inv X pins σ H s)
  (h:ta σ H fun x H1=>tb σ H1 fun y H2=>R x y H2) {Q:Value->Shared->Prop} {f:Value->Value->Sem Value}
  (hf:∀ v u s2 x y H2,Inv X pins σ H2 s2->zm x v->zm y u->R x y H2->wpAny (model X.prog X.w) X.A (f v u) Q X.xe s2) :
  wpAny (model X.prog X.w) X.A (eval a X.env) (fun v s₁=>wpAny (model X.prog X.w) X.A (eval b X.env) (fun u s₂=>wpAny (model X.prog X.w) X.A (f v u) Q X.xe s₂) X.xe s₁) X.xe s:=by
 refine thn (ha pins s σ H _ I h) fun v s1 ⟨x,H1,I1,r1,q1⟩=>?_
 refine thn (hb pins s1 σ H1 _ I1 q1) fun u s2 ⟨y,H2,I2,r2,q2⟩=>?_
 exact hf v u s2 x y H2 I2 r1 r2 q2
theorem zo {op:Operator}{r:R2}(ho:OpR X (binaryOp op) r)(ha:PE X a ta)(hb:PE X b tb):PE X (.BinOp a op b pos) (tOp r ta tb):=by
 intro pins s σ H Q I h
 exact wpAny_BinOp (X3 ha hb I h fun v u s2 x y H2 I2 rx ry q=>ho pins s2 σ H2 x y v u Q I2 rx ry q)
theorem opI {f:Value->Value->Sem Value}{C:Int->Int->Prop}{g:Int->Int->Int}
  (rule:∀ (i j:Int) (t u:Tok) (s:Shared) (Q:Value->Shared->Prop) (E:Value->Shared->Prop),C i j->Q (.int (g i j) s.toks) { s with toks:=s.toks+1 }->wpAny (model X.prog X.w) X.A (f (.int i t) (.int j u)) Q E s) :
  OpR X f (rI C fun i j=>.int (g i j)):=by
 intro pins s σ H x y v u Q I rx ry h
 obtain ⟨i,j,rfl,rfl,hc,q⟩:=h
 obtain ⟨t,rfl⟩:=rx
 obtain ⟨t',rfl⟩:=ry
 exact rule i j t t' s _ _ hc ⟨.int (g i j),H,I.tok _,⟨_,rfl⟩,q⟩
theorem Ac {f:Value->Value->Sem Value}{g:Int->Int->Int}
  (rule:∀ (i j:Int) (t u:Tok) (s:Shared) (Q:Value->Shared->Prop) (E:Value->Shared->Prop),Q (.int (g i j) s.toks) { s with toks:=s.toks+1 }->wpAny (model X.prog X.w) X.A (f (.int i t) (.int j u)) Q E s) :
  OpR X f (rI0 fun i j=>.int (g i j)):=by
 intro pins s σ H x y v u Q I rx ry h
 obtain ⟨i,j,rfl,rfl,q⟩:=h
 obtain ⟨t,rfl⟩:=rx
 obtain ⟨t',rfl⟩:=ry
 exact rule i j t t' s _ _ ⟨.int (g i j),H,I.tok _,⟨_,rfl⟩,q⟩
theorem Wm {f:Value->Value->Sem Value}{g:Int->Int->Bool}
  (rule:∀ (i j:Int) (t u:Tok) (s:Shared) (Q:Value->Shared->Prop) (E:Value->Shared->Prop),Q (.bool (g i j)) s->wpAny (model X.prog X.w) X.A (f (.int i t) (.int j u)) Q E s) :
  OpR X f (rI0 fun i j=>.bl (g i j)):=by
 intro pins s σ H x y v u Q I rx ry h
 obtain ⟨i,j,rfl,rfl,q⟩:=h
 obtain ⟨t,rfl⟩:=rx
 obtain ⟨t',rfl⟩:=ry
 exact rule i j t t' s _ _ ⟨.bl (g i j),H,I,rfl,q⟩
noncomputable def Yz (i j:Int):Prop:=0<j/\j<1073741824
noncomputable def Ah (i j:Int):Prop:=0<=j/\j<=1000000/\i.natAbs<2 ^ 64
noncomputable def QZ (i j:Int):Prop:=(-(2 ^ 64)<i/\i<2 ^ 64) \/ (-(2 ^ 64)<j/\j<2 ^ 64)
theorem QZ.ok {i j:Int}(h:QZ i j):IntMulOk i j:=by
 rcases h with ⟨h1,h2⟩ | ⟨h1,h2⟩
 ·exact .of_left (intBits_le_64 h1 h2)
 ·exact .of_right (intBits_le_64 h1 h2)
theorem zH:OpR X (binaryOp .Add) (rI0 fun i j=>.int (i+j)):=Ac fun _ _ _ _ _ _ _ q=>add_int q
theorem ql:OpR X (binaryOp .Mult) (rI QZ fun i j=>.int (i * j)):=opI fun _ _ _ _ _ _ _ hc q=>mul_int q hc.ok
theorem Kf:OpR X (binaryOp .FloorDiv) (rI Yz fun i j=>.int (i / j)):=opI fun i j _ _ _ _ _ hc q=>by
 have h1:(0:Int)<j:=hc.1
 have h2:j<1073741824:=hc.2
 exact floordiv_int (by omega) (by rw [Int.fdiv_eq_ediv_of_nonneg i (by omega)];exact q) (.inl (PyProof.noPylong_small (by omega)))
theorem qF:OpR X (binaryOp .Mod) (rI (fun _ j=>0<j) fun i j=>.int (i % j)):=opI fun i j _ _ _ _ _ hc q=>by
 have h1:(0:Int)<j:=hc
 exact mod_int' (by omega) (by rw [Int.fmod_eq_emod_of_nonneg i (by omega)];exact q)
theorem X2:OpR X (binaryOp .Pow) (rI Ah fun i j=>.int (i ^ j.toNat)):=opI fun _ _ _ _ _ _ _ hc q=>pow_int_small hc.1 hc.2.1 hc.2.2 q
end
section
variable {X:Cx}{a b c:Expr}{ta tb tc:TE}{pos:Pos}
theorem YU {pins:List (Addr × Obj)}{σ:St}{H:Hp}{s:Shared}{Q:VK}{k k':Bool}(I:Inv X pins σ H s)(q:Q (.bl k) H)(e:k=k'):EP X pins σ Q (.bool k') s:=by
 subst e
 exact ⟨.bl k,H,I,rfl,q⟩
theorem Wv:OpR X (compareOp .Gt) (rI0 fun i j=>.bl (decide (j<i))):=Wm fun _ _ _ _ _ _ _ q=>gt_int q
theorem V9:OpR X (compareOp .GtE) (rI0 fun i j=>.bl (decide (j<=i))):=Wm fun _ _ _ _ _ _ _ q=>ge_int q
theorem Ve:OpR X (compareOp .Is) (fun x y H Q=>y=.non/\Q (.bl (decide (x=.non))) H):=by
 intro pins s σ H x y v u Q I rx ry h
 obtain ⟨rfl,q⟩:=h
 cases ry
 refine is_none_gen (YU I q ?_)
 cases x <;> first
  | (cases rx;rfl)
  | (obtain ⟨t,rfl⟩:=rx;rfl)
theorem qk (b:Expr){op:CmpOp}(h:op ≠ .In:=by decide)(h2:op ≠ .NotIn:=by decide):behindInMarks op b=false:=by
 have e1:(op == CmpOp.In)=false:=by cases op <;> first | rfl | exact absurd rfl h
 have e2:(op == CmpOp.NotIn)=false:=by cases op <;> first | rfl | exact absurd rfl h2
 cases b <;> simp [behindInMarks,e1,e2]
theorem jg {op:CmpOp}{r:R2}(ho:OpR X (compareOp op) r)(ha:PE X a ta)(hb:PE X b tb)(hm:behindInMarks op b=false):PE X (.Compare a [op] [b] pos) (tOp r ta tb):=by
 intro pins s σ H Q I h
 exact wpAny_Compare1 (X3 ha hb I h fun v u s2 x y H2 I2 rx ry q=>ho pins s2 σ H2 x y v u Q I2 rx ry q) hm
noncomputable def JU (t:TE):TT:=fun σ H Q=>t σ H fun x H'=>∃ k,x=.bl k/\Q k H'
theorem jh {op:CmpOp}{r:R2}(ho:OpR X (compareOp op) r)(ha:PE X a ta)(hb:PE X b tb)(hm:behindInMarks op b=false):PT X (.Compare a [op] [b] pos) (JU (tOp r ta tb)):=by
 intro pins s σ H Q I h
 refine wpAny_isTrue_Compare1 (thn (ha pins s σ H _ I h) fun v s1 ⟨x,H1,I1,r1,q1⟩=>thn (hb pins s1 σ H1 _ I1 q1) fun u s2 ⟨y,H2,I2,r2,q2⟩=>
  thn (ho pins s2 σ H2 x y v u _ I2 r1 r2 q2) fun c s3 ⟨z,H3,I3,r3,k,e,q3⟩=>?_) hm
 subst e
 cases r3
 exact wpAny_truthy_bool ⟨H3,I3,q3⟩
theorem xU:(sizeLine:Nat)<2 ^ 63:=by rw [sizeLine_eq];decide
theorem qU {x:V}{us:List Value}(r:zk [x] us):∃ u,us=[u]/\zm x u:=by
 cases r with
 | cons r1 r2=>cases r2;exact ⟨_,rfl,r1⟩
theorem xl {x y:V}{us:List Value}(r:zk [x,y] us):∃ u w',us=[u,w']/\zm x u/\zm y w':=by
 cases r with
 | cons r1 r2=>
  cases r2 with
  | cons r3 r4=>cases r4;exact ⟨_,_,rfl,r1,r3⟩
theorem vf:qm X (.builtin "abs") (fun xs H Q=>∃ i,xs=[.int i]/\Q (.int (if i<0 then -i else i)) H):=by
 intro pins s σ H xs us Q I r h
 obtain ⟨i,rfl,q⟩:=h
 obtain ⟨u,rfl,t,rfl⟩:=qU r
 exact call_abs_int fun u tk=>⟨.int (if i<0 then -i else i),H,I.tok _,⟨_,rfl⟩,q⟩
theorem ZX (hc:X.calm=true):qm X (.builtin "max") (fun xs H Q=>∃ i j,xs=[.int i,.int j]/\Q (.int (if j > i then j else i)) H):=by
 intro pins s σ H xs us Q I r h
 obtain ⟨i,j,rfl,q⟩:=h
 obtain ⟨u,w',rfl,⟨t,rfl⟩,⟨t',rfl⟩⟩:=xl r
 refine max_two_ints (I.ok.hd hc) fun h' tk k=>⟨_,H,I.kept k,?_,q⟩
 by_cases hj:j > i
 ·rw [if_pos hj,if_pos hj];exact ⟨_,rfl⟩
 ·rw [if_neg hj,if_neg hj];exact ⟨_,rfl⟩
theorem ZZ:qm X (.type "int") (fun xs H Q=>(∃ i,xs=[.int i]/\Q (.int i) H) \/ ∃ k,xs=[.bl k]/\Q (.int (if k then 1 else 0)) H):=by
 intro pins s σ H xs us Q I r h
 rcases h with ⟨i,rfl,q⟩ | ⟨k,rfl,q⟩
 ·obtain ⟨u,rfl,t,rfl⟩:=qU r
  exact call_int_int ⟨.int i,H,I,⟨_,rfl⟩,q⟩
 ·obtain ⟨u,rfl,r1⟩:=qU r
  cases r1
  exact call_int_bool ⟨.int (if k then 1 else 0),H,I.tok _,⟨_,rfl⟩,q⟩
theorem vo:qm X (.builtin "divmod") (fun xs H Q=>∃ i j,xs=[.int i,.int j]/\Yz i j/\∀ p,H p=none->Q (.ref p) (upd H p (.tup [.int (i / j),.int (i % j)]))):=by
 intro pins s σ H xs us Q I r h
 obtain ⟨i,j,rfl,⟨h1,h2⟩,q⟩:=h
 obtain ⟨u,w',rfl,⟨t,rfl⟩,⟨t',rfl⟩⟩:=xl r
 refine divmod_int (by omega) ?_ (.inl (PyProof.noPylong_small (by omega)))
 rw [Int.fdiv_eq_ediv_of_nonneg i (by omega),Int.fmod_eq_emod_of_nonneg i (by omega)]
 have hn:H s.heap.objs.size=none:=I.hok.fresh (Nat.le_refl _)
 refine ⟨.ref s.heap.objs.size,_,?_,rfl,q _ hn⟩
 refine I.laid (fun b o e=>Heap.get?_push_of_some _ e) (Nat.le_refl _) ⟨by simp only [List.length_cons,List.length_nil];rw [sizeLine_eq];decide,[.int (i / j) s.toks,.int (i % j) (s.toks+1)],.cons ⟨_,rfl⟩ (.cons ⟨_,rfl⟩ .nil),?_⟩
 exact ⟨_,Heap.get?_push_size s.heap rfl,rfl,⟨0,rfl⟩,rfl⟩
end
structure Jl (h:Heap)(x dx C:Addr)(mA:Str->Option Value):Prop where
 obj:h.get? x=some (PySem.W.instObj C dx)
 ns:h.Ns1 dx mA
 ne:dx ≠ x
theorem ZI {h:Heap}{dx:Addr}{mA:Str->Option Value}(n:h.Ns1 dx mA):∃ od,h.get? dx=some od/\∀ name,PySem.W.lookIn name od=some (mA name):=by
 obtain ⟨o,es,ep,ho,hd,hk,_,hm⟩:=n
 refine ⟨o,ho,fun name=>?_⟩
 have e:=hm name
 unfold nsFind findBy at e
 rw [<- Array.find?_toList] at e
 unfold PySem.W.lookIn
 rw [hd]
 dsimp only
 split
 ·rename_i y q
  rw [q] at e
  exact congrArg some e
 ·rename_i q
  rw [q] at e
  have a:es.toList.any (·.refKey)=false:=by
   rw [List.any_eq_false]
   intro y hy
   obtain ⟨z,t,hkey⟩:=hk y (Array.mem_toList_iff.mp hy)
   simp [DictEntry.refKey,hkey]
  have a':¬ es.toList.any (·.refKey)=true:=by rw [a];exact Bool.false_ne_true
  rw [if_neg a']
  exact congrArg some e
theorem Jl.look {h:Heap}{x dx C:Addr}{mA:Str->Option Value}(I:Jl h x dx C mA):∃ od,PySem.W.InstAt h x (PySem.W.instObj C dx) C (some od)/\∀ name,PySem.W.lookIn name od=some (mA name):=
 let ⟨od,ho,hl⟩:=ZI I.ns
 ⟨od,⟨I.obj,rfl,rfl,ho⟩,hl⟩
section
variable {prog:Program}{w:World}{A:Around}{E:Value->Shared->Prop}{s:Shared}{K:PySem.W.Frag}{x dx C f:Addr}{mA:Str->Option Value}{name:Str}{v:Value}
theorem w6 {ns:List Str}{Q:Unit->Shared->Prop}(X:K.In s.heap)(I:Jl s.heap x dx C mA)
  (hs:PySem.W.findIn K (.ref C) "__setattr__"=some (some (.builtin "object.__setattr__"))) (hp:PySem.W.plainOver K C=true) (ht:PySem.W.takerIn K C name=some none) (hh:PySem.W.hasDictIn K C=true)
  (hw:PySem.Within mA ns) (hsz:ns.length<=sizeLine)
  (h:∀ h',Jl h' x dx C (fun y=>if y=name then some v else mA y)->Heap.SameBut dx s.heap h'->Q () { s with heap:=h',toks:=s.toks+2 }) :
  wpAny (model prog w) A (setAttr (.ref x) name v) Q E s:=by
 obtain ⟨od,J,hl⟩:=I.look
 refine PySem.W.set_plain X J hs (PySem.W.osa_open (s:={ s with toks:=s.toks+1 }) (r:=none) X J hp ht fun b=>?_)
 obtain ⟨cd,hc,hd'⟩:=PySem.W.any_some hh
 have hx:s.heap.get? x=some ⟨.ref C,some dx,.plain,#[]⟩:=I.obj
 refine wpAny_bind (wpAny_pure (wpAny_bind (wpAny_bind (wpAny_loadPart hx (wpAny_bind (PySem.W.Looks.here (s:={ s with toks:=s.toks+1 }) (PySem.W.looks_clsIn X hc) ?_))))))
 rw [hd']
 refine wpAny_pure (a:=some dx) (wpAny_bind (wpAny_pure (wpAny_bind ?_)))
 refine wpAny_nsSet1 (s:={ s with toks:=s.toks+1 }) I.ns fun h' hn2 hs2=>?_
 obtain ⟨oD,esD,epD,hoD,hdD,hcD⟩:=hn2.count (PySem.Within.cons name v hw)
 refine wpAny_bind (wpAny_lookBehind hoD (by rw [hdD];exact pastItsLine_dict (Nat.le_trans hcD (by rw [List.length_cons];omega))) ?_)
 exact wpAny_pure (h _ ⟨(hs2.2 _ (Ne.symm I.ne)).trans I.obj,hn2,I.ne⟩ hs2)
end
theorem yh.some_of {v:V}{o:Option Value}(r:yh (some v) o):∃ u,o=some u/\zm v u:=by
 cases o with
 | none=>exact (show False from r).elim
 | some u=>exact ⟨u,rfl,r⟩
section
variable {P:Program}{w:World}{H H':Hp}{h h':Heap}{a C dx:Addr}{fs fs':List (Str × V)}
theorem K7 (hok:HOk P w H h)(e:H a=some (.ins C dx fs)):∃ mA,Jl h a dx C mA/\(∀ f,yh (fs.lookup f) (mA f))/\PySem.Within mA (fs.map (·.1))/\fs.length<=1000/\H dx=some (.own a):=by
 obtain ⟨d,z,ne,ob,mA,n,r,q⟩:=(show zx P w H h a (.ins C dx fs) from hok a _ e)
 exact ⟨mA,⟨ob,n,ne⟩,r,q,z,d⟩
end
structure Cls (K:PySem.W.Frag)(C:Addr):Prop where
 pg:PySem.W.plainGet K C Str.empty=true
 hd:PySem.W.hasDictIn K C=true
 po:PySem.W.plainOver K C=true
 sa:PySem.W.findIn K (.ref C) "__setattr__"=some (some (.builtin "object.__setattr__"))
theorem Cls.get {K:PySem.W.Frag}{C:Addr}(c:Cls K C)(f:Str):PySem.W.plainGet K C f=true:=c.pg
structure Con (K:PySem.W.Frag)(C:Addr)(f:Str)(v:V)(u:Value):Prop where
 at_:PySem.W.findIn K (.ref C) f=some (some u)
 rel:zm v u
 get:PySem.W.specialIn K u "__get__"=some none
 cp:PySem.W.copiedNames.contains f=false
structure Af (K:PySem.W.Frag)(C:Addr)(m:Str)(f:Addr):Prop where
 at_:PySem.W.findIn K (.ref C) m=some (some (.ref f))
 fn:PySem.W.isFn K (.ref f)=true
 kp:PySem.W.keepIn K (.ref f)=true
section
variable {X:Cx}{pins:List (Addr × Obj)}{σ:St}{H:Hp}{s:Shared}{a C dx:Addr}{fs:List (Str × V)}{f:Str}{v:V}{A:Around}{E:Value->Shared->Prop}
end
section
variable {X:Cx}{o e value:Expr}{f:Str}{pos pos' tpos:Pos}{ta tv:TE}
end
section
variable {X:Cx}{pins:List (Addr × Obj)}{σ:St}{H:Hp}{s:Shared}{A:Around}{E:Value->Shared->Prop}{Q:Value->Shared->Prop}{c:Value}{b:Bool}
inductive qY (K:PySem.W.Frag) (H:Hp):V->Value->Prop where
  | non:qY K H .non (.type "NoneType")
  | bl (x:Bool):qY K H (.bl x) (.type "bool")
  | int (i:Int):qY K H (.int i) (.type "int")
  | str (x:Str):qY K H (.str x) (.type "str")
  | flt (x:UInt64):qY K H (.flt x) (.type "float")
  | lst {a:Addr} {xs:List V} (e:H a=some (.lst xs)):qY K H (.ref a) (.type "list")
  | frz {a:Addr} {o:Obj} {xs:List V} (e:H a=some (.frz o (.lst xs))):qY K H (.ref a) (.type "list")
  | tup {a:Addr} {xs:List V} (e:H a=some (.tup xs)):qY K H (.ref a) (.type "tuple")
  | dK {a:Addr} {kvs:List (Key × V)} (e:H a=some (.dK kvs)):qY K H (.ref a) (.type "dict")
  | dT {a:Addr} {kvs:List (List Key × V)} (e:H a=some (.dT kvs)):qY K H (.ref a) (.type "dict")
  | ins {a C dx : Addr} {fs : List (Str × V)} (e : H a = some (.ins C dx fs)) (cl : Cls K C) (ha : PySem.W.findIn K (.ref C) "__class__" = some (some (.builtin "object.__class__")))
      (hn:PySem.W.specialIn K (.builtin "object.__class__") "__get__"=some (some (.builtin "getset_descriptor.__get__"))) (htk:PySem.W.takesIn K (.builtin "object.__class__")=some true)
      (hm:PySem.W.mroIn K C (.type "object")=some true):qY K H (.ref a) (.ref C)
theorem ZY {x:V}{u t:Value}(I:Inv X pins σ H s)(rx:zm x u)(ty:qY X.K H x t)(e:PySem.W.kitOne X.K t c=some b)(h:∀ tk,Q (.bool b) { s with toks:=tk }) :
  wpAny (model X.prog X.w) A (call (.builtin "isinstance") [u,c]) Q E s:=by
 cases ty with
 | non=>cases (show u=Value.none from rx);exact PySem.W.kia_one PySem.W.kitx_none I.kIn True.intro e (fun z=>nomatch z) h
 | bl y=>cases (show u=Value.bool y from rx);exact PySem.W.kia_one PySem.W.kitx_bool I.kIn True.intro e (fun z=>nomatch z) h
 | int i=>obtain ⟨t,q⟩:=(show ∃ t,u=Value.int i t from rx);cases q;exact PySem.W.kia_one PySem.W.kitx_int I.kIn True.intro e (fun z=>nomatch z) h
 | str y=>obtain ⟨t,q⟩:=(show ∃ t,u=Value.str y t from rx);cases q;exact PySem.W.kia_one PySem.W.kitx_str I.kIn True.intro e (fun z=>nomatch z) h
 | flt y=>obtain ⟨t,q⟩:=(show ∃ t,u=Value.float y t from rx);cases q;exact PySem.W.kia_one PySem.W.kitx_float I.kIn True.intro e (fun z=>nomatch z) h
 | @lst a xs ea=>
  cases (show u=Value.ref a from rx)
  obtain ⟨_,_,n,_,h1⟩:=(show zx X.prog X.w H s.heap a (.lst xs) from I.hok a _ ea)
  exact PySem.W.kia_one PySem.W.kitx_list I.kIn ⟨_,h1,rfl⟩ e (fun z=>nomatch z) h
 | @frz a ob xs ea=>
  cases (show u=Value.ref a from rx)
  obtain ⟨_,_,_,n,_,h1⟩:=(show zx X.prog X.w H s.heap a (.frz ob (.lst xs)) from I.hok a _ ea)
  exact PySem.W.kia_one PySem.W.kitx_list I.kIn ⟨_,h1,rfl⟩ e (fun z=>nomatch z) h
 | @tup a xs ea=>
  cases (show u=Value.ref a from rx)
  obtain ⟨_,_,_,p⟩:=(show zx X.prog X.w H s.heap a (.tup xs) from I.hok a _ ea)
  obtain ⟨o,h1,h2,_⟩:=p
  exact PySem.W.kia_one PySem.W.kitx_tuple I.kIn ⟨o,h1,h2⟩ e (fun z=>nomatch z) h
 | @dK a kvs ea=>
  cases (show u=Value.ref a from rx)
  obtain ⟨_,_,vs,_,p⟩:=(show zx X.prog X.w H s.heap a (.dK kvs) from I.hok a _ ea)
  obtain ⟨o,es,ep,h1,h2,_⟩:=p
  exact PySem.W.kia_one PySem.W.kitx_dict I.kIn ⟨o,h1,h2.1⟩ e (fun z=>nomatch z) h
 | @dT a kvs ea=>
  cases (show u=Value.ref a from rx)
  obtain ⟨_,_,xs,_,o,es,ep,h1,h2,_⟩:=(show zx X.prog X.w H s.heap a (.dT kvs) from I.hok a _ ea)
  exact PySem.W.kia_one PySem.W.kitx_dict I.kIn ⟨o,h1,h2.1⟩ e (fun z=>nomatch z) h
 | @ins a C dx fs ea cl ha hn htk hm=>
  cases (show u=Value.ref a from rx)
  obtain ⟨mA,O,_⟩:=K7 I.hok ea
  obtain ⟨od,J,_⟩:=O.look
  exact PySem.W.kia_one (PySem.W.kitx_own (cl.get _) cl.hd ha hn htk hm) I.kIn J e (fun z=>nomatch z) h
end
structure qE (k:Nat)(A:Around):Prop where
 hd:A.handled=none
 gd:A.guards=some []
 dp:A.depth+3 * k+5<recursionLimit
 un:A.units+16 * k+200<cLine
theorem qE.mono {j k:Nat}{A:Around}(r:qE k A)(h:j<=k):qE j A:=⟨r.hd,r.gd,by have:=r.dp;omega,by have:=r.un;omega⟩
theorem qE.deeper {k:Nat}{A:Around}(r:qE (k+1) A)(env:Env):qE k (A.deeper env):=
 ⟨r.hd,r.gd,by have:=r.dp;show A.depth+1+3 * k+5<_;omega,by have:=r.un;show A.units+3+16 * k+200<_;omega⟩
theorem qE.depth {k:Nat}{A:Around}(r:qE k A):A.depth<recursionLimit:=by have:=r.dp;omega
theorem qE.units {k:Nat}{A:Around}(r:qE k A):A.units+64<cLine:=by have:=r.un;omega
noncomputable def Yr:TA:=fun _ H Q=>Q [] H
noncomputable def Q8 (ta:TE)(tr:TA):TA:=fun σ H Q=>ta σ H fun x H1=>tr σ H1 fun xs H2=>Q (x :: xs) H2
section
variable {X:Cx}{e:Expr}{es:List Expr}{te:TE}{t:TA}{pos:Pos}
theorem zb:PA X [] Yr:=fun _ _ _ _ H Q I h=>Calls.spliced_nil ⟨[],H,I,.nil,h⟩
theorem za (ha:PE X e te)(hr:PA X es t)(hs:starEach (e :: es) X.env=(false,eval e X.env) :: starEach es X.env:=by rfl):PA X (e :: es) (Q8 te t):=by
 intro pos pins s σ H Q I h
 rw [hs]
 show wpAny _ _ (spliced ((false,eval e X.env) :: backTo pos (starEach es X.env))) _ _ s
 refine Calls.spliced_cons (thn (ha pins s σ H _ I h) fun u s1 ⟨x,H1,I1,r1,q1⟩=>?_)
 exact thn (hr pos pins s1 σ H1 _ I1 q1) fun us s2 ⟨xs,H2,I2,r2,q2⟩=>⟨x :: xs,H2,I2,.cons r1 r2,q2⟩
noncomputable def X7 (t:TA):TE:=fun σ H Q=>t σ H fun xs H1=>xs.length<=sizeLine/\∀ p,H1 p=none->Q (.ref p) (upd H1 p (.tup xs))
noncomputable def VC (t:TA):TE:=fun σ H Q=>t σ H fun xs H1=>xs.length<=sizeLine/\∀ p,H1 p=none->Q (.ref p) (upd H1 p (.lst xs))
theorem qa {x1}(h:PA X es t):PE X (.Tuple es x1 pos) (X7 t):=by
 intro pins s σ H Q I hq
 refine wpAny_Tuple_spliced (thn (h pos pins s σ H _ I hq) fun us s1 ⟨xs,H1,I1,r,z,q⟩=>⟨by rw [<- r.length];exact z,?_⟩)
 have hf:H1 s1.heap.objs.size=none:=I1.hok.fresh (Nat.le_refl _)
 refine ⟨.ref s1.heap.objs.size,upd H1 s1.heap.objs.size (.tup xs),I1.laid (t':=s1.toks) (fun b u e=>Heap.get?_push_of_some _ e) (Nat.le_refl _) ?_,rfl,q _ hf⟩
 exact ⟨z,us,r,⟨_,Heap.get?_push_size _ rfl,rfl,⟨_,rfl⟩,rfl⟩⟩
theorem ku (h:PA X es t):PE X (.List es pos) (VC t):=by
 intro pins s σ H Q I hq
 refine wpAny_List_spliced (thn (h pos pins s σ H _ I hq) fun us s1 ⟨xs,H1,I1,r,z,q⟩=>⟨by rw [<- r.length];exact z,?_⟩)
 have hf:H1 s1.heap.objs.size=none:=I1.hok.fresh (Nat.le_refl _)
 refine ⟨.ref s1.heap.objs.size,upd H1 s1.heap.objs.size (.lst xs),I1.laid (t':=s1.toks) (fun b u e=>Heap.get?_push_of_some _ e) (Nat.le_refl _) ?_,rfl,q _ hf⟩
 exact ⟨z,us,0,r,Heap.get?_push_size _ rfl⟩
end
noncomputable abbrev Sp:=List V->Hp->VK->XK->Prop
noncomputable abbrev CXT:=List Env->Hp->Shared->XK->Value->Shared->Prop
structure KN (P:Program)(w:World)(K:PySem.W.Frag)(mg:Str->Option Value)(base:Heap)(A:Around)(outer:List Env)(s:Shared)(H:Hp):Prop where
 frames:A.frames=some outer
 mod:Mod K mg base
 bs:∀ b o,base.get? b=some o->s.heap.get? b=some o/\H b=none
 bsz:base.objs.size<=s.heap.objs.size
 funs:s.heap.FunFrames base outer
 frf:∀ b ∈ frs outer,H b=none
 hok:HOk P w H s.heap
 bare:AllBare s.gens
noncomputable def CE (outer:List Env)(P:Program)(w:World)(H:Hp)(s:Shared)(Q:VK)(u:Value)(s':Shared):Prop:=
 ∃ v H',s'.os=s.os/\AllBare s'.gens/\Un (frs outer) [] H H' s.heap s'.heap/\HOk P w H' s'.heap/\zm v u/\Q v H'
noncomputable def CR (CX:CXT)(outer:List Env)(P:Program)(w:World)(H:Hp)(s:Shared)(Q:VK)(E:XK)(r:Result)(s':Shared):Prop:=
 match r with
 | .ok (.ret u)=>CE outer P w H s Q u s'
 | .ok _=>False
 | .error e=>CX outer H s E e s'
structure jo (P:Program)(w:World)(K:PySem.W.Frag)(mg:Str->Option Value)(base:Heap)(CX:CXT)(k:Nat)(f:Addr)(fd:FuncData)(ps:List Str)(sp:Sp):Prop where
 len:∀ vs H Q E,sp vs H Q E->vs.length=ps.length
 run:∀ (A:Around) (outer:List Env) (s:Shared) (H:Hp) (args:Args) (us:List Value) (vs:List V) (Q:VK) (E:XK),qE k A->KN P w K mg base A outer s H->BindsTo s fd args (ps.zip us)->zk vs us->sp vs H Q E ->
  codeAny (model P w) A (.call (.ref f) args) (CR CX outer P w H s Q E) s
theorem jo.mono {P:Program}{w:World}{K:PySem.W.Frag}{mg:Str->Option Value}{base:Heap}{CX:CXT}{j k:Nat}{f:Addr}{fd:FuncData}{ps:List Str}{sp:Sp}(F:jo P w K mg base CX j f fd ps sp)(h:j<=k) :
  jo P w K mg base CX k f fd ps sp:=⟨F.len,fun A outer s H args us vs Q E hr=>F.run A outer s H args us vs Q E (hr.mono h)⟩
theorem jo.imp {P:Program}{w:World}{K:PySem.W.Frag}{mg:Str->Option Value}{base:Heap}{CX:CXT}{k:Nat}{f:Addr}{fd:FuncData}{ps:List Str}{sp sp':Sp}(F:jo P w K mg base CX k f fd ps sp)
  (h:∀ vs H Q E,sp' vs H Q E->sp vs H Q E):jo P w K mg base CX k f fd ps sp':=
 ⟨fun vs H Q E q=>F.len vs H Q E (h _ _ _ _ q),fun A outer s H args us vs Q E hr he hb hv hs=>F.run A outer s H args us vs Q E hr he hb hv (h _ _ _ _ hs)⟩
section
variable {X:Cx}{pins:List (Addr × Obj)}{σ:St}{H:Hp}{s s':Shared}
theorem Inv.env0 (I:Inv X pins σ H s):KN X.prog X.w X.K X.mg X.base X.A X.stack s H:=
 ⟨I.ok.frames,I.ok.mod,I.bs,Nat.le_trans I.ok.bsz I.sz,I.stack,I.stkFree,I.hok,I.bare⟩
theorem Inv.after {Q:VK}{u:Value}(I:Inv X pins σ H s)(h:CE X.stack X.prog X.w H s Q u s'):EP X pins σ Q u s':=by
 obtain ⟨v,H',os,bare,un,hok,r,q⟩:=h
 obtain ⟨hh,g,d,t,os'⟩:=s'
 obtain rfl:os'=s.os:=os
 exact ⟨v,H',I.call (h':=hh) (g':=g) (d':=d) (t':=t) (ch:=[]) un hok bare (fun b z=>absurd z (by simp)),r,q⟩
end
noncomputable def wR (sp:Sp)(dvs:List V)(E:XK)(t:TA):TE:=fun σ H Q=>t σ H fun vs H1=>sp (vs ++ dvs) H1 Q E
noncomputable def xm (K:PySem.W.Frag)(fd:FuncData)(ps:List Str)(ds:List Value):Prop:=
 ∀ (s:Shared) (us:List Value),K.In s.heap->(us ++ ds).length=ps.length->BindsTo s fd ⟨us,[]⟩ (ps.zip (us ++ ds))
theorem xm.all {K:PySem.W.Frag}{fd:FuncData}{ps:List Str}(h:∀ us:List Value,us.length=ps.length->bindArgs fd ⟨us,[]⟩=pure (ps.zip us)):xm K fd ps []:=fun s us _ hl=>by
 rw [List.append_nil] at hl ⊢
 exact .of_eq (h us hl)
noncomputable def vV (CX:CXT)(X:Cx)(E:XK):Prop:=∀ (pins:List (Addr × Obj)) (σ:St) (H:Hp) (s:Shared) (e:Value) (s':Shared),Inv X pins σ H s->CX X.stack H s E e s'->X.xe e s'
section
variable {X:Cx}{CX:CXT}{k:Nat}{f C:Addr}{fd:FuncData}{ps:List Str}{sp:Sp}{dvs:List V}{ds:List Value}{E:XK}{x m:Str}{p pos apos:Pos}{e o:Expr}{es:List Expr}{ta:TE}{t:TA}
theorem YQ {pins:List (Addr × Obj)}{σ:St}{H:Hp}{s:Shared}{Q:VK}{us:List Value}{vs:List V}(F:jo X.prog X.w X.K X.mg X.base CX k f fd ps sp)(hr:qE k X.A)(hb:xm X.K fd ps ds)(hd:zk dvs ds)(hx:vV CX X E)
  (I:Inv X pins σ H s) (r:zk vs us) (h:sp (vs ++ dvs) H Q E):wpAny (model X.prog X.w) X.A (call (.ref f) us) (EP X pins σ Q) X.xe s:=by
 have r2:zk (vs ++ dvs) (us ++ ds):=r.append hd
 have hl:(us ++ ds).length=ps.length:=by rw [<- r2.length];exact F.len _ _ _ _ h
 refine wpAny_call (codeAny_mono (F.run X.A X.stack s H ⟨us,[]⟩ (us ++ ds) (vs ++ dvs) Q E hr I.env0 (hb s us I.kIn hl) r2 h) fun r s' hq=>?_)
 cases r with
 | error e=>exact hx pins σ H s e s' I hq
 | ok fl=>
  cases fl with
  | ret u=>exact I.after hq
  | next=>exact False.elim hq
  | brk=>exact False.elim hq
  | cont=>exact False.elim hq
theorem Xi (F:jo X.prog X.w X.K X.mg X.base CX k f fd ps sp)(hr:qE k X.A)(hg:Gl X x)(hm:X.mg x=some (.ref f))(hk:PySem.W.keepIn X.K (.ref f)=true)(hb:xm X.K fd ps ds)(hd:zk dvs ds)(hx:vV CX X E)
  (ha:PA X (e :: es) t) (hdb:(x == ("__debug__":Str))=false:=by decide) (he:starEach (e :: es) X.env=(false,eval e X.env) :: starEach es X.env:=by rfl) (hpl:(backTo pos (starEach es X.env)).any (·.1)=false:=by rfl) :
  PE X (.Call (.Name x p) (e :: es) [] pos) (wR sp dvs E t):=by
 intro pins s σ H Q I h
 refine wpAny_Call_Name_kw (Xy I hg hm ?_ hdb)
 refine PySem.W.callWith_K (h₀:=X.base) I.ok.mod.kin hk (thn (ha pos pins s σ H _ I h) fun us s1 ⟨vs,H1,I1,r,q⟩=>⟨I1.kIn,?_⟩) he hpl
 exact YQ F hr hb hd hx I1 r q
structure Mk (K:PySem.W.Frag)(C f:Addr):Prop where
 makes:PySem.W.makesIn K C=true
 init:PySem.W.findIn K (.ref C) "__init__"=some (some (.ref f))
 fn:PySem.W.isFn K (.ref f)=true
 kp:PySem.W.keepIn K (.ref C)=true
end
section
variable {X:Cx}{CX:CXT}{k:Nat}{f C:Addr}{fd:FuncData}{ps ks:List Str}{sp:Sp}{E:XK}{x m:Str}{p pos apos kpos:Pos}{e o:Expr}{es:List Expr}{kws:List Keyword}{te ta:TE}{t tk:TA}{nm:Option Str}
structure W2 (K:PySem.W.Frag)(fd:FuncData)(ps ks:List Str)(g:List Value->List Value->List Value)(gV:List V->List V->List V):Prop where
 to:∀ (s:Shared) (us ws:List Value),K.In s.heap->(g us ws).length=ps.length->BindsTo s fd ⟨us,ks.zip ws⟩ (ps.zip (g us ws))
 rel:∀ {vs:List V} {us:List Value} {zs:List V} {ws:List Value},zk vs us->zk zs ws->zk (gV vs zs) (g us ws)
variable {g:List Value->List Value->List Value}{gV:List V->List V->List V}
end
structure zB (N P:List Str)(sc:Scope):Prop where
 kind:sc.kind=.function
 co:sc.isCoroutine=false
 gen:sc.isGenerator=false
 nd:N.Nodup
 pre:N.take P.length=P
 par:∀ x ∈ P,sc.names.lookup x=some .local \/ sc.names.lookup x=some .cell
 nofree:∀ y ∈ sc.names,y.2 ≠ .free
theorem xA {kindOf:Str->Option NameKind}{x:Str}:∀ {binds:List (Str × Value)} {m:Str->Option Value},(∀ v,(x,v) ∉ binds)->bindL kindOf binds m x=m x
 | [],_,_=>rfl
 | (n,v) :: r,m,h=>by
  unfold bindL
  rw [xA fun w hw=>h w (List.mem_cons_of_mem _ hw)]
  split
  ·have:x ≠ n:=by rintro rfl;exact h v List.mem_cons_self
   simp [this]
  ·rfl
theorem xI {kindOf:Str->Option NameKind}{x:Str}:∀ {binds:List (Str × Value)} {m:Str->Option Value},(∀ v,(x,v) ∉ binds)->bindC kindOf binds m x=m x
 | [],_,_=>rfl
 | (n,v) :: r,m,h=>by
  unfold bindC
  rw [xI fun w hw=>h w (List.mem_cons_of_mem _ hw)]
  split
  ·rfl
  ·have:x ≠ n:=by rintro rfl;exact h v List.mem_cons_self
   simp [this]
theorem xy {kindOf:Str->Option NameKind}{x:Str}{v:Value}:∀ {P:List Str} {vs:List Value} {i:Nat} {m:Str->Option Value},P.Nodup->P[i]?=some x->vs[i]?=some v->kindOf x=some .local ->
  bindL kindOf (P.zip vs) m x=some v
 | [],_,_,_,_,h,_,_=>by simp at h
 | _ :: _,[],_,_,_,_,h,_=>by simp at h
 | p :: P,w :: vs,0,m,nd,h1,h2,hk=>by
  simp at h1 h2;subst h1;subst h2
  show bindL kindOf ((p,w) :: P.zip vs) m p=_
  unfold bindL
  rw [xA fun v hv=>(List.nodup_cons.mp nd).1 (List.of_mem_zip hv).1,if_pos hk]
  simp
 | p :: P,w :: vs,i+1,m,nd,h1,h2,hk=>by
  show bindL kindOf ((p,w) :: P.zip vs) m x=_
  unfold bindL
  exact xy (i:=i) (List.nodup_cons.mp nd).2 (by simpa using h1) (by simpa using h2) hk
theorem xr {kindOf:Str->Option NameKind}{x:Str}{v:Value}:∀ {P:List Str} {vs:List Value} {i:Nat} {m:Str->Option Value},P.Nodup->P[i]?=some x->vs[i]?=some v->kindOf x ≠ some .local ->
  bindC kindOf (P.zip vs) m x=some v
 | [],_,_,_,_,h,_,_=>by simp at h
 | _ :: _,[],_,_,_,_,h,_=>by simp at h
 | p :: P,w :: vs,0,m,nd,h1,h2,hk=>by
  simp at h1 h2;subst h1;subst h2
  show bindC kindOf ((p,w) :: P.zip vs) m p=_
  unfold bindC
  rw [xI fun v hv=>(List.nodup_cons.mp nd).1 (List.of_mem_zip hv).1,if_neg hk]
  simp
 | p :: P,w :: vs,i+1,m,nd,h1,h2,hk=>by
  show bindC kindOf ((p,w) :: P.zip vs) m x=_
  unfold bindC
  exact xr (i:=i) (List.nodup_cons.mp nd).2 (by simpa using h1) (by simpa using h2) hk
noncomputable def qA (N:List Str)(vs:List V):St:=vs.map some ++ List.replicate (N.length - vs.length) none
noncomputable def yg (CX:CXT)(P:Program)(w:World)(K:PySem.W.Frag)(mg:Str->Option Value)(base:Heap)(N:List Str)(qual:Str)(scope:Scope)(f:Addr)(cd:Value)(A:Around)(outer:List Env)(s:Shared)(H:Hp)(E:XK):Cx where
 prog:=P
 w:=w
 K:=K
 mg:=mg
 base:=base
 A:=A.deeper (envOfC qual scope s.heap.objs.size f cd)
 N:=N
 s₀:=s
 H₀:=H
 env:=envOfC qual scope s.heap.objs.size f cd
 outer:=outer
 stack:=envOfC qual scope s.heap.objs.size f cd :: outer
 ex:=[]
 calm:=true
 fn:=fun _=>true
 pn:=[]
 xe:=fun e s'=>wpAny (model P w) (A.deeper (envOfC qual scope s.heap.objs.size f cd)) (leaving (envOfC qual scope s.heap.objs.size f cd) e) (fun _ s''=>CX outer H s E e s'') (fun e' s''=>CX outer H s E e' s'') s'
theorem yR {sc:Scope}{n:Nat}{x:Str}(h:sc.names.lookup x=some .cell):∃ c,(cellsFrom n sc.names []).lookup x=some c:=by
 have q:=PySem.W.cellsFrom_some sc.names n [] (.inl h)
 exact Option.isSome_iff_exists.mp q
theorem Z5 {CX : CXT}{P : Program}{w : World}{K : PySem.W.Frag}{mg : Str -> Option Value}{base : Heap}{N ps : List Str}{qual : Str}{scope : Scope}{f : Addr}{cd : Value}{A : Around}{outer : List Env}{s s1 : Shared}{H : Hp}{E : XK}{us : List Value}{vs : List V}
    (S:zB N ps scope) (hd:A.handled=none) (e0:KN P w K mg base A outer s H) (hl:vs.length=ps.length) (r:zk vs us)
    (x:InCallC s s.heap.objs.size (bindL (envOfC qual scope s.heap.objs.size f cd).kindOf (ps.zip us) fun _=>none) (cellsFrom (s.heap.objs.size+1) scope.names []) (bindC (envOfC qual scope s.heap.objs.size f cd).kindOf (ps.zip us) fun _=>none) s1) :
    Inv (yg CX P w K mg base N qual scope f cd A outer s H E) [] (qA N vs) H s1:=by
  have hpl:ps.length<=N.length:=by have:=congrArg List.length S.pre;rw [List.length_take] at this;omega
  obtain ⟨h1,tk,rfl,hk⟩:=x.done
  have noA:∀ b:Addr,b ∉ (yg CX P w K mg base N qual scope f cd A outer s H E).ex:=fun b z=>absurd (show b ∈ ([]:List Addr) from z) (by simp)
  refine ⟨⟨e0.mod,S.kind,rfl,rfl,Nat.le_refl _,fun y z c h1 h2=>?_,fun y hy=>?_,fun y c _ h=>?_,fun _=>hd,Around.frames_deeper e0.frames,.inr ⟨rfl,rfl⟩,fun b z=>absurd z (noA b),e0.bs,e0.bsz,fun b _ _=>noA b,fun b z=>absurd z (noA b),e0.funs,e0.frf⟩,
    rfl,e0.bare,Un.kept hk,⟨_,x.toInCall.ns,fun i y v h1 h2 h3=>?_⟩,fun y c h=>⟨_,x.cell y c h⟩,e0.hok.fresh (Nat.le_refl _),fun y c h=>?_,fun p hp=>absurd (show p ∈ ([]:List (Addr × Obj)) from hp) (by simp),e0.hok.kept hk,?_⟩
  · exact name_of_addr x.apart (PySem.mem_of_lookup h1) (PySem.mem_of_lookup h2)
  · have hy:scope.names.lookup y=some .cell \/ scope.names.lookup y=some .free:=hy
    rcases hy with hy | hy
    · exact yR hy
    · exact absurd rfl (S.nofree _ (PySem.mem_of_lookup hy))
  · exact Nat.le_of_lt (x.above y c (PySem.mem_of_lookup h))
  · have hi : i < vs.length := by
      unfold qA at h2
      by_cases hi:i<vs.length
      · exact hi
      · rw [List.getElem?_append_right (by simpa using hi)] at h2
        rw [List.getElem?_replicate] at h2
        split at h2 <;> cases h2
    have ha:vs[i]?=some v:=by
      unfold qA at h2
      rw [List.getElem?_append_left (by simpa using hi),List.getElem?_map] at h2
      cases e:vs[i]? with
      | none=>rw [e] at h2;cases h2
      | some a=>rw [e] at h2;cases h2;rfl
    obtain ⟨u,hu,rv⟩:=r.get ha
    have hp:ps[i]?=some y:=by
      rw [<- S.pre,List.getElem?_take_of_lt (by omega)];exact h1
    have ndP:ps.Nodup:=by rw [<- S.pre];exact S.nd.sublist (List.take_sublist _ _)
    refine ⟨u,rv,?_⟩
    rcases S.par y (List.mem_of_getElem? hp) with k | k
    · exact .inl ⟨k,xy ndP hp hu k⟩
    · obtain ⟨c,e⟩:=yR (n:=s.heap.objs.size+1) k
      refine .inr ⟨.inl k,c,e,?_⟩
      have q:=x.cell y c e
      rw [xr ndP hp hu (by show scope.names.lookup y ≠ _;rw [k];decide)] at q
      exact q
  · exact e0.hok.fresh (Nat.le_of_lt (x.above y c (PySem.mem_of_lookup h)))
  · unfold qA
    show _=N.length
    rw [List.length_append,List.length_map,List.length_replicate]
    omega
theorem W1 {CX:CXT}{P:Program}{w:World}{K:PySem.W.Frag}{mg:Str->Option Value}{base:Heap}{k:Nat}{f:Addr}{name qual:Str}{params:Arguments}{body:List Stmt}{scope:Scope}{dV kV doc pm cdv ct oc:Value}{an od:Option Addr}
  {osl:Array (Option Value)} {N ps:List Str} {sp:Sp} (lk:K.lookup f=some ⟨oc,od,.func (PySem.W.fnOf name qual params body scope dV kV doc pm an cdv ct),osl⟩) (hcd:PySem.W.codeIn K cdv qual=true) (S:zB N ps scope)
  (len:∀ vs H Q E,sp vs H Q E->vs.length=ps.length)
  (hbody:∀ (A:Around) (outer:List Env) (s:Shared) (H:Hp) (vs:List V) (Q:VK) (E:XK),qE k (A.deeper (envOfC qual scope s.heap.objs.size f cdv))->sp vs H Q E ->
   ∃ t,PSs (yg CX P w K mg base N qual scope f cdv A outer s H E) body t/\t { nx:=fun _ H'=>Q .non H',rt:=Q } (qA N vs) H) :
  jo P w K mg base CX (k+1) f (PySem.W.fnOf name qual params body scope dV kV doc pm an cdv ct) ps sp:=by
 refine ⟨len,fun A outer s H args us vs Q E hr e0 hb r hsp=>?_⟩
 have hl:=len _ _ _ _ hsp
 have KX:K.In s.heap:=e0.mod.kin.keeps fun b o e=>(e0.bs b o e).1
 have lim:s.heap.NoLimit:=e0.mod.nolimit.keeps fun b o e=>(e0.bs b o e).1
 have hkind:∀ y ∈ ps.zip us,scope.names.lookup y.1=some .local \/ (scope.names.lookup y.1=some .cell/\((cellsFrom (s.heap.objs.size+1) scope.names []).lookup y.1).isSome=true):=fun ⟨n,v⟩ hy=>by
  rcases S.par n (List.of_mem_zip hy).1 with q | q
  ·exact .inl q
  ·exact .inr ⟨q,PySem.W.cellsFrom_some _ _ _ (.inl q)⟩
 refine codeAny_call_function hr.depth (KX _ _ lk) rfl S.co S.gen rfl (PySem.W.codeRec_of KX hcd) (hb _ _ _ _ ?_)
 refine wpAny_newFunctionEnv_cells S.kind hkind fun env he s1 x=>?_
 subst he
 refine ⟨lim.keeps x.toInCall.keep,codeAny_func ?_⟩
 obtain ⟨t,ht,hq⟩:=hbody A outer s H vs Q E (hr.deeper _) hsp
 have I:Inv (yg CX P w K mg base N qual scope f cdv A outer s H E) [] (qA N vs) H s1:=Z5 S hr.hd e0 hl r x
 refine wpAny_mono (ht [] s1 (qA N vs) H _ I hq) (fun fl s' hs=>?_) fun e s' hs=>hs
 have fin:∀ {σ':St} {H':Hp} {v:V} {u:Value},Inv (yg CX P w K mg base N qual scope f cdv A outer s H E) [] σ' H' s'->zm v u->Q v H'->CE outer P w H s Q u s':=
  fun {σ' H' v u} J rv q=>⟨v,H',J.os,J.bare,J.base,J.hok,rv,q⟩
 cases fl with
 | ret u=>
  obtain ⟨v,σ',H',J,rv,q⟩:=hs
  exact fin J rv q
 | next=>
  obtain ⟨σ',H',J,q⟩:=hs
  exact fin (v:=V.non) (u:=Value.none) J rfl q
 | brk=>
  obtain ⟨_,_,_,q⟩:=hs
  exact False.elim q
 | cont=>
  obtain ⟨_,_,_,q⟩:=hs
  exact False.elim q
section
variable {X:Cx}{x:Str}{p pos:Pos}{e:Expr}{es:List Expr}{t:TA}{id T:String}{r:List V->Hp->VK->Prop}
noncomputable def tCB (r:List V->Hp->VK->Prop)(t:TA):TE:=fun σ H Q=>t σ H fun vs H1=>r vs H1 Q
theorem zu (hc:qm X (.builtin id) r)(hg:Gl X x)(hm:X.mg x=none)(hv:bootBuiltins x=some (.builtin id))(ha:PA X (e :: es) t)(hn:x ≠ "__name__":=by decide)(hdb:(x == ("__debug__":Str))=false:=by decide)
  (he:starEach (e :: es) X.env=(false,eval e X.env) :: starEach es X.env:=by rfl) (hpl:(backTo pos (starEach es X.env)).any (·.1)=false:=by rfl):PE X (.Call (.Name x p) (e :: es) [] pos) (tCB r t):=by
 intro pins s σ H Q I h
 refine wpAny_Call_Name_kw (qN I hg hm hv ?_ hn hdb)
 exact PyProof.Rows.callWith_builtin1 (thn (ha pos pins s σ H _ I h) fun us s1 ⟨vs,H1,I1,r1,q1⟩=>hc pins s1 σ H1 vs us Q I1 r1 q1) he hpl
theorem zC (hc:qm X (.type T) r)(hg:Gl X x)(hm:X.mg x=none)(hv:bootBuiltins x=some (.type T))(ha:PA X (e :: es) t)(hn:x ≠ "__name__":=by decide)(hdb:(x == ("__debug__":Str))=false:=by decide)
  (he:starEach (e :: es) X.env=(false,eval e X.env) :: starEach es X.env:=by rfl) (hpl:(backTo pos (starEach es X.env)).any (·.1)=false:=by rfl):PE X (.Call (.Name x p) (e :: es) [] pos) (tCB r t):=by
 intro pins s σ H Q I h
 refine wpAny_Call_Name_kw (qN I hg hm hv ?_ hn hdb)
 exact PyProof.Rows.callWith_type1 (thn (ha pos pins s σ H _ I h) fun us s1 ⟨vs,H1,I1,r1,q1⟩=>hc pins s1 σ H1 vs us Q I1 r1 q1) he hpl
end
end L2
namespace HT
open PySem PyProof.Rows
section
open PySem.SeqAt
open PySem.AutoSeq1 (wpAny_loadPart')
open PySem.MeetsSeq PySem.MeetsSeq2 PySem.MeetsSeq3
end
section
variable {prog:Program}{w:World}{A:Around}{E:Value->Shared->Prop}{s:Shared}
noncomputable def sIx (n d:Nat):Option Int->Nat
 | none=>d
 | some v=>if v<0 then (v+(n:Int)).toNat else min v.toNat n
theorem sIx_none (n d:Nat):sIx n d none=d:=rfl
theorem sIx_nat (n d k:Nat):sIx n d (some (k:Int))=min k n:=by
 show (if (k:Int)<0 then ((k:Int)+(n:Int)).toNat else min (k:Int).toNat n)=min k n
 rw [if_neg (by omega),Int.toNat_natCast]
end
end HT
namespace L2
open PySem PySem.Spec PyProof.Rows
noncomputable abbrev TO:=St->Hp->(Option Int->Hp->Prop)->Prop
noncomputable def PO (X:Cx)(e:Option Expr)(t:TO):Prop:=
 ∀ (pins:List (Addr × Obj)) (s:Shared) (σ:St) (H:Hp) (Q:Option Int->Hp->Prop),Inv X pins σ H s->t σ H Q ->
  wpAny (model X.prog X.w) X.A (evalPart e X.env) (fun u s'=>∃ o H',Inv X pins σ H' s'/\IsPart u o/\Q o H') X.xe s
noncomputable def wo:TO:=fun _ H Q=>Q none H
noncomputable def XH (t:TE):TO:=fun σ H Q=>t σ H fun x H1=>∃ i,x=.int i/\Q (some i) H1
section
variable {X:Cx}{e:Expr}{te:TE}{lo hi:Option Expr}{tl th:TO}{pos p2:Pos}
theorem Ke:PO X none wo:=by
 intro pins s σ H Q I h
 rw [evalPart_none]
 exact wpAny_pure ⟨none,H,I,.none,h⟩
theorem xW (h:PE X e te):PO X (some e) (XH te):=by
 intro pins s σ H Q I hw
 rw [evalPart_some]
 refine thn (h pins s σ H _ I hw) fun u s1 ⟨x,H1,I1,r1,q1⟩=>?_
 obtain ⟨i,rfl,q⟩:=q1
 obtain ⟨t,rfl⟩:=r1
 exact ⟨some i,H1,I1,.int i t,q⟩
noncomputable def SlR (X:Cx)(r:V->Option Int->Option Int->Hp->VK->Prop):Prop:=
 ∀ (pins:List (Addr × Obj)) (s:Shared) (σ:St) (H:Hp) (x:V) (v vl vu:Value) (lo hi:Option Int) (sl:Addr) (Q:VK),Inv X pins σ H s->zm x v->s.heap.IsSliceOf sl vl vu .none->IsPart vl lo->IsPart vu hi->r x lo hi H Q ->
  ∃ T id,typeLookup (.type T) "__getitem__"=pure (some (.builtin id))/\s.TypeIs v T/\wpAny (model X.prog X.w) X.A (getItem v (.ref sl)) (EP X pins σ Q) X.xe s
noncomputable def tSl (r:V->Option Int->Option Int->Hp->VK->Prop)(te:TE)(tl th:TO):TE:=fun σ H Q=>te σ H fun x H1=>tl σ H1 fun l H2=>th σ H2 fun u H3=>r x l u H3 Q
theorem yV {r:V->Option Int->Option Int->Hp->VK->Prop}(hr:SlR X r)(he:PE X e te)(hl:PO X lo tl)(hu:PO X hi th):PE X (.Subscript e (.Slice lo hi none p2) pos) (tSl r te tl th):=by
 intro pins s σ H Q I h
 refine Subscript_ (thn (he pins s σ H _ I h) fun v s1 ⟨x,H1,I1,r1,q1⟩=>?_)
 refine wpAny_Slice (thn (hl pins s1 σ H1 _ I1 q1) fun vl s2 ⟨l,H2,I2,pl,q2⟩=>thn (hu pins s2 σ H2 _ I2 q2) fun vu s3 ⟨u,H3,I3,pu,q3⟩=>?_)
 rw [evalPart_none]
 refine wpAny_pure ?_
 have I4:Inv X pins σ H3 { s3 with heap:=s3.heap.push { cls:=.type "slice",data:=.fields #[vl,vu,.none] } }:=I3.kept (t':=s3.toks) fun b ob q=>Heap.get?_push_of_some _ q
 obtain ⟨T,id,hT,ht,hg⟩:=hr pins { s3 with heap:=s3.heap.push { cls:=.type "slice",data:=.fields #[vl,vu,.none] } } σ H3 x v vl vu l u s3.heap.objs.size Q I4 r1 (Heap.IsSliceOf.new ..) pl pu q3
 show wpAny (model X.prog X.w) X.A (subscriptTail e (.Slice lo hi none p2) v (.ref s3.heap.objs.size)) (EP X pins σ Q) X.xe { s3 with heap:=s3.heap.push { cls:=.type "slice",data:=.fields #[vl,vu,.none] } }
 exact tail_any (ops:=[.ref s3.heap.objs.size,v]) ht hT hg (by with_unfolding_all rfl)
noncomputable def ZS (xs:List V)(lo hi:Option Int):List V:=(xs.drop (HT.sIx xs.length 0 lo)).take (HT.sIx xs.length xs.length hi - HT.sIx xs.length 0 lo)
theorem vi (xs:List V)(lo hi:Option Int):(ZS xs lo hi).length<=xs.length:=by
 unfold ZS
 rw [List.length_take,List.length_drop]
 omega
end
noncomputable def ixN (n:Nat)(i:Int):Option Nat:=if 0<=i then (if i<n then some i.toNat else none) else if -(n:Int)<=i then some (i+n).toNat else none
noncomputable def atI {α:Type}(xs:List α)(i:Int):Option α:=(ixN xs.length i).bind fun j=>xs[j]?
theorem wV {n:Nat}{i:Int}{j:Nat}(h:ixN n i=some j):seqIndex? i n=some j/\j<n/\-(n:Int)<=i/\i<n:=by
 unfold ixN at h
 by_cases h0:0<=i
 ·rw [if_pos h0] at h
  by_cases h1:i<n
  ·rw [if_pos h1] at h
   have e:i.toNat=j:=Option.some.inj h
   exact ⟨by rw [seqIndex_of h0 h1,e],by omega,by omega,h1⟩
  ·rw [if_neg h1] at h;cases h
 ·rw [if_neg h0] at h
  by_cases h1:-(n:Int)<=i
  ·rw [if_pos h1] at h
   have e:(i+n).toNat=j:=Option.some.inj h
   exact ⟨by rw [seqIndex_neg (by omega) h1,e],by omega,h1,by omega⟩
  ·rw [if_neg h1] at h;cases h
theorem Zc {α:Type}{xs:List α}{i:Int}{v:α}(h:atI xs i=some v):∃ j,seqIndex? i xs.length=some j/\xs[j]?=some v/\j<xs.length/\-(xs.length:Int)<=i/\i<xs.length:=by
 unfold atI at h
 cases e:ixN xs.length i with
 | none=>rw [e] at h;cases h
 | some j=>
  rw [e] at h
  obtain ⟨h1,h2,h3,h4⟩:=wV e
  exact ⟨j,h1,h,h2,h3,h4⟩
theorem K6 {α:Type}{xs:List α}{j:Nat}{v:α}(h:xs[j]?=some v):atI xs (j:Int)=some v:=by
 have hj:j<xs.length:=(List.getElem?_eq_some_iff.mp h).1
 have e:ixN xs.length (j:Int)=some j:=by
  unfold ixN
  rw [if_pos (by omega),if_pos (by omega)];simp
 unfold atI;rw [e];exact h
noncomputable def KR (b:Expr):Prop:=∀ o i,subscripted b false o i=operate [o,i] (getItem o i)
noncomputable def IxR (X:Cx)(r:R2):Prop:=
 ∀ (value slice:Expr) (pins:List (Addr × Obj)) (s:Shared) (σ:St) (H:Hp) (x y:V) (v u:Value) (Q:VK),Inv X pins σ H s->zm x v->zm y u->r x y H Q ->
  subscripted slice false v u=operate [v,u] (getItem v u)->wpAny (model X.prog X.w) X.A (subscriptTail value slice v u) (EP X pins σ Q) X.xe s
noncomputable def MtR (X:Cx)(id:String)(r:V->List V->Hp->VK->Prop):Prop:=
 ∀ (pins:List (Addr × Obj)) (s:Shared) (σ:St) (H:Hp) (x:V) (xs:List V) (v:Value) (us:List Value) (Q:VK),Inv X pins σ H s->zm x v->zk xs us->r x xs H Q ->
  wpAny (model X.prog X.w) X.A (call (.builtin id) (v :: us)) (EP X pins σ Q) X.xe s
section
variable {X:Cx}{a b:Expr}{ta tb:TE}{pos:Pos}
theorem zz {r:R2}(hr:IxR X r)(ha:PE X a ta)(hb:PE X b tb)(hs:KR b):PE X (.Subscript a b pos) (tOp r ta tb):=by
 intro pins s σ H Q I h
 exact Subscript_ (X3 ha hb I h fun v u s2 x y H2 I2 rx ry q=>hr a b pins s2 σ H2 x y v u Q I2 rx ry q (hs _ _))
noncomputable def Wu (K:PySem.W.Frag):R2:=fun x y H Q=>∃ p xs i v,x=.ref p/\y=.int i/\SqL K H p xs/\atI xs i=some v/\Q v H
noncomputable def W0 (K:PySem.W.Frag):R2:=fun x y H Q=>∃ p xs i v,x=.ref p/\y=.int i/\SqT K H p xs/\atI xs i=some v/\Q v H
theorem zQ:IxR X (Wu X.K):=by
  intro value slice pins s σ H x y v u Q I rx ry h hs
  obtain ⟨p,xs,i,z,rfl,rfl,hq,he,q⟩:=h
  cases rx
  obtain ⟨t,rfl⟩:=ry
  obtain ⟨its,r,pl,hz⟩:=I.list hq
  obtain ⟨j,h1,h2,h3,h4,h5⟩:=Zc he
  obtain ⟨w,ew,rw'⟩:=r.get h2
  have hl:=r.length
  have hn:=xU
  have fin:EP X pins σ Q w s:=⟨z,H,I,rw',q⟩
  by_cases h0:0<=i
  · have hj : i.toNat = j := by
      rw [seqIndex_of h0 h5] at h1
      exact Option.some.inj h1
    exact item_listR pl.isList h0 (by omega) (by rw [hj];simpa using ew) fin hs
  · have hj : (i + (its.toArray.size : Int)).toNat = j := by
      rw [seqIndex_neg (by omega) h4] at h1
      rw [List.size_toArray,<- hl]
      exact Option.some.inj h1
    exact subscriptTail_builtinR (x:=w) pl.isList.typeIs slot_list_getitem.lookup
      (wpAny_getItem_list_neg (Q:=fun r s'=>r=w/\EP X pins σ Q r s') pl.isList (by omega) (by rw [List.size_toArray] <;> omega) (by omega) (by rw [hj];simpa using ew) ⟨rfl,fin⟩) hs
theorem Vk:IxR X (W0 X.K):=by
 intro value slice pins s σ H x y v u Q I rx ry h hs
 obtain ⟨p,xs,i,z,rfl,rfl,hq,he,q⟩:=h
 cases rx
 obtain ⟨t,rfl⟩:=ry
 obtain ⟨its,r,pl,hz⟩:=I.tuple hq
 obtain ⟨j,h1,h2,h3,h4,h5⟩:=Zc he
 obtain ⟨w,ew,rw'⟩:=r.get h2
 have hl:=r.length
 have hn:=xU
 have fin:EP X pins σ Q w s:=⟨z,H,I,rw',q⟩
 exact subscriptTail_builtinR (x:=w) pl.typeIs slot_tuple_getitem.lookup
  (getItem_tuple (j:=j) (Q:=fun r s'=>r=w/\EP X pins σ Q r s') pl (by omega) (by omega) (by rw [List.size_toArray,<- hl];exact h1) (by simpa using ew) ⟨rfl,fin⟩) hs
theorem vY (its:List Value)(n j:Nat)(u:Value):Obj.mapSeq (·.setIfInBounds j u) { cls:=.type "list",data:=.seq its.toArray n }={ cls:=.type "list",data:=.seq (its.set j u).toArray n }:=by
 simp [Obj.mapSeq]
theorem Inv.lst {pins:List (Addr × Obj)}{σ:St}{H:Hp}{s:Shared}{p:Addr}{xs:List V}(I:Inv X pins σ H s)(h:H p=some (.lst xs)) :
  ∃ (its:List Value) (n:Nat),zk xs its/\s.heap.get? p=some { cls:=.type "list",data:=.seq its.toArray n }/\xs.length<=sizeLine:=by
 obtain ⟨z,its,n,r,e⟩:=I.hok p _ h
 exact ⟨its,n,r,e,z⟩
theorem Inv.lstUpd {pins:List (Addr × Obj)}{σ:St}{H:Hp}{s:Shared}{p:Addr}{xs ys:List V}{its its':List Value}{n n':Nat}{f:Obj->Obj}(I:Inv X pins σ H s)(h:H p=some (.lst xs))
  (ho:s.heap.get? p=some { cls:=.type "list",data:=.seq its.toArray n }) (hf:f { cls:=.type "list",data:=.seq its.toArray n }={ cls:=.type "list",data:=.seq its'.toArray n' }) (r:zk ys its') (hz:ys.length<=sizeLine) (t:Nat) :
  Inv X pins σ (upd H p (.lst ys)) { s with heap:=s.heap.update p f,toks:=t }:=by
 have e:(s.heap.update p f).get? p=some { cls:=.type "list",data:=.seq its'.toArray n' }:=by
  rw [Heap.get?_update_self f ho (by rw [hf] <;> rfl),hf]
 refine I.write (x:=p) (e:=p) (by rw [h];trivial) (.inl rfl) (fun b u hb q=>(Heap.get?_update_other _ _ (Ne.symm hb)).trans q) ⟨_,e⟩ ?_
 exact ⟨hz,its',n',r,e⟩
noncomputable def XE:V->V->V->Hp->(Hp->Prop)->Prop:=fun o i v H Q=>∃ p xs k j,o=.ref p/\i=.int k/\H p=some (.lst xs)/\ixN xs.length k=some j/\Q (upd H p (.lst (xs.set j v)))
theorem Jk:Yc X XE:=by
  intro pins s σ H o i v ov iv u Q I ro ri rv h
  obtain ⟨p,xs,k,j,rfl,rfl,hp,hj,q⟩:=h
  cases ro
  obtain ⟨t,rfl⟩:=ri
  obtain ⟨its,n,r,ho,hz⟩:=I.lst hp
  obtain ⟨h1,h2,h3,h4⟩:=wV hj
  have hl:=r.length
  have hn:=xU
  have I':Inv X pins σ (upd H p (.lst (xs.set j v))) { s with heap:=s.heap.update p (Obj.mapSeq (·.setIfInBounds j u)) }:=
    I.lstUpd hp ho (vY its n j u) (r.set rv j) (by rw [List.length_set];exact hz) s.toks
  by_cases h0:0<=k
  · have hk : k.toNat = j := by
      rw [seqIndex_of h0 h4] at h1
      exact Option.some.inj h1
    exact PySem.W.ki_setAt ho h0 (by omega) (by rw [List.size_toArray,<- hl];exact h4) (by rw [hk];exact ⟨_,I',q⟩)
  · have hk : (k + (its.toArray.size : Int)).toNat = j := by
      rw [seqIndex_neg (by omega) h3] at h1
      rw [List.size_toArray,<- hl]
      exact Option.some.inj h1
    exact PySem.W.ki_setBack ho (by omega) (by rw [List.size_toArray,<- hl];exact h3) (by omega) (by rw [hk];exact ⟨_,I',q⟩)
theorem xX (lo hi:Option Int)(n:Nat):(sliceBounds lo hi none n).1=((HT.sIx n 0 lo:Nat):Int)/\(sliceBounds lo hi none n).2.1=((HT.sIx n n hi:Nat):Int)/\(sliceBounds lo hi none n).2.2=1:=by
 refine ⟨?_,?_,rfl⟩
 ·cases lo with
  | none=>simp [sliceBounds,HT.sIx]
  | some i=>
   simp only [sliceBounds,HT.sIx,Option.getD_none,show (1:Int) > 0 by decide,if_true]
   by_cases h:i<0
   ·simp only [h,if_true] <;> omega
   ·simp only [h,if_false] <;> omega
 ·cases hi with
  | none=>simp [sliceBounds,HT.sIx]
  | some i=>
   simp only [sliceBounds,HT.sIx,Option.getD_none,show (1:Int) > 0 by decide,if_true]
   by_cases h:i<0
   ·simp only [h,if_true] <;> omega
   ·simp only [h,if_false] <;> omega
theorem kZ (its:List Value)(lo hi:Option Int):slicePick its.toArray lo hi none=((its.drop (HT.sIx its.length 0 lo)).take (HT.sIx its.length its.length hi - HT.sIx its.length 0 lo)).toArray:=by
 obtain ⟨h1,h2,h3⟩:=xX lo hi its.toArray.size
 unfold slicePick
 rw [h1,h2,h3]
 simp only [sliceRange_one,pick_run,List.size_toArray] <;> rfl
noncomputable def Wr (K:PySem.W.Frag):V->Option Int->Option Int->Hp->VK->Prop:=fun x lo hi H Q=>∃ a xs,x=.ref a/\SqL K H a xs/\∀ p,H p=none->Q (.ref p) (upd H p (.lst (ZS xs lo hi)))
theorem wK:SlR X (Wr X.K):=by
 intro pins s σ H x v vl vu lo hi sl Q I rx hs pl pu h
 obtain ⟨a,xs,rfl,hx,q⟩:=h
 cases rx
 obtain ⟨its,r,ht,hz⟩:=I.list hx
 have hlen:=r.length
 refine ⟨"list",_,slot_list_getitem.lookup,ht.isList.typeIs,?_⟩
 refine wpAny_getItem_list_slice ht.isList hs pl pu .none (by simp) ?_ (by rw [List.size_toArray] <;> omega)
 rw [kZ,<- hlen]
 refine ⟨.ref s.heap.objs.size,_,I.laid (t':=s.toks) (o:=.lst (ZS xs lo hi)) (fun b ob q=>Heap.get?_push_of_some _ q) (Nat.le_refl _) ?_,rfl,q _ (I.hok.fresh (Nat.le_refl _))⟩
 exact ⟨Nat.le_trans (vi xs lo hi) hz,_,0,(r.drop (HT.sIx xs.length 0 lo)).take (HT.sIx xs.length xs.length hi - HT.sIx xs.length 0 lo),Heap.get?_push_size _ rfl⟩
noncomputable def xH:V->Bool
 | .non=>true
 | .bl _=>true
 | .int _=>true
 | .str _=>true
 | _=>false
noncomputable def eqV:V->V->Bool
 | .non,.non=>true
 | .bl a,.bl b=>a == b
 | .bl a,.int b=>(if a then 1 else 0) == b
 | .int a,.bl b=>a == (if b then 1 else 0)
 | .int a,.int b=>a == b
 | .str a,.str b=>a == b
 | _,_=>false
theorem V2 {A:Around}{s:Shared}{y x:V}{u v:Value}(ry:zm y u)(rx:zm x v)(fy:xH y=true)(fx:xH x=true):SeqAt.EqAt A s u v (eqV y x):=by
 cases y with
 | non=>
  cases ry
  cases x with
  | non=>cases rx;exact SeqAt.EqAt.same _
  | bl b=>cases rx;exact SeqAt.EqAt.none_bool b
  | int b=>obtain ⟨t,rfl⟩:=rx;exact SeqAt.EqAt.none_int b t
  | str b=>obtain ⟨t,rfl⟩:=rx;exact SeqAt.EqAt.none_str b t
  | _=>exact absurd (show false=true from fx) Bool.false_ne_true
 | bl a=>
  cases ry
  cases x with
  | non=>cases rx;exact SeqAt.EqAt.bool_none a
  | bl b=>cases rx;exact SeqAt.EqAt.bool_bool a b
  | int b=>obtain ⟨t,rfl⟩:=rx;exact SeqAt.EqAt.bool_int a b t
  | str b=>obtain ⟨t,rfl⟩:=rx;exact SeqAt.EqAt.bool_str a b t
  | _=>exact absurd (show false=true from fx) Bool.false_ne_true
 | int a=>
  obtain ⟨t',rfl⟩:=ry
  cases x with
  | non=>cases rx;exact SeqAt.EqAt.int_none a t'
  | bl b=>cases rx;exact SeqAt.EqAt.int_bool a t' b
  | int b=>obtain ⟨t,rfl⟩:=rx;exact SeqAt.EqAt.int_int a t' b t
  | str b=>obtain ⟨t,rfl⟩:=rx;exact SeqAt.EqAt.int_str a t' b t
  | _=>exact absurd (show false=true from fx) Bool.false_ne_true
 | str a=>
  obtain ⟨t',rfl⟩:=ry
  cases x with
  | non=>cases rx;exact SeqAt.EqAt.str_none a t'
  | bl b=>cases rx;exact SeqAt.EqAt.str_bool a t' b
  | int b=>obtain ⟨t,rfl⟩:=rx;exact SeqAt.EqAt.str_int a t' b t
  | str b=>obtain ⟨t,rfl⟩:=rx;exact SeqAt.EqAt.str_str a t' b t
  | _=>exact absurd (show false=true from fx) Bool.false_ne_true
 | _=>exact absurd (show false=true from fy) Bool.false_ne_true
noncomputable def eqU (x:V)(u:Value):Bool:=match u with
 | .none=>eqV .non x
 | .bool b=>eqV (.bl b) x
 | .int i _=>eqV (.int i) x
 | .str z _=>eqV (.str z) x
 | _=>false
theorem Vj {x y:V}{u:Value}(r:zm y u)(f:xH y=true):eqU x u=eqV y x:=by
 cases y with
 | non=>cases r;rfl
 | bl b=>cases r;rfl
 | int i=>obtain ⟨t,rfl⟩:=r;rfl
 | str z=>obtain ⟨t,rfl⟩:=r;rfl
 | _=>exact absurd (show false=true from f) Bool.false_ne_true
theorem vx {A:Around}{s:Shared}{x:V}{v:Value}(rx:zm x v)(fx:xH x=true):∀ {xs:List V} {us:List Value},zk xs us->xs.all xH=true->∀ u ∈ us,SeqAt.EqAt A s u v (eqU x u)
 | _,_,.nil,_=>fun u hu=>by cases hu
 | y :: xs,u :: us,.cons r t,f=>fun u' hu=>by
  rw [List.all_cons,Bool.and_eq_true] at f
  rcases List.mem_cons.mp hu with rfl | hu
  ·rw [Vj r f.1];exact V2 r rx f.1 fx
  ·exact vx rx fx t f.2 u' hu
theorem zW:qm X (.builtin "len") (fun xs H Q=>∃ p ys,xs=[.ref p]/\(SqL X.K H p ys \/ SqT X.K H p ys)/\Q (.int ys.length) H):=by
 intro pins s σ H xs us Q I r h
 obtain ⟨p,ys,rfl,hq,q⟩:=h
 obtain ⟨u,rfl,rx⟩:=qU r
 cases rx
 have hn:=xU
 rcases hq with hq | hq
 ·obtain ⟨its,r',pl,hz⟩:=I.list hq
  have hlen:=r'.length
  exact Calls.call_len_list pl.isList (by simp only [List.size_toArray] <;> omega) ⟨.int ys.length,H,I.tok _,⟨s.toks+1,by rw [List.size_toArray,hlen]⟩,q⟩
 ·obtain ⟨its,r',pl,hz⟩:=I.tuple hq
  have hlen:=r'.length
  exact len_tuple pl (by simp only [List.size_toArray] <;> omega) ⟨.int ys.length,H,I.tok _,⟨s.toks+1,by rw [List.size_toArray,hlen]⟩,q⟩
theorem qQ:qm X (.type "list") (fun xs H Q=>∃ p ys,xs=[.ref p]/\(SqL X.K H p ys \/ SqT X.K H p ys)/\∀ l,H l=none->Q (.ref l) (upd H l (.lst ys))):=by
 intro pins s σ H xs us Q I r h
 obtain ⟨p,ys,rfl,hq,q⟩:=h
 obtain ⟨u,rfl,rx⟩:=qU r
 cases rx
 have fin:∀ (its:List Value),zk ys its->ys.length<=sizeLine->∀ (h':Heap) (c':Nat),(∀ b o',s.heap.get? b=some o'->h'.get? b=some o') ->
   h'.get? s.heap.objs.size=some { cls:=.type "list",dict:=none,data:=.seq its.toArray c',slots:=#[] }->EP X pins σ Q (.ref s.heap.objs.size) { s with heap:=h' }:=fun its r' hz h' c' kp e=>
  ⟨.ref s.heap.objs.size,_,I.laid (t':=s.toks) kp (Nat.le_refl _) (show zx X.prog X.w _ h' _ (.lst ys) from ⟨hz,its,c',r',e⟩),rfl,q _ (I.hok.fresh (Nat.le_refl _))⟩
 rcases hq with hq | hq
 ·obtain ⟨its,r',pl,hz⟩:=I.list hq
  have hlen:=r'.length
  obtain ⟨o,ho,hc,n,hd⟩:=pl.isList
  exact call_list_seq p (.inl rfl) ho hc hd (fun h' c' kp e=>fin its r' hz h' c' kp e) (by simp only [List.size_toArray] <;> omega)
 ·obtain ⟨its,r',pl,hz⟩:=I.tuple hq
  have hlen:=r'.length
  obtain ⟨o,ho,hc,n,hd⟩:=pl
  exact call_list_seq p (.inr rfl) ho hc hd (fun h' c' kp e=>fin its r' hz h' c' kp e) (by simp only [List.size_toArray] <;> omega)
theorem qh:qm X (.type "tuple") (fun xs H Q=>∃ p ys,xs=[.ref p]/\((SqL X.K H p ys/\∀ l,H l=none->Q (.ref l) (upd H l (.tup ys))) \/ (SqT X.K H p ys/\Q (.ref p) H))):=by
 intro pins s σ H xs us Q I r h
 obtain ⟨p,ys,rfl,h⟩:=h
 obtain ⟨u,rfl,rx⟩:=qU r
 cases rx
 rcases h with ⟨hq,q⟩ | ⟨hq,q⟩
 ·obtain ⟨its,r',pl,hz⟩:=I.list hq
  have hlen:=r'.length
  refine call_tuple_list pl.isList (fun h' kp=>?_) (by simp only [List.size_toArray] <;> omega)
  have I1:Inv X pins σ H { s with heap:=h' }:=I.kept (t':=s.toks) kp
  have I2:Inv X pins σ (upd H h'.objs.size (.tup ys)) { s with heap:=h'.push { cls:=.type "tuple",data:=.seq its.toArray } }:=
   I1.laid (t':=s.toks) (fun b o e=>Heap.get?_push_of_some _ e) (Nat.le_refl _) (show zx X.prog X.w _ _ _ (.tup ys) from ⟨hz,its,r',vz.new _ _⟩)
  exact ⟨.ref h'.objs.size,_,I2,rfl,q _ (I1.hok.fresh (Nat.le_refl _))⟩
 ·obtain ⟨its,r',pl,hz⟩:=I.tuple hq
  exact call_tuple_same pl ⟨.ref p,H,I,rfl,q⟩
noncomputable def tyV (K:PySem.W.Frag)(T:String)(x:V)(H:Hp):Prop:=match x with
  | .str _=>T="str"
  | .int _=>T="int"
  | .ref p => (T = "list" /\ ∃ xs, SqL K H p xs) \/ (T = "tuple" /\ ((∃ xs, Rd H p (.tup xs)) \/ ∃ o, K.lookup p = some o /\ o.cls = .type "tuple" /\ o.dict = none)) \/
      (T="dict"/\((∃ kvs,H p=some (.dK kvs)) \/ ∃ kvs,H p=some (.dT kvs))) \/ (T="set"/\∃ S n,H p=some (.set S n))
  | _=>False
theorem Jt {pins : List (Addr × Obj)}{σ : St}{H : Hp}{s : Shared}{T : String}{x : V}{v : Value}(I : Inv X pins σ H s)(r : zm x v)(ty : tyV X.K T x H) :
    s.TypeIs v T/\∀ a,v=.ref a->∃ ob,s.heap.get? a=some ob/\ob.dict=none:=by
  cases x with
  | str z=>
    obtain ⟨t,rfl⟩:=r
    cases (show T="str" from ty)
    exact ⟨typeIs_str s z t,fun _ e=>nomatch e⟩
  | int i=>
    obtain ⟨t,rfl⟩:=r
    cases (show T="int" from ty)
    exact ⟨typeIs_int s i t,fun _ e=>nomatch e⟩
  | ref p=>
    cases r
    rcases ty with ⟨rfl,xs,hq⟩ | ⟨rfl,⟨xs,hx⟩ | ⟨o,hk,hc,hd⟩⟩ | ⟨rfl,hk⟩ | ⟨rfl,S,n,hk⟩
    · obtain ⟨its,_,pl,_⟩:=I.list hq
      refine ⟨pl.isList.typeIs,fun a e=>?_⟩
      cases e
      obtain ⟨o,n,e,c,hd,_⟩:=pl
      exact ⟨o,e,hd⟩
    · obtain ⟨_,its,_,o,e,c,_,hd⟩:=hx.ok I.hok
      refine ⟨⟨o,e,c⟩,fun a e2=>?_⟩
      cases e2
      exact ⟨o,e,hd⟩
    · refine ⟨⟨o,I.kIn p o hk,hc⟩,fun a e=>?_⟩
      cases e
      exact ⟨o,I.kIn _ o hk,hd⟩
    · have z : ∃ o, s.heap.get? p = some o /\ o.ExactDict := by
        rcases hk with ⟨kvs,hk⟩ | ⟨kvs,hk⟩
        · obtain ⟨_,_,_,_,o,_,_,e,ex,_⟩:=I.hok p _ hk
          exact ⟨o,e,ex⟩
        · obtain ⟨_,_,_,_,o,_,_,e,ex,_⟩:=I.hok p _ hk
          exact ⟨o,e,ex⟩
      obtain ⟨o,e,ex⟩:=z
      refine ⟨⟨o,e,ex.1⟩,fun a e2=>?_⟩
      cases e2
      exact ⟨o,e,ex.2.1⟩
    · obtain ⟨o,_,_,_,e,ex,_⟩:=I.hok p _ hk
      refine ⟨⟨o,e,ex.1⟩,fun a e2=>?_⟩
      cases e2
      exact ⟨o,e,ex.2.1⟩
  | _=>exact False.elim ty
noncomputable def YF (K:PySem.W.Frag)(T:String)(r:V->List V->Hp->VK->Prop)(to:TE):TE:=fun σ H Q=>to σ H fun x H1=>tyV K T x H1/\r x [] H1 Q
noncomputable def tBM (K:PySem.W.Frag)(T:String)(r:V->List V->Hp->VK->Prop)(to:TE)(t:TA):TE:=fun σ H Q=>to σ H fun x H1=>tyV K T x H1/\t σ H1 fun xs H2=>r x xs H2 Q
variable {o e:Expr}{es:List Expr}{to:TE}{t:TA}{name:Str}{apos cpos:Pos}{T id:String}{r:V->List V->Hp->VK->Prop}
theorem Vo (pa:PlainAttrs T)(slot:Slot T name id)(hty:typeOf (.builtin id)=pure (.type "method_descriptor"))(hm:MtR X id r)(ho:PE X o to)
  (hbase:attributeBase o name X.env (eval o X.env)=eval o X.env:=by rfl) (hline:(apos.endLine == cpos.line)=true:=by rfl):PE X (.Call (.Attribute o name apos) [] [] cpos) (YF X.K T r to):=by
 intro pins s σ H Q I h
 refine wpAny_Call_method0_late hbase hline (thn (ho pins s σ H _ I h) fun v s1 ⟨x,H1,I1,r1,ty,q1⟩=>?_)
 obtain ⟨h1,h2⟩:=Jt I1 r1 ty
 exact ⟨T,id,pa,slot,hty,h1,h2,Calls.callWith_builtin rfl (PySem.evalArgs_none (hm pins s1 σ H1 x [] v [] Q I1 r1 .nil q1))⟩
theorem XG (pa:PlainAttrs T)(slot:Slot T name id)(hty:typeOf (.builtin id)=pure (.type "method_descriptor"))(hm:MtR X id r)(ho:PE X o to)(ha:PA X (e :: es) t)
  (hbase:attributeBase o name X.env (eval o X.env)=eval o X.env:=by rfl)
  (hfew:((backTo cpos (starEach (e :: es) X.env)).all (fun x=>!x.1) && (backToKw cpos (keywordEach [] X.env)).all (fun x=>x.1.isSome)
   && decide ((e :: es).length+([]:List Keyword).length+(if ([]:List Keyword).isEmpty then 0 else 1)<30))=true:=by rfl)
  (hline:(apos.endLine == cpos.line)=true:=by rfl) (hs:starEach (e :: es) X.env=(false,eval e X.env) :: starEach es X.env:=by rfl) (hplain:(backTo cpos (starEach es X.env)).any (·.1)=false:=by rfl) :
  PE X (.Call (.Attribute o name apos) (e :: es) [] cpos) (tBM X.K T r to t):=by
 intro pins s σ H Q I h
 refine wpAny_Call_method_late hbase hfew hline rfl (thn (ho pins s σ H _ I h) fun v s1 ⟨x,H1,I1,r1,ty,q1⟩=>?_)
 obtain ⟨h1,h2⟩:=Jt I1 r1 ty
 refine ⟨T,id,pa,slot,hty,h1,h2,?_⟩
 have hA:=ha cpos pins s1 σ H1 _ I1 q1
 rw [hs] at hA ⊢
 refine Calls.callWith_builtin (by show (false || (backTo cpos (starEach es X.env)).any (·.1))=false;rw [hplain] <;> rfl) (Calls.evalArgs_plain ?_)
 exact thn hA fun us s2 ⟨vs,H2,I2,r2,q2⟩=>hm pins s2 σ H2 x vs v us Q I2 r1 r2 q2
/- xs.append(e),list.index on a module's tuple .. are MtR facts of 06m -/
end
noncomputable def MtM (X:Cx)(id:String)(r:V->List V->Hp->VK->Prop):Prop:=
 ∀ (pins:List (Addr × Obj)) (s:Shared) (σ:St) (H:Hp) (x:V) (xs:List V) (v:Value) (us:List Value) (Q:VK),Inv X pins σ H s->zm x v->zk xs us->r x xs H Q ->
  wpAny (model X.prog X.w) X.A (call (.builtin id) (v :: us)) (EP X pins σ Q) X.xe s
theorem zk.one:∀ {x:V} {us:List Value},zk [x] us->∃ u,us=[u]/\zm x u
 | _,_,.cons r .nil=>⟨_,rfl,r⟩
theorem zk.zero:∀ {us:List Value},zk [] us->us=[]
 | _,.nil=>rfl
theorem zk.dropLast {xs:List V}{us:List Value}(h:zk xs us):zk xs.dropLast us.dropLast:=by
 induction h with
 | nil=>exact .nil
 | cons r t ih=>
  cases t with
  | nil=>exact .nil
  | cons q t'=>exact .cons r ih
theorem zk.reverse {xs:List V}{us:List Value}(h:zk xs us):zk xs.reverse us.reverse:=by
 induction h with
 | nil=>exact .nil
 | cons r t ih=>rw [List.reverse_cons,List.reverse_cons];exact zk.append ih (.cons r .nil)
theorem zk.rep {xs:List V}{us:List Value}(h:zk xs us):∀ k:Nat,zk (List.replicate k xs).flatten (List.replicate k us).flatten
 | 0=>.nil
 | k+1=>by
  rw [List.replicate_succ,List.replicate_succ,List.flatten_cons,List.flatten_cons]
  exact zk.append h (zk.rep h k)
theorem vJ {α:Type}(l:List α):l.eraseIdx (l.length - 1)=l.dropLast:=by
 induction l with
 | nil=>rfl
 | cons a r ih=>
  cases r with
  | nil=>rfl
  | cons b r=>
   have e:(a :: b :: r).length - 1=((b :: r).length - 1)+1:=by
    have h1:(a :: b :: r).length=r.length+2:=rfl
    have h2:(b :: r).length=r.length+1:=rfl
    omega
   rw [e,List.eraseIdx_cons_succ,ih]
   all_goals rfl
theorem xL (its:List Value):∀ (k:Nat) (acc:List Value),
  List.foldl (fun x1 x2=>x1 ++ x2) acc.toArray (List.replicate k its.toArray)=(acc ++ (List.replicate k its).flatten).toArray
 | 0,acc=>by simp
 | k+1,acc=>by
  have e:acc.toArray ++ its.toArray=(acc ++ its).toArray:=by simp
  have e2:(acc ++ its) ++ (List.replicate k its).flatten=acc ++ (List.replicate (k+1) its).flatten:=by
   rw [List.replicate_succ,List.flatten_cons,List.append_assoc]
  rw [<- e2,<- xL its k (acc ++ its),<- e,List.replicate_succ,List.foldl_cons]
section
variable {X:Cx}{pins:List (Addr × Obj)}{σ:St}{H:Hp}{s:Shared}{l b:Addr}{xs ys zs:List V}
theorem Inv.lset {its its':List Value}{n:Nat}{f:Array Value->Array Value}{t':Nat}(I:Inv X pins σ H s)(hH:H l=some (.lst xs))
  (e:s.heap.get? l=some { cls:=.type "list",data:=.seq its.toArray n }) (hf:f its.toArray=its'.toArray) (hv:zk ys its') (hz:ys.length<=sizeLine) :
  Inv X pins σ (upd H l (.lst ys)) { s with heap:=s.heap.update l (Obj.mapSeq f),toks:=t' }:=by
 have q:=PySem.IsL.update e f
 rw [hf] at q
 refine I.write (x:=l) (e:=l) (by rw [hH];exact trivial) (.inl rfl) (fun b' u hb hu=>(Heap.get?_update_other s.heap (Obj.mapSeq f) (Ne.symm hb)).trans hu) ⟨_,q⟩ ?_
 exact ⟨hz,its',_,hv,q⟩
theorem Inv.lnew {its:List Value}{t':Nat}(I:Inv X pins σ H s)(hv:zk ys its)(hz:ys.length<=sizeLine) :
  Inv X pins σ (upd H s.heap.objs.size (.lst ys)) { s with heap:=s.heap.push { cls:=.type "list",data:=.seq its.toArray },toks:=t' }:=
 I.laid (fun _ _ q=>Heap.get?_push_of_some _ q) (Nat.le_refl _) ⟨hz,its,0,hv,Heap.get?_push_size _ rfl⟩
theorem Inv.fresh (I:Inv X pins σ H s):H s.heap.objs.size=none:=I.hok.fresh (Nat.le_refl _)
theorem Inv.lstM (I:Inv X pins σ H s)(hH:H l=some (.lst xs)):xs.length<=sizeLine/\∃ (its:List Value) (n:Nat),zk xs its/\xs.length=its.length/\s.heap.get? l=some { cls:=.type "list",data:=.seq its.toArray n }:=by
 obtain ⟨z,its,n,r,e⟩:=I.hok l _ hH
 exact ⟨z,its,n,r,r.length,e⟩
theorem yH {n:Nat}(h:n<=sizeLine):Builtin.List.listTooLong n=false:=by
 unfold Builtin.List.listTooLong
 exact decide_eq_false (by omega)
end
section
variable {X:Cx}
noncomputable def kj:V->List V->Hp->VK->Prop:=fun x vs H Q=>∃ l xs y,x=.ref l/\vs=[y]/\H l=some (.lst xs)/\xs.length<sizeLine/\Q .non (upd H l (.lst (xs ++ [y])))
theorem jS:MtM X "list.append" kj:=by
 intro pins s σ H x vs v us Q I rx rv h
 obtain ⟨l,xs,y,rfl,rfl,hH,hz,q⟩:=h
 cases rx
 obtain ⟨u,rfl,ru⟩:=rv.one
 obtain ⟨z,its,n,r,hl,e⟩:=I.lstM hH
 refine call_meets F.slot_list_append ⟨_,e,rfl⟩ F.entry_list_append (F.args_list_append_2 _ _) (PySem.list_append l its.toArray n u (by rw [List.size_toArray];omega)) ⟨e,?_⟩
 refine ⟨.non,_,I.lset (its':=its ++ [u]) hH e (by simp) (r.append (.cons ru .nil)) ?_,rfl,q⟩
 rw [List.length_append,List.length_singleton]
 omega
noncomputable def wu:V->List V->Hp->VK->Prop:=fun x vs H Q=>∃ l b xs zs,x=.ref l/\vs=[.ref b]/\H l=some (.lst xs)/\H b=some (.lst zs)/\xs.length+zs.length<=sizeLine/\Q .non (upd H l (.lst (xs ++ zs)))
theorem V5:MtM X "list.extend" wu:=by
 intro pins s σ H x vs v us Q I rx rv h
 obtain ⟨l,b,xs,zs,rfl,rfl,hH,hB,hz,q⟩:=h
 cases rx
 obtain ⟨u,rfl,ru⟩:=rv.one
 cases ru
 obtain ⟨z,its,n,r,hl,e⟩:=I.lstM hH
 obtain ⟨z2,its2,n2,r2,hl2,e2⟩:=I.lstM hB
 have hsz:its.toArray.size+its2.toArray.size<=sizeLine:=by rw [List.size_toArray,List.size_toArray];omega
 have hlong:¬ (!its.toArray.isEmpty && Builtin.List.listTooLong (its.toArray.size+its2.toArray.size))=true:=by
  rw [yH hsz,Bool.and_false]
  exact Bool.false_ne_true
 refine call_meets F.slot_list_extend ⟨_,e,rfl⟩ F.entry_list_extend (F.args_list_extend_2 _ _)
  (AutoSeq1.list_extend_list_list_0 l its.toArray n b its2.toArray n2 hlong (by rw [List.size_toArray];omega) (by omega)) ⟨e,e2,?_⟩
 refine ⟨.non,_,I.lset (its':=its ++ its2) hH e (by simp) (r.append r2) ?_,rfl,q⟩
 rw [List.length_append]
 omega
noncomputable def Ab:V->List V->Hp->VK->Prop:=fun x vs H Q=>∃ l xs y,x=.ref l/\vs=[]/\H l=some (.lst xs)/\xs[xs.length - 1]?=some y/\Q y (upd H l (.lst xs.dropLast))
theorem Am:MtM X "list.pop" Ab:=by
 intro pins s σ H x vs v us Q I rx rv h
 obtain ⟨l,xs,y,rfl,rfl,hH,hy,q⟩:=h
 cases rx
 have hus:=rv.zero
 subst hus
 obtain ⟨z,its,n,r,hl,e⟩:=I.lstM hH
 obtain ⟨u,hu,ru⟩:=r.get hy
 have hy':its.toArray[its.toArray.size - 1]?=some u:=by
  show its.toArray[its.length - 1]?=some u
  rw [<- Array.getElem?_toList,<- hl]
  exact hu
 refine call_meets F.slot_list_pop ⟨_,e,rfl⟩ F.entry_list_pop (F.args_list_pop_1 _) (MeetsSeq.list_pop_last l its.toArray n u hy' (by rw [List.size_toArray];omega)) ⟨e,?_⟩
 refine ⟨y,_,I.lset (its':=its.dropLast) hH e ?_ r.dropLast ?_,ru,q⟩
 ·show its.toArray.eraseIdxIfInBounds (its.toArray.size - 1)=its.dropLast.toArray
  rw [List.size_toArray,List.eraseIdxIfInBounds_toArray,vJ]
 ·rw [List.length_dropLast]
  omega
noncomputable def jF:V->List V->Hp->VK->Prop:=fun x vs H Q=>∃ l xs,x=.ref l/\vs=[]/\H l=some (.lst xs)/\Q .non (upd H l (.lst xs.reverse))
theorem vR:MtM X "list.reverse" jF:=by
 intro pins s σ H x vs v us Q I rx rv h
 obtain ⟨l,xs,rfl,rfl,hH,q⟩:=h
 cases rx
 have hus:=rv.zero
 subst hus
 obtain ⟨z,its,n,r,hl,e⟩:=I.lstM hH
 refine call_meets F.slot_list_reverse ⟨_,e,rfl⟩ F.entry_list_reverse (F.args_list_reverse_1 _) (AutoSeq1.list_reverse_list_0 l its.toArray n (by rw [List.size_toArray];omega)) ⟨e,?_⟩
 refine ⟨.non,_,I.lset (its':=its.reverse) hH e (by simp) r.reverse ?_,rfl,q⟩
 rw [List.length_reverse]
 omega
noncomputable def WB:R2:=fun x y H Q=>∃ l b xs zs,x=.ref l/\y=.ref b/\H l=some (.lst xs)/\H b=some (.lst zs)/\xs.length+zs.length<=sizeLine/\∀ p,H p=none->Q (.ref p) (upd H p (.lst (xs ++ zs)))
theorem VG:OpR X (binaryOp .Add) WB:=by
 intro pins s σ H x y v u Q I rx ry h
 obtain ⟨l,b,xs,zs,rfl,rfl,hH,hB,hz,q⟩:=h
 cases rx
 cases ry
 obtain ⟨z,its,n,r,hl,e⟩:=I.lstM hH
 obtain ⟨z2,its2,n2,r2,hl2,e2⟩:=I.lstM hB
 refine PySem.P.add_list e e2 ?_ (by rw [List.size_toArray,List.size_toArray];omega)
 have ea:its.toArray ++ its2.toArray=(its ++ its2).toArray:=by simp
 rw [ea]
 exact ⟨.ref _,_,I.lnew (t':=s.toks) (r.append r2) (by rw [List.length_append];omega),rfl,q _ I.fresh⟩
noncomputable def VT:R2:=fun x y H Q=>∃ l k xs,x=.ref l/\y=.int k/\H l=some (.lst xs)/\-(2 ^ 63)<=k/\k<2 ^ 63/\xs.length * k.toNat<=sizeLine /\
 ∀ p,H p=none->Q (.ref p) (upd H p (.lst (List.replicate k.toNat xs).flatten))
theorem Kw {α:Type}(xs:List α)(k:Nat):(List.replicate k xs).flatten.length=k * xs.length:=by
 induction k with
 | zero=>simp
 | succ k ih=>rw [List.replicate_succ,List.flatten_cons,List.length_append,ih,Nat.succ_mul,Nat.add_comm]
theorem Qm:OpR X (binaryOp .Mult) VT:=by
 intro pins s σ H x y v u Q I rx ry h
 obtain ⟨l,k,xs,rfl,rfl,hH,h1,h2,hz,q⟩:=h
 cases rx
 obtain ⟨t,rfl⟩:=ry
 obtain ⟨z,its,n,r,hl,e⟩:=I.lstM hH
 have hlen:its.toArray.size * k.toNat<=sizeLine:=by rw [List.size_toArray,<- hl];exact hz
 have hcap:¬ its.toArray.size * k.toNat > (2 ^ 63 - 1) / 8:=by
  have:(sizeLine:Nat)<=(2 ^ 63 - 1) / 8:=by decide
  omega
 have hfit:¬ (!Builtin.List.listFitsIndex k)=true:=by
  rw [fitsIndex_both h1 h2]
  exact Bool.false_ne_true
 have hlong:¬ Builtin.List.listTooLong (its.toArray.size * k.toNat)=true:=by
  rw [yH hlen]
  exact Bool.false_ne_true
 have hnew:List.foldl (fun x1 x2=>x1 ++ x2) #[] (List.replicate (if its.toArray.isEmpty=true then 0 else k.toNat) its.toArray)=(List.replicate k.toNat its).flatten.toArray:=by
  have f0:∀ m:Nat,List.foldl (fun x1 x2=>x1 ++ x2) #[] (List.replicate m its.toArray)=(List.replicate m its).flatten.toArray:=fun m=>by
   have:=xL its m []
   rw [List.nil_append] at this
   exact this
  rw [f0]
  cases its with
  | nil=>simp
  | cons a r'=>rw [if_neg (by simp)]
 refine wpAny_binaryOp_repeat_ref (T:="list") (U:="int") (by decide) ⟨_,e,rfl⟩ (fun s'=>typeIs_int s' k t) noFill_list_mul F.fills_int_mul F.slot_int_rmul repeat_list F.slot_int_index.lookup
  (call_meets F.slot_int_rmul (typeIs_int s k t) F.entry_int_rmul (F.args_int_rmul_2 _ _) (int___rmul___int_list k t l its.toArray n)
   ⟨e,rfl,⟨_,e,rfl⟩,call_meets F.slot_list_mul ⟨_,e,rfl⟩ F.entry_list_mul (F.args_list_mul_2 _ _) (AutoListH.list___mul___list_int_3 l its.toArray n k t hfit hcap hlong) ⟨e,?_⟩⟩)
 rw [hnew]
 exact ⟨.ref _,_,I.lnew (t':=s.toks) (r.rep k.toNat) (by rw [Kw,Nat.mul_comm];exact hz),rfl,q _ I.fresh⟩
end
section
variable {prog:Program}{w:World}{A:Around}{E:Value->Shared->Prop}{s:Shared}
end
section
variable {X:Cx}
end
end L2
namespace Att
open PySem PySem.W PySem.Calls PyProof.Rows
theorem kf {P:Params}{h:Heap}:∀ (ns:List Int) (vs:List Value),WellAll P h vs (ns.map WData.int)->IntsAre vs ns:=by
 intro ns
 induction ns with
 | nil=>
  intro vs w
  rw [List.map_nil] at w
  cases w
  exact .nil
 | cons n ns ih=>
  intro vs w
  rw [List.map_cons] at w
  cases w with
  | cons a b=>
   cases a
   exact .cons _ _ (ih _ b)
theorem Zj {l:OpenLaw}{n:Nat}(hn:l.most=some n){P:Params}{h:Heap}{args:List WData}{vals:List Value}
  (hpre:l.row.toRowW.claim.pre args=true) (hwl:WellAll P h vals args) :
  ∃ a vs ns,vals=[Value.ref a]/\args=[WData.list (ns.map WData.int)]/\h.get? a=some { cls:=.type "list",data:=.seq vs.toArray }/\IntsAre vs ns/\ns.length<=n:=by
 have hsh:WShape.hasAll [] args [.list .int]=true:=(pre_splitW hpre).1
 have hc:l.pre.holds [] { args:=args }=true:=(pre_splitW hpre).2
 obtain ⟨d,r,rfl,h1,h2⟩:=hasAllW_cons hsh
 obtain rfl:=hasAllW_nil h2
 obtain ⟨xs,rfl,h3⟩:=hasW_list h1
 obtain ⟨ns,rfl⟩:=items_int h3
 have hlen:ns.length<=n:=by
  unfold OpenLaw.pre at hc
  have h4:(WTm.not (.lt (.lit (.int (n:Int))) (.len (.arg 0)))).holds [] { args:=[.list (ns.map .int)] }=true:=by
   have h4:=(holds_andW hc).1
   rw [hn] at h4
   exact h4
  have h5:=condW_of h4 (w_not (w_lt w_lit (w_len_list (w_arg rfl))))
  rw [List.length_map] at h5
  refine Nat.le_of_not_lt fun q=>?_
  have q':(n:Int)<((ns.length:Nat):Int):=by omega
  first
   | (rw [decide_eq_true q'] at h5;exact absurd h5 (by decide))
   | (simp at h5;omega)
 cases hwl with
 | cons w1 w2=>
  cases w2
  cases w1 with
  | list ho hall=>exact ⟨_,_,ns,rfl,rfl,ho,kf ns _ hall,hlen⟩
theorem ZF (l:OpenLaw)(args:List WData):l.row.toRowW.claim.post args (.bool true) args=true:=
 postW_of (r:=l.row.toRowW) (X:=(true == true))
  (show WShape.has [] (.bool true) .bool=true by first | rfl | decide | simp [WShape.has,WShape.arms,WShape.armsAll])
  (show (WTm.eq .res (.lit (.bool true))).value [] { args:=args,res:=some (.bool true),after:=args }=some (.bool (true == true)) from w_eq_bool (w_res rfl) w_lit) rfl
theorem attach_call {l:OpenLaw}{n:Nat}{q:Program}{loose:List Str}{XP:(Str->Option Value)->Heap->Prop}{YP:World->Heap->Prop}{d:DefRec}
  (hn:l.most=some n) (hdf:d.params.defaults=[])
  (call:∀ (w:World) (s₀ s₁:Shared) (mg mb:Str->Option Value) (fa:Addr) (o:Obj) (pm cd doc:Value) (a:Addr) (vs:List Value) (ns:List Int),
   Ground q loose [] XP w s₀ mg mb s₁.heap->YP w s₁.heap ->
   s₁.heap.get? fa=some o->o.data=.func (docDef d.name d.params d.body d.scope pm cd doc)->s₁.heap.CodeRec cd d.name->mg d.name=some (.ref fa) ->
   s₁.heap.get? a=some { cls:=.type "list",data:=.seq vs.toArray }->IntsAre vs ns->ns.length<=n->s₁.gens=#[] ->
   codeAny (model l.prog w) callerA (.call (.ref fa) ⟨[.ref a],[]⟩) (fun r s'=>r=.ok (.ret (.bool true))/\OldK s₁.heap s'.heap/\s'.os=s₁.os/\AllBare s'.gens) s₁) :
  WalkO q loose XP YP l.row.toRowW d [] (fun f vs=>PySem.call f vs):=by
 intro w s₀ s₁ mg mb G Y fa o pm cd doc dV kV ho hd hcd hD hmg hg args vals as hpre hlay hrd hwl hlo
 obtain rfl:dV=.none:=Dflts.none hD hdf
 obtain rfl:kV=.none:=Dflts.noKw hD
 obtain ⟨a,vs,ns,rfl,rfl,hobj,hints,hlen⟩:=Zj hn hpre hwl
 refine enter_call (codeAny_mono (call w s₀ s₁ mg mb fa o pm cd doc a vs ns G Y ho (fd_plain hd) hcd hmg hobj hints hlen hg) fun r s' hq=>?_)
 obtain ⟨rfl,h2,h3,h4⟩:=hq
 exact ⟨.inl ⟨.bool true,.bool true,[],rfl,fun _=>rfl,.bool true,ZF l _,fun _=>⟨List.Pairwise.nil,fun _ hm=>(nomatch hm)⟩⟩,h2,h3,h4⟩
section
variable {prog:Program}{w:World}{A:Around}{E:Value->Shared->Prop}{s:Shared}{K:Frag}
noncomputable def Aj (h:Heap)(L d:Addr):List (Addr × Obj):=(List.range h.objs.size).filterMap fun a=>if a=L \/ a=d then none else (h.get? a).map fun o=>(a,o)
end
end Att
namespace L2
open PySem PySem.Spec PyProof.Rows
theorem xq:∀ {vs:List Value} {ns:List Int},IntsAre vs ns->zk (ns.map V.int) vs
 | _,_,.nil=>.nil
 | _,_,.cons n t h=>.cons ⟨t,rfl⟩ (xq h)
noncomputable def VW (H:Hp):Prop:=∀ b,H b=none \/ ∃ o xs,H b=some (.frz o (.lst xs))
theorem J2 {P:Program}{w:World}{K:PySem.W.Frag}{mg mb:Str->Option Value}{CX:CXT}{k:Nat}{fa a:Addr}{fd:FuncData}{x:Str}{sp:Sp}{s₁:Shared}{vs:List Value}{ns:List Int}
  (KX:K.In s₁.heap) (hns:s₁.heap.Ns mainGlobals mg) (hb:s₁.heap.Ns builtinsNs mb) (hbb:∀ x:Str,x ≠ "__name__"->mb x=bootBuiltins x) (hlim:s₁.heap.NoLimit) (hg:s₁.gens=#[])
  (ha:s₁.heap.get? a=some { cls:=.type "list",data:=.seq vs.toArray }) (hi:IntsAre vs ns) (hl:ns.length<=sizeLine) (hr:qE k callerA)
  (F:∀ base:Heap,K.In base->base.Ns mainGlobals mg->jo P w K mg base CX k fa fd [x] sp) (hbind:∀ (s:Shared) (u:Value),BindsTo s fd ⟨[u],[]⟩ [(x,u)])
  (hsp:∀ H:Hp,VW H->SqL K H a (ns.map V.int)->sp [.ref a] H (fun v _=>v=.bl true) fun _ _ _=>False)
  (hCX:∀ H e s',CX [] H s₁ (fun _ _ _=>False) e s'->False) :
  codeAny (model P w) callerA (.call (.ref fa) ⟨[.ref a],[]⟩) (fun r s'=>r=.ok (.ret (.bool true))/\OldK s₁.heap s'.heap/\s'.os=s₁.os/\AllBare s'.gens) s₁:=by
 have rv:=xq hi
 have lenV:=hi.length
 have core:∀ H:Hp,VW H->SqL K H a (ns.map V.int)->HOk P w H s₁.heap->(∀ b,H b ≠ none->b=a)->(H a ≠ none->K.lookup a=none) ->
   codeAny (model P w) callerA (.call (.ref fa) ⟨[.ref a],[]⟩) (fun r s'=>r=.ok (.ret (.bool true))/\OldK s₁.heap s'.heap/\s'.os=s₁.os/\AllBare s'.gens) s₁:=by
  intro H hO hS hok hA hK
  have base_of:∀ {b:Addr} {o:Obj},s₁.heap.get? b=some o->H b=none->(ym s₁.heap H).get? b=some o:=fun e n=>JB e n
  have noA:∀ {b:Addr} {o:Obj} {es:Array DictEntry} {ep:Nat},s₁.heap.get? b=some o->o.data=.dict es ep->H b=none:=fun {b o es ep} e d=>by
   cases q:H b with
   | none=>rfl
   | some u=>
    have e':b=a:=hA b (by rw [q];simp)
    subst e'
    rw [ha] at e;cases e
    have d':Data.seq vs.toArray _=Data.dict es ep:=d
    cases d'
  have nsK:∀ {b:Addr} {m:Str->Option Value},s₁.heap.Ns b m->(ym s₁.heap H).Ns b m:=fun {b m} ⟨o,es,ep,e,d,r⟩=>⟨o,es,ep,base_of e (noA e d),d,r⟩
  have hKb:K.In (ym s₁.heap H):=fun b o e=>base_of (KX b o e) (by
   cases q:H b with
   | none=>rfl
   | some u=>
    have e':b=a:=hA b (by rw [q];simp)
    subst e'
    rw [hK (by rw [q];simp)] at e;cases e)
  have hM:Mod K mg (ym s₁.heap H):=⟨hKb,nsK hns,⟨mb,nsK hb,hbb⟩,let ⟨mc,h1,h2⟩:=hlim;⟨mc,nsK h1,h2⟩⟩
  have e0:KN P w K mg (ym s₁.heap H) callerA [] s₁ H:=⟨rfl,hM,fun b o e=>Xe e,Nat.le_of_eq (ZU _ _),trivial,fun b hb=>absurd (show b ∈ ([]:List Addr) from hb) (by simp),hok,.of_eq hg⟩
  refine codeAny_mono ((F _ hKb (nsK hns)).run callerA [] s₁ H ⟨[.ref a],[]⟩ [.ref a] [.ref a] _ _ hr e0 (hbind s₁ (.ref a)) (.cons rfl .nil) (hsp H hO hS)) fun r s' h=>?_
  cases r with
  | error e=>exact (hCX H e s' h).elim
  | ok fl=>
   cases fl with
   | next=>exact False.elim h
   | brk=>exact False.elim h
   | cont=>exact False.elim h
   | ret u=>
    obtain ⟨v,H',os,bare,un,hok',r',q⟩:=h
    have q':v=.bl true:=q
    subst q'
    obtain rfl:u=Value.bool true:=r'
    refine ⟨rfl,OldK.of_keep fun b o e=>?_,os,bare⟩
    cases q:H b with
    | none=>exact un.keep b o e q (by intro z;exact absurd (show b ∈ ([]:List Addr) from z) (by simp)) (by simp)
    | some u=>
     rcases hO b with z | ⟨ob,xs,z⟩
     ·rw [q] at z;cases z
     ·have z2:=un.frzs b ob _ z
      obtain ⟨e1,_⟩:=hok b _ z
      obtain ⟨e2,_⟩:=hok' b _ z2
      rw [e] at e1;cases e1
      exact e2
 cases hk:K.lookup a with
 | some o=>
  have e:=KX a o hk
  rw [ha] at e
  cases e
  refine core (fun _=>none) (fun _=>.inl rfl) (.inr ⟨_,vs.toArray,_,hk,rfl,rfl,rfl,by rw [List.size_toArray,lenV];exact hl,by simpa using rv⟩) (fun b u z=>by have z':(none:Option HO)=some u:=z;cases z') (fun b z=>absurd rfl z) fun z=>absurd rfl z
 | none=>
  refine core (fun b=>if b=a then some (.frz { cls:=.type "list",data:=.seq vs.toArray } (.lst (ns.map V.int))) else none) (fun b=>?_) (.inl (.inr ⟨{ cls:=.type "list",data:=.seq vs.toArray },if_pos rfl⟩)) (fun b u z=>?_) (fun b z=>?_) fun _=>hk
  ·by_cases hb:b=a
   ·exact .inr ⟨_,_,if_pos hb⟩
   ·exact .inl (if_neg hb)
  ·by_cases hb:b=a
   ·have z':=(if_pos hb).symm.trans z
    cases z'
    subst hb
    exact ⟨ha,by rw [List.length_map];exact hl,vs,_,rv,ha⟩
   ·have z':=(if_neg hb).symm.trans z
    cases z'
  ·by_cases hb:b=a
   ·exact hb
   ·exact absurd (if_neg hb) z
noncomputable abbrev KOf {K:PySem.W.Frag}{h:Heap}(_:K.In h):PySem.W.Frag:=K
theorem walk_of {l:PySem.W.OpenLaw}{n k:Nat}{q:Program}{loose:List Str}{XP:(Str->Option Value)->Heap->Prop}{YP:World->Heap->Prop}{d:DefRec}{K:Params->PySem.W.Frag}{CX:World->CXT}{sp:World->Sp}{x:Str}
  (hn:l.most=some n) (hn2:n<=sizeLine) (hdf:d.params.defaults=[]) (hr:qE k callerA)
  (hY:∀ (w:World) (h:Heap),YP w h->(K w.params).In h)
  (F:∀ (w:World) (mg:Str->Option Value) (fa:Addr) (h:Heap),(K w.params).In h->h.Ns mainGlobals mg->mg d.name=some (.ref fa) ->
   ∃ fd:FuncData,(∀ (s:Shared) (u:Value),BindsTo s fd ⟨[u],[]⟩ [(x,u)]) /\
    ∀ base:Heap,(K w.params).In base->base.Ns mainGlobals mg->jo l.prog w (K w.params) mg base (CX w) k fa fd [x] (sp w))
  (hsp:∀ (w:World) (H:Hp) (a:Addr) (ns:List Int),ns.length<=n->VW H->SqL (K w.params) H a (ns.map V.int)->sp w [.ref a] H (fun v _=>v=.bl true) fun _ _ _=>False)
  (hCX:∀ (w:World) (H:Hp) (s:Shared) (e:Value) (s':Shared),CX w [] H s (fun _ _ _=>False) e s'->False) :
  PySem.W.WalkO q loose XP YP l.row.toRowW d [] (fun f vs=>PySem.call f vs):=by
 refine Att.attach_call hn hdf fun w s₀ s₁ mg mb fa o pm cd doc a vs ns G Y ho hd hcd hmg hobj hints hlen hg=>?_
 have KX:=hY w _ Y
 obtain ⟨fd,hb,hF⟩:=F w mg fa _ KX G.T.g hmg
 exact J2 KX G.T.g G.T.b G.T.builtins G.T.nolimit hg hobj hints (Nat.le_trans hlen hn2) hr hF hb (fun H hO hS=>hsp w H a ns hlen hO hS) fun H e s'=>hCX w H s₁ e s'
end L2
/- THE LAST THEOREM (shape;LID,My.* are yours):
   My.Adr: a structure of the addresses that your layer names (classes,functions);My.Txt K t: a structure (Prop) of the equations over K;
   My.txt_mk:{K} {implicit addresses ..} (e1:nsIn K mainGlobals "law"=some (some (.ref f))) (e2:K.lookup f=some ⟨oc,od,.func (fnOf "law" "law" params body scope dV kV doc pm an cdv ct),sl⟩) (e3:codeIn K cdv "law"=true) ..:∃ t,My.Txt K t
set_option maxRecDepth 100000 in
set_option maxHeartbeats 0 in
theorem PySem.Challenge.cw_LID_holds:PySem.Challenge.rw_LID.Holds:=by
 w_on;o_law;k_head;(case hw=>w_witness2)
 k_fill
 refine L2.walk_of (l:=PySem.Challenge.rw_LID) (n:=63) (k:=40) (x:="script") (CX:=fun w=>..) (sp:=fun _=>My.sp_law) rfl (by decide) rfl ⟨rfl,by decide,by decide⟩ (fun w h Y=>PySem.W.kIn_of Y) ?F ?S ?C
 case F=>
  intro w mg fa h KX G hmg
  have T:∃ t,My.Txt (L2.KOf KX) t:=by
   dsimp only [L2.KOf]                          -- K must stand as «<heap const> w.params» for k_is
   refine' My.txt_mk ?e1 ?e2 ?e3 ..
   (case e1=>PySem.W.k_is)                    -- in the order: a name->its address->its object->its parts
   (case e2=>PySem.W.k_is)
   ..
  obtain ⟨t,T⟩:=T
  have e0:=hmg.symm.trans (PySem.W.mg_of KX G T.law)
  cases e0                                       -- fa is the law's own address
  exact ⟨_,fun s u=>.of_eq rfl,fun base kb nb=>My.law_fn T kb nb⟩     -- if «.of_eq rfl» comes too early: refine' ⟨_,?b,fun base kb nb=>My.law_fn T kb nb⟩;exact fun s u=>.of_eq rfl
 case S=>exact fun w H a ns hl hO hS=>..
 case C=>exact ..
(the tactic k_is has no namespace: write k_is) -/
namespace L2
open PySem PySem.Spec PyProof.Rows
noncomputable def qD (s:Stmt):Arguments:=match s with
 | .FunctionDef _ a _ _ _ _ _ _ _ _=>a
 | _=>{ posonlyargs:=[],args:=[],vararg:=none,kwonlyargs:=[],kw_defaults:=[],kwarg:=none,defaults:=[] }
noncomputable def zX (s:Stmt):List Stmt:=match s with
 | .FunctionDef _ _ b _ _ _ _ _ _ _=>b
 | _=>[]
noncomputable def zj (s:Stmt):Scope:=match s with
 | .FunctionDef _ _ _ _ _ _ sc _ _ _=>sc
 | _=>{ kind:=.function,names:=[],isGenerator:=false,isCoroutine:=false }
noncomputable abbrev CX0:CXT:=fun _ _ _ _ _ _=>False
noncomputable abbrev E0:XK:=fun _ _ _=>False
theorem WQ {X:Cx}:vV CX0 X E0:=fun _ _ _ _ _ _ _ h=>h.elim
structure Fun (K:PySem.W.Frag)(x qual:Str)(st:Stmt)(f:Addr)(fd:FuncData):Prop where
 ex:∃ (oc:Value) (od:Option Addr) (kV doc pm:Value) (an:Option Addr) (cdv ct:Value) (osl:Array (Option Value)),
  fd=PySem.W.fnOf x qual (qD st) (zX st) (zj st) .none kV doc pm an cdv ct/\K.lookup f=some ⟨oc,od,.func fd,osl⟩/\PySem.W.codeIn K cdv qual=true
 kp:PySem.W.keepIn K (.ref f)=true
section
variable {P:Program}{w:World}{K:PySem.W.Frag}{mg:Str->Option Value}{base:Heap}
theorem Fun.ok {x qual:Str}{st:Stmt}{f:Addr}{fd:FuncData}{N ps:List Str}{k:Nat}{sp:Sp}(F:Fun K x qual st f fd)(S:zB N ps (zj st))(len:∀ vs H Q E,sp vs H Q E->vs.length=ps.length)
  (hbody:∀ (cdv:Value) (A:Around) (outer:List Env) (s:Shared) (H:Hp) (vs:List V) (Q:VK) (E:XK),qE k (A.deeper (envOfC qual (zj st) s.heap.objs.size f cdv))->sp vs H Q E ->
   ∃ t,PSs (yg CX0 P w K mg base N qual (zj st) f cdv A outer s H E).nox (zX st) t/\t { nx:=fun _ H'=>Q .non H',rt:=Q } (qA N vs) H):jo P w K mg base CX0 (k+1) f fd ps sp:=by
 obtain ⟨oc,od,kV,doc,pm,an,cdv,ct,osl,rfl,lk,hcd⟩:=F.ex
 refine W1 lk hcd S len fun A outer s H vs Q E hr hsp=>?_
 obtain ⟨t,h,q⟩:=hbody cdv A outer s H vs Q E hr hsp
 exact ⟨t,h.nox,q⟩
theorem Fun.binds {x qual:Str}{st:Stmt}{f:Addr}{fd:FuncData}{ps:List Str}(F:Fun K x qual st f fd)
  (h:∀ (kV doc pm:Value) (an:Option Addr) (cdv ct:Value) (us:List Value),us.length=ps.length->bindArgs (PySem.W.fnOf x qual (qD st) (zX st) (zj st) .none kV doc pm an cdv ct) ⟨us,[]⟩=pure (ps.zip us)):xm K fd ps []:=by
 obtain ⟨oc,od,kV,doc,pm,an,cdv,ct,osl,rfl,lk,hcd⟩:=F.ex
 exact .all (h kV doc pm an cdv ct)
theorem Z9 {x qual:Str}{st:Stmt}{f:Addr}{oc:Value}{od an:Option Addr}{osl:Array (Option Value)}{kV doc pm cdv ct:Value}(l:K.lookup f=some ⟨oc,od,.func (PySem.W.fnOf x qual (qD st) (zX st) (zj st) .none kV doc pm an cdv ct),osl⟩)
  (c:PySem.W.codeIn K cdv qual=true) (k:PySem.W.keepIn K (.ref f)=true):Fun K x qual st f (PySem.W.fnOf x qual (qD st) (zX st) (zj st) .none kV doc pm an cdv ct):=⟨⟨oc,od,kV,doc,pm,an,cdv,ct,osl,rfl,l,c⟩,k⟩
end
theorem QX {A:Around}{k:Nat}(hr:qE k A):A.units+1<cLine:=Nat.lt_of_le_of_lt (Nat.add_le_add_left (by decide:1<=64) _) hr.units
section
variable {X:Cx}
theorem pv (i:Nat){x:Str}{pos:Pos}(hN:X.N[i]?=some x:=by rfl)(hv:Vis X.env.scope x:=by first | exact Or.inl rfl | exact Or.inr (Or.inl rfl) | exact Or.inr (Or.inr rfl))(hd:(x == ("__debug__":Str))=false:=by decide)
  (hcd:(x == ("__classdict__":Str))=false:=by decide):PE X (.Name x pos) (Kr i):=Yo hN hv hd hcd
end
theorem W4 {c A B:Prop}[Decidable c](h1:c->A)(h2:¬ c->B):if c then A else B:=by
 by_cases h:c
 ·rw [if_pos h]
  exact h1 h
 ·rw [if_neg h]
  exact h2 h
section
variable {κ:Type}[DecidableEq κ]
noncomputable def qu (kvs:List (κ × V))(k:κ):Option V:=(kvs.find? fun kv=>decide (kv.1=k)).map (·.2)
noncomputable def jl (kvs:List (κ × V))(k:κ)(v:V):List (κ × V):=
 if (kvs.any fun kv=>decide (kv.1=k))=true then kvs.map (fun kv=>if kv.1=k then (kv.1,v) else kv) else kvs ++ [(k,v)]
theorem zJ {p:κ × V}{r:List (κ × V)}{k:κ}(e:p.1=k):qu (p :: r) k=some p.2:=by simp [qu,List.find?_cons,e]
theorem zI {p:κ × V}{r:List (κ × V)}{k:κ}(e:¬ p.1=k):qu (p :: r) k=qu r k:=by simp [qu,List.find?_cons,e]
theorem jN (k:κ):∀ kvs:List (κ × V),(kvs.any fun kv=>decide (kv.1=k))=(qu kvs k).isSome
 | []=>rfl
 | p :: r=>by
  rw [List.any_cons]
  by_cases e:p.1=k
  ·simp only [zJ e,decide_eq_true e,Bool.true_or,Option.isSome_some]
  ·rw [zI e,decide_eq_false e,Bool.false_or];exact jN k r
theorem yB (k j:κ)(y:V):∀ kvs:List (κ × V),qu (kvs.map fun kv=>if kv.1=k then (kv.1,y) else kv) j=(qu kvs j).map fun x=>if j=k then y else x
 | []=>rfl
 | p :: r=>by
  have ih:=yB k j y r
  rw [List.map_cons]
  by_cases h:p.1=k
  ·rw [if_pos h]
   by_cases e:p.1=j
   ·rw [zJ (p:=(p.1,y)) e,zJ e,Option.map_some,if_pos (e.symm.trans h)]
   ·rw [zI (p:=(p.1,y)) e,zI e,ih]
  ·rw [if_neg h]
   by_cases e:p.1=j
   ·rw [zJ (p:=p) e,zJ e,Option.map_some,if_neg (fun z=>h (e.trans z))]
   ·rw [zI (p:=p) e,zI e,ih]
theorem xt (k j:κ)(y:V):∀ kvs:List (κ × V),qu kvs k=none->qu (kvs ++ [(k,y)]) j=if j=k then some y else qu kvs j
 | [],_=>by
  by_cases e:k=j
  ·rw [if_pos e.symm];exact zJ (p:=(k,y)) e
  ·rw [if_neg (fun z=>e z.symm)];exact zI (p:=(k,y)) e
 | p :: r,hn=>by
  rw [List.cons_append]
  have hk:¬ p.1=k:=fun z=>by rw [zJ z] at hn;cases hn
  rw [zI hk] at hn
  have ih:=xt k j y r hn
  by_cases e:p.1=j
  ·rw [zJ e,zJ e,if_neg (fun z=>hk (e.trans z))]
  ·rw [zI e,zI e,ih]
theorem JT (kvs:List (κ × V))(k j:κ)(y:V):qu (jl kvs k y) j=if j=k then some y else qu kvs j:=by
 unfold jl
 by_cases a:(kvs.any fun kv=>decide (kv.1=k))=true
 ·rw [if_pos a,yB]
  rw [jN] at a
  by_cases e:j=k
  ·obtain ⟨x,hx⟩:=Option.isSome_iff_exists.mp a
   rw [if_pos e,e,hx,Option.map_some,if_pos rfl]
  ·rw [if_neg e]
   cases qu kvs j with
   | none=>rfl
   | some x=>rw [Option.map_some,if_neg e]
 ·rw [if_neg a]
  refine xt k j y kvs ?_
  rw [jN] at a
  cases q:qu kvs k with
  | none=>rfl
  | some x=>rw [q] at a;exact (a rfl).elim
theorem yA (kvs:List (κ × V))(k:κ)(v:V):(jl kvs k v).length<=kvs.length+1:=by
 unfold jl
 split
 ·rw [List.length_map];omega
 ·rw [List.length_append,List.length_cons,List.length_nil];omega
theorem J1 {kvs:List (κ × V)}{k:κ}(v:V)(h:qu kvs k=none):jl kvs k v=kvs ++ [(k,v)]:=by
 unfold jl
 rw [jN,h]
 exact if_neg (by decide)
theorem KV.val {kvs:List (κ × V)}{vs:List (κ × Value)}(r:KV kvs vs)(k:κ):yh (qu kvs k) (valueAt vs k):=by
 unfold KV at r
 induction r with
 | nil=>exact True.intro
 | @cons p q ps qs h t ih=>
  obtain ⟨h1,h2⟩:=h
  by_cases e:p.1=k
  ·have e':q.1=k:=h1.symm.trans e
   have b:valueAt (q :: qs) k=some q.2:=by simp [valueAt,List.find?_cons,e']
   rw [zJ e,b];exact h2
  ·have e':¬ q.1=k:=fun z=>e (h1.trans z)
   have b:valueAt (q :: qs) k=valueAt qs k:=by simp [valueAt,List.find?_cons,e']
   rw [zI e,b];exact ih
theorem KV.any {kvs:List (κ × V)}{vs:List (κ × Value)}(r:KV kvs vs)(k:κ):(kvs.any fun kv=>decide (kv.1=k))=vs.any fun kv=>decide (kv.1=k):=by
 unfold KV at r
 induction r with
 | nil=>rfl
 | cons h t ih=>rw [List.any_cons,List.any_cons,ih,h.1]
theorem KV.repl {kvs:List (κ × V)}{vs:List (κ × Value)}(r:KV kvs vs)(k:κ){y:V}{u:Value}(ry:zm y u) :
  KV (kvs.map fun kv=>if kv.1=k then (kv.1,y) else kv) (vs.map fun kv=>if kv.1=k then (kv.1,u) else kv):=by
 unfold KV at r ⊢
 induction r with
 | nil=>exact .nil
 | @cons p q ps qs h t ih=>
  rw [List.map_cons,List.map_cons]
  refine .cons ?_ ih
  obtain ⟨h1,h2⟩:=h
  by_cases e:p.1=k
  ·rw [if_pos e,if_pos (h1.symm.trans e)];exact ⟨h1,ry⟩
  ·rw [if_neg e,if_neg (fun z=>e (h1.trans z))];exact ⟨h1,h2⟩
theorem KV.put {kvs:List (κ × V)}{vs:List (κ × Value)}(r:KV kvs vs)(k:κ){y:V}{u:Value}(ry:zm y u):KV (jl kvs k y) (stored vs k u):=by
 unfold jl stored
 rw [r.any k]
 by_cases e:(vs.any fun kv=>decide (kv.1=k))=true
 ·rw [if_pos e,if_pos e];exact r.repl k ry
 ·rw [if_neg e,if_neg e];exact Paired.snoc r ⟨rfl,ry⟩
end
theorem Jm {P:Program}{w:World}{k:Key}{u:Value}(r:zm (kV k) u):(zv P w).is k u=true:=by
 cases k with
 | inl i=>obtain ⟨t,e⟩:=(show ∃ t,u=Value.int i t from r);subst e;exact yQ P w i t
 | inr x=>obtain ⟨t,e⟩:=(show ∃ t,u=Value.str x t from r);subst e;exact y9 P w x t
theorem xE {P:Program}{w:World}:∀ {ks:List Key} {us:List Value},zk (ks.map kV) us->ItemsAre (zv P w) ks us
 | [],_,r=>by rw [List.map_nil] at r;cases r;exact .nil
 | k :: ks,_,r=>by
  rw [List.map_cons] at r
  cases r with
  | cons h t=>exact .cons (Jm h) (xE t)
noncomputable abbrev KT (H:Hp):List (List Key × V)->List (List Key × Addr × Value)->Prop:=Paired fun p q=>p.1=q.1/\H q.2.1=some (.tup (p.1.map kV))/\zm p.2 q.2.2
theorem KT.val {H:Hp}{kvs:List (List Key × V)}{xs:List (List Key × Addr × Value)}(r:KT H kvs xs)(k:List Key):yh (qu kvs k) ((atKey xs k).map (·.2)):=by
 induction r with
 | nil=>exact True.intro
 | @cons p q ps qs h t ih=>
  obtain ⟨h1,_,h2⟩:=h
  by_cases e:p.1=k
  ·have e':q.1=k:=h1.symm.trans e
   have b:atKey (q :: qs) k=some q.2:=by simp [atKey,List.find?_cons,e']
   rw [zJ e,b];exact h2
  ·have e':¬ q.1=k:=fun z=>e (h1.trans z)
   have b:atKey (q :: qs) k=atKey qs k:=by simp [atKey,List.find?_cons,e']
   rw [zI e,b];exact ih
section
variable {P:Program}{w:World}{H:Hp}{h:Heap}{a:Addr}
theorem Xz {u:HO}(ok:HOk P w H h)(e:Rd H a u):zx P w H h a u:=e.ok ok
theorem XC {kvs:List (Key × V)}(ok:HOk P w H h)(e:Rd H a (.dK kvs)):kvs.length<=sizeLine/\(a == sysModules)=false/\∃ vs,KV kvs vs/\h.DictOf (zv P w) a vs:=
 show zx P w H h a (.dK kvs) from Xz ok e
theorem QE {ks:List Key}(ok:HOk P w H h)(e:H a=some (.tup (ks.map kV))):(tupleKind (zv P w)).is h ks a:=by
 obtain ⟨_,its,r,o,h1,h2,⟨n,h3⟩,_⟩:=(show zx P w H h a (.tup (ks.map kV)) from ok a _ e)
 exact ⟨o,its.toArray,n,h1,h2,h3,by simpa using xE r⟩
theorem XT {kvs:List (List Key × V)}(ok:HOk P w H h)(e:Rd H a (.dT kvs)):kvs.length<=sizeLine/\(a == sysModules)=false /\
  ∃ xs,KT H kvs xs/\h.DictOfH (tupleKind (zv P w)) a xs:=by
 obtain ⟨z,y,xs,r,o,es,ep,h1,h2,h3,h4,h5⟩:=(show zx P w H h a (.dT kvs) from Xz ok e)
 refine ⟨z,y,xs,r,o,es,ep,h1,h2,h3,h4,fun x hx=>?_,h5⟩
 have all:∀ {l:List (List Key × V)} {m:List (List Key × Addr × Value)},KT H l m->∀ x ∈ m,(tupleKind (zv P w)).is h x.1 x.2.1:=by
  intro l m q
  induction q with
  | nil=>intro x hx;exact nomatch hx
  | @cons p q ps qs hq t ih=>
   intro x hx
   rcases List.mem_cons.mp hx with e | hx
   ·subst e
    exact QE ok (by rw [<- hq.1];exact hq.2.1)
   ·exact ih x hx
 exact all r x hx
end
noncomputable def Zk (H:Hp)(a:Addr)(y:V)(r:Option V):Prop:=
 (∃ kvs k,Rd H a (.dK kvs)/\y=kV k/\r=qu kvs k) \/ ∃ kvs k b,Rd H a (.dT kvs)/\y=.ref b/\H b=some (.tup (k.map kV))/\r=qu kvs k
theorem Zk.k {H:Hp}{a:Addr}{kvs:List (Key × V)}{k:Key}(e:H a=some (.dK kvs)):Zk H a (kV k) (qu kvs k):=.inl ⟨kvs,k,.inl e,rfl,rfl⟩
section
variable {X:Cx}{pins:List (Addr × Obj)}{σ:St}{H:Hp}{s:Shared}{a:Addr}{y v:V}{u r:Value}{o:Option V}{A:Around}{E:Value->Shared->Prop}
theorem Inv.big (I:Inv X pins σ H s):sysModules<s.heap.objs.size:=by
 have h:mainGlobals<s.heap.objs.size:=(I.mod.glob.keeps I.bk).lt
 exact Nat.lt_trans (by decide) h
theorem Zl {Q:Value->Shared->Prop}(hu:A.units+1<cLine)(I:Inv X pins σ H s)(g:Zk H a y (some v))(ry:zm y u)(h:∀ w' s',Inv X pins σ H s'->zm v w'->Q w' s') :
  wpAny (model X.prog X.w) A (getItem (.ref a) u) Q E s:=by
 rcases g with ⟨kvs,k,e,ey,l⟩ | ⟨kvs,k,b,e,ey,eb,l⟩
 ·subst ey
  obtain ⟨z,hd,vs,rel,dd⟩:=XC I.hok e
  obtain ⟨w',hw,rw'⟩:=yh.some_of (v:=v) (o:=valueAt vs k) (by rw [l];exact rel.val k)
  exact wpAny_getItem_of (Jm ry) dd.mapOf hw (h w' _ (I.tok _) rw')
 ·subst ey
  cases (show u=Value.ref b from ry)
  obtain ⟨z,hd,xs,rel,dd⟩:=XT I.hok e
  obtain ⟨w',hw,rw'⟩:=yh.some_of (v:=v) (o:=(atKey xs k).map (·.2)) (by rw [l];exact rel.val k)
  obtain ⟨p,hp,hp2⟩:=Option.map_eq_some_iff.mp hw
  refine wpAny_getItem_heap (tupleKind_room_in1 hu) (QE I.hok eb) dd hp ?_
  rw [hp2]
  exact h w' _ (I.tok _) rw'
end
section
variable {X:Cx}{pins:List (Addr × Obj)}{σ:St}{H:Hp}{s:Shared}{a:Addr}{kvs:List (Key × V)}{k:Key}{u:Value}{A:Around}{E:Value->Shared->Prop}
end
noncomputable def WR (i:Expr):Prop:=∀ ov iv,subscripted i false ov iv=operate [ov,iv] (getItem ov iv)
theorem Xv {prog:Program}{w:World}{A:Around}{E:Value->Shared->Prop}{s:Shared}{env:Env}{value slice:Expr}{pos:Pos}{T id:String}{Q:Value->Shared->Prop}
  (hl:typeLookup (.type T) "__getitem__"=pure (some (.builtin id))) (hs:WR slice)
  (h:wpAny (model prog w) A (eval value env) (fun o s₁=>wpAny (model prog w) A (eval slice env) (fun i s₂=>s₂.TypeIs o T/\wpAny (model prog w) A (getItem o i) Q E s₂) E s₁) E s) :
  wpAny (model prog w) A (eval (.Subscript value slice pos) env) Q E s:=by
 refine Subscript_ (wpAny_mono h (fun o s₁ h₁=>wpAny_mono h₁ (fun i s₂ h₂=>?_) fun _ _ x=>x) fun _ _ x=>x)
 obtain ⟨hT,h₂⟩:=h₂
 unfold subscriptTail
 refine wpAny_bind ?_
 rw [getitemInPython_of_ne hT.not_modules]
 refine wpAny_bind (wpAny_specialOf hT hl ?_)
 have fin:wpAny (model prog w) A (subscripted slice false o i) (fun r s₃=>wpAny (model prog w) A (letTemporaryGo value o r >>= fun _=>pure r) Q E s₃) E s₂:=by
  rw [hs o i]
  exact wpAny_operating (wpAny_mono h₂ (fun r s₃ h₃=>wpAny_bind (wpAny_letTemporaryGo (wpAny_pure h₃))) fun _ _ x=>x)
 first
  | exact wpAny_pure (wpAny_bind fin)
  | exact wpAny_bind (wpAny_pure (wpAny_bind fin))
  | exact wpAny_bind fin
theorem yJ {X:Cx}{pins:List (Addr × Obj)}{σ:St}{H:Hp}{s:Shared}{a:Addr}{y:V}{o:Option V}(I:Inv X pins σ H s)(g:Zk H a y o):s.TypeIs (.ref a) "dict":=by
 rcases g with ⟨kvs,k,e,_,_⟩ | ⟨kvs,k,b,e,_,_,_⟩
 ·obtain ⟨_,_,vs,_,dd⟩:=XC I.hok e
  exact dd.typeIs
 ·obtain ⟨_,_,xs,_,dd⟩:=XT I.hok e
  exact dd.typeIs
noncomputable def JS (td ty:TE):TE:=fun σ H Q=>td σ H fun x H1=>ty σ H1 fun y H2=>∃ a v,x=.ref a/\Zk H2 a y (some v)/\Q v H2
section
variable {X:Cx}{o i e value:Expr}{pos pos' tpos:Pos}{td ty tv:TE}
theorem yu (hu:X.A.units+1<cLine)(ho:PE X o td)(hi:PE X i ty)(hs:WR i):PE X (.Subscript o i pos) (JS td ty):=by
 intro pins s σ H Q I h
 refine Xv PySem.F.slot_dict_getitem.lookup hs (thn (ho pins s σ H _ I h) fun u s1 ⟨x,H1,I1,rx,q1⟩=>thn (hi pins s1 σ H1 _ I1 q1) fun iv s2 ⟨y,H2,I2,ry,a,v,ex,g,q2⟩=>?_)
 subst ex
 obtain rfl:u=Value.ref a:=rx
 exact ⟨yJ I2 g,Zl hu I2 g ry fun w' s3 I3 rw'=>⟨v,H2,I3,rw',q2⟩⟩
end
section
variable {X:Cx}{pos:Pos}
end
structure M1 (X:Cx)(o:Expr)(m:Str)(apos:Pos)(e:Expr)(cpos:Pos):Prop where
 base:attributeBase o m X.env (eval o X.env)=eval o X.env
 few:((backTo cpos (starEach [e] X.env)).all (fun x=>!x.1) && (backToKw cpos (keywordEach [] X.env)).all (fun x=>x.1.isSome)
  && decide (([e]:List Expr).length+([]:List Keyword).length+(if ([]:List Keyword).isEmpty then 0 else 1)<30))=true
 line:(apos.endLine == cpos.line)=true
 trees:backTo cpos (starEach [e] X.env)=[(false,eval e X.env)]
structure M2 (X:Cx)(o:Expr)(m:Str)(apos:Pos)(e f:Expr)(cpos:Pos):Prop where
 base:attributeBase o m X.env (eval o X.env)=eval o X.env
 few:((backTo cpos (starEach [e,f] X.env)).all (fun x=>!x.1) && (backToKw cpos (keywordEach [] X.env)).all (fun x=>x.1.isSome)
  && decide (([e,f]:List Expr).length+([]:List Keyword).length+(if ([]:List Keyword).isEmpty then 0 else 1)<30))=true
 line:(apos.endLine == cpos.line)=true
 trees:backTo cpos (starEach [e,f] X.env)=[(false,eval e X.env),(false,eval f X.env)]
section
variable {X:Cx}{pins:List (Addr × Obj)}{σ:St}{H:Hp}{s:Shared}{a:Addr}{y d:V}{u r:Value}{o:Option V}{A:Around}{E:Value->Shared->Prop}
end
section
variable {X:Cx}{o e f:Expr}{apos cpos:Pos}{td ty tx:TE}
end
section
variable {X:Cx}{pins:List (Addr × Obj)}{σ:St}{H:Hp}{s:Shared}{a:Addr}{kvs:List (Key × V)}{A:Around}{E:Value->Shared->Prop}
end
section
variable {X:Cx}{pins:List (Addr × Obj)}{σ:St}{H:Hp}{s:Shared}{a:Addr}{y:V}{u:Value}{A:Around}{E:Value->Shared->Prop}
end
section
variable {κ:Type}[DecidableEq κ]
end
end L2
set_option Elab.async false
set_option linter.all false
set_option maxRecDepth 100000
set_option maxHeartbeats 4000000
namespace L2
open PySem PySem.Spec PyProof.Rows
noncomputable def vD (N:List Str)(ts:List Nat)(sc:Scope)(kind:Str->Option NameKind):Bool:=
 sc.kind == .function && sc.names.all (fun y=>y.2 != .cell && (y.2 != .local || sc.names.lookup y.1 == some .local) && (y.2 != .free || kind y.1 == some .cell || kind y.1 == some .free)) &&
  N.zipIdx.all (fun p=>sc.names.lookup p.1 != some .local || ts.contains p.2)
noncomputable def zZ (cells:List (Str × Addr)):List (Str × NameKind)->List (Str × Addr)->List (Str × Addr)
 | [],acc=>acc
 | (n,k) :: r,acc=>zZ cells r (if k=.free then (n,(cells.lookup n).getD 0) :: acc else acc)
theorem yd {env:Env}:∀ (names:List (Str × NameKind)) (acc:List (Str × Addr)),(∀ y ∈ names,y.2=.free->∃ c,env.cells.lookup y.1=some c) ->
  (forIn names acc fun (x:Str × NameKind) (cs:List (Str × Addr))=>(match x with | (name,kind)=>if (kind == NameKind.free)=true then (do let c <- cellOf env name;pure (ForInStep.yield ((name,c) :: cs))) else pure (ForInStep.yield cs):Sem (ForInStep (List (Str × Addr)))))=pure (zZ env.cells names acc)
 | [],acc,_=>rfl
 | (n,k) :: r,acc,h=>by
  rw [List.forIn_cons]
  by_cases hk:k=.free
  ·subst hk
   obtain ⟨c,hc⟩:=h (n,.free) List.mem_cons_self rfl
   have e1:cellOf env n=pure c:=by unfold cellOf;rw [hc]
   simp only [beq_self_eq_true,if_true,e1,pure_bind]
   rw [yd r _ fun y hy=>h y (List.mem_cons_of_mem _ hy)]
   show _=pure (zZ env.cells r (if NameKind.free=.free then _ else _))
   rw [if_pos rfl,hc];rfl
  ·have hb:(k == NameKind.free)=false:=by simpa using hk
   simp only [hb,Bool.false_eq_true,if_false,pure_bind]
   rw [yd r _ fun y hy=>h y (List.mem_cons_of_mem _ hy)]
   show _=pure (zZ env.cells r (if k=.free then _ else _))
   rw [if_neg hk]
theorem jZ {cells : List (Str × Addr)} : ∀ (names : List (Str × NameKind)) (acc : List (Str × Addr)), (∀ y ∈ names, y.2 = .free -> ∃ c, cells.lookup y.1 = some c) -> (∀ x c, acc.lookup x = some c -> cells.lookup x = some c) ->
    (∀ x c,(zZ cells names acc).lookup x=some c->cells.lookup x=some c)/\(∀ x c,acc.lookup x=some c->∃ c',(zZ cells names acc).lookup x=some c')/\∀ y ∈ names,y.2=.free->∃ c,(zZ cells names acc).lookup y.1=some c
  | [],acc,_,h2=>⟨h2,fun x c e=>⟨c,e⟩,fun y hy=>nomatch hy⟩
  | (n,k) :: r,acc,h1,h2=>by
    by_cases hk:k=.free
    · subst hk
      obtain ⟨c,hc⟩:=h1 (n,.free) List.mem_cons_self rfl
      have hc:cells.lookup n=some c:=hc
      have e:zZ cells ((n,.free) :: r) acc=zZ cells r ((n,c) :: acc):=by
        show zZ cells r (if NameKind.free=.free then _ else _)=_
        rw [if_pos rfl,hc];rfl
      rw [e]
      obtain ⟨q1,q2,q3⟩:=jZ (cells:=cells) r ((n,c) :: acc) (fun y hy=>h1 y (List.mem_cons_of_mem _ hy)) (fun x c' e'=>by
        rw [List.lookup_cons] at e'
        cases hx:x == n with
        | true => rw [hx] at e'; have : x = n := by simpa using hx
                  subst this;cases e';exact hc
        | false=>rw [hx] at e';exact h2 x c' e')
      refine ⟨q1,fun x c' e'=>?_,fun y hy hf=>?_⟩
      · cases hx:x == n with
        | true=>exact q2 x c (by rw [List.lookup_cons,hx])
        | false=>exact q2 x c' (by rw [List.lookup_cons,hx];exact e')
      · rcases List.mem_cons.mp hy with rfl | hy
        · exact q2 n c (by rw [List.lookup_cons,beq_self_eq_true])
        · exact q3 y hy hf
    · have e : zZ cells ((n, k) :: r) acc = zZ cells r acc := by
        show zZ cells r (if k=.free then _ else _)=_
        rw [if_neg hk]
      rw [e]
      obtain ⟨q1,q2,q3⟩:=jZ (cells:=cells) r acc (fun y hy=>h1 y (List.mem_cons_of_mem _ hy)) h2
      refine ⟨q1,q2,fun y hy hf=>?_⟩
      rcases List.mem_cons.mp hy with rfl | hy
      · exact absurd hf hk
      · exact q3 y hy hf
theorem kT {scope:Scope}{env:Env}(h:∀ y ∈ scope.names,y.2=.free->∃ c,env.cells.lookup y.1=some c) :
  ∃ cl,closureFor scope env=pure cl/\(∀ x c,cl.lookup x=some c->env.cells.lookup x=some c)/\∀ y ∈ scope.names,y.2=.free->∃ c,cl.lookup y.1=some c:=by
 obtain ⟨q1,_,q3⟩:=jZ (cells:=env.cells) scope.names [] h (fun x c e=>nomatch e)
 refine ⟨zZ env.cells scope.names [],?_,q1,q3⟩
 unfold closureFor
 have:=yd (env:=env) scope.names [] h
 first
  | exact this
  | (simp only [bind_pure];exact this)
  | (refine Eq.trans ?_ this;simp)
theorem jK {env:Env}:∀ {names:List (Str × NameKind)} {x:Str},(names.map fun (n,k)=>if (k == NameKind.free && env.scope.kind == .function && env.kindOf n == some .cell) then (n,NameKind.cell) else (n,k)).lookup x =
  (names.lookup x).map fun k=>if (k == NameKind.free && env.scope.kind == .function && env.kindOf x == some .cell) then NameKind.cell else k
 | [],_=>rfl
 | (n,k) :: r,x=>by
  have ih:=@jK env r x
  rw [List.map_cons]
  cases hx:x == n with
  | true=>
   have e:x=n:=by simpa using hx
   subst e
   rw [List.lookup_cons (as:=r),beq_self_eq_true]
   show List.lookup x ((if (k == NameKind.free && env.scope.kind == .function && env.kindOf x == some .cell)=true then (x,NameKind.cell) else (x,k)) :: _)=some _
   by_cases hc:(k == NameKind.free && env.scope.kind == .function && env.kindOf x == some .cell)=true
   ·rw [if_pos hc,List.lookup_cons,beq_self_eq_true];dsimp only;rw [if_pos hc]
   ·rw [if_neg hc,List.lookup_cons,beq_self_eq_true];dsimp only;rw [if_neg hc]
  | false=>
   rw [List.lookup_cons (as:=r),hx]
   show List.lookup x ((if (k == NameKind.free && env.scope.kind == .function && env.kindOf n == some .cell)=true then (n,NameKind.cell) else (n,k)) :: _)=_
   by_cases hc:(k == NameKind.free && env.scope.kind == .function && env.kindOf n == some .cell)=true
   ·rw [if_pos hc,List.lookup_cons,hx];exact ih
   ·rw [if_neg hc,List.lookup_cons,hx];exact ih
noncomputable abbrev cxC (X:Cx)(scope:Scope)(cl:List (Str × Addr))(s:Shared)(H:Hp)(fp:List Addr):Cx:=
 { X with s₀:=s,H₀:=H,env:=compEnvC scope cl s.heap.objs.size X.env,outer:=X.stack,ex:=fp,fn:=fun _=>false,pn:=[],xe:=fun _ _=>False }
noncomputable def clr:List Nat->St->St
 | [],σ=>σ
 | j :: r,σ=>clr r (σ.set j none)
theorem Zd:∀ (ts:List Nat) (σ:St),(clr ts σ).length=σ.length
 | [],_=>rfl
 | j :: r,σ=>by show (clr r (σ.set j none)).length=_;rw [Zd r];simp
theorem yz:∀ (ts:List Nat) (σ:St) (i:Nat) (v:V),(clr ts σ)[i]?=some (some v)->i ∉ ts/\σ[i]?=some (some v)
 | [],_,_,_,h=>⟨by simp,h⟩
 | j :: r,σ,i,v,h=>by
  obtain ⟨h1,h2⟩:=yz r (σ.set j none) i v h
  by_cases e:j=i
  ·subst e
   rw [List.getElem?_set] at h2
   simp at h2
  ·rw [List.getElem?_set_ne e] at h2
   exact ⟨by simp [h1,Ne.symm e],h2⟩
structure ScF (X:Cx)(ts:List Nat)(scope:Scope):Prop where
 kind:scope.kind=.function
 cell:∀ y ∈ scope.names,y.2 ≠ .cell
 loc:∀ y ∈ scope.names,y.2=.local->scope.names.lookup y.1=some .local
 free:∀ y ∈ scope.names,y.2=.free->X.env.kindOf y.1=some .cell \/ X.env.kindOf y.1=some .free
 ts:∀ (i:Nat) x,X.N[i]?=some x->scope.names.lookup x=some .local->i ∈ ts
theorem Qt {X:Cx}{ts:List Nat}{scope:Scope}(h:vD X.N ts scope X.env.kindOf=true):ScF X ts scope:=by
  unfold vD at h
  simp only [Bool.and_eq_true,List.all_eq_true,bne_iff_ne,ne_eq,Bool.or_eq_true,beq_iff_eq] at h
  obtain ⟨⟨h1,h2⟩,h3⟩:=h
  refine ⟨h1,fun y hy=>(h2 y hy).1.1,fun y hy e=>?_,fun y hy e=>?_,fun i x e1 e2=>?_⟩
  · rcases (h2 y hy).1.2 with z | z
    · exact absurd e z
    · exact z
  · rcases (h2 y hy).2 with (z | z) | z
    · exact absurd e z
    · exact .inl z
    · exact .inr z
  · have hm : (x, i) ∈ X.N.zipIdx := by
      rw [List.mem_zipIdx_iff_getElem?];exact e1
    rcases h3 _ hm with z | z
    · exact absurd e2 z
    · simpa using z
section
variable {X:Cx}{ts:List Nat}{scope:Scope}{pins:List (Addr × Obj)}{σ:St}{H:Hp}{s:Shared}{fp:List Addr}
theorem kQ (I:Inv X pins σ H s)(S:ScF X ts scope)(hf:∀ b ∈ fp,jm X pins H b)(hfl:∀ b ∈ fp,b<s.heap.objs.size){cl:List (Str × Addr)}(c1:∀ x c,cl.lookup x=some c->X.env.cells.lookup x=some c)
  (c2:∀ y ∈ scope.names,y.2=.free->∃ c,cl.lookup y.1=some c) {h1:Heap} {t1:Nat} (hns:h1.Ns s.heap.objs.size (fun x=>([]:List (Str × Value)).reverse.lookup x))
  (hk:∀ b o,s.heap.get? b=some o->h1.get? b=some o):Inv (cxC X scope cl s H fp) [] (clr ts σ) H { s with heap:=h1,toks:=t1 }:=by
 have hlk:∀ x,(relabel scope X.env).names.lookup x=(scope.names.lookup x).map fun k=>if (k == NameKind.free && X.env.scope.kind == .function && X.env.kindOf x == some .cell) then NameKind.cell else k:=fun x=>jK
 have cfree:∀ x,((relabel scope X.env).names.lookup x=some .cell \/ (relabel scope X.env).names.lookup x=some .free)->(x,NameKind.free) ∈ scope.names:=fun x hx=>by
  rw [hlk] at hx
  cases e:scope.names.lookup x with
  | none=>rw [e] at hx;rcases hx with hx | hx <;> cases hx
  | some k=>
   have hm:=mem_of_lookup_some e
   cases k with
   | free=>exact hm
   | cell=>exact absurd rfl (S.cell _ hm)
   | «local»=>rw [e] at hx;rcases hx with hx | hx <;> cases hx
   | globalExplicit=>rw [e] at hx;rcases hx with hx | hx <;> cases hx
   | globalImplicit=>rw [e] at hx;rcases hx with hx | hx <;> cases hx
 have ccell:∀ x c,cl.lookup x=some c->∃ v,s.heap.IsCell c v:=fun x c e=>I.cell x c (c1 x c e)
 have fpne:∀ b ∈ fp,b ∉ frs X.stack:=fun b hb z=>by
  obtain ⟨_,f1,f2,_⟩:=hf b hb
  rcases List.mem_cons.mp (I.stkSub b z) with e | e
  ·exact f1 e
  ·exact f2 e
 refine ⟨⟨I.ok.mod,S.kind,I.ok.glob,I.ok.blt,Nat.le_refl _,fun x y c e1 e2=>I.ok.inj x y c (c1 x c e1) (c1 y c e2),fun x hx=>c2 (x,.free) (cfree x hx) rfl,(fun x c hx=>nomatch hx),I.ok.hd,I.ok.frames,.inl rfl,fun b hb=>⟨Nat.ne_of_lt (hfl b hb),fun x c e=>(hf b hb).2.2.2.2.1 x c (c1 x c e)⟩,
  I.bs,Nat.le_trans I.ok.bsz I.sz,fun b o e hb=>?_,fpne,I.stack,I.stkFree⟩,rfl,I.bare,Un.kept hk,⟨_,hns,fun i x v e1 e2 e3=>?_⟩,fun x c e=>?_,I.hok.fresh (Nat.le_refl _),fun x c e=>I.freeC x c (c1 x c e),fun p hp=>absurd hp (by simp),I.hok.kept hk,by rw [Zd];exact I.len⟩
 ·rcases (hf b hb).2.2.2.1 with z | z
  ·exact I.ok.noex b o e z
  ·exact absurd (Nat.lt_of_lt_of_le (Heap.lt_size e) (Nat.le_trans I.ok.bsz z)) (Nat.lt_irrefl _)
 ·obtain ⟨nt,e2⟩:=yz ts σ i v e2
  have e3':(relabel scope X.env).names.lookup x=some .local \/ (relabel scope X.env).names.lookup x=some .cell \/ (relabel scope X.env).names.lookup x=some .free:=e3
  rcases e3' with z | z
  ·rw [hlk] at z
   cases e:scope.names.lookup x with
   | none=>rw [e] at z;cases z
   | some k=>
    rw [e] at z
    have z':(if (k == NameKind.free && X.env.scope.kind == .function && X.env.kindOf x == some .cell)=true then NameKind.cell else k)=.local:=Option.some.inj z
    split at z'
    ·cases z'
    ·subst z'
     exact absurd (S.ts i x e1 e) nt
  ·have hm:=cfree x z
   obtain ⟨c,hc⟩:=c2 _ hm rfl
   obtain ⟨m,hn,hl⟩:=I.loc
   have vis:Vis X.env.scope x:=by
    rcases S.free _ hm rfl with q | q
    ·exact .inr (.inl q)
    ·exact .inr (.inr q)
   obtain ⟨u,r,l⟩:=hl i x v e1 e2 vis
   refine ⟨u,r,.inr ⟨z,c,hc,?_⟩⟩
   rcases l with ⟨q,_⟩ | ⟨_,c',hc',hcell⟩
   ·rcases S.free _ hm rfl with q' | q'
    ·rw [q'] at q;cases q
    ·rw [q'] at q;cases q
   ·rw [c1 x c hc] at hc'
    cases hc'
    obtain ⟨o,ho,hd⟩:=hcell
    exact ⟨o,hk _ _ ho,hd⟩
 ·obtain ⟨v,o,ho,hd⟩:=ccell x c e
  exact ⟨v,o,hk _ _ ho,hd⟩
end
section
variable {prog:Program}{w:World}{A:Around}{R:Result->Shared->Prop}{s:Shared}
theorem jp {elt target iter : Expr}{ifs : List Expr}{scope : Scope}{pos : Pos}{it acc : Value}{env : Env}(I : Nat -> Shared -> Prop)
    (turn:∀ n s,I n s->wpAny (model prog w) A (pyNext it) (fun r s₁=>match r with
      | none=>R (.ok .next) s₁
      | some v => wpAny (model prog w) A (letOwnedTupleGo target it v) (fun _ s₀ => wpAny (model prog w) A (assign target env v) (fun _ s₂ =>
          wpAny (model prog w) A (forIn ifs true fun c r=>if r=true then do let ok <- isTrue c env (eval c env);pure (ForInStep.yield ok) else pure (ForInStep.yield r)) (fun ok s₃=>
            if ok=true then wpAny (model prog w) A (eval elt env) (fun x s₄=>
              wpAny (model prog w) A (call (.builtin "list.append") [acc,x]) (fun _ s₅=>∃ m,m<n/\I m s₅) (fun _ _=>False) s₄) (fun _ _=>False) s₃
            else ∃ m,m<n/\I m s₃) (fun _ _=>False) s₂) (fun _ _=>False) s₀) (fun _ _=>False) s₁) (fun _ _=>False) s)
    (n:Nat) (h:I n s) :
    codeAny (model prog w) A (.compLoop (.ListComp elt [⟨target,iter,ifs,0⟩] scope pos) 0 it acc env) R s:=by
  refine codeAny_loop rfl I (fun n s hI=>?_) n h
  show wpAny _ A ((compTurn (.ListComp elt [⟨target,iter,ifs,0⟩] scope pos) 0 it acc env).onRaise (fun x=>do noteFrame x env;theTreesLotGoes x)) _ _ s
  refine wpAny_noted ?_
  rw [compTurn_list]
  refine wpAny_bind (wpAny_standAt (wpAny_bind (wpAny_mono (turn n s hI) (fun r s₁ h₁=>?_) fun _ _ h'=>h'.elim)))
  cases r with
  | none=>exact wpAny_pure h₁
  | some v=>
    refine wpAny_bind (wpAny_mono h₁ (fun _ s₀ h₀=>?_) fun _ _ h'=>h'.elim)
    refine wpAny_bind (wpAny_mono h₀ (fun _ s₂ h₂=>wpAny_bind (wpAny_mono h₂ (fun ok s₃ h₃=>?_) fun _ _ h'=>h'.elim)) fun _ _ h'=>h'.elim)
    cases ok with
    | false=>exact wpAny_pure ⟨rfl,h₃⟩
    | true=>
      exact wpAny_bind (wpAny_bind (wpAny_mono h₃ (fun x s₄ h₄=>wpAny_bind (wpAny_mono h₄ (fun _ s₅ h₅=>wpAny_pure (wpAny_pure ⟨rfl,h₅⟩)) fun _ _ h'=>h'.elim)) fun _ _ h'=>h'.elim))
end
noncomputable def Q3:TT:=fun _ H Q=>Q true H
noncomputable def PIf (X:Cx)(ifs:List Expr)(t:TT):Prop:=
 ∀ (pins:List (Addr × Obj)) (s:Shared) (σ:St) (H:Hp) (Q:Bool->Hp->Prop),Inv X pins σ H s->t σ H Q ->
  wpAny (model X.prog X.w) X.A (forIn ifs true fun c r=>if r=true then do let ok <- isTrue c X.env (eval c X.env);pure (ForInStep.yield ok) else pure (ForInStep.yield r)) (TP X pins σ Q) X.xe s
theorem qi {X:Cx}:PIf X [] Q3:=fun _ _ _ H _ I h=>wpAny_tests_nil ⟨H,I,h⟩
noncomputable def wH (ts:List Nat)(wi:TI)(g:TG)(tt:TT)(te:TE):TE:=fun σ H Q=>wi σ H fun J H1=>∀ D,H1 D=none->∃ W:Nat->Nat->St->Hp->Prop,(∃ m,W 0 m (clr ts σ) (upd H1 D (.lst [])))/\∀ i m τ H2,W i m τ H2 ->
 (J.stop i H2/\Q (.ref D) H2) \/ (J.go i H2/\∃ N:St->Hp->Prop,(∀ τ' H',N τ' H'->∃ m',m'<m/\W (i+1) m' τ' H')/\∀ x H',J.yld i H2 x H'->g x τ H' fun τ2 H3=>tt τ2 H3 fun b H4=>
  if b=true then te τ2 H4 fun v H5=>∃ ys,H5 D=some (.lst ys)/\ys.length<sizeLine/\N τ2 (upd H5 D (.lst (ys ++ [v]))) else N τ2 H4)
section
variable {X:Cx}{ts:List Nat}{scope:Scope}{tg iter elt:Expr}{ifs:List Expr}{wi:TI}{g:TG}{tt:TT}{te:TE}{pos:Pos}
theorem Q2 (hc:X.calm=true)(hsc:vD X.N ts scope X.env.kindOf=true)(hi:PI X tg iter wi)(hg:∀ cl s H fp,PG (cxC X scope cl s H fp) tg g)(ht:∀ cl s H fp,PIf (cxC X scope cl s H fp) ifs tt)(he:∀ cl s H fp,PE (cxC X scope cl s H fp) elt te)
  {pins:List (Addr × Obj)} {s:Shared} {σ:St} {H:Hp} {Q:VK} (I:Inv X pins σ H s) (h:wH ts wi g tt te σ H Q) {use:Option (Value->Sem Unit)} {Q':Value->Shared->Prop}
  (fin:∀ (D C:Addr) (H':Hp) (s':Shared),Inv X pins σ H' s'->(∃ m,s'.heap.Ns C m)->H' C=none->C ≠ X.env.locals->(∀ x c,X.env.cells.lookup x=some c->c ≠ C)->X.s₀.heap.objs.size<=C->(∀ p ∈ X.pn ++ pins,p.1 ≠ C)->C ∉ X.fs->Q (.ref D) H' ->
   compPost (model X.prog X.w) X.A X.xe use Q' (.ref D) C (.ok .next) s')
  (hs:∀ x,foldedSetIterable iter X.env x=pure x) :
  wpAny (model X.prog X.w) X.A (comprehension (.ListComp elt [⟨tg,iter,ifs,0⟩] scope pos) scope X.env (firstIterPos [⟨tg,iter,ifs,0⟩] pos) (newList []) false (eval iter X.env) use) Q' X.xe s:=by
 have S:=Qt hsc
 obtain ⟨cl,hcl,c1,c2⟩:=kT (scope:=scope) (env:=X.env) fun y hy e=>I.ok.has y.1 (S.free y hy e)
 refine wpAny_comprehension_free (use:=use) rfl hs hcl S.kind S.loc ?_
 refine wpAny_mono (hi pins s σ H _ I h) (fun v s1 h1=>wpAny_mono h1 (fun itv s2 h2=>?_) fun _ _ e=>e) fun _ _ e=>e
 obtain ⟨it,fp,tn,J,H2,e,I2,T,st2,f2,q2⟩:=h2
 subst e
 have hD:H2 s2.heap.objs.size=none:=I2.hok.fresh (Nat.le_refl _)
 obtain ⟨W,⟨m0,w0⟩,turn⟩:=q2 _ hD
 refine wpAny_newObj_type (wpAny_newFunctionEnv S.cell (by intro y hy;simp at hy) (fun h₁ hns₁ hsb₁=>?_) S.kind)
 dsimp only at hns₁ hsb₁ ⊢
 generalize hh3:s2.heap.push { cls:=.type "list",dict:=none,data:=.seq ([]:List Value).toArray }=g3 at hns₁ hsb₁ ⊢
 have I3:Inv X pins σ (upd H2 s2.heap.objs.size (.lst [])) { s2 with heap:=g3 }:=by
  rw [<- hh3]
  exact I2.laid (t':=s2.toks) (fun b u e=>Heap.get?_push_of_some _ e) (Nat.le_refl _) ⟨Nat.zero_le _,[],_,.nil,Heap.get?_push_size _ rfl⟩
 have st3:tn 0 g3:=T.keep _ _ _ st2 fun b _ o e=>by rw [<- hh3];exact Heap.get?_push_of_some _ e
 have lt2:∀ b ∈ fp,b<s2.heap.objs.size:=fun b hb=>by obtain ⟨o,e,_⟩:=T.obj _ _ st2 b hb;exact Heap.lt_size e
 have hsz3:g3.objs.size=s2.heap.objs.size+1:=by rw [<- hh3,Heap.size_push]
 have f3:∀ b ∈ fp,jm X pins (upd H2 s2.heap.objs.size (.lst [])) b:=fun b hb=>⟨by rw [ze (Nat.ne_of_lt (lt2 b hb))];exact (f2 b hb).1,(f2 b hb).2⟩
 have lt3:∀ b ∈ fp,b<g3.objs.size:=fun b hb=>by rw [hsz3];exact Nat.lt_succ_of_lt (lt2 b hb)
 have old:∀ b o,g3.get? b=some o->h₁.get? b=some o:=fun b o e=>hsb₁.extBut b o (Nat.ne_of_lt (Heap.lt_size e)) (Heap.get?_push_of_some _ e)
 have hns:h₁.Ns g3.objs.size (fun x=>([]:List (Str × Value)).reverse.lookup x):=hns₁
 have I4:∀ t,Inv (cxC X scope cl { s2 with heap:=g3 } (upd H2 s2.heap.objs.size (.lst [])) fp) [] (clr ts σ) (upd H2 s2.heap.objs.size (.lst [])) { s2 with heap:=h₁,toks:=t }:=fun t=>kQ I3 S f3 lt3 c1 c2 hns old
 have fpne:∀ b ∈ fp,b ∉ frs X.stack:=fun b hb z=>by
  obtain ⟨_,f1,f2,_⟩:=f3 b hb
  rcases List.mem_cons.mp (I3.stkSub b z) with e | e
  ·exact f1 e
  ·exact f2 e
 have stat:∀ {H':Hp},(∀ b ∈ fp,H' b=none)->∀ b ∈ fp,jm (cxC X scope cl { s2 with heap:=g3 } (upd H2 s2.heap.objs.size (.lst [])) fp) [] H' b:=fun hn b hb=>
  ⟨hn b hb,Nat.ne_of_lt (lt3 b hb),fpne b hb,.inl hb,fun x c e=>(f2 b hb).2.2.2.2.1 x c (c1 x c e),fun p hp=>absurd hp (by simp)⟩
 have loop:∀ t,codeAny (model X.prog X.w) X.A (.compLoop (.ListComp elt [⟨tg,iter,ifs,0⟩] scope pos) 0 (.ref it) (.ref s2.heap.objs.size) (compEnvC scope cl g3.objs.size X.env))
   (compPost (model X.prog X.w) X.A X.xe use Q' (.ref s2.heap.objs.size) g3.objs.size) { s2 with heap:=h₁,toks:=t }:=by
  intro t
  refine jp (fun n s'=>∃ i τ H',Inv (cxC X scope cl { s2 with heap:=g3 } (upd H2 s2.heap.objs.size (.lst [])) fp) [] τ H' s'/\tn i s'.heap/\(∀ b ∈ fp,H' b=none)/\W i n τ H') ?_ m0
   ⟨0,clr ts σ,_,I4 t,T.keep _ _ _ st3 fun b _ o e=>old b o e,fun b hb=>(f3 b hb).1,w0⟩
  rintro n s5 ⟨i,τ,H5,I5,st5,fr5,w5⟩
  rcases turn i n τ H5 w5 with ⟨stop,qn⟩ | ⟨go,N,hN,step⟩
  ·refine thn (T.done (cxC X scope cl { s2 with heap:=g3 } (upd H2 s2.heap.objs.size (.lst [])) fp) rfl rfl rfl hc i [] s5 τ H5 _ I5 (stat fr5) st5 stop) fun r s6 ⟨hr,I6⟩=>?_
   subst hr
   have base:Un (frs X.stack) fp (upd H2 s2.heap.objs.size (.lst [])) H5 g3 s6.heap:=I6.base
   have J6:Inv X pins σ H5 s6:=I3.call' (ch:=fp) I6.os base I6.hok I6.bare fun b hb=>⟨(f3 b hb).2.2.2.1,(f3 b hb).2.1,(f3 b hb).2.2.2.2.1,(f3 b hb).2.2.2.2.2⟩
   obtain ⟨m6,n6,_⟩:=I6.loc
   have hC:g3.get? g3.objs.size=none:=Heap.get?_none_of_le (Nat.le_refl _)
   refine fin _ g3.objs.size H5 s6 J6 ⟨m6,n6⟩ I6.free (Nat.ne_of_gt I3.lt) (fun x c e z=>?_) I3.sz (fun p hp z=>?_) (I3.nofs (Nat.le_refl _)) qn
   ·obtain ⟨v,q⟩:=I3.cell x c e
    exact absurd q.lt (by rw [z];exact Nat.lt_irrefl _)
   ·exact absurd (Heap.lt_size (I3.pin p hp).1) (by rw [z];exact Nat.lt_irrefl _)
  ·refine thn (T.item (cxC X scope cl { s2 with heap:=g3 } (upd H2 s2.heap.objs.size (.lst [])) fp) rfl rfl rfl hc i [] s5 τ H5 _ I5 (stat fr5) st5 go) fun r s6 ⟨u,hr,h6⟩=>?_
   subst hr
   refine thn h6 fun _ s7 ⟨x,H7,I7,r7,y7,st7,fr7⟩=>?_
   have I7':=I7.pinned (stat fr7) (T.obj _ _ st7)
   refine thn (hg cl { s2 with heap:=g3 } _ fp _ s7 τ H7 x u _ I7' r7 (step x H7 y7)) fun _ s8 ⟨τ8,H8,I8,q8⟩=>?_
   refine thn (ht cl { s2 with heap:=g3 } _ fp _ s8 τ8 H8 _ I8 q8) fun b s9 ⟨H9,I9,q9⟩=>?_
   have again:∀ {τ9:St} {H9:Hp} {s9:Shared},Inv (cxC X scope cl { s2 with heap:=g3 } (upd H2 s2.heap.objs.size (.lst [])) fp) ([] ++ j5 fp s7.heap) τ9 H9 s9->N τ9 H9 ->
     ∃ m,m<n/\∃ i τ H',Inv (cxC X scope cl { s2 with heap:=g3 } (upd H2 s2.heap.objs.size (.lst [])) fp) [] τ H' s9/\tn i s9.heap/\(∀ b ∈ fp,H' b=none)/\W i m τ H':=fun {τ9 H9 s9} I9 n9=>by
    obtain ⟨m',hm,w9⟩:=hN _ _ n9
    refine ⟨m',hm,i+1,τ9,H9,I9.unpinned,T.keep _ _ _ st7 fun b hb o e=>(I9.pin (b,o) (List.mem_append_right _ (List.mem_append_right _ (qg hb e)))).1,fun b hb=>?_,w9⟩
    obtain ⟨o,e,d⟩:=T.obj _ _ st7 b hb
    exact (I9.pin (b,o) (List.mem_append_right _ (List.mem_append_right _ (qg hb e)))).2.1
   cases b with
   | false=>
    rw [if_neg Bool.false_ne_true] at q9 ⊢
    exact again I9 q9
   | true=>
    rw [if_pos rfl] at q9 ⊢
    refine thn (he cl { s2 with heap:=g3 } _ fp _ s9 τ8 H9 _ I9 q9) fun y s10 ⟨v,H10,I10,r10,ys,hys,hlen,n10⟩=>?_
    exact thn (jS (X:=cxC X scope cl { s2 with heap:=g3 } (upd H2 s2.heap.objs.size (.lst [])) fp) _ s10 τ8 H10 (.ref s2.heap.objs.size) [v] (.ref s2.heap.objs.size) [y] (fun _ H11=>N τ8 H11) I10 rfl (.cons r10 .nil) ⟨_,ys,v,rfl,rfl,hys,hlen,n10⟩) fun _ s11 ⟨_,H11,I11,_,n11⟩=>again I11 n11
 have LW:=loop (s2.toks+([]:List (Str × Value)).length)
 exact codeAny_compStart_list LW (T.self _ 0 _ _ _ (T.keep _ _ _ st3 fun b _ o e=>old b o e) LW)
end
section
variable {X:Cx}{ts:List Nat}{scope:Scope}{tg iter elt:Expr}{ifs:List Expr}{wi:TI}{g:TG}{tt:TT}{te:TE}{pos:Pos}
theorem qR (hc:X.calm=true)(hsc:vD X.N ts scope X.env.kindOf=true)(hi:PI X tg iter wi)(hg:∀ cl s H fp,PG (cxC X scope cl s H fp) tg g)(ht:∀ cl s H fp,PIf (cxC X scope cl s H fp) ifs tt)(he:∀ cl s H fp,PE (cxC X scope cl s H fp) elt te)
  (hs:∀ x,foldedSetIterable iter X.env x=pure x:=by intro _;rfl):PE X (.ListComp elt [⟨tg,iter,ifs,0⟩] scope pos) (wH ts wi g tt te):=by
 intro pins s σ H Q I h
 rw [eval_ListComp]
 refine Q2 hc hsc hi hg ht he I h (use:=none) (fun D C H' s' I' ⟨m,hn⟩ hC hL hce hsz hp hfs q=>⟨m,hn,fun h' hs'=>?_⟩) hs
 exact ⟨.ref D,H',I'.turned (t':=s'.toks) (it:=C) (fun b o hb e=>(hs'.2 b hb).trans e) hC hL (.inr hsz) hce hp,rfl,q⟩
end
noncomputable def Ite (K:PySem.W.Frag)(a:Addr):It:=
 ⟨fun i H=>∃ xs x,SqL K H a xs/\xs[i]?=some x,fun i H y H'=>∃ p x,H p=none/\y=.ref p/\(∀ xs,SqL K H a xs->xs[i]?=some x)/\H'=upd H p (.tup [.int i,x]),fun i H=>∃ xs,SqL K H a xs/\xs.length<=i⟩
theorem xC {P:Program}{w:World}{K:PySem.W.Frag}{es:List Expr}{kt:Nat}{tp:Pos}(a e it:Addr)(hei:e ≠ it):yb P w K (.Tuple es kt tp) (Ite K a) [e,it] e (fun i h=>(∃ old,IsEnum h e it (i:Nat) old)/\h.IsListIter it a i) where
 mem:=by simp
 obj:=fun i h st b hb=>by
  obtain ⟨⟨old,he⟩,⟨o,e1,c,d⟩⟩:=st
  rcases List.mem_cons.mp hb with rfl | hb
  ·exact ⟨_,he,fun v z=>by have z':Data.fields _=Data.cell v:=z;cases z'⟩
  ·have e2:b=it:=by simpa using hb
   subst e2
   exact ⟨o,e1,fun v z=>by rw [d] at z;cases z⟩
 keep:=fun i h h' st k=>by
  obtain ⟨⟨old,he⟩,st⟩:=st
  exact ⟨⟨old,k e (by simp) _ he⟩,st.at fun o e=>k it (by simp) o e⟩
 item:=by
  intro X hP hw hK hc i pins s σ H E I hf st hg
  subst hP hw hK
  obtain ⟨⟨old,he⟩,st⟩:=st
  obtain ⟨xs,x,hq,hx⟩:=hg
  obtain ⟨its,rv,p,hz⟩:=I.list hq
  obtain ⟨u,hu,ru⟩:=rv.get hx
  have fe:=hf e (by simp)
  have fi:=hf it (by simp)
  refine wpAny_pyNext_enum_item he st p.isList (x:=u) (by simpa using hu) hei fun h1 heo hit1 ht1 hz1 hk1=>?_
  refine ⟨.ref s.heap.objs.size,rfl,wpAny_letOwnedTupleGo_enum heo fun h2 he2 hs2=>?_⟩
  replace hs2:Heap.SameBut e h1 h2:=hs2
  have elt:e<s.heap.objs.size:=Heap.lt_size he
  have hfr:H s.heap.objs.size=none:=I.hok.fresh (Nat.le_refl _)
  have ht2:h2.get? s.heap.objs.size=some { cls:=.type "tuple",data:=.seq #[.int i s.toks,u] }:=(hs2.2 _ (Nat.ne_of_gt elt)).trans ht1
  have kk:∀ b o,b ∉ [e,it]->s.heap.get? b=some o->h2.get? b=some o:=fun b o hc q=>by
   have n1:b ≠ e:=fun z=>hc (by simp [z])
   have n2:b ≠ it:=fun z=>hc (by simp [z])
   exact (hs2.2 b n1).trans (hk1 b o n1 n2 q)
  have nb:∀ c v,H c=some v->c ∉ [e,it]:=fun c v z hm=>by
   rcases List.mem_cons.mp hm with z' | z'
   ·rw [z',fe.1] at z;cases z
   ·have e2:c=it:=by simpa using z'
    rw [e2,fi.1] at z;cases z
  have I2:Inv X pins σ (upd H s.heap.objs.size (.tup [.int i,x])) { s with heap:=h2,toks:=s.toks+1 }:=by
   refine I.step (g':=s.gens) (d':=s.drawn) (ch:=[e,it]) (fun b hb=>?_) (fun b o _ _ hc q _=>kk b o hc q) (fun b o _ _ hc q _=>⟨o.slots,kk b o hc q⟩) (fun b o _ q n=>by rw [ze (Nat.ne_of_lt (Heap.lt_size q))];exact n) (fun b o hc q=>⟨o,kk b o hc q⟩)
    (fun b xs q=>by rw [ze (zg q hfr)];exact q) (fun b o u q=>by rw [ze (zg q hfr)];exact q) (fun b ps q=>⟨#[],by rw [ze (zg q hfr),q];simp⟩) (fun m hm=>?_) (fun b v q=>?_) I.bare
   ·rcases List.mem_cons.mp hb with z | hb
    ·rw [z];exact ⟨fe.2.2.2.1,fe.2.1,fe.2.2.2.2.1,fe.2.2.2.2.2⟩
    ·have e2:b=it:=by simpa using hb
     rw [e2];exact ⟨fi.2.2.2.1,fi.2.1,fi.2.2.2.2.1,fi.2.2.2.2.2⟩
   ·obtain ⟨o,es,ep,ho,r⟩:=hm
    exact ⟨o,es,ep,kk _ o (by simp [Ne.symm fe.2.1,Ne.symm fi.2.1]) ho,r⟩
   ·by_cases hb:b=s.heap.objs.size
    ·subst hb
     rw [zl] at q
     cases q
     exact ⟨by show 2<=sizeLine;decide,[.int i s.toks,u],.cons ⟨_,rfl⟩ (.cons ru .nil),_,ht2,rfl,⟨_,rfl⟩,rfl⟩
    ·rw [ze hb] at q
     refine (I.hok b v q).stay (fun c o hc q'=>kk c o ?_ q') (fun c z=>by rw [ze (zg z hfr)];exact z) fun c xs z=>by rw [ze (zg z hfr)];exact z
     rcases hc with z | z
     ·rw [z];exact nb b v q
     ·exact nb c _ z
  refine ⟨.ref s.heap.objs.size,_,I2,rfl,⟨s.heap.objs.size,x,hfr,rfl,fun ys hy=>by rw [I.list_inj hy hq];exact hx,rfl⟩,⟨⟨_,by simpa using he2⟩,hit1.extBut hs2.extBut (Ne.symm hei)⟩,fun b hb=>?_⟩
  have hlt:b<s.heap.objs.size:=by
   rcases List.mem_cons.mp hb with rfl | hb
   ·exact elt
   ·have e2:b=it:=by simpa using hb
    subst e2
    obtain ⟨o,e1,_⟩:=st
    exact Heap.lt_size e1
  rw [ze (Nat.ne_of_lt hlt)]
  exact (hf b hb).1
 done:=by
  intro X hP hw hK hc i pins s σ H E I hf st hg
  subst hP hw hK
  obtain ⟨⟨old,he⟩,st⟩:=st
  obtain ⟨xs,hq,hx⟩:=hg
  obtain ⟨its,rv,p,hz⟩:=I.list hq
  obtain ⟨f0,f1,f2,f3,f4,f5⟩:=hf it (by simp)
  have hl:=rv.length
  exact wpAny_pyNext_enum_end (I.ok.hd hc) he st p.isList (by simp;omega) fun h' eb=>⟨rfl,I.turned (t':=s.toks) (fun b o hb e=>eb b o hb e) f0 f1 f3 f4 f5⟩
 self:=fun _ _ _ _ _ st h=>by
  obtain ⟨⟨old,he⟩,_⟩:=st
  exact wpAny_pyIter_enum he h
section
variable {X:Cx}{pins:List (Addr × Obj)}{σ:St}{H:Hp}{s:Shared}
theorem Inv.yieldTup {ch:List Addr}{h2:Heap}{tk:Nat}{T:Addr}{xs:List V}{us:List Value}(I:Inv X pins σ H s)(hf:∀ b ∈ ch,jm X pins H b)(kk:∀ b o,b ∉ ch->s.heap.get? b=some o->h2.get? b=some o)(hT:s.heap.objs.size<=T)
  (ht2:h2.get? T=some { cls:=.type "tuple",data:=.seq us.toArray }) (rv:zk xs us) (hz:xs.length<=sizeLine):Inv X pins σ (upd H T (.tup xs)) { s with heap:=h2,toks:=tk }:=by
 have hfr:H T=none:=I.hok.fresh hT
 have nb:∀ c v,H c=some v->c ∉ ch:=fun c v z hm=>by rw [(hf c hm).1] at z;cases z
 refine I.step (g':=s.gens) (d':=s.drawn) (ch:=ch) (fun b hb=>⟨(hf b hb).2.2.2.1,(hf b hb).2.1,(hf b hb).2.2.2.2.1,(hf b hb).2.2.2.2.2⟩) (fun b o _ _ hc q _=>kk b o hc q) (fun b o _ _ hc q _=>⟨o.slots,kk b o hc q⟩)
  (fun b o _ q n=>by rw [ze (Nat.ne_of_lt (Nat.lt_of_lt_of_le (Heap.lt_size q) hT))];exact n) (fun b o hc q=>⟨o,kk b o hc q⟩)
  (fun b xs q=>by rw [ze (zg q hfr)];exact q) (fun b o u q=>by rw [ze (zg q hfr)];exact q) (fun b ps q=>⟨#[],by rw [ze (zg q hfr),q];simp⟩) (fun m hm=>?_) (fun b v q=>?_) I.bare
 ·obtain ⟨o,es,ep,ho,r⟩:=hm
  exact ⟨o,es,ep,kk _ o (fun z=>(hf _ z).2.1 rfl) ho,r⟩
 ·by_cases hb:b=T
  ·subst hb
   rw [zl] at q
   cases q
   exact ⟨hz,us,rv,_,ht2,rfl,⟨_,rfl⟩,rfl⟩
  ·rw [ze hb] at q
   refine (I.hok b v q).stay (fun c o hc q'=>kk c o ?_ q') (fun c z=>by rw [ze (zg z hfr)];exact z) fun c xs z=>by rw [ze (zg z hfr)];exact z
   rcases hc with z | z
   ·rw [z];exact nb b v q
   ·exact nb c _ z
theorem Inv.turnedL {ch:List Addr}{h2:Heap}{tk:Nat}(I:Inv X pins σ H s)(hf:∀ b ∈ ch,jm X pins H b)(kk:∀ b o,b ∉ ch->s.heap.get? b=some o->h2.get? b=some o):Inv X pins σ H { s with heap:=h2,toks:=tk }:=by
 have nb:∀ c v,H c=some v->c ∉ ch:=fun c v z hm=>by rw [(hf c hm).1] at z;cases z
 refine I.step (g':=s.gens) (d':=s.drawn) (ch:=ch) (fun b hb=>⟨(hf b hb).2.2.2.1,(hf b hb).2.1,(hf b hb).2.2.2.2.1,(hf b hb).2.2.2.2.2⟩) (fun b o _ _ hc q _=>kk b o hc q) (fun b o _ _ hc q _=>⟨o.slots,kk b o hc q⟩)
  (fun b o _ q n=>n) (fun b o hc q=>⟨o,kk b o hc q⟩) (fun b xs q=>q) (fun b o u q=>q) (fun b ps q=>⟨#[],by rw [q];simp⟩) (fun m hm=>?_) (fun b v q=>?_) I.bare
 ·obtain ⟨o,es,ep,ho,r⟩:=hm
  exact ⟨o,es,ep,kk _ o (fun z=>(hf _ z).2.1 rfl) ho,r⟩
 ·refine (I.hok b v q).stay (fun c o hc q'=>kk c o ?_ q') (fun c z=>z) fun c xs z=>z
  rcases hc with z | z
  ·rw [z];exact nb b v q
  ·exact nb c _ z
end
noncomputable def Itz (K:PySem.W.Frag)(a b:Addr):It:=
 ⟨fun i H=>∃ xs ys x y,SqL K H a xs/\SqL K H b ys/\xs[i]?=some x/\ys[i]?=some y,fun i H z H'=>∃ p x y,H p=none/\z=.ref p/\(∀ xs,SqL K H a xs->xs[i]?=some x)/\(∀ ys,SqL K H b ys->ys[i]?=some y)/\H'=upd H p (.tup [x,y]),
  fun i H=>∃ xs ys,SqL K H a xs/\SqL K H b ys/\(xs.length<=i \/ ys.length<=i)⟩
theorem QW {P:Program}{w:World}{K:PySem.W.Frag}{es:List Expr}{kt:Nat}{tp:Pos}(l1 l2 z TI TO i1 i2:Addr)(D:ZipApart z TI TO i1 i2 l1 l2) :
  yb P w K (.Tuple es kt tp) (Itz K l1 l2) [z,TI,TO,i1,i2] z (fun i h=>IsZip h z TI TO .none/\IsPair h TI (.ref i1) (.ref i2)/\(∃ a b,IsPair h TO a b)/\h.IsListIter i1 l1 i/\h.IsListIter i2 l2 i) where
 mem:=by simp
 obj:=fun i h st b hb=>by
  obtain ⟨hz,hTI,⟨a,c,hTO⟩,⟨o1,e1,c1,d1⟩,⟨o2,e2,c2,d2⟩⟩:=st
  simp only [List.mem_cons,List.not_mem_nil,or_false] at hb
  rcases hb with rfl | rfl | rfl | rfl | rfl
  ·exact ⟨_,hz,fun v q=>by have q':Data.fields _=Data.cell v:=q;cases q'⟩
  ·exact ⟨_,hTI,fun v q=>by have q':Data.seq _ _=Data.cell v:=q;cases q'⟩
  ·exact ⟨_,hTO,fun v q=>by have q':Data.seq _ _=Data.cell v:=q;cases q'⟩
  ·exact ⟨o1,e1,fun v q=>by rw [d1] at q;cases q⟩
  ·exact ⟨o2,e2,fun v q=>by rw [d2] at q;cases q⟩
 keep:=fun i h h' st k=>by
  obtain ⟨hz,hTI,⟨a,c,hTO⟩,h1,h2⟩:=st
  exact ⟨k _ (by simp) _ hz,k _ (by simp) _ hTI,⟨a,c,k _ (by simp) _ hTO⟩,h1.at fun o e=>k _ (by simp) o e,h2.at fun o e=>k _ (by simp) o e⟩
 item:=by
  intro X hP hw hK hc i pins s σ H E I hf st hg
  subst hP hw hK
  obtain ⟨hz,hTI,⟨a,c,hTO⟩,h1,h2⟩:=st
  obtain ⟨xs,ys,x,y,hq1,hq2,hx,hy⟩:=hg
  obtain ⟨its1,rv1,p1,hz1⟩:=I.list hq1
  obtain ⟨its2,rv2,p2,hz2⟩:=I.list hq2
  obtain ⟨u,hu,ru⟩:=rv1.get hx
  obtain ⟨v,hv,rvv⟩:=rv2.get hy
  refine wpAny_pyNext_zip_item D hz hTI hTO h1 h2 p1.isList p2.isList (x:=u) (y:=v) (by simpa using hu) (by simpa using hv) fun g1 b1 b2 b3 b4 b5 b6 hk=>?_
  refine ⟨.ref s.heap.objs.size,rfl,wpAny_letOwnedTupleGo_zip b1 fun g2 hz2' hs2=>?_⟩
  replace hs2:Heap.SameBut z g1 g2:=hs2
  have zlt:z<s.heap.objs.size:=Heap.lt_size hz
  have I2:Inv X pins σ (upd H s.heap.objs.size (.tup [x,y])) { s with heap:=g2,toks:=s.toks }:=by
   refine I.yieldTup (us:=[u,v]) hf (fun b o hb e=>?_) (Nat.le_refl _) ((hs2.2 _ (Nat.ne_of_gt zlt)).trans b5) (.cons ru (.cons rvv .nil)) (by show 2<=sizeLine;decide)
   simp only [List.mem_cons,List.not_mem_nil,or_false,not_or] at hb
   exact (hs2.2 b hb.1).trans (hk b o hb.1 hb.2.2.1 hb.2.2.2.1 hb.2.2.2.2 e)
  refine ⟨.ref s.heap.objs.size,_,I2,rfl,⟨s.heap.objs.size,x,y,I.hok.fresh (Nat.le_refl _),rfl,fun xs' h'=>by rw [I.list_inj h' hq1];exact hx,fun ys' h'=>by rw [I.list_inj h' hq2];exact hy,rfl⟩,
   ⟨hz2',(hs2.2 _ D.TIz).trans (hk _ _ D.TIz D.TITO D.TIi1 D.TIi2 hTI),⟨_,_,(hs2.2 _ D.TOz).trans b2⟩,b3.extBut hs2.extBut D.i1z,b4.extBut hs2.extBut D.i2z⟩,fun b hb=>?_⟩
  have hlt:b<s.heap.objs.size:=by
   simp only [List.mem_cons,List.not_mem_nil,or_false] at hb
   rcases hb with rfl | rfl | rfl | rfl | rfl
   ·exact zlt
   ·exact Heap.lt_size hTI
   ·exact Heap.lt_size hTO
   ·obtain ⟨o,e,_⟩:=h1;exact Heap.lt_size e
   ·obtain ⟨o,e,_⟩:=h2;exact Heap.lt_size e
  rw [ze (Nat.ne_of_lt hlt)]
  exact (hf b hb).1
 done:=by
  intro X hP hw hK hc i pins s σ H E I hf st hg
  subst hP hw hK
  obtain ⟨hz,hTI,⟨a,c,hTO⟩,h1,h2⟩:=st
  obtain ⟨xs,ys,hq1,hq2,hend⟩:=hg
  obtain ⟨its1,rv1,p1,hz1⟩:=I.list hq1
  obtain ⟨its2,rv2,p2,hz2⟩:=I.list hq2
  have l1:=rv1.length
  have l2:=rv2.length
  refine wpAny_pyNext_zip_end (I.ok.hd hc) D hz hTI hTO h1 h2 p1.isList p2.isList (by simp;omega) fun h' hk=>⟨rfl,I.turnedL (tk:=s.toks) hf fun b o hb e=>?_⟩
  simp only [List.mem_cons,List.not_mem_nil,or_false,not_or] at hb
  exact hk b o hb.1 hb.2.2.1 hb.2.2.2.1 hb.2.2.2.2 e
 self:=fun _ _ _ _ _ st h=>wpAny_pyIter_zip st.1 h
theorem kI:bootBuiltins "enumerate"=some (.type "enumerate"):=by decide +kernel
theorem xo:bootBuiltins "zip"=some (.type "zip"):=by decide +kernel
section
variable {X:Cx}{es:List Expr}{kt:Nat}{tp:Pos}
noncomputable def XM (K:PySem.W.Frag)(ta:TA):TI:=fun σ H R=>ta σ H fun vs H1=>∃ a,vs=[.ref a]/\(∃ xs,SqL K H1 a xs)/\R (Ite K a) H1
theorem Xg {e:Expr}{ta:TA}{p pos:Pos}(hg:Gl X "enumerate")(hm:X.mg "enumerate"=none)(ha:PA X [e] ta)(hs:starEach [e] X.env=[(false,eval e X.env)]:=by rfl) :
  PI X (.Tuple es kt tp) (.Call (.Name "enumerate" p) [e] [] pos) (XM X.K ta):=by
 intro pins s σ H R I h
 refine Call_ (qN I hg hm (kI) (PyProof.Rows.callWith_type1 (thn (ha pos pins s σ H _ I h) fun us s1 ⟨vs,H1,I1,r1,q1⟩=>?_) hs rfl))
 obtain ⟨a,e,⟨xs,hq⟩,q⟩:=q1
 subst e
 obtain ⟨u,rfl,ru⟩:=qU r1
 cases ru
 obtain ⟨its,rv,pl,hz⟩:=I1.list hq
 refine call_enumerate_list pl.isList fun h' he hit hsz hk=>wpAny_pyIter_enum he ?_
 have I2:Inv X pins σ H1 { s1 with heap:=h' }:=I1.kept (t':=s1.toks) hk
 refine ⟨s1.heap.objs.size+1,[s1.heap.objs.size+1,s1.heap.objs.size],_,_,H1,rfl,I2,xC a _ _ (Nat.succ_ne_self _),⟨⟨_,he⟩,hit⟩,fun b hb=>?_,q⟩
 have hb':s1.heap.objs.size<=b:=by
  simp only [List.mem_cons,List.not_mem_nil,or_false] at hb
  rcases hb with rfl | rfl
  ·exact Nat.le_succ _
  ·exact Nat.le_refl _
 exact I1.fpOk hb' (I1.hok.fresh hb')
end
theorem Z7 {K:PySem.W.Frag}{a:Addr}{xs:List V}{g:TG}{tb:TS}{D:kd}{σ:St}{H:Hp}(Pv:Nat->St->Hp->Prop)(h0:Pv 0 σ H)(hl:∀ i σ H,i<=xs.length->Pv i σ H->SqL K H a xs)
  (hs:∀ i x p σ H,xs[i]?=some x->H p=none->Pv i σ H->g (.ref p) σ (upd H p (.tup [.int i,x])) fun σ2 H2=>tb { D with nx:=Pv (i+1),ct:=Pv (i+1),bk:=D.nx } σ2 H2) (hd:∀ σ H,Pv xs.length σ H->D.nx σ H) :
  ∃ W:Nat->Nat->St->Hp->Prop,(∃ m,W 0 m σ H)/\∀ i m σ H,W i m σ H ->
   ((Ite K a).stop i H/\D.nx σ H) \/ ((Ite K a).go i H/\∃ N:St->Hp->Prop,(∀ σ' H',N σ' H'->∃ m',m'<m/\W (i+1) m' σ' H')/\∀ x H',(Ite K a).yld i H x H'->g x σ H' fun σ2 H2=>tb { D with nx:=N,ct:=N,bk:=D.nx } σ2 H2):=by
 refine ⟨fun i m σ H=>m=xs.length - i/\i<=xs.length/\Pv i σ H,⟨xs.length,by simp,Nat.zero_le _,h0⟩,?_⟩
 rintro i m σ H ⟨rfl,hi,p⟩
 have q:=hl i σ H hi p
 by_cases hlt:i<xs.length
 ·refine .inr ⟨⟨xs,xs[i],q,by simp [hlt]⟩,Pv (i+1),fun σ' H' p'=>⟨xs.length - (i+1),by omega,rfl,hlt,p'⟩,fun x H' y=>?_⟩
  obtain ⟨pp,x',hp,rfl,y,rfl⟩:=y
  exact hs i x' pp σ _ (y xs q) hp p
 ·have e:i=xs.length:=by omega
  subst e
  exact .inl ⟨⟨xs,q,Nat.le_refl _⟩,hd σ H p⟩
noncomputable def yM (p:Addr)(a b c:Int):HO:=.ext fun h=>∃ t u v,h.get? p=some { cls:=.type "range",data:=.fields #[.int a t,.int b u,.int c v] }
theorem YK {P:Program}{w:World}{H:Hp}{h:Heap}{p:Addr}{a b c:Int}{t u v:Tok}(e:h.get? p=some { cls:=.type "range",data:=.fields #[.int a t,.int b u,.int c v] }):zx P w H h p (yM p a b c):=
 ⟨⟨t,u,v,e⟩,⟨_,e⟩,fun h1 h2 ⟨t,u,v,q⟩ k=>⟨t,u,v,k _ q⟩⟩
noncomputable def jt (a c:Int)(n:Nat):List Int:=(List.range n).map fun (i:Nat)=>a+(i:Int) * c
theorem qZ (a c:Int)(n:Nat):(jt a c n).length=n:=by simp [jt]
theorem wf {a c:Int}:∀ {n:Nat} {acc:Array Value},ItemsOf (fun (i:Nat) (v:Value)=>∃ t,v=Value.int (a+(i:Int) * c) t) acc n->zk ((jt a c n).map V.int) acc.toList:=by
 intro n acc ⟨hs,hi⟩
 have key:∀ (k:Nat) (l:List Value),l.length=k->(∀ (j:Nat) v,l[j]?=some v->∃ t,v=Value.int (a+(j:Int) * c) t)->zk ((jt a c k).map V.int) l:=by
  intro k
  induction k with
  | zero=>intro l hl _;cases l with
   | nil=>exact .nil
   | cons=>simp at hl
  | succ k ih=>
   intro l hl hv
   obtain ⟨l',x,rfl⟩:∃ l' x,l=l' ++ [x]:=⟨l.dropLast,l.getLast (by intro e;rw [e] at hl;simp at hl),(List.dropLast_concat_getLast _).symm⟩
   have hl':l'.length=k:=by simpa using hl
   have e:(jt a c (k+1)).map V.int=(jt a c k).map V.int ++ [.int (a+(k:Int) * c)]:=by simp [jt,List.range_succ]
   rw [e]
   refine (ih l' hl' fun j v hj=>hv j v ?_).append (.cons ?_ .nil)
   ·rw [List.getElem?_append_left (List.getElem?_eq_some_iff.mp hj).1];exact hj
   ·obtain ⟨t,rfl⟩:=hv k x (by rw [List.getElem?_append_right (by omega),hl'];simp)
    exact ⟨t,rfl⟩
 exact key n acc.toList (by simpa using hs) fun j v hj=>hi j v (by simpa using hj)
section
variable {X:Cx}
theorem yx:qm X (.type "range") (fun xs H Q=>∃ b:Int,xs=[.int b]/\∀ p,H p=none->Q (.ref p) (upd H p (yM p 0 b 1))):=by
 intro pins s σ H xs us Q I r h
 obtain ⟨b,rfl,q⟩:=h
 obtain ⟨u,rfl,t,rfl⟩:=qU r
 refine call_range_1 ⟨.ref s.heap.objs.size,_,I.laid (fun b o e=>Heap.get?_push_of_some _ e) (Nat.le_refl _) ?_,rfl,q _ (I.hok.fresh (Nat.le_refl _))⟩
 exact YK (Heap.get?_push_size _ rfl)
theorem kX (hc:X.calm=true):qm X (.type "list") (fun xs H Q=>∃ p a b c n,xs=[.ref p]/\H p=some (yM p a b c)/\Builtin.Range.small a b c=true/\Builtin.Range.rangeSize a b c=((n:Nat):Int)/\n<=100000/\∀ l,H l=none->Q (.ref l) (upd H l (.lst ((jt a c n).map V.int)))):=by
 intro pins s σ H xs us Q I r h
 obtain ⟨p,a,b,c,n,rfl,hp,hs,hn,hz,q⟩:=h
 obtain ⟨u,rfl,rx⟩:=qU r
 cases rx
 obtain ⟨⟨t,u,v,e⟩,_⟩:=(show zx X.prog X.w H s.heap p (yM p a b c) from I.hok _ _ hp)
 refine call_list_range (I.ok.hd hc) e hs hn (Nat.le_trans hz (by decide)) fun h' tk acc c' hk he hi=>?_
 refine ⟨.ref s.heap.objs.size,_,I.laid hk (Nat.le_refl _) (show zx X.prog X.w _ h' _ (.lst ((jt a c n).map V.int)) from ⟨?_,acc.toList,c',wf hi,by simpa using he⟩),rfl,q _ (I.hok.fresh (Nat.le_refl _))⟩
 rw [List.length_map,qZ]
 exact Nat.le_trans hz (by decide)
end
section
variable {X:Cx}
noncomputable def isT (t c:String):Option Bool:=if (Value.type t == Value.type c)=true then some true else if PySem.W.kitMeta c=true then (fastBuiltinMro t).map (·.contains (Value.type c)) else none
theorem wt (K:PySem.W.Frag)(t c:String):PySem.W.kitOne K (.type t) (.type c)=isT t c:=rfl
noncomputable def ko (t:String):List String->Option Bool
 | []=>some false
 | c :: r=>match isT t c with
  | some true=>some true
  | some false=>ko t r
  | none=>none
theorem vb (K:PySem.W.Frag)(t:String):∀ cs:List String,PySem.W.kitAny K (.type t) (cs.map Value.type)=ko t cs
 | []=>rfl
 | c :: r=>by
  show (match PySem.W.kitOne K (.type t) (.type c) with | some true=>some true | some false=>PySem.W.kitAny K (.type t) (r.map Value.type) | none=>none)=_
  rw [wt,vb K t r];rfl
theorem qj:qm X (.builtin "isinstance") (fun xs H Q=>∃ x t c b,xs=[x,.ty c]/\qY X.K H x (.type t)/\isT t c=some b/\Q (.bl b) H):=by
 intro pins s σ H xs us Q I r h
 obtain ⟨x,t,c,b,rfl,ty,e,q⟩:=h
 obtain ⟨u,v,rfl,ru,rv⟩:=xl r
 cases rv
 exact ZY I ru ty (by rw [wt];exact e) fun tk=>⟨.bl b,H,I.tok _,rfl,q⟩
theorem y6:∀ {cs:List String} {us:List Value},zk (cs.map V.ty) us->us=cs.map Value.type
 | [],_,.nil=>rfl
 | c :: cs,_,.cons r t=>by rw [y6 t];cases r;rfl
theorem xJ:qm X (.builtin "isinstance") (fun xs H Q=>∃ x t p cs b,xs=[x,.ref p]/\H p=some (.tup (List.map V.ty cs))/\qY X.K H x (.type t)/\ko t cs=some b/\Q (.bl b) H):=by
 intro pins s σ H xs us Q I r h
 obtain ⟨x,t,p,cs,b,rfl,hp,ty,e,q⟩:=h
 obtain ⟨u,v,rfl,rx,rv⟩:=xl r
 cases rv
 obtain ⟨_,its,rt,o,ho,hc,⟨n,hd⟩,_⟩:=(show zx X.prog X.w H s.heap p (.tup (List.map V.ty cs)) from I.hok _ _ hp)
 obtain ⟨oc,od,odt,osl⟩:=o
 simp only at hc hd
 subst hc hd
 have e':PySem.W.kitAny X.K (.type t) its=some b:=by rw [y6 rt,vb];exact e
 have fin:∀ tk,EP X pins σ Q (.bool b) { s with toks:=tk }:=fun tk=>⟨.bl b,H,I.tok _,rfl,q⟩
 cases ty with
 | non=>cases (show u=Value.none from rx);exact PySem.W.kia_tup PySem.W.kitx_none I.kIn True.intro ho e' (fun z=>nomatch z) fin
 | bl y=>cases (show u=Value.bool y from rx);exact PySem.W.kia_tup PySem.W.kitx_bool I.kIn True.intro ho e' (fun z=>nomatch z) fin
 | int i=>obtain ⟨t,q⟩:=(show ∃ t,u=Value.int i t from rx);cases q;exact PySem.W.kia_tup PySem.W.kitx_int I.kIn True.intro ho e' (fun z=>nomatch z) fin
 | str y=>obtain ⟨t,q⟩:=(show ∃ t,u=Value.str y t from rx);cases q;exact PySem.W.kia_tup PySem.W.kitx_str I.kIn True.intro ho e' (fun z=>nomatch z) fin
 | flt y=>obtain ⟨t,q⟩:=(show ∃ t,u=Value.float y t from rx);cases q;exact PySem.W.kia_tup PySem.W.kitx_float I.kIn True.intro ho e' (fun z=>nomatch z) fin
 | @lst a xs ea=>
  cases (show u=Value.ref a from rx)
  obtain ⟨_,_,n,_,h1⟩:=(show zx X.prog X.w H s.heap a (.lst xs) from I.hok a _ ea)
  exact PySem.W.kia_tup PySem.W.kitx_list I.kIn ⟨_,h1,rfl⟩ ho e' (fun z=>nomatch z) fin
 | @frz a ob xs ea=>
  cases (show u=Value.ref a from rx)
  obtain ⟨_,_,_,n,_,h1⟩:=(show zx X.prog X.w H s.heap a (.frz ob (.lst xs)) from I.hok a _ ea)
  exact PySem.W.kia_tup PySem.W.kitx_list I.kIn ⟨_,h1,rfl⟩ ho e' (fun z=>nomatch z) fin
 | @tup a xs ea=>
  cases (show u=Value.ref a from rx)
  obtain ⟨_,_,_,p⟩:=(show zx X.prog X.w H s.heap a (.tup xs) from I.hok a _ ea)
  obtain ⟨o,h1,h2,_⟩:=p
  exact PySem.W.kia_tup PySem.W.kitx_tuple I.kIn ⟨o,h1,h2⟩ ho e' (fun z=>nomatch z) fin
 | @dK a kvs ea=>
  cases (show u=Value.ref a from rx)
  obtain ⟨_,_,vs,_,p⟩:=(show zx X.prog X.w H s.heap a (.dK kvs) from I.hok a _ ea)
  obtain ⟨o,es,ep,h1,h2,_⟩:=p
  exact PySem.W.kia_tup PySem.W.kitx_dict I.kIn ⟨o,h1,h2.1⟩ ho e' (fun z=>nomatch z) fin
 | @dT a kvs ea=>
  cases (show u=Value.ref a from rx)
  obtain ⟨_,_,xs,_,o,es,ep,h1,h2,_⟩:=(show zx X.prog X.w H s.heap a (.dT kvs) from I.hok a _ ea)
  exact PySem.W.kia_tup PySem.W.kitx_dict I.kIn ⟨o,h1,h2.1⟩ ho e' (fun z=>nomatch z) fin
end
noncomputable def At (K:PySem.W.Frag)(mg:Str->Option Value)(x:Str)(st:Stmt):Prop:=∃ f fd,Fun K x x st f fd/\mg x=some (.ref f)
noncomputable def Df (P:Program)(w:World)(K:PySem.W.Frag)(mg:Str->Option Value)(base:Heap)(x:Str)(ps:List Str)(k:Nat)(sp:Sp):Prop:=
 ∃ f fd,jo P w K mg base CX0 k f fd ps sp/\xm K fd ps []/\PySem.W.keepIn K (.ref f)=true/\mg x=some (.ref f)/\∃ oc od osl,K.lookup f=some ⟨oc,od,.func fd,osl⟩
theorem Df.mono {P:Program}{w:World}{K:PySem.W.Frag}{mg:Str->Option Value}{base:Heap}{x:Str}{ps:List Str}{j k:Nat}{sp:Sp}(D:Df P w K mg base x ps j sp)(h:j<=k):Df P w K mg base x ps k sp:=
 let ⟨f,fd,F,r⟩:=D
 ⟨f,fd,F.mono h,r⟩
section
variable {X:Cx}{k:Nat}{x:Str}{ps:List Str}{sp:Sp}{p pos:Pos}{e:Expr}{es:List Expr}{t:TA}
theorem zL (D:Df X.prog X.w X.K X.mg X.base x ps k sp)(hr:qE k X.A)(hg:Gl X x)(ha:PA X (e :: es) t)(hdb:(x == ("__debug__":Str))=false:=by decide)
  (he:starEach (e :: es) X.env=(false,eval e X.env) :: starEach es X.env:=by rfl) (hpl:(backTo pos (starEach es X.env)).any (·.1)=false:=by rfl):PE X (.Call (.Name x p) (e :: es) [] pos) (wR sp [] E0 t):=by
 obtain ⟨f,fd,F,b,kp,m,_⟩:=D
 exact Xi F hr hg m kp b .nil WQ ha hdb he hpl
end
theorem vw {P:Program}{w:World}{K:PySem.W.Frag}{mg:Str->Option Value}{base:Heap}{x:Str}{st:Stmt}{N ps:List Str}{k:Nat}{sp:Sp}(a:At K mg x st)(S:zB N ps (zj st))
  (hb:∀ (kV doc pm:Value) (an:Option Addr) (cdv ct:Value) (us:List Value),us.length=ps.length->bindArgs (PySem.W.fnOf x x (qD st) (zX st) (zj st) .none kV doc pm an cdv ct) ⟨us,[]⟩=pure (ps.zip us))
  (len:∀ vs H Q E,sp vs H Q E->vs.length=ps.length)
  (hbody:∀ (f:Addr) (cdv:Value) (A:Around) (outer:List Env) (s:Shared) (H:Hp) (vs:List V) (Q:VK) (E:XK),qE k (A.deeper (envOfC x (zj st) s.heap.objs.size f cdv))->sp vs H Q E ->
   ∃ t,PSs (yg CX0 P w K mg base N x (zj st) f cdv A outer s H E).nox (zX st) t/\t { nx:=fun _ H'=>Q .non H',rt:=Q } (qA N vs) H):Df P w K mg base x ps (k+1) sp:=by
 obtain ⟨f,fd,F,m⟩:=a
 obtain ⟨oc,od,kV,doc,pm,an,cdv,ct,osl,_,lk,_⟩:=id F.ex
 exact ⟨f,fd,F.ok S len fun cdv A outer s H vs Q E=>hbody f cdv A outer s H vs Q E,F.binds hb,F.kp,m,oc,od,osl,lk⟩
theorem at_mk {K:PySem.W.Frag}{mg:Str->Option Value}{h:Heap}{x:Str}{st:Stmt}{f:Addr}{oc:Value}{od an:Option Addr}{osl:Array (Option Value)}{kV doc pm cdv ct:Value}(X:K.In h)(G:h.Ns mainGlobals mg)(a:PySem.W.nsIn K mainGlobals x=some (some (.ref f)))
  (l:K.lookup f=some ⟨oc,od,.func (PySem.W.fnOf x x (qD st) (zX st) (zj st) .none kV doc pm an cdv ct),osl⟩) (c:PySem.W.codeIn K cdv x=true) (k:PySem.W.keepIn K (.ref f)=true):At K mg x st:=⟨f,_,Z9 l c k,PySem.W.mg_of X G a⟩
theorem Df.fn {P:Program}{w:World}{K:PySem.W.Frag}{mg:Str->Option Value}{base:Heap}{x:Str}{ps:List Str}{k:Nat}{sp:Sp}{f:Addr}{fd:FuncData}{oc:Value}{od:Option Addr}{osl:Array (Option Value)}(D:Df P w K mg base x ps k sp)(m:mg x=some (.ref f))(l:K.lookup f=some ⟨oc,od,.func fd,osl⟩):jo P w K mg base CX0 k f fd ps sp:=by
 obtain ⟨f',fd',F,_,_,m',oc',od',osl',l'⟩:=D
 rw [m] at m'
 cases m'
 rw [l] at l'
 cases l'
 exact F
structure Blt (mg:Str->Option Value):Prop where
 len:mg "len"=none
 range:mg "range"=none
 list:mg "list"=none
 tuple:mg "tuple"=none
 int:mg "int"=none
 bool:mg "bool"=none
 str:mg "str"=none
 abs:mg "abs"=none
 divmod:mg "divmod"=none
 enumerate:mg "enumerate"=none
 zip:mg "zip"=none
 sorted:mg "sorted"=none
 max:mg "max"=none
 min:mg "min"=none
 isinstance:mg "isinstance"=none
 all:mg "all"=none
theorem blt_mk {K:PySem.W.Frag}{mg:Str->Option Value}{h:Heap}(X:K.In h)(G:h.Ns mainGlobals mg)(z1:PySem.W.nsIn K mainGlobals "len"=some none)(z2:PySem.W.nsIn K mainGlobals "range"=some none)(z3:PySem.W.nsIn K mainGlobals "list"=some none)(z4:PySem.W.nsIn K mainGlobals "tuple"=some none)(z5:PySem.W.nsIn K mainGlobals "int"=some none)(z6:PySem.W.nsIn K mainGlobals "bool"=some none)(z7:PySem.W.nsIn K mainGlobals "str"=some none)(z8:PySem.W.nsIn K mainGlobals "abs"=some none)
  (z9:PySem.W.nsIn K mainGlobals "divmod"=some none) (z10:PySem.W.nsIn K mainGlobals "enumerate"=some none) (z11:PySem.W.nsIn K mainGlobals "zip"=some none) (z12:PySem.W.nsIn K mainGlobals "sorted"=some none) (z13:PySem.W.nsIn K mainGlobals "max"=some none) (z14:PySem.W.nsIn K mainGlobals "min"=some none) (z15:PySem.W.nsIn K mainGlobals "isinstance"=some none) (z16:PySem.W.nsIn K mainGlobals "all"=some none):Blt mg:=
 ⟨PySem.W.mg_none_of X G z1,PySem.W.mg_none_of X G z2,PySem.W.mg_none_of X G z3,PySem.W.mg_none_of X G z4,PySem.W.mg_none_of X G z5,PySem.W.mg_none_of X G z6,PySem.W.mg_none_of X G z7,PySem.W.mg_none_of X G z8,PySem.W.mg_none_of X G z9,PySem.W.mg_none_of X G z10,PySem.W.mg_none_of X G z11,PySem.W.mg_none_of X G z12,PySem.W.mg_none_of X G z13,PySem.W.mg_none_of X G z14,PySem.W.mg_none_of X G z15,PySem.W.mg_none_of X G z16⟩
theorem zw:bootBuiltins "isinstance"=some (.builtin "isinstance"):=by decide +kernel
theorem Qk:bootBuiltins "abs"=some (.builtin "abs"):=by decide +kernel
theorem Zq:bootBuiltins "divmod"=some (.builtin "divmod"):=by decide +kernel
theorem Vd:bootBuiltins "max"=some (.builtin "max"):=by decide +kernel
theorem kl:bootBuiltins "len"=some (.builtin "len"):=by decide +kernel
theorem qC:bootBuiltins "list"=some (.type "list"):=by decide +kernel
theorem qI:bootBuiltins "tuple"=some (.type "tuple"):=by decide +kernel
theorem Ji:bootBuiltins "int"=some (.type "int"):=by decide +kernel
theorem wM:bootBuiltins "bool"=some (.type "bool"):=by decide +kernel
theorem kF:bootBuiltins "str"=some (.type "str"):=by decide +kernel
theorem Q1:bootBuiltins "range"=some (.type "range"):=by decide +kernel
noncomputable def Kp (bs:List Addr)(H H':Hp):Prop:=∀ c o,c ∉ bs->H c=some o->H' c=some o
theorem Kp.refl {bs:List Addr}{H:Hp}:Kp bs H H:=fun _ _ _ h=>h
theorem Kp.trans {bs:List Addr}{H H1 H2:Hp}(a:Kp bs H H1)(b:Kp bs H1 H2):Kp bs H H2:=fun c o n h=>b c o n (a c o n h)
theorem Kp.new {bs:List Addr}{H:Hp}{p:Addr}(o:HO)(h:H p=none):Kp bs H (upd H p o):=fun c u _ q=>by rw [ze (zg q h)];exact q
theorem Kp.set {bs:List Addr}{H:Hp}{p:Addr}(o:HO)(h:p ∈ bs):Kp bs H (upd H p o):=fun c u n q=>by have hne:c ≠ p:=(fun e=>n (by rw [e];exact h));rw [ze hne];exact q
theorem Kp.free {H H':Hp}(e:Kp [] H H'){l:Addr}(h:H' l=Option.none):H l=Option.none:=by
 cases q:H l with
 | none=>rfl
 | some o=>rw [e l o (by simp) q] at h;cases h
noncomputable def Bx (H:Hp)(b:Addr)(N:Nat):Prop:=∃ x y z:Int,H b=some (.lst [.int x,.int y,.int z])/\0<=x/\0<=y/\y<2147483648/\0<=z/\z<=N
noncomputable abbrev il (ns:List Int):HO:=.lst (ns.map V.int)
theorem cxK {CX:CXT}{P:Program}{w:World}{K:PySem.W.Frag}{mg:Str->Option Value}{base:Heap}{N:List Str}{qual:Str}{scope:Scope}{f:Addr}{cd:Value}{A:Around}{outer:List Env}{s:Shared}{H:Hp}{E:XK} :
  (yg CX P w K mg base N qual scope f cd A outer s H E).K=K:=rfl
noncomputable def Wl (J:It)(g:TG)(tb:TS)(D:kd)(σ:St)(H:Hp):Prop:=∃ W:Nat->Nat->St->Hp->Prop,(∃ m,W 0 m σ H)/\∀ i m σ H,W i m σ H ->
 (J.stop i H/\D.nx σ H) \/ (J.go i H/\∃ N:St->Hp->Prop,(∀ σ' H',N σ' H'->∃ m',m'<m/\W (i+1) m' σ' H')/\∀ x H',J.yld i H x H'->g x σ H' fun σ2 H2=>tb { D with nx:=N,ct:=N,bk:=D.nx } σ2 H2)
theorem wB {wi:TI}{g:TG}{tb:TS}{D:kd}{σ:St}{H:Hp}:VQ wi g tb D σ H=wi σ H (fun J H1=>Wl J g tb D σ H1):=rfl
noncomputable def Ww (J:It)(g:TG)(tt:TT)(te:TE)(D:Addr)(Q:VK)(τ:St)(H:Hp):Prop:=∃ W:Nat->Nat->St->Hp->Prop,(∃ m,W 0 m τ H)/\∀ i m τ H2,W i m τ H2 ->
 (J.stop i H2/\Q (.ref D) H2) \/ (J.go i H2/\∃ N:St->Hp->Prop,(∀ τ' H',N τ' H'->∃ m',m'<m/\W (i+1) m' τ' H')/\∀ x H',J.yld i H2 x H'->g x τ H' fun τ2 H3=>tt τ2 H3 fun b H4=>
  if b=true then te τ2 H4 fun v H5=>∃ ys,H5 D=some (.lst ys)/\ys.length<sizeLine/\N τ2 (upd H5 D (.lst (ys ++ [v]))) else N τ2 H4)
theorem Jv {ts:List Nat}{wi:TI}{g:TG}{tt:TT}{te:TE}{σ:St}{H:Hp}{Q:VK} :
  wH ts wi g tt te σ H Q=wi σ H (fun J H1=>∀ D,H1 D=none->Ww J g tt te D Q (clr ts σ) (upd H1 D (.lst []))):=rfl
theorem Xj {K:PySem.W.Frag}{a:Addr}{xs:List V}{g:TG}{tb:TS}{D:kd}{σ:St}{H:Hp}(Pv:Nat->St->Hp->Prop)(h0:Pv 0 σ H)(hl:∀ i σ H,i<=xs.length->Pv i σ H->SqL K H a xs)
  (hs:∀ i x p σ H,xs[i]?=some x->H p=none->Pv i σ H->g (.ref p) σ (upd H p (.tup [.int i,x])) fun σ2 H2=>tb { D with nx:=Pv (i+1),ct:=Pv (i+1),bk:=D.nx } σ2 H2) (hd:∀ σ H,Pv xs.length σ H->D.nx σ H):Wl (Ite K a) g tb D σ H:=Z7 Pv h0 hl hs hd
theorem ZQ {X:Cx}:qm X (.type "int") (fun xs H Q=>∃ k,xs=[.bl k]/\Q (.int (if k then 1 else 0)) H):=by
 intro pins s σ H xs us Q I r h
 exact ZZ pins s σ H xs us Q I r (.inr h)
noncomputable def vM:V->V->V->Hp->(Hp->Prop)->Prop:=fun o i v H Q=>∃ k,i=.int k/\∃ p,o=.ref p/\∃ xs,H p=some (.lst xs)/\∃ j,ixN xs.length k=some j/\Q (upd H p (.lst (xs.set j v)))
section
variable {X:Cx}
theorem ZO:MtR X "list.append" kj:=jS
theorem v6:MtR X "list.reverse" jF:=vR
theorem jD {es:List Expr}{k:Nat}{t:TGs}{pos:Pos}{K:PySem.W.Frag}(n:Nat)(h:X.K=K)(hc:X.calm=true)(hs:PGs X es t)(hn:(assignEach es X.env).length=n:=by rfl)(hst:(assignEach es X.env).findIdx? (·.1)=none:=by rfl):PG X (.Tuple es k pos) (Kx K n t):=h ▸ Vm hc hs hn hst
theorem qq:Yc X vM:=by
 intro pins s σ H o i v ov iv u Q I ro ri rv h
 obtain ⟨k,e1,p,e2,xs,h1,j,h2,q⟩:=h
 exact Jk pins s σ H o i v ov iv u Q I ro ri rv ⟨p,xs,k,j,e2,e1,h1,h2,q⟩
end
section
variable {X:Cx}
noncomputable def wr (K:PySem.W.Frag):R2:=fun x y H Q=>∃ p xs i v,x=.ref p/\y=.int i/\(SqL K H p xs \/ SqT K H p xs)/\atI xs i=some v/\Q v H
theorem qc:IxR X (wr X.K):=by
 intro value slice pins s σ H x y v u Q I rx ry h hs
 obtain ⟨p,xs,i,z,e1,e2,hq | hq,he,q⟩:=h
 ·exact zQ value slice pins s σ H x y v u Q I rx ry ⟨p,xs,i,z,e1,e2,hq,he,q⟩ hs
 ·exact Vk value slice pins s σ H x y v u Q I rx ry ⟨p,xs,i,z,e1,e2,hq,he,q⟩ hs
theorem vF {K:PySem.W.Frag}(h:X.K=K):IxR X (wr K):=h ▸ qc
theorem VR:bootBuiltins "all"=some (.builtin "all"):=by decide +kernel
theorem kG:∀ {bs:List Bool} {us:List Value},zk (bs.map V.bl) us->us=bs.map Value.bool
 | [],_,h=>by cases h;rfl
 | b :: bs,_,h=>by
  cases h with
  | cons r rs=>cases r;rw [kG rs];rfl
theorem vU (bs:List Bool):((List.range bs.length).all fun i=>(bs[i]?).getD true)=bs.all id:=by
 rw [Bool.eq_iff_iff,List.all_eq_true,List.all_eq_true]
 constructor
 ·intro h x hx
  obtain ⟨i,hi,rfl⟩:=List.getElem_of_mem hx
  have:=h i (by simpa using hi)
  simpa [List.getElem?_eq_getElem hi] using this
 ·intro h i hi
  have hi':i<bs.length:=by simpa using hi
  simpa [List.getElem?_eq_getElem hi'] using h bs[i] (List.getElem_mem hi')
theorem Zg (hc:X.calm=true):qm X (.builtin "all") (fun xs H Q=>∃ p bs,xs=[.ref p]/\SqL X.K H p (List.map V.bl bs)/\Q (.bl (bs.all id)) H):=by
  intro pins s σ H xs us Q I r h
  obtain ⟨p,bs,rfl,hq,q⟩:=h
  obtain ⟨u,rfl,rx⟩:=qU r
  cases rx
  obtain ⟨its,rv,pl,hz⟩:=I.list hq
  have hu:=kG rv
  subst hu
  have hlt:p<s.heap.objs.size:=by obtain ⟨_,e,_⟩:=pl.isList;exact Heap.lt_size e
  refine call_all_walk (wpAny_pyIter_list pl.isList ?_)
  refine ⟨s.heap.objs.size,[s.heap.objs.size,p],[s.heap.objs.size],(bs.map Value.bool).toArray.size,_,_,fun i=>(bs[i]?).getD true,rfl,Walks.list (A:=X.A.in1) (I.ok.hd hc) _ p (Nat.ne_of_lt hlt) (bs.map Value.bool).toArray,
    ⟨⟨_,Heap.get?_push_size _ rfl,rfl,rfl⟩,pl.isList.push _⟩,fun i v s' Q' E' hP hQ=>?_,fun h' tk hk=>?_⟩
  · have hP':(bs.map Value.bool)[i]?=some v:=by simpa using hP
    rw [List.getElem?_map] at hP'
    cases e:bs[i]? with
    | none=>rw [e] at hP';cases hP'
    | some b=>
      rw [e] at hP'
      cases hP'
      simp only [e,Option.getD_some] at hQ
      exact wpAny_truthy_bool hQ
  · have e : ((List.range (bs.map Value.bool).toArray.size).all fun i => (bs[i]?).getD true) = bs.all id := by
      rw [List.size_toArray,List.length_map];exact vU bs
    rw [e]
    refine ⟨.bl (bs.all id),H,I.turnedL (ch:=[]) (tk:=tk) (fun b hb=>nomatch hb) (fun b o _ eb=>?_),rfl,q⟩
    exact hk b o (fun hm=>by rw [List.mem_singleton.mp hm] at eb;exact Nat.lt_irrefl _ (Heap.lt_size eb)) (Heap.get?_push_of_some _ eb)
end
section
variable {P:Program}{w:World}{A:Around}{E:Value->Shared->Prop}{s:Shared}{j t:Addr}{i:Nat}{its:Array Value}{Q:Value->Shared->Prop}
theorem zY {x:Value}(hj:s.heap.IsTupleIter j t i)(ht:s.heap.IsTuple t its)(hx:its[i]?=some x)(hQ:∀ h',h'.IsTupleIter j t (i+1)->Heap.SameBut j s.heap h'->Q x { s with heap:=h' }):wpAny (model P w) A (Builtin.SmallTypes.nextOf (.ref j)) Q E s:=by
 obtain ⟨o,ho,hc,hd⟩:=id hj
 obtain ⟨ot,hot,_,nt,hdt⟩:=ht
 unfold Builtin.SmallTypes.nextOf
 refine wpAny_bind (wpAny_callSpecial?_slot (name:=Str.ofString "__next__") hj.typeIs F.slot_tuple_iterator_next (wpAny_call_entry F.slot_tuple_iterator_next hj.typeIs F.entry_tuple_iterator_next ?_ (F.args_tuple_iterator_next_1 _)))
 refine wpAny_bind (m:=field (.ref j) 0) (wpAny_field ho hd (x:=.ref t) rfl ?_);show wpAny _ _ (if (Value.ref t == Value.none)=true then _ else _) _ _ s;rw [if_neg (show ¬ ((Value.ref t == Value.none)=true) from Bool.false_ne_true)]
 refine wpAny_bind (m:=field (.ref j) 1) (wpAny_field ho hd (x:=.int i 0) rfl ?_);refine wpAny_bind (m:=seqItems? (.ref t)) (wpAny_seqItems hot hdt ?_);simp only [Int.toNat_natCast,hx]
 refine wpAny_bind (wpAny_setField ho hd (by simp) (wpAny_pure ⟨x,rfl,wpAny_pure (hQ _ ⟨_,Heap.get?_update_self _ ho (Obj.isFreed_of_fields (Obj.data_mapFields hd _)),(Obj.cls_mapFields ..).trans hc,by rw [Obj.data_mapFields hd];simp [rawInt]⟩ (Heap.SameBut.update ..))⟩))
theorem qB (hh:A.handled=none)(hj:s.heap.IsTupleIter j t i)(ht:s.heap.IsTuple t its)(hx:its[i]?=none)(hE:∀ h' e,Heap.ExtBut j s.heap h'->(∃ o,h'.get? e=some o/\o.cls=.type "StopIteration")->E (.ref e) { s with heap:=h' }):wpAny (model P w) A (Builtin.SmallTypes.nextOf (.ref j)) Q E s:=by
 obtain ⟨o,ho,hc,hd⟩:=id hj
 obtain ⟨ot,hot,_,nt,hdt⟩:=ht
 unfold Builtin.SmallTypes.nextOf
 refine wpAny_bind (wpAny_callSpecial?_slot (name:=Str.ofString "__next__") hj.typeIs F.slot_tuple_iterator_next (wpAny_call_entry F.slot_tuple_iterator_next hj.typeIs F.entry_tuple_iterator_next ?_ (F.args_tuple_iterator_next_1 _)))
 refine wpAny_bind (m:=field (.ref j) 0) (wpAny_field ho hd (x:=.ref t) rfl ?_);show wpAny _ _ (if (Value.ref t == Value.none)=true then _ else _) _ _ s;rw [if_neg (show ¬ ((Value.ref t == Value.none)=true) from Bool.false_ne_true)]
 refine wpAny_bind (m:=field (.ref j) 1) (wpAny_field ho hd (x:=.int i 0) rfl ?_);refine wpAny_bind (m:=seqItems? (.ref t)) (wpAny_seqItems hot hdt ?_);simp only [Int.toNat_natCast,hx]
 refine wpAny_bind (wpAny_rule (wpAny_bind (wpAny_setField ho hd (by simp) ?_)));refine wpAny_bind (m:=newExc (.type "StopIteration") []) ?_;simp only [newExc,newTuple];refine wpAny_bind (wpAny_newObj_type ?_ (by size_fits));refine wpAny_bind (m:=firstArgMember _ _) (wpAny_of_eq (a:=Value.none) (by first | rfl | (simp only [firstArgMember];rfl)) ?_);refine wpAny_newObj_type ?_ (by size_fits);simp only [raiseNew];refine wpAny_bind (wpAny_handled ?_)
 (first | rw [show A.in1.handled=none from hh] | rw [hh]);refine wpAny_bind (wpAny_pure (wpAny_throw ?_));exact hE _ _ (((Heap.SameBut.update ..).extBut.push _).push _) ⟨_,Heap.get?_push_size _ rfl,rfl⟩
end
theorem Zs {P:Program}{w:World}{A:Around}(hh:A.handled=none)(j t:Addr)(hne:t ≠ j)(its:Array Value) :
  Draws P w A j [j,t] its.size (fun i v=>its[i]?=some v) (fun i h=>h.IsTupleIter j t i/\h.IsTuple t its) where
 live:=fun _ _ st=>let ⟨o,ho,_⟩:=st.1;⟨o,ho⟩
 frame:=fun _ _ _ st hk=>⟨st.1.at fun o e=>hk j (by simp) o e,let ⟨o,ho,r⟩:=st.2;⟨o,hk t (by simp) o ho,r⟩⟩
 item:=fun i s Q E hi st hQ=>by
  refine zY st.1 st.2 (x:=its[i]) (by simp [hi]) fun h' hit' hs'=>?_
  exact hQ _ h' s.toks (by simp [hi]) ⟨hit',let ⟨o,ho,r⟩:=st.2;⟨o,(hs'.2 t hne).trans ho,r⟩⟩ hs'
 done:=fun s Q E st hE=>qB hh st.1 st.2 (by simp) hE
open AutoSeq1 (wpAny_loadPart') in
theorem Zw (l:Addr)(its:Array Value)(n:Nat)(dct:Option Addr)(sl:Array (Option Value)) :
  Meets (Builtin.«enumerate.__new__» ⟨[.type "enumerate",.ref l],[]⟩) (fun _ R s=>s.heap.get? l=some { cls:=.type "tuple",dict:=dct,data:=.seq its n,slots:=sl }/\R (.ok (.ret (.ref (s.heap.push { cls:=.type "tuple_iterator",data:=.fields #[.ref l,.int 0 0] }).objs.size))) { s with heap:=(s.heap.push { cls:=.type "tuple_iterator",data:=.fields #[.ref l,.int 0 0] }).push { cls:=.type "enumerate",data:=.fields #[.none,.bool false,.ref s.heap.objs.size,rawInt 0,.none,.none] } }):=
 .of_wp fun prog w A R s h=>by
  obtain ⟨hp,g,d,tk,os⟩:=s
  obtain ⟨hl,h⟩:=h
  have hsub:=sub_enumerate
  have hT:Heap.IsTuple (Shared.heap ⟨hp,g,d,tk,os⟩) l its:=⟨_,hl,rfl,n,rfl⟩
  wp_walk using wpAny_loadPart' hl
  refine wpAny_stack_any fun st=>wpAny_pure ?_
  split
  ·rename_i c _ _ _ _ _
   cases (c == Value.type "enumerate")
   ·wp_walk using wpAny_loadPart' hl,wpAny_pyIter_tuple hT;exact ⟨_,rfl,h⟩
   ·wp_walk using wpAny_loadPart' hl,wpAny_pyIter_tuple hT;exact ⟨_,rfl,h⟩
  ·wp_walk using wpAny_loadPart' hl,wpAny_pyIter_tuple hT;exact ⟨_,rfl,h⟩
theorem wa {P:Program}{w:World}{A:Around}{E:Value->Shared->Prop}{s:Shared}{l:Addr}{its:Array Value}{Q:Value->Shared->Prop}(hT:s.heap.IsTuple l its)
  (h:∀ h',IsEnum h' (s.heap.objs.size+1) s.heap.objs.size 0 .none->h'.IsTupleIter s.heap.objs.size l 0->(∀ b o,s.heap.get? b=some o->h'.get? b=some o)->Q (.ref (s.heap.objs.size+1)) { s with heap:=h' }) :
  wpAny (model P w) A (call (.type "enumerate") [.ref l]) Q E s:=by
 obtain ⟨⟨c,dct,dt,sl⟩,hl,hc,n,hd⟩:=hT
 replace hc:c=.type "tuple":=hc
 replace hd:dt=.seq its n:=hd
 subst hc hd
 refine callType_new F.called_enumerate (by decide) (F.typeCall_enumerate_1 _) (F.newCall_enumerate_1 _) (fun obj=>F.args_object_init_2 obj _) F.entry_enumerate_new (Zw l its n dct sl) ⟨hl,?_⟩
 have hz:(s.heap.push { cls:=.type "tuple_iterator",data:=.fields #[.ref l,.int 0 0] }).objs.size=s.heap.objs.size+1:=Heap.size_push ..
 show _/\_
 rw [hz]
 have he:IsEnum ((s.heap.push { cls:=.type "tuple_iterator",data:=.fields #[.ref l,.int 0 0] }).push { cls:=.type "enumerate",data:=.fields #[.none,.bool false,.ref s.heap.objs.size,rawInt 0,.none,.none] }) (s.heap.objs.size+1) s.heap.objs.size 0 .none:=by
  have hg:=Heap.get?_push_size (s.heap.push { cls:=.type "tuple_iterator",data:=.fields #[.ref l,.int 0 0] }) (o:={ cls:=.type "enumerate",data:=.fields #[.none,.bool false,.ref s.heap.objs.size,rawInt 0,.none,.none] }) rfl
  rw [hz] at hg;exact hg
 exact ⟨⟨_,he,rfl⟩,h _ he ⟨_,Heap.get?_push_of_some _ (Heap.get?_push_size _ rfl),rfl,rfl⟩ fun b o x=>Heap.get?_push_of_some _ (Heap.get?_push_of_some _ x)⟩
theorem Z3 {P:Program}{w:World}{A:Around}{E:Value->Shared->Prop}{s:Shared}{e j t:Addr}{i:Nat}{its:Array Value}{old:Value}{Q:Option Value->Shared->Prop}(hh:A.handled=none)
  (he:IsEnum s.heap e j i old) (hj:s.heap.IsTupleIter j t i) (ht:s.heap.IsTuple t its) (hx:its[i]?=none) (hQ:∀ h',Heap.ExtBut j s.heap h'->Q none { s with heap:=h' }):wpAny (model P w) A (pyNext (.ref e)) Q E s:=by
 have hT:s.TypeIs (.ref e) "enumerate":=⟨_,he,rfl⟩
 unfold pyNext
 refine wpAny_bind (wpAny_attempt (wpAny_callSpecial?_slot (name:=Str.ofString "__next__") hT F.slot_enumerate_next (wpAny_call_entry F.slot_enumerate_next hT F.entry_enumerate_next ?_ (F.args_enumerate_next_1 _))))
 refine wpAny_bind (m:=field (.ref e) 2) (wpAny_field he rfl (x:=.ref j) rfl ?_);refine wpAny_bind (qB hh hj ht hx fun h' x he' hx'=>?_)
 obtain ⟨o,ho,hc⟩:=hx'
 refine wpAny_bind (wpAny_isInstance (T:="StopIteration") (b:=true) ⟨o,ho,hc⟩ isSubtype_stop ?_);exact wpAny_pure (hQ _ he')
noncomputable def Yf (K:PySem.W.Frag)(a:Addr):It:=
 ⟨fun i H=>∃ xs x,SqT K H a xs/\xs[i]?=some x,fun i H y H'=>∃ p x,H p=none/\y=.ref p/\(∀ xs,SqT K H a xs->xs[i]?=some x)/\H'=upd H p (.tup [.int i,x]),fun i H=>∃ xs,SqT K H a xs/\xs.length<=i⟩
theorem vE {P:Program}{w:World}{K:PySem.W.Frag}{es:List Expr}{kt:Nat}{tp:Pos}(a e it:Addr)(hei:e ≠ it)(hea:e ≠ a)(hai:a ≠ it):yb P w K (.Tuple es kt tp) (Yf K a) [e,it] e (fun i h=>(∃ old,IsEnum h e it (i:Nat) old)/\h.IsTupleIter it a i) where
 mem:=by simp
 obj:=fun i h st b hb=>by
  obtain ⟨⟨old,he⟩,⟨o,e1,c,d⟩⟩:=st
  rcases List.mem_cons.mp hb with rfl | hb
  ·exact ⟨_,he,fun v z=>by have z':Data.fields _=Data.cell v:=z;cases z'⟩
  ·have e2:b=it:=by simpa using hb
   subst e2
   exact ⟨o,e1,fun v z=>by rw [d] at z;cases z⟩
 keep:=fun i h h' st k=>by
  obtain ⟨⟨old,he⟩,st⟩:=st
  exact ⟨⟨old,k e (by simp) _ he⟩,st.at fun o e=>k it (by simp) o e⟩
 item:=by
  intro X hP hw hK hc i pins s σ H E I hf st hg
  subst hP hw hK
  obtain ⟨⟨old,he⟩,st⟩:=st
  obtain ⟨xs,x,hq,hx⟩:=hg
  obtain ⟨its,rv,p,hz⟩:=I.tuple hq
  obtain ⟨u,hu,ru⟩:=rv.get hx
  have hlt:i<its.toArray.size:=by
   have:=(List.getElem?_eq_some_iff.mp hu).1
   simpa using this
  refine wpAny_pyNext_enum_itemD (Zs (A:=X.A.in1) (I.ok.hd hc) it a hai its.toArray) he ⟨st,p⟩ hlt hei (by simp [hei,hea]) fun x' h1 tk hP heo hit1 ht1 hz1 hk1=>?_
  have hxu:x'=u:=by
   have h1':its[i]?=some x':=by simpa using hP
   rw [hu] at h1';cases h1';rfl
  subst hxu
  refine ⟨.ref s.heap.objs.size,rfl,wpAny_letOwnedTupleGo_enum heo fun h2 he2 hs2=>?_⟩
  replace hs2:Heap.SameBut e h1 h2:=hs2
  have elt:e<s.heap.objs.size:=Heap.lt_size he
  have ht2:=(hs2.2 _ (Nat.ne_of_gt elt)).trans ht1
  have I2:Inv X pins σ (upd H s.heap.objs.size (.tup [.int i,x])) { s with heap:=h2,toks:=tk+1 }:=by
   refine I.yieldTup (us:=[.int i tk,x']) hf (fun b o hb q=>?_) (Nat.le_refl _) ht2 (.cons ⟨_,rfl⟩ (.cons ru .nil)) (by show 2<=sizeLine;decide)
   have n1:b ≠ e:=fun z=>hb (by simp [z])
   have n2:b ≠ it:=fun z=>hb (by simp [z])
   exact (hs2.2 b n1).trans (hk1 b o n1 n2 q)
  refine ⟨.ref s.heap.objs.size,_,I2,rfl,⟨s.heap.objs.size,x,I.hok.fresh (Nat.le_refl _),rfl,fun ys hy=>by rw [I.tuple_inj hy hq];exact hx,rfl⟩,⟨⟨_,by simpa using he2⟩,hit1.1.extBut hs2.extBut (Ne.symm hei)⟩,fun b hb=>?_⟩
  have hlt:b<s.heap.objs.size:=by
   rcases List.mem_cons.mp hb with rfl | hb
   ·exact elt
   ·have e2:b=it:=by simpa using hb
    subst e2
    obtain ⟨o,e1,_⟩:=st
    exact Heap.lt_size e1
  rw [ze (Nat.ne_of_lt hlt)]
  exact (hf b hb).1
 done:=by
  intro X hP hw hK hc i pins s σ H E I hf st hg
  subst hP hw hK
  obtain ⟨⟨old,he⟩,st⟩:=st
  obtain ⟨xs,hq,hx⟩:=hg
  obtain ⟨its,rv,p,hz⟩:=I.tuple hq
  obtain ⟨f0,f1,f2,f3,f4,f5⟩:=hf it (by simp)
  have hl:=rv.length
  exact Z3 (I.ok.hd hc) he st p (by simp;omega) fun h' eb=>⟨rfl,I.turned (t':=s.toks) (fun b o hb e=>eb b o hb e) f0 f1 f3 f4 f5⟩
 self:=fun _ _ _ _ _ st h=>by
  obtain ⟨⟨old,he⟩,_⟩:=st
  exact wpAny_pyIter_enum he h
section
variable {X:Cx}{es:List Expr}{kt:Nat}{tp:Pos}
noncomputable def yk (K:PySem.W.Frag)(ta:TA):TI:=fun σ H R=>ta σ H fun vs H1=>∃ a,vs=[.ref a]/\(((∃ xs,SqL K H1 a xs)/\R (Ite K a) H1) \/ ((∃ xs,SqT K H1 a xs)/\R (Yf K a) H1))
theorem ZA {e:Expr}{ta:TA}{p pos:Pos}(hg:Gl X "enumerate")(hm:X.mg "enumerate"=none)(ha:PA X [e] ta)(hs:starEach [e] X.env=[(false,eval e X.env)]:=by rfl) :
  PI X (.Tuple es kt tp) (.Call (.Name "enumerate" p) [e] [] pos) (yk X.K ta):=by
 intro pins s σ H R I h
 refine Call_ (qN I hg hm (kI) (PyProof.Rows.callWith_type1 (thn (ha pos pins s σ H _ I h) fun us s1 ⟨vs,H1,I1,r1,q1⟩=>?_) hs rfl))
 obtain ⟨a,e,q⟩:=q1
 subst e
 obtain ⟨u,rfl,ru⟩:=qU r1
 cases ru
 have hb':∀ b ∈ [s1.heap.objs.size+1,s1.heap.objs.size],s1.heap.objs.size<=b:=by
  intro b hb
  simp only [List.mem_cons,List.not_mem_nil,or_false] at hb
  omega
 rcases q with ⟨⟨xs,hq⟩,q⟩ | ⟨⟨xs,hq⟩,q⟩
 ·obtain ⟨its,rv,pl,hz⟩:=I1.list hq
  refine call_enumerate_list pl.isList fun h' he hit hsz hk=>wpAny_pyIter_enum he ?_
  have I2:Inv X pins σ H1 { s1 with heap:=h' }:=I1.kept (t':=s1.toks) hk
  exact ⟨s1.heap.objs.size+1,[s1.heap.objs.size+1,s1.heap.objs.size],_,_,H1,rfl,I2,xC a _ _ (Nat.succ_ne_self _),⟨⟨_,he⟩,hit⟩,fun b hb=>I1.fpOk (hb' b hb) (I1.hok.fresh (hb' b hb)),q⟩
 ·obtain ⟨its,rv,pl,hz⟩:=I1.tuple hq
  have alt:a<s1.heap.objs.size:=by obtain ⟨o,e,_⟩:=pl;exact Heap.lt_size e
  refine wa pl fun h' he hit hk=>wpAny_pyIter_enum he ?_
  have I2:Inv X pins σ H1 { s1 with heap:=h' }:=I1.kept (t':=s1.toks) hk
  exact ⟨s1.heap.objs.size+1,[s1.heap.objs.size+1,s1.heap.objs.size],_,_,H1,rfl,I2,vE a (s1.heap.objs.size+1) s1.heap.objs.size (Nat.succ_ne_self _) (Nat.ne_of_gt (Nat.lt_succ_of_lt alt)) (Nat.ne_of_lt alt),⟨⟨_,he⟩,hit⟩,fun b hb=>I1.fpOk (hb' b hb) (I1.hok.fresh (hb' b hb)),q⟩
end
noncomputable def iLT (K:PySem.W.Frag)(tl:TE):TI:=fun σ H R=>tl σ H fun x H1=>∃ a,x=.ref a/\(((∃ xs,SqL K H1 a xs)/\R (Itl K a) H1) \/ ((∃ xs,SqT K H1 a xs)/\R (Itt K a) H1))
theorem kE {X:Cx}{tg:Expr}{l:Expr}{tl:TE}(hl:PE X l tl):PI X tg l (iLT X.K tl):=by
 intro pins s σ H R I h
 refine thn (hl pins s σ H _ I h) fun v s1 ⟨x,H1,I1,r1,q1⟩=>?_
 obtain ⟨a,e,q⟩:=q1
 subst e
 cases r1
 have fo:∀ b ∈ [s1.heap.objs.size],jm X pins H1 b:=fun b hb=>by
  have e:b=s1.heap.objs.size:=by simpa using hb
  subst e
  exact I1.fpOk (Nat.le_refl _) (I1.hok.fresh (Nat.le_refl _))
 rcases q with ⟨⟨xs,hq⟩,q⟩ | ⟨⟨xs,hq⟩,q⟩
 ·obtain ⟨its,rv,p,hz⟩:=I1.list hq
  refine wpAny_pyIter_list p.isList ?_
  exact ⟨s1.heap.objs.size,[s1.heap.objs.size],_,_,H1,rfl,I1.kept (t':=s1.toks) fun b o e=>Heap.get?_push_of_some _ e,Z6 a _,⟨_,Heap.get?_push_size _ rfl,rfl,rfl⟩,fo,q⟩
 ·obtain ⟨its,rv,p,hz⟩:=I1.tuple hq
  refine wpAny_pyIter_tuple (show s1.heap.IsTuple a its.toArray from p) ?_
  exact ⟨s1.heap.objs.size,[s1.heap.objs.size],_,_,H1,rfl,I1.kept (t':=s1.toks) fun b o e=>Heap.get?_push_of_some _ e,vP a _,⟨_,Heap.get?_push_size _ rfl,rfl,rfl⟩,fo,q⟩
section
variable {X:Cx}
end
section
variable {X:Cx}
end
noncomputable def qV (prog:Program)(w:World)(A:Around)(elt:Expr)(gens:List Comprehension)(scope:Scope)(pos:Pos)(d:Nat)(acc:Value)(env:Env)(Q:Shared->Prop)(s:Shared):Prop:=
  match gens[d+1]? with
  | some g' => wpAny (model prog w) A (eval g'.iter env) (fun x s1 => wpAny (model prog w) A (foldedSetIterable g'.iter env x) (fun x s2 => wpAny (model prog w) A (pyIter x) (fun it s3 =>
      wpAny (model prog w) A (runOwn (Code.compStart (.ListComp elt gens scope pos) (d+1) it acc env) env) (fun _ s4=>Q s4) (fun _ _=>False) s3) (fun _ _=>False) s2) (fun _ _=>False) s1) (fun _ _=>False) s
  | none=>wpAny (model prog w) A (eval elt env) (fun v s1=>wpAny (model prog w) A (call (.builtin "list.append") [acc,v]) (fun _ s2=>Q s2) (fun _ _=>False) s1) (fun _ _=>False) s
section
variable {prog:Program}{w:World}{A:Around}{R:Result->Shared->Prop}{s:Shared}
theorem yU {elt:Expr}{gens:List Comprehension}{d:Nat}{scope:Scope}{pos:Pos}{acc:Value}{env:Env}{Q Q':Shared->Prop}(h:qV prog w A elt gens scope pos d acc env Q s)(hq:∀ s,Q s->Q' s):qV prog w A elt gens scope pos d acc env Q' s:=by
 unfold qV at h ⊢
 cases e:gens[d+1]? with
 | none=>
  simp only [e] at h ⊢
  exact wpAny_mono h (fun x s₄ h₄=>wpAny_mono h₄ (fun _ s₅ h₅=>hq _ h₅) fun _ _ h'=>h') fun _ _ h'=>h'
 | some g'=>
  simp only [e] at h ⊢
  exact wpAny_mono h (fun x s₄ h₄=>wpAny_mono h₄ (fun x s₅ h₅=>wpAny_mono h₅ (fun it s₆ h₆=>wpAny_mono h₆ (fun _ s₇ h₇=>hq _ h₇) fun _ _ h'=>h') fun _ _ h'=>h') fun _ _ h'=>h') fun _ _ h'=>h'
theorem je {elt target iter : Expr}{ifs : List Expr}{gens : List Comprehension}{d : Nat}{scope : Scope}{pos : Pos}{it acc : Value}{env : Env}(hg : gens[d]? = some ⟨target, iter, ifs, 0⟩)(hn : ∀ g', gens[d + 1]? = some g' -> g'.is_async = 0)(I : Nat -> Shared -> Prop)
    (turn:∀ n s,I n s->wpAny (model prog w) A (pyNext it) (fun r s₁=>match r with
      | none=>R (.ok .next) s₁
      | some v => wpAny (model prog w) A (letOwnedTupleGo target it v) (fun _ s₀ => wpAny (model prog w) A (assign target env v) (fun _ s₂ =>
          wpAny (model prog w) A (forIn ifs true fun c r=>if r=true then do let ok <- isTrue c env (eval c env);pure (ForInStep.yield ok) else pure (ForInStep.yield r)) (fun ok s₃=>
            if ok=true then qV prog w A elt gens scope pos d acc env (fun s₅=>∃ m,m<n/\I m s₅) s₃
            else ∃ m,m<n/\I m s₃) (fun _ _=>False) s₂) (fun _ _=>False) s₀) (fun _ _=>False) s₁) (fun _ _=>False) s)
    (n:Nat) (h:I n s) :
    codeAny (model prog w) A (.compLoop (.ListComp elt gens scope pos) d it acc env) R s:=by
  refine codeAny_loop rfl I (fun n s hI=>?_) n h
  show wpAny _ A ((compTurn (.ListComp elt gens scope pos) d it acc env).onRaise (fun x=>do noteFrame x env;theTreesLotGoes x)) _ _ s
  refine wpAny_noted ?_
  unfold compTurn
  simp only [hg]
  refine wpAny_bind (wpAny_standAt ?_)
  rw [if_neg (by decide)]
  refine wpAny_bind (wpAny_mono (turn n s hI) (fun r s₁ h₁=>?_) fun _ _ h'=>h'.elim)
  cases r with
  | none=>exact wpAny_pure h₁
  | some v=>
    refine wpAny_bind (wpAny_mono h₁ (fun _ s₀ h₀=>?_) fun _ _ h'=>h'.elim)
    refine wpAny_bind (wpAny_mono h₀ (fun _ s₂ h₂=>wpAny_bind (wpAny_mono h₂ (fun ok s₃ h₃=>?_) fun _ _ h'=>h'.elim)) fun _ _ h'=>h'.elim)
    cases ok with
    | false=>exact wpAny_pure ⟨rfl,h₃⟩
    | true=>
      rw [if_pos rfl] at h₃ ⊢
      unfold qV at h₃
      cases e:gens[d+1]? with
      | none=>
        simp only [e] at h₃ ⊢
        exact wpAny_bind (wpAny_bind (wpAny_mono h₃ (fun x s₄ h₄=>wpAny_bind (wpAny_mono h₄ (fun _ s₅ h₅=>wpAny_pure (wpAny_pure ⟨rfl,h₅⟩)) fun _ _ h'=>h'.elim)) fun _ _ h'=>h'.elim))
      | some g'=>
        simp only [e] at h₃ ⊢
        have ha:=hn g' e
        refine wpAny_bind (wpAny_mono h₃ (fun x s₄ h₄=>?_) fun _ _ h'=>h'.elim)
        refine wpAny_bind (wpAny_standAt ?_)
        rw [if_neg (by rw [ha];decide)]
        refine wpAny_bind (wpAny_mono h₄ (fun x s₅ h₅=>?_) fun _ _ h'=>h'.elim)
        refine wpAny_bind (wpAny_holding ?_)
        rw [if_neg (by rw [ha];decide)]
        refine wpAny_mono h₅ (fun it s₆ h₆=>?_) fun _ _ h'=>h'.elim
        exact wpAny_bind (wpAny_mono h₆ (fun _ s₇ h₇=>wpAny_pure ⟨rfl,h₇⟩) fun _ _ h'=>h'.elim)
theorem qS {elt target iter:Expr}{ifs:List Expr}{gens:List Comprehension}{d:Nat}{scope:Scope}{pos:Pos}{it acc:Value}{env:Env}(hg:gens[d]?=some ⟨target,iter,ifs,0⟩)
  (h1:codeAny (model prog w) A (.compLoop (.ListComp elt gens scope pos) d it acc env) R s)
  (h2:wpAny (model prog w) A (pyIter it) (fun it' s'=>codeAny (model prog w) A (.compLoop (.ListComp elt gens scope pos) d it' acc env) R s') (fun _ _=>False) s) :
  codeAny (model prog w) A (.compStart (.ListComp elt gens scope pos) d it acc env) R s:=by
 refine codeAny_loop' rfl (fun _ s'=>s'=s) (fun n s' hI=>?_) 0 rfl
 subst hI
 show wpAny _ A ((compStart (.ListComp elt gens scope pos) d it acc env).onRaise (fun x=>do noteFrame x env;standAt theWindowsPlace)) _ _ _
 refine wpAny_onRaise ?_
 unfold compStart
 have hc:(clausesOf (.ListComp elt gens scope pos))[d]?=some ⟨target,iter,ifs,0⟩:=hg
 simp only [hc]
 rw [if_neg (by show ¬ ((0:Nat) != 0)=true;decide)]
 refine wpAny_bind (wpAny_askSetting ?_)
 split
 ·exact wpAny_pure (.inr ⟨rfl,h1⟩)
 ·refine wpAny_bind (wpAny_rule ?_)
  refine wpAny_bind (wpAny_standAt ?_)
  exact wpAny_bind (wpAny_mono h2 (fun it' s' h'=>wpAny_pure (.inr ⟨rfl,h'⟩)) fun _ _ h'=>h'.elim)
end
noncomputable def CL (J:It)(g:TG)(tt:TT)(tr:St->Hp->(St->Hp->Prop)->Prop)(N:St->Hp->Prop)(σ:St)(H:Hp):Prop:=∃ W:Nat->Nat->St->Hp->Prop,(∃ m,W 0 m σ H)/\∀ i m τ H2,W i m τ H2 ->
 (J.stop i H2/\N τ H2) \/ (J.go i H2/\∃ N1:St->Hp->Prop,(∀ τ' H',N1 τ' H'->∃ m',m'<m/\W (i+1) m' τ' H')/\∀ x H',J.yld i H2 x H'->g x τ H' fun τ2 H3=>tt τ2 H3 fun b H4=>
  if b=true then tr τ2 H4 N1 else N1 τ2 H4)
noncomputable abbrev TR:=St->Hp->(St->Hp->Prop)->Prop
noncomputable def kK (te:TE)(D:Addr):TR:=fun σ H N=>te σ H fun v H5=>∃ ys,H5 D=some (.lst ys)/\ys.length<sizeLine/\N σ (upd H5 D (.lst (ys ++ [v])))
noncomputable def yc (wi:TI)(g:TG)(tt:TT)(tr:Addr->TR)(D:Addr):TR:=fun σ H N=>wi σ H fun J H1=>CL J g tt (tr D) N σ H1
noncomputable def PR (C:Cx)(elt:Expr)(gens:List Comprehension)(scope:Scope)(pos:Pos)(d:Nat)(D:Addr)(tr:TR):Prop:=
 ∀ (pins:List (Addr × Obj)) (s:Shared) (σ:St) (H:Hp) (N:St->Hp->Prop),Inv C pins σ H s->tr σ H N->qV C.prog C.w C.A elt gens scope pos d (.ref D) C.env (fun s'=>∃ σ' H',Inv C pins σ' H' s'/\N σ' H') s
section
variable {C:Cx}{elt tg iter:Expr}{ifs:List Expr}{gens:List Comprehension}{scope:Scope}{pos:Pos}{d:Nat}{D:Addr}{g:TG}{tt:TT}{te:TE}{tr:TR}
theorem wz (hc:C.calm=true)(hgd:gens[d]?=some ⟨tg,iter,ifs,0⟩)(hn:∀ g',gens[d+1]?=some g'->g'.is_async=0)(hg:PG C tg g)(ht:PIf C ifs tt)(hr:PR C elt gens scope pos d D tr)(hxe:∀ e s,¬ C.xe e s)
  {it:Addr} {fp:List Addr} {tn:Nat->Heap->Prop} {J:It} (T:yb C.prog C.w C.K tg J fp it tn) {pins:List (Addr × Obj)} {s:Shared} {σ:St} {H:Hp} (I:Inv C pins σ H s) (st:tn 0 s.heap) (hf:∀ b ∈ fp,jm C pins H b) {N:St->Hp->Prop} (h:CL J g tt tr N σ H)
  {R:Result->Shared->Prop} (fin:∀ s' σ' H',Inv C pins σ' H' s'->N σ' H'->R (.ok .next) s') :
  codeAny (model C.prog C.w) C.A (.compLoop (.ListComp elt gens scope pos) d (.ref it) (.ref D) C.env) R s:=by
 obtain ⟨W,⟨m0,w0⟩,turn⟩:=h
 have no:∀ {α:Type} {m:Sem α} {Q:α->Shared->Prop} {s:Shared},wpAny (model C.prog C.w) C.A m Q C.xe s->wpAny (model C.prog C.w) C.A m Q (fun _ _=>False) s:=fun h=>wpAny_mono h (fun _ _ q=>q) fun e s q=>hxe e s q
 have stat:∀ {H':Hp},(∀ b ∈ fp,H' b=none)->∀ b ∈ fp,jm C pins H' b:=fun hn b hb=>⟨hn b hb,(hf b hb).2⟩
 refine je hgd hn (fun n s'=>∃ i τ H',Inv C pins τ H' s'/\tn i s'.heap/\(∀ b ∈ fp,H' b=none)/\W i n τ H') ?_ m0 ⟨0,σ,H,I,st,fun b hb=>(hf b hb).1,w0⟩
 rintro n s5 ⟨i,τ,H5,I5,st5,fr5,w5⟩
 rcases turn i n τ H5 w5 with ⟨stop,qn⟩ | ⟨go,N1,hN,step⟩
 ·refine thn (T.done C rfl rfl rfl hc i pins s5 τ H5 _ I5 (stat fr5) st5 stop) fun r s6 ⟨hr,I6⟩=>?_
  subst hr
  exact fin s6 τ H5 I6 qn
 ·refine thn (T.item C rfl rfl rfl hc i pins s5 τ H5 _ I5 (stat fr5) st5 go) fun r s6 ⟨u,hr',h6⟩=>?_
  subst hr'
  refine thn h6 fun _ s7 ⟨x,H7,I7,r7,y7,st7,fr7⟩=>?_
  have I7':=I7.pinned (stat fr7) (T.obj _ _ st7)
  refine thn (no (hg _ s7 τ H7 x u _ I7' r7 (step x H7 y7))) fun _ s8 ⟨τ8,H8,I8,q8⟩=>?_
  refine thn (no (ht _ s8 τ8 H8 _ I8 q8)) fun b s9 ⟨H9,I9,q9⟩=>?_
  have again:∀ {τ9:St} {H9:Hp} {s9:Shared},Inv C (pins ++ j5 fp s7.heap) τ9 H9 s9->N1 τ9 H9 ->
    ∃ m,m<n/\∃ i τ H',Inv C pins τ H' s9/\tn i s9.heap/\(∀ b ∈ fp,H' b=none)/\W i m τ H':=fun {τ9 H9 s9} I9 n9=>by
   obtain ⟨m',hm,w9⟩:=hN _ _ n9
   refine ⟨m',hm,i+1,τ9,H9,I9.unpinned,T.keep _ _ _ st7 fun b hb o e=>(I9.pin (b,o) (List.mem_append_right _ (List.mem_append_right _ (qg hb e)))).1,fun b hb=>?_,w9⟩
   obtain ⟨o,e,d⟩:=T.obj _ _ st7 b hb
   exact (I9.pin (b,o) (List.mem_append_right _ (List.mem_append_right _ (qg hb e)))).2.1
  cases b with
  | false=>
   rw [if_neg Bool.false_ne_true] at q9 ⊢
   exact again I9 q9
  | true=>
   rw [if_pos rfl] at q9 ⊢
   exact yU (hr _ s9 τ8 H9 _ I9 q9) fun s11 ⟨τ9,H11,I11,n11⟩=>again I11 n11
theorem K0 (hg2:gens[d+1]?=none)(he:PE C elt te)(hxe:∀ e s,¬ C.xe e s):PR C elt gens scope pos d D (kK te D):=by
 intro pins s σ H N I h
 have no:∀ {α:Type} {m:Sem α} {Q:α->Shared->Prop} {s:Shared},wpAny (model C.prog C.w) C.A m Q C.xe s->wpAny (model C.prog C.w) C.A m Q (fun _ _=>False) s:=fun h=>wpAny_mono h (fun _ _ q=>q) fun e s q=>hxe e s q
 unfold qV
 simp only [hg2]
 refine thn (no (he pins s σ H _ I h)) fun y s10 ⟨v,H10,I10,r10,ys,hys,hlen,n10⟩=>?_
 exact thn (no (jS (X:=C) _ s10 σ H10 (.ref D) [v] (.ref D) [y] (fun _ H11=>N σ H11) I10 rfl (.cons r10 .nil) ⟨_,ys,v,rfl,rfl,hys,hlen,n10⟩)) fun _ s11 ⟨_,H11,I11,_,n11⟩=>⟨σ,H11,I11,n11⟩
theorem wC {tr:Addr->TR}{wi:TI}(hc:C.calm=true)(hgd:gens[d+1]?=some ⟨tg,iter,ifs,0⟩)(hn:∀ g',gens[d+2]?=some g'->g'.is_async=0)(hi:PI C tg iter wi)(hs:∀ x,foldedSetIterable iter C.env x=pure x)(hg:PG C tg g)(ht:PIf C ifs tt)
  (hr:PR C elt gens scope pos (d+1) D (tr D)) (hxe:∀ e s,¬ C.xe e s):PR C elt gens scope pos d D (yc wi g tt tr D):=by
 intro pins s σ H N I h
 have no:∀ {α:Type} {m:Sem α} {Q:α->Shared->Prop} {s:Shared},wpAny (model C.prog C.w) C.A m Q C.xe s->wpAny (model C.prog C.w) C.A m Q (fun _ _=>False) s:=fun h=>wpAny_mono h (fun _ _ q=>q) fun e s q=>hxe e s q
 unfold qV
 simp only [hgd]
 refine thn (no (hi pins s σ H _ I h)) fun v s1 h1=>?_
 rw [hs v]
 refine wpAny_pure (thn (no h1) fun itv s2 h2=>?_)
 obtain ⟨it,fp,tn,J,H2,e,I2,T,st2,f2,q2⟩:=h2
 subst e
 refine wpAny_runOwn ?_
 show codeAny _ C.A _ _ _
 have loop:=wz (R:=fun r s'=>match r with | .ok f=>(∃ σ' H',Inv C pins σ' H' s'/\N σ' H') | .error e=>cameBackBy (model C.prog C.w) C.A C.env (fun _ _=>False) e s') hc hgd hn hg ht hr hxe T I2 st2 f2 q2 fun s' σ' H' I' n'=>⟨σ',H',I',n'⟩
 exact qS hgd loop (T.self _ 0 _ _ _ st2 loop)
end
noncomputable def j9 (ts:List Nat)(wi:TI)(g:TG)(tt:TT)(tr:Addr->TR):TE:=fun σ H Q=>wi σ H fun J H1=>∀ D,H1 D=none->CL J g tt (tr D) (fun _ H2=>Q (.ref D) H2) (clr ts σ) (upd H1 D (.lst []))
section
variable {X:Cx}{ts:List Nat}{scope:Scope}{tg iter elt:Expr}{ifs:List Expr}{qb:List Comprehension}{wi:TI}{g:TG}{tt:TT}{tr:Addr->TR}{pos:Pos}
theorem xu (hc:X.calm=true)(hsc:vD X.N ts scope X.env.kindOf=true)(hi:PI X tg iter wi)(hn:∀ g',qb[0]?=some g'->g'.is_async=0)(hg:∀ cl s H fp,PG (cxC X scope cl s H fp) tg g)(ht:∀ cl s H fp,PIf (cxC X scope cl s H fp) ifs tt)
  (hr:∀ cl s H fp D,PR (cxC X scope cl s H fp) elt (⟨tg,iter,ifs,0⟩ :: qb) scope pos 0 D (tr D))
  {pins:List (Addr × Obj)} {s:Shared} {σ:St} {H:Hp} {Q:VK} (I:Inv X pins σ H s) (h:j9 ts wi g tt tr σ H Q) {use:Option (Value->Sem Unit)} {Q':Value->Shared->Prop}
  (fin:∀ (D C:Addr) (H':Hp) (s':Shared),Inv X pins σ H' s'->(∃ m,s'.heap.Ns C m)->H' C=none->C ≠ X.env.locals->(∀ x c,X.env.cells.lookup x=some c->c ≠ C)->X.s₀.heap.objs.size<=C->(∀ p ∈ X.pn ++ pins,p.1 ≠ C)->C ∉ X.fs->Q (.ref D) H' ->
   compPost (model X.prog X.w) X.A X.xe use Q' (.ref D) C (.ok .next) s')
  (hs:∀ x,foldedSetIterable iter X.env x=pure x) :
  wpAny (model X.prog X.w) X.A (comprehension (.ListComp elt (⟨tg,iter,ifs,0⟩ :: qb) scope pos) scope X.env (firstIterPos (⟨tg,iter,ifs,0⟩ :: qb) pos) (newList []) false (eval iter X.env) use) Q' X.xe s:=by
 have S:=Qt hsc
 obtain ⟨cl,hcl,c1,c2⟩:=kT (scope:=scope) (env:=X.env) fun y hy e=>I.ok.has y.1 (S.free y hy e)
 refine wpAny_comprehension_free (use:=use) rfl hs hcl S.kind S.loc ?_
 refine wpAny_mono (hi pins s σ H _ I h) (fun v s1 h1=>wpAny_mono h1 (fun itv s2 h2=>?_) fun _ _ e=>e) fun _ _ e=>e
 obtain ⟨it,fp,tn,J,H2,e,I2,T,st2,f2,q2⟩:=h2
 subst e
 have hD:H2 s2.heap.objs.size=none:=I2.hok.fresh (Nat.le_refl _)
 have q3:=q2 _ hD
 refine wpAny_newObj_type (wpAny_newFunctionEnv S.cell (by intro y hy;simp at hy) (fun h₁ hns₁ hsb₁=>?_) S.kind)
 dsimp only at hns₁ hsb₁ ⊢
 generalize hh3:s2.heap.push { cls:=.type "list",dict:=none,data:=.seq ([]:List Value).toArray }=g3 at hns₁ hsb₁ ⊢
 have I3:Inv X pins σ (upd H2 s2.heap.objs.size (.lst [])) { s2 with heap:=g3 }:=by
  rw [<- hh3]
  exact I2.laid (t':=s2.toks) (fun b u e=>Heap.get?_push_of_some _ e) (Nat.le_refl _) ⟨Nat.zero_le _,[],_,.nil,Heap.get?_push_size _ rfl⟩
 have st3:tn 0 g3:=T.keep _ _ _ st2 fun b _ o e=>by rw [<- hh3];exact Heap.get?_push_of_some _ e
 have lt2:∀ b ∈ fp,b<s2.heap.objs.size:=fun b hb=>by obtain ⟨o,e,_⟩:=T.obj _ _ st2 b hb;exact Heap.lt_size e
 have hsz3:g3.objs.size=s2.heap.objs.size+1:=by rw [<- hh3,Heap.size_push]
 have f3:∀ b ∈ fp,jm X pins (upd H2 s2.heap.objs.size (.lst [])) b:=fun b hb=>⟨by rw [ze (Nat.ne_of_lt (lt2 b hb))];exact (f2 b hb).1,(f2 b hb).2⟩
 have lt3:∀ b ∈ fp,b<g3.objs.size:=fun b hb=>by rw [hsz3];exact Nat.lt_succ_of_lt (lt2 b hb)
 have old:∀ b o,g3.get? b=some o->h₁.get? b=some o:=fun b o e=>hsb₁.extBut b o (Nat.ne_of_lt (Heap.lt_size e)) (Heap.get?_push_of_some _ e)
 have hns:h₁.Ns g3.objs.size (fun x=>([]:List (Str × Value)).reverse.lookup x):=hns₁
 have I4:∀ t,Inv (cxC X scope cl { s2 with heap:=g3 } (upd H2 s2.heap.objs.size (.lst [])) fp) [] (clr ts σ) (upd H2 s2.heap.objs.size (.lst [])) { s2 with heap:=h₁,toks:=t }:=fun t=>kQ I3 S f3 lt3 c1 c2 hns old
 have fpne:∀ b ∈ fp,b ∉ frs X.stack:=fun b hb z=>by
  obtain ⟨_,f1,f2,_⟩:=f3 b hb
  rcases List.mem_cons.mp (I3.stkSub b z) with e | e
  ·exact f1 e
  ·exact f2 e
 have stat:∀ {H':Hp},(∀ b ∈ fp,H' b=none)->∀ b ∈ fp,jm (cxC X scope cl { s2 with heap:=g3 } (upd H2 s2.heap.objs.size (.lst [])) fp) [] H' b:=fun hn b hb=>
  ⟨hn b hb,Nat.ne_of_lt (lt3 b hb),fpne b hb,.inl hb,fun x c e=>(f2 b hb).2.2.2.2.1 x c (c1 x c e),fun p hp=>absurd hp (by simp)⟩
 have loop:∀ t,codeAny (model X.prog X.w) X.A (.compLoop (.ListComp elt (⟨tg,iter,ifs,0⟩ :: qb) scope pos) 0 (.ref it) (.ref s2.heap.objs.size) (compEnvC scope cl g3.objs.size X.env))
   (compPost (model X.prog X.w) X.A X.xe use Q' (.ref s2.heap.objs.size) g3.objs.size) { s2 with heap:=h₁,toks:=t }:=by
  intro t
  refine wz (C:=cxC X scope cl { s2 with heap:=g3 } (upd H2 s2.heap.objs.size (.lst [])) fp) hc rfl (fun g' e=>hn g' (by simpa using e)) (hg _ _ _ _) (ht _ _ _ _) (hr _ _ _ _ _) (fun _ _ z=>z) T (I4 t) (T.keep _ _ _ st3 fun b _ o e=>old b o e) (stat fun b hb=>(f3 b hb).1) q3 fun s6 σ6 H5 I6 qn=>?_
  have base:Un (frs X.stack) fp (upd H2 s2.heap.objs.size (.lst [])) H5 g3 s6.heap:=I6.base
  have J6:Inv X pins σ H5 s6:=I3.call' (ch:=fp) I6.os base I6.hok I6.bare fun b hb=>⟨(f3 b hb).2.2.2.1,(f3 b hb).2.1,(f3 b hb).2.2.2.2.1,(f3 b hb).2.2.2.2.2⟩
  obtain ⟨m6,n6,_⟩:=I6.loc
  refine fin _ g3.objs.size H5 s6 J6 ⟨m6,n6⟩ I6.free (Nat.ne_of_gt I3.lt) (fun x c e z=>?_) I3.sz (fun p hp z=>?_) (I3.nofs (Nat.le_refl _)) qn
  ·obtain ⟨v,q⟩:=I3.cell x c e
   exact absurd q.lt (by rw [z];exact Nat.lt_irrefl _)
  ·exact absurd (Heap.lt_size (I3.pin p hp).1) (by rw [z];exact Nat.lt_irrefl _)
 have LW:=loop (s2.toks+([]:List (Str × Value)).length)
 exact codeAny_compStart_list LW (T.self _ 0 _ _ _ (T.keep _ _ _ st3 fun b _ o e=>old b o e) LW)
theorem WK (hc:X.calm=true)(hsc:vD X.N ts scope X.env.kindOf=true)(hi:PI X tg iter wi)(hg:∀ cl s H fp,PG (cxC X scope cl s H fp) tg g)(ht:∀ cl s H fp,PIf (cxC X scope cl s H fp) ifs tt)
  (hr:∀ cl s H fp D,PR (cxC X scope cl s H fp) elt (⟨tg,iter,ifs,0⟩ :: qb) scope pos 0 D (tr D)) (hn:∀ g',qb[0]?=some g'->g'.is_async=0:=by intro _ e;cases e;rfl)
  (hs:∀ x,foldedSetIterable iter X.env x=pure x:=by intro _;rfl):PE X (.ListComp elt (⟨tg,iter,ifs,0⟩ :: qb) scope pos) (j9 ts wi g tt tr):=by
 intro pins s σ H Q I h
 rw [eval_ListComp]
 refine xu hc hsc hi hn hg ht hr I h (use:=none) (fun D C H' s' I' ⟨m,hn⟩ hC hL hce hsz hp hfs q=>⟨m,hn,fun h' hs'=>?_⟩) hs
 exact ⟨.ref D,H',I'.turned (t':=s'.toks) (it:=C) (fun b o hb e=>(hs'.2 b hb).trans e) hC hL (.inr hsz) hce hp,rfl,q⟩
theorem Js {j:Nat}{y:Str}{py spos:Pos}(hc:X.calm=true)(hN:X.N.Nodup)(hj:X.N[j]?=some y)(hy:Loc X.env.scope y)(hsc:vD X.N ts scope X.env.kindOf=true)(hi:PI X tg iter wi)(hg:∀ cl s H fp,PG (cxC X scope cl s H fp) tg g)(ht:∀ cl s H fp,PIf (cxC X scope cl s H fp) ifs tt)
  (hr:∀ cl s H fp D,PR (cxC X scope cl s H fp) elt (⟨tg,iter,ifs,0⟩ :: qb) scope pos 0 D (tr D)) (hn:∀ g',qb[0]?=some g'->g'.is_async=0:=by intro _ e;cases e;rfl)
  (hsw:swapsWith (.ListComp elt (⟨tg,iter,ifs,0⟩ :: qb) scope pos) (some (.Name y py)) spos.line X.env=pure true:=by rfl)
  (hs:∀ x,foldedSetIterable iter X.env x=pure x:=by intro _;rfl) (hf:X.fn y=true \/ X.env.scope.names.lookup y=some .local:=by first | exact .inl rfl | exact .inr rfl | assumption) :
  PS X (.Assign [.Name y py] (.ListComp elt (⟨tg,iter,ifs,0⟩ :: qb) scope pos) spos) (JH (j9 ts wi g tt tr) (yL j)):=by
 intro pins s σ H D I h
 rw [exec_Assign_Name_used _ _ _ _ hsw]
 refine wpAny_bind (wpAny_standAt (wpAny_bind ?_))
 show wpAny _ _ (do let _ <- comprehension (.ListComp elt (⟨tg,iter,ifs,0⟩ :: qb) scope pos) scope X.env _ (newList []) false (eval iter X.env) (some (assign (.Name y py) X.env))) _ _ s
 refine wpAny_bind (wpAny_mono (xu hc hsc hi hn hg ht hr I h (use:=some (assign (.Name y py) X.env)) (Q':=fun _ s'=>SP X pins D .next s') (fun D' C H' s' I' ⟨m,hn⟩ hC hL hce hsz hp hfs q=>?_) hs) (fun _ s' hq=>wpAny_pure (wpAny_pure hq)) fun _ _ e=>e)
 show wpAny _ _ (assign (.Name y py) X.env (.ref D')) _ _ _
 refine wpAny_assign_Name (xK (v:=.ref D') I' hN hj hy rfl (fun s2 I2 ⟨a,hsb,ha⟩=>?_) hf)
 have hCa:C ≠ a:=by
  rcases ha with rfl | ha
  ·exact hL
  ·exact Ne.symm (hce y a ha)
 refine ⟨m,hn.sameBut hsb hCa,fun h' hs'=>?_⟩
 exact ⟨_,H',I2.turned (t':=s2.toks) (it:=C) (fun b o hb e=>(hs'.2 b hb).trans e) hC hL (.inr hsz) hce hp,q⟩
end
theorem Zz {ts:List Nat}{wi:TI}{g:TG}{tt:TT}{tr:Addr->TR}{σ:St}{H:Hp}{Q:VK} :
  j9 ts wi g tt tr σ H Q=wi σ H (fun J H1=>∀ D,H1 D=none->CL J g tt (tr D) (fun _ H2=>Q (.ref D) H2) (clr ts σ) (upd H1 D (.lst []))):=rfl
theorem Zu {wi:TI}{g:TG}{tt:TT}{tr:Addr->TR}{D:Addr}{σ:St}{H:Hp}{N:St->Hp->Prop}:yc wi g tt tr D σ H N=wi σ H (fun J H1=>CL J g tt (tr D) N σ H1):=rfl
theorem ZD {te:TE}{D:Addr}{σ:St}{H:Hp}{N:St->Hp->Prop}:kK te D σ H N=te σ H (fun v H5=>∃ ys,H5 D=some (.lst ys)/\ys.length<sizeLine/\N σ (upd H5 D (.lst (ys ++ [v])))):=rfl
section
variable {P:Program}{w:World}{A:Around}{E:Value->Shared->Prop}{it l:Addr}{items:Array Value}
theorem xn (hne:l ≠ it):∀ (n i:Nat) (s:Shared) (Q:List Value->Shared->Prop),s.heap.IsListIter it l i->s.heap.IsList l items->i+n<=items.size ->
  (∀ h',h'.IsListIter it l (i+n)->Heap.SameBut it s.heap h'->Q ((items.toList.drop i).take n) { s with heap:=h' })->wpAny (model P w) A (draw (.ref it) n) Q E s
 | 0,i,s,Q,hi,hl,hn,hQ=>by
  rw [draw.eq_1]
  have:=hQ s.heap (by simpa using hi) (Heap.SameBut.refl ..)
  simp only [List.take_zero] at this
  exact wpAny_pure this
 | n+1,i,s,Q,hi,hl,hn,hQ=>by
  rw [draw.eq_2]
  have hlt:i<items.size:=by omega
  refine wpAny_bind (wpAny_pyNext_list_item hi hl (x:=items[i]) (by simp [hlt]) fun h' hi' hs'=>?_)
  refine wpAny_bind (wpAny_holding ?_)
  have hl':h'.IsList l items:=by obtain ⟨o,ho,r⟩:=hl;exact ⟨o,(hs'.2 l hne).trans ho,r⟩
  refine xn hne n (i+1) { s with heap:=h' } _ hi' hl' (by omega) fun h2 hi2 hs2=>wpAny_pure ?_
  have e:(items.toList.drop i).take (n+1)=items[i] :: (items.toList.drop (i+1)).take n:=by
   rw [List.drop_eq_getElem_cons (by simpa using hlt),List.take_succ_cons];simp
  have:=hQ h2 (by rw [show i+(n+1)=i+1+n by omega];exact hi2) (hs'.trans hs2)
  rw [e] at this
  exact this
theorem jW {s:Shared}{Q:List Value->Shared->Prop}(hh:A.handled=none)(hl:s.heap.IsList l items)(hQ:∀ h',Heap.ExtBut s.heap.objs.size s.heap h'->Q items.toList { s with heap:=h' }):wpAny (model P w) A (unpackItems (.ref l) items.size none) Q E s:=by
 have hT:s.TypeIs (.ref l) "list":=by obtain ⟨o,ho,hc,_⟩:=hl;exact ⟨o,ho,hc⟩
 have hlt:l<s.heap.objs.size:=by obtain ⟨o,ho,_⟩:=hl;exact Heap.lt_size ho
 unfold unpackItems
 refine wpAny_bind ?_
 unfold notIterableAtAll
 refine wpAny_bind (wpAny_specialOf hT F.slot_list_iter.lookup ?_)
 refine wpAny_pure ?_
 show wpAny _ _ (holding [Value.ref l] (pyIter (Value.ref l)) >>= _) _ _ _
 refine wpAny_bind (wpAny_holding (wpAny_pyIter_list hl ?_))
 have hi:Heap.IsListIter (s.heap.push { cls:=Value.type "list_iterator",data:=Data.fields #[Value.ref l,Value.int 0 0] }) s.heap.objs.size l 0:=⟨_,Heap.get?_push_size _ rfl,rfl,rfl⟩
 have hl1:=hl.push { cls:=Value.type "list_iterator",data:=Data.fields #[Value.ref l,Value.int 0 0] }
 refine wpAny_bind (wpAny_holding (xn (Nat.ne_of_lt hlt) items.size 0 _ _ hi hl1 (by omega) fun h2 hi2 hs2=>?_))
 have e:(items.toList.drop 0).take items.size=items.toList:=by rw [List.drop_zero,List.take_of_length_le (by simp)]
 rw [e]
 dsimp only
 rw [if_neg (by simp)]
 have hl2:h2.IsList l items:=by obtain ⟨o,ho,r⟩:=hl1;exact ⟨o,(hs2.2 l (Nat.ne_of_lt hlt)).trans ho,r⟩
 refine wpAny_bind (wpAny_holding (wpAny_pyNext_list_end hh hi2 hl2 (by simp) fun h3 hx3=>?_))
 refine wpAny_pure (hQ _ ?_)
 intro b o hb ho
 exact hx3 b o hb ((hs2.2 b hb).trans (Heap.get?_push_of_some _ ho))
theorem vn {s:Shared}{targets:List (Bool × (Value->Sem Unit))}{Q:Unit->Shared->Prop}(hh:A.handled=none)(hl:s.heap.IsList l items)(hn:targets.length=items.size)(hf:targets.findIdx? (·.1)=none)
  (hQ:∀ h',Heap.ExtBut s.heap.objs.size s.heap h'->wpAny (model P w) A (assignInOrder (targets.map (·.2)) items.toList) Q E { s with heap:=h' }):wpAny (model P w) A (unpack (.ref l) targets) Q E s:=by
 unfold unpack
 rw [hf,hn]
 exact wpAny_bind (wpAny_holding (jW hh hl hQ))
end
section
variable {X:Cx}{pos:Pos}
noncomputable def Vf (K:PySem.W.Frag)(n:Nat)(t:TGs):TG:=fun v σ H Q=>∃ a xs,v=.ref a/\SqL K H a xs/\xs.length=n/\t xs σ H Q
theorem X6 {es:List Expr}{k:Nat}{t:TGs}{n:Nat}(hc:X.calm=true)(h:PGs X es t)
  (hn:(assignEach es X.env).length=n:=by rfl) (hst:(assignEach es X.env).findIdx? (·.1)=none:=by rfl):PG X (.Tuple es k pos) (Vf X.K n t):=by
 intro pins s σ H v u Q I r hw
 obtain ⟨a,xs,e1,hq,hl,hw⟩:=hw
 subst e1
 cases r
 obtain ⟨its,rv,ht,hz⟩:=I.list hq
 rw [PyProof.Rows.assign_Tuple]
 refine wpAny_bind (wpAny_standAt ?_)
 refine vn (I.ok.hd hc) ht.isList (by simp [hn,<- hl,rv.length]) hst fun h' hx=>?_
 have I1:Inv X pins σ H { s with heap:=h' }:=I.kept (t':=s.toks) fun b o e=>hx b o (Nat.ne_of_lt (Heap.lt_size e)) e
 exact h pins _ σ H xs _ Q I1 (by simpa using rv) hw
theorem K4 {es:List Expr}{k:Nat}{t:TGs}{K:PySem.W.Frag}(n:Nat)(h:X.K=K)(hc:X.calm=true)(hs:PGs X es t)(hn:(assignEach es X.env).length=n:=by rfl)(hst:(assignEach es X.env).findIdx? (·.1)=none:=by rfl):PG X (.Tuple es k pos) (Vf K n t):=h ▸ X6 hc hs hn hst
end
noncomputable def rep (o:Nat)(G:List Int):List Int:=(List.range (o * G.length)).map fun (i:Nat)=>((i / G.length * G.length:Nat):Int)+G.getD (i % G.length) 0
section
variable {P:Program}{w:World}{A:Around}{E:Value->Shared->Prop}{s:Shared}{z TI TO i1 i2 l1 l2:Addr}{k:Nat}{xs ys:Array Value}{x y a b:Value}{Q:Option Value->Shared->Prop}
theorem xD (D:ZipApart z TI TO i1 i2 l1 l2)(hz:IsZip s.heap z TI TO .none)(hTI:IsPair s.heap TI (.ref i1) (.ref i2))(hTO:IsPair s.heap TO a b)(h1:s.heap.IsTupleIter i1 l1 k)(h2:s.heap.IsTupleIter i2 l2 k)(p1:s.heap.IsTuple l1 xs)(p2:s.heap.IsTuple l2 ys)(hx:xs[k]?=some x)(hy:ys[k]?=some y)
  (hQ:∀ h',IsZip h' z TI TO (rawInt s.heap.objs.size)->IsPair h' TO x y->h'.IsTupleIter i1 l1 (k+1)->h'.IsTupleIter i2 l2 (k+1)->IsPair h' s.heap.objs.size x y->h'.objs.size=s.heap.objs.size+1->(∀ c o,c ≠ z->c ≠ TO->c ≠ i1->c ≠ i2->s.heap.get? c=some o->h'.get? c=some o)->Q (some (.ref s.heap.objs.size)) { s with heap:=h' }) :
  wpAny (model P w) A (pyNext (.ref z)) Q E s:=by
 have hT:s.TypeIs (.ref z) "zip":=⟨_,hz,rfl⟩
 unfold pyNext
 refine wpAny_bind (wpAny_attempt (wpAny_callSpecial?_slot (name:=Str.ofString "__next__") hT F.slot_zip_next (wpAny_call_entry F.slot_zip_next hT F.entry_zip_next ?_ (F.args_zip_next_1 _))))
 refine wpAny_bind (m:=field (.ref z) 2) (wpAny_field hz rfl (x:=.bool false) rfl ?_)
 refine wpAny_bind (m:=field (.ref z) 3) (wpAny_field hz rfl (x:=.ref TI) rfl ?_)
 refine wpAny_bind (m:=seqItems? (.ref TI)) (wpAny_seqItems hTI rfl ?_)
 refine wpAny_bind (m:=Builtin.SmallTypes.ownedTupleIsFree (.ref z)) ?_
 unfold Builtin.SmallTypes.ownedTupleIsFree
 refine wpAny_bind (wpAny_field hz rfl (x:=.none) rfl (wpAny_pure ?_))
 refine wpAny_bind (m:=rule "zip.__next__.owned-tuple-again") (wpAny_rule ?_)
 refine wpAny_bind (m:=field (.ref z) 4) (wpAny_field hz rfl (x:=.ref TO) rfl ?_)
 refine wpAny_bind (m:=setField (.ref z) 0 .ellipsis) (wpAny_setField hz rfl (by simp) ?_)
 have sb1:=Heap.SameBut.update s.heap z (Obj.mapFields fun x_1=>x_1.setIfInBounds 0 Value.ellipsis)
 have g1:(s.heap.update z (Obj.mapFields fun x_1=>x_1.setIfInBounds 0 Value.ellipsis)).get? z=some { cls:=Value.type "zip",data:=Data.fields #[.ellipsis,Value.bool false,Value.bool false,Value.ref TI,Value.ref TO] }:=Heap.get?_update_self _ hz (Obj.isFreed_of_fields (Obj.data_mapFields rfl _))
 generalize s.heap.update z (Obj.mapFields fun x_1=>x_1.setIfInBounds 0 Value.ellipsis)=h1' at *
 refine wpAny_bind ?_
 rw [show (#[Value.ref i1,Value.ref i2].toList.zipIdx:List (Value × Nat))=[(.ref i1,0),(.ref i2,1)] from rfl,List.forIn_cons]
 dsimp only
 have it1:h1'.IsTupleIter i1 l1 k:=by obtain ⟨o,ho,r⟩:=h1;exact ⟨o,(sb1.2 i1 D.i1z).trans ho,r⟩
 have tp1:h1'.IsTuple l1 xs:=by obtain ⟨o,ho,r⟩:=p1;exact ⟨o,(sb1.2 l1 D.l1z).trans ho,r⟩
 refine wpAny_bind (wpAny_bind (wpAny_onRaise ?_))
 show wpAny _ _ (Builtin.SmallTypes.nextOf (.ref i1) >>= fun v=>pure (some v)) _ _ _
 refine wpAny_bind (zY it1 tp1 hx fun h2' it2 sb2=>wpAny_pure ?_)
 dsimp only
 have gTO2:IsPair h2' TO a b:=((sb2.2 TO D.TOi1).trans (sb1.2 TO D.TOz)).trans hTO
 refine wpAny_bind (wpAny_seqItems gTO2 rfl ?_)
 dsimp only
 refine wpAny_bind (wpAny_updateSeq_pair gTO2 fun h3' g3 sb3=>?_)
 refine wpAny_bind (wpAny_letGo (wpAny_pure ?_))
 dsimp only
 have g3':IsPair h3' TO x b:=g3
 have it3:h3'.IsTupleIter i2 l2 k:=by obtain ⟨o,ho,r⟩:=h2;exact ⟨o,(((sb3.2 i2 (Ne.symm D.TOi2)).trans (sb2.2 i2 (Ne.symm D.i12))).trans (sb1.2 i2 D.i2z)).trans ho,r⟩
 have tp3:h3'.IsTuple l2 ys:=by obtain ⟨o,ho,r⟩:=p2;exact ⟨o,(((sb3.2 l2 D.l2TO).trans (sb2.2 l2 D.l2i1)).trans (sb1.2 l2 D.l2z)).trans ho,r⟩
 rw [List.forIn_cons]
 refine wpAny_bind (wpAny_bind (wpAny_onRaise ?_))
 show wpAny _ _ (Builtin.SmallTypes.nextOf (.ref i2) >>= fun v=>pure (some v)) _ _ _
 refine wpAny_bind (zY it3 tp3 hy fun h4' it4 sb4=>wpAny_pure ?_)
 dsimp only
 have gTO4:IsPair h4' TO x b:=(sb4.2 TO D.TOi2).trans g3'
 refine wpAny_bind (wpAny_seqItems gTO4 rfl ?_)
 dsimp only
 refine wpAny_bind (wpAny_updateSeq_pair gTO4 fun h5' g5 sb5=>?_)
 refine wpAny_bind (wpAny_letGo (wpAny_pure ?_))
 dsimp only
 have g5':IsPair h5' TO x y:=g5
 rw [List.forIn_nil]
 refine wpAny_pure ?_
 dsimp only
 refine wpAny_bind (wpAny_seqItems g5' rfl ?_)
 dsimp only
 have sz5:h5'.objs.size=s.heap.objs.size:=((((sb5.1).trans sb4.1).trans sb3.1).trans sb2.1).trans sb1.1
 refine wpAny_bind (wpAny_newTuple ?_ (by show 2<=sizeLine;decide))
 have gz5:h5'.get? z=some { cls:=Value.type "zip",data:=Data.fields #[.ellipsis,Value.bool false,Value.bool false,Value.ref TI,Value.ref TO] }:=((((sb5.2 z (Ne.symm D.TOz)).trans (sb4.2 z (Ne.symm D.i2z))).trans (sb3.2 z (Ne.symm D.TOz))).trans (sb2.2 z (Ne.symm D.i1z))).trans g1
 have zlt:z<h5'.objs.size:=Heap.lt_size gz5
 have g6:(h5'.push { cls:=Value.type "tuple",data:=Data.seq #[x,y] }).get? z=_:=Heap.get?_push_of_some _ gz5
 have n6:(h5'.push { cls:=Value.type "tuple",data:=Data.seq #[x,y] }).get? h5'.objs.size=some { cls:=Value.type "tuple",data:=Data.seq #[x,y] }:=Heap.get?_push_size _ rfl
 have ex6:∀ c o,h5'.get? c=some o->(h5'.push { cls:=Value.type "tuple",data:=Data.seq #[x,y] }).get? c=some o:=fun c o e=>Heap.get?_push_of_some _ e
 have sz6:(h5'.push { cls:=Value.type "tuple",data:=Data.seq #[x,y] }).objs.size=h5'.objs.size+1:=Heap.size_push ..
 show wpAny _ _ (Builtin.SmallTypes.ownedTupleHandOut (.ref z) (.ref h5'.objs.size) >>= _) _ _ { s with heap:=h5'.push { cls:=Value.type "tuple",data:=Data.seq #[x,y] } }
 generalize h5'.push { cls:=Value.type "tuple",data:=Data.seq #[x,y] }=h6' at *
 unfold Builtin.SmallTypes.ownedTupleHandOut
 refine wpAny_bind (wpAny_bind (wpAny_setField g6 rfl (by simp) (wpAny_setField (Heap.get?_update_self _ g6 (Obj.isFreed_of_fields (Obj.data_mapFields rfl _))) rfl (by simp) ?_)))
 have sb7:=Heap.SameBut.update h6' z (Obj.mapFields fun x_1=>x_1.setIfInBounds 0 (rawInt h5'.objs.size))
 have g7:(h6'.update z (Obj.mapFields fun x_1=>x_1.setIfInBounds 0 (rawInt h5'.objs.size))).get? z=some { cls:=Value.type "zip",data:=Data.fields #[rawInt h5'.objs.size,Value.bool false,Value.bool false,Value.ref TI,Value.ref TO] }:=Heap.get?_update_self _ g6 (Obj.isFreed_of_fields (Obj.data_mapFields rfl _))
 dsimp only
 generalize h6'.update z (Obj.mapFields fun x_1=>x_1.setIfInBounds 0 (rawInt h5'.objs.size))=h7' at *
 have sb8:=Heap.SameBut.update h7' z (Obj.mapFields fun x_1=>x_1.setIfInBounds 1 (Value.bool false))
 have g8:(h7'.update z (Obj.mapFields fun x_1=>x_1.setIfInBounds 1 (Value.bool false))).get? z=some { cls:=Value.type "zip",data:=Data.fields #[rawInt h5'.objs.size,Value.bool false,Value.bool false,Value.ref TI,Value.ref TO] }:=Heap.get?_update_self _ g7 (Obj.isFreed_of_fields (Obj.data_mapFields rfl _))
 generalize h7'.update z (Obj.mapFields fun x_1=>x_1.setIfInBounds 1 (Value.bool false))=h8' at *
 have far:∀ c o,c ≠ z->h6'.get? c=some o->h8'.get? c=some o:=fun c o hc e=>((sb8.2 c hc).trans (sb7.2 c hc)).trans e
 refine wpAny_pure ⟨_,rfl,wpAny_pure ?_⟩
 rw [sz5] at g8 n6 sz6 zlt ⊢
 refine hQ h8' g8 (far _ _ D.TOz (ex6 _ _ g5')) ?_ ?_ (far _ _ (Nat.ne_of_gt zlt) n6) (by rw [sb8.1,sb7.1,sz6]) fun c o c1 c2 c3 c4 e=>?_
 ·obtain ⟨o,ho,r⟩:=it2
  exact ⟨o,far _ _ D.i1z (ex6 _ _ (((sb5.2 i1 (Ne.symm D.TOi1)).trans (sb4.2 i1 D.i12)).trans ((sb3.2 i1 (Ne.symm D.TOi1)).trans ho))),r⟩
 ·obtain ⟨o,ho,r⟩:=it4
  exact ⟨o,far _ _ D.i2z (ex6 _ _ ((sb5.2 i2 (Ne.symm D.TOi2)).trans ho)),r⟩
 ·exact far _ _ c1 (ex6 _ _ ((sb5.2 c c2).trans ((sb4.2 c c4).trans ((sb3.2 c c2).trans ((sb2.2 c c3).trans ((sb1.2 c c1).trans e))))))
theorem vm (hh:A.handled=none)(D:ZipApart z TI TO i1 i2 l1 l2)(hz:IsZip s.heap z TI TO .none)(hTI:IsPair s.heap TI (.ref i1) (.ref i2))(h1:s.heap.IsTupleIter i1 l1 k)(p1:s.heap.IsTuple l1 xs)(hx:xs[k]?=none)
  (hQ:∀ h',(∀ c o,c ≠ z->c ≠ TO->c ≠ i1->c ≠ i2->s.heap.get? c=some o->h'.get? c=some o)->Q none { s with heap:=h' }):wpAny (model P w) A (pyNext (.ref z)) Q E s:=by
 have hT:s.TypeIs (.ref z) "zip":=⟨_,hz,rfl⟩
 unfold pyNext
 refine wpAny_bind (wpAny_attempt (wpAny_callSpecial?_slot (name:=Str.ofString "__next__") hT F.slot_zip_next (wpAny_call_entry F.slot_zip_next hT F.entry_zip_next ?_ (F.args_zip_next_1 _))))
 refine wpAny_bind (m:=field (.ref z) 2) (wpAny_field hz rfl (x:=.bool false) rfl ?_)
 refine wpAny_bind (m:=field (.ref z) 3) (wpAny_field hz rfl (x:=.ref TI) rfl ?_)
 refine wpAny_bind (m:=seqItems? (.ref TI)) (wpAny_seqItems hTI rfl ?_)
 refine wpAny_bind (m:=Builtin.SmallTypes.ownedTupleIsFree (.ref z)) ?_
 unfold Builtin.SmallTypes.ownedTupleIsFree
 refine wpAny_bind (wpAny_field hz rfl (x:=.none) rfl (wpAny_pure ?_))
 refine wpAny_bind (m:=rule "zip.__next__.owned-tuple-again") (wpAny_rule ?_)
 refine wpAny_bind (m:=field (.ref z) 4) (wpAny_field hz rfl (x:=.ref TO) rfl ?_)
 refine wpAny_bind (m:=setField (.ref z) 0 .ellipsis) (wpAny_setField hz rfl (by simp) ?_)
 have sb1:=Heap.SameBut.update s.heap z (Obj.mapFields fun x_1=>x_1.setIfInBounds 0 Value.ellipsis)
 have g1:(s.heap.update z (Obj.mapFields fun x_1=>x_1.setIfInBounds 0 Value.ellipsis)).get? z=some { cls:=Value.type "zip",data:=Data.fields #[.ellipsis,Value.bool false,Value.bool false,Value.ref TI,Value.ref TO] }:=Heap.get?_update_self _ hz (Obj.isFreed_of_fields (Obj.data_mapFields rfl _))
 generalize s.heap.update z (Obj.mapFields fun x_1=>x_1.setIfInBounds 0 Value.ellipsis)=h1' at *
 refine wpAny_bind ?_
 rw [show (#[Value.ref i1,Value.ref i2].toList.zipIdx:List (Value × Nat))=[(.ref i1,0),(.ref i2,1)] from rfl,List.forIn_cons]
 dsimp only
 have it1:h1'.IsTupleIter i1 l1 k:=by obtain ⟨o,ho,r⟩:=h1;exact ⟨o,(sb1.2 i1 D.i1z).trans ho,r⟩
 have tp1:h1'.IsTuple l1 xs:=by obtain ⟨o,ho,r⟩:=p1;exact ⟨o,(sb1.2 l1 D.l1z).trans ho,r⟩
 refine wpAny_bind (wpAny_bind (wpAny_onRaise ?_))
 show wpAny _ _ (Builtin.SmallTypes.nextOf (.ref i1) >>= fun v=>pure (some v)) _ _ _
 refine wpAny_bind (qB (by first | exact hh | (show A.in1.handled=none;exact hh)) it1 tp1 hx fun h2' e ex2 ⟨oe,hoe,hce⟩=>?_)
 have gz2:h2'.get? z=some { cls:=Value.type "zip",data:=Data.fields #[.ellipsis,Value.bool false,Value.bool false,Value.ref TI,Value.ref TO] }:=ex2 z _ (Ne.symm D.i1z) g1
 have hez:e ≠ z:=by
  intro h
  subst h
  have hoe':h2'.get? e=some oe:=hoe
  rw [gz2] at hoe'
  cases hoe'
  exact absurd (show Value.type "zip"=Value.type "StopIteration" from hce) (by decide)
 refine wpAny_setField gz2 rfl (by simp) ?_
 have sb3:=Heap.SameBut.update h2' z (Obj.mapFields fun x_1=>x_1.setIfInBounds 0 Value.none)
 dsimp only
 generalize h2'.update z (Obj.mapFields fun x_1=>x_1.setIfInBounds 0 Value.none)=h3' at *
 refine wpAny_bind (wpAny_isInstance (T:="StopIteration") (b:=true) ⟨oe,(sb3.2 e hez).trans hoe,hce⟩ isSubtype_stop ?_)
 refine wpAny_pure (hQ h3' fun c o c1 c2 c3 c4 ec=>?_)
 exact (sb3.2 c c1).trans (ex2 c o c3 ((sb1.2 c c1).trans ec))
end
open AutoSeq1 (wpAny_loadPart') in
theorem JW (l1 l2:Addr)(xs ys:Array Value)(n1 n2:Nat)(d1 d2:Option Addr)(s1 s2:Array (Option Value)) :
  Meets (Builtin.«zip.__new__» ⟨[.type "zip",.ref l1,.ref l2],[]⟩) (fun _ R s=>s.heap.get? l1=some { cls:=.type "tuple",dict:=d1,data:=.seq xs n1,slots:=s1 }/\s.heap.get? l2=some { cls:=.type "tuple",dict:=d2,data:=.seq ys n2,slots:=s2 } /\
   ∀ g1 g2 g3 g4 g5,g1=s.heap.push { cls:=.type "tuple_iterator",data:=.fields #[.ref l1,.int 0 0] }->g2=g1.push { cls:=.type "tuple_iterator",data:=.fields #[.ref l2,.int 0 0] }->g3=g2.push { cls:=.type "tuple",data:=.seq #[.ref s.heap.objs.size,.ref g1.objs.size] }->g4=g3.push { cls:=.type "tuple",data:=.seq #[.none,.none] }->g5=g4.push { cls:=.type "zip",data:=.fields #[.none,.bool false,.bool false,.ref g2.objs.size,.ref g3.objs.size] }->R (.ok (.ret (.ref g4.objs.size))) { s with heap:=g5 }):=
 .of_wp fun prog w A R s h=>by
  obtain ⟨hp,g,d,tk,os⟩:=s
  obtain ⟨hl1,hl2,h⟩:=h
  have hT1:Heap.IsTuple (Shared.heap ⟨hp,g,d,tk,os⟩) l1 xs:=⟨_,hl1,rfl,n1,rfl⟩
  have hT2:Heap.IsTuple (hp.push { cls:=.type "tuple_iterator",data:=.fields #[.ref l1,.int 0 0] }) l2 ys:=⟨_,Heap.get?_push_of_some _ hl2,rfl,n2,rfl⟩
  have hsub:isSubtype (Value.type "zip") (Value.type "zip")=pure true:=by first | exact sub_zip | rfl
  wp_walk using wpAny_loadPart' hl1,wpAny_pyIter_tuple hT1,wpAny_pyIter_tuple hT2
  exact ⟨_,rfl,h _ _ _ _ _ rfl rfl rfl rfl rfl⟩
theorem xc {P:Program}{w:World}{A:Around}{E:Value->Shared->Prop}{s:Shared}{l1 l2:Addr}{xs ys:Array Value}{Q:Value->Shared->Prop}(hT1:s.heap.IsTuple l1 xs)(hT2:s.heap.IsTuple l2 ys)
  (h:∀ h',IsZip h' (s.heap.objs.size+4) (s.heap.objs.size+2) (s.heap.objs.size+3) .none->IsPair h' (s.heap.objs.size+2) (.ref s.heap.objs.size) (.ref (s.heap.objs.size+1))->IsPair h' (s.heap.objs.size+3) .none .none->h'.IsTupleIter s.heap.objs.size l1 0->h'.IsTupleIter (s.heap.objs.size+1) l2 0->(∀ b o,s.heap.get? b=some o->h'.get? b=some o)->Q (.ref (s.heap.objs.size+4)) { s with heap:=h' }) :
  wpAny (model P w) A (call (.type "zip") [.ref l1,.ref l2]) Q E s:=by
 obtain ⟨⟨c1,d1,dt1,sl1⟩,hl1,hc1,n1,hd1⟩:=hT1
 replace hc1:c1=.type "tuple":=hc1
 replace hd1:dt1=.seq xs n1:=hd1
 subst hc1 hd1
 obtain ⟨⟨c2,d2,dt2,sl2⟩,hl2,hc2,n2,hd2⟩:=hT2
 replace hc2:c2=.type "tuple":=hc2
 replace hd2:dt2=.seq ys n2:=hd2
 subst hc2 hd2
 refine callType_new F.called_zip (by decide) (F.typeCall_zip_2 _ _) (F.newCall_zip_2 _ _) (fun obj=>F.args_object_init_3 obj _ _) F.entry_zip_new (JW l1 l2 xs ys n1 n2 d1 d2 sl1 sl2) ⟨hl1,hl2,?_⟩
 intro g1 g2 g3 g4 g5 e1 e2 e3 e4 e5
 have z1:g1.objs.size=s.heap.objs.size+1:=by rw [e1,Heap.size_push]
 have z2:g2.objs.size=s.heap.objs.size+2:=by rw [e2,Heap.size_push,z1]
 have z3:g3.objs.size=s.heap.objs.size+3:=by rw [e3,Heap.size_push,z2]
 have z4:g4.objs.size=s.heap.objs.size+4:=by rw [e4,Heap.size_push,z3]
 have k1:∀ b o,s.heap.get? b=some o->g1.get? b=some o:=fun b o x=>by rw [e1];exact Heap.get?_push_of_some _ x
 have k2:∀ b o,g1.get? b=some o->g2.get? b=some o:=fun b o x=>by rw [e2];exact Heap.get?_push_of_some _ x
 have k3:∀ b o,g2.get? b=some o->g3.get? b=some o:=fun b o x=>by rw [e3];exact Heap.get?_push_of_some _ x
 have k4:∀ b o,g3.get? b=some o->g4.get? b=some o:=fun b o x=>by rw [e4];exact Heap.get?_push_of_some _ x
 have k5:∀ b o,g4.get? b=some o->g5.get? b=some o:=fun b o x=>by rw [e5];exact Heap.get?_push_of_some _ x
 have p1:g1.get? s.heap.objs.size=some { cls:=.type "tuple_iterator",data:=.fields #[.ref l1,.int 0 0] }:=by rw [e1];exact Heap.get?_push_size _ rfl
 have p2:g2.get? (s.heap.objs.size+1)=some { cls:=.type "tuple_iterator",data:=.fields #[.ref l2,.int 0 0] }:=by
  have:=Heap.get?_push_size g1 (o:={ cls:=.type "tuple_iterator",data:=.fields #[.ref l2,.int 0 0] }) rfl
  rw [z1] at this;rw [e2];exact this
 have p3:g3.get? (s.heap.objs.size+2)=some { cls:=.type "tuple",data:=.seq #[.ref s.heap.objs.size,.ref (s.heap.objs.size+1)] }:=by
  have:=Heap.get?_push_size g2 (o:={ cls:=.type "tuple",data:=.seq #[.ref s.heap.objs.size,.ref g1.objs.size] }) rfl
  rw [z2] at this;rw [e3,this,z1]
 have p4:g4.get? (s.heap.objs.size+3)=some { cls:=.type "tuple",data:=.seq #[.none,.none] }:=by
  have:=Heap.get?_push_size g3 (o:={ cls:=.type "tuple",data:=.seq #[.none,.none] }) rfl
  rw [z3] at this;rw [e4,this]
 have p5:g5.get? (s.heap.objs.size+4)=some { cls:=.type "zip",data:=.fields #[.none,.bool false,.bool false,.ref (s.heap.objs.size+2),.ref (s.heap.objs.size+3)] }:=by
  have:=Heap.get?_push_size g4 (o:={ cls:=.type "zip",data:=.fields #[.none,.bool false,.bool false,.ref g2.objs.size,.ref g3.objs.size] }) rfl
  rw [z4] at this;rw [e5,this,z2,z3]
 show _/\_
 rw [z4]
 exact ⟨⟨_,p5,rfl⟩,h _ p5 (k5 _ _ (k4 _ _ p3)) (k5 _ _ p4) ⟨_,k5 _ _ (k4 _ _ (k3 _ _ (k2 _ _ p1))),rfl,rfl⟩ ⟨_,k5 _ _ (k4 _ _ (k3 _ _ p2)),rfl,rfl⟩ fun b o x=>k5 _ _ (k4 _ _ (k3 _ _ (k2 _ _ (k1 _ _ x))))⟩
noncomputable def Yn (K:PySem.W.Frag)(a b:Addr):It:=
 ⟨fun i H=>∃ xs ys x y,SqT K H a xs/\SqT K H b ys/\xs[i]?=some x/\ys[i]?=some y,fun i H z H'=>∃ p x y,H p=none/\z=.ref p/\(∀ xs,SqT K H a xs->xs[i]?=some x)/\(∀ ys,SqT K H b ys->ys[i]?=some y)/\H'=upd H p (.tup [x,y]),
  fun i H=>∃ xs,SqT K H a xs/\xs.length<=i⟩
theorem ZP {P:Program}{w:World}{K:PySem.W.Frag}{es:List Expr}{kt:Nat}{tp:Pos}(l1 l2 z TI TO i1 i2:Addr)(D:ZipApart z TI TO i1 i2 l1 l2) :
  yb P w K (.Tuple es kt tp) (Yn K l1 l2) [z,TI,TO,i1,i2] z (fun i h=>IsZip h z TI TO .none/\IsPair h TI (.ref i1) (.ref i2)/\(∃ a b,IsPair h TO a b)/\h.IsTupleIter i1 l1 i/\h.IsTupleIter i2 l2 i) where
 mem:=by simp
 obj:=fun i h st b hb=>by
  obtain ⟨hz,hTI,⟨a,c,hTO⟩,⟨o1,e1,c1,d1⟩,⟨o2,e2,c2,d2⟩⟩:=st
  simp only [List.mem_cons,List.not_mem_nil,or_false] at hb
  rcases hb with rfl | rfl | rfl | rfl | rfl
  ·exact ⟨_,hz,fun v q=>by have q':Data.fields _=Data.cell v:=q;cases q'⟩
  ·exact ⟨_,hTI,fun v q=>by have q':Data.seq _ _=Data.cell v:=q;cases q'⟩
  ·exact ⟨_,hTO,fun v q=>by have q':Data.seq _ _=Data.cell v:=q;cases q'⟩
  ·exact ⟨o1,e1,fun v q=>by rw [d1] at q;cases q⟩
  ·exact ⟨o2,e2,fun v q=>by rw [d2] at q;cases q⟩
 keep:=fun i h h' st k=>by
  obtain ⟨hz,hTI,⟨a,c,hTO⟩,h1,h2⟩:=st
  exact ⟨k _ (by simp) _ hz,k _ (by simp) _ hTI,⟨a,c,k _ (by simp) _ hTO⟩,h1.at fun o e=>k _ (by simp) o e,h2.at fun o e=>k _ (by simp) o e⟩
 item:=by
  intro X hP hw hK hc i pins s σ H E I hf st hg
  subst hP hw hK
  obtain ⟨hz,hTI,⟨a,c,hTO⟩,h1,h2⟩:=st
  obtain ⟨xs,ys,x,y,hq1,hq2,hx,hy⟩:=hg
  obtain ⟨its1,rv1,p1,hz1⟩:=I.tuple hq1
  obtain ⟨its2,rv2,p2,hz2⟩:=I.tuple hq2
  obtain ⟨u,hu,ru⟩:=rv1.get hx
  obtain ⟨v,hv,rvv⟩:=rv2.get hy
  refine xD D hz hTI hTO h1 h2 p1 p2 (x:=u) (y:=v) (by simpa using hu) (by simpa using hv) fun g1 b1 b2 b3 b4 b5 b6 hk=>?_
  refine ⟨.ref s.heap.objs.size,rfl,wpAny_letOwnedTupleGo_zip b1 fun g2 hz2' hs2=>?_⟩
  replace hs2:Heap.SameBut z g1 g2:=hs2
  have zlt:z<s.heap.objs.size:=Heap.lt_size hz
  have I2:Inv X pins σ (upd H s.heap.objs.size (.tup [x,y])) { s with heap:=g2,toks:=s.toks }:=by
   refine I.yieldTup (us:=[u,v]) hf (fun b o hb e=>?_) (Nat.le_refl _) ((hs2.2 _ (Nat.ne_of_gt zlt)).trans b5) (.cons ru (.cons rvv .nil)) (by show 2<=sizeLine;decide)
   simp only [List.mem_cons,List.not_mem_nil,or_false,not_or] at hb
   exact (hs2.2 b hb.1).trans (hk b o hb.1 hb.2.2.1 hb.2.2.2.1 hb.2.2.2.2 e)
  refine ⟨.ref s.heap.objs.size,_,I2,rfl,⟨s.heap.objs.size,x,y,I.hok.fresh (Nat.le_refl _),rfl,fun xs' h'=>by rw [I.tuple_inj h' hq1];exact hx,fun ys' h'=>by rw [I.tuple_inj h' hq2];exact hy,rfl⟩,
   ⟨hz2',(hs2.2 _ D.TIz).trans (hk _ _ D.TIz D.TITO D.TIi1 D.TIi2 hTI),⟨_,_,(hs2.2 _ D.TOz).trans b2⟩,b3.extBut hs2.extBut D.i1z,b4.extBut hs2.extBut D.i2z⟩,fun b hb=>?_⟩
  have hlt:b<s.heap.objs.size:=by
   simp only [List.mem_cons,List.not_mem_nil,or_false] at hb
   rcases hb with rfl | rfl | rfl | rfl | rfl
   ·exact zlt
   ·exact Heap.lt_size hTI
   ·exact Heap.lt_size hTO
   ·obtain ⟨o,e,_⟩:=h1;exact Heap.lt_size e
   ·obtain ⟨o,e,_⟩:=h2;exact Heap.lt_size e
  rw [ze (Nat.ne_of_lt hlt)]
  exact (hf b hb).1
 done:=by
  intro X hP hw hK hc i pins s σ H E I hf st hg
  subst hP hw hK
  obtain ⟨hz,hTI,⟨a,c,hTO⟩,h1,h2⟩:=st
  obtain ⟨xs,hq1,hend⟩:=hg
  obtain ⟨its1,rv1,p1,hz1⟩:=I.tuple hq1
  have l1:=rv1.length
  refine vm (I.ok.hd hc) D hz hTI h1 p1 (by simp;omega) fun h' hk=>⟨rfl,I.turnedL (tk:=s.toks) hf fun b o hb e=>?_⟩
  simp only [List.mem_cons,List.not_mem_nil,or_false,not_or] at hb
  exact hk b o hb.1 hb.2.2.1 hb.2.2.2.1 hb.2.2.2.2 e
 self:=fun _ _ _ _ _ st h=>wpAny_pyIter_zip st.1 h
section
variable {X:Cx}{es:List Expr}{kt:Nat}{tp:Pos}
noncomputable def v9 (K:PySem.W.Frag)(ta:TA):TI:=fun σ H R=>ta σ H fun vs H1=>∃ a b,vs=[.ref a,.ref b]/\(((∃ xs,SqL K H1 a xs)/\(∃ ys,SqL K H1 b ys)/\R (Itz K a b) H1) \/ ((∃ xs,SqT K H1 a xs)/\(∃ ys,SqT K H1 b ys)/\R (Yn K a b) H1))
theorem J8 {e1 e2:Expr}{ta:TA}{p pos:Pos}(hg:Gl X "zip")(hm:X.mg "zip"=none)(ha:PA X [e1,e2] ta)(hs:starEach [e1,e2] X.env=[(false,eval e1 X.env),(false,eval e2 X.env)]:=by rfl)(hs2:starEach [e2] X.env=[(false,eval e2 X.env)]:=by rfl) :
  PI X (.Tuple es kt tp) (.Call (.Name "zip" p) [e1,e2] [] pos) (v9 X.K ta):=by
 intro pins s σ H R I h
 refine Call_ (qN I hg hm xo (PyProof.Rows.callWith_type1 (thn (ha pos pins s σ H _ I h) fun us s1 ⟨vs,H1,I1,r1,q1⟩=>?_) (by rw [hs,hs2]) (by rw [hs2];rfl)))
 obtain ⟨a,b,e,q1⟩:=q1
 subst e
 obtain ⟨u,v,rfl,ru,rv⟩:=xl r1
 cases ru
 cases rv
 rcases q1 with ⟨⟨xs,hq1⟩,⟨ys,hq2⟩,q⟩ | ⟨⟨xs,hq1⟩,⟨ys,hq2⟩,q⟩
 ·obtain ⟨its1,rv1,p1,hz1⟩:=I1.list hq1
  obtain ⟨its2,rv2,p2,hz2⟩:=I1.list hq2
  have la:a<s1.heap.objs.size:=by obtain ⟨o,e,_⟩:=p1.isList;exact Heap.lt_size e
  have lb:b<s1.heap.objs.size:=by obtain ⟨o,e,_⟩:=p2.isList;exact Heap.lt_size e
  refine call_zip_2 p1.isList p2.isList fun h' b1 b2 b3 b4 b5 hsz hk=>wpAny_pyIter_zip b1 ?_
  have I2:Inv X pins σ H1 { s1 with heap:=h' }:=I1.kept (t':=s1.toks) hk
  refine ⟨s1.heap.objs.size+4,[s1.heap.objs.size+4,s1.heap.objs.size+2,s1.heap.objs.size+3,s1.heap.objs.size,s1.heap.objs.size+1],_,_,H1,rfl,I2,QW a b _ _ _ _ _ (zipApart_new la lb),⟨b1,b2,⟨_,_,b3⟩,b4,b5⟩,fun c hb=>?_,q⟩
  have hb':s1.heap.objs.size<=c:=by
   simp only [List.mem_cons,List.not_mem_nil,or_false] at hb
   rcases hb with rfl | rfl | rfl | rfl | rfl <;> first | exact Nat.le_refl _ | exact Nat.le_add_right _ _
  exact I1.fpOk hb' (I1.hok.fresh hb')
 ·obtain ⟨its1,rv1,p1,hz1⟩:=I1.tuple hq1
  obtain ⟨its2,rv2,p2,hz2⟩:=I1.tuple hq2
  have la:a<s1.heap.objs.size:=by obtain ⟨o,e,_⟩:=p1;exact Heap.lt_size e
  have lb:b<s1.heap.objs.size:=by obtain ⟨o,e,_⟩:=p2;exact Heap.lt_size e
  refine xc p1 p2 fun h' b1 b2 b3 b4 b5 hk=>wpAny_pyIter_zip b1 ?_
  have I2:Inv X pins σ H1 { s1 with heap:=h' }:=I1.kept (t':=s1.toks) hk
  refine ⟨s1.heap.objs.size+4,[s1.heap.objs.size+4,s1.heap.objs.size+2,s1.heap.objs.size+3,s1.heap.objs.size,s1.heap.objs.size+1],_,_,H1,rfl,I2,ZP a b _ _ _ _ _ (zipApart_new la lb),⟨b1,b2,⟨_,_,b3⟩,b4,b5⟩,fun c hb=>?_,q⟩
  have hb':s1.heap.objs.size<=c:=by
   simp only [List.mem_cons,List.not_mem_nil,or_false] at hb
   rcases hb with rfl | rfl | rfl | rfl | rfl <;> first | exact Nat.le_refl _ | exact Nat.le_add_right _ _
  exact I1.fpOk hb' (I1.hok.fresh hb')
end
section
variable {X:Cx}{e st:Expr}{te:TE}{lo hi:Option Expr}{tl th ts:TO}{p2 pos:Pos}
end
section
variable {X:Cx}
variable {o e:Expr}{es:List Expr}{to:TE}{t:TA}{name:Str}{apos cpos:Pos}{T id:String}{r:V->List V->Hp->VK->Prop}{K:PySem.W.Frag}
theorem VE (hK:X.K=K)(pa:PlainAttrs T)(slot:Slot T name id)(hty:typeOf (.builtin id)=pure (.type "method_descriptor"))(hm:MtR X id r)(ho:PE X o to)(ha:PA X (e :: es) t)
  (h1:attributeBase o name X.env (eval o X.env)=eval o X.env:=by rfl)
  (h2:((backTo cpos (starEach (e :: es) X.env)).all (fun x=>!x.1) && (backToKw cpos (keywordEach [] X.env)).all (fun x=>x.1.isSome) && decide ((e :: es).length+([]:List Keyword).length+(if ([]:List Keyword).isEmpty then 0 else 1)<30))=true:=by rfl)
  (h3:(apos.endLine == cpos.line)=true:=by rfl) (h4:starEach (e :: es) X.env=(false,eval e X.env) :: starEach es X.env:=by rfl) (h5:(backTo cpos (starEach es X.env)).any (·.1)=false:=by rfl) :
  PE X (.Call (.Attribute o name apos) (e :: es) [] cpos) (tBM K T r to t):=by
 subst hK
 exact XG pa slot hty hm ho ha h1 h2 h3 h4 h5
end
section
variable {X:Cx}{tg:Expr}
end
inductive Dd where
 | take (p:Nat) | move (p g:Nat) | lay (g:Nat)
noncomputable abbrev RS:=List (Option Int) × Option Int × List Int
noncomputable def inc (mv:List Int)(x:Int):List Int:=mv.set x.toNat (mv.getD x.toNat 0+1)
inductive Do:Dd->RS->RS->Prop
 | take {p:Nat} {row:List (Option Int)} {mv:List Int} {x:Int}:row[p]?=some (some x)->Do (.take p) (row,none,mv) (row.set p none,some x,inc mv x)
 | move {p g:Nat} {row:List (Option Int)} {h:Option Int} {mv:List Int} {x:Int}:row[p]?=some (some x)->row[g]?=some none->Do (.move p g) (row,h,mv) ((row.set p none).set g (some x),h,inc mv x)
 | lay {g:Nat} {row:List (Option Int)} {mv:List Int} {x:Int}:row[g]?=some none->Do (.lay g) (row,some x,mv) (row.set g (some x),none,inc mv x)
inductive Dos:List Dd->RS->RS->Prop
 | nil {s:RS}:Dos [] s s
 | cons {d:Dd} {l:List Dd} {s t u:RS}:Do d s t->Dos l t u->Dos (d :: l) s u
section
variable {X:Cx}{K:PySem.W.Frag}
end
section
variable {X:Cx}
end
section
variable {X:Cx}
end
section
variable {X:Cx}{e st:Expr}{te:TE}{ts:TO}{p2 pos:Pos}
end
section
variable {X:Cx}
end
noncomputable def AtM (K:PySem.W.Frag)(C:Addr)(m qual:Str)(st:Stmt):Prop:=∃ f fd,Fun K m qual st f fd/\Af K C m f
section
variable {X:Cx}{k:Nat}{C:Addr}{m x:Str}{ps:List Str}{sp:Sp}{p pos apos:Pos}{o e:Expr}{es:List Expr}{t:TA}{to:TE}
end
structure KD (K:PySem.W.Frag)(w:World)(a:Addr)(kvs:List (Key × V)):Prop where
 ex:∃ es ep,K.lookup a=some ⟨.type "dict",none,.dict es ep,#[]⟩/\∀ P:Program,PySem.KeysOf (zv P w) es/\∃ vs,KV kvs vs/\Pairs (zv P w) es.toList vs/\(vs.map (·.1)).Nodup
 ns:(a == sysModules)=false
section
variable {X:Cx}{e:Expr}{ty:TE}{p apos cpos:Pos}{x:Str}{a:Addr}{kvs:List (Key × V)}
end
section
variable {X:Cx}
end
theorem Ai {K:PySem.W.Frag}{C f:Addr}{m qual:Str}{st:Stmt}{oc kV dc pm cd ct:Value}{od an:Option Addr}{sl:Array (Option Value)}(a1:PySem.W.findIn K (.ref C) m=some (some (.ref f)))(i1:PySem.W.isFn K (.ref f)=true)
  (l1:K.lookup f=some ⟨oc,od,.func (PySem.W.fnOf m qual (qD st) (zX st) (zj st) .none kV dc pm an cd ct),sl⟩) (c1:PySem.W.codeIn K cd qual=true) (k1:PySem.W.keepIn K (.ref f)=true):AtM K C m qual st:=⟨f,_,Z9 l1 c1 k1,⟨a1,i1,k1⟩⟩
section
variable {X:Cx}
end
structure ScG (X:Cx)(ts:List Nat)(scope:Scope):Prop where
 kind:scope.kind=.function
 cell:∀ y ∈ scope.names,y.2=.cell->scope.names.lookup y.1=some .cell
 loc:∀ y ∈ scope.names,y.2=.local->scope.names.lookup y.1=some .local
 free:∀ y ∈ scope.names,y.2=.free->X.env.kindOf y.1=some .cell \/ X.env.kindOf y.1=some .free
 ts:∀ (i:Nat) x,X.N[i]?=some x->scope.names.lookup x=some .local \/ scope.names.lookup x=some .cell->i ∈ ts
section
variable {X:Cx}{ts:List Nat}{scope:Scope}{pins:List (Addr × Obj)}{σ:St}{H:Hp}{s:Shared}{fp:List Addr}
end
section
variable {X:Cx}{ts:List Nat}{scope:Scope}{tg iter elt:Expr}{ifs:List Expr}{wi:TI}{g:TG}{tt:TT}{te:TE}{pos:Pos}
end
section
variable {X:Cx}
end
inductive Dat where
 | non | bl (b:Bool) | int (i:Int) | str (x:Str) | ty (n:String) | lst (l:List Dat) | tup (l:List Dat) | rng (lo hi c:Int) | scr (K:PySem.W.Frag) (l:List Int)
inductive AV where
 | d (x:Dat) | ref (a:Addr)
inductive MO where
 | lst (l:List AV) | dK (kvs:List (Key × AV)) | ins (C:Addr) (fs:List (Str × AV)) | exc (C:Addr) (fs:List (Str × V))
noncomputable def W6 (a C:Addr)(d:Option Addr):HO:=.ext fun h=>∃ o,h.get? a=some o/\o.cls=.ref C/\o.dict=d/\∃ vs,o.data=.fields vs
noncomputable abbrev MH:=Addr->Option MO
noncomputable abbrev ASt:=List (Option AV)
noncomputable def mup (M:MH)(a:Addr)(o:MO):MH:=fun b=>if b=a then some o else M b
theorem zf {M:MH}{a:Addr}{o:MO}:mup M a o a=some o:=if_pos rfl
theorem zt {M:MH}{a b:Addr}{o:MO}(h:b ≠ a):mup M a o b=M b:=if_neg h
theorem Kq {M:MH}{a:Addr}{o u:MO}:mup (mup M a o) a u=mup M a u:=by
 funext b;unfold mup;split <;> rfl
noncomputable abbrev Own:=Addr->Prop
inductive Rep (H:Hp) (O:Own):V->Dat->Prop
 | non:Rep H O .non .non
 | bl {b:Bool}:Rep H O (.bl b) (.bl b)
 | int {i:Int}:Rep H O (.int i) (.int i)
 | str {x:Str}:Rep H O (.str x) (.str x)
 | ty {n:String}:Rep H O (.ty n) (.ty n)
 | lst {a:Addr} {xs:List V} {l:List Dat}:¬ O a->H a=some (.lst xs)->xs.length=l.length->(∀ (i:Nat) x d,xs[i]?=some x->l[i]?=some d->Rep H O x d)->Rep H O (.ref a) (.lst l)
 | tup {a:Addr} {xs:List V} {l:List Dat}:¬ O a->H a=some (.tup xs)->xs.length=l.length->(∀ (i:Nat) x d,xs[i]?=some x->l[i]?=some d->Rep H O x d)->Rep H O (.ref a) (.tup l)
 | rng {a:Addr} {lo hi c:Int}:¬ O a->H a=some (yM a lo hi c)->Rep H O (.ref a) (.rng lo hi c)
 | scr {a:Addr} {K:PySem.W.Frag} {l:List Int}:¬ O a->Rd H a (.lst (l.map V.int))->Rep H O (.ref a) (.scr K l)
 | scrK {a:Addr} {K:PySem.W.Frag} {l:List Int}:SqL K (fun _=>none) a (l.map V.int)->Rep H O (.ref a) (.scr K l)
noncomputable def Zo (H:Hp)(O:Own)(xs:List V)(l:List Dat):Prop:=xs.length=l.length/\∀ (i:Nat) x d,xs[i]?=some x->l[i]?=some d->Rep H O x d
noncomputable def zi (H:Hp)(O:Own)(M:MH)(v:V):AV->Prop
 | .d x=>Rep H O v x
 | .ref a=>v=.ref a/\M a ≠ none
noncomputable def zd (H:Hp)(O:Own)(M:MH)(xs:List V)(l:List AV):Prop:=xs.length=l.length/\∀ (i:Nat) x d,xs[i]?=some x->l[i]?=some d->zi H O M x d
noncomputable def yW {κ:Type}(H:Hp)(O:Own)(M:MH)(xs:List (κ × V))(l:List (κ × AV)):Prop:=xs.map (·.1)=l.map (·.1)/\zd H O M (xs.map (·.2)) (l.map (·.2))
noncomputable def qd (H:Hp)(O:Own)(M:MH)(a:Addr):MO->Prop
 | .lst l=>∃ xs,H a=some (.lst xs)/\zd H O M xs l
 | .dK kvs=>∃ xs,H a=some (.dK xs)/\yW H O M xs kvs
 | .ins C fs=>∃ dx xs,H a=some (.ins C dx xs)/\yW H O M xs fs/\O dx/\M dx=none/\H dx=some (.own a)
 | .exc C fs=>∃ d,H a=some (W6 a C d)/\(d=none/\fs=[] \/ ∃ dx,d=some dx/\H dx=some (.xd fs)/\O dx/\M dx=none)
structure Wf (H:Hp)(O:Own)(M:MH):Prop where
 mo:∀ a o,M a=some o->qd H O M a o
 own:∀ a,M a ≠ none->O a
 al:∀ a,O a->∃ o,H a=some o/\∀ xs,o ≠ .tup xs
theorem Wf.ne {H:Hp}{O:Own}{M:MH}(w:Wf H O M)(a:Addr)(h:O a):H a ≠ none:=by obtain ⟨o,e,_⟩:=w.al a h;rw [e];exact fun z=>nomatch z
structure Ext (H:Hp)(O:Own)(M:MH)(H':Hp)(O':Own)(M':MH):Prop where
 fix:∀ a o,¬ O a->H a=some o->H' a=some o/\¬ O' a
 prv:∀ a,O a->M a=none->H' a=H a/\O' a/\M' a=none
 mst:∀ a,M a ≠ none->M' a ≠ none
theorem Ext.refl {H:Hp}{O:Own}{M:MH}:Ext H O M H O M:=⟨fun _ _ h e=>⟨e,h⟩,fun _ h e=>⟨rfl,h,e⟩,fun _ h=>h⟩
theorem Ext.trans {H H1 H2:Hp}{O O1 O2:Own}{M M1 M2:MH}(a:Ext H O M H1 O1 M1)(b:Ext H1 O1 M1 H2 O2 M2):Ext H O M H2 O2 M2:=
 ⟨fun x o h e=>let ⟨e1,h1⟩:=a.fix x o h e;b.fix x o h1 e1,fun x h e=>by
  obtain ⟨e1,h1,n1⟩:=a.prv x h e
  obtain ⟨e2,h2,n2⟩:=b.prv x h1 n1
  exact ⟨e2.trans e1,h2,n2⟩,fun x h=>b.mst x (a.mst x h)⟩
theorem Rep.imp {H H':Hp}{O O':Own}(k:∀ a o,¬ O a->H a=some o->H' a=some o/\¬ O' a){v:V}{d:Dat}(r:Rep H O v d):Rep H' O' v d:=by
 induction r with
 | non=>exact .non
 | bl=>exact .bl
 | int=>exact .int
 | str=>exact .str
 | ty=>exact .ty
 | lst h e l _ ih=>exact .lst (k _ _ h e).2 (k _ _ h e).1 l ih
 | tup h e l _ ih=>exact .tup (k _ _ h e).2 (k _ _ h e).1 l ih
 | rng h e=>exact .rng (k _ _ h e).2 (k _ _ h e).1
 | scr h e=>
  rcases e with e | ⟨o,e⟩
  ·exact .scr (k _ _ h e).2 (.inl (k _ _ h e).1)
  ·exact .scr (k _ _ h e).2 (.inr ⟨o,(k _ _ h e).1⟩)
 | scrK h=>exact .scrK h
theorem KW {H:Hp}{O:Own}{K:PySem.W.Frag}{v:V}{l:List Int}(r:Rep H O v (.scr K l)):∃ a,v=.ref a/\SqL K H a (l.map V.int):=by
 cases r with
 | @scr a _ _ _ h=>exact ⟨a,rfl,.inl h⟩
 | @scrK a _ _ h=>
  rcases h with (h | ⟨o,h⟩) | h
  ·cases h
  ·cases h
  ·exact ⟨a,rfl,.inr h⟩
theorem K1 {H:Hp}{O:Own}{K:PySem.W.Frag}{a:Addr}{l:List Int}(ho:∀ a,¬ O a)(h:SqL K H a (l.map V.int)):Rep H O (.ref a) (.scr K l):=by
 rcases h with h | h
 ·exact .scr (ho a) h
 ·exact .scrK (.inr h)
theorem Rep.ext {H H':Hp}{O O':Own}{M M':MH}(k:Ext H O M H' O' M'){v:V}{d:Dat}(r:Rep H O v d):Rep H' O' v d:=r.imp k.fix
theorem zi.ext {H H':Hp}{O O':Own}{M M':MH}(k:Ext H O M H' O' M'){v:V}{x:AV}(r:zi H O M v x):zi H' O' M' v x:=by
 cases x with
 | d x=>exact Rep.ext k r
 | ref a=>exact ⟨r.1,k.mst a r.2⟩
theorem zd.ext {H H':Hp}{O O':Own}{M M':MH}(k:Ext H O M H' O' M'){xs:List V}{l:List AV}(r:zd H O M xs l):zd H' O' M' xs l:=⟨r.1,fun i x d e1 e2=>(r.2 i x d e1 e2).ext k⟩
theorem yW.ext {κ:Type}{H H':Hp}{O O':Own}{M M':MH}(k:Ext H O M H' O' M'){xs:List (κ × V)}{l:List (κ × AV)}(r:yW H O M xs l):yW H' O' M' xs l:=⟨r.1,r.2.ext k⟩
theorem zd.nil {H:Hp}{O:Own}{M:MH}:zd H O M [] []:=⟨rfl,fun i x d e=>by simp at e⟩
theorem zd.cons {H:Hp}{O:Own}{M:MH}{x:V}{d:AV}{xs:List V}{l:List AV}(h:zi H O M x d)(r:zd H O M xs l):zd H O M (x :: xs) (d :: l):=
 ⟨by simp [r.1],fun i y e h1 h2=>by
  cases i with
  | zero=>simp at h1 h2;subst h1 h2;exact h
  | succ i=>simp at h1 h2;exact r.2 i y e h1 h2⟩
theorem zd.head {H:Hp}{O:Own}{M:MH}{x:V}{d:AV}{xs:List V}{l:List AV}(r:zd H O M (x :: xs) (d :: l)):zi H O M x d/\zd H O M xs l:=
 ⟨r.2 0 x d rfl rfl,by have:=r.1;simpa using this,fun i y e h1 h2=>r.2 (i+1) y e (by simpa using h1) (by simpa using h2)⟩
theorem zd.nil_inv {H:Hp}{O:Own}{M:MH}{xs:List V}(r:zd H O M xs []):xs=[]:=List.length_eq_zero_iff.mp r.1
theorem zd.cons_inv {H:Hp}{O:Own}{M:MH}{xs:List V}{d:AV}{l:List AV}(r:zd H O M xs (d :: l)):∃ x r',xs=x :: r'/\zi H O M x d/\zd H O M r' l:=by
 cases xs with
 | nil=>have:=r.1;simp at this
 | cons x r'=>exact ⟨x,r',rfl,r.head⟩
theorem zd.append {H:Hp}{O:Own}{M:MH}{xs ys:List V}{l m:List AV}(a:zd H O M xs l)(b:zd H O M ys m):zd H O M (xs ++ ys) (l ++ m):=
 ⟨by rw [List.length_append,List.length_append,a.1,b.1],fun i x d h1 h2=>by
  by_cases c:i<xs.length
  ·rw [List.getElem?_append_left c] at h1
   rw [List.getElem?_append_left (by rw [<- a.1];exact c)] at h2
   exact a.2 i x d h1 h2
  ·rw [List.getElem?_append_right (by omega)] at h1
   rw [List.getElem?_append_right (by rw [<- a.1];omega),<- a.1] at h2
   exact b.2 _ x d h1 h2⟩
theorem zd.snoc {H:Hp}{O:Own}{M:MH}{xs:List V}{l:List AV}{x:V}{d:AV}(a:zd H O M xs l)(b:zi H O M x d):zd H O M (xs ++ [x]) (l ++ [d]):=a.append (.cons b .nil)
theorem zd.set {H:Hp}{O:Own}{M:MH}{xs:List V}{l:List AV}{x:V}{d:AV}(a:zd H O M xs l)(b:zi H O M x d)(j:Nat):zd H O M (xs.set j x) (l.set j d):=
 ⟨by rw [List.length_set,List.length_set,a.1],fun i y e h1 h2=>by
  rw [List.getElem?_set] at h1 h2
  by_cases c:j=i
  ·rw [if_pos c] at h1 h2
   split at h1
   ·split at h2
    ·cases h1;cases h2;exact b
    ·cases h2
   ·cases h1
  ·rw [if_neg c] at h1 h2
   exact a.2 i y e h1 h2⟩
theorem zd.get {H:Hp}{O:Own}{M:MH}{xs:List V}{l:List AV}(a:zd H O M xs l){i:Nat}{d:AV}(h:l[i]?=some d):∃ x,xs[i]?=some x/\zi H O M x d:=by
 have hi:=(List.getElem?_eq_some_iff.mp h).1
 have hx:i<xs.length:=by rw [a.1];exact hi
 exact ⟨xs[i],by simp [hx],a.2 i _ _ (by simp [hx]) h⟩
theorem Zo.av {H:Hp}{O:Own}{M:MH}{xs:List V}{l:List Dat}(r:Zo H O xs l):zd H O M xs (l.map .d):=
 ⟨by rw [List.length_map];exact r.1,fun i x d h1 h2=>by
  rw [List.getElem?_map] at h2
  cases e:l[i]? with
  | none=>rw [e] at h2;cases h2
  | some y=>rw [e] at h2;cases h2;exact r.2 i x y h1 e⟩
theorem zd.pure {H:Hp}{O:Own}{M:MH}{xs:List V}{l:List Dat}(r:zd H O M xs (l.map .d)):Zo H O xs l:=
 ⟨by have:=r.1;rwa [List.length_map] at this,fun i x d h1 h2=>r.2 i x (.d d) h1 (by rw [List.getElem?_map,h2];rfl)⟩
theorem Wf.fresh {H:Hp}{O:Own}{M:MH}(w:Wf H O M){p:Addr}(h:H p=none):¬ O p/\M p=none:=by
 have:¬ O p:=fun z=>w.ne p z h
 exact ⟨this,by
  cases e:M p with
  | none=>rfl
  | some o=>exact absurd (w.own p (by rw [e];exact fun z=>nomatch z)) this⟩
theorem qd.ext {H H':Hp}{O O':Own}{M M':MH}(k:Ext H O M H' O' M'){a:Addr}{o:MO}(e:H' a=H a)(r:qd H O M a o):qd H' O' M' a o:=by
 cases o with
 | lst l=>obtain ⟨xs,h,r⟩:=r;exact ⟨xs,e.trans h,r.ext k⟩
 | dK l=>obtain ⟨xs,h,r⟩:=r;exact ⟨xs,e.trans h,r.ext k⟩
 | ins C fs=>obtain ⟨dx,xs,h,r,q1,q2,q3⟩:=r;obtain ⟨x1,x2,x3⟩:=k.prv dx q1 q2;exact ⟨dx,xs,e.trans h,r.ext k,x2,x3,x1.trans q3⟩
 | exc C fs=>
  obtain ⟨d,h,r⟩:=r
  refine ⟨d,e.trans h,?_⟩
  rcases r with r | ⟨dx,e1,h1,h2,h3⟩
  ·exact .inl r
  ·obtain ⟨x1,x2,x3⟩:=k.prv dx h2 h3;exact .inr ⟨dx,e1,x1.trans h1,x2,x3⟩
theorem qo {H:Hp}{O:Own}{M:MH}(w:Wf H O M){p:Addr}(h:H p=none)(o:HO):Ext H O M (upd H p o) O M:=
 ⟨fun a u ha e=>⟨by rw [ze (zg e h)];exact e,ha⟩,fun a ha e=>⟨ze (fun z=>w.ne a ha (by rw [z];exact h)),ha,e⟩,fun _ h=>h⟩
theorem yq {H:Hp}{O:Own}{M:MH}(w:Wf H O M){p:Addr}(h:H p=none)(o:HO):Wf (upd H p o) O M:=
 ⟨fun a mo e=>qd.ext (qo w h o) (ze (fun z=>by rw [z,(w.fresh h).2] at e;cases e)) (w.mo a mo e),w.own,fun a ha=>by
  have:a ≠ p:=fun z=>w.ne a ha (by rw [z];exact h)
  rw [ze this];exact w.al a ha⟩
noncomputable def yj (O:Own)(p:Addr):Own:=fun a=>a=p \/ O a
noncomputable def Xo (O:Own)(p:Addr):Own:=fun a=>a ≠ p/\O a
theorem wL {H:Hp}{O:Own}{M:MH}(w:Wf H O M){p:Addr}(h:H p=none)(o:HO)(mo:MO):Ext H O M (upd H p o) (yj O p) (mup M p mo):=
 ⟨fun a u ha e=>⟨by rw [ze (zg e h)];exact e,fun z=>z.elim (zg e h) ha⟩,fun a ha e=>by
  have hne:a ≠ p:=fun z=>w.ne a ha (by rw [z];exact h)
  exact ⟨ze hne,.inr ha,by rw [zt hne];exact e⟩,fun a ha=>by
  by_cases e:a=p
  ·rw [e,zf];exact fun z=>nomatch z
  ·rw [zt e];exact ha⟩
theorem Yy {H:Hp}{O:Own}{M:MH}(w:Wf H O M){p:Addr}(h:H p=none){o:HO}{mo:MO}(ho:∀ xs,o ≠ .tup xs)(r:qd (upd H p o) (yj O p) (mup M p mo) p mo):Wf (upd H p o) (yj O p) (mup M p mo):=by
 refine ⟨fun a u e=>?_,fun a ha=>?_,fun a ha=>?_⟩
 ·by_cases c:a=p
  ·subst c;rw [zf] at e;cases e;exact r
  ·rw [zt c] at e
   exact qd.ext (wL w h o mo) (ze c) (w.mo a u e)
 ·by_cases c:a=p
  ·exact .inl c
  ·rw [zt c] at ha;exact .inr (w.own a ha)
 ·by_cases c:a=p
  ·rw [c,zl];exact ⟨o,rfl,ho⟩
  ·rw [ze c];exact w.al a (ha.resolve_left c)
theorem jG {H:Hp}{O:Own}{M:MH}(w:Wf H O M){p:Addr}(h:M p ≠ none)(o:HO)(mo:MO):Ext H O M (upd H p o) O (mup M p mo):=
 ⟨fun a u ha e=>⟨by rw [ze (fun z=>ha (by rw [z];exact w.own p h))];exact e,ha⟩,fun a ha e=>by
  have hne:a ≠ p:=fun z=>h (by rw [<- z];exact e)
  exact ⟨ze hne,ha,by rw [zt hne];exact e⟩,fun a ha=>by
  by_cases e:a=p
  ·rw [e,zf];exact fun z=>nomatch z
  ·rw [zt e];exact ha⟩
theorem Jx {H:Hp}{O:Own}{M:MH}(w:Wf H O M){p:Addr}(h:M p ≠ none){o:HO}{mo:MO}(ho:∀ xs,o ≠ .tup xs)(r:qd (upd H p o) O (mup M p mo) p mo):Wf (upd H p o) O (mup M p mo):=by
 refine ⟨fun a u e=>?_,fun a ha=>?_,fun a ha=>?_⟩
 ·by_cases c:a=p
  ·subst c;rw [zf] at e;cases e;exact r
  ·rw [zt c] at e
   exact qd.ext (jG w h o mo) (ze c) (w.mo a u e)
 ·by_cases c:a=p
  ·subst c;exact w.own a h
  ·rw [zt c] at ha;exact w.own a ha
 ·by_cases c:a=p
  ·rw [c,zl];exact ⟨o,rfl,ho⟩
  ·rw [ze c];exact w.al a ha
theorem qz {H:Hp}{O:Own}{M:MH}(w:Wf H O M){p:Addr}(h:H p=none)(o:HO):Ext H O M (upd H p o) (yj O p) M:=
 ⟨fun a u ha e=>⟨by rw [ze (zg e h)];exact e,fun z=>z.elim (zg e h) ha⟩,fun a ha e=>by
  have hne:a ≠ p:=fun z=>w.ne a ha (by rw [z];exact h)
  exact ⟨ze hne,.inr ha,e⟩,fun _ h=>h⟩
theorem xR {H:Hp}{O:Own}{M:MH}(w:Wf H O M){p:Addr}(h:H p=none)(o:HO)(ho:∀ xs,o ≠ .tup xs):Wf (upd H p o) (yj O p) M:=
 ⟨fun a mo e=>qd.ext (qz w h o) (ze (fun z=>by rw [z,(w.fresh h).2] at e;cases e)) (w.mo a mo e),fun a ha=>.inr (w.own a ha),fun a ha=>by
  by_cases c:a=p
  ·rw [c,zl];exact ⟨o,rfl,ho⟩
  ·rw [ze c];exact w.al a (ha.resolve_left c)⟩
theorem ki {H:Hp}{O:Own}{p:Addr}(hO:O p)(o:HO):∀ a u,¬ O a->H a=some u->upd H p o a=some u/\¬ O a:=fun a u ha e=>⟨by rw [ze (fun z=>ha (by rw [z];exact hO))];exact e,ha⟩
theorem zi.imp {H H':Hp}{O O':Own}{M M':MH}(k:∀ a o,¬ O a->H a=some o->H' a=some o/\¬ O' a)(hm:∀ a,M a ≠ none->M' a ≠ none){v:V}{x:AV}(r:zi H O M v x):zi H' O' M' v x:=by
 cases x with
 | d x=>exact Rep.imp k r
 | ref a=>exact ⟨r.1,hm a r.2⟩
theorem zd.imp {H H':Hp}{O O':Own}{M M':MH}(k:∀ a o,¬ O a->H a=some o->H' a=some o/\¬ O' a)(hm:∀ a,M a ≠ none->M' a ≠ none){xs:List V}{l:List AV}(r:zd H O M xs l):zd H' O' M' xs l:=⟨r.1,fun i x d e1 e2=>(r.2 i x d e1 e2).imp k hm⟩
theorem qd.imp {H H':Hp}{O O':Own}{M:MH}(k:∀ a o,¬ O a->H a=some o->H' a=some o/\¬ O' a){a:Addr}{o:MO}(e:H' a=H a)(hd:∀ dx x,O dx->M dx=none->H dx=some x->((∃ b,x=.own b) \/ ∃ fs,x=.xd fs)->H' dx=some x/\O' dx)(r:qd H O M a o):qd H' O' M a o:=by
 cases o with
 | lst l=>obtain ⟨xs,h,r⟩:=r;exact ⟨xs,e.trans h,r.imp k fun _ z=>z⟩
 | dK l=>obtain ⟨xs,h,r⟩:=r;exact ⟨xs,e.trans h,r.1,r.2.imp k fun _ z=>z⟩
 | ins C fs=>obtain ⟨dx,xs,h,r,q1,q2,q3⟩:=r;exact ⟨dx,xs,e.trans h,⟨r.1,r.2.imp k fun _ z=>z⟩,(hd dx _ q1 q2 q3 (.inl ⟨_,rfl⟩)).2,q2,(hd dx _ q1 q2 q3 (.inl ⟨_,rfl⟩)).1⟩
 | exc C fs=>
  obtain ⟨d,h,r⟩:=r
  refine ⟨d,e.trans h,?_⟩
  rcases r with r | ⟨dx,e1,h1,h2,h3⟩
  ·exact .inl r
  ·obtain ⟨x1,x2⟩:=hd dx _ h2 h3 h1 (.inr ⟨_,rfl⟩);exact .inr ⟨dx,e1,x1,x2,h3⟩
theorem vC {H:Hp}{O:Own}{M:MH}(w:Wf H O M){p:Addr}(hO:O p)(hM:M p=none){xs:List V}(hp:H p=some (.lst xs))(o:HO)(ho:∀ xs,o ≠ .tup xs):Wf (upd H p o) O M:=
 ⟨fun a mo e=>qd.imp (ki hO o) (ze (fun z=>by rw [z,hM] at e;cases e)) (fun dx x h1 _ h3 h4=>⟨by rw [ze (ww h3 hp (by rcases h4 with ⟨_,rfl⟩ | ⟨_,rfl⟩ <;> exact fun z=>nomatch z))];exact h3,h1⟩) (w.mo a mo e),w.own,fun a ha=>by
  by_cases c:a=p
  ·rw [c,zl];exact ⟨o,rfl,ho⟩
  ·rw [ze c];exact w.al a ha⟩
theorem jY {H:Hp}{O:Own}(p:Addr):∀ a u,¬ O a->H a=some u->H a=some u/\¬ Xo O p a:=fun a u ha e=>⟨e,fun z=>ha z.2⟩
theorem JR {H:Hp}{O:Own}{M:MH}(w:Wf H O M){p:Addr}(hM:M p=none){xs:List V}(hp:H p=some (.lst xs)):Wf H (Xo O p) M:=
 ⟨fun a mo e=>qd.imp (jY p) rfl (fun dx x h1 _ h3 h4=>⟨h3,⟨ww h3 hp (by rcases h4 with ⟨_,rfl⟩ | ⟨_,rfl⟩ <;> exact fun z=>nomatch z),h1⟩⟩) (w.mo a mo e),fun a ha=>⟨fun z=>ha (by rw [z];exact hM),w.own a ha⟩,fun a ha=>w.al a ha.2⟩
noncomputable abbrev AK:=AV->MH->Prop
noncomputable abbrev AE:=ASt->MH->AK->Prop
noncomputable abbrev AT:=ASt->MH->(Bool->MH->Prop)->Prop
noncomputable abbrev AA:=ASt->MH->(List AV->MH->Prop)->Prop
structure xG where
 nx:ASt->MH->Prop
 rt:AK
 bk:ASt->MH->Prop:=fun _ _=>False
 ct:ASt->MH->Prop:=fun _ _=>False
noncomputable abbrev AS:=MH->xG->ASt->MH->Prop
noncomputable abbrev AG:=AV->ASt->MH->(ASt->MH->Prop)->Prop
noncomputable abbrev AGs:=List AV->ASt->MH->(ASt->MH->Prop)->Prop
noncomputable abbrev AI:=ASt->MH->(List AV->(MH->Prop)->MH->Prop)->Prop
structure Er (H:Hp)(O:Own)(M:MH)(σ:St)(ρ:ASt):Prop where
 len:σ.length=ρ.length
 get:∀ (i:Nat) x,ρ[i]?=some (some x)->∃ v,σ[i]?=some (some v)/\zi H O M v x
theorem Er.ext {H H':Hp}{O O':Own}{M M':MH}{σ:St}{ρ:ASt}(e:Er H O M σ ρ)(k:Ext H O M H' O' M'):Er H' O' M' σ ρ:=⟨e.len,fun i x h=>let ⟨v,h1,h2⟩:=e.get i x h;⟨v,h1,h2.ext k⟩⟩
theorem Er.set {H:Hp}{O:Own}{M:MH}{σ:St}{ρ:ASt}(e:Er H O M σ ρ){v:V}{x:AV}(r:zi H O M v x)(j:Nat):Er H O M (σ.set j (some v)) (ρ.set j (some x)):=
 ⟨by rw [List.length_set,List.length_set,e.len],fun i y h=>by
  rw [List.getElem?_set] at h ⊢
  by_cases c:j=i
  ·rw [if_pos c] at h ⊢
   by_cases c2:j<ρ.length
   ·rw [if_pos c2] at h;rw [if_pos (by rw [e.len];exact c2)];cases h;exact ⟨v,rfl,r⟩
   ·rw [if_neg c2] at h;cases h
  ·rw [if_neg c] at h ⊢;exact e.get i y h⟩
noncomputable def Xr:List Nat->ASt->ASt
 | [],σ=>σ
 | j :: r,σ=>Xr r (σ.set j none)
theorem Er.clr {H:Hp}{O:Own}{M:MH}:∀ (ts:List Nat) {σ:St} {ρ:ASt},Er H O M σ ρ->Er H O M (clr ts σ) (Xr ts ρ)
  | [],_,_,e=>e
  | j :: r, σ, ρ, e => Er.clr r ⟨by rw [List.length_set, List.length_set, e.len], fun i y h => by
      rw [List.getElem?_set] at h ⊢
      by_cases c:j=i
      · rw [if_pos c] at h
        split at h <;> cases h
      · rw [if_neg c] at h ⊢;exact e.get i y h⟩
structure zE (t:TE)(a:AE):Prop where
 go:∀ {σ:St} {H:Hp} {O:Own} {ρ:ASt} {M:MH} {Q:VK} {Q':AK},Wf H O M->Er H O M σ ρ->a ρ M Q'->(∀ x M' v H' O',Q' x M'->Ext H O M H' O' M'->Wf H' O' M'->zi H' O' M' v x->Q v H')->t σ H Q
structure jw (t:TT)(a:AT):Prop where
 go:∀ {σ:St} {H:Hp} {O:Own} {ρ:ASt} {M:MH} {Q:Bool->Hp->Prop} {Q':Bool->MH->Prop},Wf H O M->Er H O M σ ρ->a ρ M Q'->(∀ b M' H' O',Q' b M'->Ext H O M H' O' M'->Wf H' O' M'->Q b H')->t σ H Q
structure jn (t:TA)(a:AA):Prop where
 go:∀ {σ:St} {H:Hp} {O:Own} {ρ:ASt} {M:MH} {Q:List V->Hp->Prop} {Q':List AV->MH->Prop},Wf H O M->Er H O M σ ρ->a ρ M Q'->(∀ x M' v H' O',Q' x M'->Ext H O M H' O' M'->Wf H' O' M'->zd H' O' M' v x->Q v H')->t σ H Q
structure yC (t:TE)(a:ASt->MH->(List AV->MH->Prop)->Prop):Prop where
 go:∀ {σ:St} {H:Hp} {O:Own} {ρ:ASt} {M:MH} {Q:VK} {Q':List AV->MH->Prop},Wf H O M->Er H O M σ ρ->a ρ M Q' ->
  (∀ l M' p xs H' O',Q' l M'->Ext H O M H' O' M'->Wf H' O' M'->O' p->M' p=none->H p=none->H' p=some (.lst xs)->zd H' O' M' xs l->Q (.ref p) H')->t σ H Q
noncomputable abbrev AR2:=AV->AV->MH->AK->Prop
structure Zp (r:R2)(a:AR2):Prop where
 go:∀ {x y:V} {dx dy:AV} {H:Hp} {O:Own} {M:MH} {Q:VK} {Q':AK},Wf H O M->zi H O M x dx->zi H O M y dy->a dx dy M Q'->(∀ x M' v H' O',Q' x M'->Ext H O M H' O' M'->Wf H' O' M'->zi H' O' M' v x->Q v H')->r x y H Q
structure Ap (r:V->Hp->VK->Prop)(a:AV->MH->AK->Prop):Prop where
 go:∀ {x:V} {dx:AV} {H:Hp} {O:Own} {M:MH} {Q:VK} {Q':AK},Wf H O M->zi H O M x dx->a dx M Q'->(∀ x M' v H' O',Q' x M'->Ext H O M H' O' M'->Wf H' O' M'->zi H' O' M' v x->Q v H')->r x H Q
structure xV (r:List V->Hp->VK->Prop)(a:List AV->MH->AK->Prop):Prop where
 go:∀ {vs:List V} {xs:List AV} {H:Hp} {O:Own} {M:MH} {Q:VK} {Q':AK},Wf H O M->zd H O M vs xs->a xs M Q'->(∀ x M' v H' O',Q' x M'->Ext H O M H' O' M'->Wf H' O' M'->zi H' O' M' v x->Q v H')->r vs H Q
noncomputable def Xb (i:Nat):AE:=fun ρ M Q=>∃ x,ρ[i]?=some (some x)/\Q x M
noncomputable def aC (d:Dat):AE:=fun _ M Q=>Q (.d d) M
theorem Xx {i:Nat}:zE (Kr i) (Xb i):=⟨fun w e ⟨x,h,q⟩ k=>let ⟨v,h1,h2⟩:=e.get i x h;⟨v,h1,k _ _ _ _ _ q .refl w h2⟩⟩
theorem YL {i:Int}:zE (tC (.int i)) (aC (.int i)):=⟨fun w _ q k=>k _ _ _ _ _ q .refl w .int⟩
theorem Yi {i:Bool}:zE (tC (.bl i)) (aC (.bl i)):=⟨fun w _ q k=>k _ _ _ _ _ q .refl w .bl⟩
theorem YN:zE (tC .non) (aC .non):=⟨fun w _ q k=>k _ _ _ _ _ q .refl w .non⟩
theorem YC {i:String}:zE (tC (.ty i)) (aC (.ty i)):=⟨fun w _ q k=>k _ _ _ _ _ q .refl w .ty⟩
noncomputable def aOp (r:AR2)(a b:AE):AE:=fun ρ M Q=>a ρ M fun x M1=>b ρ M1 fun y M2=>r x y M2 Q
theorem VZ {r:R2}{ra:AR2}{t u:TE}{a b:AE}(hr:Zp r ra)(h1:zE t a)(h2:zE u b):zE (tOp r t u) (aOp ra a b):=
 ⟨fun w e q k=>h1.go w e q fun x M1 v H1 O1 q1 k1 w1 r1=>h2.go w1 (e.ext k1) q1 fun y M2 u H2 O2 q2 k2 w2 r2=>hr.go w2 (r1.ext k2) r2 q2 fun z M3 v3 H3 O3 q3 k3 w3 r3=>k z M3 v3 H3 O3 q3 ((k1.trans k2).trans k3) w3 r3⟩
noncomputable def YG:AA:=fun _ M Q=>Q [] M
noncomputable def wx (a:AE)(b:AA):AA:=fun ρ M Q=>a ρ M fun x M1=>b ρ M1 fun xs M2=>Q (x :: xs) M2
theorem Kg:jn Yr YG:=⟨fun w _ q k=>k _ _ _ _ _ q .refl w .nil⟩
theorem JQ {t:TE}{u:TA}{a:AE}{b:AA}(h1:zE t a)(h2:jn u b):jn (Q8 t u) (wx a b):=
 ⟨fun w e q k=>h1.go w e q fun x M1 v H1 O1 q1 k1 w1 r1=>h2.go w1 (e.ext k1) q1 fun y M2 u H2 O2 q2 k2 w2 r2=>k _ _ _ _ _ q2 (k1.trans k2) w2 (.cons (r1.ext k2) r2)⟩
theorem wd {H:Hp}{O:Own}{M:MH}(is:List Int):zd H O M (is.map V.int) (is.map fun i=>.d (.int i)):=by
 induction is with
 | nil=>exact .nil
 | cons i r ih=>exact .cons .int ih
noncomputable def aCB (r:List AV->MH->AK->Prop)(b:AA):AE:=fun ρ M Q=>b ρ M fun xs M1=>r xs M1 Q
theorem Vh {r:List V->Hp->VK->Prop}{ra:List AV->MH->AK->Prop}{u:TA}{b:AA}(hr:xV r ra)(h2:jn u b):zE (tCB r u) (aCB ra b):=
 ⟨fun w e q k=>h2.go w e q fun x M1 v H1 O1 q1 k1 w1 r1=>hr.go w1 r1 q1 fun z M3 v3 H3 O3 q3 k3 w3 r3=>k z M3 v3 H3 O3 q3 (k1.trans k3) w3 r3⟩
noncomputable abbrev ASp:=List AV->MH->AK->Prop
noncomputable def cSp (a:ASp):Sp:=fun vs H Q _=>∃ xs M O Q',Wf H O M/\zd H O M vs xs/\a xs M Q'/\∀ x M' v H' O',Q' x M'->Ext H O M H' O' M'->Wf H' O' M'->zi H' O' M' v x->Q v H'
noncomputable def Ka (sp:ASp)(b:AA):AE:=fun ρ M Q=>b ρ M fun xs M1=>sp xs M1 Q
theorem QA {sp:ASp}{u:TA}{b:AA}(h:jn u b):zE (wR (cSp sp) [] E0 u) (Ka sp b):=
 ⟨fun w e q k=>h.go w e q fun x M1 v H1 O1 q1 k1 w1 r1=>⟨x,M1,O1,_,w1,by rw [List.append_nil];exact r1,q1,fun z M3 v3 H3 O3 q3 k3 w3 r3=>k z M3 v3 H3 O3 q3 (k1.trans k3) w3 r3⟩⟩
noncomputable def pur:List AV->Option (List Dat)
 | []=>some []
 | .d x :: r=>match pur r with | some l=>some (x :: l) | none=>none
 | .ref _ :: _=>none
theorem K5:pur []=some []:=rfl
theorem JN {x:Dat}{r:List AV}{l:List Dat}(h:pur r=some l):pur (.d x :: r)=some (x :: l):=by unfold pur;rw [h]
theorem zR (l:List Dat):pur (l.map .d)=some l:=by
 induction l with
 | nil=>rfl
 | cons x r ih=>exact JN ih
theorem qO:∀ {xs:List AV} {l:List Dat},pur xs=some l->xs=l.map .d
 | [],l,h=>by cases h;rfl
 | .d x :: r,l,h=>by
  unfold pur at h
  cases e:pur r with
  | none=>rw [e] at h;cases h
  | some m=>rw [e] at h;cases h;rw [qO e];rfl
 | .ref _ :: _,_,h=>by cases h
theorem Ext.shown {H H':Hp}{O O':Own}{M M':MH}{p:Addr}(w:Wf H O M)(k:Ext H O M H' O' M')(h:H p=none):Ext H O M H' (Xo O' p) M':=
 ⟨fun a o ha e=>⟨(k.fix a o ha e).1,fun z=>(k.fix a o ha e).2 z.2⟩,fun a ha e=>⟨(k.prv a ha e).1,⟨fun z=>w.ne a ha (by rw [z];exact h),(k.prv a ha e).2.1⟩,(k.prv a ha e).2.2⟩,k.mst⟩
theorem Ext.owned {H H':Hp}{O O':Own}{M M':MH}{p:Addr}(w:Wf H O M)(k:Ext H O M H' O' M')(h:H p=none)(mo:MO):Ext H O M H' O' (mup M' p mo):=
 ⟨k.fix,fun a ha e=>⟨(k.prv a ha e).1,(k.prv a ha e).2.1,by rw [zt (fun z=>w.ne a ha (by rw [z];exact h))];exact (k.prv a ha e).2.2⟩,fun a ha=>by
  by_cases e:a=p
  ·rw [e,zf];exact fun z=>nomatch z
  ·rw [zt e];exact k.mst a ha⟩
theorem yS {H:Hp}{O:Own}{M:MH}{p:Addr}(w:Wf H O M)(hO:O p)(hM:M p=none){xs:List V}{l:List AV}(hp:H p=some (.lst xs))(r:zd H O M xs l):Wf H O (mup M p (.lst l)):=by
 have km:∀ a,M a ≠ none->mup M p (.lst l) a ≠ none:=fun a ha=>by
  by_cases e:a=p
  ·rw [e,zf];exact fun z=>nomatch z
  ·rw [zt e];exact ha
 refine ⟨fun a u e=>?_,fun a ha=>?_,w.al⟩
 ·by_cases c:a=p
  ·subst c;rw [zf] at e;cases e;exact ⟨xs,hp,r.imp (fun _ _ z h=>⟨h,z⟩) km⟩
  ·rw [zt c] at e
   have:=w.mo a u e
   cases u with
   | lst m=>obtain ⟨ys,h1,h2⟩:=this;exact ⟨ys,h1,h2.imp (fun _ _ z h=>⟨h,z⟩) km⟩
   | dK m=>obtain ⟨ys,h1,h2⟩:=this;exact ⟨ys,h1,h2.1,h2.2.imp (fun _ _ z h=>⟨h,z⟩) km⟩
   | ins C fs=>
    obtain ⟨dx,ys,h1,h2,h3,h4,h5⟩:=this
    exact ⟨dx,ys,h1,⟨h2.1,h2.2.imp (fun _ _ z h=>⟨h,z⟩) km⟩,h3,by rw [zt (ww h5 hp (fun z=>nomatch z))];exact h4,h5⟩
   | exc C fs=>
    obtain ⟨d,h1,h2⟩:=this
    refine ⟨d,h1,?_⟩
    rcases h2 with h2 | ⟨dx,e1,h2,h3,h4⟩
    ·exact .inl h2
    ·exact .inr ⟨dx,e1,h2,h3,by rw [zt (ww h2 hp (fun z=>nomatch z))];exact h4⟩
 ·by_cases c:a=p
  ·rw [c];exact hO
  ·rw [zt c] at ha;exact w.own a ha
noncomputable abbrev AF:=ASt->MH->(List AV->MH->Prop)->Prop
noncomputable def aFz (a:AF):AE:=fun ρ M Q=>a ρ M fun l M'=>∃ ds,pur l=some ds/\Q (.d (.lst ds)) M'
noncomputable def aOw (a:AF):AE:=fun ρ M Q=>a ρ M fun l M'=>∀ p,M p=none->M' p=none->Q (.ref p) (mup M' p (.lst l))
noncomputable def V7 (t:TE):TE:=t
theorem kC {X:Cx}{e:Expr}{t:TE}(h:PE X e t):PE X e (V7 t):=h
theorem yr {t:TE}{a:AF}(h:yC t a):zE t (aFz a):=
 ⟨fun w e q k=>h.go w e q fun l M' p xs H' O' q1 k1 w1 o1 m1 hp hx r1=>by
  obtain ⟨ds,e1,q2⟩:=q1
  rw [qO e1] at r1
  have r2:=r1.pure
  exact k _ _ _ _ _ q2 (k1.shown w hp) (JR w1 m1 hx) (Rep.lst (fun z=>z.1 rfl) hx r2.1 fun i x d e1 e2=>(r2.2 i x d e1 e2).imp (jY p))⟩
theorem Xf {t:TE}{a:AF}(h:yC t a):zE (V7 t) (aOw a):=
 ⟨fun w e q k=>h.go w e q fun l M' p xs H' O' q1 k1 w1 o1 m1 hp hx r1=>k _ _ _ _ _ (q1 p (w.fresh hp).2 m1) (k1.owned w hp _) (yS w1 o1 m1 hx r1) ⟨rfl,by rw [zf];exact fun z=>nomatch z⟩⟩
noncomputable def Wb (b:AA):AF:=fun ρ M Q=>b ρ M fun xs M1=>xs.length<=sizeLine/\Q xs M1
theorem QF {u:TA}{b:AA}(h:jn u b):yC (VC u) (Wb b):=
 ⟨fun w e q k=>h.go w e q fun x M1 v H1 O1 q1 k1 w1 r1=>⟨by rw [r1.1];exact q1.1,fun p hp=>
  k x M1 p v _ _ q1.2 (k1.trans (qz w1 hp _)) (xR w1 hp _ (fun _ z=>nomatch z)) (.inl rfl) (w1.fresh hp).2 (by
   cases e0:(_:Hp) p with
   | none=>exact e0
   | some o=>
    exfalso
    rename_i H0 O0 _ M0 _ _
    by_cases c:O0 p
    ·by_cases c2:M0 p=none
     ·exact w1.ne p (k1.prv p c c2).2.1 hp
     ·exact w1.ne p (w1.own p (k1.mst p c2)) hp
    ·rw [(k1.fix p o c e0).1] at hp;cases hp) zl (r1.ext (qz w1 hp _))⟩⟩
noncomputable def WL (b:AA):AE:=fun ρ M Q=>b ρ M fun xs M1=>xs.length<=sizeLine/\∃ ds,pur xs=some ds/\Q (.d (.tup ds)) M1
theorem Kl {u:TA}{b:AA}(h:jn u b):zE (X7 u) (WL b):=
 ⟨fun w e q k=>h.go w e q fun x M1 v H1 O1 q1 k1 w1 r1=>⟨by rw [r1.1];exact q1.1,fun p hp=>by
  obtain ⟨_,ds,e1,q2⟩:=q1
  rw [qO e1] at r1
  have r2:=r1.pure
  exact k _ _ _ _ _ q2 (k1.trans (qo w1 hp _)) (yq w1 hp _) (Rep.tup (w1.fresh hp).1 zl r2.1 fun i x d e1 e2=>(r2.2 i x d e1 e2).ext (qo w1 hp _))⟩⟩
noncomputable def aB (a:AE):AT:=fun ρ M Q=>a ρ M fun x M1=>∃ b,x=.d (.bl b)/\Q b M1
theorem kM {H:Hp}{O:Own}{v:V}{b:Bool}(r:Rep H O v (.bl b)):v=.bl b:=by cases r;rfl
theorem zA {H:Hp}{O:Own}{v:V}{b:Int}(r:Rep H O v (.int b)):v=.int b:=by cases r;rfl
theorem Jn {H:Hp}{O:Own}{v:V}{b:String}(r:Rep H O v (.ty b)):v=.ty b:=by cases r;rfl
theorem KO {H:Hp}{O:Own}{v:V}(r:Rep H O v .non):v=.non:=by cases r;rfl
theorem Wx {t:TE}{a:AE}(h:zE t a):jw (tB t) (aB a):=⟨fun w e q k=>h.go w e q fun x M1 v H1 O1 ⟨b,e1,q1⟩ k1 w1 r1=>by
 subst e1;exact ⟨b,kM r1,k _ _ _ _ q1 k1 w1⟩⟩
theorem QN {t:TE}{a:AE}(h:zE t a):jw (JU t) (aB a):=⟨fun w e q k=>h.go w e q fun x M1 v H1 O1 ⟨b,e1,q1⟩ k1 w1 r1=>by
 subst e1;exact ⟨b,kM r1,k _ _ _ _ q1 k1 w1⟩⟩
noncomputable def vc:AT:=fun _ M Q=>Q true M
theorem J4:jw Q3 vc:=⟨fun w _ q k=>k _ _ _ _ q .refl w⟩
noncomputable def aOr (a b:AT):AT:=fun ρ M Q=>a ρ M fun c M1=>if c=true then Q true M1 else b ρ M1 Q
noncomputable def Wd (a:AT):AT:=fun ρ M Q=>a ρ M fun c M1=>Q (!c) M1
theorem VM {t u:TT}{a b:AT}(h1:jw t a)(h2:jw u b):jw (tOr t u) (aOr a b):=⟨fun w e q k=>h1.go w e q fun c M1 H1 O1 q1 k1 w1=>by
 cases c with
 | false=>exact h2.go w1 (e.ext k1) q1 fun c M2 H2 O2 q2 k2 w2=>k _ _ _ _ q2 (k1.trans k2) w2
 | true=>exact k _ _ _ _ q1 k1 w1⟩
theorem Ko {t:TT}{a:AT}(h1:jw t a):jw (VP t) (Wd a):=⟨fun w e q k=>h1.go w e q fun c M1 H1 O1 q1 k1 w1=>k _ _ _ _ q1 k1 w1⟩
noncomputable def XA (a b:AE):AE:=fun ρ M Q=>a ρ M fun x M1=>∃ c,x=.d (.bl c)/\if c=true then b ρ M1 Q else Q (.d (.bl false)) M1
theorem Q4 {t u:TE}{a b:AE}(h1:zE t a)(h2:zE u b):zE (Qe t u) (XA a b):=⟨fun w e q k=>h1.go w e q fun x M1 v H1 O1 ⟨c,e1,q1⟩ k1 w1 r1=>by
 subst e1
 refine ⟨c,kM r1,?_⟩
 cases c with
 | true=>exact h2.go w1 (e.ext k1) q1 fun c M2 v2 H2 O2 q2 k2 w2 r2=>k _ _ _ _ _ q2 (k1.trans k2) w2 r2
 | false=>exact k _ _ _ _ _ q1 k1 w1 .bl⟩
structure ED (H0:Hp)(O0:Own)(M0:MH)(D:kd)(D':xG):Prop where
 nx:∀ σ H O ρ M,Wf H O M->Er H O M σ ρ->Ext H0 O0 M0 H O M->D'.nx ρ M->D.nx σ H
 rt:∀ v x H O M,Wf H O M->Ext H0 O0 M0 H O M->zi H O M v x->D'.rt x M->D.rt v H
 bk:∀ σ H O ρ M,Wf H O M->Er H O M σ ρ->Ext H0 O0 M0 H O M->D'.bk ρ M->D.bk σ H
 ct:∀ σ H O ρ M,Wf H O M->Er H O M σ ρ->Ext H0 O0 M0 H O M->D'.ct ρ M->D.ct σ H
theorem ED.tr {H0 H1:Hp}{O0 O1:Own}{M0 M1:MH}{D:kd}{D':xG}(E:ED H0 O0 M0 D D')(k:Ext H0 O0 M0 H1 O1 M1):ED H1 O1 M1 D D':=
 ⟨fun σ H O ρ M w e x q=>E.nx σ H O ρ M w e (k.trans x) q,fun v y H O M w x r q=>E.rt v y H O M w (k.trans x) r q,fun σ H O ρ M w e x q=>E.bk σ H O ρ M w e (k.trans x) q,fun σ H O ρ M w e x q=>E.ct σ H O ρ M w e (k.trans x) q⟩
structure jy (t:TS)(a:AS):Prop where
 go:∀ {H0:Hp} {O0:Own} {M0:MH} {D:kd} {D':xG} {σ:St} {H:Hp} {O:Own} {ρ:ASt} {M:MH},Wf H0 O0 M0->Wf H O M->Er H O M σ ρ->Ext H0 O0 M0 H O M->a M0 D' ρ M->ED H0 O0 M0 D D'->t D σ H
noncomputable def J9:AS:=fun _ D ρ M=>D.nx ρ M
theorem QM:jy JY J9:=⟨fun _ w e x q E=>E.nx _ _ _ _ _ w e x q⟩
noncomputable def vv (a b:AS):AS:=fun B D ρ M=>a B { D with nx:=b B D } ρ M
theorem Xl {t u:TS}{a b:AS}(h1:jy t a)(h2:jy u b):jy (Yx t u) (vv a b):=
 ⟨fun w0 w e x q E=>h1.go w0 w e x q ⟨fun σ H O ρ M w e x q=>h2.go w0 w e x q E,E.rt,E.bk,E.ct⟩⟩
noncomputable def X0 (a:AE):AS:=fun _ D ρ M=>a ρ M fun _ M1=>D.nx ρ M1
theorem QP {t:TE}{a:AE}(h:zE t a):jy (Q5 t) (X0 a):=⟨fun _ w e x q E=>h.go w e q fun y M1 v H1 O1 q1 k1 w1 r1=>E.nx _ _ _ _ _ w1 (e.ext k1) (x.trans k1) q1⟩
noncomputable def WU (a:AE):AS:=fun _ D ρ M=>a ρ M D.rt
theorem Kv {t:TE}{a:AE}(h:zE t a):jy (X5 t) (WU a):=⟨fun _ w e x q E=>h.go w e q fun y M1 v H1 O1 q1 k1 w1 r1=>E.rt _ _ _ _ _ w1 (x.trans k1) r1 q1⟩
noncomputable def WI (c:AT)(a b:AS):AS:=fun B D ρ M=>c ρ M fun k M1=>if k=true then a B D ρ M1 else b B D ρ M1
theorem Ky {c:TT}{t u:TS}{ac:AT}{a b:AS}(hc:jw c ac)(h1:jy t a)(h2:jy u b):jy (Vg c t u) (WI ac a b):=
 ⟨fun w0 w e x q E=>hc.go w e q fun k M1 H1 O1 q1 k1 w1=>by
  cases k with
  | true=>exact h1.go w0 w1 (e.ext k1) (x.trans k1) q1 E
  | false=>exact h2.go w0 w1 (e.ext k1) (x.trans k1) q1 E⟩
structure j7 (g:TG)(a:AG):Prop where
 go:∀ {v:V} {x:AV} {σ:St} {H:Hp} {O:Own} {ρ:ASt} {M:MH} {Q:St->Hp->Prop} {Q':ASt->MH->Prop},Wf H O M->Er H O M σ ρ->zi H O M v x->a x ρ M Q' ->
  (∀ σ' H' O' ρ' M',Q' ρ' M'->Ext H O M H' O' M'->Wf H' O' M'->Er H' O' M' σ' ρ'->Q σ' H')->g v σ H Q
structure vh (g:TGs)(a:AGs):Prop where
 go:∀ {v:List V} {x:List AV} {σ:St} {H:Hp} {O:Own} {ρ:ASt} {M:MH} {Q:St->Hp->Prop} {Q':ASt->MH->Prop},Wf H O M->Er H O M σ ρ->zd H O M v x->a x ρ M Q' ->
  (∀ σ' H' O' ρ' M',Q' ρ' M'->Ext H O M H' O' M'->Wf H' O' M'->Er H' O' M' σ' ρ'->Q σ' H')->g v σ H Q
noncomputable def xT (i:Nat):AG:=fun x ρ M Q=>Q (ρ.set i (some x)) M
theorem Zm {i:Nat}:j7 (yL i) (xT i):=⟨fun w e r q k=>k _ _ _ _ _ q .refl w (e.set r i)⟩
noncomputable def JM:AGs:=fun xs ρ M Q=>xs=[]/\Q ρ M
noncomputable def kN (a:AG)(b:AGs):AGs:=fun xs ρ M Q=>∃ x r,xs=x :: r/\a x ρ M fun ρ' M'=>b r ρ' M' Q
theorem Q9:vh X4 JM:=⟨fun w e r q k=>by obtain ⟨e1,q⟩:=q;subst e1;exact ⟨r.nil_inv,k _ _ _ _ _ q .refl w e⟩⟩
theorem Z0 {g:TG}{u:TGs}{a:AG}{b:AGs}(h1:j7 g a)(h2:vh u b):vh (Qs g u) (kN a b):=⟨fun w e r q k=>by
 obtain ⟨x,r',e1,q⟩:=q;subst e1
 obtain ⟨v,vr,e2,rv,rr⟩:=r.cons_inv
 subst e2
 exact ⟨v,vr,rfl,h1.go w e rv q fun σ' H' O' ρ' M' q1 k1 w1 e1=>h2.go w1 e1 (rr.ext k1) q1 fun σ2 H2 O2 ρ2 M2 q2 k2 w2 e2=>k _ _ _ _ _ q2 (k1.trans k2) w2 e2⟩⟩
noncomputable def Qh (n:Nat)(b:AGs):AG:=fun x ρ M Q=>∃ l,x=.d (.tup l)/\l.length=n/\b (l.map .d) ρ M Q
theorem Qd {K:PySem.W.Frag}{n:Nat}{u:TGs}{b:AGs}(h:vh u b):j7 (Kx K n u) (Qh n b):=⟨fun {v x σ H O ρ M Q Q'} w e r q k=>by
 obtain ⟨l,e1,ln,q⟩:=q;subst e1
 cases (show Rep H O v (.tup l) from r) with
 | @tup a xs _ o1 h1 l1 r1=>exact ⟨a,xs,rfl,SqT.of h1,l1.trans ln,h.go w e (Zo.av ⟨l1,r1⟩) q k⟩⟩
noncomputable def zN (x:AV)(M:MH):Option (List AV):=match x with
 | .d (.lst l)=>some (l.map .d)
 | .ref a=>match M a with
  | some (.lst l)=>some l
  | _=>none
 | _=>none
noncomputable def YE (x:AV):Option (List AV):=match x with
 | .d (.tup l)=>some (l.map .d)
 | _=>none
noncomputable def qK (x:AV)(M:MH):Option (List AV):=match x with
 | .d (.lst l)=>some (l.map .d)
 | .d (.tup l)=>some (l.map .d)
 | .ref a=>match M a with
  | some (.lst l)=>some l
  | _=>none
 | _=>none
theorem Jq (l:List Dat)(M:MH):zN (.d (.lst l)) M=some (l.map .d):=rfl
theorem Yh (l:List Dat):YE (.d (.tup l))=some (l.map .d):=rfl
theorem VJ (l:List Dat)(M:MH):qK (.d (.lst l)) M=some (l.map .d):=rfl
theorem Vb (l:List Dat)(M:MH):qK (.d (.tup l)) M=some (l.map .d):=rfl
theorem kL {a:Addr}{M:MH}{l:List AV}(h:M a=some (.lst l)):zN (.ref a) M=some l:=by unfold zN;dsimp only;rw [h]
theorem jB {a:Addr}{M:MH}{l:List AV}(h:M a=some (.lst l)):qK (.ref a) M=some l:=by unfold qK;dsimp only;rw [h]
theorem QQ {x:AV}{M:MH}{l:List AV}(h:zN x M=some l):(∃ m,x=.d (.lst m)/\l=m.map .d) \/ ∃ a,x=.ref a/\M a=some (.lst l):=by
 cases x with
 | d x=>
  cases x with
  | lst m=>cases h;exact .inl ⟨m,rfl,rfl⟩
  | _=>cases h
 | ref a=>
  unfold zN at h
  dsimp only at h
  cases e:M a with
  | none=>rw [e] at h;cases h
  | some o=>
   rw [e] at h
   cases o with
   | lst m=>cases h;exact .inr ⟨a,rfl,e⟩
   | _=>cases h
theorem qJ {x:AV}{M:MH}{l:List AV}(h:qK x M=some l):zN x M=some l \/ ∃ m,x=.d (.tup m)/\l=m.map .d:=by
 cases x with
 | d x=>
  cases x with
  | lst m=>cases h;exact .inl rfl
  | tup m=>cases h;exact .inr ⟨m,rfl,rfl⟩
  | _=>cases h
 | ref a=>exact .inl h
theorem zS {H:Hp}{O:Own}{M:MH}{v:V}{x:AV}{l:List AV}(w:Wf H O M)(r:zi H O M v x)(h:zN x M=some l):∃ a xs,v=.ref a/\H a=some (.lst xs)/\zd H O M xs l:=by
 rcases QQ h with ⟨m,rfl,rfl⟩ | ⟨a,rfl,e⟩
 ·cases (show Rep H O v (.lst m) from r) with
  | @lst a xs _ o1 h1 l1 r1=>exact ⟨a,xs,rfl,h1,Zo.av ⟨l1,r1⟩⟩
 ·obtain ⟨xs,h1,r1⟩:=w.mo a _ e
  exact ⟨a,xs,r.1,h1,r1⟩
theorem qe {H:Hp}{O:Own}{M:MH}{v:V}{x:AV}{l:List AV}(r:zi H O M v x)(h:YE x=some l):∃ a xs,v=.ref a/\H a=some (.tup xs)/\zd H O M xs l:=by
 cases x with
 | ref a=>cases h
 | d x=>
  cases x with
  | tup m=>
   cases h
   cases (show Rep H O v (.tup m) from r) with
   | @tup a xs _ o1 h1 l1 r1=>exact ⟨a,xs,rfl,h1,Zo.av ⟨l1,r1⟩⟩
  | _=>cases h
theorem xS {H:Hp}{O:Own}{M:MH}{v:V}{x:AV}{l:List AV}(w:Wf H O M)(r:zi H O M v x)(h:qK x M=some l):∃ a xs,v=.ref a/\(H a=some (.lst xs) \/ H a=some (.tup xs))/\zd H O M xs l:=by
 rcases qJ h with e | ⟨m,rfl,rfl⟩
 ·obtain ⟨a,xs,h1,h2,h3⟩:=zS w r e;exact ⟨a,xs,h1,.inl h2,h3⟩
 ·obtain ⟨a,xs,h1,h2,h3⟩:=qe (l:=m.map .d) r rfl;exact ⟨a,xs,h1,.inr h2,h3⟩
structure Qx (t:Qj)(a:AV->AV->AV->MH->(MH->Prop)->Prop):Prop where
 go:∀ {o i v:V} {ao ai av:AV} {H:Hp} {O:Own} {M:MH} {Q:Hp->Prop} {Q':MH->Prop},Wf H O M->zi H O M o ao->zi H O M i ai->zi H O M v av->a ao ai av M Q'->(∀ M' H' O',Q' M'->Ext H O M H' O' M'->Wf H' O' M'->Q H')->t o i v H Q
noncomputable def XJ (a b:AE)(s:AV->AV->AV->MH->(MH->Prop)->Prop):AG:=fun x ρ M Q=>a ρ M fun o M1=>b ρ M1 fun i M2=>s o i x M2 fun M3=>Q ρ M3
theorem QT {to ti:TE}{t:Qj}{a b:AE}{s:AV->AV->AV->MH->(MH->Prop)->Prop}(h1:zE to a)(h2:zE ti b)(h3:Qx t s):j7 (Yl to ti t) (XJ a b s):=⟨fun w e r q k=>
 h1.go w e q fun x M1 v H1 O1 q1 k1 w1 r1=>h2.go w1 (e.ext k1) q1 fun y M2 u H2 O2 q2 k2 w2 r2=>h3.go w2 (r1.ext k2) r2 (r.ext (k1.trans k2)) q2 fun M3 H3 O3 q3 k3 w3=>k _ _ _ _ _ q3 ((k1.trans k2).trans k3) w3 (e.ext ((k1.trans k2).trans k3))⟩
theorem qp {M:MH}{p:Addr}{o:MO}(h:M p=some o):M p ≠ none:=by rw [h];exact fun z=>nomatch z
noncomputable def asL:AV->AV->AV->MH->(MH->Prop)->Prop:=fun o i v M Q=>∃ p l k j,o=.ref p/\i=.d (.int k)/\M p=some (.lst l)/\ixN l.length k=some j/\Q (mup M p (.lst (l.set j v)))
theorem Qf:Qx vM asL:=⟨fun w ro ri rv q k=>by
 obtain ⟨p,l,n,j,rfl,rfl,hm,hj,q⟩:=q
 obtain ⟨xs,hx,rx⟩:=w.mo p _ hm
 have np:=qp hm
 refine ⟨n,zA ri,p,ro.1,xs,hx,j,by rw [rx.1];exact hj,k _ _ _ q (jG w np _ _) (Jx w np (fun _ z=>nomatch z) ⟨_,zl,(rx.set rv j).ext (jG w np _ _)⟩)⟩⟩
noncomputable def Wz (a:AE)(g:AG):AS:=fun _ D ρ M=>a ρ M fun x M1=>g x ρ M1 D.nx
theorem Xh {t:TE}{g:TG}{a:AE}{ag:AG}(h:zE t a)(hg:j7 g ag):jy (JH t g) (Wz a ag):=⟨fun _ w e x q E=>h.go w e q fun y M1 v H1 O1 q1 k1 w1 r1=>hg.go w1 (e.ext k1) r1 q1 fun σ2 H2 O2 ρ2 M2 q2 k2 w2 e2=>E.nx _ _ _ _ _ w2 e2 ((x.trans k1).trans k2) q2⟩
structure An (t:TIp)(a:AR2):Prop where
 go:∀ {x y:V} {dx dy:AV} {H:Hp} {O:Own} {M:MH} {Q:VK} {Q':AK},Wf H O M->zi H O M x dx->zi H O M y dy->a dx dy M Q'->(∀ x M' v H' O',Q' x M'->Ext H O M H' O' M'->Wf H' O' M'->zi H' O' M' v x->Q v H')->t x y H Q
noncomputable def jR (J:It)(H:Hp)(O:Own)(M:MH)(l:List AV)(G:MH->Prop):Prop:=
 ∀ (H':Hp) (O':Own) (M':MH),(∀ a o,¬ O a->H a=some o->H' a=some o/\¬ O' a)->(∀ a,M a ≠ none->M' a ≠ none)->Wf H' O' M'->G M'->∀ i:Nat,(i=l.length->J.stop i H') /\
  ∀ y,l[i]?=some y->J.go i H'/\∀ x H'',J.yld i H' x H''->Ext H' O' M' H'' O' M'/\Wf H'' O' M'/\zi H'' O' M' x y
structure xa (wi:TI)(ai:AI):Prop where
 go:∀ {σ:St} {H:Hp} {O:Own} {ρ:ASt} {M:MH} {R:It->Hp->Prop} {R':List AV->(MH->Prop)->MH->Prop},Wf H O M->Er H O M σ ρ->ai ρ M R'->(∀ l G M' J H' O',R' l G M'->Ext H O M H' O' M'->Wf H' O' M'->jR J H' O' M' l G->R J H')->wi σ H R
noncomputable def WZ (ag:AG)(ab:AS)(B:MH)(D:xG)(G:MH->Prop)(l:List AV)(ρ:ASt)(M:MH):Prop:=
 ∃ Pv:Nat->ASt->MH->Prop,Pv 0 ρ M/\(∀ i x ρ M,l[i]?=some x->Pv i ρ M->G M/\ag x ρ M fun ρ' M'=>ab B { D with nx:=Pv (i+1),ct:=Pv (i+1),bk:=D.nx } ρ' M')/\∀ ρ M,Pv l.length ρ M->G M/\D.nx ρ M
noncomputable def WG (ai:AI)(ag:AG)(ab:AS):AS:=fun _ D ρ M=>ai ρ M fun l G M1=>WZ ag ab M1 D G l ρ M1
theorem Kk {wi:TI}{g:TG}{t:TS}{ai:AI}{ag:AG}{ab:AS}(hi:xa wi ai)(hg:j7 g ag)(hb:jy t ab):jy (VQ wi g t) (WG ai ag ab):=⟨fun {H0 O0 M0 D D' σ H O ρ M} w0 w e x q E=>by
 rw [wB]
 refine hi.go w e q fun l G M1 J H1 O1 q1 k1 w1 hj=>?_
 have E1:=E.tr (x.trans k1)
 obtain ⟨Pv,p0,ps,pd⟩:=q1
 refine ⟨fun i m σ H=>m=l.length - i/\i<=l.length/\∃ O ρ M,Wf H O M/\Er H O M σ ρ/\Ext H1 O1 M1 H O M/\Pv i ρ M,⟨l.length,by simp,Nat.zero_le _,O1,ρ,M1,w1,e.ext k1,.refl,p0⟩,?_⟩
 rintro i m σ H ⟨rfl,hi,O,ρ,M,w,e,x,hf⟩
 by_cases hil:i<l.length
 ·have hy:l[i]?=some l[i]:=List.getElem?_eq_getElem hil
  obtain ⟨hG,q2⟩:=ps i l[i] ρ M hy hf
  obtain ⟨j1,j2⟩:=(hj H O M x.fix x.mst w hG i).2 l[i] hy
  refine .inr ⟨j1,fun σ' H'=>∃ O ρ M,Wf H' O M/\Er H' O M σ' ρ/\Ext H1 O1 M1 H' O M/\Pv (i+1) ρ M,fun σ' H' z=>⟨l.length - (i+1),by omega,rfl,hil,z⟩,fun v H' hv=>?_⟩
  obtain ⟨k2,w2,r2⟩:=j2 v H' hv
  refine hg.go w2 (e.ext k2) r2 q2 fun σ3 H3 O3 ρ3 M3 q3 k3 w3 e3=>?_
  exact hb.go w1 w3 e3 ((x.trans k2).trans k3) q3 ⟨fun σ H O ρ M w e x q=>⟨O,ρ,M,w,e,x,q⟩,E1.rt,E1.nx,fun σ H O ρ M w e x q=>⟨O,ρ,M,w,e,x,q⟩⟩
 ·have e0:i=l.length:=by omega
  subst e0
  obtain ⟨hG,q2⟩:=pd ρ M hf
  exact .inl ⟨(hj H O M x.fix x.mst w hG l.length).1 rfl,E1.nx _ _ _ _ _ w e x q2⟩⟩
theorem kR {H H1:Hp}{O O1:Own}{M M1:MH}(w1:Wf H1 O1 M1)(k1:Ext H O M H1 O1 M1){p:Addr}(hp:H1 p=none):H p=none:=by
 cases e0:H p with
 | none=>rfl
 | some o=>
  exfalso
  by_cases c:O p
  ·by_cases c2:M p=none
   ·exact w1.ne p (k1.prv p c c2).2.1 hp
   ·exact w1.ne p (w1.own p (k1.mst p c2)) hp
  ·rw [(k1.fix p o c e0).1] at hp;cases hp
theorem Zh {K:PySem.W.Frag}{H:Hp}{O:Own}{M:MH}{a:Addr}{x:AV}{l:List AV}(r:zi H O M (.ref a) x)(h:zN x M=some l):jR (Itl K a) H O M l (fun M'=>zN x M'=some l):=by
 intro H' O' M' fix mst w' hG i
 obtain ⟨a',xs,e,h1,r1⟩:=zS w' (r.imp fix mst) hG
 cases e
 refine ⟨fun e=>⟨xs,SqL.of h1,by rw [r1.1];omega⟩,fun y hy=>?_⟩
 obtain ⟨v,hv,rv⟩:=r1.get hy
 refine ⟨⟨xs,v,SqL.of h1,hv⟩,fun z H'' hz=>?_⟩
 obtain ⟨e1,e2⟩:=hz
 subst e1
 have:=e2 xs (SqL.of h1)
 rw [hv] at this;cases this
 exact ⟨.refl,w',rv⟩
theorem Jp {K:PySem.W.Frag}{H:Hp}{O:Own}{M:MH}{a:Addr}{x:AV}{l:List AV}(r:zi H O M (.ref a) x)(h:YE x=some l):jR (Itt K a) H O M l (fun _=>True):=by
 intro H' O' M' fix mst w' hG i
 obtain ⟨a',xs,e,h1,r1⟩:=qe (r.imp fix mst) h
 cases e
 refine ⟨fun e=>⟨xs,SqT.of h1,by rw [r1.1];omega⟩,fun y hy=>?_⟩
 obtain ⟨v,hv,rv⟩:=r1.get hy
 refine ⟨⟨xs,v,SqT.of h1,hv⟩,fun z H'' hz=>?_⟩
 obtain ⟨e1,e2⟩:=hz
 subst e1
 have:=e2 xs (SqT.of h1)
 rw [hv] at this;cases this
 exact ⟨.refl,w',rv⟩
noncomputable def aiS (a:AE):AI:=fun ρ M R=>a ρ M fun x M1=>∃ l,qK x M1=some l/\R l (fun M'=>qK x M'=some l) M1
theorem jR.mono {J:It}{H:Hp}{O:Own}{M:MH}{l:List AV}{G G':MH->Prop}(h:jR J H O M l G)(k:∀ M,G' M->G M):jR J H O M l G':=fun H' O' M' fix mst w' hG=>h H' O' M' fix mst w' (k _ hG)
theorem Yg {K:PySem.W.Frag}{t:TE}{a:AE}(h:zE t a):xa (iLT K t) (aiS a):=⟨fun w e q k=>h.go w e q fun x M1 v H1 O1 ⟨l,hl,q1⟩ k1 w1 r1=>by
 rcases qJ hl with hl' | ⟨m,rfl,rfl⟩
 ·obtain ⟨a,xs,rfl,h1,_⟩:=zS w1 r1 hl'
  refine ⟨a,rfl,.inl ⟨⟨xs,SqL.of h1⟩,k _ _ _ _ _ _ q1 k1 w1 ((Zh r1 hl').mono fun M hM=>?_)⟩⟩
  rcases qJ hM with z | ⟨m,rfl,rfl⟩
  ·exact z
  ·cases hl'
 ·obtain ⟨a,xs,rfl,h1,_⟩:=qe (l:=m.map .d) r1 rfl
  exact ⟨a,rfl,.inr ⟨⟨xs,SqT.of h1⟩,k _ _ _ _ _ _ q1 k1 w1 ((Jp r1 rfl).mono fun _ _=>trivial)⟩⟩⟩
noncomputable def jQ (lo c:Int)(n:Nat):List AV:=(List.range n).map fun (k:Nat)=>.d (.int (lo+(k:Int) * c))
theorem qx (lo c:Int)(n:Nat):(jQ lo c n).length=n:=by simp [jQ]
theorem qX {lo c:Int}{n i:Nat}{y:AV}(h:(jQ lo c n)[i]?=some y):i<n/\y=.d (.int (lo+(i:Int) * c)):=by
 have hi:=(List.getElem?_eq_some_iff.mp h).1
 rw [qx] at hi
 unfold jQ at h
 rw [List.getElem?_map,List.getElem?_range hi] at h
 cases h
 exact ⟨hi,rfl⟩
theorem JE {H:Hp}{O:Own}{M:MH}(lo:Int)(n:Nat):jR (Itr lo n) H O M (jQ lo 1 n) (fun _=>True):=by
 intro H' O' M' fix mst w' hG i
 refine ⟨fun e=>by rw [qx] at e;exact Nat.le_of_eq e.symm,fun y hy=>?_⟩
 obtain ⟨hi,rfl⟩:=qX hy
 refine ⟨hi,fun z H'' hz=>?_⟩
 obtain ⟨rfl,rfl⟩:=hz
 rw [Int.mul_one]
 exact ⟨.refl,w',.int⟩
noncomputable def WM (a:AA):AI:=fun ρ M R=>a ρ M fun xs M1=>∃ j:Int,xs=[.d (.int j)]/\-(2 ^ 62)<=j/\j<2 ^ 62/\R (jQ 0 1 j.toNat) (fun _=>True) M1
theorem Xq {t:TA}{a:AA}(h:jn t a):xa (QB t) (WM a):=⟨fun w e q k=>h.go w e q fun x M1 v H1 O1 ⟨j,e1,j1,j2,q1⟩ k1 w1 r1=>by
 subst e1
 obtain ⟨v1,r',rfl,a1,r2⟩:=r1.cons_inv
 rw [r2.nil_inv,zA a1]
 exact ⟨j,rfl,j1,j2,k _ _ _ _ _ _ q1 k1 w1 (JE _ _)⟩⟩
noncomputable def kn (m:List Dat):List AV:=(List.range m.length).map fun (i:Nat)=>.d (.tup [.int (i:Int),m.getD i .non])
theorem ji (m:List Dat):(kn m).length=m.length:=by simp [kn]
theorem jV {m:List Dat}{i:Nat}{y:AV}(h:(kn m)[i]?=some y):∃ d,m[i]?=some d/\y=.d (.tup [.int (i:Int),d]):=by
 have hi:=(List.getElem?_eq_some_iff.mp h).1
 rw [ji] at hi
 unfold kn at h
 rw [List.getElem?_map,List.getElem?_range hi] at h
 cases h
 exact ⟨m[i],List.getElem?_eq_getElem hi,by dsimp only;rw [List.getD_eq_getElem?_getD,List.getElem?_eq_getElem hi];rfl⟩
theorem jC {H:Hp}{O:Own}{M:MH}(w:Wf H O M){p:Addr}(hp:H p=none){x y:V}{d e:Dat}(r1:Rep H O x d)(r2:Rep H O y e):Ext H O M (upd H p (.tup [x,y])) O M/\Wf (upd H p (.tup [x,y])) O M/\zi (upd H p (.tup [x,y])) O M (.ref p) (.d (.tup [d,e])):=
 ⟨qo w hp _,yq w hp _,Rep.tup (w.fresh hp).1 zl rfl fun i z f h1 h2=>by
  match i,h1,h2 with
  | 0,h1,h2=>cases h1;cases h2;exact r1.ext (qo w hp _)
  | 1,h1,h2=>cases h1;cases h2;exact r2.ext (qo w hp _)
  | (i+2),h1,_=>cases h1⟩
theorem Zr {K:PySem.W.Frag}{H:Hp}{O:Own}{M:MH}{a:Addr}{x:AV}{m:List Dat}(r:zi H O M (.ref a) x)(h:zN x M=some (m.map .d)):jR (Ite K a) H O M (kn m) (fun M'=>zN x M'=some (m.map .d)):=by
 intro H' O' M' fix mst w' hG i
 obtain ⟨a',xs,e,h1,r1⟩:=zS w' (r.imp fix mst) hG
 cases e
 have l1:=r1.1
 rw [List.length_map] at l1
 refine ⟨fun e=>⟨xs,SqL.of h1,by rw [ji] at e;omega⟩,fun y hy=>?_⟩
 obtain ⟨d,hd,rfl⟩:=jV hy
 obtain ⟨v,hv,rv⟩:=r1.get (i:=i) (d:=.d d) (by rw [List.getElem?_map,hd];rfl)
 refine ⟨⟨xs,v,SqL.of h1,hv⟩,fun z H'' hz=>?_⟩
 obtain ⟨p,x',hp,rfl,e2,rfl⟩:=hz
 have:=e2 xs (SqL.of h1)
 rw [hv] at this;cases this
 exact jC w' hp .int rv
theorem v7 {K:PySem.W.Frag}{H:Hp}{O:Own}{M:MH}{a:Addr}{m:List Dat}(r:zi H O M (.ref a) (.d (.tup m))):jR (Yf K a) H O M (kn m) (fun _=>True):=by
 intro H' O' M' fix mst w' hG i
 obtain ⟨a',xs,e,h1,r1⟩:=qe (l:=m.map .d) (r.imp fix mst) rfl
 cases e
 have l1:=r1.1
 rw [List.length_map] at l1
 refine ⟨fun e=>⟨xs,SqT.of h1,by rw [ji] at e;omega⟩,fun y hy=>?_⟩
 obtain ⟨d,hd,rfl⟩:=jV hy
 obtain ⟨v,hv,rv⟩:=r1.get (i:=i) (d:=.d d) (by rw [List.getElem?_map,hd];rfl)
 refine ⟨⟨xs,v,SqT.of h1,hv⟩,fun z H'' hz=>?_⟩
 obtain ⟨p,x',hp,rfl,e2,rfl⟩:=hz
 have:=e2 xs (SqT.of h1)
 rw [hv] at this;cases this
 exact jC w' hp .int rv
noncomputable def aiE (a:AA):AI:=fun ρ M R=>a ρ M fun xs M1=>∃ x l m,xs=[x]/\qK x M1=some l/\pur l=some m/\R (kn m) (fun M'=>qK x M'=some l) M1
theorem vQ {x:AV}{M M':MH}{l l':List AV}(h:zN x M=some l)(h':qK x M'=some l'):zN x M'=some l':=by
 rcases qJ h' with z | ⟨m,rfl,rfl⟩
 ·exact z
 ·cases h
theorem VF {K:PySem.W.Frag}{t:TA}{a:AA}(h:jn t a):xa (yk K t) (aiE a):=⟨fun w e q k=>h.go w e q fun xs M1 v H1 O1 ⟨x,l,m,e1,hl,hm,q1⟩ k1 w1 r1=>by
 subst e1
 obtain ⟨v1,r',rfl,a1,r2⟩:=r1.cons_inv
 rw [r2.nil_inv]
 rw [qO hm] at hl q1
 rcases qJ hl with hl' | ⟨m',rfl,e2⟩
 ·obtain ⟨a,xs,rfl,h1,_⟩:=zS w1 a1 hl'
  exact ⟨a,rfl,.inl ⟨⟨xs,SqL.of h1⟩,k _ _ _ _ _ _ q1 k1 w1 ((Zr a1 hl').mono fun M hM=>vQ hl' hM)⟩⟩
 ·obtain rfl:m=m':=by have:=congrArg pur e2;rw [zR,zR] at this;cases this;rfl
  obtain ⟨a,xs,rfl,h1,_⟩:=qe (l:=m.map .d) a1 rfl
  exact ⟨a,rfl,.inr ⟨⟨xs,SqT.of h1⟩,k _ _ _ _ _ _ q1 k1 w1 ((v7 a1).mono fun _ _=>trivial)⟩⟩⟩
noncomputable def xP (m n:List Dat):List AV:=(List.range (min m.length n.length)).map fun (i:Nat)=>.d (.tup [m.getD i .non,n.getD i .non])
theorem ja (m n:List Dat):(xP m n).length=min m.length n.length:=by simp [xP]
theorem kU {m n:List Dat}{i:Nat}{y:AV}(h:(xP m n)[i]?=some y):∃ d e,m[i]?=some d/\n[i]?=some e/\y=.d (.tup [d,e]):=by
 have hi:=(List.getElem?_eq_some_iff.mp h).1
 rw [ja] at hi
 unfold xP at h
 rw [List.getElem?_map,List.getElem?_range hi] at h
 cases h
 have h1:i<m.length:=by omega
 have h2:i<n.length:=by omega
 exact ⟨m[i],n[i],List.getElem?_eq_getElem h1,List.getElem?_eq_getElem h2,by dsimp only;rw [List.getD_eq_getElem?_getD,List.getElem?_eq_getElem h1,List.getD_eq_getElem?_getD,List.getElem?_eq_getElem h2];rfl⟩
theorem Qc {K:PySem.W.Frag}{H:Hp}{O:Own}{M:MH}{a b:Addr}{x y:AV}{m n:List Dat}(r:zi H O M (.ref a) x)(h:zN x M=some (m.map .d))(r':zi H O M (.ref b) y)(h':zN y M=some (n.map .d)):jR (Itz K a b) H O M (xP m n) (fun M'=>zN x M'=some (m.map .d)/\zN y M'=some (n.map .d)):=by
 intro H' O' M' fix mst w' hG i
 obtain ⟨a',xs,e,h1,r1⟩:=zS w' (r.imp fix mst) hG.1
 cases e
 obtain ⟨b',ys,e,h2,r2⟩:=zS w' (r'.imp fix mst) hG.2
 cases e
 have l1:=r1.1
 have l2:=r2.1
 rw [List.length_map] at l1 l2
 refine ⟨fun e=>⟨xs,ys,SqL.of h1,SqL.of h2,by rw [ja] at e;omega⟩,fun z hz=>?_⟩
 obtain ⟨d,f,hd,hf,rfl⟩:=kU hz
 obtain ⟨v,hv,rv⟩:=r1.get (i:=i) (d:=.d d) (by rw [List.getElem?_map,hd];rfl)
 obtain ⟨u,hu,ru⟩:=r2.get (i:=i) (d:=.d f) (by rw [List.getElem?_map,hf];rfl)
 refine ⟨⟨xs,ys,v,u,SqL.of h1,SqL.of h2,hv,hu⟩,fun z H'' hz=>?_⟩
 obtain ⟨p,x',y',hp,rfl,e2,e3,rfl⟩:=hz
 have:=e2 xs (SqL.of h1)
 rw [hv] at this;cases this
 have:=e3 ys (SqL.of h2)
 rw [hu] at this;cases this
 exact jC w' hp rv ru
theorem Z1 {K:PySem.W.Frag}{H:Hp}{O:Own}{M:MH}{a b:Addr}{m n:List Dat}(hmn:m.length<=n.length)(r:zi H O M (.ref a) (.d (.tup m)))(r':zi H O M (.ref b) (.d (.tup n))):jR (Yn K a b) H O M (xP m n) (fun _=>True):=by
 intro H' O' M' fix mst w' hG i
 obtain ⟨a',xs,e,h1,r1⟩:=qe (l:=m.map .d) (r.imp fix mst) rfl
 cases e
 obtain ⟨b',ys,e,h2,r2⟩:=qe (l:=n.map .d) (r'.imp fix mst) rfl
 cases e
 have l1:=r1.1
 have l2:=r2.1
 rw [List.length_map] at l1 l2
 refine ⟨fun e=>⟨xs,SqT.of h1,by rw [ja] at e;omega⟩,fun z hz=>?_⟩
 obtain ⟨d,f,hd,hf,rfl⟩:=kU hz
 obtain ⟨v,hv,rv⟩:=r1.get (i:=i) (d:=.d d) (by rw [List.getElem?_map,hd];rfl)
 obtain ⟨u,hu,ru⟩:=r2.get (i:=i) (d:=.d f) (by rw [List.getElem?_map,hf];rfl)
 refine ⟨⟨xs,ys,v,u,SqT.of h1,SqT.of h2,hv,hu⟩,fun z H'' hz=>?_⟩
 obtain ⟨p,x',y',hp,rfl,e2,e3,rfl⟩:=hz
 have:=e2 xs (SqT.of h1)
 rw [hv] at this;cases this
 have:=e3 ys (SqT.of h2)
 rw [hu] at this;cases this
 exact jC w' hp rv ru
noncomputable def WO (a:AA):AI:=fun ρ M R=>a ρ M fun xs M1=>∃ x y m n,xs=[x,y]/\((zN x M1=some (List.map AV.d m)/\zN y M1=some (List.map AV.d n)) \/ (x=.d (.tup m)/\y=.d (.tup n)/\m.length<=n.length))/\R (xP m n) (fun M'=>zN x M'=zN x M1/\zN y M'=zN y M1) M1
theorem KA {K:PySem.W.Frag}{t:TA}{a:AA}(h:jn t a):xa (v9 K t) (WO a):=⟨fun w e q k=>h.go w e q fun xs M1 v H1 O1 ⟨x,y,m,n,e1,hxy,q1⟩ k1 w1 r1=>by
 subst e1
 obtain ⟨v1,r',rfl,a1,r2⟩:=r1.cons_inv
 obtain ⟨v2,r',rfl,a2,r3⟩:=r2.cons_inv
 rw [r3.nil_inv]
 rcases hxy with ⟨hx,hy⟩ | ⟨rfl,rfl,hmn⟩
 ·obtain ⟨a,xs,rfl,h1,_⟩:=zS w1 a1 hx
  obtain ⟨b,ys,rfl,h2,_⟩:=zS w1 a2 hy
  exact ⟨a,b,rfl,.inl ⟨⟨xs,SqL.of h1⟩,⟨ys,SqL.of h2⟩,k _ _ _ _ _ _ q1 k1 w1 ((Qc a1 hx a2 hy).mono fun _ z=>⟨z.1.trans hx,z.2.trans hy⟩)⟩⟩
 ·obtain ⟨a,xs,rfl,h1,_⟩:=qe (l:=m.map .d) a1 rfl
  obtain ⟨b,ys,rfl,h2,_⟩:=qe (l:=n.map .d) a2 rfl
  exact ⟨a,b,rfl,.inr ⟨⟨xs,SqT.of h1⟩,⟨ys,SqT.of h2⟩,k _ _ _ _ _ _ q1 k1 w1 ((Z1 hmn a1 a2).mono fun _ _=>trivial)⟩⟩⟩
structure kg (D:Addr)(H:Hp)(O:Own)(M:MH)(H':Hp)(O':Own)(M':MH):Prop where
 fix:∀ a o,¬ O a->H a=some o->H' a=some o/\¬ O' a
 prv:∀ a,a ≠ D->O a->M a=none->H' a=H a/\O' a/\M' a=none
 mst:∀ a,M a ≠ none->M' a ≠ none
theorem Ext.x {D:Addr}{H H':Hp}{O O':Own}{M M':MH}(k:Ext H O M H' O' M'):kg D H O M H' O' M':=⟨k.fix,fun a _=>k.prv a,k.mst⟩
theorem kg.trans {D:Addr}{H H1 H2:Hp}{O O1 O2:Own}{M M1 M2:MH}(a:kg D H O M H1 O1 M1)(b:kg D H1 O1 M1 H2 O2 M2):kg D H O M H2 O2 M2:=
 ⟨fun x o h e=>let ⟨e1,h1⟩:=a.fix x o h e;b.fix x o h1 e1,fun x hx h e=>by
  obtain ⟨e1,h1,n1⟩:=a.prv x hx h e
  obtain ⟨e2,h2,n2⟩:=b.prv x hx h1 n1
  exact ⟨e2.trans e1,h2,n2⟩,fun x h=>b.mst x (a.mst x h)⟩
theorem kg.set {D:Addr}{H:Hp}{O:Own}{M:MH}(hO:O D)(o:HO):kg D H O M (upd H D o) O M:=⟨ki hO o,fun a ha h e=>⟨ze ha,h,e⟩,fun _ h=>h⟩
theorem Er.imp {H H':Hp}{O O':Own}{M M':MH}{σ:St}{ρ:ASt}(e:Er H O M σ ρ)(k:∀ a o,¬ O a->H a=some o->H' a=some o/\¬ O' a)(hm:∀ a,M a ≠ none->M' a ≠ none):Er H' O' M' σ ρ:=⟨e.len,fun i x h=>let ⟨v,h1,h2⟩:=e.get i x h;⟨v,h1,h2.imp k hm⟩⟩
noncomputable abbrev ATR:=List AV->ASt->MH->(List AV->ASt->MH->Prop)->Prop
structure xj (D:Addr)(tr:TR)(a:ATR):Prop where
 go:∀ {σ:St} {H:Hp} {O:Own} {ρ:ASt} {M:MH} {acc:List AV} {ys:List V} {N:St->Hp->Prop} {N':List AV->ASt->MH->Prop},Wf H O M->Er H O M σ ρ->O D->M D=none->H D=some (.lst ys)->zd H O M ys acc->a acc ρ M N' ->
  (∀ acc' ρ' M' σ' H' O' ys',N' acc' ρ' M'->kg D H O M H' O' M'->Wf H' O' M'->Er H' O' M' σ' ρ'->O' D->M' D=none->H' D=some (.lst ys')->zd H' O' M' ys' acc'->N σ' H')->tr σ H N
noncomputable def xx (a:AE):ATR:=fun acc ρ M N=>a ρ M fun x M1=>acc.length<sizeLine/\N (acc ++ [x]) ρ M1
theorem kS {D:Addr}{t:TE}{a:AE}(h:zE t a):xj D (kK t D) (xx a):=⟨fun {σ H O ρ M acc ys N N'} w e o m hd r q k=>h.go w e q fun x M1 v H1 O1 ⟨q0,q1⟩ k1 w1 r1=>by
 obtain ⟨e1,o1,m1⟩:=k1.prv D o m
 have r':=r.ext k1
 refine ⟨ys,e1.trans hd,by rw [r.1];exact q0,k _ _ _ _ _ _ (ys ++ [v]) q1 (k1.x.trans (kg.set o1 _)) (vC w1 o1 m1 (e1.trans hd) _ (fun _ z=>nomatch z)) ((e.ext k1).imp (ki o1 _) (fun _ z=>z)) o1 m1 zl ((r'.snoc r1).imp (ki o1 _) (fun _ z=>z))⟩⟩
noncomputable def Zi (ag:AG)(at_:AT)(tr:ATR)(G:MH->Prop)(N:List AV->ASt->MH->Prop)(l acc:List AV)(ρ:ASt)(M:MH):Prop:=
 ∃ Pv:Nat->List AV->ASt->MH->Prop,Pv 0 acc ρ M/\(∀ i x acc ρ M,l[i]?=some x->Pv i acc ρ M->G M/\ag x ρ M fun ρ2 M2=>at_ ρ2 M2 fun b M3=>if b=true then tr acc ρ2 M3 (Pv (i+1)) else Pv (i+1) acc ρ2 M3)/\∀ acc ρ M,Pv l.length acc ρ M->G M/\N acc ρ M
theorem Qz {D:Addr}{g:TG}{tt:TT}{tr:TR}{ag:AG}{at_:AT}{atr:ATR}(hg:j7 g ag)(ht:jw tt at_)(hr:xj D tr atr){J:It}{H1:Hp}{O1:Own}{M1:MH}{l:List AV}{G:MH->Prop}(hj:jR J H1 O1 M1 l G){N':List AV->ASt->MH->Prop}{N:St->Hp->Prop}
  {σ:St} {ρ:ASt} {acc:List AV} {ys:List V} (w:Wf H1 O1 M1) (e:Er H1 O1 M1 σ ρ) (o:O1 D) (m:M1 D=none) (hd:H1 D=some (.lst ys)) (r:zd H1 O1 M1 ys acc) (q:Zi ag at_ atr G N' l acc ρ M1)
  (k:∀ acc' ρ' M' σ' H' O' ys',N' acc' ρ' M'->kg D H1 O1 M1 H' O' M'->Wf H' O' M'->Er H' O' M' σ' ρ'->O' D->M' D=none->H' D=some (.lst ys')->zd H' O' M' ys' acc'->N σ' H'):CL J g tt tr N σ H1:=by
 obtain ⟨Pv,p0,ps,pd⟩:=q
 refine ⟨fun i n σ H=>n=l.length - i/\i<=l.length/\∃ O ρ M acc ys,Wf H O M/\Er H O M σ ρ/\kg D H1 O1 M1 H O M/\O D/\M D=none/\H D=some (.lst ys)/\zd H O M ys acc/\Pv i acc ρ M,
  ⟨l.length,by simp,Nat.zero_le _,O1,ρ,M1,acc,ys,w,e,Ext.refl.x,o,m,hd,r,p0⟩,?_⟩
 rintro i n σ H ⟨rfl,hi,O,ρ,M,acc,ys,w,e,x,o,m,hd,r,hf⟩
 by_cases hil:i<l.length
 ·have hy:l[i]?=some l[i]:=List.getElem?_eq_getElem hil
  obtain ⟨hG,q2⟩:=ps i l[i] acc ρ M hy hf
  obtain ⟨j1,j2⟩:=(hj H O M x.fix x.mst w hG i).2 l[i] hy
  refine .inr ⟨j1,fun σ' H'=>∃ O ρ M acc ys,Wf H' O M/\Er H' O M σ' ρ/\kg D H1 O1 M1 H' O M/\O D/\M D=none/\H' D=some (.lst ys)/\zd H' O M ys acc/\Pv (i+1) acc ρ M,fun σ' H' z=>⟨l.length - (i+1),by omega,rfl,hil,z⟩,fun v H' hv=>?_⟩
  obtain ⟨k2,w2,r2⟩:=j2 v H' hv
  refine hg.go w2 (e.ext k2) r2 q2 fun σ3 H3 O3 ρ3 M3 q3 k3 w3 e3=>?_
  refine ht.go w3 e3 q3 fun b M4 H4 O4 q4 k4 w4=>?_
  have k24:=(k2.trans k3).trans k4
  obtain ⟨d4,o4,m4⟩:=k24.prv D o m
  have r4:=r.ext k24
  cases b with
  | true=>
   exact hr.go w4 (e3.ext k4) o4 m4 (d4.trans hd) r4 q4 fun acc' ρ' M' σ' H' O' ys' q5 k5 w5 e5 o5 m5 d5 r5=>⟨O',ρ',M',acc',ys',w5,e5,(x.trans k24.x).trans k5,o5,m5,d5,r5,q5⟩
  | false=>
   exact ⟨O4,ρ3,M4,acc,ys,w4,e3.ext k4,x.trans k24.x,o4,m4,d4.trans hd,r4,q4⟩
 ·have e0:i=l.length:=by omega
  subst e0
  obtain ⟨hG,q2⟩:=pd acc ρ M hf
  exact .inl ⟨(hj H O M x.fix x.mst w hG l.length).1 rfl,k _ _ _ _ _ _ _ q2 x w e o m hd r⟩
noncomputable def vW (ai:AI)(ag:AG)(at_:AT)(atr:ATR):ATR:=fun acc ρ M N=>ai ρ M fun l G M1=>Zi ag at_ atr G N l acc ρ M1
theorem xh {D:Addr}{wi:TI}{g:TG}{tt:TT}{tr:Addr->TR}{ai:AI}{ag:AG}{at_:AT}{atr:ATR}(hi:xa wi ai)(hg:j7 g ag)(ht:jw tt at_)(hr:xj D (tr D) atr):xj D (yc wi g tt tr D) (vW ai ag at_ atr):=⟨fun w e o m hd r q k=>by
 refine hi.go w e q fun l G M1 J H1 O1 q1 k1 w1 hj=>?_
 obtain ⟨d1,o1,m1⟩:=k1.prv D o m
 exact Qz hg ht hr hj w1 (e.ext k1) o1 m1 (d1.trans hd) (r.ext k1) q1 fun acc' ρ' M' σ' H' O' ys' q5 k5 w5 e5 o5 m5 d5 r5=>k _ _ _ _ _ _ _ q5 (k1.x.trans k5) w5 e5 o5 m5 d5 r5⟩
noncomputable def wG (ts:List Nat)(ai:AI)(ag:AG)(at_:AT)(atr:ATR):AF:=fun ρ M Q=>ai ρ M fun l G M1=>Zi ag at_ atr G (fun acc _ M'=>Q acc M') l [] (Xr ts ρ) M1
theorem kA {ts:List Nat}{wi:TI}{g:TG}{tt:TT}{tr:Addr->TR}{ai:AI}{ag:AG}{at_:AT}{atr:ATR}(hi:xa wi ai)(hg:j7 g ag)(ht:jw tt at_)(hr:∀ D,xj D (tr D) atr):yC (j9 ts wi g tt tr) (wG ts ai ag at_ atr):=⟨fun {σ H O ρ M Q Q'} w e q k=>by
 refine hi.go w e q fun l G M1 J H1 O1 q1 k1 w1 hj D hD=>?_
 have kp:=qz w1 hD (.lst [])
 have hj':jR J (upd H1 D (.lst [])) (yj O1 D) M1 l G:=fun H' O' M' fix mst w' hG=>hj H' O' M' (fun a o ha ho=>fix a o (kp.fix a o ha ho).2 (kp.fix a o ha ho).1) mst w' hG
 refine Qz hg ht (hr D) hj' (xR w1 hD _ (fun _ z=>nomatch z)) (((e.ext k1).clr ts).ext kp) (.inl rfl) (w1.fresh hD).2 zl .nil q1 fun acc' ρ' M' σ' H' O' ys' q5 k5 w5 e5 o5 m5 d5 r5=>?_
 have hH:=kR w1 k1 hD
 refine k _ _ _ _ _ _ q5 ⟨fun a o ha ho=>?_,fun a ha hm=>?_,fun a hm=>k5.mst a (k1.mst a hm)⟩ w5 o5 m5 hH d5 r5
 ·obtain ⟨x1,x2⟩:=(k1.trans kp).fix a o ha ho
  exact k5.fix a o x2 x1
 ·obtain ⟨x1,x2,x3⟩:=(k1.trans kp).prv a ha hm
  obtain ⟨y1,y2,y3⟩:=k5.prv a (fun z=>w.ne a ha (by rw [z];exact hH)) x2 x3
  exact ⟨y1.trans x1,y2,y3⟩⟩
theorem ZH {ts:List Nat}{wi:TI}{g:TG}{tt:TT}{te:TE}{ai:AI}{ag:AG}{at_:AT}{ae:AE}(hi:xa wi ai)(hg:j7 g ag)(ht:jw tt at_)(he:zE te ae):yC (wH ts wi g tt te) (wG ts ai ag at_ (xx ae)):=
 ⟨fun w e q k=>(kA (ts:=ts) (tr:=kK te) hi hg ht fun D=>kS he).go w e q k⟩
noncomputable def aI (C:Int->Int->Prop)(g:Int->Int->Dat):AR2:=fun x y M Q=>∃ i j,x=.d (.int i)/\y=.d (.int j)/\C i j/\Q (.d (g i j)) M
noncomputable def aI0 (g:Int->Int->Dat):AR2:=fun x y M Q=>∃ i j,x=.d (.int i)/\y=.d (.int j)/\Q (.d (g i j)) M
theorem VV {C:Int->Int->Prop}{f:Int->Int->Int}:Zp (rI C fun i j=>.int (f i j)) (aI C fun i j=>.int (f i j)):=⟨fun w r1 r2 ⟨i,j,e1,e2,c,q⟩ k=>by
 subst e1 e2;exact ⟨i,j,zA r1,zA r2,c,k _ _ _ _ _ q .refl w .int⟩⟩
theorem Xm {f:Int->Int->Int}:Zp (rI0 fun i j=>.int (f i j)) (aI0 fun i j=>.int (f i j)):=⟨fun w r1 r2 ⟨i,j,e1,e2,q⟩ k=>by
 subst e1 e2;exact ⟨i,j,zA r1,zA r2,k _ _ _ _ _ q .refl w .int⟩⟩
noncomputable def eqS:Dat->Dat->Option Bool
 | .non,.non=>some true | .non,.int _=>some false | .int _,.non=>some false | .non,.bl _=>some false | .bl _,.non=>some false | .non,.str _=>some false | .str _,.non=>some false
 | .int i,.int j=>some (decide (i=j)) | .bl a,.bl b=>some (decide (a=b)) | .str a,.str b=>some (decide (a=b))
 | .int _,.str _=>some false | .str _,.int _=>some false | .bl _,.str _=>some false | .str _,.bl _=>some false
 | _,_=>none
noncomputable def jr:AV->Bool
 | .d .non=>true
 | _=>false
theorem JK {H:Hp}{O:Own}{M:MH}{v:V}{x:AV}(r:zi H O M v x):decide (v=V.non)=jr x:=by
 cases x with
 | ref a=>rw [r.1];rfl
 | d x=>cases (show Rep H O v x from r) <;> rfl
noncomputable def V6 (f:Bool->Bool):AR2:=fun x y M Q=>y=.d .non/\Q (.d (.bl (f (jr x)))) M
theorem KL:Zp (fun x y H Q=>y=V.non/\Q (V.bl (decide (x=V.non))) H) (V6 id):=⟨fun w r1 r2 ⟨e,q⟩ k=>by
 subst e;exact ⟨KO r2,by rw [JK r1];exact k _ _ _ _ _ q .refl w .bl⟩⟩
theorem Xt {H:Hp}{O:Own}{M:MH}{xs:List V}{l:List AV}(r:zd H O M xs l){i:Int}{x:AV}(h:atI l i=some x):∃ v,atI xs i=some v/\zi H O M v x:=by
 unfold atI at h ⊢
 rw [r.1]
 cases e:ixN l.length i with
 | none=>rw [e] at h;cases h
 | some j=>rw [e] at h;exact r.get h
noncomputable def aIx (s:AV->MH->Option (List AV)):AR2:=fun x y M Q=>∃ l i z,s x M=some l/\y=.d (.int i)/\atI l i=some z/\Q z M
theorem JL {K:PySem.W.Frag}:Zp (wr K) (aIx qK):=⟨fun w r1 r2 ⟨l,i,z,h,e,hz,q⟩ k=>by
 subst e
 obtain ⟨a,xs,rfl,h1,r⟩:=xS w r1 h
 obtain ⟨v,hv,rv⟩:=Xt r hz
 exact ⟨a,xs,i,v,rfl,zA r2,h1.elim (fun h=>.inl (SqL.of h)) (fun h=>.inr (SqT.of h)),hv,k _ _ _ _ _ q .refl w rv⟩⟩
structure X1 (r:R2)(a:AV->AV->MH->(List AV->Prop)->Prop):Prop where
 go:∀ {x y:V} {dx dy:AV} {H:Hp} {O:Own} {M:MH} {Q:VK} {Q':List AV->Prop},Wf H O M->zi H O M x dx->zi H O M y dy->a dx dy M Q'->(∀ l ys,Q' l->zd H O M ys l->∀ p,H p=none->Q (.ref p) (upd H p (.lst ys)))->r x y H Q
noncomputable def fOp (r:AV->AV->MH->(List AV->Prop)->Prop)(a b:AE):AF:=fun ρ M Q=>a ρ M fun x M1=>b ρ M1 fun y M2=>r x y M2 fun l=>Q l M2
theorem KP {r:R2}{ra:AV->AV->MH->(List AV->Prop)->Prop}{t u:TE}{a b:AE}(hr:X1 r ra)(h1:zE t a)(h2:zE u b):yC (tOp r t u) (fOp ra a b):=
 ⟨fun w e q k=>h1.go w e q fun x M1 v H1 O1 q1 k1 w1 r1=>h2.go w1 (e.ext k1) q1 fun y M2 u H2 O2 q2 k2 w2 r2=>hr.go w2 (r1.ext k2) r2 q2 fun l ys q3 r3 p hp=>
  k l M2 p ys _ _ q3 ((k1.trans k2).trans (qz w2 hp _)) (xR w2 hp _ (fun _ z=>nomatch z)) (.inl rfl) (w2.fresh hp).2 (kR w2 (k1.trans k2) hp) zl (r3.ext (qz w2 hp _))⟩
theorem zd.rep {H:Hp}{O:Own}{M:MH}{xs:List V}{l:List AV}(a:zd H O M xs l):∀ k:Nat,zd H O M (List.replicate k xs).flatten (List.replicate k l).flatten
 | 0=>.nil
 | k+1=>by rw [List.replicate_succ,List.replicate_succ,List.flatten_cons,List.flatten_cons];exact a.append (zd.rep a k)
noncomputable def Wq:AV->AV->MH->(List AV->Prop)->Prop:=fun x y M Q=>∃ l k,zN x M=some l/\y=.d (.int k)/\-(2 ^ 63)<=k/\k<2 ^ 63/\l.length * k.toNat<=sizeLine/\Q (List.replicate k.toNat l).flatten
theorem Qg:X1 VT Wq:=⟨fun w r1 r2 ⟨l,n,h1,e,b1,b2,hs,q⟩ k=>by
 subst e
 obtain ⟨a,xs,rfl,e1,p1⟩:=zS w r1 h1
 exact ⟨a,n,xs,rfl,zA r2,e1,b1,b2,by rw [p1.1];exact hs,k _ _ q (p1.rep _)⟩⟩
noncomputable abbrev AO:=ASt->MH->(Option Int->MH->Prop)->Prop
structure Ao (t:TO)(a:AO):Prop where
 go:∀ {σ:St} {H:Hp} {O:Own} {ρ:ASt} {M:MH} {Q:Option Int->Hp->Prop} {Q':Option Int->MH->Prop},Wf H O M->Er H O M σ ρ->a ρ M Q'->(∀ x M' H' O',Q' x M'->Ext H O M H' O' M'->Wf H' O' M'->Q x H')->t σ H Q
theorem KI {H:Hp}{O:Own}{M:MH}(w:Wf H O M){p:Addr}(hp:H p=none){xs:List V}{l:List Dat}(r:zd H O M xs (l.map .d)):zi (upd H p (.tup xs)) O M (.ref p) (.d (.tup l)):=
 have r2:=r.pure
 Rep.tup (w.fresh hp).1 zl r2.1 fun i x d e1 e2=>(r2.2 i x d e1 e2).ext (qo w hp _)
theorem zd.reverse {H:Hp}{O:Own}{M:MH}{xs:List V}{l:List AV}(a:zd H O M xs l):zd H O M xs.reverse l.reverse:=
 ⟨by rw [List.length_reverse,List.length_reverse,a.1],fun i x d h1 h2=>by
  have hi:=(List.getElem?_eq_some_iff.mp h1).1
  rw [List.length_reverse] at hi
  rw [List.getElem?_reverse hi] at h1
  rw [List.getElem?_reverse (by rw [<- a.1];exact hi),<- a.1] at h2
  exact a.2 _ x d h1 h2⟩
mutual
noncomputable def eqD:Dat->Dat->Bool
 | .non,.non=>true
 | .bl a,.bl b=>a == b
 | .bl a,.int b=>(if a then 1 else 0) == b
 | .int a,.bl b=>a == (if b then 1 else 0)
 | .int a,.int b=>a == b
 | .str a,.str b=>a == b
 | .lst a,.lst b=>jk a b
 | .tup a,.tup b=>jk a b
 | _,_=>false
noncomputable def jk:List Dat->List Dat->Bool
 | [],[]=>true
 | a :: r,b :: r'=>eqD a b && jk r r'
 | _,_=>false
end
mutual
noncomputable def dp:Dat->Nat
 | .lst l=>dps l+1
 | .tup l=>dps l+1
 | .rng _ _ _=>1000
 | .scr _ _=>1000
 | .ty _=>1000
 | _=>0
noncomputable def dps:List Dat->Nat
 | []=>0
 | a :: r=>max (dp a) (dps r)
end
theorem j6 {l:List Dat}{n:Nat}(h:∀ d ∈ l,dp d<=n):dps l<=n:=by
 induction l with
 | nil=>exact Nat.zero_le _
 | cons a r ih=>rw [dps];exact Nat.max_le.mpr ⟨h a (by simp),ih fun d hd=>h d (by simp [hd])⟩
theorem zG {l:List Dat}{d:Dat}(h:d ∈ l):dp d<=dps l:=by
 induction l with
 | nil=>cases h
 | cons a r ih=>
  rw [dps]
  rcases List.mem_cons.mp h with rfl | h
  ·exact Nat.le_max_left _ _
  ·exact Nat.le_trans (ih h) (Nat.le_max_right _ _)
theorem jd:∀ (l m:List Dat),l.length=m.length->jk l m=(List.range l.length).all fun j=>eqD (l.getD j .non) (m.getD j .non)
 | [],[],_=>rfl
 | a :: r,b :: r',h=>by
  rw [jk,jd r r' (by simpa using h),List.length_cons,List.range_succ_eq_map,List.all_cons,List.all_map];rfl
 | [],_ :: _,h=>by simp at h
 | _ :: _,[],h=>by simp at h
theorem jf:∀ (l m:List Dat),l.length ≠ m.length->jk l m=false
 | [],[],h=>absurd rfl h
 | a :: r,b :: r',h=>by rw [jk,jf r r' (fun z=>h (by simp [z])),Bool.and_false]
 | [],_ :: _,h=>by simp [jk]
 | _ :: _,[],h=>by simp [jk]
theorem Qy (l m:List Dat):eqD (.lst l) (.tup m)=false:=by simp [eqD]
theorem Q6 (l m:List Dat):eqD (.tup l) (.lst m)=false:=by simp [eqD]
theorem Ks {p:Dat->Prop}(h:∀ a,(∀ b,dp b<dp a->p b)->p a)(a:Dat):p a:=by
 have:∀ n a,dp a<=n->p a:=fun n=>by
  induction n with
  | zero=>intro a ha;exact h a fun b hb=>absurd hb (by omega)
  | succ n ih=>intro a ha;exact h a fun b hb=>ih b (by omega)
 exact this (dp a) a (Nat.le_refl _)
theorem xM {l:List Dat}(h:∀ d ∈ l,eqD d d=true):jk l l=true:=by
 induction l with
 | nil=>rfl
 | cons a r ih=>rw [jk,h a (by simp),ih fun d hd=>h d (by simp [hd])];rfl
theorem JO {a:Dat}:dp a<1000->eqD a a=true:=by
 refine Ks (p:=fun a=>dp a<1000->eqD a a=true) (fun a ih ha=>?_) a
 cases a with
 | non=>rfl
 | bl b=>rw [eqD];simp
 | int i=>rw [eqD];simp
 | str x=>rw [eqD];simp
 | lst l=>
  rw [eqD]
  rw [dp] at ha ih
  exact xM fun d hd=>ih d (by have:=zG hd;omega) (by have:=zG hd;omega)
 | tup l=>
  rw [eqD]
  rw [dp] at ha ih
  exact xM fun d hd=>ih d (by have:=zG hd;omega) (by have:=zG hd;omega)
 | rng a b c=>rw [dp] at ha;omega
 | scr _ l=>rw [dp] at ha;omega
 | ty l=>rw [dp] at ha;omega
theorem Rep.fn {H:Hp}{O O':Own}{v:V}{a b:Dat}(r:Rep H O v a):Rep H O' v b->dp a<1000->dp b<1000->a=b:=by
 induction r generalizing b with
 | non=>intro r' _ _;cases r';rfl
 | bl=>intro r' _ _;cases r';rfl
 | int=>intro r' _ _;cases r';rfl
 | str=>intro r' _ _;cases r';rfl
 | ty=>intro r' h _;rw [dp] at h;omega
 | rng _ _=>intro r' h _;rw [dp] at h;omega
 | scr _ _=>intro r' h _;rw [dp] at h;omega
 | scrK _=>intro r' h _;rw [dp] at h;omega
 | @lst a xs l o1 h1 l1 r1 ih=>
  intro r' ha hb
  cases r' with
  | @lst _ ys m o2 h2 l2 r2=>
   rw [h1] at h2;cases h2
   congr 1
   refine List.ext_getElem (l1.symm.trans l2) fun i i1 i2=>?_
   have i0:i<xs.length:=by omega
   rw [dp] at ha hb
   refine ih i xs[i] l[i] (by simp [i0]) (by simp [i1]) (r2 i xs[i] m[i] (by simp [i0]) (by simp [i2])) ?_ ?_
   ·have:=zG (List.getElem_mem i1);omega
   ·have:=zG (List.getElem_mem i2);omega
  | @tup _ ys m o2 h2=>rw [h1] at h2;cases h2
  | rng o2 h2=>rw [dp] at hb;omega
  | scr o2 h2=>rw [dp] at hb;omega
  | scrK _=>rw [dp] at hb;omega
 | @tup a xs l o1 h1 l1 r1 ih=>
  intro r' ha hb
  cases r' with
  | @tup _ ys m o2 h2 l2 r2=>
   rw [h1] at h2;cases h2
   congr 1
   refine List.ext_getElem (l1.symm.trans l2) fun i i1 i2=>?_
   have i0:i<xs.length:=by omega
   rw [dp] at ha hb
   refine ih i xs[i] l[i] (by simp [i0]) (by simp [i1]) (r2 i xs[i] m[i] (by simp [i0]) (by simp [i2])) ?_ ?_
   ·have:=zG (List.getElem_mem i1);omega
   ·have:=zG (List.getElem_mem i2);omega
  | @lst _ ys m o2 h2=>rw [h1] at h2;cases h2
  | rng o2 h2=>rw [dp] at hb;omega
  | scr o2 h2=>rw [dp] at hb;omega
  | scrK _=>rw [dp] at hb;omega
section
variable {X:Cx}{pins:List (Addr × Obj)}{s:Shared}{σ:St}{H:Hp}
theorem jb {xs:List V}{us:List Value}(r:zk xs us){j:Nat}(h:j<us.toArray.size):∃ x,xs[j]?=some x/\zm x us.toArray[j]:=by
 have h':j<us.length:=by simpa using h
 have hx:j<xs.length:=by rw [r.length];exact h'
 obtain ⟨u,hu,ru⟩:=r.get (i:=j) (List.getElem?_eq_getElem hx)
 have e:us.toArray[j]=u:=by
  have:=(List.getElem?_eq_some_iff.mp hu).2
  simpa using this
 exact ⟨xs[j],List.getElem?_eq_getElem hx,by rw [e];exact ru⟩
theorem Jj (I : Inv X pins σ H s){A : Around}{p q : Addr}{O O' : Own}{a b : Dat}(ih : ∀ (c d : Dat) (v u : V) (v' u' : Value), dp c < dp a -> Rep H O v c -> Rep H O' u d -> dp d < 1000 -> zm v v' -> zm u u' -> SeqAt.EqAt A.in1 s v' u' (eqD c d))
    (ra:Rep H O (.ref p) a) (rb:Rep H O' (.ref q) b) (ha:dp a<1000) (hb:dp b<1000) (hu:A.units<cLine):SeqAt.RcAt A s (.ref p) (.ref q) (eqD a b):=by
  cases ra with
  | @lst _ xs l o1 h1 l1 r1=>
    obtain ⟨us,u1,p1,z1⟩:=I.list (SqL.of h1)
    cases rb with
    | @lst _ ys m o2 h2 l2 r2=>
      obtain ⟨ws,u2,p2,z2⟩:=I.list (SqL.of h2)
      have s1:us.toArray.size=l.length:=by rw [List.size_toArray,<- u1.length,l1]
      have s2:ws.toArray.size=m.length:=by rw [List.size_toArray,<- u2.length,l2]
      by_cases e:l.length=m.length
      · have h := SeqAt.RcAt.lists (A := A) (e := fun j => eqD (l.getD j .non) (m.getD j .non)) p1.isList p2.isList (by rw [s1, s2, e]) hu (fun j j1 j2 => by
          obtain ⟨x,hx,rx⟩:=jb u1 j1
          obtain ⟨y,hy,ry⟩:=jb u2 j2
          have k1:j<l.length:=by rw [<- s1];exact j1
          have k2:j<m.length:=by rw [<- s2];exact j2
          rw [dp] at ha hb ih
          refine ih _ _ x y _ _ ?_ (r1 j x _ hx ?_) (r2 j y _ hy ?_) ?_ rx ry
          · rw [List.getD_eq_getElem?_getD,List.getElem?_eq_getElem k1]
            have:=zG (List.getElem_mem k1);show dp l[j]<_;omega
          · rw [List.getD_eq_getElem?_getD,List.getElem?_eq_getElem k1];rfl
          · rw [List.getD_eq_getElem?_getD,List.getElem?_eq_getElem k2];rfl
          · rw [List.getD_eq_getElem?_getD,List.getElem?_eq_getElem k2]
            have:=zG (List.getElem_mem k2);show dp m[j]<_;omega)
        rw [s1,<- jd l m e] at h
        rw [eqD];exact h
      · rw [eqD,jf l m e]
        exact SeqAt.RcAt.lists_lengths p1.isList p2.isList (by rw [s1,s2];simpa using e) hu
    | @tup _ ys m o2 h2 l2 r2=>
      obtain ⟨ws,u2,p2,z2⟩:=I.tuple (SqT.of h2)
      rw [Qy]
      exact SeqAt.RcAt.list_tuple p1.isList p2 hu
    | rng o2 h2=>rw [dp] at hb;omega
    | scr o2 h2=>rw [dp] at hb;omega
    | scrK _=>rw [dp] at hb;omega
  | @tup _ xs l o1 h1 l1 r1=>
    obtain ⟨us,u1,p1,z1⟩:=I.tuple (SqT.of h1)
    cases rb with
    | @tup _ ys m o2 h2 l2 r2=>
      obtain ⟨ws,u2,p2,z2⟩:=I.tuple (SqT.of h2)
      have s1:us.toArray.size=l.length:=by rw [List.size_toArray,<- u1.length,l1]
      have s2:ws.toArray.size=m.length:=by rw [List.size_toArray,<- u2.length,l2]
      have h := SeqAt.RcAt.tuples (A := A) (e := fun j => eqD (l.getD j .non) (m.getD j .non)) (show s.heap.IsTuple p us.toArray from p1) (show s.heap.IsTuple q ws.toArray from p2) hu (fun j j1 j2 => by
          obtain ⟨x,hx,rx⟩:=jb u1 j1
          obtain ⟨y,hy,ry⟩:=jb u2 j2
          have k1:j<l.length:=by rw [<- s1];exact j1
          have k2:j<m.length:=by rw [<- s2];exact j2
          rw [dp] at ha hb ih
          refine ih _ _ x y _ _ ?_ (r1 j x _ hx ?_) (r2 j y _ hy ?_) ?_ rx ry
          · rw [List.getD_eq_getElem?_getD,List.getElem?_eq_getElem k1]
            have:=zG (List.getElem_mem k1);show dp l[j]<_;omega
          · rw [List.getD_eq_getElem?_getD,List.getElem?_eq_getElem k1];rfl
          · rw [List.getD_eq_getElem?_getD,List.getElem?_eq_getElem k2];rfl
          · rw [List.getD_eq_getElem?_getD,List.getElem?_eq_getElem k2]
            have:=zG (List.getElem_mem k2);show dp m[j]<_;omega)
      rw [s1,s2] at h
      rw [eqD]
      by_cases e:l.length=m.length
      · rw [<- e,Nat.min_self,beq_self_eq_true,Bool.and_true,<- jd l m e] at h
        exact h
      · rw [jf l m e]
        rw [show (l.length == m.length)=false by simpa using e,Bool.and_false] at h
        exact h
    | @lst _ ys m o2 h2 l2 r2=>
      obtain ⟨ws,u2,p2,z2⟩:=I.list (SqL.of h2)
      rw [Q6]
      exact SeqAt.RcAt.tuple_list p1 p2.isList hu
    | rng o2 h2=>rw [dp] at hb;omega
    | scr o2 h2=>rw [dp] at hb;omega
    | scrK _=>rw [dp] at hb;omega
  | rng o2 h2=>rw [dp] at ha;omega
  | scr o2 h2=>rw [dp] at ha;omega
  | scrK _=>rw [dp] at ha;omega
theorem Al (I:Inv X pins σ H s){a:Addr}{xs:List V}(h:H a=some (.lst xs)):∃ us,s.heap.IsList a us:=let ⟨_,_,p,_⟩:=I.list (SqL.of h);⟨_,p.isList⟩
theorem W5 (I:Inv X pins σ H s){a:Addr}{xs:List V}(h:H a=some (.tup xs)):∃ us,s.heap.IsTuple a us:=let ⟨_,_,p,_⟩:=I.tuple (SqT.of h);⟨_,p⟩
local macro_rules | `(tactic| walk_at "sc")=>`(tactic| first
 | with_reducible exact .same _ | with_reducible exact .none_none | with_reducible exact .none_bool _ | with_reducible exact .none_int _ _ | with_reducible exact .none_str _ _ | with_reducible exact .bool_none _ | with_reducible exact .bool_bool _ _ | with_reducible exact .bool_int _ _ _ | with_reducible exact .bool_str _ _ _ | with_reducible exact .int_none _ _ | with_reducible exact .int_bool _ _ _ | with_reducible exact .int_int _ _ _ _ | with_reducible exact .int_str _ _ _ _ | with_reducible exact .str_none _ _ | with_reducible exact .str_bool _ _ _ | with_reducible exact .str_int _ _ _ _ | with_reducible exact .str_str _ _ _ _)
theorem ls_ (I:Inv X pins σ H s){a:Addr}{xs:List V}(h:H a=some (.lst xs)):s.heap.IsList a (Classical.choose (Al I h)):=Classical.choose_spec _
theorem ts_ (I:Inv X pins σ H s){a:Addr}{xs:List V}(h:H a=some (.tup xs)):s.heap.IsTuple a (Classical.choose (W5 I h)):=Classical.choose_spec _
local macro_rules | `(tactic| walk_at "sq")=>`(tactic| first
 | with_reducible exact .none_list (ls_ (by assumption) (by assumption)) (by assumption) | with_reducible exact .bool_list _ (ls_ (by assumption) (by assumption)) (by assumption) | with_reducible exact .int_list _ _ (ls_ (by assumption) (by assumption)) (by assumption) | with_reducible exact .str_list _ _ (ls_ (by assumption) (by assumption)) (by assumption) | with_reducible exact .list_none (ls_ (by assumption) (by assumption)) (by assumption) | with_reducible exact .list_bool _ (ls_ (by assumption) (by assumption)) (by assumption) | with_reducible exact .list_int _ _ (ls_ (by assumption) (by assumption)) (by assumption) | with_reducible exact .list_str _ _ (ls_ (by assumption) (by assumption)) (by assumption)
 | with_reducible exact .none_tuple (ts_ (by assumption) (by assumption)) (by assumption) | with_reducible exact .bool_tuple _ (ts_ (by assumption) (by assumption)) (by assumption) | with_reducible exact .int_tuple _ _ (ts_ (by assumption) (by assumption)) (by assumption) | with_reducible exact .str_tuple _ _ (ts_ (by assumption) (by assumption)) (by assumption) | with_reducible exact .tuple_none (ts_ (by assumption) (by assumption)) (by assumption) | with_reducible exact .tuple_bool _ (ts_ (by assumption) (by assumption)) (by assumption) | with_reducible exact .tuple_int _ _ (ts_ (by assumption) (by assumption)) (by assumption) | with_reducible exact .tuple_str _ _ (ts_ (by assumption) (by assumption)) (by assumption))
theorem wm (I : Inv X pins σ H s){O O' : Own}(A : Around)(hu : A.units < cLine)(a b : Dat)(v u : V)(v' u' : Value)(ha : dp a < 1000)(ra : Rep H O v a)(rb : Rep H O' u b)(hb : dp b < 1000)(rv : zm v v')(ru : zm u u')
    (ih:∀ (c d:Dat) (v u:V) (v' u':Value),dp c<dp a->Rep H O v c->Rep H O' u d->dp d<1000->zm v v'->zm u u'->SeqAt.EqAt A.in1 s v' u' (eqD c d)):SeqAt.EqAt A s v' u' (eqD a b):=by
  by_cases hr:∃ p q,v=.ref p/\u=.ref q
  · obtain ⟨p,q,rfl,rfl⟩:=hr
    cases rv
    cases ru
    by_cases e:p=q
    · subst e
      rw [<- ra.fn rb ha hb,JO ha]
      exact .same _
    · exact .of_refs e (Jj I ih ra rb ha hb hu)
  · cases ra <;> cases rb <;> first
      | with_reducible exact absurd ⟨_,_,rfl,rfl⟩ hr
      | (rw [dp] at ha;omega)
      | (rw [dp] at hb;omega)
      | ((first | (obtain ⟨t0,rfl⟩:=rv) | cases rv);(first | (obtain ⟨t1,rfl⟩:=ru) | cases ru);simp only [eqD,Bool.not_false,Bool.not_true];first | walk_at "sc" | walk_at "sq")
theorem Jb (I:Inv X pins σ H s){O O':Own}:∀ (n:Nat) (A:Around),A.units+n<cLine->∀ (a b:Dat) (v u:V) (v' u':Value),dp a<=n->n<1000->Rep H O v a->Rep H O' u b->dp b<1000->zm v v'->zm u u'->SeqAt.EqAt A s v' u' (eqD a b):=by
 intro n
 induction n with
 | zero=>
  intro A hu a b v u v' u' ha _ ra rb hb rv ru
  exact wm I A (by omega) a b v u v' u' (by omega) ra rb hb rv ru fun _ _ _ _ _ _ h=>absurd h (by omega)
 | succ n ih=>
  intro A hu a b v u v' u' ha hn ra rb hb rv ru
  exact wm I A (by omega) a b v u v' u' (by omega) ra rb hb rv ru fun c d x y x' y' hc rc rd hd rx ry=>ih A.in1 (by show A.units+1+n<_;omega) c d x y x' y' (by omega) (by omega) rc rd hd rx ry
noncomputable def Vl (f:Bool->Bool):R2:=fun x y H Q=>∃ O O' a b,Rep H O x a/\Rep H O' y b/\dp a<=40/\dp b<=40/\Q (.bl (f (eqD a b))) H
theorem Y8 (I:Inv X pins σ H s){O O':Own}(A:Around)(hu:A.units+41<cLine)(a b:Dat)(v u:V)(v' u':Value)(ha:dp a<=40)(ra:Rep H O v a)(rb:Rep H O' u b)(hb:dp b<=40)(rv:zm v v')(ru:zm u u'):SeqAt.RcAt A s v' u' (eqD a b):=by
  have ih:∀ (c d:Dat) (v u:V) (v' u':Value),dp c<dp a->Rep H O v c->Rep H O' u d->dp d<1000->zm v v'->zm u u'->SeqAt.EqAt A.in1 s v' u' (eqD c d):=fun c d v u v' u' hc rc rd hd rv ru=>Jb I 40 A.in1 (by show A.units+1+40<_;omega) c d v u v' u' (by omega) (by omega) rc rd hd rv ru
  replace hu:A.units<cLine:=by omega
  by_cases hr:∃ p q,v=.ref p/\u=.ref q
  · obtain ⟨p,q,rfl,rfl⟩:=hr
    cases rv
    cases ru
    exact Jj I ih ra rb (by omega) (by omega) hu
  · cases ra <;> cases rb <;> first
      | with_reducible exact absurd ⟨_,_,rfl,rfl⟩ hr
      | (rw [dp] at ha;omega)
      | (rw [dp] at hb;omega)
      | ((first | (obtain ⟨t0,rfl⟩:=rv) | cases rv);(first | (obtain ⟨t1,rfl⟩:=ru) | cases ru);simp only [eqD,Bool.not_false,Bool.not_true];first | walk_at "sc" | walk_at "sq")
theorem Qr (I : Inv X pins σ H s){A : Around}{p q : Addr}{O O' : Own}{a b : Dat}(ih : ∀ (c d : Dat) (v u : V) (v' u' : Value), dp c < dp a -> Rep H O v c -> Rep H O' u d -> dp d < 1000 -> zm v v' -> zm u u' -> SeqAt.EqAt A.in1 s v' u' (eqD c d))
    (ra:Rep H O (.ref p) a) (rb:Rep H O' (.ref q) b) (ha:dp a<1000) (hb:dp b<1000) (hu:A.units<cLine):SeqAt.RcNeAt A s (.ref p) (.ref q) (!(eqD a b)):=by
  cases ra with
  | @lst _ xs l o1 h1 l1 r1=>
    obtain ⟨us,u1,p1,z1⟩:=I.list (SqL.of h1)
    cases rb with
    | @lst _ ys m o2 h2 l2 r2=>
      obtain ⟨ws,u2,p2,z2⟩:=I.list (SqL.of h2)
      have s1:us.toArray.size=l.length:=by rw [List.size_toArray,<- u1.length,l1]
      have s2:ws.toArray.size=m.length:=by rw [List.size_toArray,<- u2.length,l2]
      by_cases e:l.length=m.length
      · have h := SeqAt.RcNeAt.lists (A := A) (e := fun j => eqD (l.getD j .non) (m.getD j .non)) p1.isList p2.isList (by rw [s1, s2, e]) hu (fun j j1 j2 => by
          obtain ⟨x,hx,rx⟩:=jb u1 j1
          obtain ⟨y,hy,ry⟩:=jb u2 j2
          have k1:j<l.length:=by rw [<- s1];exact j1
          have k2:j<m.length:=by rw [<- s2];exact j2
          rw [dp] at ha hb ih
          refine ih _ _ x y _ _ ?_ (r1 j x _ hx ?_) (r2 j y _ hy ?_) ?_ rx ry
          · rw [List.getD_eq_getElem?_getD,List.getElem?_eq_getElem k1]
            have:=zG (List.getElem_mem k1);show dp l[j]<_;omega
          · rw [List.getD_eq_getElem?_getD,List.getElem?_eq_getElem k1];rfl
          · rw [List.getD_eq_getElem?_getD,List.getElem?_eq_getElem k2];rfl
          · rw [List.getD_eq_getElem?_getD,List.getElem?_eq_getElem k2]
            have:=zG (List.getElem_mem k2);show dp m[j]<_;omega)
        rw [s1,<- jd l m e] at h
        rw [eqD];exact h
      · rw [eqD,jf l m e]
        exact SeqAt.RcNeAt.lists_lengths p1.isList p2.isList (by rw [s1,s2];simpa using e) hu
    | @tup _ ys m o2 h2 l2 r2=>
      obtain ⟨ws,u2,p2,z2⟩:=I.tuple (SqT.of h2)
      rw [Qy]
      exact SeqAt.RcNeAt.list_tuple p1.isList p2 hu
    | rng o2 h2=>rw [dp] at hb;omega
    | scr o2 h2=>rw [dp] at hb;omega
    | scrK _=>rw [dp] at hb;omega
  | @tup _ xs l o1 h1 l1 r1=>
    obtain ⟨us,u1,p1,z1⟩:=I.tuple (SqT.of h1)
    cases rb with
    | @tup _ ys m o2 h2 l2 r2=>
      obtain ⟨ws,u2,p2,z2⟩:=I.tuple (SqT.of h2)
      have s1:us.toArray.size=l.length:=by rw [List.size_toArray,<- u1.length,l1]
      have s2:ws.toArray.size=m.length:=by rw [List.size_toArray,<- u2.length,l2]
      have h := SeqAt.RcNeAt.tuples (A := A) (e := fun j => eqD (l.getD j .non) (m.getD j .non)) (show s.heap.IsTuple p us.toArray from p1) (show s.heap.IsTuple q ws.toArray from p2) hu (fun j j1 j2 => by
          obtain ⟨x,hx,rx⟩:=jb u1 j1
          obtain ⟨y,hy,ry⟩:=jb u2 j2
          have k1:j<l.length:=by rw [<- s1];exact j1
          have k2:j<m.length:=by rw [<- s2];exact j2
          rw [dp] at ha hb ih
          refine ih _ _ x y _ _ ?_ (r1 j x _ hx ?_) (r2 j y _ hy ?_) ?_ rx ry
          · rw [List.getD_eq_getElem?_getD,List.getElem?_eq_getElem k1]
            have:=zG (List.getElem_mem k1);show dp l[j]<_;omega
          · rw [List.getD_eq_getElem?_getD,List.getElem?_eq_getElem k1];rfl
          · rw [List.getD_eq_getElem?_getD,List.getElem?_eq_getElem k2];rfl
          · rw [List.getD_eq_getElem?_getD,List.getElem?_eq_getElem k2]
            have:=zG (List.getElem_mem k2);show dp m[j]<_;omega)
      rw [s1,s2] at h
      rw [eqD]
      by_cases e:l.length=m.length
      · rw [<- e,Nat.min_self,beq_self_eq_true,Bool.and_true,<- jd l m e] at h
        exact h
      · rw [jf l m e]
        rw [show (l.length == m.length)=false by simpa using e,Bool.and_false] at h
        exact h
    | @lst _ ys m o2 h2 l2 r2=>
      obtain ⟨ws,u2,p2,z2⟩:=I.list (SqL.of h2)
      rw [Q6]
      exact SeqAt.RcNeAt.tuple_list p1 p2.isList hu
    | rng o2 h2=>rw [dp] at hb;omega
    | scr o2 h2=>rw [dp] at hb;omega
    | scrK _=>rw [dp] at hb;omega
  | rng o2 h2=>rw [dp] at ha;omega
  | scr o2 h2=>rw [dp] at ha;omega
  | scrK _=>rw [dp] at ha;omega
theorem JV (I:Inv X pins σ H s){O O':Own}(A:Around)(hu:A.units+41<cLine)(a b:Dat)(v u:V)(v' u':Value)(ha:dp a<=40)(ra:Rep H O v a)(rb:Rep H O' u b)(hb:dp b<=40)(rv:zm v v')(ru:zm u u'):SeqAt.RcNeAt A s v' u' (!(eqD a b)):=by
  have ih:∀ (c d:Dat) (v u:V) (v' u':Value),dp c<dp a->Rep H O v c->Rep H O' u d->dp d<1000->zm v v'->zm u u'->SeqAt.EqAt A.in1 s v' u' (eqD c d):=fun c d v u v' u' hc rc rd hd rv ru=>Jb I 40 A.in1 (by show A.units+1+40<_;omega) c d v u v' u' (by omega) (by omega) rc rd hd rv ru
  replace hu:A.units<cLine:=by omega
  by_cases hr:∃ p q,v=.ref p/\u=.ref q
  · obtain ⟨p,q,rfl,rfl⟩:=hr
    cases rv
    cases ru
    exact Qr I ih ra rb (by omega) (by omega) hu
  · cases ra <;> cases rb <;> first
      | with_reducible exact absurd ⟨_,_,rfl,rfl⟩ hr
      | (rw [dp] at ha;omega)
      | (rw [dp] at hb;omega)
      | ((first | (obtain ⟨t0,rfl⟩:=rv) | cases rv);(first | (obtain ⟨t1,rfl⟩:=ru) | cases ru);simp only [eqD,Bool.not_false,Bool.not_true];first | walk_at "sc" | walk_at "sq")
theorem j3 (hu:X.A.units+64<cLine):OpR X (compareOp .Eq) (Vl id):=by
 intro pins s σ H x y v u Q I rx ry h
 obtain ⟨O,O',a,b,ra,rb,ha,hb,k⟩:=h
 exact Y8 I X.A (by omega) a b x y v u ha ra rb hb rx ry _ _ _ _ ⟨.bl _,H,I,rfl,k⟩
theorem vA (hu:X.A.units+64<cLine):OpR X (compareOp .NotEq) (Vl not):=by
 intro pins s σ H x y v u Q I rx ry h
 obtain ⟨O,O',a,b,ra,rb,ha,hb,k⟩:=h
 exact JV I X.A (by omega) a b x y v u ha ra rb hb rx ry _ _ _ _ ⟨.bl _,H,I,rfl,k⟩
end
noncomputable def jI (x:AV)(M:MH):Option Dat:=match x with
 | .d x=>some x
 | .ref a=>match M a with
  | some (.lst l)=>(pur l).map .lst
  | _=>none
theorem Vn (x:Dat)(M:MH):jI (.d x) M=some x:=rfl
theorem JP {a:Addr}{M:MH}{l:List AV}{ds:List Dat}(h:M a=some (.lst l))(hp:pur l=some ds):jI (.ref a) M=some (.lst ds):=by unfold jI;dsimp only;rw [h];dsimp only;rw [hp];rfl
theorem kJ {H:Hp}{O:Own}{M:MH}{v:V}{x:AV}{d:Dat}(w:Wf H O M)(r:zi H O M v x)(h:jI x M=some d):∃ O',Rep H O' v d:=by
 cases x with
 | d x=>cases h;exact ⟨O,r⟩
 | ref a=>
  unfold jI at h
  dsimp only at h
  cases e:M a with
  | none=>rw [e] at h;cases h
  | some o=>
   rw [e] at h
   cases o with
   | lst l=>
    dsimp only at h
    cases ep:pur l with
    | none=>rw [ep] at h;cases h
    | some ds=>
     rw [ep] at h
     cases h
     obtain ⟨xs,hx,rx⟩:=w.mo a _ e
     rw [qO ep] at rx
     have rp:=rx.pure
     refine ⟨Xo O a,?_⟩
     rw [r.1]
     exact Rep.lst (fun z=>z.1 rfl) hx rp.1 fun i x d e1 e2=>(rp.2 i x d e1 e2).imp (jY a)
   | _=>cases h
noncomputable def WT (f:Bool->Bool):AR2:=fun x y M Q=>∃ a b,jI x M=some a/\jI y M=some b/\dp a<=40/\dp b<=40/\Q (.d (.bl (f (eqD a b)))) M
theorem KH {f:Bool->Bool}:Zp (Vl f) (WT f):=⟨fun w r1 r2 ⟨a,b,e1,e2,h1,h2,q⟩ k=>by
 obtain ⟨O1,p1⟩:=kJ w r1 e1
 obtain ⟨O2,p2⟩:=kJ w r2 e2
 exact ⟨O1,O2,a,b,p1,p2,h1,h2,k _ _ _ _ _ q .refl w .bl⟩⟩
theorem v8 (i:Int):dp (.int i)=0:=by simp [dp]
theorem yt (ns:List Int):dp (.lst (ns.map .int))<=1:=by
 rw [dp]
 have:dps (ns.map Dat.int)<=0:=j6 fun d hd=>by
  obtain ⟨i,_,rfl⟩:=List.mem_map.mp hd
  rw [v8];exact Nat.le_refl _
 omega
theorem xf:∀ (ns ms:List Int),jk (ns.map .int) (ms.map .int)=decide (ns=ms)
 | [],[]=>by simp [jk]
 | [],_ :: _=>by simp [jk]
 | _ :: _,[]=>by simp [jk]
 | a :: r,b :: r'=>by
  rw [List.map_cons,List.map_cons,jk,xf r r',show eqD (.int a) (.int b)=(a == b) by simp [eqD]]
  by_cases h:a=b <;> simp [h]
theorem Jf (ns ms:List Int):eqD (.lst (ns.map .int)) (.lst (ms.map .int))=decide (ns=ms):=by rw [eqD,xf]
theorem qG {H:Hp}{O:Own}{M:MH}{vs:List V}{x:AV}(r:zd H O M vs [x]):∃ v,vs=[v]/\zi H O M v x:=by
 obtain ⟨v1,r',rfl,a1,r2⟩:=r.cons_inv
 rw [r2.nil_inv];exact ⟨v1,rfl,a1⟩
theorem jT {H:Hp}{O:Own}{M:MH}{vs:List V}{x y:AV}(r:zd H O M vs [x,y]):∃ v u,vs=[v,u]/\zi H O M v x/\zi H O M u y:=by
 obtain ⟨v1,r',rfl,a1,r2⟩:=r.cons_inv
 obtain ⟨v2,rfl,a2⟩:=qG r2
 exact ⟨v1,v2,rfl,a1,a2⟩
noncomputable def WD:List AV->MH->AK->Prop:=fun xs M Q=>∃ x l,xs=[x]/\qK x M=some l/\Q (.d (.int (l.length:Nat))) M
theorem Kn {K:PySem.W.Frag}:xV (fun xs H Q=>∃ p ys,xs=[V.ref p]/\(SqL K H p ys \/ SqT K H p ys)/\Q (V.int ys.length) H) WD:=⟨fun w r ⟨x,l,e,h,q⟩ k=>by
 subst e
 obtain ⟨v,rfl,rv⟩:=qG r
 obtain ⟨a,xs,rfl,h1,r1⟩:=xS w rv h
 exact ⟨a,xs,rfl,h1.elim (fun h=>.inl (SqL.of h)) (fun h=>.inr (SqT.of h)),by rw [r1.1];exact k _ _ _ _ _ q .refl w .int⟩⟩
noncomputable def bI2 (f:Int->Int->Int):List AV->MH->AK->Prop:=fun xs M Q=>∃ i j,xs=[.d (.int i),.d (.int j)]/\Q (.d (.int (f i j))) M
theorem YH {f:Int->Int->Int}:xV (fun xs H Q=>∃ i j,xs=[V.int i,V.int j]/\Q (V.int (f i j)) H) (bI2 f):=⟨fun w r ⟨i,j,e,q⟩ k=>by
 subst e
 obtain ⟨v,u,rfl,rv,ru⟩:=jT r
 exact ⟨i,j,by rw [zA rv,zA ru],k _ _ _ _ _ q .refl w .int⟩⟩
noncomputable def Ju:List AV->MH->AK->Prop:=fun xs M Q=>∃ x l ds,xs=[x]/\qK x M=some l/\pur l=some ds/\Q (.d (.tup ds)) M
theorem ZW {K:PySem.W.Frag}:xV (fun xs H Q=>∃ p ys,xs=[V.ref p]/\((SqL K H p ys/\∀ l,H l=none->Q (V.ref l) (upd H l (HO.tup ys))) \/ SqT K H p ys/\Q (V.ref p) H)) Ju:=⟨fun w r ⟨x,l,ds,e,h,hp,q⟩ k=>by
 subst e
 obtain ⟨v,rfl,rv⟩:=qG r
 rw [qO hp] at h
 rcases qJ h with h' | ⟨m,rfl,e2⟩
 ·obtain ⟨a,xs,rfl,h1,r1⟩:=zS w rv h'
  exact ⟨a,xs,rfl,.inl ⟨SqL.of h1,fun p hp=>k _ _ _ _ _ q (qo w hp _) (yq w hp _) (KI w hp r1)⟩⟩
 ·obtain rfl:ds=m:=by have:=congrArg pur e2;rw [zR,zR] at this;cases this;rfl
  obtain ⟨a,xs,rfl,h1,r1⟩:=qe (l:=ds.map .d) rv rfl
  exact ⟨a,xs,rfl,.inr ⟨SqT.of h1,k _ _ _ _ _ q .refl w rv⟩⟩⟩
structure Qu (r:List V->Hp->VK->Prop)(a:List AV->MH->(List AV->Prop)->Prop):Prop where
 go:∀ {vs:List V} {xs:List AV} {H:Hp} {O:Own} {M:MH} {Q:VK} {Q':List AV->Prop},Wf H O M->zd H O M vs xs->a xs M Q'->(∀ l ys,Q' l->zd H O M ys l->∀ p,H p=none->Q (.ref p) (upd H p (.lst ys)))->r vs H Q
noncomputable def fCB (r:List AV->MH->(List AV->Prop)->Prop)(b:AA):AF:=fun ρ M Q=>b ρ M fun xs M1=>r xs M1 fun l=>Q l M1
theorem yw {r:List V->Hp->VK->Prop}{ra:List AV->MH->(List AV->Prop)->Prop}{u:TA}{b:AA}(hr:Qu r ra)(h:jn u b):yC (tCB r u) (fCB ra b):=
 ⟨fun w e q k=>h.go w e q fun x M1 v H1 O1 q1 k1 w1 r1=>hr.go w1 r1 q1 fun l ys q3 r3 p hp=>
  k l M1 p ys _ _ q3 (k1.trans (qz w1 hp _)) (xR w1 hp _ (fun _ z=>nomatch z)) (.inl rfl) (w1.fresh hp).2 (kR w1 k1 hp) zl (r3.ext (qz w1 hp _))⟩
noncomputable def Qw:List AV->MH->(List AV->Prop)->Prop:=fun xs M Q=>∃ x l,xs=[x]/\qK x M=some l/\Q l
theorem xB {K:PySem.W.Frag}:Qu (fun xs H Q=>∃ p ys,xs=[V.ref p]/\(SqL K H p ys \/ SqT K H p ys)/\∀ l,H l=none->Q (V.ref l) (upd H l (HO.lst ys))) Qw:=⟨fun w r ⟨x,l,e,h,q⟩ k=>by
 subst e
 obtain ⟨v,rfl,rv⟩:=qG r
 obtain ⟨a,xs,rfl,h1,r1⟩:=xS w rv h
 exact ⟨a,xs,rfl,h1.elim (fun h=>.inl (SqL.of h)) (fun h=>.inr (SqT.of h)),k _ _ q r1⟩⟩
theorem jJ {H:Hp}{O:Own}{M:MH}:∀ {ns:List Int} {xs:List V},zd H O M xs (ns.map fun i=>AV.d (.int i))->xs=ns.map V.int
 | [],xs,r=>r.nil_inv
 | i :: ns,xs,r=>by
  obtain ⟨v,r',rfl,a1,r2⟩:=r.cons_inv
  rw [zA a1,jJ r2];rfl
noncomputable def tyA (x:AV)(M:MH):Option String:=match x with
 | .d .non=>some "NoneType"
 | .d (.bl _)=>some "bool"
 | .d (.int _)=>some "int"
 | .d (.str _)=>some "str"
 | .d (.lst _)=>some "list"
 | .d (.tup _)=>some "tuple"
 | .ref a=>match M a with
  | some (.lst _)=>some "list"
  | some (.dK _)=>some "dict"
  | _=>none
 | _=>none
theorem Qb {K:PySem.W.Frag}{H:Hp}{O:Own}{M:MH}{v:V}{x:AV}{t:String}(w:Wf H O M)(r:zi H O M v x)(h:tyA x M=some t):qY K H v (.type t):=by
 cases x with
 | d x=>
  cases (show Rep H O v x from r) with
  | non=>cases h;exact .non
  | bl=>cases h;exact .bl _
  | int=>cases h;exact .int _
  | str=>cases h;exact .str _
  | lst o e=>cases h;exact .lst e
  | tup o e=>cases h;exact .tup e
  | ty=>cases h
  | rng _ _=>cases h
  | scr _ _=>cases h
  | scrK _=>cases h
 | ref a=>
  unfold tyA at h
  dsimp only at h
  rw [r.1]
  cases e:M a with
  | none=>rw [e] at h;cases h
  | some o=>
   rw [e] at h
   have:=w.mo a o e
   cases o with
   | lst l=>cases h;obtain ⟨xs,hx,_⟩:=this;exact .lst hx
   | dK l=>cases h;obtain ⟨xs,hx,_⟩:=this;exact .dK hx
   | ins C fs=>cases h
   | exc C fs=>cases h
noncomputable def WA:List AV->MH->AK->Prop:=fun xs M Q=>∃ x t c b,xs=[x,.d (.ty c)]/\tyA x M=some t/\isT t c=some b/\Q (.d (.bl b)) M
theorem Kd {K:PySem.W.Frag}:xV (fun xs H Q=>∃ x t c b,xs=[x,V.ty c]/\qY K H x (Value.type t)/\isT t c=some b/\Q (V.bl b) H) WA:=⟨fun w r ⟨x,t,c,b,e,h,hb,q⟩ k=>by
 subst e
 obtain ⟨v,u,rfl,rv,ru⟩:=jT r
 exact ⟨v,t,c,b,by rw [Jn ru],Qb w rv h,hb,k _ _ _ _ _ q .refl w .bl⟩⟩
theorem wQ {H:Hp}{O:Own}{M:MH}:∀ {ns:List String} {xs:List V},zd H O M xs ((ns.map Dat.ty).map .d)->xs=ns.map V.ty
 | [],xs,r=>r.nil_inv
 | i :: ns,xs,r=>by
  obtain ⟨v,r',rfl,a1,r2⟩:=r.cons_inv
  rw [Jn a1,wQ r2];rfl
noncomputable def yK:List Dat->Option (List String)
 | []=>some []
 | .ty n :: r=>(yK r).map (n :: ·)
 | _=>none
theorem wO:∀ {l:List Dat} {cs:List String},yK l=some cs->l=cs.map Dat.ty
 | [],cs,h=>by cases h;rfl
 | .ty n :: r,cs,h=>by
  unfold yK at h
  cases e:yK r with
  | none=>rw [e] at h;cases h
  | some m=>rw [e] at h;cases h;rw [wO e];rfl
 | .non :: _,_,h=>by cases h
 | .bl _ :: _,_,h=>by cases h
 | .int _ :: _,_,h=>by cases h
 | .str _ :: _,_,h=>by cases h
 | .lst _ :: _,_,h=>by cases h
 | .tup _ :: _,_,h=>by cases h
 | .rng _ _ _ :: _,_,h=>by cases h
 | .scr _ _ :: _,_,h=>by cases h
noncomputable def XR:List AV->MH->AK->Prop:=fun xs M Q=>∃ x t l cs b,xs=[x,.d (.tup l)]/\yK l=some cs/\tyA x M=some t/\ko t cs=some b/\Q (.d (.bl b)) M
theorem JZ {K:PySem.W.Frag}:xV (fun xs H Q=>∃ x t p cs b,xs=[x,V.ref p]/\H p=some (HO.tup (List.map V.ty cs))/\qY K H x (Value.type t)/\ko t cs=some b/\Q (V.bl b) H) XR:=⟨fun w r ⟨x,t,l,cs,b,e,hc,h,hb,q⟩ k=>by
 subst e
 obtain ⟨v,u,rfl,rv,ru⟩:=jT r
 rw [wO hc] at ru
 obtain ⟨a,xs,rfl,h1,r1⟩:=qe (l:=(cs.map Dat.ty).map .d) ru rfl
 rw [wQ r1] at h1
 exact ⟨v,t,a,cs,b,rfl,h1,Qb w rv h,hb,k _ _ _ _ _ q .refl w .bl⟩⟩
theorem wl {H:Hp}{O:Own}{M:MH}:∀ {ns:List Bool} {xs:List V},zd H O M xs (ns.map fun i=>AV.d (.bl i))->xs=ns.map V.bl
 | [],xs,r=>r.nil_inv
 | i :: ns,xs,r=>by
  obtain ⟨v,r',rfl,a1,r2⟩:=r.cons_inv
  rw [kM a1,wl r2];rfl
noncomputable def WS (f:List Bool->Bool):List AV->MH->AK->Prop:=fun xs M Q=>∃ x bs,xs=[x]/\zN x M=some (List.map (fun b=>AV.d (.bl b)) bs)/\Q (.d (.bl (f bs))) M
theorem KY {K:PySem.W.Frag}{f:List Bool->Bool}:xV (fun xs H Q=>∃ p bs,xs=[V.ref p]/\SqL K H p (List.map V.bl bs)/\Q (V.bl (f bs)) H) (WS f):=⟨fun w r ⟨x,bs,e,h,q⟩ k=>by
 subst e
 obtain ⟨v,rfl,rv⟩:=qG r
 obtain ⟨a,xs,rfl,h1,r1⟩:=zS w rv h
 rw [wl r1] at h1
 exact ⟨a,bs,rfl,SqL.of h1,k _ _ _ _ _ q .refl w .bl⟩⟩
noncomputable def XD:List AV->MH->AK->Prop:=fun xs M Q=>∃ b,xs=[.d (.int b)]/\Q (.d (.rng 0 b 1)) M
theorem Qp:xV (fun xs H Q=>∃ b,xs=[V.int b]/\∀ (p:Addr),H p=none->Q (V.ref p) (upd H p (yM p 0 b 1))) XD:=⟨fun w r ⟨b,e,q⟩ k=>by
 subst e
 obtain ⟨v,rfl,rv⟩:=qG r
 exact ⟨b,by rw [zA rv],fun p hp=>k _ _ _ _ _ q (qo w hp _) (yq w hp _) (Rep.rng (w.fresh hp).1 zl)⟩⟩
noncomputable def JX:List AV->MH->(List AV->Prop)->Prop:=fun xs M Q=>∃ a b c n,xs=[.d (.rng a b c)]/\Builtin.Range.small a b c=true/\Builtin.Range.rangeSize a b c=((n:Nat):Int)/\n<=100000/\Q ((jt a c n).map fun i=>AV.d (.int i))
theorem xi:Qu (fun xs H Q=>∃ p a b c n,xs=[.ref p]/\H p=some (yM p a b c)/\Builtin.Range.small a b c=true/\Builtin.Range.rangeSize a b c=((n:Nat):Int)/\n<=100000/\∀ l,H l=none->Q (.ref l) (upd H l (.lst ((jt a c n).map V.int)))) JX:=⟨fun {vs xs H O M Q Q'} w r ⟨a,b,c,n,e,h1,h2,h3,q⟩ k=>by
 subst e
 obtain ⟨v,rfl,rv⟩:=qG r
 cases (show Rep H O v (.rng a b c) from rv) with
 | rng o h=>exact ⟨_,a,b,c,n,rfl,h,h1,h2,h3,k _ _ q (wd _)⟩⟩
structure ZT (r:V->List V->Hp->VK->Prop)(a:AV->List AV->MH->AK->Prop):Prop where
 go:∀ {x:V} {dx:AV} {vs:List V} {xs:List AV} {H:Hp} {O:Own} {M:MH} {Q:VK} {Q':AK},Wf H O M->zi H O M x dx->zd H O M vs xs->a dx xs M Q'->(∀ x M' v H' O',Q' x M'->Ext H O M H' O' M'->Wf H' O' M'->zi H' O' M' v x->Q v H')->r x vs H Q
noncomputable def aBM (r:AV->List AV->MH->AK->Prop)(a:AE)(b:AA):AE:=fun ρ M Q=>a ρ M fun x M1=>(∃ l,zN x M1=some l)/\b ρ M1 fun xs M2=>r x xs M2 Q
theorem Yd {K:PySem.W.Frag}{r:V->List V->Hp->VK->Prop}{ra:AV->List AV->MH->AK->Prop}{t:TE}{u:TA}{a:AE}{b:AA}(hr:ZT r ra)(h1:zE t a)(h2:jn u b):zE (tBM K "list" r t u) (aBM ra a b):=
 ⟨fun w e q k=>h1.go w e q fun x M1 v H1 O1 ⟨⟨l,hl⟩,q1⟩ k1 w1 r1=>⟨by
  obtain ⟨a,xs,rfl,hx,_⟩:=zS w1 r1 hl
  exact .inl ⟨rfl,xs,SqL.of hx⟩,h2.go w1 (e.ext k1) q1 fun y M2 u H2 O2 q2 k2 w2 r2=>hr.go w2 (r1.ext k2) r2 q2 fun z M3 v3 H3 O3 q3 k3 w3 r3=>k z M3 v3 H3 O3 q3 ((k1.trans k2).trans k3) w3 r3⟩⟩
noncomputable def WX (r:AV->List AV->MH->AK->Prop)(a:AE):AE:=fun ρ M Q=>a ρ M fun x M1=>(∃ l,zN x M1=some l)/\r x [] M1 Q
theorem KU {K:PySem.W.Frag}{r:V->List V->Hp->VK->Prop}{ra:AV->List AV->MH->AK->Prop}{t:TE}{a:AE}(hr:ZT r ra)(h1:zE t a):zE (YF K "list" r t) (WX ra a):=
 ⟨fun w e q k=>h1.go w e q fun x M1 v H1 O1 ⟨⟨l,hl⟩,q1⟩ k1 w1 r1=>⟨by
  obtain ⟨a,xs,rfl,hx,_⟩:=zS w1 r1 hl
  exact .inl ⟨rfl,xs,SqL.of hx⟩,hr.go w1 r1 .nil q1 fun z M3 v3 H3 O3 q3 k3 w3 r3=>k z M3 v3 H3 O3 q3 (k1.trans k3) w3 r3⟩⟩
theorem yN {H:Hp}{O:Own}{M:MH}{p:Addr}{l l':List AV}{xs':List V}(w:Wf H O M)(hm:M p=some (.lst l))(r:zd H O M xs' l'):Ext H O M (upd H p (.lst xs')) O (mup M p (.lst l'))/\Wf (upd H p (.lst xs')) O (mup M p (.lst l')):=
 have np:=qp hm
 ⟨jG w np _ _,Jx w np (fun _ z=>nomatch z) ⟨_,zl,r.ext (jG w np _ _)⟩⟩
noncomputable def w8:AV->List AV->MH->AK->Prop:=fun x xs M Q=>∃ p l y,x=.ref p/\xs=[y]/\M p=some (.lst l)/\l.length<sizeLine/\Q (.d .non) (mup M p (.lst (l ++ [y])))
theorem vG:ZT kj w8:=⟨fun w r1 r2 ⟨p,l,y,e1,e2,hm,hs,q⟩ k=>by
 subst e1 e2
 obtain ⟨v,rfl,rv⟩:=qG r2
 obtain ⟨xs,hx,rx⟩:=w.mo p _ hm
 obtain ⟨k1,w1⟩:=yN w hm (rx.snoc rv)
 exact ⟨p,xs,v,r1.1,rfl,hx,by rw [rx.1];exact hs,k _ _ _ _ _ q k1 w1 .non⟩⟩
noncomputable def yE:AV->List AV->MH->AK->Prop:=fun x xs M Q=>∃ p l,x=.ref p/\xs=[]/\M p=some (.lst l)/\Q (.d .non) (mup M p (.lst l.reverse))
theorem yG:ZT jF yE:=⟨fun w r1 r2 ⟨p,l,e1,e2,hm,q⟩ k=>by
 subst e1 e2
 obtain ⟨xs,hx,rx⟩:=w.mo p _ hm
 obtain ⟨k1,w1⟩:=yN w hm rx.reverse
 exact ⟨p,xs,r1.1,r2.nil_inv,hx,k _ _ _ _ _ q k1 w1 .non⟩⟩
noncomputable def wZ (r:Addr):MO->Prop
 | .lst l=>AV.ref r ∈ l
 | .dK kvs=>AV.ref r ∈ kvs.map (·.2)
 | .ins _ fs=>AV.ref r ∈ fs.map (·.2)
 | .exc _ _=>False
inductive Dee (M M2:MH):AV->Dat->Prop
 | d {x:Dat}:Dee M M2 (.d x) x
 | lst {p:Addr} {l:List AV} {ds:List Dat}:M p=some (.lst l)->M2 p=none->l.length=ds.length->(∀ (i:Nat) a b,l[i]?=some a->ds[i]?=some b->Dee M M2 a b)->Dee M M2 (.ref p) (.lst ds)
structure we (M0 M':MH)(x x':AV)(M'':MH):Prop where
 sub:∀ q,M'' q=M' q \/ (M0 q=none/\M'' q=none)
 cl:∀ q o,M'' q=some o->M0 q=some o \/ ∀ r,wZ r o->M'' r ≠ none
 res:(x'=x/\∀ p,x=.ref p->M'' p ≠ none) \/ (∃ p l ds,x=.ref p/\M' p=some (.lst l)/\pur l=some ds/\M'' p=none/\x'=.d (.lst ds)) \/ ∃ d,Dee M' M'' x d/\x'=.d d
theorem Dee.rep {H:Hp}{O:Own}{M M2:MH}(w:Wf H O M){x:AV}{d:Dat}(h:Dee M M2 x d):∀ {v:V},zi H O M v x->Rep H (fun a=>O a/\¬ (M a ≠ none/\M2 a=none)) v d:=by
 induction h with
 | d=>exact fun r=>Rep.imp (fun a u h e=>⟨e,fun z=>h z.1⟩) r
 | @lst p l ds hm hn hl _ ih=>
  intro v r
  obtain ⟨xs,hx,rx⟩:=w.mo p _ hm
  rw [r.1]
  refine Rep.lst (fun z=>z.2 ⟨qp hm,hn⟩) hx (rx.1.trans hl) fun i x d e1 e2=>?_
  have hi:=(List.getElem?_eq_some_iff.mp e2).1
  have ha:l[i]?=some (l[i]'(by omega)):=List.getElem?_eq_getElem (by omega)
  exact ih i _ d ha e2 (rx.2 i x _ e1 ha)
theorem KF {H0 H : Hp}{O0 O : Own}{M0 M' M'' : MH}{x x' : AV}{v : V}(w0 : Wf H0 O0 M0)(w : Wf H O M')(k : Ext H0 O0 M0 H O M')(r : zi H O M' v x)(f : we M0 M' x x' M'') :
    ∃ O'',Wf H O'' M''/\Ext H0 O0 M0 H O'' M''/\zi H O'' M'' v x'/\∀ a,O a->M' a=none->O'' a/\M'' a=none:=by
  have ks:∀ a u,¬ O a->H a=some u->H a=some u/\¬ (O a/\¬ (M' a ≠ none/\M'' a=none)):=fun a u h e=>⟨e,fun z=>h z.1⟩
  have k0:∀ a,M0 a ≠ none->M'' a=M' a:=fun a h=>(f.sub a).elim (fun z=>z) (fun z=>absurd z.1 h)
  have m0:∀ a,M0 a ≠ none->M'' a ≠ none:=fun a h=>by rw [k0 a h];exact k.mst a h
  have avs:∀ {xs:List V} {l:List AV},zd H O M' xs l->(∀ r,AV.ref r ∈ l->M'' r ≠ none)->zd H (fun a=>O a/\¬ (M' a ≠ none/\M'' a=none)) M'' xs l:=fun {xs l} rr hr=>⟨rr.1,fun i y d e1 e2=>by
    have:=rr.2 i y d e1 e2
    cases d with
    | d d=>exact Rep.imp ks this
    | ref a=>exact ⟨this.1,hr a (List.mem_of_getElem? e2)⟩⟩
  have refs0:∀ q o,M0 q=some o->∀ r,wZ r o->M0 r ≠ none:=fun q o e r hr=>by
    have:=w0.mo q o e
    cases o with
    | lst l=>
      obtain ⟨xs,_,rr⟩:=this
      obtain ⟨i,hi⟩:=List.getElem?_of_mem hr
      obtain ⟨y,_,ry⟩:=rr.get hi
      exact ry.2
    | dK l=>
      obtain ⟨xs,_,rr⟩:=this
      obtain ⟨i,hi⟩:=List.getElem?_of_mem hr
      obtain ⟨y,_,ry⟩:=rr.2.get hi
      exact ry.2
    | ins C l=>
      obtain ⟨dx,xs,_,rr,_⟩:=this
      obtain ⟨i,hi⟩:=List.getElem?_of_mem hr
      obtain ⟨y,_,ry⟩:=rr.2.get hi
      exact ry.2
    | exc C l=>exact hr.elim
  refine ⟨fun a=>O a/\¬ (M' a ≠ none/\M'' a=none),⟨fun q o e=>?_,fun a h=>?_,fun a h=>w.al a h.1⟩,⟨fun a u h e=>?_,fun a h e=>?_,m0⟩,?_,fun a h e=>⟨⟨h,fun z=>z.1 e⟩,(f.sub a).elim (fun z=>z.trans e) (fun z=>z.2)⟩⟩
  · have e' : M' q = some o := by
      rcases f.sub q with z | z
      · rw [<- z];exact e
      · rw [z.2] at e;cases e
    have hr:∀ r,wZ r o->M'' r ≠ none:=by
      rcases f.cl q o e with z | z
      · exact fun r hr=>m0 r (refs0 q o z r hr)
      · exact z
    have:=w.mo q o e'
    cases o with
    | lst l=>obtain ⟨xs,h1,rr⟩:=this;exact ⟨xs,h1,avs rr hr⟩
    | dK l=>obtain ⟨xs,h1,rr⟩:=this;exact ⟨xs,h1,rr.1,avs rr.2 hr⟩
    | ins C l=>
      obtain ⟨dx,xs,h1,rr,h2,h3,h4⟩:=this
      refine ⟨dx,xs,h1,⟨rr.1,avs rr.2 hr⟩,⟨h2,fun z=>z.1 h3⟩,?_,h4⟩
      rcases f.sub dx with z | z
      · rw [z];exact h3
      · exact z.2
    | exc C l=>
      obtain ⟨d,h1,h2⟩:=this
      refine ⟨d,h1,?_⟩
      rcases h2 with h2 | ⟨dx,e1,h2,h3,h4⟩
      · exact .inl h2
      · refine .inr ⟨dx,e1,h2,⟨h3,fun z=>z.1 h4⟩,?_⟩
        rcases f.sub dx with z | z
        · rw [z];exact h4
        · exact z.2
  · refine ⟨w.own a ?_,fun z=>h z.2⟩
    rcases f.sub a with z | z
    · rw [<- z];exact h
    · exact absurd z.2 h
  · obtain ⟨x1,x2⟩:=k.fix a u h e
    exact ⟨x1,fun z=>x2 z.1⟩
  · obtain ⟨x1,x2,x3⟩:=k.prv a h e
    refine ⟨x1,⟨x2,fun z=>z.1 x3⟩,?_⟩
    rcases f.sub a with z | z
    · rw [z];exact x3
    · exact z.2
  · rcases f.res with ⟨rfl,hp⟩ | ⟨p,l,ds,rfl,hm,hp,hn,rfl⟩ | ⟨d,hd,rfl⟩
    · cases x' with
      | d d=>exact Rep.imp ks r
      | ref a=>exact ⟨r.1,hp a rfl⟩
    · obtain ⟨xs,hx,rx⟩:=w.mo p _ hm
      rw [qO hp] at rx
      have rp:=rx.pure
      rw [r.1]
      exact Rep.lst (fun z=>z.2 ⟨qp hm,hn⟩) hx rp.1 fun i x d e1 e2=>(rp.2 i x d e1 e2).imp ks
    · exact hd.rep w r
theorem vB {H0 H:Hp}{O0 O:Own}{M0 M' M'':MH}{x x':AV}{v:V}(w0:Wf H0 O0 M0)(w:Wf H O M')(k:Ext H0 O0 M0 H O M')(r:zi H O M' v x)(f:we M0 M' x x' M'') :
  ∃ O'',Wf H O'' M''/\Ext H0 O0 M0 H O'' M''/\zi H O'' M'' v x':=let ⟨O2,a,b,c,_⟩:=KF w0 w k r f;⟨O2,a,b,c⟩
noncomputable def Fr (M0 M:MH):Prop:=∀ q,M0 q ≠ none->M q=M0 q
theorem Fr.refl {M:MH}:Fr M M:=fun _ _=>rfl
theorem Fr.mup {M0 M:MH}(f:Fr M0 M){p:Addr}(h:M0 p=none)(o:MO):Fr M0 (mup M p o):=fun q hq=>by rw [zt (fun z=>hq (by rw [z];exact h))];exact f q hq
theorem Fr.sub {M0 M:MH}(f:Fr M0 M)(q:Addr):M0 q=M q \/ (M0 q=none/\M0 q=none):=by
 cases e:M0 q with
 | none=>exact .inr ⟨rfl,rfl⟩
 | some o=>exact .inl (by rw [f q (by rw [e];exact fun z=>nomatch z),e])
theorem XZ {M0 M:MH}(f:Fr M0 M)(d:Dat):we M0 M (.d d) (.d d) M0:=⟨f.sub,fun q o e=>.inl e,.inl ⟨rfl,fun p z=>nomatch z⟩⟩
theorem yl {M0 M:MH}(f:Fr M0 M){p:Addr}{l:List AV}{ds:List Dat}(h0:M0 p=none)(h:M p=some (.lst l))(hp:pur l=some ds):we M0 M (.ref p) (.d (.lst ds)) M0:=⟨f.sub,fun q o e=>.inl e,.inr (.inl ⟨p,l,ds,rfl,h,hp,h0,rfl⟩)⟩
theorem yp {l:List AV}{ds:List Dat}(h:pur l=some ds)(r:Addr):AV.ref r ∉ l:=by
 rw [qO h];intro z
 obtain ⟨d,_,e⟩:=List.mem_map.mp z
 cases e
theorem Xs {M0 M:MH}(f:Fr M0 M){p:Addr}{l:List AV}{ds:List Dat}(h0:M0 p=none)(h:M p=some (.lst l))(hp:pur l=some ds):we M0 M (.ref p) (.ref p) (mup M0 p (.lst l)):=by
 refine ⟨fun q=>?_,fun q o e=>?_,.inl ⟨rfl,fun q z=>by cases z;rw [zf];exact fun z=>nomatch z⟩⟩
 ·by_cases c:q=p
  ·rw [c,zf,h];exact .inl rfl
  ·rw [zt c];exact f.sub q
 ·by_cases c:q=p
  ·rw [c,zf] at e
   cases e
   exact .inr fun r hr=>absurd hr (yp hp r)
  ·rw [zt c] at e;exact .inl e
noncomputable def qf (N:List Str)(xs:List AV):ASt:=xs.map some ++ List.replicate (N.length - xs.length) none
theorem Jo {H:Hp}{O:Own}{M:MH}{vs:List V}{xs:List AV}(r:zd H O M vs xs)(N:List Str):Er H O M (qA N vs) (qf N xs):=by
 unfold qA qf
 refine ⟨by simp [r.1],fun i x h=>?_⟩
 by_cases c:i<xs.length
 ·rw [List.getElem?_append_left (by simpa using c),List.getElem?_map] at h
  cases e:xs[i]? with
  | none=>rw [e] at h;cases h
  | some y=>
   rw [e] at h
   cases h
   obtain ⟨v,hv,rv⟩:=r.get e
   exact ⟨v,by rw [List.getElem?_append_left (by rw [List.length_map,r.1];exact c),List.getElem?_map,hv];rfl,rv⟩
 ·rw [List.getElem?_append_right (by simp;omega),List.getElem?_replicate] at h
  split at h <;> cases h
noncomputable def rtA (M0:MH)(Q:AK):AK:=fun x M'=>∃ x' M'',we M0 M' x x' M''/\Q x' M''
theorem dfA {P:Program}{w:World}{K:PySem.W.Frag}{mg:Str->Option Value}{base:Heap}{x:Str}{st:Stmt}{N ps:List Str}{k:Nat}{a:ASp}(at_:At K mg x st)(S:zB N ps (zj st))
  (hb:∀ (kV doc pm:Value) (an:Option Addr) (cdv ct:Value) (us:List Value),us.length=ps.length->bindArgs (PySem.W.fnOf x x (qD st) (zX st) (zj st) .none kV doc pm an cdv ct) ⟨us,[]⟩=pure (ps.zip us))
  (len:∀ xs M Q,a xs M Q->xs.length=ps.length)
  (hbody:∀ (f:Addr) (cdv:Value) (A:Around) (outer:List Env) (s:Shared) (H:Hp) (E:XK),qE k (A.deeper (envOfC x (zj st) s.heap.objs.size f cdv)) ->
   ∃ t,PSs (yg CX0 P w K mg base N x (zj st) f cdv A outer s H E).nox (zX st) t/\∃ b,jy t b/\∀ xs M Q,a xs M Q->b M { nx:=fun _ M'=>rtA M Q (.d .non) M',rt:=rtA M Q } (qf N xs) M):Df P w K mg base x ps (k+1) (cSp a):=by
 refine vw at_ S hb (fun vs H Q E h=>?_) (fun f cdv A outer s H vs Q E hr h=>?_)
 ·obtain ⟨xs,M,O,Q',w,r,q,_⟩:=h
  rw [r.1];exact len xs M Q' q
 ·obtain ⟨t,ht,b,hb,hq⟩:=hbody f cdv A outer s H E hr
  refine ⟨t,ht,?_⟩
  obtain ⟨xs,M,O,Q',w,r,q,kk⟩:=h
  refine hb.go w w (Jo r N) .refl (hq xs M Q' q) ⟨fun σ H' O' ρ M' w' e' x' q'=>?_,fun v y H' O' M' w' x' r' q'=>?_,fun _ _ _ _ _ _ _ _ z=>z.elim,fun _ _ _ _ _ _ _ _ z=>z.elim⟩
  ·obtain ⟨y',M'',f,q2⟩:=q'
   obtain ⟨O'',w2,k2,r2⟩:=vB w w' x' (show zi H' O' M' .non (.d .non) from .non) f
   exact kk _ _ _ _ _ q2 k2 w2 r2
  ·obtain ⟨y',M'',f,q2⟩:=q'
   obtain ⟨O'',w2,k2,r2⟩:=vB w w' x' r' f
   exact kk _ _ _ _ _ q2 k2 w2 r2
structure yi (tr:Addr->TR)(a:ATR):Prop where
 go:∀ D,xj D (tr D) a
theorem ZM {t:TE}{a:AE}(h:zE t a):yi (kK t) (xx a):=⟨fun D=>kS h⟩
theorem ZL {wi:TI}{g:TG}{tt:TT}{tr:Addr->TR}{ai:AI}{ag:AG}{at_:AT}{atr:ATR}(hi:xa wi ai)(hg:j7 g ag)(ht:jw tt at_)(hr:yi tr atr):yi (yc wi g tt tr) (vW ai ag at_ atr):=⟨fun D=>xh hi hg ht (hr.go D)⟩
theorem vL {ts:List Nat}{wi:TI}{g:TG}{tt:TT}{tr:Addr->TR}{ai:AI}{ag:AG}{at_:AT}{atr:ATR}(hi:xa wi ai)(hg:j7 g ag)(ht:jw tt at_)(hr:yi tr atr):yC (j9 ts wi g tt tr) (wG ts ai ag at_ atr):=kA hi hg ht hr.go
theorem ZV {K:PySem.W.Frag}{u:TA}{b:AA}(h:jn u b):zE (tCB (fun xs H Q=>∃ p ys,xs=[V.ref p]/\(SqL K H p ys \/ SqT K H p ys)/\∀ l,H l=none->Q (V.ref l) (upd H l (HO.lst ys))) u) (aFz (fCB Qw b)):=yr (yw xB h)
theorem Zt {u:TA}{b:AA}(h:jn u b):zE (tCB (fun xs H Q=>∃ p a b c n,xs=[.ref p]/\H p=some (yM p a b c)/\Builtin.Range.small a b c=true/\Builtin.Range.rangeSize a b c=((n:Nat):Int)/\n<=100000/\∀ l,H l=none->Q (.ref l) (upd H l (.lst ((jt a c n).map V.int)))) u) (aFz (fCB JX b)):=yr (yw xi h)
theorem ex2 {t:TS}{q:AS->Prop}{b:AS}(h:jy t b)(k:q b):∃ b,jy t b/\q b:=⟨b,h,k⟩
section
variable {X:Cx}{K:PySem.W.Frag}
end
theorem j8 {τ:Type}(R:τ->ASt)(f:AV->AV){ag:AG}{ae:AE}{G:MH->Prop}{N:List AV->ASt->MH->Prop}{l:List AV}{ρ:ASt}{M:MH}(h0:∃ o,ρ=R o)(hG:G M)(hl:l.length<=100000)
  (hs:∀ (o:τ) (x:AV) (Q:AV->ASt->MH->Prop),x ∈ l->(∀ o',Q (f x) (R o') M)->ag x (R o) M fun ρ2 M2=>ae ρ2 M2 fun y M3=>Q y ρ2 M3) (hN:∀ o,N (l.map f) (R o) M):Zi ag vc (xx ae) G N l [] ρ M:=by
 have hsl:100000<sizeLine:=by rw [sizeLine_eq];decide
 refine ⟨fun i acc ρ' M'=>i<=l.length/\acc=(l.take i).map f/\M'=M/\∃ o,ρ'=R o,⟨Nat.zero_le _,rfl,rfl,h0⟩,?_,?_⟩
 ·rintro i x acc ρ' M' hx ⟨hi,rfl,rfl,o,rfl⟩
  have hil:=(List.getElem?_eq_some_iff.mp hx).1
  refine ⟨hG,?_⟩
  refine hs o x (fun y ρ2 M3=>((l.take i).map f).length<sizeLine/\(i+1<=l.length/\(l.take i).map f ++ [y]=(l.take (i+1)).map f/\M3=M'/\∃ o,ρ2=R o)) (List.mem_of_getElem? hx) fun o'=>⟨by rw [List.length_map,List.length_take];omega,hil,?_,rfl,o',rfl⟩
  rw [List.take_add_one,hx,List.map_append];rfl
 ·rintro acc ρ' M' ⟨_,rfl,rfl,o,rfl⟩
  rw [List.take_length]
  exact ⟨hG,hN o⟩
theorem VI:isT "int" "int"=some true:=by decide +kernel
theorem VL:isT "int" "bool"=some false:=by decide +kernel
theorem Y5:isT "int" "str"=some false:=by decide +kernel
theorem Vw:isT "int" "list"=some false:=by decide +kernel
theorem YI:isT "int" "tuple"=some false:=by decide +kernel
theorem Va:isT "bool" "int"=some true:=by decide +kernel
theorem YB:isT "bool" "bool"=some true:=by decide +kernel
theorem YX:isT "bool" "str"=some false:=by decide +kernel
theorem V0:isT "bool" "list"=some false:=by decide +kernel
theorem Ya:isT "bool" "tuple"=some false:=by decide +kernel
theorem Vr:isT "str" "int"=some false:=by decide +kernel
theorem Yw:isT "str" "bool"=some false:=by decide +kernel
theorem Yt:isT "str" "str"=some true:=by decide +kernel
theorem Y0:isT "str" "list"=some false:=by decide +kernel
theorem Vp:isT "str" "tuple"=some false:=by decide +kernel
theorem YS:isT "NoneType" "int"=some false:=by decide +kernel
theorem VN:isT "NoneType" "bool"=some false:=by decide +kernel
theorem VY:isT "NoneType" "str"=some false:=by decide +kernel
theorem Yq:isT "NoneType" "list"=some false:=by decide +kernel
theorem Yp:isT "NoneType" "tuple"=some false:=by decide +kernel
theorem VH:isT "list" "int"=some false:=by decide +kernel
theorem VA:isT "list" "bool"=some false:=by decide +kernel
theorem V4:isT "list" "str"=some false:=by decide +kernel
theorem Y3:isT "list" "list"=some true:=by decide +kernel
theorem Yj:isT "list" "tuple"=some false:=by decide +kernel
theorem Y4:isT "tuple" "int"=some false:=by decide +kernel
theorem Ye:isT "tuple" "bool"=some false:=by decide +kernel
theorem X8:isT "tuple" "str"=some false:=by decide +kernel
theorem VX:isT "tuple" "list"=some false:=by decide +kernel
theorem VB:isT "tuple" "tuple"=some true:=by decide +kernel
theorem VS:ko "int" ["list","tuple"]=some false:=by decide +kernel
theorem Vq:ko "bool" ["list","tuple"]=some false:=by decide +kernel
theorem Vu:ko "str" ["list","tuple"]=some false:=by decide +kernel
theorem Vz:ko "NoneType" ["list","tuple"]=some false:=by decide +kernel
theorem Vt:ko "list" ["list","tuple"]=some true:=by decide +kernel
theorem Ym:ko "tuple" ["list","tuple"]=some true:=by decide +kernel
theorem QD:yK []=some []:=rfl
theorem ZE {n:String}{r:List Dat}:yK (.ty n :: r)=(yK r).map (n :: ·):=rfl
theorem Wa (M:MH):tyA (.d .non) M=some "NoneType":=rfl
theorem Wo (b:Bool)(M:MH):tyA (.d (.bl b)) M=some "bool":=rfl
theorem WY (i:Int)(M:MH):tyA (.d (.int i)) M=some "int":=rfl
theorem Wi (s:Str)(M:MH):tyA (.d (.str s)) M=some "str":=rfl
theorem Wc (l:List Dat)(M:MH):tyA (.d (.lst l)) M=some "list":=rfl
theorem WH (l:List Dat)(M:MH):tyA (.d (.tup l)) M=some "tuple":=rfl
theorem ZN (x:Dat)(r:List AV):pur (.d x :: r)=match pur r with | some l=>some (x :: l) | none=>none:=rfl
theorem Y1 (i j:Int):eqS (.int i) (.int j)=some (decide (i=j)):=rfl
theorem Vs (i j:Bool):eqS (.bl i) (.bl j)=some (decide (i=j)):=rfl
theorem V1 (i j:Str):eqS (.str i) (.str j)=some (decide (i=j)):=rfl
theorem KS:jr (.d .non)=true:=rfl
theorem K2 (i:Int):jr (.d (.int i))=false:=rfl
theorem Kt (i:List Dat):jr (.d (.lst i))=false:=rfl
theorem Kz (i:List Dat):jr (.d (.tup i))=false:=rfl
theorem KG (i:Addr):jr (.ref i)=false:=rfl
theorem Xk (i:Str):jr (.d (.str i))=false:=rfl
theorem Xa (i:Bool):jr (.d (.bl i))=false:=rfl
theorem Qa {H H':Hp}{O:Own}{M:MH}(w:Wf H O M)(k:Kp [] H H'):Ext H O M H' O M/\Wf H' O M:=by
 have e:Ext H O M H' O M:=⟨fun a o h e=>⟨k a o (by simp) e,h⟩,fun a h e=>⟨by
  obtain ⟨o,ho,_⟩:=w.al a h
  rw [ho];exact k a o (by simp) ho,h,e⟩,fun _ h=>h⟩
 refine ⟨e,⟨fun a o h=>qd.ext e ?_ (w.mo a o h),w.own,fun a h=>?_⟩⟩
 ·obtain ⟨u,hu,_⟩:=w.al a (w.own a (by rw [h];exact fun z=>nomatch z))
  rw [hu];exact k a u (by simp) hu
 ·obtain ⟨o,ho,hn⟩:=w.al a h
  exact ⟨o,k a o (by simp) ho,hn⟩
theorem Yb {H H':Hp}{O:Own}{M:MH}(w:Wf H O M){b:Addr}{l:List AV}(hb:M b=some (.lst l))(k:Kp [b] H H'){ns:List Int}(h:H' b=some (.lst (ns.map V.int))) :
  Ext H O M H' O (mup M b (.lst (ns.map fun i=>.d (.int i))))/\Wf H' O (mup M b (.lst (ns.map fun i=>.d (.int i)))):=by
 have hOb:=w.own b (qp hb)
 have kk:∀ a o,a ≠ b->H a=some o->H' a=some o:=fun a o ha e=>k a o (by simpa using ha) e
 have e:Ext H O M H' O (mup M b (.lst (ns.map fun i=>.d (.int i)))):=⟨fun a o h e=>⟨kk a o (fun z=>h (by rw [z];exact hOb)) e,h⟩,fun a ha e=>by
  have hne:a ≠ b:=fun z=>by rw [z,hb] at e;cases e
  obtain ⟨o,ho,_⟩:=w.al a ha
  exact ⟨by rw [ho];exact kk a o hne ho,ha,by rw [zt hne];exact e⟩,fun a ha=>by
  by_cases c:a=b
  ·rw [c,zf];exact fun z=>nomatch z
  ·rw [zt c];exact ha⟩
 refine ⟨e,⟨fun a o ho=>?_,fun a ha=>?_,fun a ha=>?_⟩⟩
 ·by_cases c:a=b
  ·subst c;rw [zf] at ho;cases ho;exact ⟨_,h,wd ns⟩
  ·rw [zt c] at ho
   refine qd.ext e ?_ (w.mo a o ho)
   obtain ⟨u,hu,_⟩:=w.al a (w.own a (qp ho))
   rw [hu];exact kk a u c hu
 ·by_cases c:a=b
  ·rw [c];exact hOb
  ·rw [zt c] at ha;exact w.own a ha
 ·by_cases c:a=b
  ·rw [c];exact ⟨_,h,fun xs z=>nomatch z⟩
  ·obtain ⟨o,ho,hn⟩:=w.al a ha
   exact ⟨o,kk a o c ho,hn⟩
theorem Qq {H:Hp}{O:Own}{p:Addr}{ns:List Int}(ho:¬ O p)(h:H p=some (.lst (ns.map V.int))):Rep H O (.ref p) (.lst (ns.map .int)):=
 Rep.lst ho h (by simp) fun i x d e1 e2=>by
  rw [List.getElem?_map] at e1 e2
  cases e:ns[i]? with
  | none=>rw [e] at e1;cases e1
  | some n=>rw [e] at e1 e2;cases e1;cases e2;exact .int
theorem JG {H:Hp}{O:Own}{M:MH}{v:V}{x:AV}{ns:List Int}(w:Wf H O M)(r:zi H O M v x)(h:zN x M=some (ns.map fun i=>.d (.int i))):∃ a,v=.ref a/\H a=some (.lst (ns.map V.int)):=by
 obtain ⟨a,xs,rfl,h1,r1⟩:=zS w r h
 rw [jJ r1] at h1
 exact ⟨a,rfl,h1⟩
theorem Df.imp' {P:Program}{w:World}{K:PySem.W.Frag}{mg:Str->Option Value}{base:Heap}{x:Str}{ps:List Str}{sp sp':Sp}{k:Nat}(D:Df P w K mg base x ps k sp)(h:∀ vs H Q E,sp' vs H Q E->sp vs H Q E):Df P w K mg base x ps k sp':=
 let ⟨f,fd,F,r⟩:=D
 ⟨f,fd,F.imp h,r⟩
mutual
noncomputable def wdt:Dat->Nat
 | .lst l=>max l.length (vH l)
 | .tup l=>max l.length (vH l)
 | _=>0
noncomputable def vH:List Dat->Nat
 | []=>0
 | a :: r=>max (wdt a) (vH r)
end
theorem wU {l:List Dat}{n:Nat}(h:∀ d ∈ l,wdt d<=n):vH l<=n:=by
 induction l with
 | nil=>exact Nat.zero_le _
 | cons a r ih=>rw [vH];exact Nat.max_le.mpr ⟨h a (by simp),ih fun d hd=>h d (by simp [hd])⟩
theorem wY {l:List Dat}{d:Dat}(h:d ∈ l):wdt d<=vH l:=by
 induction l with
 | nil=>cases h
 | cons a r ih=>
  rw [vH]
  rcases List.mem_cons.mp h with rfl | h
  ·exact Nat.le_max_left _ _
  ·exact Nat.le_trans (ih h) (Nat.le_max_right _ _)
noncomputable def qw (n:Nat)(d:Dat):Prop:=dp d<=n/\wdt d<=100000
theorem qw.mono {n m:Nat}{d:Dat}(h:qw n d)(k:n<=m):qw m d:=⟨Nat.le_trans h.1 k,h.2⟩
theorem J7 {n:Nat}{l:List Dat}(hl:l.length<=100000)(h:∀ d ∈ l,qw n d):qw (n+1) (.lst l):=⟨by rw [dp];exact Nat.succ_le_succ (j6 fun d hd=>(h d hd).1),by rw [wdt];exact Nat.max_le.mpr ⟨hl,wU fun d hd=>(h d hd).2⟩⟩
theorem Q0 {n:Nat}{l:List Dat}(hl:l.length<=100000)(h:∀ d ∈ l,qw n d):qw (n+1) (.tup l):=⟨by rw [dp];exact Nat.succ_le_succ (j6 fun d hd=>(h d hd).1),by rw [wdt];exact Nat.max_le.mpr ⟨hl,wU fun d hd=>(h d hd).2⟩⟩
theorem vq (n:Nat)(i:Int):qw n (.int i):=⟨by simp [dp],by simp [wdt]⟩
theorem ZK {ns:List Int}(h:ns.length<=100000):qw 1 (.lst (ns.map .int)):=J7 (by simpa using h) fun d hd=>by obtain ⟨i,_,rfl⟩:=List.mem_map.mp hd;exact vq 0 i
theorem vN {ns:List Int}(h:ns.length<=100000):qw 1 (.tup (ns.map .int)):=Q0 (by simpa using h) fun d hd=>by obtain ⟨i,_,rfl⟩:=List.mem_map.mp hd;exact vq 0 i
theorem qw.lst {n:Nat}{l:List Dat}(h:qw (n+1) (.lst l)):l.length<=100000/\∀ d ∈ l,qw n d:=by
 obtain ⟨h1,h2⟩:=h
 rw [dp] at h1
 rw [wdt] at h2
 exact ⟨(Nat.max_le.mp h2).1,fun d hd=>⟨by have:=zG hd;omega,Nat.le_trans (wY hd) (Nat.max_le.mp h2).2⟩⟩
theorem qw.tup {n:Nat}{l:List Dat}(h:qw (n+1) (.tup l)):l.length<=100000/\∀ d ∈ l,qw n d:=by
 obtain ⟨h1,h2⟩:=h
 rw [dp] at h1
 rw [wdt] at h2
 exact ⟨(Nat.max_le.mp h2).1,fun d hd=>⟨by have:=zG hd;omega,Nat.le_trans (wY hd) (Nat.max_le.mp h2).2⟩⟩
theorem qw.no_l {l:List Dat}(h:qw 0 (.lst l)):False:=by have:=h.1;rw [dp] at this;omega
theorem qw.no_t {l:List Dat}(h:qw 0 (.tup l)):False:=by have:=h.1;rw [dp] at this;omega
theorem y8 {x:AV}{M:MH}{l:List Dat}(h:jI x M=some (.lst l)):zN x M=some (l.map .d)/\qK x M=some (l.map .d)/\tyA x M=some "list"/\jr x=false:=by
 cases x with
 | d x=>cases h;exact ⟨rfl,rfl,rfl,rfl⟩
 | ref a=>
  unfold jI at h
  dsimp only at h
  cases e:M a with
  | none=>rw [e] at h;cases h
  | some o=>
   rw [e] at h
   cases o with
   | lst m=>
    dsimp only at h
    cases ep:pur m with
    | none=>rw [ep] at h;cases h
    | some ds=>
     rw [ep] at h
     cases h
     rw [qO ep] at e
     exact ⟨kL e,jB e,by unfold tyA;dsimp only;rw [e],rfl⟩
   | _=>cases h
theorem zK {x:AV}{M:MH}{d:Dat}(h:jI x M=some d)(hd:∀ l,d ≠ .lst l):x=.d d:=by
 cases x with
 | d x=>cases h;rfl
 | ref a=>
  unfold jI at h
  dsimp only at h
  cases e:M a with
  | none=>rw [e] at h;cases h
  | some o=>
   rw [e] at h
   cases o with
   | lst m=>
    dsimp only at h
    cases ep:pur m with
    | none=>rw [ep] at h;cases h
    | some ds=>rw [ep] at h;cases h;exact absurd rfl (hd ds)
   | _=>cases h
theorem V8 (b:Bool):dp (.bl b)=0:=by simp [dp]
theorem Yv (b:Str):dp (.str b)=0:=by simp [dp]
theorem YY:dp .non=0:=by simp [dp]
theorem YT (a b:Bool):eqD (.bl a) (.bl b)=decide (a=b):=by rw [eqD];cases a <;> cases b <;> rfl
theorem Qv (a b:Int):eqD (.int a) (.int b)=decide (a=b):=by rw [eqD];by_cases h:a=b <;> simp [h]
theorem Yu (a b:Str):eqD (.str a) (.str b)=decide (a=b):=by rw [eqD];by_cases h:a=b <;> simp [h]
theorem X9:eqD .non .non=true:=by simp [eqD]
theorem YV (i:Int):eqD .non (.int i)=false:=by simp [eqD]
theorem VU (i:Int):eqD (.int i) .non=false:=by simp [eqD]
theorem V3 (i:Int)(s:Str):eqD (.int i) (.str s)=false:=by simp [eqD]
theorem YA (i:Int)(s:Str):eqD (.str s) (.int i)=false:=by simp [eqD]
theorem Vi (s:Str):eqD (.str s) .non=false:=by simp [eqD]
theorem YR (s:Str):eqD .non (.str s)=false:=by simp [eqD]
theorem Ze (ns:List Int):List.map AV.d (List.map Dat.int ns)=List.map (fun i=>AV.d (.int i)) ns:=by rw [List.map_map];rfl
theorem XQ (ns:List Bool):List.map AV.d (List.map Dat.bl ns)=List.map (fun i=>AV.d (.bl i)) ns:=by rw [List.map_map];rfl
theorem qv (ns:List Int):pur (List.map (fun i=>AV.d (.int i)) ns)=some (ns.map Dat.int):=by rw [<- Ze,zR]
theorem Km (ns:List Bool):pur (List.map (fun i=>AV.d (.bl i)) ns)=some (ns.map Dat.bl):=by rw [<- XQ,zR]
theorem KZ {α β:Type}(f:α->β)(l:List α)(i:Int):atI (l.map f) i=(atI l i).map f:=by
 unfold atI
 rw [List.length_map]
 cases ixN l.length i with
 | none=>rfl
 | some j=>exact List.getElem?_map ..
theorem vS {n:Nat}{i:Int}(h0:0<=i)(h1:i<n):ixN n i=some i.toNat:=by unfold ixN;rw [if_pos h0,if_pos h1]
theorem YO {α:Type}{l:List α}{i:Int}(h0:0<=i)(h1:i<l.length)(d:α):atI l i=some (l.getD i.toNat d):=by
 unfold atI
 rw [vS h0 h1]
 show l[i.toNat]?=_
 rw [List.getD_eq_getElem?_getD,List.getElem?_eq_getElem (by omega)];rfl
theorem JA {ns:List Int}{i:Int}(h0:0<=i)(h1:i<ns.length):atI (ns.map fun i=>AV.d (.int i)) i=some (.d (.int (ns.getD i.toNat 0))):=by rw [KZ,YO h0 h1 0];rfl
theorem zp {a qb:AS}{B:MH}{D:xG}{ρ:ASt}{M:MH}(h:∀ r,r=qb->vv a r B D ρ M):vv a qb B D ρ M:=h qb rfl
theorem Fr.non {M M':MH}(f:Fr M M'){p:Addr}(h:M' p=none):M p=none:=by
 cases e:M p with
 | none=>rfl
 | some o=>rw [f p (by rw [e];exact fun z=>nomatch z),e] at h;cases h
noncomputable abbrev ilD (os:List Int):Dat:=.lst (os.map .int)
theorem Ku (ns:List Int)(M:MH):zN (.d (ilD ns)) M=some (ns.map fun i=>.d (.int i)):=by rw [Jq,Ze]
noncomputable def BxM (M:MH)(b:Addr)(N:Nat):Prop:=∃ x y z:Int,M b=some (.lst [.d (.int x),.d (.int y),.d (.int z)])/\0<=x/\0<=y/\y<2147483648/\0<=z/\z<=N
theorem BxM.mono {M:MH}{b:Addr}{N N':Nat}(h:BxM M b N)(hn:N<=N'):BxM M b N':=by
 obtain ⟨x,y,z,h1,h2,h3,h4,h5,h6⟩:=h
 exact ⟨x,y,z,h1,h2,h3,h4,h5,by omega⟩
theorem BxM.ne {M:MH}{b:Addr}{N:Nat}(h:BxM M b N):M b ≠ none:=by obtain ⟨x,y,z,h1,_⟩:=h;exact qp h1
theorem BxM.bx {H:Hp}{O:Own}{M:MH}{b:Addr}{N:Nat}(w:Wf H O M)(h:BxM M b N):Bx H b N:=by
 obtain ⟨x,y,z,h1,h2⟩:=h
 obtain ⟨xs,hx,rx⟩:=w.mo b _ h1
 rw [jJ (ns:=[x,y,z]) rx] at hx
 exact ⟨x,y,z,hx,h2⟩
noncomputable def BxS (M M':MH)(b:Addr)(N:Nat):Prop:=BxM M' b N/\∃ o,M'=mup M b o
theorem BxS.at {M M':MH}{b:Addr}{N:Nat}(h:BxS M M' b N){q:Addr}(hq:q ≠ b):M' q=M q:=by
 obtain ⟨_,o,rfl⟩:=h
 exact zt hq
theorem Vy {H H':Hp}{O:Own}{M:MH}(w:Wf H O M){b:Addr}{N N':Nat}(hb:BxM M b N)(k:Kp [b] H H')(h:Bx H' b N'):∃ M',BxS M M' b N'/\Ext H O M H' O M'/\Wf H' O M':=by
 obtain ⟨x,y,z,h1,_⟩:=hb
 obtain ⟨x',y',z',g1,g2⟩:=h
 obtain ⟨e1,e2⟩:=Yb w h1 k (ns:=[x',y',z']) g1
 exact ⟨_,⟨⟨x',y',z',zf,g2⟩,_,rfl⟩,e1,e2⟩
mutual
noncomputable def pdD:Dat->PyData
 | .bl b=>.bool b
 | .int i=>.int i
 | .str x=>.str x
 | .lst l=>.list (qH l)
 | .tup l=>.tuple (qH l)
 | _=>.none
noncomputable def qH:List Dat->List PyData
 | []=>[]
 | a :: r=>pdD a :: qH r
end
section
variable {X:Cx}{pins:List (Addr × Obj)}{s:Shared}{σ:St}{H:Hp}{O:Own}
theorem jc:∀ {xs:List V} {us:List Value} {l:List Dat},zk xs us->xs.length=l.length->(∀ (i:Nat) x d,xs[i]?=some x->l[i]?=some d->∀ v',zm x v'->∃ as,Reads s.heap v' (pdD d) as)->∃ as,ReadsAll s.heap us (qH l) as
 | [],_,[],.nil,_,_=>⟨_,by rw [qH];exact .nil⟩
 | x :: xs,_,d :: l,.cons r t,hl,h=>by
  obtain ⟨as,ha⟩:=h 0 x d rfl rfl _ r
  obtain ⟨bs,hb⟩:=jc t (by simpa using hl) (fun i y e h1 h2=>h (i+1) y e (by simpa using h1) (by simpa using h2))
  exact ⟨as ++ bs,by rw [qH];exact .cons ha hb⟩
theorem Kc (I:Inv X pins σ H s){v:V}{d:Dat}(r:Rep H O v d):dp d<1000->∀ v',zm v v'->∃ as,Reads s.heap v' (pdD d) as:=by
 induction r with
 | non=>intro _ v' rv;cases rv;exact ⟨_,by rw [show pdD .non=.none by simp [pdD]];exact .none⟩
 | bl=>intro _ v' rv;cases rv;exact ⟨_,by rw [pdD];exact .bool _⟩
 | int=>intro _ v' rv;obtain ⟨t,rfl⟩:=rv;exact ⟨_,by rw [pdD];exact .int _ _⟩
 | str=>intro _ v' rv;obtain ⟨t,rfl⟩:=rv;exact ⟨_,by rw [pdD];exact .str _ _⟩
 | ty=>intro h;rw [dp] at h;omega
 | rng _ _=>intro h;rw [dp] at h;omega
 | scr _ _=>intro h;rw [dp] at h;omega
 | scrK _=>intro h;rw [dp] at h;omega
 | @lst a xs l o h hl _ ih=>
  intro hd v' rv
  cases rv
  rw [dp] at hd
  obtain ⟨_,its,n,vs,hg⟩:=(show zx X.prog X.w H s.heap a (.lst xs) from I.hok a _ h)
  obtain ⟨as,ha⟩:=jc vs hl (fun i x d e1 e2=>ih i x d e1 e2 (by have:=zG (List.mem_of_getElem? e2);omega))
  exact ⟨_,by rw [pdD];exact .list hg rfl rfl (by simpa using ha)⟩
 | @tup a xs l o h hl _ ih=>
  intro hd v' rv
  cases rv
  rw [dp] at hd
  obtain ⟨_,its,vs,o,ho,hc,⟨n,hdt⟩,_⟩:=(show zx X.prog X.w H s.heap a (.tup xs) from I.hok a _ h)
  obtain ⟨as,ha⟩:=jc vs hl (fun i x d e1 e2=>ih i x d e1 e2 (by have:=zG (List.mem_of_getElem? e2);omega))
  exact ⟨_,by rw [pdD];exact .tuple ho hc hdt (by simpa using ha)⟩
mutual
theorem JC:∀ d:Dat,(pdD d).hasDict=false
 | .non=>by simp [pdD,PyData.hasDict]
 | .bl _=>by simp [pdD,PyData.hasDict]
 | .int _=>by simp [pdD,PyData.hasDict]
 | .str _=>by simp [pdD,PyData.hasDict]
 | .ty _=>by simp [pdD,PyData.hasDict]
 | .rng _ _ _=>by simp [pdD,PyData.hasDict]
 | .scr _ _=>by simp [pdD,PyData.hasDict]
 | .lst l=>by rw [pdD,PyData.hasDict];exact xN l
 | .tup l=>by rw [pdD,PyData.hasDict];exact xN l
theorem xN:∀ l:List Dat,PyData.hasDictAll (qH l)=false
 | []=>by simp [qH,PyData.hasDictAll]
 | a :: r=>by rw [qH,PyData.hasDictAll,JC a,xN r];rfl
end
mutual
theorem va:∀ d:Dat,(pdD d).depth<=dp d
 | .non=>by simp [pdD,PyData.depth]
 | .bl _=>by simp [pdD,PyData.depth]
 | .int _=>by simp [pdD,PyData.depth]
 | .str _=>by simp [pdD,PyData.depth]
 | .ty _=>by simp [pdD,PyData.depth]
 | .rng _ _ _=>by simp [pdD,PyData.depth]
 | .scr _ _=>by simp [pdD,PyData.depth]
 | .lst l=>by rw [pdD,PyData.depth,dp];exact Nat.succ_le_succ (j0 l)
 | .tup l=>by rw [pdD,PyData.depth,dp];exact Nat.succ_le_succ (j0 l)
theorem j0:∀ l:List Dat,PyData.depthAll (qH l)<=dps l
 | []=>by simp [qH,PyData.depthAll]
 | a :: r=>by rw [qH,PyData.depthAll,dps];exact Nat.max_le.mpr ⟨Nat.le_trans (va a) (Nat.le_max_left _ _),Nat.le_trans (j0 r) (Nat.le_max_right _ _)⟩
end
noncomputable def XY:List V->Hp->VK->Prop:=fun xs H Q=>∃ a O d,xs=[.ref a]/\Rep H O (.ref a) d/\dp d<=40/\(pdD d).showable=true/\(pdD d).shown.length<=sizeLine/\Q (.str (pdD d).shown) H
theorem xp (hg:X.A.guards=some [])(hu:X.A.units+64<cLine):qm X (.type "str") XY:=by
 intro pins s σ H xs us Q I r h
 obtain ⟨a,O,d,rfl,rd,hd,hs,hz,q⟩:=h
 have hdp:=va d
 obtain ⟨u,rfl,ru⟩:∃ u,us=[u]/\zm (.ref a) u:=by
  cases r with
  | cons p q=>cases q;exact ⟨_,rfl,p⟩
 cases ru
 obtain ⟨as,ha⟩:=Kc I rd (by omega) _ rfl
 exact str_of_reads ha hs (PyData.noDict_hsm (JC d)) hg (by omega) (fun _ _ e=>e) (fun h' u tk hk=>⟨.str _,H,I.kept hk,⟨_,rfl⟩,q⟩) hz
end
noncomputable def shD (d:Dat):Str:=(pdD d).shown
noncomputable def XI:List AV->MH->AK->Prop:=fun xs M Q=>∃ x d,xs=[x]/\jI x M=some d/\((∃ l,d=.lst l) \/ ∃ l,d=.tup l)/\dp d<=40/\(pdD d).showable=true/\(pdD d).shown.length<=sizeLine/\Q (.d (.str (shD d))) M
theorem QR:xV XY XI:=⟨fun w r ⟨x,d,e,hx,hk,h1,h3,h4,q⟩ k=>by
 subst e
 obtain ⟨v,rfl,rv⟩:=qG r
 obtain ⟨O',r'⟩:=kJ w rv hx
 obtain ⟨a,rfl⟩:∃ a,v=.ref a:=by
  rcases hk with ⟨l,rfl⟩ | ⟨l,rfl⟩
  ·cases r' with | lst _ _=>exact ⟨_,rfl⟩
  ·cases r' with | tup _ _=>exact ⟨_,rfl⟩
 exact ⟨a,O',d,rfl,r',h1,h3,h4,k _ _ _ _ _ q .refl w .str⟩⟩
section
variable {X:Cx}
end
structure Sh (b:Nat)(d:Dat):Prop where
 s:(pdD d).showable=true
 l:(pdD d).shown.length<=b
theorem YZ {i:Int}(h:i.natAbs<10 ^ 20):Sh 22 (.int i):=by
 have h1:i.natAbs.log2<1920:=by
  by_cases z:i.natAbs=0
  ·rw [z];decide
  ·exact (Nat.log2_lt z).mpr (Nat.lt_trans h (by decide +kernel))
 refine ⟨by rw [pdD,PyData.showable];exact decide_eq_true h1,?_⟩
 rw [pdD,PyData.shown]
 have:=int_text_length_le10 (a:=i) (k:=20) (by decide) h
 have e:(Str.ofString (toString i)).length=(toString i).length:=PySem.ofString_length _
 show (Str.ofString (toString i)).length<=22
 omega
theorem wW {l:List Dat}(h:∀ d ∈ l,(pdD d).showable=true):PyData.showableAll (qH l)=true:=by
 induction l with
 | nil=>simp [qH,PyData.showableAll]
 | cons a r ih=>rw [qH,PyData.showableAll,h a (by simp),ih fun d hd=>h d (by simp [hd])];rfl
theorem jM {b:Nat}{l:List Dat}(h:∀ d ∈ l,(pdD d).shown.length<=b):((PyData.shownAll (qH l)).map (·.length)).sum<=l.length * b/\(PyData.shownAll (qH l)).length=l.length:=by
 induction l with
 | nil=>simp [qH,PyData.shownAll]
 | cons a r ih=>
  obtain ⟨h1,h2⟩:=ih fun d hd=>h d (by simp [hd])
  have h3:=h a (by simp)
  rw [qH,PyData.shownAll]
  simp only [List.map_cons,List.sum_cons,List.length_cons]
  refine ⟨?_,by rw [h2]⟩
  rw [Nat.add_mul,Nat.one_mul]
  omega
theorem Yk {b n:Nat}{l:List Dat}(hn:l.length<=n)(h:∀ d ∈ l,Sh b d):Sh (n * b+2 * n+3) (.lst l):=by
 obtain ⟨h1,h2⟩:=jM (fun d hd=>(h d hd).l)
 refine ⟨by rw [pdD,PyData.showable];exact wW fun d hd=>(h d hd).s,?_⟩
 rw [pdD,PyData.shown]
 have:=listText_len_le (PyData.shownAll (qH l))
 have hm:l.length * b<=n * b:=Nat.mul_le_mul_right b hn
 omega
theorem Jy {b n:Nat}{l:List Dat}(hn:l.length<=n)(h:∀ d ∈ l,Sh b d):Sh (n * b+2 * n+3) (.tup l):=by
 obtain ⟨h1,h2⟩:=jM (fun d hd=>(h d hd).l)
 refine ⟨by rw [pdD,PyData.showable];exact wW fun d hd=>(h d hd).s,?_⟩
 rw [pdD,PyData.shown]
 have:=tupleText_len_le (PyData.shownAll (qH l))
 have hm:l.length * b<=n * b:=Nat.mul_le_mul_right b hn
 omega
theorem Ki {a b:ASp}(h:∀ xs M Q,b xs M Q->a xs M (rtA M Q))(vs:List V)(H:Hp)(Q:VK)(E:XK)(q:cSp b vs H Q E):cSp a vs H Q E:=by
 obtain ⟨xs,M,O,Q',w,r,q,k⟩:=q
 refine ⟨xs,M,O,_,w,r,h xs M Q' q,fun x M' v H' O' q' e' w' r'=>?_⟩
 obtain ⟨y',M'',f,q2⟩:=q'
 obtain ⟨O'',w2,k2,r2⟩:=vB w w' e' r' f
 exact k _ _ _ _ _ q2 k2 w2 r2
theorem BxM.refs {M:MH}{b:Addr}{N:Nat}(h:BxM M b N){o:MO}(e:M b=some o)(r:Addr):¬ wZ r o:=by
 obtain ⟨x,y,z,h1,_⟩:=h
 rw [h1] at e
 cases e
 exact yp (l:=[AV.d (.int x),AV.d (.int y),AV.d (.int z)]) (ds:=[.int x,.int y,.int z]) rfl r
structure SB (M0 M:MH)(b:Addr)(N:Nat):Prop where
 bx:BxM M b N
 fr:∀ q,M0 q ≠ none->q ≠ b->M q=M0 q
 b0:M0 b ≠ none
theorem SB.refl {M:MH}{b:Addr}{N:Nat}(h:BxM M b N):SB M M b N:=⟨h,fun _ _ _=>rfl,h.ne⟩
theorem SB.go {M0 M M':MH}{b:Addr}{N N':Nat}(s:SB M0 M b N)(t:BxS M M' b N'):SB M0 M' b N':=⟨t.1,fun q hq hb=>(t.at hb).trans (s.fr q hq hb),s.b0⟩
theorem SB.mono {M0 M:MH}{b:Addr}{N N':Nat}(s:SB M0 M b N)(h:N<=N'):SB M0 M b N':=⟨s.bx.mono h,s.fr,s.b0⟩
theorem BxM.put {M:MH}{b p:Addr}{N:Nat}(h:BxM M b N)(n:b ≠ p)(o:MO):BxM (mup M p o) b N:=by
 obtain ⟨x,y,z,h1,h2⟩:=h
 exact ⟨x,y,z,by rw [zt n];exact h1,h2⟩
theorem SB.new {M0 M:MH}{b p:Addr}{N:Nat}(s:SB M0 M b N)(hp:M p=none):M0 p=none/\p ≠ b:=by
 have hb:p ≠ b:=fun z=>s.bx.ne (by rw [<- z];exact hp)
 refine ⟨?_,hb⟩
 cases e:M0 p with
 | none=>rfl
 | some o=>rw [s.fr p (by rw [e];exact fun z=>nomatch z) hb,e] at hp;cases hp
theorem SB.put {M0 M:MH}{b p:Addr}{N:Nat}(s:SB M0 M b N)(h0:M0 p=none)(hb:p ≠ b)(o:MO):SB M0 (mup M p o) b N:=
 ⟨s.bx.put (Ne.symm hb) o,fun q hq hqb=>by rw [zt (fun z=>hq (by rw [z];exact h0))];exact s.fr q hq hqb,s.b0⟩
theorem SB.fin {M0 M:MH}{b:Addr}{N:Nat}(s:SB M0 M b N)(d:Dat):∃ M'',we M0 M (.d d) (.d d) M''/\BxS M0 M'' b N:=by
 obtain ⟨x,y,z,h1,h2⟩:=s.bx
 refine ⟨mup M0 b (.lst [.d (.int x),.d (.int y),.d (.int z)]),⟨fun q=>?_,fun q o e=>?_,.inl ⟨rfl,fun p z=>nomatch z⟩⟩,⟨x,y,z,zf,h2⟩,_,rfl⟩
 ·by_cases c:q=b
  ·rw [c,zf,h1];exact .inl rfl
  ·rw [zt c]
   cases e:M0 q with
   | none=>exact .inr ⟨rfl,rfl⟩
   | some o=>exact .inl (by rw [s.fr q (by rw [e];exact fun z=>nomatch z) c,e])
 ·by_cases c:q=b
  ·rw [c,zf] at e
   cases e
   exact .inr fun r hr=>absurd hr (yp (ds:=[.int x,.int y,.int z]) rfl r)
  ·rw [zt c] at e;exact .inl e
theorem SB.frz {M0 M:MH}{b p:Addr}{N:Nat}{Q:AK}{l:List AV}{ds:List Dat}(s:SB M0 M b N)(h0:M0 p=none)(hpb:p ≠ b)(h:M p=some (.lst l))(hp:pur l=some ds)(q:∀ M',BxS M0 M' b N->Q (.d (.lst ds)) M'):rtA M0 Q (.ref p) M:=by
 obtain ⟨M'',f,t⟩:=s.fin (.lst ds)
 refine ⟨_,M'',⟨f.sub,f.cl,.inr (.inl ⟨p,l,ds,rfl,h,hp,?_,rfl⟩)⟩,q M'' t⟩
 rw [t.at hpb];exact h0
theorem KJ {M0 M:MH}{Q:AK}{d:Dat}(f:Fr M0 M)(q:Q (.d d) M0):rtA M0 Q (.d d) M:=⟨_,_,XZ f d,q⟩
theorem SB.frm {M M2 M':MH}{b:Addr}{N:Nat}(f:Fr M M2)(hb:M b=none)(s:SB M2 M' b N):Fr M M':=fun q hq=>by
 have h1:q ≠ b:=fun z=>hq (by rw [z];exact hb)
 rw [s.fr q (by rw [f q hq];exact hq) h1,f q hq]
section
variable {X:Cx}
end
theorem xY {τ:Type}(R:τ->ASt)(g:AV->List AV){ag:AG}{tr:ATR}{G:MH->Prop}{N:List AV->ASt->MH->Prop}{l acc0:List AV}{ρ:ASt}{M:MH}(h0:∃ o,ρ=R o)(hG:G M)(hl:acc0.length+(l.flatMap g).length<=100000)
  (hs:∀ (o:τ) (x:AV) (acc:List AV) (N':List AV->ASt->MH->Prop),x ∈ l->acc.length+(g x).length<=100000->(∀ o',N' (acc ++ g x) (R o') M)->ag x (R o) M fun ρ2 M2=>tr acc ρ2 M2 N') (hN:∀ o,N (acc0 ++ l.flatMap g) (R o) M):Zi ag vc tr G N l acc0 ρ M:=by
 refine ⟨fun i acc ρ' M'=>i<=l.length/\acc=acc0 ++ (l.take i).flatMap g/\M'=M/\∃ o,ρ'=R o,⟨Nat.zero_le _,by simp,rfl,h0⟩,?_,?_⟩
 ·rintro i x acc ρ' M' hx ⟨hi,rfl,rfl,o,rfl⟩
  have hil:=(List.getElem?_eq_some_iff.mp hx).1
  have tk:l.take (i+1)=l.take i ++ [x]:=by rw [List.take_add_one,hx];rfl
  have e1:(l.take (i+1)).flatMap g=(l.take i).flatMap g ++ g x:=by rw [tk,List.flatMap_append];simp
  have hle:((l.take (i+1)).flatMap g).length<=(l.flatMap g).length:=by
   conv=>rhs;rw [<- List.take_append_drop (i+1) l,List.flatMap_append,List.length_append]
   omega
  refine ⟨hG,?_⟩
  refine hs o x _ _ (List.mem_of_getElem? hx) ?_ fun o'=>⟨hil,?_,rfl,o',rfl⟩
  ·rw [e1,List.length_append] at hle;rw [List.length_append];omega
  ·rw [e1,List.append_assoc]
 ·rintro acc ρ' M' ⟨_,rfl,rfl,o,rfl⟩
  rw [List.take_length]
  exact ⟨hG,hN o⟩
noncomputable def WV (K:PySem.W.Frag)(n:Nat)(t:TGs):TG:=fun v σ H Q=>∃ a xs,v=.ref a/\(SqL K H a xs \/ SqT K H a xs)/\xs.length=n/\t xs σ H Q
theorem KC {X:Cx}{es:List Expr}{k:Nat}{pos:Pos}{t:TGs}{K:PySem.W.Frag}(n:Nat)(h:X.K=K)(hc:X.calm=true)(hs:PGs X es t)(hn:(assignEach es X.env).length=n:=by rfl)(hst:(assignEach es X.env).findIdx? (·.1)=none:=by rfl):PG X (.Tuple es k pos) (WV K n t):=by
 intro pins s σ H v x Q I r q
 obtain ⟨a,xs,e1,h1 | h1,e2,q⟩:=q
 ·exact K4 n h hc hs hn hst pins s σ H v x Q I r ⟨a,xs,e1,h1,e2,q⟩
 ·exact jD n h hc hs hn hst pins s σ H v x Q I r ⟨a,xs,e1,h1,e2,q⟩
noncomputable def XN (n:Nat)(b:AGs):AG:=fun x ρ M Q=>∃ l,qK x M=some l/\l.length=n/\b l ρ M Q
theorem JD {K:PySem.W.Frag}{n:Nat}{u:TGs}{b:AGs}(h:vh u b):j7 (WV K n u) (XN n b):=⟨fun w e r q k=>by
 obtain ⟨l,e1,ln,q⟩:=q
 obtain ⟨a,xs,rfl,h1,r1⟩:=xS w r e1
 exact ⟨a,xs,rfl,h1.elim (fun h=>.inl (SqL.of h)) (fun h=>.inr (SqT.of h)),r1.1.trans ln,h.go w e r1 q k⟩⟩
section
open PySem.SeqAt
open PySem.AutoSeq1 (wpAny_loadPart')
open PySem.MeetsSeq PySem.MeetsSeq2 PySem.MeetsSeq3 PySem.SeqRoads2
theorem kh {M:Model}{A:Around}{E:Value->Shared->Prop}{s:Shared}{β:Type}(f:Nat->β->Sem (ForInStep β))(I:Nat->β->Shared->Prop)(Q:β->Shared->Prop)(n:Nat)
  (turn:∀ i b s,i<n->I i b s->wpAny M A (f i b) (fun r s'=>match r with | .yield b'=>I (i+1) b' s' | .done b'=>Q b' s') E s)
  (fin:∀ b s,I n b s->Q b s) (b:β) (h:I 0 b s):wpAny M A (forIn [0:n] b f) Q E s:=by
 rw [Std.Legacy.Range.forIn_eq_forIn_range']
 have e:([0:n]:Std.Legacy.Range).size=n:=by simp [Std.Legacy.Range.size]
 rw [e]
 refine wpAny_forIn_list f (fun qb b s=>∃ i,i<=n/\qb=List.range' i (n - i) 1/\I i b s) Q ?_ ?_ _ _ ⟨0,Nat.zero_le _,rfl,h⟩
 ·rintro x qb b s ⟨i,hi,hr,hI⟩
  cases e2:n - i with
  | zero=>rw [e2] at hr;cases hr
  | succ k=>
   rw [e2,List.range'_succ] at hr
   injection hr with h1 h2
   subst h1
   refine wpAny_mono (turn x b s (by omega) hI) (fun r s' hr=>?_) fun _ _ h'=>h'
   cases r with
   | done b'=>exact hr
   | yield b'=>exact ⟨x+1,by omega,by rw [h2];congr 1;omega,hr⟩
 ·rintro b s ⟨i,hi,hr,hI⟩
  have:n - i=0:=by
   cases e2:n - i with
   | zero=>rfl
   | succ k=>rw [e2,List.range'_succ] at hr;cases hr
  obtain rfl:i=n:=by omega
  exact fin b s hI
theorem kY (l:Addr)(items:Array Value)(n:Nat)(dd:Option Addr)(sl:Array (Option Value))(x:Value)(e:Value->Bool)(j:Nat)(hj:j<items.size)(hit:e items[j]=true)(hno:∀ m (hm:m<items.size),m<j->e items[m]=false) :
  Meets (Builtin.«tuple.index» ⟨[.ref l,x],[]⟩)
   (fun A R s=>s.heap.get? l=some { cls:=.type "tuple",dict:=dd,data:=.seq items n,slots:=sl }/\(∀ y,y ∈ items->EqAt A.in1 s y x (e y))/\R (.ok (.ret (.int j s.toks))) { s with toks:=s.toks+1 }):=
 .of_wp fun prog w A R s h=>by
  obtain ⟨hp,g,d,tk,os⟩:=s;obtain ⟨hl,he,h⟩:=h
  wp_walk using wpAny_loadPart' hl,kh _ (fun i b s'=>b.1=none/\s'=⟨hp,g,d,tk,os⟩/\i<=j) _ _
  case turn=>
   rintro i b s' hi ⟨hb,rfl,hij⟩
   have hi':i<items.size:=by omega
   rw [Array.getElem?_eq_getElem hi']
   dsimp only
   refine wpAny_bind (he _ (Array.getElem_mem hi') prog w _ _ ?_)
   by_cases c:i=j
   ·subst c
    rw [hit]
    wp_walk
    exact ⟨_,rfl,h⟩
   ·rw [hno i hi' (by omega)]
    wp_walk
    exact ⟨rfl,rfl,by omega⟩
  case fin=>
   rintro ⟨b1,b2⟩ s' ⟨hb,rfl,hij⟩
   omega
  case h=>
   exact ⟨rfl,rfl,Nat.zero_le _⟩
end
noncomputable def Zb:V->List V->Hp->VK->Prop:=fun x vs H Q=>∃ (l:Addr) (ns:List Int) (i:Int) (j:Nat),x=.ref l/\vs=[.int i]/\H l=some (.tup (ns.map V.int))/\j<ns.length/\ns.getD j 0=i/\(∀ m,m<j->ns.getD m 0 ≠ i)/\Q (.int (j:Nat)) H
section
variable {X:Cx}
theorem ZR:MtR X "tuple.index" Zb:=by
 intro pins s σ H x vs v us Q I rx rv h
 obtain ⟨l,ns,i,j,rfl,rfl,hH,hj,hji,hm,q⟩:=h
 cases rx
 obtain ⟨u,rfl,⟨t,rfl⟩⟩:=rv.one
 obtain ⟨hl,its,r,o,e,hc,⟨n,hd⟩,hdn⟩:=(show zx X.prog X.w H s.heap l (.tup (ns.map V.int)) from I.hok _ _ hH)
 obtain ⟨oc,od,odt,osl⟩:=o
 simp only at hc hd hdn
 subst hc hd hdn
 have hlen:=r.length
 rw [List.length_map] at hlen
 have item:∀ m (hmm:m<its.length),∃ tm,its[m]=Value.int (ns.getD m 0) tm:=fun m hmm=>by
  have e1:(ns.map V.int)[m]?=some (.int (ns.getD m 0)):=by
   rw [List.getElem?_map,List.getD_eq_getElem?_getD,List.getElem?_eq_getElem (by omega)];rfl
  obtain ⟨u,hu,⟨tm,ru⟩⟩:=r.get e1
  have:=(List.getElem?_eq_some_iff.mp hu).2
  exact ⟨tm,by rw [this];exact ru⟩
 have fl:(ns.map V.int).all xH=true:=by
  rw [List.all_eq_true]
  intro x hx
  obtain ⟨k,_,rfl⟩:=List.mem_map.mp hx
  rfl
 refine call_meets F.slot_tuple_index ⟨_,e,rfl⟩ F.entry_tuple_index (F.args_tuple_index_2 _ _) (kY l its.toArray n none _ (.int i t) (eqU (.int i)) j (by rw [List.size_toArray];omega) ?_ ?_) ⟨e,?_,?_⟩
 ·obtain ⟨tm,em⟩:=item j (by omega)
  rw [List.getElem_toArray,em,hji]
  show (i == i)=true
  simp
 ·intro m hmm hmj
  obtain ⟨tm,em⟩:=item m (by rw [List.size_toArray] at hmm;exact hmm)
  rw [List.getElem_toArray,em]
  show (ns.getD m 0 == i)=false
  simpa using hm m hmj
 ·intro y hy
  exact vx (x:=.int i) ⟨t,rfl⟩ rfl r fl y (by simpa using hy)
 ·exact ⟨.int (j:Nat),H,I.kept (t':=s.toks+1) fun b o e=>e,⟨_,rfl⟩,q⟩
end
noncomputable def Wk (r:AV->List AV->MH->AK->Prop)(a:AE)(b:AA):AE:=fun ρ M Q=>a ρ M fun x M1=>(∃ l,x=.d (.tup l))/\b ρ M1 fun xs M2=>r x xs M2 Q
theorem Xd {K:PySem.W.Frag}{r:V->List V->Hp->VK->Prop}{ra:AV->List AV->MH->AK->Prop}{t:TE}{u:TA}{a:AE}{b:AA}(hr:ZT r ra)(h1:zE t a)(h2:jn u b):zE (tBM K "tuple" r t u) (Wk ra a b):=
 ⟨fun w e q k=>h1.go w e q fun x M1 v H1 O1 ⟨⟨l,hl⟩,q1⟩ k1 w1 r1=>⟨by
  subst hl
  obtain ⟨a,xs,rfl,hx,_⟩:=qe (l:=l.map .d) r1 rfl
  exact .inr (.inl ⟨rfl,.inl ⟨xs,.inl hx⟩⟩),h2.go w1 (e.ext k1) q1 fun y M2 u H2 O2 q2 k2 w2 r2=>hr.go w2 (r1.ext k2) r2 q2 fun z M3 v3 H3 O3 q3 k3 w3 r3=>k z M3 v3 H3 O3 q3 ((k1.trans k2).trans k3) w3 r3⟩⟩
noncomputable def Za:AV->List AV->MH->AK->Prop:=fun x xs M Q=>∃ ns i j,x=.d (.tup (List.map Dat.int ns))/\xs=[.d (.int i)]/\j<ns.length/\ns.getD j 0=i/\(∀ m,m<j->ns.getD m 0 ≠ i)/\Q (.d (.int (j:Nat))) M
theorem wc:ZT Zb Za:=⟨fun w r1 r2 ⟨ns,i,j,hl,e,h1,h2,h3,q⟩ k=>by
 subst e hl
 obtain ⟨u,rfl,ru⟩:=qG r2
 obtain ⟨a,xs,rfl,hx,p1⟩:=qe (l:=(ns.map Dat.int).map .d) r1 rfl
 rw [Ze] at p1
 rw [jJ p1] at hx
 exact ⟨a,ns,i,j,rfl,by rw [zA ru],hx,h1,h2,h3,k _ _ _ _ _ q .refl w .int⟩⟩
section
variable {X:Cx}{pins:List (Addr × Obj)}{σ:St}{H:Hp}{s:Shared}{a b:Addr}{kvs:List (List Key × V)}{k:List Key}{v:V}{r:Value}{A:Around}{E:Value->Shared->Prop}
end
section
variable {prog:Program}{w:World}{A:Around}{E:Value->Shared->Prop}{s:Shared}
end
section
variable {X:Cx}
end
theorem We:typeLookup (.type "zip") "keys"=pure none:=by rw [typeLookup_type,builtinLookup_eq_fast];kernel_rfl
theorem WF:typeLookup (.type "zip") "__getattr__"=pure none:=by rw [typeLookup_type,builtinLookup_eq_fast];kernel_rfl
theorem Wh:entryFor table "zip.__getattribute__"=some Builtin.«object.__getattribute__»:=entryFor_alias (id':="object.__getattribute__") (by kernel_rfl) (by decide +kernel) (by decide +kernel) (by kernel_rfl)
theorem Ws (z:Addr)(fs:Array Value)(u:Tok):Meets (Builtin.«object.__getattribute__» ⟨[.ref z,.str "keys" u],[]⟩) (fun A R s=>s.heap.get? z=some { cls:=.type "zip",data:=.fields fs }/\raisesAttr (.ref z) "keys" A R s):=
 .of_wp fun P w A R ⟨hp,g,d,tk,os⟩ ⟨hx,r⟩=>by
  have t:(⟨hp,g,d,tk,os⟩:Shared).TypeIs (.ref z) "zip":=⟨_,hx,rfl⟩
  have k:=We
  unfold Builtin.«object.__getattribute__»
  repeat (any_goals (first | assumption | wp_step))
  exact wpAny_raiseAttrError r.1 r.2 (attrMsg_fits (by decide +kernel) (by size_fits))
theorem Xu {P:Program}{w:World}{A:Around}{E:Value->Shared->Prop}{s:Shared}{z:Addr}{fs:Array Value}{Q:Option Value->Shared->Prop}(hh:A.handled=none)(hx:s.heap.get? z=some { cls:=.type "zip",data:=.fields fs })
  (h:∀ h' tk,(∀ b o,s.heap.get? b=some o->h'.get? b=some o)->Q none { s with heap:=h',toks:=tk }):wpAny (model P w) A (getAttr? (.ref z) "keys") Q E s:=by
 obtain ⟨hp,g,d,tk,os⟩:=s
 have t:∀ tk',(⟨hp,g,d,tk',os⟩:Shared).TypeIs (.ref z) "zip":=fun _=>⟨_,hx,rfl⟩
 have f1:=sub_AttributeError
 have f3:=F.slot_zip_getattribute.lookup
 have f4:=F.slot_zip_getattribute.bind (.ref z)
 have f5:=WF
 unfold getAttr? getAttrBy? getAttrBy
 repeat (any_goals (first | assumption | exact t _ | ((with_reducible show wpAny _ _ (call (Value.builtin "zip.__getattribute__") _ _) _ _ _);refine call_meets F.slot_zip_getattribute (t _) Wh (F.args_zip_getattribute_2 _ _) (Ws z fs _) ⟨hx,hh,fun h' tk' e n=>?_⟩) | wp_step))
 obtain ⟨t',u',he⟩:=n.there
 show wpAny _ _ (getattributeRaised _ _ _ _ _ _ _) _ _ _
 unfold getattributeRaised
 repeat (any_goals (first | assumption | wp_step))
 exact h _ _ n.keeps
noncomputable def js (h:Heap)(z TI TO c:Addr)(b:Bool):Prop:=h.get? z=some { cls:=.type "zip",data:=.fields #[rawInt c,.bool b,.bool false,.ref TI,.ref TO] }
theorem vj {M:Model}{A:Around}{E:Value->Shared->Prop}{s:Shared}{a:Addr}{Q:Option Obj->Shared->Prop}(h:Q (s.heap.get? a) s):wpAny M A (loadIfAlive a) Q E s:=fun _ _ _=>by
 unfold loadIfAlive
 rw [Sem.wp_loadIfAlive]
 exact h
section
variable {P:Program}{w:World}{A:Around}{E:Value->Shared->Prop}{s:Shared}{z TI TO i1 i2 l1 l2 c:Addr}{k:Nat}{xs ys:Array Value}{x y:Value}{Q:Option Value->Shared->Prop}
theorem ve {b:Bool}{oc:Obj}(hz:js s.heap z TI TO c b)(hc:s.heap.get? c=some oc):wpAny (model P w) A (Builtin.SmallTypes.ownedTupleIsFree (.ref z)) (fun a s'=>a=false/\∃ h',s'={ s with heap:=h' }/\js h' z TI TO c true/\Heap.SameBut z s.heap h') (fun _ _=>False) s:=by
 unfold Builtin.SmallTypes.ownedTupleIsFree
 refine wpAny_bind (wpAny_field hz rfl (x:=rawInt c) rfl ?_)
 refine wpAny_bind (vj ?_)
 have hc':s.heap.get? (c:Int).toNat=some oc:=hc
 rw [hc',if_neg (fun q=>nomatch q)]
 refine wpAny_bind (wpAny_field hz rfl (x:=.bool b) rfl ?_)
 cases b with
 | true=>exact wpAny_pure ⟨rfl,_,rfl,hz,rfl,fun _ _=>rfl⟩
 | false=>
  refine wpAny_bind (wpAny_setField hz rfl (by simp) (wpAny_pure ⟨rfl,_,rfl,Heap.get?_update_self _ hz (Obj.isFreed_of_fields (Obj.data_mapFields rfl _)),Heap.SameBut.update s.heap z _⟩))
theorem Zy {b:Bool}{oc:Obj}(D:ZipApart z TI TO i1 i2 l1 l2)(hz:js s.heap z TI TO c b)(hc:s.heap.get? c=some oc)(hTI:IsPair s.heap TI (.ref i1) (.ref i2))(h1:s.heap.IsTupleIter i1 l1 k)(h2:s.heap.IsTupleIter i2 l2 k)(p1:s.heap.IsTuple l1 xs)(p2:s.heap.IsTuple l2 ys)(hx:xs[k]?=some x)(hy:ys[k]?=some y)
  (hQ:∀ h',js h' z TI TO c true->h'.IsTupleIter i1 l1 (k+1)->h'.IsTupleIter i2 l2 (k+1)->IsPair h' s.heap.objs.size x y->h'.objs.size=s.heap.objs.size+1->(∀ c o,c ≠ z->c ≠ i1->c ≠ i2->s.heap.get? c=some o->h'.get? c=some o)->Q (some (.ref s.heap.objs.size)) { s with heap:=h' }) :
  wpAny (model P w) A (pyNext (.ref z)) Q E s:=by
 have hT:s.TypeIs (.ref z) "zip":=⟨_,hz,rfl⟩
 unfold pyNext
 refine wpAny_bind (wpAny_attempt (wpAny_callSpecial?_slot (name:=Str.ofString "__next__") hT F.slot_zip_next (wpAny_call_entry F.slot_zip_next hT F.entry_zip_next ?_ (F.args_zip_next_1 _))))
 refine wpAny_bind (m:=field (.ref z) 2) (wpAny_field hz rfl (x:=.bool false) rfl ?_)
 refine wpAny_bind (m:=field (.ref z) 3) (wpAny_field hz rfl (x:=.ref TI) rfl ?_)
 refine wpAny_bind (m:=seqItems? (.ref TI)) (wpAny_seqItems hTI rfl ?_)
 refine wpAny_bind (m:=Builtin.SmallTypes.ownedTupleIsFree (.ref z)) ?_
 refine wpAny_mono (ve hz hc) (fun a s' ⟨ha,h1',hs',z1,sb1⟩=>?_) fun _ _ q=>q.elim
 subst ha hs'
 dsimp only
 rw [if_neg (fun q=>nomatch q)]
 refine wpAny_bind ?_
 rw [<- Array.forIn_toList]
 show wpAny _ _ (forIn [Value.ref i1,Value.ref i2] _ _) _ _ _
 have it1:h1'.IsTupleIter i1 l1 k:=by obtain ⟨o,ho,r⟩:=h1;exact ⟨o,(sb1.2 i1 D.i1z).trans ho,r⟩
 have tp1:h1'.IsTuple l1 xs:=by obtain ⟨o,ho,r⟩:=p1;exact ⟨o,(sb1.2 l1 D.l1z).trans ho,r⟩
 rw [List.forIn_cons]
 refine wpAny_bind (wpAny_bind (wpAny_holding ?_))
 show wpAny _ _ (Builtin.SmallTypes.nextOf (.ref i1) >>= fun v=>pure (some v)) _ _ _
 refine wpAny_bind (zY it1 tp1 hx fun h2' it2 sb2=>wpAny_pure ?_)
 dsimp only
 have it3:h2'.IsTupleIter i2 l2 k:=by obtain ⟨o,ho,r⟩:=h2;exact ⟨o,((sb2.2 i2 (Ne.symm D.i12)).trans (sb1.2 i2 D.i2z)).trans ho,r⟩
 have tp3:h2'.IsTuple l2 ys:=by obtain ⟨o,ho,r⟩:=p2;exact ⟨o,((sb2.2 l2 D.l2i1).trans (sb1.2 l2 D.l2z)).trans ho,r⟩
 refine wpAny_pure ?_
 dsimp only
 rw [List.forIn_cons]
 refine wpAny_bind (wpAny_bind (wpAny_holding ?_))
 show wpAny _ _ (Builtin.SmallTypes.nextOf (.ref i2) >>= fun v=>pure (some v)) _ _ _
 refine wpAny_bind (zY it3 tp3 hy fun h4' it4 sb4=>wpAny_pure ?_)
 dsimp only
 refine wpAny_pure ?_
 dsimp only
 rw [List.forIn_nil]
 refine wpAny_pure ?_
 dsimp only
 have sz:h4'.objs.size=s.heap.objs.size:=(sb4.1.trans sb2.1).trans sb1.1
 refine wpAny_bind (wpAny_newTuple ?_ (by show 2<=sizeLine;decide))
 refine wpAny_pure ⟨_,rfl,wpAny_pure ?_⟩
 have n6:(h4'.push { cls:=Value.type "tuple",data:=Data.seq #[x,y] }).get? h4'.objs.size=some { cls:=Value.type "tuple",data:=Data.seq #[x,y] }:=Heap.get?_push_size _ rfl
 have ex6:∀ c o,h4'.get? c=some o->(h4'.push { cls:=Value.type "tuple",data:=Data.seq #[x,y] }).get? c=some o:=fun c o e=>Heap.get?_push_of_some _ e
 have sz6:(h4'.push { cls:=Value.type "tuple",data:=Data.seq #[x,y] }).objs.size=h4'.objs.size+1:=Heap.size_push ..
 rw [sz] at n6 sz6
 show Q (some (.ref h4'.objs.size)) { s with heap:=h4'.push { cls:=Value.type "tuple",data:=Data.seq #[x,y] } }
 rw [sz]
 refine hQ _ (ex6 _ _ (((sb4.2 z (Ne.symm D.i2z)).trans (sb2.2 z (Ne.symm D.i1z))).trans z1)) ?_ ?_ n6 sz6 fun c o c1 c2 c3 e=>ex6 _ _ ((sb4.2 c c3).trans ((sb2.2 c c2).trans ((sb1.2 c c1).trans e)))
 ·obtain ⟨o,ho,r⟩:=it2
  exact ⟨o,ex6 _ _ ((sb4.2 i1 D.i12).trans ho),r⟩
 ·obtain ⟨o,ho,r⟩:=it4
  exact ⟨o,ex6 _ _ ho,r⟩
theorem Jh {b:Bool}{oc:Obj}(hh:A.handled=none)(D:ZipApart z TI TO i1 i2 l1 l2)(hz:js s.heap z TI TO c b)(hc:s.heap.get? c=some oc)(hTI:IsPair s.heap TI (.ref i1) (.ref i2))(h1:s.heap.IsTupleIter i1 l1 k)(p1:s.heap.IsTuple l1 xs)(hx:xs[k]?=none)
  (hQ:∀ h',(∀ c o,c ≠ z->c ≠ i1->s.heap.get? c=some o->h'.get? c=some o)->Q none { s with heap:=h' }):wpAny (model P w) A (pyNext (.ref z)) Q E s:=by
 have hT:s.TypeIs (.ref z) "zip":=⟨_,hz,rfl⟩
 unfold pyNext
 refine wpAny_bind (wpAny_attempt (wpAny_callSpecial?_slot (name:=Str.ofString "__next__") hT F.slot_zip_next (wpAny_call_entry F.slot_zip_next hT F.entry_zip_next ?_ (F.args_zip_next_1 _))))
 refine wpAny_bind (m:=field (.ref z) 2) (wpAny_field hz rfl (x:=.bool false) rfl ?_)
 refine wpAny_bind (m:=field (.ref z) 3) (wpAny_field hz rfl (x:=.ref TI) rfl ?_)
 refine wpAny_bind (m:=seqItems? (.ref TI)) (wpAny_seqItems hTI rfl ?_)
 refine wpAny_bind (m:=Builtin.SmallTypes.ownedTupleIsFree (.ref z)) ?_
 refine wpAny_mono (ve hz hc) (fun a s' ⟨ha,h1',hs',z1,sb1⟩=>?_) fun _ _ q=>q.elim
 subst ha hs'
 dsimp only
 rw [if_neg (fun q=>nomatch q)]
 refine wpAny_bind ?_
 rw [<- Array.forIn_toList]
 show wpAny _ _ (forIn [Value.ref i1,Value.ref i2] _ _) _ _ _
 have it1:h1'.IsTupleIter i1 l1 k:=by obtain ⟨o,ho,r⟩:=h1;exact ⟨o,(sb1.2 i1 D.i1z).trans ho,r⟩
 have tp1:h1'.IsTuple l1 xs:=by obtain ⟨o,ho,r⟩:=p1;exact ⟨o,(sb1.2 l1 D.l1z).trans ho,r⟩
 rw [List.forIn_cons]
 refine wpAny_bind (wpAny_bind (wpAny_holding ?_))
 show wpAny _ _ (Builtin.SmallTypes.nextOf (.ref i1) >>= fun v=>pure (some v)) _ _ _
 refine wpAny_bind (qB (by first | exact hh | (show A.in1.handled=none;exact hh)) it1 tp1 hx fun h2' e ex2 ⟨oe,hoe,hce⟩=>?_)
 refine wpAny_bind (wpAny_isInstance (T:="StopIteration") (b:=true) ⟨oe,hoe,hce⟩ isSubtype_stop ?_)
 exact wpAny_pure (hQ h2' fun c o c1 c2 ec=>ex2 c o c2 ((sb1.2 c c1).trans ec))
end
section
variable {P:Program}{w:World}{A:Around}{E:Value->Shared->Prop}{s:Shared}{z TI TO i1 i2 l1 l2 c:Addr}{k:Nat}{xs ys:Array Value}{x y:Value}
theorem vt:entryFor table "dict.update.loop"=some Builtin.«dict.update.loop»:=entryFor_of_tree (by kernel_rfl)
structure Dz (P:Program)(w:World)(z TI TO i1 i2 l1 l2 d:Addr)(xs ys:Array Value)(k:Nat)(h:Heap)(kvs:List (Key × Value)):Prop where
 ap:ZipApart z TI TO i1 i2 l1 l2
 zs:(IsZip h z TI TO .none/\∃ a b,IsPair h TO a b) \/ ∃ c b oc,js h z TI TO c b/\h.get? c=some oc/\c ≠ d/\c ≠ z/\c ≠ i1/\c ≠ i2
 ti:IsPair h TI (.ref i1) (.ref i2)
 h1:h.IsTupleIter i1 l1 k
 h2:h.IsTupleIter i2 l2 k
 p1:h.IsTuple l1 xs
 p2:h.IsTuple l2 ys
 dz:d ≠ z
 dTI:d ≠ TI
 dTO:d ≠ TO
 d1:d ≠ i1
 d2:d ≠ i2
 dl1:d ≠ l1
 dl2:d ≠ l2
 dd:h.DictOf (zv P w) d kvs
theorem Q7 {A':Around}{E':Value->Shared->Prop}{Q:Unit->Shared->Prop}{it d:Addr}{kvs:List (Key × Value)}{q:Key}(f:List Value->Sem Unit)(hd:Value->Sem (List Value))(hf:f [x,y]=holding [x,y] (dictSet d x y))(hi:IsPair s.heap it x y)(hq:(zv P w).is q x=true)(dd:s.heap.DictOf (zv P w) d kvs)(hs:kvs.length<=sizeLine)
  (h:∀ h',h'.DictOf (zv P w) d (stored kvs q y)->Heap.SameBut d s.heap h'->Q () { s with heap:=h',toks:=s.toks+1 }):wpAny (model P w) A' (do let pair <- (Builtin.Dict.pairItems (.ref it)).tryCatch hd;f pair) Q E' s:=by
 refine wpAny_bind (wpAny_tryCatch ?_)
 unfold Builtin.Dict.pairItems
 refine wpAny_bind (wpAny_typeOf (T:="tuple") ⟨_,hi,rfl⟩ ?_)
 rw [if_pos (by decide)]
 refine wpAny_bind (wpAny_seqItems hi rfl (wpAny_pure ?_))
 show wpAny _ _ (f [x,y]) _ _ _
 rw [hf]
 exact wpAny_holding (wpAny_dictSet_pairs hq dd h hs)
theorem Xp {d:Addr}{ks:List Key}{us:List Value}(hh:A.handled=none)(hk:∀ (i:Nat) x,xs[i]?=some x->∃ q,ks[i]?=some q/\(zv P w).is q x=true)(hl:xs.size=ys.size) :
  ∀ (n k:Nat) (s:Shared) (kvs:List (Key × Value)) (R:Result->Shared->Prop),xs.size=k+n->kvs.length+n<=1000->Dz P w z TI TO i1 i2 l1 l2 d xs ys k s.heap kvs ->
  (∀ h' t',h'.DictOf (zv P w) d (((ks.zip ys.toList).drop k).foldl (fun m q=>stored m q.1 q.2) kvs)->(∀ b o,b ≠ z->b ≠ TO->b ≠ i1->b ≠ i2->b ≠ d->s.heap.get? b=some o->h'.get? b=some o)->R (.ok (.ret .none)) { s with heap:=h',toks:=t' }) ->
  codeAny (model P w) A (.builtin "dict.update.loop" ⟨[.ref d,.ref z,rawInt k,.none],[]⟩) R s:=by
 intro n
 induction n with
 | zero=>
  intro k s kvs R hn hs D hR
  refine codeAny_builtin vt ?_
  unfold Builtin.«dict.update.loop»
  have nx:xs[k]?=none:=by rw [Array.getElem?_eq_none_iff];omega
  have e0:(ks.zip ys.toList).drop k=[]:=List.drop_of_length_le (by rw [List.length_zip];have:=ys.length_toList;omega)
  rw [e0] at hR
  have fin:∀ h',(∀ c o,c ≠ z->c ≠ TO->c ≠ i1->c ≠ i2->s.heap.get? c=some o->h'.get? c=some o)->R (.ok (.ret .none)) { s with heap:=h' }:=fun h' ke=>by
   refine hR h' s.toks ?_ fun b o h1 h2 h3 h4 _ e=>ke b o h1 h2 h3 h4 e
   obtain ⟨o,es,ep,ho,r⟩:=D.dd
   exact ⟨o,es,ep,ke d o D.dz D.dTO D.d1 D.d2 ho,r⟩
  rcases D.zs with ⟨hz,a,b,hTO⟩ | ⟨c,b,oc,hz,hc,_⟩
  ·refine wpAny_bind (vm (by first | exact hh | (show A.in1.handled=none;exact hh)) D.ap hz D.ti D.h1 D.p1 nx fun h' ke=>?_)
   refine wpAny_bind (wpAny_pure (wpAny_pure ?_))
   exact fin h' ke
  ·refine wpAny_bind (Jh (by first | exact hh | (show A.in1.handled=none;exact hh)) D.ap hz hc D.ti D.h1 D.p1 nx fun h' ke=>?_)
   refine wpAny_bind (wpAny_pure (wpAny_pure ?_))
   exact fin h' fun c o h1 _ h3 _ e=>ke c o h1 h3 e
 | succ n ih=>
  intro k s kvs R hn hs D hR
  refine codeAny_builtin vt ?_
  unfold Builtin.«dict.update.loop»
  obtain ⟨x,hx⟩:∃ x,xs[k]?=some x:=⟨xs[k]'(by omega),Array.getElem?_eq_getElem _⟩
  obtain ⟨y,hy⟩:∃ y,ys[k]?=some y:=⟨ys[k]'(by omega),Array.getElem?_eq_getElem _⟩
  obtain ⟨q,hq,hqx⟩:=hk k x hx
  have e0:(ks.zip ys.toList).drop k=(q,y) :: (ks.zip ys.toList).drop (k+1):=by
   have hz:(ks.zip ys.toList)[k]?=some (q,y):=by rw [List.getElem?_zip_eq_some];exact ⟨hq,by rw [Array.getElem?_toList];exact hy⟩
   obtain ⟨hlt,he⟩:=List.getElem?_eq_some_iff.mp hz
   rw [List.drop_eq_getElem_cons hlt,he]
  rw [e0] at hR
  have dlt:d<s.heap.objs.size:=by obtain ⟨o,es,ep,ho,r⟩:=D.dd;exact Heap.lt_size ho
  have zlt:z<s.heap.objs.size:=by rcases D.zs with ⟨hz,_⟩ | ⟨c,b,oc,hz,_⟩ <;> exact Heap.lt_size hz
  have i1lt:i1<s.heap.objs.size:=by obtain ⟨o,ho,r⟩:=D.h1;exact Heap.lt_size ho
  have i2lt:i2<s.heap.objs.size:=by obtain ⟨o,ho,r⟩:=D.h2;exact Heap.lt_size ho
  have nx:∀ h',(∃ c b oc,js h' z TI TO c b/\h'.get? c=some oc/\c ≠ d/\c ≠ z/\c ≠ i1/\c ≠ i2)->h'.IsTupleIter i1 l1 (k+1)->h'.IsTupleIter i2 l2 (k+1)->(∀ c o,c ≠ z->c ≠ TO->c ≠ i1->c ≠ i2->s.heap.get? c=some o->h'.get? c=some o) ->
    ∀ h'' t'',h''.DictOf (zv P w) d (stored kvs q y)->Heap.SameBut d h' h''->codeAny (model P w) A (.builtin "dict.update.loop" ⟨[.ref d,.ref z,rawInt (k+1:Nat),.none],[]⟩) R { s with heap:=h'',toks:=t'' }:=fun h' zs a1 a2 ke h'' t'' dd sb=>by
   have kp:∀ b o,b ≠ z->b ≠ TO->b ≠ i1->b ≠ i2->b ≠ d->s.heap.get? b=some o->h''.get? b=some o:=fun b o q1 q2 q3 q4 q5 e=>(sb.2 b q5).trans (ke b o q1 q2 q3 q4 e)
   refine ih (k+1) { s with heap:=h'',toks:=t'' } (stored kvs q y) R (by omega) ?_ ⟨D.ap,.inr ?_,?_,?_,?_,?_,?_,D.dz,D.dTI,D.dTO,D.d1,D.d2,D.dl1,D.dl2,dd⟩ fun h3 t3 d3 k3=>hR h3 t3 d3 fun b o q1 q2 q3 q4 q5 e=>k3 b o q1 q2 q3 q4 q5 (kp b o q1 q2 q3 q4 q5 e)
   ·have:(stored kvs q y).length<=kvs.length+1:=by unfold stored;split <;> simp
    omega
   ·obtain ⟨c,b,oc,z1,c1,c2,c3,c4,c5⟩:=zs
    exact ⟨c,b,oc,(sb.2 z (Ne.symm D.dz)).trans z1,(sb.2 c c2).trans c1,c2,c3,c4,c5⟩
   ·exact kp _ _ D.ap.TIz D.ap.TITO D.ap.TIi1 D.ap.TIi2 (Ne.symm D.dTI) D.ti
   ·obtain ⟨o,ho,r⟩:=a1;exact ⟨o,(sb.2 _ (Ne.symm D.d1)).trans ho,r⟩
   ·obtain ⟨o,ho,r⟩:=a2;exact ⟨o,(sb.2 _ (Ne.symm D.d2)).trans ho,r⟩
   ·obtain ⟨o,ho,r⟩:=D.p1;exact ⟨o,kp _ _ D.ap.l1z D.ap.l1TO D.ap.l1i1 D.ap.l1i2 (Ne.symm D.dl1) ho,r⟩
   ·obtain ⟨o,ho,r⟩:=D.p2;exact ⟨o,kp _ _ D.ap.l2z D.ap.l2TO D.ap.l2i1 D.ap.l2i2 (Ne.symm D.dl2) ho,r⟩
  have sl:kvs.length<=sizeLine:=Nat.le_trans (show kvs.length<=1000 by omega) (by decide)
  have qt:(Code.builtin "dict.update.loop" ⟨[.ref d,.ref z,rawInt ((k:Int)+1),.none],[]⟩).quiet=true:=Code.quiet_builtin _ (by decide +kernel)
  rcases D.zs with ⟨hz,a,b,hTO⟩ | ⟨c,b,oc,hz,hc,hcd,hcz,hc1,hc2⟩
  ·refine wpAny_bind (xD D.ap hz D.ti hTO D.h1 D.h2 D.p1 D.p2 hx hy fun h' z' to' a1 a2 n' sz ke=>?_)
   dsimp only
   have dd':h'.DictOf (zv P w) d kvs:=by obtain ⟨o,es,ep,ho,r⟩:=D.dd;exact ⟨o,es,ep,ke d o D.dz D.dTO D.d1 D.d2 ho,r⟩
   refine wpAny_bind (wpAny_holding (Q7 _ _ rfl n' hqx dd' sl fun h'' d'' sb=>wpAny_pure ⟨qt,?_⟩))
   exact nx h' ⟨s.heap.objs.size,false,_,z',n',Nat.ne_of_gt dlt,Nat.ne_of_gt zlt,Nat.ne_of_gt i1lt,Nat.ne_of_gt i2lt⟩ a1 a2 ke h'' _ d'' sb
  ·refine wpAny_bind (Zy D.ap hz hc D.ti D.h1 D.h2 D.p1 D.p2 hx hy fun h' z' a1 a2 n' sz ke=>?_)
   dsimp only
   have dd':h'.DictOf (zv P w) d kvs:=by obtain ⟨o,es,ep,ho,r⟩:=D.dd;exact ⟨o,es,ep,ke d o D.dz D.d1 D.d2 ho,r⟩
   refine wpAny_bind (wpAny_holding (Q7 _ _ rfl n' hqx dd' sl fun h'' d'' sb=>wpAny_pure ⟨qt,?_⟩))
   exact nx h' ⟨c,true,_,z',ke c _ hcz hc1 hc2 hc,hcd,hcz,hc1,hc2⟩ a1 a2 (fun c o q1 _ q3 q4 e=>ke c o q1 q3 q4 e) h'' _ d'' sb
theorem K9 {Q:Value->Shared->Prop}{ks:List Key}{a b:Value}(hh:A.handled=none)(D:ZipApart z TI TO i1 i2 l1 l2)(hz:IsZip s.heap z TI TO .none)(hTO:IsPair s.heap TO a b)(hTI:IsPair s.heap TI (.ref i1) (.ref i2))(h1:s.heap.IsTupleIter i1 l1 0)(h2:s.heap.IsTupleIter i2 l2 0)(p1:s.heap.IsTuple l1 xs)(p2:s.heap.IsTuple l2 ys)
  (hk:∀ (i:Nat) x,xs[i]?=some x->∃ q,ks[i]?=some q/\(zv P w).is q x=true) (hl:xs.size=ys.size) (hs:xs.size<=1000)
  (hQ:∀ h' t',h'.DictOf (zv P w) s.heap.objs.size ((ks.zip ys.toList).foldl (fun m q=>stored m q.1 q.2) [])->(∀ b o,b ≠ z->b ≠ TO->b ≠ i1->b ≠ i2->s.heap.get? b=some o->h'.get? b=some o)->Q (.ref s.heap.objs.size) { s with heap:=h',toks:=t' }):wpAny (model P w) A (call (.type "dict") [.ref z]) Q E s:=by
 refine callType_codes (Q₁:=fun obj s₁=>obj=.ref s.heap.objs.size/\s₁={ s with heap:=s.heap.push { cls:=.type "dict",data:=.dict #[] } }) F.kt_called_dict (F.kt_typeCall_dict_1 _) F.entry_dict_init (kt_code_dict_new _ ⟨rfl,rfl⟩) ?_
 rintro obj s₁ ⟨rfl,rfl⟩
 have hnew:(s.heap.push { cls:=.type "dict",data:=.dict #[] }).DictOf (zv P w) s.heap.objs.size []:=Heap.DictOf.new s.heap
 have kp:∀ b o,s.heap.get? b=some o->(s.heap.push { cls:=.type "dict",data:=.dict #[] }).get? b=some o:=fun b o e=>Heap.get?_push_of_some _ e
 have ne:∀ b o,s.heap.get? b=some o->s.heap.objs.size ≠ b:=fun b o e=>Nat.ne_of_gt (Heap.lt_size e)
 refine ⟨hnew.typeIs,F.args_dict_init_2 _ _,?_⟩
 unfold Builtin.«dict.__init__»
 refine wpAny_bind ?_
 unfold Builtin.Dict.selfAndRest
 refine wpAny_bind (wpAny_notOrdered_dict hnew.typeIs ?_)
 refine wpAny_pure ?_
 show wpAny _ _ (Builtin.Dict.updateFrom "dict.__init__" s.heap.objs.size (.ref z) [] .none) _ _ _
 unfold Builtin.Dict.updateFrom
 refine wpAny_bind (wpAny_typeOf (T:="zip") ⟨_,kp _ _ hz,rfl⟩ ?_)
 rw [if_pos (by decide)]
 refine wpAny_bind (Xu (by first | exact hh | (show A.in1.handled=none;exact hh)) (kp _ _ hz) fun h' tk ex=>?_)
 have ke:∀ b o,s.heap.get? b=some o->h'.get? b=some o:=fun b o e=>ex b o (kp b o e)
 refine wpAny_bind (wpAny_rule (wpAny_bind (wpAny_pyIter_zip (ke _ _ hz) (wpAny_pure ⟨Code.quiet_builtin _ (by decide +kernel),?_⟩))))
 refine Xp (A:=A.in1) (ks:=ks) (us:=[]) hh hk hl xs.size 0 _ [] _ (by omega) (by simpa using hs) ⟨D,.inl ⟨ke _ _ hz,_,_,ke _ _ hTO⟩,ke _ _ hTI,?_,?_,?_,?_,ne _ _ hz,ne _ _ hTI,ne _ _ hTO,?_,?_,?_,?_,?_⟩ fun h3 t3 d3 k3=>?_
 ·obtain ⟨o,ho,r⟩:=h1;exact ⟨o,ke _ _ ho,r⟩
 ·obtain ⟨o,ho,r⟩:=h2;exact ⟨o,ke _ _ ho,r⟩
 ·obtain ⟨o,ho,r⟩:=p1;exact ⟨o,ke _ _ ho,r⟩
 ·obtain ⟨o,ho,r⟩:=p2;exact ⟨o,ke _ _ ho,r⟩
 ·obtain ⟨o,ho,r⟩:=h1;exact ne _ _ ho
 ·obtain ⟨o,ho,r⟩:=h2;exact ne _ _ ho
 ·obtain ⟨o,ho,r⟩:=p1;exact ne _ _ ho
 ·obtain ⟨o,ho,r⟩:=p2;exact ne _ _ ho
 ·obtain ⟨o,es,ep,ho,r⟩:=hnew;exact ⟨o,es,ep,ex _ _ ho,r⟩
 ·rw [List.drop_zero] at d3
  exact ⟨rfl,hQ h3 t3 d3 fun b o q1 q2 q3 q4 e=>k3 b o q1 q2 q3 q4 (Ne.symm (ne b o e)) (ke b o e)⟩
end
theorem vZ:bootBuiltins "dict"=some (.type "dict"):=by decide +kernel
theorem KQ {ks:List Key}:∀ {ys:List V} {us:List Value} {m:List (Key × V)} {m':List (Key × Value)},zk ys us->KV m m'->KV ((ks.zip ys).foldl (fun m q=>jl m q.1 q.2) m) ((ks.zip us).foldl (fun m q=>stored m q.1 q.2) m'):=by
 induction ks with
 | nil=>intro ys us m m' _ h;exact h
 | cons k ks ih=>
  intro ys us m m' hv h
  cases hv with
  | nil=>exact h
  | cons r rs=>exact ih rs (h.put k r)
theorem JI {ks:List Key}:∀ {ys:List V} {m:List (Key × V)},((ks.zip ys).foldl (fun m q=>jl m q.1 q.2) m).length<=m.length+ks.length:=by
 induction ks with
 | nil=>intro ys m;exact Nat.le_add_right _ _
 | cons k ks ih=>
  intro ys m
  cases ys with
  | nil=>exact Nat.le_add_right _ _
  | cons y ys=>
   have h1:=ih (ys:=ys) (m:=jl m k y)
   have h2:=yA m k y
   show (((ks.zip ys)).foldl _ (jl m k y)).length<=m.length+(ks.length+1)
   omega
noncomputable def XX (K:PySem.W.Frag)(ta:TA):TE:=fun σ H Q=>ta σ H fun vs H1=>∃ (a b:Addr) (ks:List Key) (ys:List V),vs=[.ref a,.ref b]/\SqT K H1 a (ks.map kV)/\SqT K H1 b ys/\ks.length=ys.length/\ks.length<=1000/\∀ p,H1 p=none->Q (.ref p) (upd H1 p (.dK ((ks.zip ys).foldl (fun m q=>jl m q.1 q.2) [])))
theorem KB {X:Cx}{e1 e2:Expr}{ta:TA}{p p' pos pos':Pos}(hc:X.calm=true)(hg:Gl X "zip")(hm:X.mg "zip"=none)(hgd:Gl X "dict")(hmd:X.mg "dict"=none)(ha:PA X [e1,e2] ta)(hs:starEach [e1,e2] X.env=[(false,eval e1 X.env),(false,eval e2 X.env)]:=by rfl)(hs2:starEach [e2] X.env=[(false,eval e2 X.env)]:=by rfl)
  (hs3:starEach [.Call (.Name "zip" p) [e1,e2] [] pos] X.env=[(false,eval (.Call (.Name "zip" p) [e1,e2] [] pos) X.env)]:=by rfl):PE X (.Call (.Name "dict" p') [.Call (.Name "zip" p) [e1,e2] [] pos] [] pos') (XX X.K ta):=by
 intro pins s σ H Q I h
 refine Call_ (qN I hgd hmd vZ (PyProof.Rows.callWith_type1 ?_ (by rw [hs3];rfl) (by rfl)))
 rw [hs3]
 refine Calls.spliced_cons (Call_ (qN I hg hm xo (PyProof.Rows.callWith_type1 (thn (ha pos pins s σ H _ I h) fun us s1 ⟨vs,H1,I1,r1,q1⟩=>?_) (by rw [hs,hs2]) (by rw [hs2];rfl))))
 obtain ⟨a,b,ks,ys,e,ta1,tb1,hl,h10,q⟩:=q1
 subst e
 obtain ⟨u,v,rfl,ru,rv⟩:=xl r1
 cases ru
 cases rv
 obtain ⟨its1,rv1,p1,hz1⟩:=I1.tuple ta1
 obtain ⟨its2,rv2,p2,hz2⟩:=I1.tuple tb1
 have la:a<s1.heap.objs.size:=by obtain ⟨o,e,_⟩:=p1;exact Heap.lt_size e
 have lb:b<s1.heap.objs.size:=by obtain ⟨o,e,_⟩:=p2;exact Heap.lt_size e
 refine xc p1 p2 fun h' b1 b2 b3 b4 b5 hk=>?_
 refine Calls.spliced_nil ?_
 have l1:=rv1.length
 have l2:=rv2.length
 rw [List.length_map] at l1
 have t1:h'.IsTuple a its1.toArray:=by obtain ⟨o,e,r⟩:=p1;exact ⟨o,hk _ _ e,r⟩
 have t2:h'.IsTuple b its2.toArray:=by obtain ⟨o,e,r⟩:=p2;exact ⟨o,hk _ _ e,r⟩
 refine K9 (ks:=ks) (xs:=its1.toArray) (ys:=its2.toArray) (I1.ok.hd hc) (zipApart_new la lb) b1 b3 b2 b4 b5 t1 t2 (fun i x e=>?_) (by simp;omega) (by simp;omega) fun h2 t2 dd ke=>?_
 ·have e:its1[i]?=some x:=by simpa using e
  have hi:=(List.getElem?_eq_some_iff.mp e).1
  obtain ⟨u,hu,r⟩:=rv1.get (i:=i) (x:=kV (ks[i]'(by omega))) (by rw [List.getElem?_map,List.getElem?_eq_getElem (by omega)];rfl)
  rw [e] at hu;cases hu
  exact ⟨_,List.getElem?_eq_getElem (by omega),Jm r⟩
 ·have big:=I1.big
  have sz:s1.heap.objs.size<=h'.objs.size:=Nat.le_of_lt (Nat.lt_of_le_of_lt (Nat.le_add_right _ 4) (Heap.lt_size b1))
  refine ⟨.ref h'.objs.size,_,I1.laid (a:=h'.objs.size) (o:=.dK ((ks.zip ys).foldl (fun m q=>jl m q.1 q.2) [])) (t':=t2) (h':=h2) (fun c o e=>?_) sz ⟨?_,?_,_,KQ rv2 .nil,dd⟩,rfl,q _ (I1.hok.fresh sz)⟩
  ·have lt:=Heap.lt_size e
   exact ke c o (Nat.ne_of_lt (Nat.lt_of_lt_of_le lt (Nat.le_add_right _ _))) (Nat.ne_of_lt (Nat.lt_of_lt_of_le lt (Nat.le_add_right _ _))) (Nat.ne_of_lt lt) (Nat.ne_of_lt (Nat.lt_of_lt_of_le lt (Nat.le_add_right _ _))) (hk c o e)
  ·exact Nat.le_trans JI (Nat.le_trans (show ([]:List (Key × V)).length+ks.length<=1000 by simpa using h10) (by decide))
  ·exact beq_eq_false_iff_ne.mpr (Nat.ne_of_gt (Nat.lt_of_lt_of_le big sz))
theorem wg:∀ {ks:List Key} {ys:List V} {m:List (Key × V)},ks.Nodup->(∀ k ∈ ks,qu m k=none)->ks.length=ys.length->(ks.zip ys).foldl (fun m q=>jl m q.1 q.2) m=m ++ ks.zip ys
 | [],_,m,_,_,_=>(List.append_nil m).symm
 | k :: ks,[],m,_,_,h=>by cases h
 | k :: ks,y :: ys,m,nd,hn,h=>by
  have nd':=List.nodup_cons.mp nd
  have h0:=hn k List.mem_cons_self
  show ((ks.zip ys)).foldl _ (jl m k y)=_
  rw [wg nd'.2 (fun j hj=>?_) (by simpa using h),J1 y h0,List.append_assoc]
  ·rfl
  ·rw [JT,if_neg (fun z=>nd'.1 (by rw [<- z];exact hj))];exact hn j (List.mem_cons_of_mem _ hj)
noncomputable abbrev ikS (ks:List Int):List Key:=ks.map Sum.inl
noncomputable def XF (a:AA):AE:=fun ρ M Q=>a ρ M fun xs M1=>∃ (ks:List Int) (l:List Dat),xs=[.d (.tup (ks.map .int)),.d (.tup l)]/\ks.Nodup/\ks.length=l.length/\ks.length<=1000/\∀ p,M1 p=none->Q (.ref p) (mup M1 p (.dK ((ikS ks).zip (l.map .d))))
theorem kP {H:Hp}{O:Own}:∀ {ks:List Int} {xs:List V},xs.length=(ks.map Dat.int).length->(∀ (i:Nat) x d,xs[i]?=some x->(ks.map Dat.int)[i]?=some d->Rep H O x d)->xs=(ikS ks).map kV
 | [],[],_,_=>rfl
 | [],x :: xs,h,_=>by simp at h
 | k :: ks,[],h,_=>by simp at h
 | k :: ks,x :: xs,h,r=>by
  rw [zA (r 0 x (.int k) rfl rfl),kP (ks:=ks) (xs:=xs) (by simpa using h) fun i y d e1 e2=>r (i+1) y d e1 e2]
  rfl
theorem QY {K:PySem.W.Frag}{u:TA}{b:AA}(h:jn u b):zE (XX K u) (XF b):=
 ⟨fun w e q k=>h.go w e q fun x M1 v H1 O1 q1 k1 w1 r1=>by
  obtain ⟨ks,l,rfl,nd,hl,h10,q⟩:=q1
  obtain ⟨v1,r2,rfl,a1,r1⟩:=r1.cons_inv
  obtain ⟨v2,r3,rfl,a2,r1⟩:=r1.cons_inv
  cases r1.nil_inv
  cases a1 with
  | @tup a xs _ o1 e1 l1 rr1=>
  cases a2 with
  | @tup b ys _ o2 e2 l2 rr2=>
  have ex:=kP l1 rr1
  subst ex
  have ndk:(ikS ks).Nodup:=(List.pairwise_map.mpr (nd.imp fun h z=>h (Sum.inl.inj z)))
  have lk:(ikS ks).length=ys.length:=by rw [List.length_map,l2];exact hl
  refine ⟨a,b,ikS ks,ys,rfl,SqT.of e1,SqT.of e2,lk,by rw [List.length_map];exact h10,fun p hp=>?_⟩
  rw [wg ndk (fun _ _=>rfl) lk,List.nil_append]
  have kx:=wL w1 hp (.dK ((ikS ks).zip ys)) (.dK ((ikS ks).zip (l.map .d)))
  refine k _ _ _ _ _ (q p (w1.fresh hp).2) (k1.trans kx) (Yy w1 hp (fun _ z=>nomatch z) ⟨_,zl,?_,?_⟩) ⟨rfl,by rw [zf];exact fun z=>nomatch z⟩
  ·rw [List.map_fst_zip (by omega),List.map_fst_zip (by rw [List.length_map,List.length_map];omega)]
  ·rw [List.map_snd_zip (by omega),List.map_snd_zip (by rw [List.length_map,List.length_map];omega)]
   refine zd.ext kx ⟨by rw [List.length_map];exact l2,fun i x d e1 e2=>?_⟩
   rw [List.getElem?_map] at e2
   cases e:l[i]? with
   | none=>rw [e] at e2;cases e2
   | some y=>rw [e] at e2;cases e2;exact rr2 i x y e1 e⟩
noncomputable def jq (kvs:List (Key × AV))(k:Key):Option AV:=(kvs.find? fun kv=>decide (kv.1=k)).map (·.2)
noncomputable def XS (ad ai:AE):AE:=fun ρ M Q=>ad ρ M fun x M1=>ai ρ M1 fun y M2=>∃ (p:Addr) (kvs:List (Key × AV)) (k:Int) (v:AV),x=.ref p/\M2 p=some (.dK kvs)/\y=.d (.int k)/\jq kvs (.inl k)=some v/\Q v M2
theorem wF {H:Hp}{O:Own}{M:MH}(k:Key):∀ {xs:List (Key × V)} {kvs:List (Key × AV)} {v:AV},xs.map (·.1)=kvs.map (·.1)->zd H O M (xs.map (·.2)) (kvs.map (·.2))->jq kvs k=some v->∃ u,qu xs k=some u/\zi H O M u v
 | [],[],v,_,_,h=>by cases h
 | [],_ :: _,v,e,_,h=>by cases e
 | _ :: _,[],v,e,_,h=>by cases e
 | (a,x) :: xs,(b,y) :: kvs,v,e,r,h=>by
  obtain ⟨e1,e2⟩:=List.cons.inj e
  have e1:a=b:=e1
  subst e1
  obtain ⟨r1,r2⟩:=zd.head r
  by_cases c:a=k
  ·have:jq ((a,y) :: kvs) k=some y:=by unfold jq;rw [List.find?_cons,show decide (a=k)=true from decide_eq_true c];rfl
   rw [this] at h;cases h
   exact ⟨x,zJ c,r1⟩
  ·have:jq ((a,y) :: kvs) k=jq kvs k:=by unfold jq;rw [List.find?_cons,show decide (a=k)=false from decide_eq_false c]
   rw [this] at h
   obtain ⟨u,hu,ru⟩:=wF k (xs:=xs) e2 r2 h
   exact ⟨u,by rw [zI c];exact hu,ru⟩
theorem JF {td ty:TE}{ad ai:AE}(h1:zE td ad)(h2:zE ty ai):zE (JS td ty) (XS ad ai):=
 ⟨fun w e q k=>h1.go w e q fun x M1 v H1 O1 q1 k1 w1 r1=>h2.go w1 (e.ext k1) q1 fun y M2 u H2 O2 q2 k2 w2 r2=>by
  obtain ⟨p,kvs,i,v,rfl,hm,rfl,hv,q⟩:=q2
  cases r1.1
  cases zA r2
  obtain ⟨xs,hx,kr⟩:=w2.mo p _ hm
  obtain ⟨u,hu,ru⟩:=wF (.inl i) kr.1 kr.2 hv
  exact ⟨p,u,rfl,by have:=Zk.k (k:=.inl i) hx;rw [hu] at this;exact this,k _ _ _ _ _ q (k1.trans k2) w2 ru⟩⟩
end L2
namespace Ot
open PySem PySem.Spec PyProof.Rows L2
noncomputable def top (i:Nat):Stmt:=PySem.Challenge.pw_ownturn_k37_tables_of_three_ways.main.body.getD i (.Pass ⟨0,0,0,0⟩)
section
variable {P:Program}{w:World}{K:PySem.W.Frag}{mg:Str->Option Value}{base:Heap}{k:Nat}
local macro_rules | `(tactic| walk_at "rd")=>`(tactic| try simp only [Q3,Yx,Vg,JU,tOp,Kr,tC,tB,Wu,W0,wr,rI0,rI,JH,yL,X5,Q5,JY,Kx,Qs,X4,Yl,tCB,Q8,Yr,wR,XE,vM,WB,VT,VC,X7,tBM,kj,wu,jF,YF,Vf,Zz,v9,JS,Zu,ZD,tOr,VP,Qe,wB,Jv,cxK,QB,iLT,XM,yk,tSl,XH,wo,Wr,List.append_nil,
 List.getElem?_cons_zero,List.getElem?_cons_succ,Option.some.injEq,exists_eq_left',exists_eq_left,V.int.injEq,V.ref.injEq,V.bl.injEq,List.cons.injEq,and_true,true_and,and_assoc,decide_eq_true_eq,Bool.not_eq_true',decide_eq_false_iff_not,Bool.false_eq_true,if_false,if_true,reduceIte,exists_and_left,exists_and_right,List.set_cons_zero,List.set_cons_succ,List.nil_append,List.cons_append])
theorem qW {H:Hp}{a b:Addr}{o:HO}(h':H b=none)(h:H a=some o):a ≠ b:=zg h h'
theorem yZ {H H':Hp}{l:Addr}(h:H' l=none)(e:Kp [] H H'):H l=none:=e.free h
theorem vK {K:PySem.W.Frag}{H H':Hp}{a:Addr}{xs:List V}(h:SqL K H a xs)(e:Kp [] H H'):SqL K H' a xs:=by
 rcases h with (h | ⟨o,h⟩) | h
 ·exact .inl (.inl (e _ _ (by simp) h))
 ·exact .inl (.inr ⟨o,e _ _ (by simp) h⟩)
 ·exact .inr h
theorem hsl:100000<sizeLine:=by rw [sizeLine_eq];decide
theorem Wy {α:Type}(k:Nat)(v:α):(List.replicate k [v]).flatten=List.replicate k v:=by simp
theorem qP (i:Int){j:Int}(h:0<j):0<=i % j/\i % j<j:=⟨Int.emod_nonneg _ (by omega),Int.emod_lt_of_pos _ h⟩
theorem Vv {i j:Int}(h1:0<=i)(h2:i<18446744073709551616):QZ i j:=.inl ⟨by omega,by omega⟩
theorem jU {i j:Int}(h1:0<=j)(h2:j<18446744073709551616):QZ i j:=.inr ⟨by omega,by omega⟩
theorem b01 (c:Prop)[Decidable c]:0<=(if c then (1:Int) else 0):=by split <;> decide
theorem Xc {i j:Int}(h1:0<j)(h2:j<1073741824):Yz i j:=⟨h1,h2⟩
local macro_rules | `(tactic| walk_at "ne")=>`(tactic| first | (with_reducible assumption) | exact Ne.symm (by with_reducible assumption) | exact qW (by with_reducible assumption) (by walk_at "hp") | exact Ne.symm (qW (by with_reducible assumption) (by walk_at "hp")))
local macro_rules | `(tactic| walk_at "hp")=>`(tactic| first | (with_reducible assumption) | (with_reducible exact zl) | ((with_reducible refine Eq.trans (ze ?ne) ?_);(case ne=>walk_at "ne");walk_at "hp"))
local macro_rules | `(tactic| walk_at "kp")=>`(tactic| first | (with_reducible assumption) | (with_reducible exact Kp.refl) | ((with_reducible refine Kp.trans ?_ (Kp.new _ ?h));(case h=>with_reducible assumption);walk_at "kp") | ((with_reducible refine Kp.trans ?_ (Kp.set _ ?h));(case h=>(simp;done));walk_at "kp"))
local macro_rules | `(tactic| walk_at "fr")=>`(tactic| first | (with_reducible assumption) | exact yZ (by with_reducible assumption) (by walk_at "kp"))
local macro_rules | `(tactic| walk_at "sz")=>`(tactic| (simp only [List.length_cons,List.length_nil,List.length_map,List.length_append,List.length_replicate,List.length_take,List.length_drop,qZ,Wy,Nat.zero_add,Nat.one_mul];omega))
local macro_rules | `(tactic| walk_at "fact")=>`(tactic| first | (with_reducible assumption) | exact rfl | exact SqL.of (by walk_at "hp") | exact SqT.of (by walk_at "hp") | exact Or.inl (SqL.of (by walk_at "hp")) | exact Or.inr (SqT.of (by walk_at "hp")) | exact Or.inl (by with_reducible assumption) | exact vK (by with_reducible assumption) (by walk_at "kp") | exact Or.inl (vK (by with_reducible assumption) (by walk_at "kp")) | exact Exists.intro _ (SqL.of (by walk_at "hp")) | exact Exists.intro _ (vK (by with_reducible assumption) (by walk_at "kp")) | (walk_at "hp") | decide | omega | exact Vv (by omega) (by omega) | exact jU (by omega) (by omega) | exact Xc (by omega) (by omega) | exact ⟨by omega,by omega⟩ | (walk_at "sz") | exact ⟨by decide,by decide,by decide⟩ | exact jU (b01 _) (b01' _) | (walk_at "fr"))
local macro_rules | `(tactic| walk_at "x1")=>`(tactic| first
 | ((with_reducible refine Exists.intro ?w (And.intro ?h ?_));(case h=>walk_at "fact"))
 | ((with_reducible refine And.intro ?h ?_);(case h=>walk_at "fact"))
 | ((with_reducible refine Exists.intro ?w (Exists.intro ?w2 (And.intro ?h ?_)));(case h=>walk_at "fact")))
local macro_rules | `(tactic| walk_at "xs")=>`(tactic| repeat walk_at "x1")
local macro_rules | `(tactic| walk_at "sim1") => `(tactic| first
 | (with_reducible first | apply JQ | exact Xx | exact YL | exact YN | exact Yi | exact YC | exact Kg | exact J4 | exact Zm | exact Q9 | exact QM | exact KH | exact VV | exact Xm | exact JL | apply QY | apply JF | exact KL | exact Qf | exact Kn | exact YH | exact ZW | exact Kd | exact JZ | exact QR | exact KY | exact Qp | exact vG | exact yG | exact wc | exact Qg | exact xB | exact xi | apply Xl | apply Ky | apply Xh | apply Kv | apply QP | apply Kk | apply Qd | apply JD | apply Z0 | apply QT | apply QN | apply Wx | apply VM | apply Ko | apply Yg | apply Xq | apply VF | apply KA | apply QA | apply Kl | apply Q4 | apply Yd | apply Xd | apply KU | apply kS | apply xh | apply QF | apply KP | apply yw | apply ZH | apply Xf | apply VZ | apply ZV | apply Zt | apply Vh | apply vL | apply ZM | apply ZL | apply yr))
local macro_rules | `(tactic| walk_at "sim")=>`(tactic| repeat' walk_at "sim1")
local macro_rules | `(tactic| walk_at "ra")=>`(tactic| try simp only [XF,XS,Xb,aC,aOp,YG,wx,aCB,Ka,aFz,aOw,Wb,WL,aB,vc,aOr,Wd,XA,J9,vv,X0,WU,WI,xT,JM,kN,Qh,XN,XJ,asL,Wz,WG,aiS,WM,aiE,WO,xx,vW,wG,aI,aI0,V6,aIx,fOp,Wq,WT,WD,bI2,Ju,fCB,Qw,WA,XR,XI,WS,XD,JX,aBM,WX,w8,yE,Wk,Za,Xr,Vn,Jq,Yh,VJ,Vb,Wa,Wo,WY,Wi,Wc,WH,QD,ZE,Option.map_some,VS,Vq,Vu,Vz,Vt,Ym,VI,VL,Y5,Vw,YI,Va,YB,YX,V0,Ya,Vr,Yw,Yt,Y0,Vp,YS,VN,VY,Yq,Yp,VH,VA,V4,Y3,Yj,Y4,Ye,X8,VX,VB,K5,ZN,zR,qv,Km,Ze,XQ,Y1,Vs,V1,KS,K2,Kt,Kz,KG,Xk,Xa,v8,V8,Yv,YY,YT,Qv,Yu,X9,YV,VU,V3,YA,Vi,YR,id,decide_true,decide_false,Bool.decide_eq_true,not_true_eq_false,not_false_eq_true,Kq,
 List.getElem?_cons_zero,List.getElem?_cons_succ,Option.some.injEq,exists_eq_left',exists_eq_left,AV.d.injEq,AV.ref.injEq,Dat.int.injEq,Dat.bl.injEq,Dat.str.injEq,Dat.lst.injEq,Dat.tup.injEq,Dat.ty.injEq,List.cons.injEq,and_true,true_and,and_assoc,decide_eq_true_eq,Bool.not_eq_true',decide_eq_false_iff_not,Bool.false_eq_true,if_false,if_true,reduceIte,exists_and_left,exists_and_right,List.set_cons_zero,List.set_cons_succ,List.nil_append,List.cons_append,List.length_map,List.map_cons,List.map_nil,Nat.zero_le,Bool.not_true,Bool.not_false,Bool.true_eq_false,eq_self,List.length_cons,List.length_nil])
theorem yY (ns:List Int)(lo hi:Option Int):ZS (ns.map V.int) lo hi=List.map V.int ((ns.drop (HT.sIx ns.length 0 lo)).take (HT.sIx ns.length ns.length hi - HT.sIx ns.length 0 lo)):=by
 unfold ZS
 rw [List.length_map,<- List.map_drop,<- List.map_take]
theorem w6 (cs:List Int)(j:Nat)(v:Int):(cs.map V.int).set j (.int v)=(cs.set j v).map V.int:=by rw [List.map_set]
theorem yT {cs:List Int}{k:Int}(h0:0<=k)(h1:k<cs.length):ixN (cs.map V.int).length k=some k.toNat/\atI (cs.map V.int) k=some (.int (cs.getD k.toNat 0)):=by
 have hk:k.toNat<cs.length:=by omega
 have e1:ixN (cs.map V.int).length k=some k.toNat:=by unfold ixN;rw [List.length_map,if_pos h0,if_pos h1]
 refine ⟨e1,?_⟩
 unfold atI
 rw [e1]
 show (cs.map V.int)[k.toNat]?=_
 rw [List.getElem?_map,List.getD_eq_getElem?_getD,List.getElem?_eq_getElem hk];rfl
theorem yf {ns:List Int}{i:Nat}{x:V}(h:(ns.map V.int)[i]?=some x):x=.int (ns.getD i 0)/\i<ns.length:=by
 rw [List.getElem?_map] at h
 cases e:ns[i]? with
 | none=>rw [e] at h;cases h
 | some v=>
  rw [e] at h
  cases h
  exact ⟨by rw [List.getD_eq_getElem?_getD,e];rfl,(List.getElem?_eq_some_iff.mp e).1⟩
noncomputable abbrev v0:Stmt:=top 7
theorem wX:zB ["_law_box_here","_law_many","_law_once","_law_found"] ["_law_box_here","_law_many"] (zj v0):=⟨rfl,rfl,rfl,by decide +kernel,rfl,by decide +kernel,by decide +kernel⟩
noncomputable def Jw:Sp:=fun vs H Q _=>∃ (b:Addr) (many:Int) (N:Nat),vs=[.ref b,.int many]/\Bx H b N/\N<1000000000/\0<many/\many<1073741824/\∀ r H',Kp [b] H H'->Bx H' b (N+1)->0<=r->r<many->Q (.int r) H'
theorem K3 (a:At K mg "_law_take" v0)(B:Blt mg):Df P w K mg base "_law_take" ["_law_box_here","_law_many"] 1 Jw:=by
 refine vw (k:=0) a wX (fun _ _ _ _ _ _ us hl=>match us,hl with | [_,_],_=>rfl) (fun vs H Q E h=>?_) (fun f cdv A outer s H vs Q E hr h=>?_)
 ·obtain ⟨b,m,N,rfl,_⟩:=h;rfl
 obtain ⟨b,m,N,rfl,⟨x,y,z,hb,hx,hy,hy',hz,hz'⟩,hN,hm,hm',q⟩:=h
 have sc:=wX
 refine ⟨_,(zh (kc (jh Wv (zz zQ (pv 0) zc (fun _ _=>rfl)) zc (qk _)) (zh (jx (zu vo rfl B.divmod Zq (za (zz zQ (pv 0) zc (fun _ _=>rfl)) (za (pv 1) zb))) (jD (K:=K) 2 rfl rfl (zM (jP (pv 0) zc qq) (zM (zr (i:=3) sc.nd rfl (by first | exact Or.inl rfl | exact Or.inr rfl)) jE))))
  (zn (zF (pv 3)))) qy)
  (zh (jx (zo zH (zz zQ (pv 0) zc (fun _ _=>rfl)) zc) (jP (pv 0) zc qq))
  (zh (zT (i:=2) sc.nd rfl (by first | exact Or.inl rfl | exact Or.inr rfl) (zo qF (zo ql (zo zH (zz zQ (pv 0) zc (fun _ _=>rfl)) (zo ql zc (zz zQ (pv 0) zc (fun _ _=>rfl)))) (zo zH zc (zz zQ (pv 0) zc (fun _ _=>rfl)))) zc))
  (zh (jx (zo qF (zo zH (zo ql (pv 2) (zo zH (zo qF (pv 2) zc) zc)) (zz zQ (pv 0) zc (fun _ _=>rfl))) zc) (jP (pv 0) zc qq))
  (zn (zF (zo qF (zo Kf (zo qF (zo ql (zz zQ (pv 0) zc (fun _ _=>rfl)) (zo zH (zo qF (zz zQ (pv 0) zc (fun _ _=>rfl)) zc) zc)) zc) zc) (pv 1)))))))),?_⟩
 rw [show qA ["_law_box_here","_law_many","_law_once","_law_found"] [V.ref b,V.int m]=[some (.ref b),some (.int m),none,none] from rfl]
 walk_at "rd"
 walk_at "xs"
 refine W4 (fun c=>?_) (fun c=>?_)
 ·walk_at "xs"
  refine fun p hp=>?_
  walk_at "xs"
  refine q _ _ ((Kp.new _ hp).trans (Kp.set _ (by simp))) ⟨_,_,_,zl,Int.ediv_nonneg hx (by omega),hy,hy',hz,by omega⟩ (qP x hm).1 (qP x hm).2
 ·walk_at "xs"
  refine q _ _ ((Kp.set _ (by simp)).trans (Kp.set _ (by simp))) ⟨_,_,_,zl,hx,?_,?_,?_,?_⟩ (qP _ hm).1 (qP _ hm).2
  ·exact (qP _ (by decide)).1
  ·exact Int.lt_trans (qP _ (by decide)).2 (by decide)
  ·omega
  ·omega
noncomputable abbrev QS:Stmt:=top 6
theorem Z8:zB ["_law_script","_law_k","_law_cell"] ["_law_script","_law_k"] (zj QS):=⟨rfl,rfl,rfl,by decide +kernel,rfl,by decide +kernel,by decide +kernel⟩
noncomputable def XU:Sp:=fun vs H Q _=>∃ (a:Addr) (k:Int) (cs:List Int),vs=[.ref a,.int k]/\H a=some (il cs)/\0<=k/\k<=1000/\cs.length<=1000/\∀ p H',Kp [] H H'->H p=none->Bx H' p 0->Q (.ref p) H'
theorem Kj {cs:List Int}{k:Int}(h0:0<=k):∃ c:Int,atI (cs.map V.int ++ List.replicate (k+1).toNat (V.int 0)) k=some (.int c):=by
 have e:cs.map V.int ++ List.replicate (k+1).toNat (V.int 0)=(cs ++ List.replicate (k+1).toNat 0).map V.int:=by simp
 have ek:k=((k.toNat:Nat):Int):=by omega
 have hk:k.toNat<(cs ++ List.replicate (k+1).toNat (0:Int)).length:=by rw [List.length_append,List.length_replicate];omega
 refine ⟨(cs ++ List.replicate (k+1).toNat 0)[k.toNat],?_⟩
 rw [e]
 have q:atI ((cs ++ List.replicate (k+1).toNat (0:Int)).map V.int) ((k.toNat:Nat):Int)=some (.int (cs ++ List.replicate (k+1).toNat 0)[k.toNat]):=K6 (by rw [List.getElem?_map,List.getElem?_eq_getElem hk] <;> rfl)
 rw [<- ek] at q
 exact q
theorem YJ (a:At K mg "_law_box" QS)(B:Blt mg):Df P w K mg base "_law_box" ["_law_script","_law_k"] 1 XU:=by
 refine vw (k:=0) a Z8 (fun _ _ _ _ _ _ us hl=>match us,hl with | [_,_],_=>rfl) (fun vs H Q E h=>?_) (fun f cdv A outer s H vs Q E hr h=>?_)
 ·obtain ⟨a,k,cs,rfl,_⟩:=h;rfl
 obtain ⟨a,k,cs,rfl,ha,hk,hk',hcs,q⟩:=h
 have sc:=Z8
 have hsl:=hsl
 refine ⟨_,(zh (zT (i:=2) sc.nd rfl (by first | exact Or.inl rfl | exact Or.inr rfl) (zz zQ (zo VG (pv 0) (zo Qm (ku (za zc zb)) (zo zH (pv 1) zc))) (pv 1) (fun _ _=>rfl)))
  (zn (zF (ku (za (zo ql (zu vf rfl B.abs Qk (za (pv 2) zb)) (zC ZQ rfl B.int Ji (za (jg V9 (zu vf rfl B.abs Qk (za (pv 2) zb)) (zo X2 zc zc) (qk _)) zb))) (za (zo qF (zo ql (zo zH (zo zH (zo qF (pv 2) zc) (zo ql zc (pv 1))) zc) zc) zc) (za zc zb))))))),?_⟩
 rw [show qA ["_law_script","_law_k","_law_cell"] [V.ref a,V.int k]=[some (.ref a),some (.int k),none] from rfl]
 walk_at "rd"
 walk_at "xs"
 intro p1 hp1
 walk_at "xs"
 intro p2 hp2
 walk_at "xs"
 intro p3 hp3
 simp only [Wy] at hp3 ⊢
 obtain ⟨c,hc⟩:=Kj (cs:=cs) hk
 walk_at "xs"
 intro p4 hp4
 refine q _ _ (by walk_at "kp") (by walk_at "fr") ⟨_,_,_,zl,?_,?_,?_,?_,?_⟩
 ·exact Int.mul_nonneg (by split <;> omega) (b01 _)
 ·exact (qP _ (by decide)).1
 ·exact Int.lt_trans (qP _ (by decide)).2 (by decide)
 ·decide
 ·decide
noncomputable abbrev kH:Stmt:=top 8
theorem xb:zB ["_law_script","_law_many","_law_cells","_law_k","_law_cell"] ["_law_script","_law_many"] (zj kH):=⟨rfl,rfl,rfl,by decide +kernel,rfl,by decide +kernel,by decide +kernel⟩
noncomputable def yI (K:PySem.W.Frag):Sp:=fun vs H Q _=>∃ (a:Addr) (m:Int) (ns:List Int),vs=[.ref a,.int m]/\SqL K H a (ns.map V.int)/\0<m/\m<=60/\ns.length<=63/\∀ p H' cs,Kp [] H H'->H p=none->H' p=some (il cs)->cs.length<=1000->Q (.ref p) H'
theorem Z4 (a:At K mg "_law_folded" kH)(B:Blt mg):Df P w K mg base "_law_folded" ["_law_script","_law_many"] 1 (yI K):=by
 refine vw (k:=0) a xb (fun _ _ _ _ _ _ us hl=>match us,hl with | [_,_],_=>rfl) (fun vs H Q E h=>?_) (fun f cdv A outer s H vs Q E hr h=>?_)
 ·obtain ⟨a,k,cs,rfl,_⟩:=h;rfl
 obtain ⟨a,m,ns,rfl,ha,hm,hm',hns,q⟩:=h
 obtain ⟨M,rfl⟩:∃ M:Nat,m=M:=⟨m.toNat,by omega⟩
 have sc:=xb
 have hsl:=hsl
 refine ⟨_,(zh (zT (i:=2) sc.nd rfl (by first | exact Or.inl rfl | exact Or.inr rfl) (zC qQ rfl B.list qC (za (yV wK (pv 0) Ke (xW (pv 1))) zb)))
  (zh (qT PassesOwn.never rfl (Xg rfl B.enumerate (za (yV wK (pv 0) (xW (pv 1)) (xW zc)) zb)) (jD (K:=K) 2 rfl rfl (zM (zr (i:=3) sc.nd rfl (by first | exact Or.inl rfl | exact Or.inr rfl)) (zM (zr (i:=4) sc.nd rfl (by first | exact Or.inl rfl | exact Or.inr rfl)) jE))) (zn (jx (zo zH (zz zQ (pv 2) (zo qF (pv 3) (pv 1)) (fun _ _=>rfl)) (zo ql (pv 4) (zo zH (pv 3) zc))) (jP (pv 2) (zo qF (pv 3) (pv 1)) qq))))
  (zn (zF (pv 2))))),?_⟩
 rw [show qA ["_law_script","_law_many","_law_cells","_law_k","_law_cell"] [V.ref a,V.int M]=[some (.ref a),some (.int M),none,none,none] from rfl]
 walk_at "rd"
 walk_at "xs"
 intro p1 hp1
 rw [yY]
 walk_at "xs"
 intro p2 hp2
 walk_at "xs"
 intro p3 hp3
 rw [yY]
 have e63:(63:Int)=((63:Nat):Int):=rfl
 simp only [HT.sIx_none,HT.sIx_nat,e63,List.drop_zero,Nat.sub_zero] at hp2 hp3 ⊢
 walk_at "xs"
 generalize hc0:ns.take (min M ns.length)=c0 at hp2 hp3 ⊢
 generalize hd0:(ns.drop (min M ns.length)).take (min 63 ns.length - min M ns.length)=d0 at hp2 hp3 ⊢
 have lc:c0.length=min M ns.length:=by rw [<- hc0,List.length_take];omega
 have ld:d0.length<=ns.length - M:=by rw [<- hd0,List.length_take,List.length_drop];omega
 have n23:p2 ≠ p3:=by walk_at "ne"
 refine Xj (xs:=d0.map V.int) (fun i τ H'=>∃ u v cs,τ=[some (.ref a),some (.int M),some (.ref p2),u,v]/\Kp [p2] (upd (upd (upd H p1 (HO.lst (List.map V.int c0))) p2 (HO.lst (List.map V.int c0))) p3 (HO.lst (List.map V.int d0))) H'/\H' p2=some (il cs)/\cs.length=c0.length) ?_ ?_ ?_ ?_
 ·exact ⟨none,none,c0,rfl,Kp.refl,by walk_at "hp",rfl⟩
 ·rintro i τ H' _ ⟨u,v,cs,rfl,kp,_⟩
  exact SqL.of (kp _ _ (by simp [Ne.symm n23]) (by walk_at "hp"))
 ·rintro i x pp τ H' hx hpp ⟨u,v,cs,rfl,kp,hcs,hl⟩
  obtain ⟨rfl,hi⟩:=yf hx
  have b1:=qP (i:Int) hm
  obtain ⟨g1,g2⟩:=yT (cs:=cs) (k:=(i:Int) % (M:Int)) b1.1 (by omega)
  have hcs':upd H' pp (HO.tup [V.int i,V.int (d0.getD i 0)]) p2=some (il cs):=by walk_at "hp"
  walk_at "rd"
  walk_at "xs"
  refine ⟨(kp.trans (Kp.new _ hpp)).trans (Kp.set _ (by simp)),_,zl.trans (congrArg some (congrArg HO.lst (w6 _ _ _))),by rw [List.length_set];exact hl⟩
 ·rintro τ H' ⟨u,v,cs,rfl,kp,hcs,hl⟩
  walk_at "rd"
  refine q _ _ cs (fun c o hc hh=>kp c o ?_ ((((Kp.new _ hp1).trans (Kp.new _ hp2)).trans (Kp.new _ hp3)) c o hc hh)) (by walk_at "fr") hcs (by omega)
  have:c ≠ p2:=qW (yZ hp2 (Kp.new _ hp1)) hh
  simpa using this
noncomputable def XO:ASp:=fun xs M Q=>∃ (b:Addr) (many:Int) (N:Nat),xs=[.ref b,.d (.int many)]/\BxM M b N/\N<1000000000/\0<many/\many<1073741824/\∀ r M',BxS M M' b (N+1)->0<=r->r<many->Q (.d (.int r)) M'
theorem Kh (vs:List V)(H:Hp)(Q:VK)(E:XK)(h:cSp XO vs H Q E):Jw vs H Q E:=by
 obtain ⟨xs,M,O,Q',w,r,⟨b,many,N,rfl,hb,h1,h2,h3,q⟩,k⟩:=h
 obtain ⟨v,u,rfl,rv,ru⟩:=jT r
 rw [zA ru,rv.1]
 refine ⟨b,many,N,rfl,hb.bx w,h1,h2,h3,fun r H' kp hb' r0 r1=>?_⟩
 obtain ⟨M',s,e,w'⟩:=Vy w hb kp hb'
 exact k _ _ _ _ _ (q r M' s r0 r1) e w' .int
noncomputable def WN:ASp:=fun xs M Q=>∃ (x:AV) (k:Int) (cs:List Int),xs=[x,.d (.int k)]/\zN x M=some (cs.map fun i=>.d (.int i))/\0<=k/\k<=1000/\cs.length<=1000/\∀ p o,M p=none->BxM (mup M p o) p 0->Q (.ref p) (mup M p o)
theorem YD (vs:List V)(H:Hp)(Q:VK)(E:XK)(h:cSp WN vs H Q E):XU vs H Q E:=by
 obtain ⟨xs,M,O,Q',w,r,⟨x,n,cs,rfl,hx,h1,h2,h3,q⟩,k⟩:=h
 obtain ⟨v,u,rfl,rv,ru⟩:=jT r
 rw [zA ru]
 obtain ⟨a,rfl,ha⟩:=JG w rv hx
 refine ⟨a,n,cs,rfl,ha,h1,h2,h3,fun p H' kp hp hb'=>?_⟩
 obtain ⟨x',y',z',g1,g2⟩:=hb'
 obtain ⟨e1,w1⟩:=Qa w kp
 have fr:=w.fresh hp
 have e2:=Ext.owned (O':=yj O p) (p:=p) w ⟨fun a o h e=>⟨(e1.fix a o h e).1,fun z=>z.elim (zg e hp) h⟩,fun a h e=>⟨(e1.prv a h e).1,.inr h,e⟩,fun _ h=>h⟩ hp (.lst ([x',y',z'].map fun i=>.d (.int i)))
 refine k _ _ _ _ _ (q p _ fr.2 ⟨x',y',z',zf,g2⟩) e2 (yS (O:=yj O p) (xs:=[V.int x',V.int y',V.int z']) ⟨fun a o h=>?_,fun a h=>.inr (w1.own a h),fun a h=>?_⟩ (.inl rfl) fr.2 g1 (wd [x',y',z'])) ⟨rfl,by rw [zf];exact fun z=>nomatch z⟩
 ·have e3:Ext H O M H' (yj O p) M:=⟨fun a o h e=>⟨(e1.fix a o h e).1,fun z=>z.elim (zg e hp) h⟩,fun a h e=>⟨(e1.prv a h e).1,.inr h,e⟩,fun _ h=>h⟩
  refine qd.ext e3 ?_ (w.mo a o h)
  obtain ⟨u,hu,_⟩:=w.al a (w.own a (qp h))
  rw [hu];exact kp a u (by simp) hu
 ·rcases h with rfl | h
  ·exact ⟨_,g1,fun xs z=>nomatch z⟩
  ·exact w1.al a h
noncomputable def wq (K:PySem.W.Frag):ASp:=fun xs M Q=>∃ (m:Int) (ns:List Int),xs=[.d (.scr K ns),.d (.int m)]/\0<m/\m<=60/\ns.length<=63/\∀ cs:List Int,cs.length<=1000->Q (.d (.lst (cs.map .int))) M
theorem Zv (vs:List V)(H:Hp)(Q:VK)(E:XK)(h:cSp (wq K) vs H Q E):yI K vs H Q E:=by
 obtain ⟨xs,M,O,Q',w,r,⟨m,ns,rfl,h1,h2,h3,q⟩,k⟩:=h
 obtain ⟨v,u,rfl,rv,ru⟩:=jT r
 rw [zA ru]
 obtain ⟨a,rfl,ha⟩:=KW rv
 refine ⟨a,m,ns,rfl,ha,h1,h2,h3,fun p H' cs kp hp hc lc=>?_⟩
 obtain ⟨e1,w1⟩:=Qa w kp
 exact k _ _ _ _ _ (q cs lc) e1 w1 (Qq (w.fresh hp).1 hc)
noncomputable def ka:Dat->Option (List Dat)
 | .lst l=>some l
 | .tup l=>some l
 | _=>none
theorem kz {d:Dat}{l:List Dat}(h:ka d=some l)(M:MH):qK (.d d) M=some (l.map .d):=by
 cases d with
 | lst m=>cases h;rfl
 | tup m=>cases h;rfl
 | _=>cases h
theorem Y7 (n:Nat):jt 0 1 n=(List.range n).map fun (i:Nat)=>(i:Int):=by
 unfold jt
 exact List.map_congr_left fun i _=>by omega
theorem jL (n:Nat):jQ 0 1 n=(List.range n).map fun (i:Nat)=>AV.d (.int (i:Int)):=by
 unfold jQ
 exact List.map_congr_left fun i _=>by rw [Int.zero_add,Int.mul_one]
theorem yt (ns:List Int):dp (ilD ns)<=40:=by
 have:∀ ns:List Int,dps (ns.map .int)<=0:=fun ns=>j6 fun d hd=>by obtain ⟨i,_,rfl⟩:=List.mem_map.mp hd;simp [dp]
 rw [dp];have:=this ns;omega
noncomputable def Xw (one other:List Int):List Int:=one.map fun p=>other.getD p.toNat 0
noncomputable def kW:AV->Int
 | .d (.int i)=>i
 | _=>0
theorem jj {α:Type}(n:Nat)(g:Int->List α):(jQ 0 1 n).flatMap (fun x=>g (kW x))=(List.range n).flatMap fun (i:Nat)=>g (i:Int):=by
 rw [jL,List.flatMap_map]
 rfl
theorem yX {α β:Type}(l:List α)(g:α->List β)(k:Nat)(h:∀ x ∈ l,(g x).length<=k):(l.flatMap g).length<=l.length * k:=by
 induction l with
 | nil=>simp
 | cons a r ih=>
  rw [List.flatMap_cons,List.length_append,List.length_cons,Nat.succ_mul]
  have h1:=h a (by simp)
  have h2:=ih fun x hx=>h x (by simp [hx])
  omega
noncomputable def zq (s:Nat->Nat):List Dat:=[.int (s 0),.int (s 1),.int (s 2)]
noncomputable def W3 (w:Nat->Nat):Prop:=w 0<3/\w 1<3/\w 2<3
theorem qM (s:Nat->Nat){k:Nat}(h:k<3)(M:MH){x:Dat}(hx:ka x=some (zq s)):∃ l,qK (.d x) M=some l/\atI l (k:Int)=some (.d (.int (s k))):=by
 refine ⟨_,kz hx M,?_⟩
 match k,h with
 | 0,_=>rfl
 | 1,_=>rfl
 | 2,_=>rfl
noncomputable def Jc:ASp:=fun xs M Q=>∃ (x y:Dat) (s w:Nat->Nat),xs=[.d x,.d y]/\ka x=some (zq s)/\ka y=some (zq w)/\W3 w/\Q (.d (.tup (zq fun i=>s (w i)))) M
noncomputable def byA (s:Nat->Nat):AV->AV
 | .d (.int i)=>.d (.int (s i.toNat))
 | x=>x
noncomputable abbrev QO:Stmt:=top 1
theorem Ql:zB ["three","ways","way"] ["three","ways"] (zj QO):=⟨rfl,rfl,rfl,by decide +kernel,rfl,by decide +kernel,by decide +kernel⟩
theorem Y2 (a:At K mg "by_ways" QO)(B:Blt mg):Df P w K mg base "by_ways" ["three","ways"] 1 (cSp Jc):=by
  refine dfA (k:=0) a Ql (fun _ _ _ _ _ _ us hl=>match us,hl with | [_,_],_=>rfl) (fun xs M Q h=>?_) (fun f cdv A outer s H E hr=>?_)
  · obtain ⟨_,_,_,_,rfl,_⟩:=h;rfl
  have sc:=Ql
  have hsl:=hsl
  refine ⟨_,(zn (zF (zC qh rfl B.tuple qI (za (qR (ts:=[2]) rfl rfl (kE (pv 1)) (fun _ _ _ _=>(zr (i:=2) sc.nd rfl (by first | exact Or.inl rfl | exact Or.inr rfl))) (fun _ _ _ _=>qi) (fun _ _ _ _=>(zz (vF (K:=K) rfl) (pv 0) (pv 2) (fun _ _=>rfl)))) zb)))),?_⟩
  refine ex2 (by walk_at "sim") ?_
  rintro xs M Q ⟨x,y,s,w,rfl,hx,hy,hw,q⟩
  rw [show qf ["three","ways","way"] [.d x,.d y]=[some (.d x),some (.d y),none] from rfl]
  walk_at "ra"
  refine ⟨_,kz hy M,?_⟩
  refine j8 (fun o=>[some (.d x),some (.d y),o]) (byA s) ⟨_,rfl⟩ (kz hy M) (by simp [zq]) (fun o z Q hz q=>?_) fun o=>?_
  · obtain ⟨k, hk, rfl⟩ : ∃ k : Nat, k < 3 /\ z = .d (.int k) := by
      unfold zq at hz
      simp only [List.map_cons,List.map_nil,List.mem_cons,List.not_mem_nil,or_false] at hz
      rcases hz with rfl | rfl | rfl
      · exact ⟨_,hw.1,rfl⟩
      · exact ⟨_,hw.2.1,rfl⟩
      · exact ⟨_,hw.2.2,rfl⟩
    obtain ⟨l,hl,hat⟩:=qM s hk M hx
    walk_at "ra"
    exact ⟨_,hl,_,hat,q _⟩
  · exact ⟨_,rfl,KJ Fr.refl q⟩
noncomputable abbrev kO:Stmt:=top 3
theorem xg:zB ["sizes","ways"] ["sizes","ways"] (zj kO):=⟨rfl,rfl,rfl,by decide +kernel,rfl,by decide +kernel,by decide +kernel⟩
theorem Zx (a:At K mg "deep_sizes" kO)(B:Blt mg)(D_by_ways:Df P w K mg base "by_ways" ["three","ways"] 1 (cSp Jc)):Df P w K mg base "deep_sizes" ["sizes","ways"] 2 (cSp Jc):=by
 refine dfA (k:=1) a xg (fun _ _ _ _ _ _ us hl=>match us,hl with | [_,_],_=>rfl) (fun xs M Q h=>?_) (fun f cdv A outer s H E hr=>?_)
 ·obtain ⟨_,_,_,_,rfl,_⟩:=h;rfl
 have sc:=xg
 have hsl:=hsl
 refine ⟨_,(zn (zF (zL D_by_ways hr rfl (za (pv 0) (za (pv 1) zb))))),?_⟩
 refine ex2 (by walk_at "sim") ?_
 rintro xs M Q ⟨x,y,s,w,rfl,hx,hy,hw,q⟩
 rw [show qf ["sizes","ways"] [.d x,.d y]=[some (.d x),some (.d y)] from rfl]
 walk_at "ra"
 exact ⟨x,y,s,w,rfl,hx,hy,hw,KJ Fr.refl q⟩
noncomputable def plc (s c:Nat->Nat):Nat:=(c 0 * s 1+c 1) * s 2+c 2
noncomputable def Wn:ASp:=fun xs M Q=>∃ (x y:Dat) (s c:Nat->Nat),xs=[.d x,.d y]/\ka x=some (zq s)/\ka y=some (zq c)/\(∀ i,s i<=10000)/\Q (.d (.int (plc s c:Nat))) M
noncomputable abbrev Je:Stmt:=top 2
theorem J3:zB ["sizes","cell"] ["sizes","cell"] (zj Je):=⟨rfl,rfl,rfl,by decide +kernel,rfl,by decide +kernel,by decide +kernel⟩
theorem Ys (a:At K mg "deep_place" Je)(B:Blt mg):Df P w K mg base "deep_place" ["sizes","cell"] 1 (cSp Wn):=by
 refine dfA (k:=0) a J3 (fun _ _ _ _ _ _ us hl=>match us,hl with | [_,_],_=>rfl) (fun xs M Q h=>?_) (fun f cdv A outer s H E hr=>?_)
 ·obtain ⟨_,_,_,_,rfl,_⟩:=h;rfl
 have sc:=J3
 have hsl:=hsl
 refine ⟨_,(zn (zF (zo zH (zo ql (zo zH (zo ql (zz qc (pv 1) zc (fun _ _=>rfl)) (zz qc (pv 0) zc (fun _ _=>rfl))) (zz qc (pv 1) zc (fun _ _=>rfl))) (zz qc (pv 0) zc (fun _ _=>rfl))) (zz qc (pv 1) zc (fun _ _=>rfl))))),?_⟩
 refine ex2 (by walk_at "sim") ?_
 rintro xs M Q ⟨x,y,s,c,rfl,hx,hy,hb,q⟩
 rw [show qf ["sizes","cell"] [.d x,.d y]=[some (.d x),some (.d y)] from rfl]
 obtain ⟨l0,g0,c0⟩:=qM c (k:=0) (by omega) M hy
 obtain ⟨l1,g1,c1⟩:=qM c (k:=1) (by omega) M hy
 obtain ⟨l2,g2,c2⟩:=qM c (k:=2) (by omega) M hy
 obtain ⟨m1,k1,d1⟩:=qM s (k:=1) (by omega) M hx
 obtain ⟨m2,k2,d2⟩:=qM s (k:=2) (by omega) M hx
 have b1:=hb 1
 have b2:=hb 2
 walk_at "ra"
 refine ⟨_,g0,_,c0,_,k1,_,d1,_,rfl,_,rfl,jU (by omega) (by omega),_,g1,_,c1,_,rfl,_,k2,_,d2,_,rfl,jU (by omega) (by omega),_,g2,_,c2,_,rfl,KJ Fr.refl ?_⟩
 rw [show ((c 0:Int) * s 1+c 1) * s 2+c 2=((plc s c:Nat):Int) by unfold plc;push_cast;rfl]
 exact q
noncomputable def cel (x0 x1 x2:Nat):Nat->Nat
 | 0=>x0
 | 1=>x1
 | _=>x2
noncomputable def zy (s w:Nat->Nat):List Int:=(List.range (s 0)).flatMap fun x0=>(List.range (s 1)).flatMap fun x1=>(List.range (s 2)).map fun x2=>((plc (fun i=>s (w i)) (fun i=>cel x0 x1 x2 (w i)):Nat):Int)
noncomputable def vX:ASp:=fun xs M Q=>∃ (x y:Dat) (s w:Nat->Nat),xs=[.d x,.d y]/\ka x=some (zq s)/\ka y=some (zq w)/\W3 w/\(∀ i,s i<=1000)/\s 0 * (s 1 * s 2)<=1000/\∀ p,M p=none->Q (.ref p) (mup M p (.lst ((zy s w).map fun i=>.d (.int i))))
noncomputable def qL (x0 x1 x2:Nat):Dat:=.tup (zq (cel x0 x1 x2))
noncomputable def jv (s:Nat->Nat):List Dat:=(List.range (s 0)).flatMap fun x0=>(List.range (s 1)).flatMap fun x1=>(List.range (s 2)).map fun x2=>qL x0 x1 x2
noncomputable def VD (s w:Nat->Nat):AV->AV
 | .d (.tup [.int a,.int b,.int c])=>.d (.int (plc (fun i=>s (w i)) (fun i=>cel a.toNat b.toNat c.toNat (w i)):Nat))
 | x=>x
noncomputable abbrev vI:Stmt:=top 4
theorem wJ:zB ["sizes","ways","reached","cells","size0","size1","size2","x0","x1","x2","cell"] ["sizes","ways"] (zj vI):=⟨rfl,rfl,rfl,by decide +kernel,rfl,by decide +kernel,by decide +kernel⟩
theorem K8 (a:At K mg "deep_order" vI)(B:Blt mg)(D_by_ways:Df P w K mg base "by_ways" ["three","ways"] 1 (cSp Jc))(D_deep_place:Df P w K mg base "deep_place" ["sizes","cell"] 1 (cSp Wn)):Df P w K mg base "deep_order" ["sizes","ways"] 2 (cSp vX):=by
  refine dfA (k:=1) a wJ (fun _ _ _ _ _ _ us hl=>match us,hl with | [_,_],_=>rfl) (fun xs M Q h=>?_) (fun f cdv A outer s H E hr=>?_)
  · obtain ⟨_,_,_,_,rfl,_⟩:=h;rfl
  have sc:=wJ
  have hsl:=hsl
  refine ⟨_,(zh (zT (i:=2) sc.nd rfl (by first | exact Or.inl rfl | exact Or.inr rfl) (zL D_by_ways hr rfl (za (pv 0) (za (pv 1) zb))))
    (zh (jx (pv 0) (KC (K:=K) 3 rfl rfl (zM (zr (i:=4) sc.nd rfl (by first | exact Or.inl rfl | exact Or.inr rfl)) (zM (zr (i:=5) sc.nd rfl (by first | exact Or.inl rfl | exact Or.inr rfl)) (zM (zr (i:=6) sc.nd rfl (by first | exact Or.inl rfl | exact Or.inr rfl)) jE)))))
    (zh (Js (j:=3) rfl sc.nd rfl (by first | exact Or.inl rfl | exact Or.inr rfl) (ts:=[7,8,9]) rfl (zU rfl B.range (za (pv 4) zb)) (fun _ _ _ _=>(zr (i:=7) sc.nd rfl (by first | exact Or.inl rfl | exact Or.inr rfl))) (fun _ _ _ _=>qi) (fun _ _ _ _ _=>(wC rfl rfl (by intro _ e;cases e <;> rfl) (zU rfl B.range (za (pv 5) zb)) (fun _=>rfl) (zr (i:=8) sc.nd rfl (by first | exact Or.inl rfl | exact Or.inr rfl)) qi (wC rfl rfl (by intro _ e;cases e <;> rfl) (zU rfl B.range (za (pv 6) zb)) (fun _=>rfl) (zr (i:=9) sc.nd rfl (by first | exact Or.inl rfl | exact Or.inr rfl)) qi (K0 rfl (qa (za (pv 7) (za (pv 8) (za (pv 9) zb)))) (fun _ _ z=>z)) (fun _ _ z=>z)) (fun _ _ z=>z))))
    (zn (zF (kC (qR (ts:=[10]) rfl rfl (kE (pv 3)) (fun _ _ _ _=>(zr (i:=10) sc.nd rfl (by first | exact Or.inl rfl | exact Or.inr rfl))) (fun _ _ _ _=>qi) (fun _ _ _ _=>(zL D_deep_place hr rfl (za (pv 2) (za (zL D_by_ways hr rfl (za (pv 10) (za (pv 1) zb))) zb))))))))))),?_⟩
  refine ex2 (by walk_at "sim") ?_
  rintro xs M Q ⟨x,y,s,w,rfl,hx,hy,hw,hb,hsz,q⟩
  rw [show qf ["sizes","ways","reached","cells","size0","size1","size2","x0","x1","x2","cell"] [.d x,.d y]=[some (.d x),some (.d y),none,none,none,none,none,none,none,none,none] from rfl]
  refine zp fun r hr0=>?_
  walk_at "ra"
  refine ⟨x,y,s,w,rfl,hx,hy,hw,?_⟩
  subst hr0
  refine zp fun r hr0=>?_
  walk_at "ra"
  refine ⟨_,kz hx M,rfl,_,_,rfl,_,_,rfl,_,_,rfl,rfl,?_⟩
  have b0:=hb 0
  have b1:=hb 1
  have b2:=hb 2
  subst hr0
  refine zp fun r hr0=>?_
  walk_at "ra"
  refine ⟨by omega,by omega,?_⟩
  rw [Int.toNat_natCast]
  have e3:∀ x0 x1:Nat,(jQ 0 1 (s 2)).flatMap (fun z=>[AV.d (qL x0 x1 (kW z).toNat)])=(List.range (s 2)).map fun x2=>AV.d (qL x0 x1 x2):=fun x0 x1=>by
    rw [jj (s 2) (fun z=>[AV.d (qL x0 x1 z.toNat)]),List.map_eq_flatMap]
    simp only [Int.toNat_natCast]
  have e2:∀ x0:Nat,(jQ 0 1 (s 1)).flatMap (fun z=>(List.range (s 2)).map fun x2=>AV.d (qL x0 (kW z).toNat x2))=(List.range (s 1)).flatMap fun x1=>(List.range (s 2)).map fun x2=>AV.d (qL x0 x1 x2):=fun x0=>by
    rw [jj (s 1) (fun z=>(List.range (s 2)).map fun x2=>AV.d (qL x0 z.toNat x2))]
    simp only [Int.toNat_natCast]
  have e1:(jQ 0 1 (s 0)).flatMap (fun z=>(List.range (s 1)).flatMap fun x1=>(List.range (s 2)).map fun x2=>AV.d (qL (kW z).toNat x1 x2))=(jv s).map AV.d:=by
    rw [jj (s 0) (fun z=>(List.range (s 1)).flatMap fun x1=>(List.range (s 2)).map fun x2=>AV.d (qL z.toNat x1 x2))]
    unfold jv
    simp only [Int.toNat_natCast,List.map_flatMap,List.map_map]
    rfl
  have l2:∀ x0:Nat,((List.range (s 1)).flatMap fun x1=>(List.range (s 2)).map fun x2=>AV.d (qL x0 x1 x2)).length<=s 1 * s 2:=fun x0=>by
    have:=yX (List.range (s 1)) (fun x1=>(List.range (s 2)).map fun x2=>AV.d (qL x0 x1 x2)) (s 2) fun x _=>by simp
    rwa [List.length_range] at this
  have l1:((jv s).map AV.d).length<=1000:=by
    rw [<- e1,jj (s 0) (fun z=>(List.range (s 1)).flatMap fun x1=>(List.range (s 2)).map fun x2=>AV.d (qL z.toNat x1 x2))]
    have:=yX (List.range (s 0)) (fun (z:Nat)=>(List.range (s 1)).flatMap fun x1=>(List.range (s 2)).map fun x2=>AV.d (qL ((z:Int)).toNat x1 x2)) (s 1 * s 2) fun x _=>l2 _
    rw [List.length_range] at this
    omega
  refine xY (fun (z:Option AV × Option AV × Option AV)=>[some (.d x),some (.d y),some (.d (.tup (zq fun i=>s (w i)))),none,some (.d (.int (s 0))),some (.d (.int (s 1))),some (.d (.int (s 2))),z.1,z.2.1,z.2.2,none]) (fun z=>(List.range (s 1)).flatMap fun x1=>(List.range (s 2)).map fun x2=>AV.d (qL (kW z).toNat x1 x2)) ⟨(_,_,_),rfl⟩ trivial (by rw [e1];simp only [List.length_nil];omega) (fun z a acc N' ha hle q=>?_) fun z=>?_
  · rw [jL] at ha
    obtain ⟨x0,_,rfl⟩:=List.mem_map.mp ha
    simp only [kW,Int.toNat_natCast] at hle q
    walk_at "ra"
    refine ⟨by omega,by omega,?_⟩
    rw [Int.toNat_natCast]
    refine xY (fun (z:Option AV × Option AV)=>[some (.d x),some (.d y),some (.d (.tup (zq fun i=>s (w i)))),none,some (.d (.int (s 0))),some (.d (.int (s 1))),some (.d (.int (s 2))),some (.d (.int x0)),z.1,z.2,none]) (fun z=>(List.range (s 2)).map fun x2=>AV.d (qL x0 (kW z).toNat x2)) ⟨(_,_),rfl⟩ trivial (by rw [e2];exact hle) (fun z a acc N' ha hle q=>?_) fun z=>by rw [e2];exact q (_,_,_)
    rw [jL] at ha
    obtain ⟨x1,_,rfl⟩:=List.mem_map.mp ha
    simp only [kW,Int.toNat_natCast] at hle q
    walk_at "ra"
    refine ⟨by omega,by omega,?_⟩
    rw [Int.toNat_natCast]
    refine xY (fun (z:Option AV)=>[some (.d x),some (.d y),some (.d (.tup (zq fun i=>s (w i)))),none,some (.d (.int (s 0))),some (.d (.int (s 1))),some (.d (.int (s 2))),some (.d (.int x0)),some (.d (.int x1)),z,none]) (fun z=>[AV.d (qL x0 x1 (kW z).toNat)]) ⟨_,rfl⟩ trivial (by rw [e3];exact hle) (fun z a acc N' ha hle q=>?_) fun z=>by rw [e3];exact q (_,_)
    rw [jL] at ha
    obtain ⟨x2,_,rfl⟩:=List.mem_map.mp ha
    simp only [kW,Int.toNat_natCast,List.length_cons,List.length_nil] at hle q
    walk_at "ra"
    exact ⟨by omega,by omega,q _⟩
  rw [e1]
  refine ⟨_,zR _,?_⟩
  subst hr0
  walk_at "ra"
  refine j8 (fun o=>[some (.d x),some (.d y),some (.d (.tup (zq fun i=>s (w i)))),some (.d (.lst (jv s))),some (.d (.int (s 0))),some (.d (.int (s 1))),some (.d (.int (s 2))),none,none,none,o]) (VD s w) ⟨_,rfl⟩ trivial (by omega) (fun o z Q hz q=>?_) fun o=>?_
  · obtain ⟨d,hd,rfl⟩:=List.mem_map.mp hz
    unfold jv at hd
    obtain ⟨x0,_,hd⟩:=List.mem_flatMap.mp hd
    obtain ⟨x1,_,hd⟩:=List.mem_flatMap.mp hd
    obtain ⟨x2,_,rfl⟩:=List.mem_map.mp hd
    have q:=q (some (.d (qL x0 x1 x2)))
    rw [show VD s w (.d (qL x0 x1 x2))=.d (.int (plc (fun i=>s (w i)) (fun i=>cel x0 x1 x2 (w i)):Nat)) by
      show AV.d (.int (plc (fun i=>s (w i)) (fun i=>cel ((x0:Nat):Int).toNat ((x1:Nat):Int).toNat ((x2:Nat):Int).toNat (w i)):Nat))=_
      simp only [Int.toNat_natCast]] at q
    walk_at "ra"
    exact ⟨qL x0 x1 x2,y,cel x0 x1 x2,w,rfl,rfl,hy,hw,_,_,(fun i=>s (w i)),(fun i=>cel x0 x1 x2 (w i)),rfl,rfl,rfl,(fun i=>Nat.le_trans (hb (w i)) (by omega)),q⟩
  · rw [show ((jv s).map AV.d).map (VD s w) = (zy s w).map fun i => AV.d (.int i) by
      unfold jv zy
      simp only [List.map_flatMap,List.map_map]
      refine congrArg (fun g=>(List.range (s 0)).flatMap g) (funext fun x0=>congrArg (fun g=>(List.range (s 1)).flatMap g) (funext fun x1=>List.map_congr_left fun x2 _=>?_))
      show AV.d (.int (plc (fun i=>s (w i)) (fun i=>cel ((x0:Nat):Int).toNat ((x1:Nat):Int).toNat ((x2:Nat):Int).toNat (w i)):Nat))=_
      simp only [Int.toNat_natCast]
      rfl]
    intro p hp _
    exact ⟨_,_,Xs (Fr.refl.mup hp _) hp zf (qv _),q p hp⟩
noncomputable def XW:ASp:=fun xs M Q=>∃ (x y:Dat) (s w:Nat->Nat),xs=[.d x,.d y]/\ka x=some (zq s)/\ka y=some (zq w)/\W3 w/\(∀ i,s i<=1000)/\s 0 * (s 1 * s 2)<=1000/\Q (.d (ilD (zy s w))) M
theorem KM (vs:List V)(H:Hp)(Q:VK)(E:XK):cSp XW vs H Q E->cSp vX vs H Q E:=Ki (fun xs M Q ⟨x,y,s,w,e,h1,h2,h3,h4,h5,q⟩=>⟨x,y,s,w,e,h1,h2,h3,h4,h5,fun p hp=>⟨_,_,yl (Fr.refl.mup hp _) hp zf (qv _),q⟩⟩) vs H Q E
theorem kB {α β:Type}{l:List α}{f g:α->List β}(h:∀ x ∈ l,f x=g x):l.flatMap f=l.flatMap g:=by
 induction l with
 | nil=>rfl
 | cons a r ih=>rw [List.flatMap_cons,List.flatMap_cons,h a (by simp),ih fun x hx=>h x (by simp [hx])]
theorem Wp {f:Nat->Int}{n p:Nat}(h:p<n):((List.range n).map f).getD p 0=f p:=by
 rw [List.getD_eq_getElem?_getD,List.getElem?_map,List.getElem?_range h];rfl
noncomputable def wy (a b c:Nat):Nat->Nat:=cel a b c
theorem zV {α β:Type}(l:List α)(g:α->List β)(k:Nat)(h:∀ x ∈ l,(g x).length=k):(l.flatMap g).length=l.length * k:=by
 induction l with
 | nil=>simp
 | cons a r ih=>rw [List.flatMap_cons,List.length_append,List.length_cons,Nat.succ_mul,h a (by simp),ih fun x hx=>h x (by simp [hx])];omega
theorem jA {a m:Nat}{g:Nat->List Int}(hg:∀ i,i<a->(g i).length=m){i j:Nat}(hi:i<a)(hj:j<m):((List.range a).flatMap g).getD (i * m+j) 0=(g i).getD j 0:=by
 induction a with
 | zero=>omega
 | succ a ih=>
  have hlen:((List.range a).flatMap g).length=a * m:=by
   have:∀ k,k<=a->((List.range k).flatMap g).length=k * m:=fun k=>by
    induction k with
    | zero=>intro _;simp
    | succ k ih2=>intro hk;rw [List.range_succ,List.flatMap_append,List.length_append,ih2 (by omega),Nat.succ_mul];simp [hg k (by omega)]
   exact this a (Nat.le_refl _)
  rw [List.range_succ,List.flatMap_append,List.getD_eq_getElem?_getD]
  by_cases c:i<a
  ·have:i * m+j<a * m:=by have:(i+1) * m<=a * m:=Nat.mul_le_mul_right m c;rw [Nat.add_mul,Nat.one_mul] at this;omega
   rw [List.getElem?_append_left (by rw [hlen];exact this),<- List.getD_eq_getElem?_getD]
   exact ih (fun i h=>hg i (by omega)) c
  ·obtain rfl:i=a:=by omega
   rw [List.getElem?_append_right (by rw [hlen];omega),hlen,show i * m+j - i * m=j by omega]
   simp [List.getD_eq_getElem?_getD]
theorem zO (s w:Nat->Nat):(zy s w).length=s 0 * (s 1 * s 2):=by
 unfold zy
 have h1:∀ x0,((List.range (s 1)).flatMap fun x1=>(List.range (s 2)).map fun x2=>((plc (fun i=>s (w i)) (fun i=>cel x0 x1 x2 (w i)):Nat):Int)).length=s 1 * s 2:=fun x0=>by
  rw [zV _ _ (s 2) fun x _=>by simp,List.length_range]
 rw [zV _ _ (s 1 * s 2) fun x _=>h1 x,List.length_range]
theorem kq {s w:Nat->Nat}{y0 y1 y2:Nat}(h0:y0<s 0)(h1:y1<s 1)(h2:y2<s 2):(zy s w).getD (plc s (cel y0 y1 y2)) 0=((plc (fun i=>s (w i)) (fun i=>cel y0 y1 y2 (w i)):Nat):Int):=by
 have hl:∀ x0,((List.range (s 1)).flatMap fun x1=>(List.range (s 2)).map fun x2=>((plc (fun i=>s (w i)) (fun i=>cel x0 x1 x2 (w i)):Nat):Int)).length=s 1 * s 2:=fun x0=>by
  rw [zV _ _ (s 2) fun x _=>by simp,List.length_range]
 have e:plc s (cel y0 y1 y2)=y0 * (s 1 * s 2)+(y1 * s 2+y2):=by show (y0 * s 1+y1) * s 2+y2=_;grind
 have hlt:y1 * s 2+y2<s 1 * s 2:=by have:(y1+1) * s 2<=s 1 * s 2:=Nat.mul_le_mul_right _ h1;rw [Nat.add_mul,Nat.one_mul] at this;omega
 unfold zy
 rw [e,jA (m:=s 1 * s 2) (fun i _=>hl i) h0 hlt,jA (m:=s 2) (fun i _=>by simp) h1 h2,Wp h2]
theorem jz {s s' c c':Nat->Nat}(h1:∀ i,i<3->s i=s' i)(h2:∀ i,i<3->c i=c' i):plc s c=plc s' c':=by
 unfold plc
 rw [h1 1 (by omega),h1 2 (by omega),h2 0 (by omega),h2 1 (by omega),h2 2 (by omega)]
theorem QG {s:Nat->Nat}{x0 x1 x2:Nat}(h0:x0<s 0)(h1:x1<s 1)(h2:x2<s 2){k:Nat}(hk:k<3):cel x0 x1 x2 k<s k:=by
 match k,hk with
 | 0,_=>exact h0
 | 1,_=>exact h1
 | 2,_=>exact h2
theorem jX (f:Nat->Nat){k:Nat}(hk:k<3):cel (f 0) (f 1) (f 2) k=f k:=by
 match k,hk with
 | 0,_=>rfl
 | 1,_=>rfl
 | 2,_=>rfl
theorem W3.at {w:Nat->Nat}(h:W3 w){k:Nat}(hk:k<3):w k<3:=by
 match k,hk with
 | 0,_=>exact h.1
 | 1,_=>exact h.2.1
 | 2,_=>exact h.2.2
theorem ZC {s w o:Nat->Nat}(hw:W3 w)(ho:W3 o):Xw (zy s w) (zy (fun i=>s (w i)) o)=zy s fun i=>w (o i):=by
 conv=>lhs;unfold Xw;arg 2;unfold zy
 rw [List.map_flatMap]
 refine kB fun x0 h0=>?_
 rw [List.map_flatMap]
 refine kB fun x1 h1=>?_
 rw [List.map_map]
 refine List.map_congr_left fun x2 h2=>?_
 rw [List.mem_range] at h0 h1 h2
 have b:∀ k,k<3->cel x0 x1 x2 (w k)<s (w k):=fun k hk=>QG h0 h1 h2 (hw.at hk)
 show (zy (fun i=>s (w i)) o).getD (((plc (fun i=>s (w i)) (fun i=>cel x0 x1 x2 (w i)):Nat):Int)).toNat 0=_
 rw [Int.toNat_natCast,jz (s:=fun i=>s (w i)) (s':=fun i=>s (w i)) (c':=cel (cel x0 x1 x2 (w 0)) (cel x0 x1 x2 (w 1)) (cel x0 x1 x2 (w 2))) (fun _ _=>rfl) fun i hi=>(jX (fun i=>cel x0 x1 x2 (w i)) hi).symm,kq (b 0 (by omega)) (b 1 (by omega)) (b 2 (by omega))]
 congr 1
 exact jz (fun _ _=>rfl) fun i hi=>jX (fun i=>cel x0 x1 x2 (w i)) (ho.at hi)
theorem QJ {s w:Nat->Nat}(hw:W3 w){p:Int}(h:p ∈ zy s w):0<=p/\p<((s (w 0) * (s (w 1) * s (w 2)):Nat):Int):=by
 unfold zy at h
 obtain ⟨x0,h0,h⟩:=List.mem_flatMap.mp h
 obtain ⟨x1,h1,h⟩:=List.mem_flatMap.mp h
 obtain ⟨x2,h2,rfl⟩:=List.mem_map.mp h
 rw [List.mem_range] at h0 h1 h2
 refine ⟨Int.natCast_nonneg _,Int.ofNat_lt.mpr ?_⟩
 have b:∀ k,k<3->cel x0 x1 x2 (w k)<s (w k):=fun k hk=>QG h0 h1 h2 (hw.at hk)
 have b0:=b 0 (by omega)
 have b1:=b 1 (by omega)
 have b2:=b 2 (by omega)
 show (cel x0 x1 x2 (w 0) * s (w 1)+cel x0 x1 x2 (w 1)) * s (w 2)+cel x0 x1 x2 (w 2)<_
 have e1:(cel x0 x1 x2 (w 0)+1) * s (w 1)<=s (w 0) * s (w 1):=Nat.mul_le_mul_right _ b0
 rw [Nat.add_mul,Nat.one_mul] at e1
 have e2:(cel x0 x1 x2 (w 0) * s (w 1)+cel x0 x1 x2 (w 1)+1) * s (w 2)<=s (w 0) * s (w 1) * s (w 2):=Nat.mul_le_mul_right _ (by omega)
 rw [Nat.add_mul,Nat.one_mul,Nat.mul_assoc (s (w 0))] at e2
 omega
noncomputable def Qo (K:PySem.W.Frag):ASp:=fun xs M Q=>∃ (m:Int) (ns:List Int),xs=[.d (.scr K ns),.d (.int m)]/\0<m/\m<=60/\ns.length<=63/\∀ p M' (bs:List Addr),Fr M M'->M p=none->M' p=some (.lst (bs.map AV.ref))->bs.Nodup->(∀ b ∈ bs,BxM M' b 0/\b ≠ p/\M b=none)->bs.length<=1000->Q (.ref p) M'
noncomputable abbrev yv:Stmt:=top 10
theorem vk:zB ["_law_script","_law_many","_law_cells","_law_k"] ["_law_script","_law_many"] (zj yv):=⟨rfl,rfl,rfl,by decide +kernel,rfl,by decide +kernel,by decide +kernel⟩
theorem JJ (a:At K mg "_law_boxes" yv)(B:Blt mg)(D_law_folded:Df P w K mg base "_law_folded" ["_law_script","_law_many"] 1 (cSp (wq K)))(D_law_box:Df P w K mg base "_law_box" ["_law_script","_law_k"] 1 (cSp WN)):Df P w K mg base "_law_boxes" ["_law_script","_law_many"] 2 (cSp (Qo K)):=by
 refine dfA (k:=1) a vk (fun _ _ _ _ _ _ us hl=>match us,hl with | [_,_],_=>rfl) (fun xs M Q h=>?_) (fun f cdv A outer s H E hr=>?_)
 ·obtain ⟨_,_,rfl,_⟩:=h;rfl
 have sc:=vk
 have hsl:=hsl
 refine ⟨_,(zh (zT (i:=2) sc.nd rfl (by first | exact Or.inl rfl | exact Or.inr rfl) (zL D_law_folded hr rfl (za (pv 0) (za (pv 1) zb))))
  (zn (zF (kC (qR (ts:=[3]) rfl rfl (zU rfl B.range (za (zu (ZX rfl) rfl B.max Vd (za zc (za (zu zW rfl B.len kl (za (pv 2) zb)) zb))) zb)) (fun _ _ _ _=>(zr (i:=3) sc.nd rfl (by first | exact Or.inl rfl | exact Or.inr rfl))) (fun _ _ _ _=>qi) (fun _ _ _ _=>(zL D_law_box hr rfl (za (pv 2) (za (pv 3) zb))))))))),?_⟩
 refine ex2 (by walk_at "sim") ?_
 rintro xs M Q ⟨m,ns,rfl,h1,h2,hn,q⟩
 rw [show qf ["_law_script","_law_many","_law_cells","_law_k"] [.d (.scr K ns),.d (.int m)]=[some (.d (.scr K ns)),some (.d (.int m)),none,none] from rfl]
 refine zp fun r hr0=>?_
 walk_at "ra"
 refine ⟨m,ns,rfl,h1,h2,hn,fun cs lc=>?_⟩
 subst hr0
 walk_at "ra"
 obtain ⟨z,hz,hz'⟩:∃ z:Nat,(if (cs.length:Int) > 1 then (cs.length:Int) else 1)=(z:Int)/\z<=1000:=by
  split
  ·exact ⟨cs.length,rfl,by omega⟩
  ·exact ⟨1,rfl,by omega⟩
 rw [hz,Int.toNat_natCast]
 refine ⟨by omega,by omega,?_⟩
 refine ⟨fun i acc ρ M'=>∃ u bs,ρ=[some (.d (.scr K ns)),some (.d (.int m)),some (.d (ilD cs)),u]/\acc=bs.map AV.ref/\bs.length=i/\bs.Nodup/\Fr M M'/\(∀ q o,M' q=some o->M q=some o \/ q ∈ bs)/\∀ b ∈ bs,BxM M' b 0/\M b=none,⟨none,[],rfl,rfl,rfl,List.nodup_nil,Fr.refl,(fun q o e=>.inl e),fun b hb=>nomatch hb⟩,?_,?_⟩
 ·rintro i y acc ρ M' hy ⟨u,bs,rfl,rfl,lb,nd,f,ho,hb⟩
  obtain ⟨hi,rfl⟩:=qX hy
  refine ⟨trivial,?_⟩
  walk_at "ra"
  refine ⟨_,_,cs,rfl,Ku _ _,by omega,by omega,by omega,fun b o hbn bx=>⟨by omega,bs ++ [b],by rw [List.map_append];rfl,by rw [List.length_append,lb];rfl,?_,f.mup (f.non hbn) o,(fun q o' e=>?_),fun x hx=>?_⟩⟩
  ·refine List.nodup_append.mpr ⟨nd,by simp,fun x hx y hy e=>?_⟩
   rw [List.mem_singleton.mp hy] at e
   exact (hb x hx).1.ne (by rw [e];exact hbn)
  ·by_cases c:q=b
   ·exact .inr (by simp [c])
   ·rw [zt c] at e
    exact (ho q o' e).imp (fun z=>z) (fun z=>by simp [z])
  ·rcases List.mem_append.mp hx with hx | hx
   ·exact ⟨(hb x hx).1.put (fun z=>(hb x hx).1.ne (by rw [z];exact hbn)) o,(hb x hx).2⟩
   ·rw [List.mem_singleton.mp hx];exact ⟨bx,f.non hbn⟩
 ·rintro acc ρ M' ⟨u,bs,rfl,rfl,lb,nd,f,ho,hb⟩
  rw [qx] at lb
  refine ⟨trivial,fun p hp hp'=>?_⟩
  have hbp:∀ b ∈ bs,b ≠ p:=fun b h z=>(hb b h).1.ne (by rw [z];exact hp')
  refine ⟨.ref p,mup M' p (.lst (bs.map AV.ref)),⟨fun _=>.inl rfl,fun q' o e=>?_,.inl ⟨rfl,fun p' z=>by cases z;rw [zf];exact fun z=>nomatch z⟩⟩,q p _ bs (f.mup hp _) hp zf nd (fun b h=>⟨(hb b h).1.put (hbp b h) _,hbp b h,(hb b h).2⟩) (by omega)⟩
  by_cases c:q'=p
  ·rw [c,zf] at e
   cases e
   refine .inr fun r hr=>?_
   obtain ⟨b,hb',e2⟩:=List.mem_map.mp (show AV.ref r ∈ bs.map AV.ref from hr)
   cases e2
   rw [zt (hbp r hb')]
   exact (hb r hb').1.ne
  ·rw [zt c] at e
   rcases ho q' o e with z | z
   ·exact .inl z
   ·exact .inr fun r hr=>absurd hr ((hb q' z).1.refs e r)
noncomputable def Jd:ASp:=fun xs M Q=>∃ (b:Addr) (N:Nat),xs=[.ref b]/\BxM M b N/\N<100000/\∀ (s:Nat->Nat) M',BxS M M' b (N+6)->(∀ i,s i<=1000)->s 0 * (s 1 * s 2)<=400->(∀ i,1<=s i)->Q (.d (.lst (zq s))) M'
noncomputable abbrev xZ:Stmt:=top 12
theorem vd:zB ["_law_box_here","_law_some"] ["_law_box_here"] (zj xZ):=⟨rfl,rfl,rfl,by decide +kernel,rfl,by decide +kernel,by decide +kernel⟩
theorem QU (a:At K mg "_law_three" xZ)(B:Blt mg)(D_law_take:Df P w K mg base "_law_take" ["_law_box_here","_law_many"] 1 (cSp XO)):Df P w K mg base "_law_three" ["_law_box_here"] 2 (cSp Jd):=by
 refine dfA (k:=1) a vd (fun _ _ _ _ _ _ us hl=>match us,hl with | [_],_=>rfl) (fun xs M Q h=>?_) (fun f cdv A outer s H E hr=>?_)
 ·obtain ⟨_,_,rfl,_⟩:=h;rfl
 have sc:=vd
 have hsl:=hsl
 refine ⟨_,(zh (zT (i:=1) sc.nd rfl (by first | exact Or.inl rfl | exact Or.inr rfl) (kC (ku (za (zo zH zc (zL D_law_take hr rfl (za (pv 0) (za zc zb)))) (za (zo zH zc (zL D_law_take hr rfl (za (pv 0) (za zc zb)))) (za (zo zH zc (zL D_law_take hr rfl (za (pv 0) (za zc zb)))) zb))))))
  (zh (kc (jh (j3 hr.units) (zL D_law_take hr rfl (za (pv 0) (za zc zb))) zc (qk _)) (zn (jx (zo zH zc (zL D_law_take hr rfl (za (pv 0) (za zc zb)))) (jP (pv 1) (zL D_law_take hr rfl (za (pv 0) (za zc zb))) qq))) qy)
  (zn (zF (pv 1))))),?_⟩
 refine ex2 (by walk_at "sim") ?_
 rintro xs M Q ⟨b,N,rfl,hb,hN,q⟩
 rw [show qf ["_law_box_here","_law_some"] [.ref b]=[some (.ref b),none] from rfl]
 refine zp fun r hr0=>?_
 walk_at "ra"
 have sb:=SB.refl hb
 refine ⟨b,5,N,rfl,hb,by omega,by omega,by omega,fun c1 M1 s1 c10 c11=>?_⟩
 have sb:=sb.go s1
 refine ⟨_,rfl,b,5,_,rfl,sb.bx,by omega,by omega,by omega,fun c2 M2 s2 c20 c21=>⟨_,rfl,b,5,_,rfl,s2.1,by omega,by omega,by omega,fun c3 M3 s3 c30 c31=>⟨_,rfl,by omega,fun p p0 hp=>?_⟩⟩⟩
 have sb:=(sb.go s2).go s3
 obtain ⟨_,hpb⟩:=sb.new hp
 obtain ⟨a0,rfl⟩:∃ k:Nat,c1=k:=⟨c1.toNat,by omega⟩
 obtain ⟨a1,rfl⟩:∃ k:Nat,c2=k:=⟨c2.toNat,by omega⟩
 obtain ⟨a2,rfl⟩:∃ k:Nat,c3=k:=⟨c3.toNat,by omega⟩
 rw [show (1:Int)+(a0:Int)=((1+a0:Nat):Int) by omega,show (1:Int)+(a1:Int)=((1+a1:Nat):Int) by omega,show (1:Int)+(a2:Int)=((1+a2:Nat):Int) by omega]
 have hp4:=zf (M:=M3) (a:=p) (o:=.lst [AV.d (.int ((1+a0:Nat):Int)),AV.d (.int ((1+a1:Nat):Int)),AV.d (.int ((1+a2:Nat):Int))])
 have sb:=sb.put p0 hpb (.lst [AV.d (.int ((1+a0:Nat):Int)),AV.d (.int ((1+a1:Nat):Int)),AV.d (.int ((1+a2:Nat):Int))])
 generalize mup M3 p (.lst [AV.d (.int ((1+a0:Nat):Int)),AV.d (.int ((1+a1:Nat):Int)),AV.d (.int ((1+a2:Nat):Int))])=M4 at *
 have fin:∀ (t:Nat->Nat) M5,SB M M5 b (N+6)->M5 p=some (.lst ((zq t).map .d))->(∀ i,t i<=12)->t 0 * (t 1 * t 2)<=400->(∀ i,1<=t i)->rtA M Q (.ref p) M5:=fun t M5 s5 h5 h1 h2 h3=>s5.frz p0 hpb h5 (zR _) fun M' t'=>q t M' t' (fun i=>by have:=h1 i;omega) h2 h3
 subst hr0
 refine zp fun r hr0=>?_
 walk_at "ra"
 refine ⟨b,6,_,rfl,sb.bx,by omega,by omega,by omega,fun c4 M5 s5 c40 c41=>⟨_,rfl,by rw [v8];omega,?_⟩⟩
 have hp5:M5 p=_:=(s5.at hpb).trans hp4
 have sb:=sb.go s5
 have h5:∀ i,cel (1+a0) (1+a1) (1+a2) i<=5/\1<=cel (1+a0) (1+a1) (1+a2) i:=fun i=>by
  unfold cel;split <;> omega
 rw [Qv]
 by_cases c:c4=0
 ·rw [if_pos (decide_eq_true c)]
  refine ⟨b,6,_,rfl,sb.bx,by omega,by omega,by omega,fun c5 M6 s6 c50 c51=>⟨_,rfl,b,3,_,rfl,s6.1,by omega,by omega,by omega,fun c6 M7 s7 c60 c61=>?_⟩⟩
  have hp7:M7 p=_:=(s7.at hpb).trans ((s6.at hpb).trans hp5)
  have sb:=(sb.go s6).go s7
  obtain ⟨k,rfl⟩:∃ k:Nat,c5=k:=⟨c5.toNat,by omega⟩
  obtain ⟨j,rfl⟩:∃ j:Nat,c6=j:=⟨c6.toNat,by omega⟩
  rw [show (7:Int)+(k:Int)=((7+k:Nat):Int) by omega]
  refine ⟨_,_,rfl,hp7,j,vS (by omega) (by simp only [List.length_cons,List.length_nil];omega),?_⟩
  have sb:=sb.put p0 hpb (.lst ([AV.d (.int ((1+a0:Nat):Int)),AV.d (.int ((1+a1:Nat):Int)),AV.d (.int ((1+a2:Nat):Int))].set j (AV.d (.int ((7+k:Nat):Int)))))
  have hp8:=zf (M:=M7) (a:=p) (o:=.lst ([AV.d (.int ((1+a0:Nat):Int)),AV.d (.int ((1+a1:Nat):Int)),AV.d (.int ((1+a2:Nat):Int))].set j (AV.d (.int ((7+k:Nat):Int)))))
  generalize mup M7 p _=M8 at *
  subst hr0
  walk_at "ra"
  have hj:j<3:=by omega
  match j,hj with
  | 0,_=>
   have m1:(1+a1) * (1+a2)<=5 * 5:=Nat.mul_le_mul (by omega) (by omega)
   have m2:(7+k) * ((1+a1) * (1+a2))<=12 * 25:=Nat.mul_le_mul (by omega) (by omega)
   exact fin (cel (7+k) (1+a1) (1+a2)) M8 sb hp8 (fun i=>by unfold cel;split <;> omega) (Nat.le_trans m2 (by omega)) (fun i=>by unfold cel;split <;> omega)
  | 1,_=>
   have m1:(7+k) * (1+a2)<=12 * 5:=Nat.mul_le_mul (by omega) (by omega)
   have m2:(1+a0) * ((7+k) * (1+a2))<=5 * 60:=Nat.mul_le_mul (by omega) (by omega)
   exact fin (cel (1+a0) (7+k) (1+a2)) M8 sb hp8 (fun i=>by unfold cel;split <;> omega) (Nat.le_trans m2 (by omega)) (fun i=>by unfold cel;split <;> omega)
  | 2,_=>
   have m1:(1+a1) * (7+k)<=5 * 12:=Nat.mul_le_mul (by omega) (by omega)
   have m2:(1+a0) * ((1+a1) * (7+k))<=5 * 60:=Nat.mul_le_mul (by omega) (by omega)
   exact fin (cel (1+a0) (1+a1) (7+k)) M8 sb hp8 (fun i=>by unfold cel;split <;> omega) (Nat.le_trans m2 (by omega)) (fun i=>by unfold cel;split <;> omega)
 ·rw [if_neg (by simp [c])]
  subst hr0
  walk_at "ra"
  have m1:(1+a1) * (1+a2)<=5 * 5:=Nat.mul_le_mul (by omega) (by omega)
  have m2:(1+a0) * ((1+a1) * (1+a2))<=5 * 25:=Nat.mul_le_mul (by omega) (by omega)
  exact fin (cel (1+a0) (1+a1) (1+a2)) M5 (sb.mono (by omega)) hp5 (fun i=>by have:=h5 i;omega) (Nat.le_trans m2 (by omega)) fun i=>(h5 i).2
noncomputable abbrev jO:Stmt:=top 9
theorem kD:zB ["_law_found","_law_due","_law_one","_law_other"] ["_law_found","_law_due"] (zj jO):=⟨rfl,rfl,rfl,by decide +kernel,rfl,by decide +kernel,by decide +kernel⟩
noncomputable def xk (n:Nat):ASp:=fun xs M Q=>∃ (x y:AV) (d:Dat),xs=[x,y]/\jI x M=some d/\jI y M=some d/\qw n d/\n<=30/\Q (.d (.bl true)) M
noncomputable def aNo:ASp:=fun _ _ _=>False
theorem yy {x y:AV}{M:MH}{l:List Dat}{n:Nat}{sp:ASp}(hsp:∀ xs M Q,xk n xs M Q->sp xs M Q){N:List AV->ASt->MH->Prop}(hl:l.length<=100000)(hd:∀ d ∈ l,qw n d)(hn:n<=30){u v:Option AV}(hN:N (l.map fun _=>AV.d (.bl true)) [] M)(hN':∀ acc ρ ρ' M,N acc ρ M->N acc ρ' M) :
  Zi (Qh 2 (kN (xT 2) (kN (xT 3) JM))) vc (xx (Ka sp (wx (Xb 2) (wx (Xb 3) YG)))) (fun M'=>zN x M'=zN x M/\zN y M'=zN y M) N (xP l l) [] [some x,some y,u,v] M:=by
 have e:(xP l l).map (fun _=>AV.d (.bl true))=l.map fun _=>AV.d (.bl true):=by
  rw [List.map_const',List.map_const',ja,Nat.min_self]
 refine j8 (fun (o:Option AV × Option AV)=>[some x,some y,o.1,o.2]) (fun _=>.d (.bl true)) ⟨(u,v),rfl⟩ ⟨rfl,rfl⟩ (by rw [ja,Nat.min_self];exact hl) (fun o z Q hz q=>?_) fun o=>by rw [e];exact hN' _ _ _ _ hN
 obtain ⟨i,hi⟩:=List.getElem?_of_mem hz
 obtain ⟨d,d',h1,h2,rfl⟩:=kU hi
 rw [h1] at h2;cases h2
 walk_at "ra"
 exact hsp _ _ _ ⟨_,_,d,rfl,rfl,rfl,hd d (List.mem_of_getElem? h1),hn,q (some (.d d),some (.d d))⟩
theorem vy {l:List Dat}:∃ bs:List Bool,(l.map fun _=>Dat.bl true)=bs.map Dat.bl/\(l.map fun _=>AV.d (Dat.bl true))=bs.map (fun b=>AV.d (.bl b))/\bs.all id=true:=⟨l.map fun _=>true,by rw [List.map_map];rfl,by rw [List.map_map];rfl,by simp⟩
theorem WJ (a:At K mg "_law_alike" jO):Df P w K mg base "_law_alike" ["_law_found","_law_due"] 1 (cSp aNo):=
 vw (k:=0) a kD (fun _ _ _ _ _ _ us hl=>match us,hl with | [_,_],_=>rfl) (fun vs H Q E h=>by obtain ⟨_,_,_,_,_,_,h,_⟩:=h;exact h.elim) (fun f cdv A outer s H vs Q E hr h=>by obtain ⟨_,_,_,_,_,_,h,_⟩:=h;exact h.elim)
theorem vg (a:At K mg "_law_alike" jO)(B:Blt mg)(Ball:mg "all"=none){kk:Nat}(n:Nat){sp:ASp}(hsp:∀ xs M Q,1<=n->xk (n - 1) xs M Q->sp xs M Q)(D_law_alike:Df P w K mg base "_law_alike" ["_law_found","_law_due"] kk (cSp sp)):Df P w K mg base "_law_alike" ["_law_found","_law_due"] (kk+1) (cSp (xk n)):=by
 refine dfA (k:=kk) a kD (fun _ _ _ _ _ _ us hl=>match us,hl with | [_,_],_=>rfl) (fun xs M Q h=>?_) (fun f cdv A outer s H E hr=>?_)
 ·obtain ⟨_,_,_,rfl,_⟩:=h;rfl
 have sc:=kD
 have hsl:=hsl
 have hs2:0+1+1<=sizeLine:=by omega
 refine ⟨_,(zh (kc (ky (zu xJ rfl B.isinstance zw (za (pv 1) (za (qa (za (zP (v:=.ty "list") rfl B.list qC rfl) (za (zP (v:=.ty "tuple") rfl B.tuple qI rfl) zb))) zb))) (fun _=>rfl)) (zh (kc (PW.pt (Qi (wb (ky (zu xJ rfl B.isinstance zw (za (pv 0) (za (qa (za (zP (v:=.ty "list") rfl B.list qC rfl) (za (zP (v:=.ty "tuple") rfl B.tuple qI rfl) zb))) zb))) (fun _=>rfl))) (v5 (jh (vA hr.units) (zu qj rfl B.isinstance zw (za (pv 0) (za (zP (v:=.ty "list") rfl B.list qC rfl) zb))) (zu qj rfl B.isinstance zw (za (pv 1) (za (zP (v:=.ty "list") rfl B.list qC rfl) zb))) (qk _))))) (zn (zF yD)) qy)
  (zn (zF (yn (jg (j3 hr.units) (zu zW rfl B.len kl (za (pv 0) zb)) (zu zW rfl B.len kl (za (pv 1) zb)) (qk _)) (vO (zu (Zg rfl) rfl Ball VR (za (qR (ts:=[2,3]) rfl rfl (J8 rfl B.zip (za (pv 0) (za (pv 1) zb))) (fun _ _ _ _=>(jD (K:=K) 2 rfl rfl (zM (zr (i:=2) sc.nd rfl (by first | exact Or.inl rfl | exact Or.inr rfl)) (zM (zr (i:=3) sc.nd rfl (by first | exact Or.inl rfl | exact Or.inr rfl)) jE)))) (fun _ _ _ _=>qi) (fun _ _ _ _=>(zL D_law_alike hr rfl (za (pv 2) (za (pv 3) zb))))) zb))))))) qy)
  (zh (kc (PW.pt (Qi (jh Ve (pv 1) Y6 (qk _)) (v5 (ky (zu qj rfl B.isinstance zw (za (pv 1) (za (zP (v:=.ty "str") rfl B.str kF rfl) zb))) (fun _=>rfl))))) (zn (zF (yn (jg (j3 hr.units) (pv 0) (pv 1) (qk _)) (vO (jg (j3 hr.units) (zu qj rfl B.isinstance zw (za (pv 0) (za (zP (v:=.ty "str") rfl B.str kF rfl) zb))) (zu qj rfl B.isinstance zw (za (pv 1) (za (zP (v:=.ty "str") rfl B.str kF rfl) zb))) (qk _)))))) qy)
  (zn (zF (yn (zu qj rfl B.isinstance zw (za (pv 0) (za (zP (v:=.ty "int") rfl B.int Ji rfl) zb))) (yn (jg (j3 hr.units) (zu qj rfl B.isinstance zw (za (pv 0) (za (zP (v:=.ty "bool") rfl B.bool wM rfl) zb))) (zu qj rfl B.isinstance zw (za (pv 1) (za (zP (v:=.ty "bool") rfl B.bool wM rfl) zb))) (qk _)) (vO (jg (j3 hr.units) (pv 0) (pv 1) (qk _))))))))),?_⟩
 refine ex2 (by walk_at "sim") ?_
 rintro xs M Q ⟨x,y,d,rfl,hx,hy,hd,hn,q⟩
 rw [show qf ["_law_found","_law_due","_law_one","_law_other"] [x,y]=[some x,some y,none,none] from rfl]
 have fin:=XZ (M0:=M) Fr.refl (.bl true)
 cases d with
 | non=>obtain rfl:=zK hx (fun _ z=>nomatch z);obtain rfl:=zK hy (fun _ z=>nomatch z);walk_at "ra";exact ⟨hs2,_,_,fin,q⟩
 | bl b=>obtain rfl:=zK hx (fun _ z=>nomatch z);obtain rfl:=zK hy (fun _ z=>nomatch z);walk_at "ra";exact ⟨hs2,_,_,fin,q⟩
 | int i=>obtain rfl:=zK hx (fun _ z=>nomatch z);obtain rfl:=zK hy (fun _ z=>nomatch z);walk_at "ra";exact ⟨hs2,_,_,fin,q⟩
 | str i=>obtain rfl:=zK hx (fun _ z=>nomatch z);obtain rfl:=zK hy (fun _ z=>nomatch z);walk_at "ra";exact ⟨hs2,_,_,fin,q⟩
 | tup l=>
  obtain rfl:=zK hx (fun _ z=>nomatch z)
  obtain rfl:=zK hy (fun _ z=>nomatch z)
  cases n with
  | zero=>exact hd.no_t.elim
  | succ n=>
   obtain ⟨hl,hd'⟩:=hd.tup
   walk_at "ra"
   refine ⟨hs2,hs2,l,l,.inr ⟨rfl,rfl,Nat.le_refl _⟩,yy (n:=n) (sp:=sp) (fun xs M Q h=>hsp xs M Q (by omega) h) hl hd' (by omega) ?_ (fun _ _ _ _ z=>z)⟩
   obtain ⟨bs,b1,b2,b3⟩:=vy (l:=l)
   refine ⟨l.map fun _=>.bl true,?_,bs,by rw [List.map_map];exact b2,?_⟩
   ·rw [<- zR (l.map fun _=>Dat.bl true),List.map_map];rfl
   ·rw [b3];exact ⟨_,_,fin,q⟩
 | lst l=>
  obtain ⟨x1,x2,x3,x4⟩:=y8 hx
  obtain ⟨y1,y2,y3,y4⟩:=y8 hy
  cases n with
  | zero=>exact hd.no_l.elim
  | succ n=>
   obtain ⟨hl,hd'⟩:=hd.lst
   walk_at "ra"
   simp only [x2,x3,x4,y2,y3,y4]
   walk_at "ra"
   refine ⟨hs2,hs2,l,l,.inl ⟨x1,y1⟩,yy (n:=n) (sp:=sp) (fun xs M Q h=>hsp xs M Q (by omega) h) hl hd' (by omega) ?_ (fun _ _ _ _ z=>z)⟩
   obtain ⟨bs,b1,b2,b3⟩:=vy (l:=l)
   refine ⟨l.map fun _=>.bl true,?_,bs,by rw [List.map_map];exact b2,?_⟩
   ·rw [<- zR (l.map fun _=>Dat.bl true),List.map_map];rfl
   ·rw [b3];exact ⟨_,_,fin,q⟩
 | ty t=>have:=hd.1;rw [dp] at this;omega
 | rng _ _ _=>have:=hd.1;rw [dp] at this;omega
 | scr _ _=>have:=hd.1;rw [dp] at this;omega
theorem xF (a:At K mg "_law_alike" jO)(B:Blt mg)(Ball:mg "all"=none):∀ n,Df P w K mg base "_law_alike" ["_law_found","_law_due"] (n+2) (cSp (xk n))
 | 0=>vg a B Ball 0 (sp:=aNo) (fun _ _ _ h=>absurd h (by omega)) (WJ a)
 | n+1=>vg a B Ball (n+1) (sp:=xk n) (fun _ _ _ _ h=>h) (xF a B Ball n)
noncomputable def nmW (w y:Nat->Nat)(k:Nat):Nat:=if w 0=k then y 0 else if w 1=k then y 1 else y 2
noncomputable def ju (s w:Nat->Nat):List Int:=(List.range (s (w 0))).flatMap fun y0=>(List.range (s (w 1))).flatMap fun y1=>(List.range (s (w 2))).map fun y2=>((plc s (nmW w (cel y0 y1 y2)):Nat):Int)
structure W3p (w:Nat->Nat):Prop where
 o:W3 w
 a:w 0 ≠ w 1
 b:w 0 ≠ w 2
 c:w 1 ≠ w 2
theorem J5 {s w:Nat->Nat}(h:W3p w):s (w 0) * (s (w 1) * s (w 2))=s 0 * (s 1 * s 2):=by
 obtain ⟨⟨a,b,c⟩,d,e,f⟩:=h
 have h0:w 0=0 \/ w 0=1 \/ w 0=2:=by omega
 have h1:w 1=0 \/ w 1=1 \/ w 1=2:=by omega
 have h2:w 2=0 \/ w 2=1 \/ w 2=2:=by omega
 rcases h0 with h0 | h0 | h0 <;> rcases h1 with h1 | h1 | h1 <;> rcases h2 with h2 | h2 | h2 <;> first | omega | (rw [h0,h1,h2];done) | (rw [h0,h1,h2];grind)
theorem lk3 {w y:Nat->Nat}(h:W3p w){k:Nat}(hk:k<3):jq ((ikS [(w 0:Int),(w 1:Int),(w 2:Int)]).zip [.d (.int (y 0)),.d (.int (y 1)),.d (.int (y 2))]) (.inl (k:Int))=some (.d (.int (nmW w y k))):=by
 obtain ⟨⟨a,b,c⟩,d,e,f⟩:=h
 have inj:∀ m:Nat,(decide ((Sum.inl (m:Int):Key)=Sum.inl (k:Int)))=decide (m=k):=fun m=>by
  by_cases z:m=k
  ·rw [z];simp
  ·rw [decide_eq_false z];exact decide_eq_false fun q=>z (Int.ofNat.inj (Sum.inl.inj q))
 unfold jq nmW
 show (List.find? _ [(Sum.inl (w 0:Int),_),(Sum.inl (w 1:Int),_),(Sum.inl (w 2:Int),_)]).map _=_
 simp only [List.find?_cons,inj]
 by_cases h0:w 0=k
 ·simp [h0]
 ·by_cases h1:w 1=k
  ·simp [h0,h1]
  ·have h2:w 2=k:=by omega
   simp [h0,h1,h2]
noncomputable def QI:ASp:=fun xs M Q=>∃ (x:Dat) (s w:Nat->Nat),xs=[.d x,.d (.tup (zq w))]/\ka x=some (zq s)/\W3p w/\(∀ i,s i<=1000)/\s 0 * (s 1 * s 2)<=1000/\Q (.d (ilD (ju s w))) M
noncomputable abbrev xQ:Stmt:=top 13
theorem yO:zB ["_law_sizes","_law_ways","_law_found","_law_one","_law_other","_law_third","_law_numbers"] ["_law_sizes","_law_ways"] (zj xQ):=⟨rfl,rfl,rfl,by decide +kernel,rfl,by decide +kernel,by decide +kernel⟩
theorem Jz (a:At K mg "_law_stood" xQ)(B:Blt mg)(Bdict:mg "dict"=none):Df P w K mg base "_law_stood" ["_law_sizes","_law_ways"] 1 (cSp QI):=by
 refine dfA (k:=0) a yO (fun _ _ _ _ _ _ us hl=>match us,hl with | [_,_],_=>rfl) (fun xs M Q h=>?_) (fun f cdv A outer s H E hr=>?_)
 ·obtain ⟨_,_,_,rfl,_⟩:=h;rfl
 have sc:=yO
 have hsl:=hsl
 refine ⟨_,(zh (zT (i:=2) sc.nd rfl (by first | exact Or.inl rfl | exact Or.inr rfl) (kC (ku zb)))
  (zh (qT PassesOwn.never rfl (zU rfl B.range (za (zz qc (pv 0) (zz qc (pv 1) zc (fun _ _=>rfl)) (fun _ _=>rfl)) zb)) (zr (i:=3) sc.nd rfl (by first | exact Or.inl rfl | exact Or.inr rfl)) (zn (qT PassesOwn.never rfl (zU rfl B.range (za (zz qc (pv 0) (zz qc (pv 1) zc (fun _ _=>rfl)) (fun _ _=>rfl)) zb)) (zr (i:=4) sc.nd rfl (by first | exact Or.inl rfl | exact Or.inr rfl)) (zn (qT PassesOwn.never rfl (zU rfl B.range (za (zz qc (pv 0) (zz qc (pv 1) zc (fun _ _=>rfl)) (fun _ _=>rfl)) zb)) (zr (i:=5) sc.nd rfl (by first | exact Or.inl rfl | exact Or.inr rfl)) (zh (zT (i:=6) sc.nd rfl (by first | exact Or.inl rfl | exact Or.inr rfl) (KB rfl rfl B.zip rfl Bdict (za (pv 1) (za (qa (za (pv 3) (za (pv 4) (za (pv 5) zb)))) zb))))
  (zn (wA (XG PySem.F.plainAttrs_list PySem.F.slot_list_append PySem.F.type_list_append ZO (pv 2) (za (zo zH (zo ql (zo zH (zo ql (yu (QX hr) (pv 6) zc (fun _ _=>rfl)) (zz qc (pv 0) zc (fun _ _=>rfl))) (yu (QX hr) (pv 6) zc (fun _ _=>rfl))) (zz qc (pv 0) zc (fun _ _=>rfl))) (yu (QX hr) (pv 6) zc (fun _ _=>rfl))) zb))))))))))
  (zn (zF (pv 2))))),?_⟩
 refine ex2 (by walk_at "sim") ?_
 rintro xs M Q ⟨x,s,w,rfl,hx,hw,hs,hm,q⟩
 rw [show qf ["_law_sizes","_law_ways","_law_found","_law_one","_law_other","_law_third","_law_numbers"] [.d x,.d (.tup (zq w))]=[some (.d x),some (.d (.tup (zq w))),none,none,none,none,none] from rfl]
 refine zp fun r hr0=>?_
 walk_at "ra"
 intro f _ hf
 subst hr0
 refine zp fun r hr0=>?_
 have wk:∀ k,k<3->w k<3:=fun k hk=>hw.o.at hk
 have gs:∀ M,qK (.d x) M=some ((zq s).map .d):=fun M=>kz hx M
 have at3:∀ (g:Nat->Nat) (k:Nat),k<3->atI ((zq g).map AV.d) (k:Int)=some (.d (.int (g k))):=fun g k hk=>match k,hk with | 0,_=>rfl | 1,_=>rfl | 2,_=>rfl
 have b0:=hs (w 0)
 have b1:=hs (w 1)
 have b2:=hs (w 2)
 let cells:=fun y0 y1 n=>(List.range n).map fun y2=>((plc s (nmW w (cel y0 y1 y2)):Nat):Int)
 let rows:=fun y0 n=>(List.range n).flatMap fun y1=>cells y0 y1 (s (w 2))
 have lenC:∀ y0 y1 n,(cells y0 y1 n).length=n:=fun y0 y1 n=>by show ((List.range n).map _).length=n;rw [List.length_map,List.length_range]
 have lenR:∀ y0 n,(rows y0 n).length=n * s (w 2):=fun y0 n=>by show ((List.range n).flatMap _).length=_;rw [zV _ _ (s (w 2)) fun y _=>lenC y0 y _,List.length_range]
 have lenF:∀ n,((List.range n).flatMap fun y0=>rows y0 (s (w 1))).length=n * (s (w 1) * s (w 2)):=fun n=>by rw [zV _ _ (s (w 1) * s (w 2)) fun y _=>lenR y _,List.length_range]
 have big:s (w 0) * (s (w 1) * s (w 2))<=1000:=by
  have:=J5 (s:=s) hw
  omega
 have P:∀ M',Fr M M'->∀ l:List Int,M' f=some (.lst (l.map fun i=>.d (.int i)))->True:=fun _ _ _ _=>trivial
 walk_at "ra"
 refine ⟨_,rfl,_,gs _,_,rfl,_,at3 s (w 0) (wk 0 (by omega)),_,rfl,by omega,by omega,?_⟩
 rw [Int.toNat_natCast]
 refine ⟨fun i ρ M'=>Fr M M'/\M' f=some (.lst (((List.range i).flatMap fun y0=>rows y0 (s (w 1))).map fun i=>.d (.int i)))/\∃ c3 c4 c5 c6,ρ=[some (.d x),some (.d (.tup (zq w))),some (.ref f),c3,c4,c5,c6],⟨Fr.refl.mup hf _,zf,_,_,_,_,rfl⟩,?_,?_⟩
 ·rintro i y ρ M1 hy ⟨fr,hl,c3,c4,c5,c6,rfl⟩
  obtain ⟨hi,rfl⟩:=qX hy
  rw [Int.zero_add,Int.mul_one]
  refine ⟨trivial,?_⟩
  walk_at "ra"
  refine ⟨_,rfl,_,gs _,_,rfl,_,at3 s (w 1) (wk 1 (by omega)),_,rfl,by omega,by omega,?_⟩
  rw [Int.toNat_natCast]
  refine ⟨fun j ρ M'=>Fr M M'/\M' f=some (.lst ((((List.range i).flatMap fun y0=>rows y0 (s (w 1))) ++ rows i j).map fun i=>.d (.int i)))/\∃ c4 c5 c6,ρ=[some (.d x),some (.d (.tup (zq w))),some (.ref f),some (.d (.int i)),c4,c5,c6],⟨fr,by rw [show rows i 0=[] from rfl,List.append_nil];exact hl,_,_,_,rfl⟩,?_,?_⟩
  ·rintro j y ρ M1 hy ⟨fr,hl,c4,c5,c6,rfl⟩
   obtain ⟨hj,rfl⟩:=qX hy
   rw [Int.zero_add,Int.mul_one]
   refine ⟨trivial,?_⟩
   walk_at "ra"
   refine ⟨_,rfl,_,gs _,_,rfl,_,at3 s (w 2) (wk 2 (by omega)),_,rfl,by omega,by omega,?_⟩
   rw [Int.toNat_natCast]
   refine ⟨fun k ρ M'=>Fr M M'/\M' f=some (.lst ((((List.range i).flatMap fun y0=>rows y0 (s (w 1))) ++ rows i j ++ cells i j k).map fun i=>.d (.int i)))/\∃ c5 c6,ρ=[some (.d x),some (.d (.tup (zq w))),some (.ref f),some (.d (.int i)),some (.d (.int j)),c5,c6],⟨fr,by rw [show cells i j 0=[] from rfl,List.append_nil];exact hl,_,_,rfl⟩,?_,?_⟩
   ·rintro k y ρ M1 hy ⟨fr,hl,c5,c6,rfl⟩
    obtain ⟨hk,rfl⟩:=qX hy
    rw [Int.zero_add,Int.mul_one]
    refine ⟨trivial,?_⟩
    show vv _ _ _ _ _ _
    refine zp fun r2 hr2=>?_
    walk_at "ra"
    have nd:[(w 0:Int),(w 1:Int),(w 2:Int)].Nodup:=by
     have:=hw.a;have:=hw.b;have:=hw.c
     simp only [List.nodup_cons,List.mem_cons,List.not_mem_nil,or_false,not_or,List.nodup_nil,not_false_eq_true,and_true]
     omega
    refine ⟨by omega,[(w 0:Int),(w 1:Int),(w 2:Int)],rfl,nd,rfl,by show 3<=1000;decide,fun p hp=>?_⟩
    have pf:f ≠ p:=fun z=>by rw [<- z,hl] at hp;cases hp
    have lk:∀ m:Nat,m<3->jq ((ikS [(w 0:Int),(w 1:Int),(w 2:Int)]).zip [.d (.int (i:Int)),.d (.int (j:Int)),.d (.int (k:Int))]) (.inl (m:Int))=some (.d (.int (nmW w (cel i j k) m))):=fun m hm=>lk3 (y:=cel i j k) hw hm
    have hl':∀ o,mup M1 p o f=some (.lst ((((List.range i).flatMap fun y0=>rows y0 (s (w 1))) ++ rows i j ++ cells i j k).map fun i=>.d (.int i))):=fun o=>by rw [zt pf];exact hl
    have s1:=hs 1
    have s2:=hs 2
    subst hr2
    walk_at "ra"
    refine ⟨⟨_,kL (hl' _)⟩,_,zf,_,lk 0 (by omega),_,gs _,_,at3 s 1 (by omega),_,rfl,_,rfl,jU (by omega) (by omega),_,zf,_,lk 1 (by omega),_,rfl,_,gs _,_,at3 s 2 (by omega),_,rfl,jU (by omega) (by omega),_,zf,_,lk 2 (by omega),_,rfl,_,hl' _,?_,?_⟩
    ·rw [List.length_map,List.length_append,List.length_append,lenF,lenR,lenC]
     have e1:(i+1) * (s (w 1) * s (w 2))<=s (w 0) * (s (w 1) * s (w 2)):=Nat.mul_le_mul_right _ hi
     have e2:(j+1) * s (w 2)<=s (w 1) * s (w 2):=Nat.mul_le_mul_right _ hj
     rw [Nat.add_mul,Nat.one_mul] at e1 e2
     omega
    ·refine ⟨(fr.mup (fr.non hp) _).mup hf _,?_⟩
     rw [zf]
     refine ⟨?_,_,rfl⟩
     rw [show cells i j (k+1)=cells i j k ++ [((plc s (nmW w (cel i j k)):Nat):Int)] from by show (List.range (k+1)).map _=_;rw [List.range_succ,List.map_append];rfl,<- List.append_assoc,List.map_append (l₂:=[_])]
     unfold plc
     simp only [Int.natCast_add,Int.natCast_mul,List.map_cons,List.map_nil]
   ·rintro ρ M1 ⟨fr,hl,c5,c6,rfl⟩
    rw [qx] at hl
    refine ⟨trivial,fr,?_,_,_,_,rfl⟩
    rw [hl,List.append_assoc]
    show _=some (MO.lst (((_ ++ rows i (j+1)).map _)))
    rw [show rows i (j+1)=rows i j ++ cells i j (s (w 2)) from by show (List.range (j+1)).flatMap _=_;rw [List.range_succ,List.flatMap_append,List.flatMap_singleton]]
  ·rintro ρ M1 ⟨fr,hl,c4,c5,c6,rfl⟩
   rw [qx] at hl
   refine ⟨trivial,fr,?_,_,_,_,_,rfl⟩
   rw [hl,List.range_succ,List.flatMap_append,List.flatMap_singleton]
 ·rintro ρ M1 ⟨fr,hl,c3,c4,c5,c6,rfl⟩
  rw [qx] at hl
  refine ⟨trivial,?_⟩
  subst hr0
  walk_at "ra"
  exact ⟨_,_,yl fr hf hl (qv _),q⟩
structure WW (os D:List Int)(n:Nat):Prop where
 l:os.length=n
 l2:D.length=n
 h:∀ q,q<n->∃ t:Nat,t<n/\os[q]?=some (t:Int)/\D.getD t 0=(q:Int)
 sur:∀ t:Nat,t<n->∃ q,q<n/\os[q]?=some (t:Int)
noncomputable def Qn:ASp:=fun xs M Q=>∃ (os D:List Int) (n:Nat),xs=[.d (ilD os)]/\WW os D n/\n<=1000/\Q (.d (ilD D)) M
noncomputable abbrev ye:Stmt:=top 11
theorem yF:zB ["_law_row","_law_order","_law_place","_law_thing"] ["_law_row"] (zj ye):=⟨rfl,rfl,rfl,by decide +kernel,rfl,by decide +kernel,by decide +kernel⟩
theorem Kb (a:At K mg "_law_order_of" ye)(B:Blt mg):Df P w K mg base "_law_order_of" ["_law_row"] 1 (cSp Qn):=by
  refine dfA (k:=0) a yF (fun _ _ _ _ _ _ us hl=>match us,hl with | [_],_=>rfl) (fun xs M Q h=>?_) (fun f cdv A outer s H E hr=>?_)
  · obtain ⟨_,_,_,rfl,_⟩:=h;rfl
  have sc:=yF
  have hsl:=hsl
  refine ⟨_,(zh (zT (i:=1) sc.nd rfl (by first | exact Or.inl rfl | exact Or.inr rfl) (kC (zo Qm (ku (za zc zb)) (zu zW rfl B.len kl (za (pv 0) zb)))))
    (zh (qT PassesOwn.never rfl (ZA rfl B.enumerate (za (pv 0) zb)) (jD (K:=K) 2 rfl rfl (zM (zr (i:=2) sc.nd rfl (by first | exact Or.inl rfl | exact Or.inr rfl)) (zM (zr (i:=3) sc.nd rfl (by first | exact Or.inl rfl | exact Or.inr rfl)) jE))) (zn (jx (pv 2) (jP (pv 1) (pv 3) qq))))
    (zn (zF (pv 1))))),?_⟩
  refine ex2 (by walk_at "sim") ?_
  rintro xs M Q ⟨os,D,n,rfl,iv,hn,q⟩
  have l1:=iv.l
  rw [show qf ["_law_row","_law_order","_law_place","_law_thing"] [.d (ilD os)]=[some (.d (ilD os)),none,none,none] from rfl]
  refine zp fun r hr0=>?_
  walk_at "ra"
  rw [l1,Int.toNat_natCast]
  refine ⟨by omega,by omega,by omega,by omega,fun p hp _=>?_⟩
  rw [show (List.replicate n [AV.d (.int 0)]).flatten=(List.replicate n (0:Int)).map fun i=>AV.d (.int i) from by
    have:∀ n,(List.replicate n [AV.d (.int 0)]).flatten=(List.replicate n (0:Int)).map fun i=>AV.d (.int i):=fun n=>by
      induction n with
      | zero=>rfl
      | succ n ih=>rw [List.replicate_succ,List.replicate_succ,List.flatten_cons,ih];rfl
    exact this n]
  subst hr0
  refine zp fun r hr0=>?_
  walk_at "ra"
  refine ⟨fun i ρ M'=>∃ o:List Int,o.length=n/\M'=mup M p (.lst (o.map fun i=>.d (.int i)))/\(∀ (q t:Nat),q<i->os[q]?=some (t:Int)->o.getD t 0=(q:Int))/\∃ a b,ρ=[some (.d (ilD os)),some (.ref p),a,b],⟨_,List.length_replicate,rfl,fun q t h=>absurd h (by omega),_,_,rfl⟩,?_,?_⟩
  · rintro i y ρ M' hy ⟨o,lo,rfl,ho,a,b,rfl⟩
    refine ⟨trivial,?_⟩
    obtain ⟨d,hd,rfl⟩:=jV hy
    have hi:i<n:=by have:=(List.getElem?_eq_some_iff.mp hd).1;rw [List.length_map,l1] at this;exact this
    obtain ⟨t,ht,h1,h2⟩:=iv.h i hi
    rw [List.getElem?_map,h1] at hd
    cases hd
    refine ⟨_,rfl,rfl,?_⟩
    show kN _ _ _ _ _ _
    walk_at "ra"
    refine ⟨_,zf,t,by rw [List.length_map,lo,vS (by omega) (by omega)];rfl,?_⟩
    refine ⟨o.set t (i:Int),by rw [List.length_set];exact lo,by rw [List.map_set],fun q u hq hu=>?_,by first | exact ⟨_,_,rfl⟩ | exact ⟨_,rfl⟩ | rfl⟩
    by_cases c:q=i
    · subst c
      rw [h1] at hu
      have:t=u:=by injection hu with hu;omega
      subst this
      rw [List.getD_eq_getElem?_getD,List.getElem?_set_self (by omega)];rfl
    · have ne : t ≠ u := fun z => by
        subst z
        obtain ⟨t',_,g1,g2⟩:=iv.h q (by omega)
        rw [g1] at hu
        have:t'=t:=by injection hu with hu;omega
        subst this
        rw [h2] at g2;omega
      rw [List.getD_eq_getElem?_getD,List.getElem?_set_ne ne,<- List.getD_eq_getElem?_getD]
      exact ho q u (by omega) hu
  · rintro ρ M' ⟨o,lo,rfl,ho,a,b,rfl⟩
    refine ⟨trivial,?_⟩
    subst hr0
    walk_at "ra"
    have e:o=D:=by
      refine List.ext_getElem (by rw [lo,iv.l2]) fun t h1 h2=>?_
      obtain ⟨q,hq,g⟩:=iv.sur t (by omega)
      obtain ⟨t',ht',g1,g2⟩:=iv.h q hq
      rw [g] at g1
      have:t=t':=by injection g1 with g1;omega
      subst this
      have h3:=ho q t (by rw [ji,List.length_map,l1];exact hq) g
      rw [List.getD_eq_getElem?_getD,List.getElem?_eq_getElem h1] at h3
      rw [List.getD_eq_getElem?_getD,List.getElem?_eq_getElem h2] at g2
      exact (show o[t]=(q:Int) from h3).trans (show D[t]=(q:Int) from g2).symm
    rw [e]
    exact ⟨_,_,yl (Fr.refl.mup hp _) hp zf (qv _),q⟩
theorem xO (s:Nat->Nat){q:Nat}(h:q<s 0 * (s 1 * s 2)):∃ y:Nat->Nat,y 0<s 0/\y 1<s 1/\y 2<s 2/\q=plc s y:=by
 have p2:0<s 2:=Nat.pos_of_ne_zero fun z=>by rw [z] at h;simp at h
 have p1:0<s 1:=Nat.pos_of_ne_zero fun z=>by rw [z] at h;simp at h
 refine ⟨cel (q / s 2 / s 1) (q / s 2 % s 1) (q % s 2),?_,Nat.mod_lt _ p1,Nat.mod_lt _ p2,?_⟩
 ·show q / s 2 / s 1<s 0
  rw [Nat.div_lt_iff_lt_mul p1,Nat.div_lt_iff_lt_mul p2,Nat.mul_assoc];exact h
 ·show q=(q / s 2 / s 1 * s 1+q / s 2 % s 1) * s 2+q % s 2
  rw [Nat.mul_comm (q / s 2 / s 1),Nat.div_add_mod,Nat.mul_comm (q / s 2),Nat.div_add_mod]
theorem Ak {w y:Nat->Nat}(h:W3p w){i:Nat}(hi:i<3):nmW w y (w i)=y i:=by
 have:=h.a;have:=h.b;have:=h.c
 unfold nmW
 match i,hi with
 | 0,_=>rw [if_pos rfl]
 | 1,_=>rw [if_neg (by omega),if_pos rfl]
 | 2,_=>rw [if_neg (by omega),if_neg (by omega)]
theorem W9 {w c:Nat->Nat}(h:W3p w){k:Nat}(hk:k<3):nmW w (fun i=>c (w i)) k=c k:=by
 obtain ⟨⟨a,b,c'⟩,d,e,f⟩:=h
 unfold nmW
 by_cases h0:w 0=k
 ·rw [if_pos h0];exact congrArg c h0
 ·rw [if_neg h0]
  by_cases h1:w 1=k
  ·rw [if_pos h1];exact congrArg c h1
  ·rw [if_neg h1];exact congrArg c (show w 2=k by omega)
theorem wn {s w y:Nat->Nat}(h:W3p w)(hy:∀ i,i<3->y i<s (w i)){k:Nat}(hk:k<3):nmW w y k<s k:=by
 have h0:=hy 0 (by omega);have h1:=hy 1 (by omega);have h2:=hy 2 (by omega)
 obtain ⟨⟨a,b,c'⟩,d,e,f⟩:=h
 unfold nmW
 by_cases z0:w 0=k
 ·rw [if_pos z0,<- z0];exact h0
 ·rw [if_neg z0]
  by_cases z1:w 1=k
  ·rw [if_pos z1,<- z1];exact h1
  ·rw [if_neg z1,show k=w 2 by omega];exact h2
theorem j4 (s w:Nat->Nat):(ju s w).length=s (w 0) * (s (w 1) * s (w 2)):=by
 unfold ju
 rw [zV _ _ (s (w 1) * s (w 2)) fun y _=>by rw [zV _ _ (s (w 2)) fun y _=>by simp,List.length_range],List.length_range]
theorem xv {s w y:Nat->Nat}(hy:∀ i,i<3->y i<s (w i)):(ju s w).getD (plc (fun i=>s (w i)) y) 0=((plc s (nmW w y):Nat):Int):=by
 have h0:=hy 0 (by omega);have h1:=hy 1 (by omega);have h2:=hy 2 (by omega)
 have e:plc (fun i=>s (w i)) y=y 0 * (s (w 1) * s (w 2))+(y 1 * s (w 2)+y 2):=by show (y 0 * s (w 1)+y 1) * s (w 2)+y 2=_;grind
 have hlt:y 1 * s (w 2)+y 2<s (w 1) * s (w 2):=by have:(y 1+1) * s (w 2)<=s (w 1) * s (w 2):=Nat.mul_le_mul_right _ h1;rw [Nat.add_mul,Nat.one_mul] at this;omega
 unfold ju
 rw [e,jA (m:=s (w 1) * s (w 2)) (fun i _=>by rw [zV _ _ (s (w 2)) fun y _=>by simp,List.length_range]) h0 hlt,jA (m:=s (w 2)) (fun i _=>by simp) h1 h2,Wp h2]
 rfl
theorem J0 {s c:Nat->Nat}(h:∀ i,i<3->c i<s i):plc s c<s 0 * (s 1 * s 2):=by
 have h0:=h 0 (by omega);have h1:=h 1 (by omega);have h2:=h 2 (by omega)
 show (c 0 * s 1+c 1) * s 2+c 2<_
 have e1:(c 0+1) * s 1<=s 0 * s 1:=Nat.mul_le_mul_right _ h0
 have e2:(c 0 * s 1+c 1+1) * s 2<=s 0 * s 1 * s 2:=Nat.mul_le_mul_right _ (by rw [Nat.add_mul,Nat.one_mul] at e1;omega)
 rw [Nat.add_mul _ 1,Nat.one_mul,Nat.mul_assoc (s 0)] at e2
 omega
theorem WE {l:List Int}{q:Nat}{v:Int}(h:q<l.length)(e:l.getD q 0=v):l[q]?=some v:=by
 rw [List.getD_eq_getElem?_getD,List.getElem?_eq_getElem h] at e
 rw [List.getElem?_eq_getElem h];exact congrArg some e
theorem ZJ {s w:Nat->Nat}(hw:W3p w):WW (ju s w) (zy s w) (s 0 * (s 1 * s 2)):=by
 have em:=J5 (s:=s) hw
 refine ⟨by rw [j4,em],zO s w,fun q hq=>?_,fun t ht=>?_⟩
 ·obtain ⟨y,y0,y1,y2,rfl⟩:=xO (fun i=>s (w i)) (q:=q) (by show q<s (w 0) * (s (w 1) * s (w 2));rw [em];exact hq)
  have hy:∀ i,i<3->y i<s (w i):=fun i hi=>match i,hi with | 0,_=>y0 | 1,_=>y1 | 2,_=>y2
  have lt:plc s (nmW w y)<s 0 * (s 1 * s 2):=J0 fun k hk=>wn hw hy hk
  refine ⟨plc s (nmW w y),lt,WE (by rw [j4,em];exact hq) (xv hy),?_⟩
  rw [jz (s:=s) (s':=s) (c':=cel (nmW w y 0) (nmW w y 1) (nmW w y 2)) (fun _ _=>rfl) fun i hi=>(jX (nmW w y) hi).symm,kq (wn hw hy (by omega)) (wn hw hy (by omega)) (wn hw hy (by omega))]
  congr 1
  exact jz (fun _ _=>rfl) fun i hi=>by rw [jX (nmW w y) (hw.o.at hi),Ak hw hi]
 ·obtain ⟨c,c0,c1,c2,rfl⟩:=xO s ht
  have hc:∀ i,i<3->c i<s i:=fun i hi=>match i,hi with | 0,_=>c0 | 1,_=>c1 | 2,_=>c2
  have hy:∀ i,i<3->(fun i=>c (w i)) i<s (w i):=fun i hi=>hc (w i) (hw.o.at hi)
  have lt:plc (fun i=>s (w i)) (fun i=>c (w i))<s 0 * (s 1 * s 2):=by rw [<- em];exact J0 hy
  refine ⟨_,lt,WE (by rw [j4,em];exact lt) ?_⟩
  rw [xv hy]
  congr 1
  exact jz (fun _ _=>rfl) fun k hk=>W9 hw hk
theorem QK {s w:Nat->Nat}(h:∀ i,i<3->w i=i):zy s w=jt 0 1 (s 0 * (s 1 * s 2)):=by
 have h3:W3 w:=by refine ⟨?_,?_,?_⟩ <;> rw [h _ (by omega)] <;> omega
 refine List.ext_getElem (by rw [zO,qZ]) fun q h1 h2=>?_
 rw [zO] at h1
 obtain ⟨y,y0,y1,y2,rfl⟩:=xO s h1
 have g:=kq (s:=s) (w:=w) y0 y1 y2
 rw [jz (s:=s) (s':=s) (c:=cel (y 0) (y 1) (y 2)) (c':=y) (fun _ _=>rfl) fun i hi=>jX y hi] at g
 rw [List.getD_eq_getElem?_getD,List.getElem?_eq_getElem (by rw [zO];exact h1)] at g
 have g:(zy s w)[plc s y]'(by rw [zO];exact h1)=_:=g
 rw [g]
 have e:plc (fun i=>s (w i)) (fun i=>cel (y 0) (y 1) (y 2) (w i))=plc s y:=jz (fun i hi=>by rw [h i hi]) fun i hi=>by rw [h i hi];exact jX y hi
 rw [e]
 rw [List.getElem_of_eq (Y7 _) h2,List.getElem_map,List.getElem_range]
noncomputable abbrev Ja:Stmt:=top 14
theorem Jr:zB ["_law_script","_law_box_here","_law_sizes","_law_ways","_law_due","_law_made","_law_handed","_law_back","_law_kept","_law_told","_law_way","_law_place"] ["_law_script"] (zj Ja):=⟨rfl,rfl,rfl,by decide +kernel,rfl,by decide +kernel,by decide +kernel⟩
noncomputable def wD (K:PySem.W.Frag):Sp:=fun vs H Q _=>∃ (a:Addr) (ns:List Int),vs=[.ref a]/\SqL K H a (ns.map V.int)/\ns.length<=63/\∀ H',Q (.bl true) H'
noncomputable def WC (K:PySem.W.Frag):ASp:=fun xs M Q=>∃ ns:List Int,xs=[.d (.scr K ns)]/\ns.length<=63/\Q (.d (.bl true)) M
theorem sp_law (vs:List V)(H:Hp)(Q:VK)(E:XK)(h:wD K vs H Q E):cSp (WC K) vs H Q E:=by
 obtain ⟨a,ns,rfl,ha,hn,q⟩:=h
 refine ⟨[.d (.scr K ns)],fun _=>none,fun _=>False,fun x _=>x=.d (.bl true),⟨(fun a o e=>nomatch e),(fun a h=>h rfl),fun a h=>h.elim⟩,.cons (K1 (fun _ z=>z) ha) .nil,⟨ns,rfl,hn,rfl⟩,fun x M' v H' O' hx _ _ r=>?_⟩
 subst hx
 rw [kM r]
 exact q H'
noncomputable def wN:Nat->Nat->Nat
 | 0=>wy 0 1 2
 | 1=>wy 0 2 1
 | 2=>wy 1 0 2
 | 3=>wy 1 2 0
 | 4=>wy 2 0 1
 | _=>wy 2 1 0
theorem XB (k:Nat):W3 (wN k):=by
 unfold wN
 split <;> exact ⟨by decide,by decide,by decide⟩
noncomputable abbrev Wj:List Dat:=[.tup [.int 0,.int 1,.int 2],.tup [.int 0,.int 2,.int 1],.tup [.int 1,.int 0,.int 2],.tup [.int 1,.int 2,.int 0],.tup [.int 2,.int 0,.int 1],.tup [.int 2,.int 1,.int 0]]
theorem QH {i:Nat}{y:AV}(h:(Wj.map AV.d)[i]?=some y):i<6/\y=.d (.tup (zq (wN i))):=by
 match i,h with
 | 0,h=>cases h;exact ⟨by decide,rfl⟩
 | 1,h=>cases h;exact ⟨by decide,rfl⟩
 | 2,h=>cases h;exact ⟨by decide,rfl⟩
 | 3,h=>cases h;exact ⟨by decide,rfl⟩
 | 4,h=>cases h;exact ⟨by decide,rfl⟩
 | 5,h=>cases h;exact ⟨by decide,rfl⟩
 | (n+6),h=>cases h
theorem WP (s:Nat->Nat){j:Nat}(h:j<6):s (wN j 0) * (s (wN j 1) * s (wN j 2))=s 0 * (s 1 * s 2):=by
 match j,h with
 | 0,_=>rfl
 | 1,_=>show s 0 * (s 2 * s 1)=_;grind
 | 2,_=>show s 1 * (s 0 * s 2)=_;grind
 | 3,_=>show s 1 * (s 2 * s 0)=_;grind
 | 4,_=>show s 2 * (s 0 * s 1)=_;grind
 | 5,_=>show s 2 * (s 1 * s 0)=_;grind
theorem Jg (s:Nat->Nat):qw 6 (.tup (zq s)):=(vN (ns:=[(s 0:Int),(s 1:Int),(s 2:Int)]) (by simp)).mono (by omega)
noncomputable def jH:Nat->Nat
 | 3=>4
 | 4=>3
 | n=>n
theorem YM {j:Nat}(h:j<6):∀ i,i<3->wN j (wN (jH j) i)=i:=by
 match j,h with
 | 0,_ | 1,_ | 2,_ | 3,_ | 4,_ | 5,_=>decide
theorem Ag {j:Nat}(h:j<6):W3p (wN j):=by
 match j,h with
 | 0,_ | 1,_ | 2,_ | 3,_ | 4,_ | 5,_=>exact ⟨⟨by decide,by decide,by decide⟩,by decide,by decide,by decide⟩
theorem W8 {j:Nat}(h:j<6){k:Nat}(hk:k<3):wN (jH j) k<([(wN j 0:Int),(wN j 1:Int),(wN j 2:Int)]).length/\([(wN j 0:Int),(wN j 1:Int),(wN j 2:Int)]).getD (wN (jH j) k) 0=(k:Int)/\∀ m,m<wN (jH j) k->([(wN j 0:Int),(wN j 1:Int),(wN j 2:Int)]).getD m 0 ≠ (k:Int):=by
 match j,h with
 | 0,_ | 1,_ | 2,_ | 3,_ | 4,_ | 5,_=>
  match k,hk with
  | 0,_ | 1,_ | 2,_=>exact ⟨by decide,by decide,by decide⟩
theorem yo {s:Nat->Nat}(h:∀ i,s i<=1000):Sh 75 (.lst (zq s))/\Sh 75 (.tup (zq s)):=by
 have:∀ d ∈ zq s,Sh 22 d:=fun d hd=>by
  have z:∀ i,Sh 22 (.int (s i)):=fun i=>YZ (Nat.lt_of_le_of_lt (by have:=h i;omega:((s i:Nat):Int).natAbs<=1000) (by decide))
  unfold zq at hd
  simp only [List.mem_cons,List.not_mem_nil,or_false] at hd
  rcases hd with rfl | rfl | rfl <;> exact z _
 exact ⟨Yk (n:=3) (by simp [zq]) this,Jy (n:=3) (by simp [zq]) this⟩
theorem ya (s:Nat->Nat):dp (.lst (zq s))<=2/\dp (.tup (zq s))<=2:=by
 have z:dps (zq s)<=1:=j6 fun d hd=>by
  unfold zq at hd
  simp only [List.mem_cons,List.not_mem_nil,or_false] at hd
  rcases hd with rfl | rfl | rfl <;> simp [dp]
 constructor <;> (rw [dp];omega)
noncomputable def vT (x y:Dat):Dat:=.tup [x,y]
theorem wI {x y:Dat}(h1:Sh 75 x)(h2:Sh 75 y)(d1:dp x<=2)(d2:dp y<=2):dp (vT x y)<=40/\(pdD (vT x y)).showable=true/\(pdD (vT x y)).shown.length<=200:=by
 have s:=Jy (n:=2) (b:=75) (l:=[x,y]) (by simp) fun d hd=>by
  simp only [List.mem_cons,List.not_mem_nil,or_false] at hd
  rcases hd with rfl | rfl
  ·exact h1
  ·exact h2
 have z:dps [x,y]<=2:=j6 fun d hd=>by
  simp only [List.mem_cons,List.not_mem_nil,or_false] at hd
  rcases hd with rfl | rfl
  ·exact d1
  ·exact d2
 exact ⟨by unfold vT;rw [dp];omega,s.1,Nat.le_trans s.2 (by decide)⟩
theorem Zf {s u:Nat->Nat}(hs:∀ i,s i<=1000)(hu:∀ i,u i<=1000){i:Nat}{y:AV}(h:[AV.d (.tup [.lst (zq s),.lst (zq u)]),AV.d (.tup [.tup (zq s),.tup (zq u)])][i]?=some y):∃ x z,y=.d (.tup [x,z])/\ka x=some (zq s)/\ka z=some (zq u)/\dp (vT x z)<=40/\(pdD (vT x z)).showable=true/\(pdD (vT x z)).shown.length<=200:=by
 match i,h with
 | 0,h=>cases h;exact ⟨_,_,rfl,rfl,rfl,wI (yo hs).1 (yo hu).1 (ya s).1 (ya u).1⟩
 | 1,h=>cases h;exact ⟨_,_,rfl,rfl,rfl,wI (yo hs).2 (yo hu).2 (ya s).2 (ya u).2⟩
 | (n+2),h=>cases h
theorem Wt (j i:Nat):wN j i<=1000:=by
 unfold wN
 split <;> (unfold wy cel;split <;> omega)
noncomputable def Wg (l:List Int):AV->AV
 | .d (.int i)=>.d (.int (l.getD i.toNat 0))
 | x=>x
theorem Y9 (a : At K mg "law" Ja)(B : Blt mg)(D_law_boxes : Df P w K mg base "_law_boxes" ["_law_script", "_law_many"] 19 (cSp (Qo K)))(D_law_three : Df P w K mg base "_law_three" ["_law_box_here"] 19 (cSp Jd))(D_law_alike : Df P w K mg base "_law_alike" ["_law_found", "_law_due"] 19 (cSp (xk 6)))(D_law_order_of : Df P w K mg base "_law_order_of" ["_law_row"] 19 (cSp Qn))(D_law_stood : Df P w K mg base "_law_stood" ["_law_sizes", "_law_ways"] 19 (cSp QI))
    (D_deep_order:Df P w K mg base "deep_order" ["sizes","ways"] 19 (cSp XW)) (D_deep_order_o:Df P w K mg base "deep_order" ["sizes","ways"] 19 (cSp vX)) (D_deep_sizes:Df P w K mg base "deep_sizes" ["sizes","ways"] 19 (cSp Jc)) :
    Df P w K mg base "law" ["_law_script"] 20 (cSp (WC K)):=by
  refine dfA (k:=19) a Jr (fun _ _ _ _ _ _ us hl=>match us,hl with | [_],_=>rfl) (fun xs M Q h=>?_) (fun f cdv A outer s H E hr=>?_)
  · obtain ⟨_,rfl,_⟩:=h;rfl
  have sc:=Jr
  have hsl:=hsl
  refine' ⟨_,?q0,?qr⟩
  (case q0=>
    refine' zh ?q1 ?q2
    (case q1=>
      refine' qT ?q3 ?q4 ?q5 ?q6 ?q7
      (case q3=>exact PassesOwn.never)
      (case q4=>exact rfl)
      (case q5=>exact (kE (zL D_law_boxes hr rfl (za (pv 0) (za zc zb)))))
      (case q6=>exact (zr (i:=1) sc.nd rfl (by first | exact Or.inl rfl | exact Or.inr rfl)))
      (case q7=>
        refine' zh ?q8 ?q9
        (case q8=>exact (zT (i:=2) sc.nd rfl (by first | exact Or.inl rfl | exact Or.inr rfl) (zL D_law_three hr rfl (za (pv 1) zb))))
        (case q9=>
          refine' zn ?q10
          (case q10=>
            refine' qT ?q11 ?q12 ?q13 ?q14 ?q15
            (case q11=>exact PassesOwn.never)
            (case q12=>exact rfl)
            (case q13=>
              refine' kE ?q16
              (case q16=>
                refine' qa ?q17
                (case q17=>
                  refine' za ?q18 ?q19
                  (case q18=>exact (qa (za zc (za zc (za zc zb)))))
                  (case q19=>
                    refine' za ?q20 ?q21
                    (case q20=>exact (qa (za zc (za zc (za zc zb)))))
                    (case q21=>
                      refine' za ?q22 ?q23
                      (case q22=>exact (qa (za zc (za zc (za zc zb)))))
                      (case q23=>
                        refine' za ?q24 ?q25
                        (case q24=>exact (qa (za zc (za zc (za zc zb)))))
                        (case q25=>
                          refine' za ?q26 ?q27
                          (case q26=>exact (qa (za zc (za zc (za zc zb)))))
                          (case q27=>
                            refine' za ?q28 ?q29
                            (case q28=>exact (qa (za zc (za zc (za zc zb)))))
                            (case q29=>exact zb)))))))))
            (case q14=>exact (zr (i:=3) sc.nd rfl (by first | exact Or.inl rfl | exact Or.inr rfl)))
            (case q15=>exact (zh (zT (i:=4) sc.nd rfl (by first | exact Or.inl rfl | exact Or.inr rfl) (zL D_law_order_of hr rfl (za (zL D_law_stood hr rfl (za (pv 2) (za (pv 3) zb))) zb))) (zh (zT (i:=5) sc.nd rfl (by first | exact Or.inl rfl | exact Or.inr rfl) (zC qh rfl B.tuple qI (za (qR (ts:=[10]) rfl rfl (kE (pv 3)) (fun _ _ _ _=>(zr (i:=10) sc.nd rfl (by first | exact Or.inl rfl | exact Or.inr rfl))) (fun _ _ _ _=>qi) (fun _ _ _ _=>(zz (vF (K:=K) rfl) (pv 2) (pv 10) (fun _ _=>rfl)))) zb))) (zh (qT PassesOwn.never rfl (kE (qa (za (qa (za (zC qQ rfl B.list qC (za (pv 2) zb)) (za (zC qQ rfl B.list qC (za (pv 3) zb)) zb))) (za (qa (za (zC qh rfl B.tuple qI (za (pv 2) zb)) (za (pv 3) zb))) zb)))) (zr (i:=6) sc.nd rfl (by first | exact Or.inl rfl | exact Or.inr rfl)) (zh (zT (i:=8) sc.nd rfl (by first | exact Or.inl rfl | exact Or.inr rfl) (zC (xp hr.gd hr.units) rfl B.str kF (za (pv 6) zb))) (zh (zT (i:=9) sc.nd rfl (by first | exact Or.inl rfl | exact Or.inr rfl) (zL D_deep_order_o hr rfl (za (zz qc (pv 6) zc (fun _ _=>rfl)) (za (zz qc (pv 6) zc (fun _ _=>rfl)) zb)))) (zh (kc (PW.pt (Qi (wb (ky (zL D_law_alike hr rfl (za (pv 9) (za (pv 4) zb))) (fun _=>rfl))) (v5 (wb (ky (zL D_law_alike hr rfl (za (zL D_deep_sizes hr rfl (za (zz qc (pv 6) zc (fun _ _=>rfl)) (za (zz qc (pv 6) zc (fun _ _=>rfl)) zb))) (za (pv 5) zb))) (fun _=>rfl)))))) (zn (zF yD)) qy) (zh (wA (Vo PySem.F.plainAttrs_list PySem.F.slot_list_reverse PySem.F.type_list_reverse v6 (pv 9))) (zn (kc (jh (vA hr.units) (zC (xp hr.gd hr.units) rfl B.str kF (za (pv 6) zb)) (pv 8) (qk _)) (zn (zF yD)) qy))))))) (zh (zT (i:=7) sc.nd rfl (by first | exact Or.inl rfl | exact Or.inr rfl) (zL D_deep_order hr rfl (za (zL D_deep_sizes hr rfl (za (pv 2) (za (pv 3) zb))) (za (zC qh rfl B.tuple qI (za (qR (ts:=[10]) rfl rfl (zU rfl B.range (za zc zb)) (fun _ _ _ _=>(zr (i:=10) sc.nd rfl (by first | exact Or.inl rfl | exact Or.inr rfl))) (fun _ _ _ _=>qi) (fun _ _ _ _=>(VE (K:=K) rfl PySem.F.plainAttrs_tuple PySem.F.slot_tuple_index PySem.F.type_tuple_index ZR (pv 3) (za (pv 10) zb)))) zb)) zb)))) (zn (kc (jh (vA hr.units) (qR (ts:=[11]) rfl rfl (kE (pv 4)) (fun _ _ _ _=>(zr (i:=11) sc.nd rfl (by first | exact Or.inl rfl | exact Or.inr rfl))) (fun _ _ _ _=>qi) (fun _ _ _ _=>(zz (vF (K:=K) rfl) (pv 7) (pv 11) (fun _ _=>rfl)))) (zC (kX rfl) rfl B.list qC (za (zC yx rfl B.range Q1 (za (zu zW rfl B.len kl (za (pv 4) zb)) zb)) zb)) (qk _)) (zn (zF yD)) qy)))))))))))
    (case q2=>exact (zn (zF yD))))
  refine ex2 (by walk_at "sim") ?_
  rintro xs M Q ⟨ns,rfl,hn,q⟩
  rw [show qf ["_law_script","_law_box_here","_law_sizes","_law_ways","_law_due","_law_made","_law_handed","_law_back","_law_kept","_law_told","_law_way","_law_place"] [.d (.scr K ns)]=[some (.d (.scr K ns)),none,none,none,none,none,none,none,none,none,none,none] from rfl]
  refine zp fun r hr0=>?_
  walk_at "ra"
  refine ⟨6,ns,rfl,by omega,by omega,hn,fun p M1 bs f1 hp hp1 nd hb lb=>?_⟩
  refine ⟨_,jB hp1,?_⟩
  refine ⟨fun i ρ M'=>(∃ x1 x2 x3 x4 x5 x6 x7 x8 x9 x10 x11,ρ=[some (.d (.scr K ns)),x1,x2,x3,x4,x5,x6,x7,x8,x9,x10,x11])/\Fr M M'/\M' p=some (.lst (bs.map AV.ref))/\∀ (j:Nat) b,i<=j->bs[j]?=some b->BxM M' b 0/\b ≠ p/\M b=none,⟨⟨_,_,_,_,_,_,_,_,_,_,_,rfl⟩,f1,hp1,fun j b _ e=>hb b (List.mem_of_getElem? e)⟩,?_,?_⟩
  · rintro i y ρ M2 hy ⟨⟨x1,x2,x3,x4,x5,x6,x7,x8,x9,x10,x11,rfl⟩,f2,hp2,hb2⟩
    rw [List.getElem?_map] at hy
    cases e:bs[i]? with
    | none=>rw [e] at hy;cases hy
    | some b=>
      rw [e] at hy
      cases hy
      obtain ⟨bx,hbp,b0⟩:=hb2 i b (Nat.le_refl _) e
      refine ⟨jB hp2,?_⟩
      have sb:=SB.refl bx
      have hlast:∀ M',SB M2 M' b 1000->Fr M M'/\M' p=some (.lst (bs.map AV.ref))/\∀ (j:Nat) b',i+1<=j->bs[j]?=some b'->BxM M' b' 0/\b' ≠ p/\M b'=none:=fun M' s'=>by
        refine ⟨SB.frm f2 b0 s',by rw [s'.fr p (qp hp2) (Ne.symm hbp)];exact hp2,fun j b' hj e'=>?_⟩
        obtain ⟨z1,z2,z3⟩:=hb2 j b' (by omega) e'
        have hbb:b' ≠ b:=fun z=>by
          obtain ⟨i1,e1⟩:=List.getElem?_eq_some_iff.mp e
          obtain ⟨i2,e2⟩:=List.getElem?_eq_some_iff.mp e'
          have:=(List.getElem_inj (h₀:=i1) (h₁:=i2) nd).mp (e1.trans (z.symm.trans e2.symm))
          omega
        refine ⟨?_,z2,z3⟩
        obtain ⟨a1,a2,a3,a4,a5⟩:=z1
        exact ⟨a1,a2,a3,by rw [s'.fr b' (by rw [a4];exact fun z=>nomatch z) hbb];exact a4,a5⟩
      show vv _ _ _ _ _ _
      refine zp fun r2 hr2=>?_
      walk_at "ra"
      refine ⟨b,0,rfl,sb.bx,by omega,fun sz M3 s3 z1 z2 z3=>?_⟩
      have sb:=sb.go s3
      subst hr2
      walk_at "ra"
      refine ⟨by omega,by omega,by omega,by omega,by omega,by omega,by omega,?_⟩
      refine ⟨fun j ρ M'=>(∃ x3 x4 x5 x6 x7 x8 x9 x10 x11,ρ=[some (.d (.scr K ns)),some (.ref b),some (.d (.lst (zq sz))),x3,x4,x5,x6,x7,x8,x9,x10,x11])/\SB M2 M' b 6,⟨⟨_,_,_,_,_,_,_,_,_,rfl⟩,sb.mono (by omega)⟩,?_,?_⟩
      · rintro j y ρ M4 hy ⟨⟨x3,x4,x5,x6,x7,x8,x9,x10,x11,rfl⟩,sb⟩
        obtain ⟨hj,rfl⟩:=QH hy
        have wj:=XB j
        have wp:=Ag hj
        refine ⟨trivial,?_⟩
        show vv _ _ _ _ _ _
        refine zp fun r2 hr2=>?_
        walk_at "ra"
        refine ⟨_,sz,wN j,rfl,rfl,wp,z1,by omega,ju sz (wN j),zy sz (wN j),_,rfl,ZJ wp,by omega,?_⟩
        subst hr2
        refine zp fun r2 hr2=>?_
        walk_at "ra"
        refine j8 (fun o=>[some (.d (.scr K ns)),some (.ref b),some (.d (.lst (zq sz))),some (.d (.tup (zq (wN j)))),some (.d (ilD (zy sz (wN j)))),x5,x6,x7,x8,x9,o,x11]) (byA sz) ⟨_,rfl⟩ trivial (by simp [zq]) (fun o z Q hz q=>?_) fun o=>?_
        · obtain ⟨m, hm, rfl⟩ : ∃ m : Nat, m < 3 /\ z = .d (.int m) := by
            unfold zq at hz
            simp only [List.map_cons,List.map_nil,List.mem_cons,List.not_mem_nil,or_false] at hz
            rcases hz with rfl | rfl | rfl
            · exact ⟨_,wj.1,rfl⟩
            · exact ⟨_,wj.2.1,rfl⟩
            · exact ⟨_,wj.2.2,rfl⟩
          obtain ⟨l,hl,hat⟩:=qM sz hm M4 (x:=.lst (zq sz)) rfl
          cases hl
          walk_at "ra"
          exact ⟨_,hat,q _⟩
        refine ⟨zq fun i=>sz (wN j i),rfl,?_⟩
        subst hr2
        refine zp fun r2 hr2=>?_
        walk_at "ra"
        refine ⟨by omega,by omega,by omega,?_⟩
        refine ⟨fun j2 ρ M'=>(∃ x6 x7 x8 x9 x10 x11,ρ=[some (.d (.scr K ns)),some (.ref b),some (.d (.lst (zq sz))),some (.d (.tup (zq (wN j)))),some (.d (ilD (zy sz (wN j)))),some (.d (.tup (zq fun i=>sz (wN j i)))),x6,x7,x8,x9,x10,x11])/\SB M2 M' b 6,⟨⟨_,_,_,_,_,_,rfl⟩,sb⟩,?_,?_⟩
        · rintro j2 y ρ M5 hy ⟨⟨x6,x7,x8,x9,x10,x11,rfl⟩,sb⟩
          obtain ⟨x,z,rfl,hx,hz,t1,t2,t3⟩:=Zf z1 (fun i=>Wt j i) hy
          refine ⟨trivial,?_⟩
          show vv _ _ _ _ _ _
          refine zp fun r3 hr3=>?_
          walk_at "ra"
          refine ⟨.inr ⟨_,rfl⟩,t1,t2,Nat.le_trans t3 (by omega),?_⟩
          subst hr3
          refine zp fun r3 hr3=>?_
          walk_at "ra"
          refine ⟨_,rfl,_,rfl,x,z,sz,wN j,rfl,hx,hz,wj,z1,by omega,fun p' hp'=>?_⟩
          obtain ⟨p0,hpb⟩:=sb.new hp'
          have sb:=sb.put p0 hpb (.lst ((zy sz (wN j)).map fun i=>.d (.int i)))
          have h5:=zf (M:=M5) (a:=p') (o:=.lst ((zy sz (wN j)).map fun i=>.d (.int i)))
          generalize mup M5 p' (.lst ((zy sz (wN j)).map fun i=>.d (.int i)))=M6 at *
          have dl:=zO sz (wN j)
          subst hr3
          refine zp fun r3 hr3=>?_
          walk_at "ra"
          refine ⟨.ref p',_,ilD (zy sz (wN j)),rfl,JP h5 (qv _),rfl,(ZK (by omega)).mono (by omega),by omega,_,rfl,?_⟩
          rw [if_neg (by decide)]
          refine ⟨_,rfl,_,rfl,x,z,sz,wN j,rfl,hx,hz,wj,_,_,.tup (zq fun i=>sz (wN j i)),rfl,rfl,rfl,Jg _,by omega,_,rfl,?_⟩
          rw [if_neg (by decide)]
          subst hr3
          refine zp fun r3 hr3=>?_
          walk_at "ra"
          refine ⟨⟨_,kL h5⟩,_,h5,?_⟩
          have sb:=sb.put p0 hpb (.lst ((zy sz (wN j)).map fun i=>AV.d (.int i)).reverse)
          generalize mup M6 p' _=M7 at *
          subst hr3
          walk_at "ra"
          refine ⟨.inr ⟨_,rfl⟩,t1,t2,Nat.le_trans t3 (by omega),?_⟩
          exact ⟨⟨_,rfl⟩,sb⟩
        · rintro ρ M5 ⟨⟨x6,x7,x8,x9,x10,x11,rfl⟩,sb⟩
          refine ⟨trivial,?_⟩
          subst hr2
          dsimp only
          refine zp fun r2 hr2=>?_
          walk_at "ra"
          refine ⟨_,_,sz,wN j,rfl,rfl,rfl,wj,by decide,by decide,?_⟩
          have wv:=XB (jH j)
          refine j8 (fun o=>[some (.d (.scr K ns)),some (.ref b),some (.d (.lst (zq sz))),some (.d (.tup (zq (wN j)))),some (.d (ilD (zy sz (wN j)))),some (.d (.tup (zq fun i=>sz (wN j i)))),x6,x7,x8,x9,o,x11]) (byA (wN (jH j))) ⟨_,rfl⟩ trivial (by rw [qx];decide) (fun o z Q hz q=>?_) fun o=>?_
          · rw [jL] at hz
            obtain ⟨m,hm,rfl⟩:=List.mem_map.mp hz
            have hm:m<3:=List.mem_range.mp hm
            obtain ⟨i1,i2,i3⟩:=W8 hj hm
            walk_at "ra"
            exact ⟨⟨_,rfl⟩,[(wN j 0:Int),(wN j 1:Int),(wN j 2:Int)],rfl,_,i1,i2,i3,q _⟩
          rw [show (jQ 0 1 (Int.toNat 3)).map (byA (wN (jH j)))=(zq (wN (jH j))).map AV.d from rfl]
          have pn:=WP sz hj
          refine ⟨_,zR _,_,_,(fun i=>sz (wN j i)),wN (jH j),rfl,rfl,rfl,wv,(fun i=>z1 _),(by show sz (wN j 0) * (sz (wN j 1) * sz (wN j 2))<=1000;omega),?_⟩
          subst hr2
          walk_at "ra"
          have ml:=zO (fun i=>sz (wN j i)) (wN (jH j))
          refine j8 (fun o=>[some (.d (.scr K ns)),some (.ref b),some (.d (.lst (zq sz))),some (.d (.tup (zq (wN j)))),some (.d (ilD (zy sz (wN j)))),some (.d (.tup (zq fun i=>sz (wN j i)))),x6,some (.d (ilD (zy (fun i=>sz (wN j i)) (wN (jH j))))),x8,x9,x10,o]) (Wg (zy (fun i=>sz (wN j i)) (wN (jH j)))) ⟨_,rfl⟩ trivial (by rw [List.length_map,zO];omega) (fun o y Q hy q=>?_) fun o=>?_
          · obtain ⟨pl,hpl,rfl⟩:=List.mem_map.mp hy
            have hb:=QJ wj hpl
            walk_at "ra"
            exact ⟨_,JA hb.1 (by rw [ml];exact hb.2),q _⟩
          rw [show ((zy sz (wN j)).map fun i=>AV.d (.int i)).map (Wg (zy (fun i=>sz (wN j i)) (wN (jH j))))=(Xw (zy sz (wN j)) (zy (fun i=>sz (wN j i)) (wN (jH j)))).map fun i=>AV.d (.int i) by unfold Xw;rw [List.map_map,List.map_map];rfl,ZC wj wv,QK (fun i hi=>YM hj i hi)]
          have dl:=zO sz (wN j)
          refine ⟨_,qv _,_,_,_,rfl,small_one (by omega) (by omega) (by omega) (by omega),sz 0 * (sz 1 * sz 2),by rw [rangeSize_one];split <;> omega,by omega,yt _,yt _,?_⟩
          rw [Jf,decide_eq_true rfl,if_neg (by decide)]
          exact ⟨⟨_,rfl⟩,sb⟩
      · rintro ρ M' ⟨⟨x3,x4,x5,x6,x7,x8,x9,x10,x11,rfl⟩,sb⟩
        refine ⟨trivial,⟨_,_,_,_,_,_,_,_,_,_,_,rfl⟩,?_⟩
        exact hlast M' (sb.mono (by omega))
  · rintro ρ M2 ⟨⟨x1,x2,x3,x4,x5,x6,x7,x8,x9,x10,x11,rfl⟩,f2,hp2,hb2⟩
    refine ⟨jB hp2,?_⟩
    subst hr0
    walk_at "ra"
    exact KJ f2 q
end
theorem all_mk {l:PySem.W.OpenLaw}{w:World}{K:PySem.W.Frag}{h:Heap}{mg:Str->Option Value}{fa:Addr}(X:K.In h)(G:h.Ns mainGlobals mg)(hfa:mg "law"=some (.ref fa))(a:At K mg "law" Ja)(B:Blt mg)(Ball:mg "all"=none)(Bdict:mg "dict"=none)
  (a__law_take:At K mg "_law_take" v0) (a__law_box:At K mg "_law_box" QS) (a__law_folded:At K mg "_law_folded" kH) (a__law_boxes:At K mg "_law_boxes" yv) (a__law_three:At K mg "_law_three" xZ) (a__law_alike:At K mg "_law_alike" jO) (a__law_order_of:At K mg "_law_order_of" ye) (a__law_stood:At K mg "_law_stood" xQ) (a_by_ways:At K mg "by_ways" QO) (a_deep_place:At K mg "deep_place" Je) (a_deep_sizes:At K mg "deep_sizes" kO) (a_deep_order:At K mg "deep_order" vI)
 :∃ fd:FuncData,(∀ (s:Shared) (v:Value),BindsTo s fd ⟨[v],[]⟩ [("_law_script",v)])/\∀ base:Heap,K.In base->base.Ns mainGlobals mg->jo l.prog w K mg base CX0 20 fa fd ["_law_script"] (wD K):=by
 obtain ⟨f,fd,F,m⟩:=id a
 obtain rfl:fa=f:=by rw [hfa] at m;cases m;rfl
 obtain ⟨oc,od,kV,doc,pm,an,cdv,ct,osl,e,lk,hcd⟩:=F.ex
 refine ⟨fd,fun s v=>?_,fun base _ _=>?_⟩
 ·subst e;exact .of_eq rfl
 ·have T:=K3 (P:=l.prog) (w:=w) (base:=base) a__law_take B
  have t1:=T.imp' Kh
  have by_:=Y2 (P:=l.prog) (w:=w) (base:=base) a_by_ways B
  have de:=K8 (P:=l.prog) (w:=w) (base:=base) a_deep_order B by_ (Ys a_deep_place B)
  have bx:=JJ (P:=l.prog) (w:=w) (base:=base) a__law_boxes B ((Z4 a__law_folded B).imp' Zv) ((YJ a__law_box B).imp' YD)
  have sd:=Jz (P:=l.prog) (w:=w) (base:=base) a__law_stood B Bdict
  have L:=Y9 (P:=l.prog) (w:=w) (base:=base) a B (bx.mono (by decide)) ((QU a__law_three B t1).mono (by decide)) ((xF a__law_alike B Ball 6).mono (by decide)) ((Kb a__law_order_of B).mono (by decide)) (sd.mono (by decide)) ((de.imp' KM).mono (by decide)) (de.mono (by decide)) ((Zx a_deep_sizes B by_).mono (by decide))
  exact (L.imp' (sp_law (K:=K))).fn m lk
theorem walk {l:PySem.W.OpenLaw}{q:Program}{loose:List Str}{XP:(Str->Option Value)->Heap->Prop}{YP:World->Heap->Prop}{d:DefRec}{K:Params->PySem.W.Frag}(hn:l.most=some 63)(hdf:d.params.defaults=[])
  (hY:∀ (w:World) (h:Heap),YP w h->(K w.params).In h)
  (F:∀ (w:World) (mg:Str->Option Value) (fa:Addr) (h:Heap),(K w.params).In h->h.Ns mainGlobals mg->mg d.name=some (.ref fa) ->
   ∃ fd:FuncData,(∀ (s:Shared) (u:Value),BindsTo s fd ⟨[u],[]⟩ [("_law_script",u)])/\∀ base:Heap,(K w.params).In base->base.Ns mainGlobals mg->jo l.prog w (K w.params) mg base CX0 20 fa fd ["_law_script"] (wD (K w.params))) :
  PySem.W.WalkO q loose XP YP l.row.toRowW d [] (fun f vs=>PySem.call f vs):=
 L2.walk_of (n:=63) (k:=20) (x:="_law_script") (CX:=fun _=>CX0) (sp:=fun w=>wD (K w.params)) hn (by decide) hdf ⟨rfl,rfl,by decide,by decide⟩ hY F (fun _ _ a ns hl _ hS=>⟨a,ns,rfl,hS,hl,fun _=>rfl⟩) fun _ _ _ _ _ z=>z
end Ot
theorem PySem.W.Fast.te16622669791313381262:True:=trivial
theorem PySem.W.Fast.te4025896271625138925:True:=trivial
theorem PySem.W.Fast.te11108616401290265783:True:=trivial
namespace PySem.W.Fast
def tw6774751541313804678:=()
def tw13880732643716407600:=()
def tw15973499493448829251:=()
def tw13052267106733165989:=()
def tw2840356306673369863:=()
def tw9605593164009377916:=()
def tw7333127565703158149:=()
def tw3265076920609799530:=()
def tw5584767547031074607:=()
def tw9209050205094350324:=()
def tw17998766201332438334:=()
def tw157222346080228483:=()
def tw17431712630444931142:=()
def tw17867295697771306646:=()
def tw6582188893433497409:=()
def tw6022924129945884463:=()
def tw18395045734100320493:=()
def tw17772583747023262586:=()
def tw2980597327373358517:=()
def tw3252696678351649542:=()
def tw9826804982700179555:=()
def tw2878251604322248829:=()
def tw15678696623742274858:=()
def tw7849239943708554185:=()
def tw3905311731050168651:=()
def tw9571805153513501281:=()
def tw9923999958806781906:=()
def tw17848562395173677251:=()
def tw17849932765992359809:=()
def tw15782503405583674995:=()
def tw7388412173203701515:=()
def tw13477775725791013081:=()
def tw7359073649628049024:=()
def tw10470831581312824169:=()
def tw1369621996614490384:=()
def tw6942539298553873005:=()
def tw9072396859815637473:=()
def tw15939466437350143226:=()
def tw18335175172216548991:=()
def tw173572597990081707:=()
def tw6622722824100160517:=()
def tw10997972881156910176:=()
def tw7881616443229432088:=()
def tw673141698009528257:=()
def tw2990466674869386828:=()
def tw4659946910047761216:=()
def tw15307896770570067628:=()
def tw4741871915957031790:=()
def tw1666316386728839219:=()
def tw10694008250158348660:=()
def tw9627253825575680362:=()
def tw3166696083460169320:=()
def tw12374242571529166601:=()
def tw10079667368864025414:=()
def tw1226770547899649901:=()
def tw3697135775916267402:=()
def tw1720782729648420509:=()
def tw4236383223744038470:=()
def tw3631702592147283976:=()
def tw12764492003890298880:=()
def tw12246195980721037239:=()
def tw15903585307555445446:=()
def tw2788782410798695516:=()
def tw4909123241272835204:=()
def tw1976178272949987334:=()
def tw3699258960590965435:=()
def tw2216817721260925475:=()
def tw10069887984845756016:=()
def tw11294619953802085217:=()
def tw15739671307316348445:=()
def tw10843246669988963845:=()
def tw12767281128076009871:=()
def tw2348836532568233528:=()
def tw2542076051984380918:=()
def tw11971867592798299325:=()
def tw18113647661954745840:=()
def tw16691815499253123629:=()
def tw14659798371849533150:=()
def tw14519673881811967705:=()
def tw16421926764625899993:=()
def tw15372891311526787797:=()
def tw5412998650177015094:=()
def tw9859933726177819761:=()
def tw7057367499123573060:=()
end PySem.W.Fast
open PySem PySem.W PyProof.Rows
set_option maxRecDepth 100000 in
set_option maxHeartbeats 0 in
theorem PySem.Challenge.cw_ownturn_k37_tables_of_three_ways_holds : PySem.Challenge.rw_ownturn_k37_tables_of_three_ways.Holds := by
 w_on; o_law; k_head; (case hw => w_witness2)
 k_fill
 refine Ot.walk (l := PySem.Challenge.rw_ownturn_k37_tables_of_three_ways) rfl rfl (fun w h Y => PySem.W.kIn_of Y) ?F
 case F =>
  intro w mg fa h KX G hmg
  refine' Ot.all_mk KX G hmg (L2.at_mk KX G ?a0 ?l0 ?c0 ?k0) (L2.blt_mk KX G ?z1 ?z2 ?z3 ?z4 ?z5 ?z6 ?z7 ?z8 ?z9 ?z10 ?z11 ?z12 ?z13 ?z14 ?z15 ?z16) (PySem.W.mg_none_of KX G ?zall) (PySem.W.mg_none_of KX G ?zdict) (L2.at_mk KX G ?a1 ?l1 ?c1 ?k1) (L2.at_mk KX G ?a2 ?l2 ?c2 ?k2) (L2.at_mk KX G ?a3 ?l3 ?c3 ?k3) (L2.at_mk KX G ?a4 ?l4 ?c4 ?k4) (L2.at_mk KX G ?a5 ?l5 ?c5 ?k5) (L2.at_mk KX G ?a6 ?l6 ?c6 ?k6) (L2.at_mk KX G ?a7 ?l7 ?c7 ?k7) (L2.at_mk KX G ?a8 ?l8 ?c8 ?k8) (L2.at_mk KX G ?a9 ?l9 ?c9 ?k9) (L2.at_mk KX G ?a10 ?l10 ?c10 ?k10) (L2.at_mk KX G ?a11 ?l11 ?c11 ?k11) (L2.at_mk KX G ?a12 ?l12 ?c12 ?k12)
  (case a0 => k_is); (case l0 => k_is); (case c0 => k_is); (case k0 => k_is)
  (case a1 => k_is); (case l1 => k_is); (case c1 => k_is); (case k1 => k_is)
  (case a2 => k_is); (case l2 => k_is); (case c2 => k_is); (case k2 => k_is)
  (case a3 => k_is); (case l3 => k_is); (case c3 => k_is); (case k3 => k_is)
  (case a4 => k_is); (case l4 => k_is); (case c4 => k_is); (case k4 => k_is)
  (case a5 => k_is); (case l5 => k_is); (case c5 => k_is); (case k5 => k_is)
  (case a6 => k_is); (case l6 => k_is); (case c6 => k_is); (case k6 => k_is)
  (case a7 => k_is); (case l7 => k_is); (case c7 => k_is); (case k7 => k_is)
  (case a8 => k_is); (case l8 => k_is); (case c8 => k_is); (case k8 => k_is)
  (case a9 => k_is); (case l9 => k_is); (case c9 => k_is); (case k9 => k_is)
  (case a10 => k_is); (case l10 => k_is); (case c10 => k_is); (case k10 => k_is)
  (case a11 => k_is); (case l11 => k_is); (case c11 => k_is); (case k11 => k_is)
  (case a12 => k_is); (case l12 => k_is); (case c12 => k_is); (case k12 => k_is)
  (case zall => k_is)
  (case zdict => k_is)
  (case z1 => k_is)
  (case z2 => k_is)
  (case z3 => k_is)
  (case z4 => k_is)
  (case z5 => k_is)
  (case z6 => k_is)
  (case z7 => k_is)
  (case z8 => k_is)
  (case z9 => k_is)
  (case z10 => k_is)
  (case z11 => k_is)
  (case z12 => k_is)
  (case z13 => k_is)
  (case z14 => k_is)
  (case z15 => k_is)
  (case z16 => k_is)
