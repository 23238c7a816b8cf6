import PyProof.Rows.All
import Wide.All
import OpenK.AllK
import Wide.FinOn
import Lean
import PyProof.EqAt
import PyProof.EqKinds
import PyProof.TupleCall
import Lean
import PyProof.ExcInit
import PyProof.ExcClass3
import PyProof.InstStoreFacts
import KE.KIsAll
import KE.KTryMore
import PyProof.ExcBaseAll.ValueError
import PyProof.ExcArgsOwn
import KE.RegKIsAll
import KE.RegKTryMore
import PyProof.RulesAs
import PyProof.WalksMore
import PyProof.TupleOfGen
import PyProof.DictUpdate
import PyProof.FactsAll.dict_3
import PyProof.FactsAll.dict_4
import PySem.Challenge.RW_ownturn_k13_whole_rooms_apart
local macro_rules | `(tactic| omega) => `(tactic| lia)
set_option compiler.extract_closed false
set_option Elab.async false
set_option linter.all false
set_option maxRecDepth 100000
open Array renaming length_toList->gm,getElem?_eq_some_iff->gG,mem_toList_iff->iK,append_assoc->lj,find?_toList->lr
open Bool renaming false_ne_true->bf,and_eq_true->dF,eq_iff_iff->fh,and_false->fJ,not_true->gU,not_false->iU,false_eq_true->lz
open Classical renaming choose_spec->iG,choose->mj
open Eq renaming refl->mG
open Except renaming ok->mw
open False renaming elim->bM
open ForInStep renaming yield->er
open Int renaming toNat_natCast->bz,fdiv_eq_ediv_of_nonneg->gz,fmod_eq_emod_of_nonneg->gA,mul_one->iJ
open Lean renaming mkIdent->iw
open Lean.Parser.Tactic renaming tacticSeq->gl
open List renaming getElem?_eq_getElem->am,length_map->aq,getD_eq_getElem?_getD->ay,mem_cons->aA,getElem?_eq_some_iff->aD,getElem?_map->aE,replicate->aF,size_toArray->aH,not_mem_nil->aK,mem_of_getElem?->aR,length_cons->aT,map_cons->aV,mem_cons_of_mem->aX,map_map->aY,getElem_mem->bq,mem_map->br,getElem?_of_mem->bA,map_append->bB,mem_cons_self->bD,length_append->bE,length_set->bN,append_nil->bQ,mem_append_right->bR,find?_cons->bV,range->bW,mem_or_eq_of_mem_set->bZ,nodup_cons->b7,length_take->b8,getElem?_set->cb,map->cf,mem_append->cq,lookup_cons->cu,getElem?_append_left->cv,length_replicate->cC,mem_singleton->cI,getElem?_append_right->cS,replicate_succ->cT,lookup->cU,getElem?_set_ne->dg,map_congr_left->du,length_drop->dE,flatten_cons->dR,all_cons->dX,all_eq_true->d7,mem_filterMap->ef,map_set->ej,any_cons->ez,mem_range->eF,take_length->eS,filterMap_cons->eX,getElem?_range->fb,length_nil->fj,count_cons->fm,getElem?_set_self->fz,length_range->fL,length_singleton->fN,length_filter_le->fO,ext_getElem->fR,cons_append->fU,mem_flatMap->fV,flatMap_def->fW,mem_append_left->f9,length->gg,of_mem_zip->gi,forIn_cons->gk,idxOf_lt_length_of_mem->gv,map_replicate->gH,take_add_one->gR,flatMap_cons->gT,getElem?_replicate->g0,length_eq_zero_iff->hV,map_nil->im,drop_of_length_le->iq,all_nil->iz,mem_filter->iA,getElem?_eq_none->iH,getElem_toArray->iT,nodup_nil->iX,flatMap_append->i7,Pairwise->lf,contains_cons->lA,count_pos_iff->lC,getElem_idxOf->lD,append_assoc->lK,all_map->lO,cons_eq_cons->lQ,pairwise_map->lR,nodup_append->lS,ext_getElem?->lU,getElem_inj->lV,nodup_range->mr,flatMap_nil->my,foldl->mJ
open List.cons renaming inj->fZ
open Nat renaming le_refl->aJ,le_trans->bb,lt_of_lt_of_le->bn,ne_of_lt->bp,le_of_ble_eq_true->bK,succ_le_succ->b9,zero_le->cK,lt_irrefl->cW,lt_of_le_of_lt->dG,lt_of_sub_eq_succ->dJ,ne_of_gt->dP,max_le->eN,succ_ne_self->hR,le_max_right->hW,min_self->io,le_max_left->iE,le_succ->iO,mul_le_mul_right->iV,le_of_lt->lE,le_of_eq->lG,lt_succ_of_lt->lM,lt_succ_self->lX,le_add_right->mh
open Option renaming map_eq_some_iff->dA,getD_none->me
open Option.some renaming inj->bP
open Or renaming inl->bh,inr->bj
open PyProof renaming noPylong_small->ia
open PyProof.Rows renaming Keyed->cn,callWith_type1->cO,slot_tuple_getitem->dZ,envOfC->eZ,AllBare->gu,assignInOrder_cons->gy
open PySem renaming Value->aj,wpAny_bind->ap,Addr->au,Shared->aw,wpAny_pure->aL,sizeLine->aM,model->aN,wpAny->aO,starEach->aQ,Program->aS,Around->aZ,wpAny_mono->ba,mainGlobals->bc,World->bo,bootBuiltins->bI,wpAny_field->bS,NameKind->bT,PyData->bX,backTo->ca,sizeLine_eq->cg,Stmt->cw,wpAny_loadPart'->cG,compareOp->cJ,wpAny_callSpecial?_slot->cL,wpAny_truthy_bool->cP,wpAny_newObj_type->cQ,FuncData->cV,wpAny_holding->cX,wpAny_standAt->cY,wpAny_loadPart_at->dk,sysModules->dq,keywordEach->dC,wpAny_setField->dH,wpAny_pyIter_tuple->dI,attributeBase->dS,mem_of_lookup->d3,wpAny_call_entry->d6,wpAny_seqItems->d8,excClassObj->d9,wpAny_Call_Name_kw->eg,ExcBaseFacts->ei,behindInMarks->et,wpAny_pyIter_enum->eE,bindArgs->eJ,codeAny_mono->eQ,Paired->eV,backToKw->fc,wpAny_execs_nil->ff,wpAny_passesOwn->fg,codeAny->fk,Spec->fq,assignEach->ft,sliceBounds->fv,rawInt->fA,foldedSetIterable->fB,recursionLimit->fG,IsPair->fK,plainObj_wpAny_Assign_Attribute->fM,wpAny_pyIter_zip->fQ,Comprehension->fY,binaryOp->gb,callWith->gc,cLine->gf,letOwnedTupleGo->gh,wpAny_isSubtype_exc->gq,Within->gr,wpAny_call->gB,wpAny_letOwnedTupleGo_enum->gD,wpAny_letOwnedTupleGo_zip->gI,hashStr->gL,getItem->gN,Keyword->gQ,wpAny_execs_cons->gW,wpAny_lookBehind->gY,pastItsLine_dict->gZ,noteFrame->hJ,setFlight->hX,standAt->h8,BindsTo->ib,seqIndex_neg->ic,wpAny_getItem_list_neg->ie,call_meets->ik,wpAny_noteFrame_againW->iu,pyNext->iI,wpAny_loadPart->iL,seqIndex_of->iP,subscripted->iQ,field->iS,tupleKind->iY,swapsWith->iZ,callerA->i3,valueAt->i4,assignInOrder->i8,rangeSize_one->i9,wpAny_attempt->lg,wpAny_onRaise->lh,assign->lp,wpAny_rule->lq,IsPart->lw,wpAny_nsSet1->lF,Code->lJ,relabel->lL,Result->lW,cellsFrom->ma,seqItems?->mf,raiseStmt->mq,Model->mz,CmpOp->mB,atKey->mC,getAttr->mE,OwnTail->mF,bindL->mH,bindC->mI,call->mK
open PySem.Builtin.List renaming listTooLong->dY
open PySem.Builtin.ObjectAttr renaming storeInDict->fT
open PySem.Builtin.Range renaming rangeSize->dj,small->e7
open PySem.Builtin.Slice renaming slicePlaces->dL,sliceAdjust->eU,sliceApplied->gC
open PySem.Builtin.SmallTypes renaming nextOf->bY,ownedTupleIsFree->cF,ownedTupleHandOut->e8
open PySem.Builtin.Tuple renaming tupleExact->dU,tupleHashOf->gJ
open PySem.Calls renaming evalArgs_plain->eL,Name_function_global->gx,callWith_builtin->ii
open PySem.Challenge renaming rw_ownturn_k13_whole_rooms_apart->dM
open PySem.Data renaming fields->dB,seq->eM,cell->fu
open PySem.F renaming excBase_ValueError->cm,plainAttrs_list->cM,slot_list_append->db,type_list_append->de,plainAttrs_dict->hU,slot_dict_get->iF
open PySem.Heap renaming get?_push_of_some->az,lt_size->aG,get?_push_size->aW,get?_update_self->bJ,SameBut->bU,size_push->dh,get?_update_other->dv,get?_none_of_le->eG,FlyingW->eT,MadeExcOf->gF,IsTuple->lN
open PySem.Obj renaming mapFields->bC,data_mapFields->ci,isFreed_of_fields->cD,mapSeq->ig
open PySem.PassesOwn renaming never->dO
open PySem.SeqAt renaming EqAt->bH,RcNeAt->eR,RcAt->fS
open PySem.Str renaming ofString->af
open PySem.W renaming Frag->ax,findIn->bt,mg_none_of->bw,nsIn->bF,fnOf->bO,kia_one->cr,emptyDict->cy,kia_tup->cH,keepIn->cR,isFn->cZ,hideAll_none->df,instObj->dr,hasDictIn->dQ,callWith_K->eh,Looks->eu,hasDictIn->eA,methodCall_KW->eB,findIn->eD,looks_findIn->eI,codeIn->eK,exmOne->eO,plainGet->eP,hideAll_get->eW,looks_clsIn->eY,lookIn->fC,specialIn->fD,kitx_list->fE,kitx_dict->fF,cellsFrom_some->fH,any_some->fP,mg_of->fX,plainGet_of->gn,of_hideAll->gw,Looks->gE,methodObj->gM,plainOver->gO,set_plain->gP,findObj->gS,handedIn->gX,funFrames_hide->ir,takerIn->iB,makesIn->iC,takesIn->iD,kitOne->iM,kitAny->iR,notCls->iW,takerIn->i5,findObj_own->i6,subIn->li,kitx_float->ls,kitx_tuple->lu,codeRec_of->lv,isNs_of_in->lB,kitx_none->lH,kitx_bool->lI,kitx_int->lY,kitx_str->lZ,mroIn->mD
open Sum renaming inr->bG,inl->hZ
namespace L2
open PySem PySem.Spec PyProof.Rows
abbrev Key:=Sum Int Str
noncomputable def Zg:Key->aj->Bool
 | .inl k,v=>aj.isInt k v
 | .inr x,v=>aj.isStrOf x v
noncomputable def Nk (w:bo):Key->Int
 | .inl k=>hashInt k
 | .inr x=>gL w x
theorem qu:∀ {k:Key} {v:aj},Zg k v=true->(∃ i t,k=hZ i/\v=aj.int i t) \/ (∃ x t,k=bG x/\v=aj.str x t)
 | .inl i,v,h=>by
  obtain ⟨t,e⟩:=aj.isInt_shape (k:=i) (v:=v) h
  exact .inl ⟨i,t,rfl,e⟩
 | .inr x,v,h=>by
  obtain ⟨t,e⟩:=aj.isStrOf_shape (x:=x) (v:=v) h
  exact .inr ⟨x,t,rfl,e⟩
theorem VF (i:Int)(t:Tok):Zg (.inl i) (.int i t)=true:=by simp [Zg,aj.isInt]
theorem VC (x:Str)(t:Tok):Zg (.inr x) (.str x t)=true:=by simp [Zg,aj.isStrOf]
theorem Ih (a b:Int):decide ((hZ a:Key)=hZ b)=(a == b):=by
 by_cases e:a=b
 ·subst e;simp
 ·have h:¬ (hZ a:Key)=hZ b:=fun q=>e (hZ.inj q)
  rw [decide_eq_false h]
  exact (beq_eq_false_iff_ne.mpr e).symm
theorem IY (a b:Str):decide ((bG a:Key)=bG b)=decide (a=b):=by
 by_cases e:a=b
 ·subst e;simp
 ·have h:¬ (bG a:Key)=bG b:=fun q=>e (bG.inj q)
  rw [decide_eq_false h,decide_eq_false e]
theorem Ly (a:Int)(b:Str):decide ((hZ a:Key)=bG b)=false:=decide_eq_false (fun q=>nomatch q)
theorem Lp (a:Str)(b:Int):decide ((bG a:Key)=hZ b)=false:=decide_eq_false (fun q=>nomatch q)
noncomputable def qk (prog:aS)(w:bo):PySem.KeyKind prog w Key where
 is:=Zg
 hash:=Nk w
 inj:=fun v a b ha hb=>by
  rcases qu ha with ⟨i,t,rfl,rfl⟩ | ⟨x,t,rfl,rfl⟩
  ·rcases qu hb with ⟨j,u,rfl,e⟩ | ⟨y,u,rfl,e⟩
   ·injection e with e1 _;rw [e1]
   ·exact nomatch e
  ·rcases qu hb with ⟨j,u,rfl,e⟩ | ⟨y,u,rfl,e⟩
   ·exact nomatch e
   ·injection e with e1 _;rw [e1]
 byValue:=fun k v h=>by
  rcases qu h with ⟨i,t,rfl,rfl⟩ | ⟨x,t,rfl,rfl⟩ <;> rfl
 pyHash:=fun hv h=>by
  rcases qu hv with ⟨i,t,rfl,rfl⟩ | ⟨x,t,rfl,rfl⟩
  ·exact wpAny_pyHash_int h
  ·exact wpAny_pyHash_str h
 eqBool:=fun hu hv h=>by
  rcases qu hu with ⟨i,t,rfl,rfl⟩ | ⟨x,t,rfl,rfl⟩
  ·rcases qu hv with ⟨j,u,rfl,rfl⟩ | ⟨y,u,rfl,rfl⟩
   ·rw [Ih] at h;exact wpAny_eqBool_int h
   ·rw [Ly] at h;exact bH.int_str i t y u _ _ _ _ h
  ·rcases qu hv with ⟨j,u,rfl,rfl⟩ | ⟨y,u,rfl,rfl⟩
   ·rw [Lp] at h;exact bH.str_int x t j u _ _ _ _ h
   ·rw [IY] at h;exact wpAny_eqBool_str h
 «strs»:=fun k x t v h=>by
  rcases qu h with ⟨i,u,rfl,e⟩ | ⟨y,u,rfl,e⟩
  ·exact nomatch e
  ·injection e with e1 _
   subst e1
   cases v <;> rfl
theorem QL (prog:aS)(w:bo)(i:Int)(t:Tok):(qk prog w).is (.inl i) (.int i t)=true:=VF i t
theorem JT (prog:aS)(w:bo)(x:Str)(t:Tok):(qk prog w).is (.inr x) (.str x t)=true:=VC x t
inductive V where
 | non | bl (b:Bool) | int (i:Int) | str (x:Str) | byt (b:Array UInt8) | flt (b:UInt64) | ref (a:au) | ty (n:String)
 deriving DecidableEq
noncomputable def zA:V->aj->Prop
 | .non,u=>u=aj.none
 | .bl b,u=>u=aj.bool b
 | .int i,u=>∃ t,u=aj.int i t
 | .str x,u=>∃ t,u=aj.str x t
 | .byt b,u=>∃ t,u=aj.bytes b t
 | .flt b,u=>∃ t,u=aj.float b t
 | .ref a,u=>u=aj.ref a
 | .ty n,u=>u=aj.type n
noncomputable abbrev zF:List V->List aj->Prop:=eV zA
variable {us:List aj}
theorem zF.length {xs:List V} (r:zF xs us):xs.length=us.length:=eV.length r
theorem zF.get:∀ {xs:List V} {us:List aj} {i:Nat} {x:V},zF xs us->xs[i]?=some x->∃ u,us[i]?=some u/\zA x u
 | _,_,_,_,.nil,e=>by simp at e
 | _,_,0,_,.cons r _,e=>by simp at e;subst e;exact ⟨_,rfl,r⟩
 | _,_,i+1,x,.cons _ t,e=>by
  obtain ⟨u,h1,h2⟩:=zF.get (i:=i) (x:=x) t (by simpa using e)
  exact ⟨u,by simpa using h1,h2⟩
theorem zF.set {x:V}{u:aj}(r:zA x u):∀ {xs:List V} {us:List aj} (i:Nat),zF xs us->zF (xs.set i x) (us.set i u)
 | _,_,_,.nil=>.nil
 | _,_,0,.cons _ t=>.cons r t
 | _,_,i+1,.cons q t=>.cons q (zF.set r i t)
theorem zF.append:∀ {xs ys:List V} {us ws:List aj},zF xs us->zF ys ws->zF (xs ++ ys) (us ++ ws)
 | _,_,_,_,.nil,s=>s
 | _,_,_,_,.cons r t,s=>.cons r (zF.append t s)
theorem zF.take:∀ {xs:List V} {us:List aj} (n:Nat),zF xs us->zF (xs.take n) (us.take n)
 | _,_,0,_=>.nil
 | _,_,_+1,.nil=>.nil
 | _,_,n+1,.cons r t=>.cons r (zF.take n t)
theorem zF.drop:∀ {xs:List V} {us:List aj} (n:Nat),zF xs us->zF (xs.drop n) (us.drop n)
 | _,_,0,r=>r
 | _,_,_+1,.nil=>.nil
 | _,_,n+1,.cons _ t=>zF.drop n t
noncomputable def kF:Option V->Option aj->Prop
 | some v,some u=>zA v u
 | none,none=>True
 | _,_=>False
noncomputable def KV {κ:Type}:List (κ × V)->List (κ × aj)->Prop:=eV fun (p:κ × V) (q:κ × aj)=>p.1=q.1/\zA p.2 q.2
noncomputable def kV:Key->V
 | .inl i=>.int i
 | .inr x=>.str x
inductive HO where
  | lst (xs:List V)
  | tup (xs:List V)
  | dK (kvs:List (Key × V)) | dT (kvs:List (List Key × V))
  | set (S:Int->Bool) (n:Nat)
  | ins (C dx:au) (fs:List (Str × V))
  | own (x:au)
  | xd (fs:List (Str × V))
  | met (f x:au)
  | rng (lo hi:Int)
  | frz (o:Obj) (u:HO)
  | tbl (ps:Array aj)
  | ext (φ:Heap->Prop)
abbrev Hp:=au->Option HO
noncomputable def upd (H:Hp)(a:au)(o:HO):Hp:=fun b=>if b=a then some o else H b
variable {H:Hp} {a:au} {o:HO}
theorem zm:upd H a o a=some o:=by unfold upd;rw [if_pos rfl]
variable {b:au}
theorem zk (h:b ≠ a):upd H a o b=H b:=by unfold upd;rw [if_neg h]
variable {u:HO}
theorem xN:upd (upd H a o) a u=upd H a u:=by
 funext b;unfold upd;split <;> rfl
theorem Ze (h:H a=some o)(h':H b=some u)(d:o ≠ u):a ≠ b:=by
 intro e;subst e;rw [h] at h';exact d (bP h')
theorem zo (h:H a=some o)(h':H b=none):a ≠ b:=by
 intro e;subst e;rw [h] at h';cases h'
def Qg (h:Heap)(a:au)(items:Array aj):Prop:=∃ o,h.get? a=some o/\o.cls=.type "tuple"/\(∃ n,o.data=.seq items n)/\o.dict=none
variable {items:Array aj}
theorem Qg.is {h:Heap} (x:Qg h a items):IsTup h a items:=let ⟨o,e,c,n,_⟩:=x;⟨o,e,c,n⟩
theorem Qg.lt {h:Heap} (x:Qg h a items):a<h.objs.size:=x.is.lt
theorem Qg.new (h:Heap)(items:Array aj):Qg (h.push { cls:=.type "tuple",data:=.seq items }) h.objs.size items:=⟨_,aW _ rfl,rfl,⟨_,rfl⟩,rfl⟩
section
variable (P:aS)(w:bo)
noncomputable def zQ (H:Hp)(h:Heap)(a:au):HO->Prop
  | .lst xs=>xs.length<=aM/\∃ (its:List aj) (n:Nat),zF xs its/\h.get? a=some { cls:=.type "list",data:=.seq its.toArray n }
  | .tup xs=>xs.length<=aM/\∃ its:List aj,zF xs its/\Qg h a its.toArray
  | .dK kvs=>kvs.length<=aM/\(a == dq)=false/\∃ vs,KV kvs vs/\h.DictOf (qk P w) a vs
  | .dT kvs => kvs.length <= aM /\ (a == dq) = false /\ ∃ xs : List (List Key × au × aj),
      eV (fun (p:List Key × V) (q:List Key × au × aj)=>p.1=q.1/\H q.2.1=some (.tup (p.1.map kV))/\zA p.2 q.2.2) kvs xs /\
      ∃ o es ep,h.get? a=some o/\o.ExactDict/\o.data=.dict es ep/\es.toList=xs.map (entryOfKey (iY (qk P w)))/\(xs.map (·.1)).Nodup
  | .set S n=>h.SetOf (intKind P w) a S n
  | .ins C dx fs => H dx = some (.own a) /\ fs.length <= 1000 /\ dx ≠ a /\ h.get? a = some (dr C dx) /\
      ∃ mA,h.Ns1 dx mA/\(∀ f,kF (fs.lookup f) (mA f))/\gr mA (fs.map (·.1))
  | .own _=>∃ o,h.get? a=some o
  | .xd fs=>∃ mA,h.Ns1 a mA/\∀ f,kF (fs.lookup f) (mA f)
  | .rng lo hi=>∃ t u v,h.get? a=some { cls:=.type "range",data:=.fields #[.int lo t,.int hi u,.int 1 v] }
  | .frz o u=>h.get? a=some o/\zQ H h a u
  | .tbl ps=>h.get? a=some { cls:=.none,data:=.fields ps }
  | .met f x=>h.get? a=some (gM (.ref f) (.ref x))
  | .ext φ=>φ h/\(∃ o,h.get? a=some o)/\∀ h1 h2:Heap,φ h1->(∀ o,h1.get? a=some o->h2.get? a=some o)->φ h2
def HOk (H:Hp)(h:Heap):Prop:=∀ a o,H a=some o->zQ P w H h a o
end
section
variable {P:aS}{w:bo}{H H':Hp}{h h':Heap}{a:au}{o:HO}
theorem zQ.lt (x:zQ P w H h a o):a<h.objs.size:=by
 cases o with
 | lst xs=>obtain ⟨_,_,_,_,e⟩:=x;exact aG e
 | tup xs=>obtain ⟨_,_,_,p⟩:=x;exact p.lt
 | dK kvs=>obtain ⟨_,_,_,_,o,_,_,e,_⟩:=x;exact aG e
 | dT kvs=>obtain ⟨_,_,_,_,o,_,_,e,_⟩:=x;exact aG e
 | set S n=>obtain ⟨o,_,_,_,e,_⟩:=x;exact aG e
 | ins C dx fs=>obtain ⟨_,_,_,e,_⟩:=x;exact aG e
 | own y=>obtain ⟨_,e⟩:=x;exact aG e
 | xd fs=>obtain ⟨_,⟨_,_,_,e,_⟩,_⟩:=x;exact aG e
 | rng lo hi=>obtain ⟨_,_,_,e⟩:=x;exact aG e
 | frz ob u=>obtain ⟨e,_⟩:=x;exact aG e
 | tbl ps=>exact aG (show h.get? a=some _ from x)
 | met f y=>exact aG (show h.get? a=some _ from x)
 | ext φ=>obtain ⟨_,⟨_,e⟩,_⟩:=x;exact aG e
theorem eV.mapP {α β:Type}{F G:α->β->Prop}:∀ {l₁:List α} {l₂:List β},eV F l₁ l₂->(∀ a b,F a b->G a b)->eV G l₁ l₂
 | _,_,.nil,_=>.nil
 | _,_,.cons r t,f=>.cons (f _ _ r) (eV.mapP t f)
theorem zQ.stay (x:zQ P w H h a o)(k:∀ b u,(b=a \/ H b=some (.own a))->h.get? b=some u->h'.get? b=some u)
  (ho:∀ b,H b=some (.own a)->H' b=some (.own a)) (ht:∀ b xs,H b=some (.tup xs)->H' b=some (.tup xs)):zQ P w H' h' a o:=by
 induction o with
 | lst xs=>obtain ⟨z,its,n,r,e⟩:=x;exact ⟨z,its,n,r,k _ _ (.inl rfl) e⟩
 | tup xs=>obtain ⟨z,its,r,ob,e,c⟩:=x;exact ⟨z,its,r,ob,k _ _ (.inl rfl) e,c⟩
 | dK kvs=>obtain ⟨z,y,vs,r,ob,es,ep,e,c⟩:=x;exact ⟨z,y,vs,r,ob,es,ep,k _ _ (.inl rfl) e,c⟩
 | dT kvs=>
  obtain ⟨z,y,xs,r,ob,es,ep,e,c⟩:=x
  exact ⟨z,y,xs,eV.mapP r fun p q z=>⟨z.1,ht _ _ z.2.1,z.2.2⟩,ob,es,ep,k _ _ (.inl rfl) e,c⟩
 | set S n=>obtain ⟨ob,es,ep,t,e,c⟩:=x;exact ⟨ob,es,ep,t,k _ _ (.inl rfl) e,c⟩
 | ins C dx fs=>
  obtain ⟨d,z,ne,e,mA,⟨od,es,ep,e2,c⟩,r⟩:=x
  exact ⟨ho _ d,z,ne,k _ _ (.inl rfl) e,mA,⟨od,es,ep,k _ _ (.inr d) e2,c⟩,r⟩
 | own y=>obtain ⟨ob,e⟩:=x;exact ⟨ob,k _ _ (.inl rfl) e⟩
 | xd fs=>obtain ⟨mA,⟨od,es,ep,e,c⟩,r⟩:=x;exact ⟨mA,⟨od,es,ep,k _ _ (.inl rfl) e,c⟩,r⟩
 | rng lo hi=>obtain ⟨t,u,v,e⟩:=x;exact ⟨t,u,v,k _ _ (.inl rfl) e⟩
 | frz ob u ih=>obtain ⟨e,q⟩:=x;exact ⟨k _ _ (.inl rfl) e,ih q⟩
 | tbl ps=>
  have e:h.get? a=some { cls:=.none,data:=.fields ps }:=x
  show h'.get? a=some { cls:=.none,data:=.fields ps }
  exact k a _ (.inl rfl) e
 | met f y=>
  have e:h.get? a=some (gM (.ref f) (.ref y)):=x
  show h'.get? a=some (gM (.ref f) (.ref y))
  exact k a _ (.inl rfl) e
 | ext φ=>obtain ⟨p,⟨o,e⟩,st⟩:=x;exact ⟨st _ _ p fun o q=>k _ _ (.inl rfl) q,⟨o,k _ _ (.inl rfl) e⟩,st⟩
theorem HOk.lt (x:HOk P w H h)(e:H a=some o):a<h.objs.size:=(x a o e).lt
theorem HOk.fresh (x:HOk P w H h)(e:h.objs.size<=a):H a=none:=by
 cases q:H a with
 | none=>rfl
 | some u=>exact absurd (bn (x.lt q) e) (cW _)
theorem HOk.kept (x:HOk P w H h)(k:∀ b u,h.get? b=some u->h'.get? b=some u):HOk P w H h':=fun a o e=>
 (x a o e).stay (fun b u _ q=>k b u q) (fun _ q=>q) fun _ _ q=>q
theorem HOk.laid (x:HOk P w H h)(k:∀ b u,h.get? b=some u->h'.get? b=some u)(hp:h.objs.size<=a)(new:zQ P w (upd H a o) h' a o):HOk P w (upd H a o) h':=fun b u e=>by
 have hn:=x.fresh hp
 by_cases hb:b=a
 ·subst hb;rw [zm] at e;cases e;exact new
 ·rw [zk hb] at e
  exact (x b u e).stay (fun c v _ q=>k c v q) (fun c q=>by rw [zk (zo q hn)];exact q) fun c xs q=>by rw [zk (zo q hn)];exact q
end
def Rd (H:Hp)(a:au)(u:HO):Prop:=H a=some u \/ ∃ o,H a=some (.frz o u)
variable {P:aS} {w:bo}
theorem Rd.ok {h:Heap} (r:Rd H a u)(x:HOk P w H h):zQ P w H h a u:=by
 rcases r with r | ⟨o,r⟩
 ·exact x a u r
 ·obtain ⟨_,q⟩:=x a _ r
  exact q
noncomputable def Mut:Option HO->Prop
 | some (.lst _)=>True
 | some (.dK _)=>True
 | some (.dT _)=>True
 | some (.set _ _)=>True
 | some (.ins _ _ _)=>True
 | some (.ext _)=>True
 | _=>False
section
variable {P:aS}{w:bo}{H:Hp}{h h':Heap}{x e:au}{o':HO}
theorem HOk.write (ok : HOk P w H h)(mu : Mut (H x))(he : e = x \/ H e = some (.own x))(k : ∀ b u, b ≠ e -> h.get? b = some u -> h'.get? b = some u)(heo : ∃ u, h'.get? e = some u)
    (new:zQ P w (upd H x o') h' x o'):HOk P w (upd H x o') h':=fun b u q=>by
  have nown:∀ c y,H c=some (.own y)->c ≠ x:=fun c y r z=>by subst z;rw [r] at mu;exact mu
  have ntup:∀ c xs,H c=some (.tup xs)->c ≠ x:=fun c xs r z=>by subst z;rw [r] at mu;exact mu
  by_cases hb:b=x
  · subst hb;rw [zm] at q;cases q;exact new
  · rw [zk hb] at q
    by_cases hbe:b=e
    · have q' : H b = some (.own x) := by
        rcases he with z | z
        · exact absurd (hbe.trans z) hb
        · rw [hbe];exact z
      rw [q] at q';cases q'
      obtain ⟨v,hv⟩:=heo
      exact ⟨v,by rw [hbe];exact hv⟩
    · refine (ok b u q).stay (fun c v hc r=>k c v ?_ r) (fun c r=>by rw [zk (nown c b r)];exact r) fun c xs r=>by rw [zk (ntup c xs r)];exact r
      rcases hc with rfl | hc
      · exact hbe
      · rintro rfl
        rcases he with z | z
        · exact nown c b hc z
        · rw [hc] at z;cases z;exact hb rfl
end
structure Un (fs ex:List au)(H H':Hp)(h h':Heap):Prop where
 keep:∀ b o,h.get? b=some o->H b=none->b ∉ fs->b ∉ ex->h'.get? b=some o
 slot:∀ b o,h.get? b=some o->H b=none->b ∈ fs->b ∉ ex->∃ sl,h'.get? b=some { o with slots:=sl }
 free:∀ b o,h.get? b=some o->H b=none->b ∉ ex->H' b=none
 there:∀ b o,h.get? b=some o->b ∉ ex->∃ o',h'.get? b=some o'
 tups:∀ b xs,H b=some (.tup xs)->H' b=some (.tup xs)
 frzs:∀ b o u,H b=some (.frz o u)->H' b=some (.frz o u)
 tbls:∀ b ps,H b=some (.tbl ps)->∃ more,H' b=some (.tbl (ps ++ more))
section
variable {fs fs' ex ex':List au}{H H1 H2:Hp}{h h1 h2 h':Heap}{a x e:au}{o:HO}
theorem Un.any (u:Un fs ex H H1 h h1) {ob:Obj}(q:h.get? b=some ob)(n:H b=none)(hx:b ∉ ex):∃ sl,h1.get? b=some { ob with slots:=sl }:=by
 by_cases hb:b ∈ fs
 ·exact u.slot b ob q n hb hx
 ·exact ⟨ob.slots,u.keep b ob q n hb hx⟩
theorem Un.kept (k:∀ b u,h.get? b=some u->h'.get? b=some u):Un fs ex H H h h':=
 ⟨fun b ob q _ _ _=>k b ob q,fun b ob q _ _ _=>⟨ob.slots,k b ob q⟩,fun _ _ _ n _=>n,fun b ob q _=>⟨ob,k b ob q⟩,fun _ _ q=>q,fun _ _ _ q=>q,fun _ ps q=>⟨#[],by rw [q];simp⟩⟩
theorem Un.refl:Un fs ex H H h h:=Un.kept fun _ _ q=>q
theorem Un.laid (k:∀ b u,h.get? b=some u->h'.get? b=some u)(hp:h.objs.size<=a)(hn:H a=none):Un fs ex H (upd H a o) h h' where
 keep:=fun b u q _ _ _=>k b u q
 slot:=fun b u q _ _ _=>⟨u.slots,k b u q⟩
 free:=fun b u q n _=>by rw [zk (bp (bn (aG q) hp))];exact n
 there:=fun b u q _=>⟨u,k b u q⟩
 tups:=fun b xs q=>by rw [zk (zo q hn)];exact q
 frzs:=fun b u xs q=>by rw [zk (zo q hn)];exact q
 tbls:=fun b ps q=>⟨#[],by rw [zk (zo q hn),q];simp⟩
theorem Un.write (mu:Mut (H x))(he:e=x \/ H e=some (.own x))(k:∀ b u,b ≠ e->h.get? b=some u->h'.get? b=some u)(heo:∃ u,h'.get? e=some u):Un fs ex H (upd H x o) h h':=by
 have hx:∀ b,H b=none->b ≠ x:=fun b n z=>by subst z;rw [n] at mu;exact mu
 have hb:∀ b,H b=none->b ≠ e:=fun b n z=>by
  subst z
  rcases he with r | r
  ·exact hx b n r
  ·rw [n] at r;cases r
 have hm:∀ b u,H b=some u->¬ Mut (some u)->b ≠ x:=fun b u q nm z=>by subst z;rw [q] at mu;exact nm mu
 refine ⟨fun b u q n _ _=>k b u (hb b n) q,fun b u q n _ _=>⟨u.slots,k b u (hb b n) q⟩,fun b u q n _=>by rw [zk (hx b n)];exact n,fun b u q _=>?_,
  fun b xs q=>by rw [zk (hm b _ q fun z=>z)];exact q,fun b u xs q=>by rw [zk (hm b _ q fun z=>z)];exact q,fun b ps q=>⟨#[],by rw [zk (hm b _ q fun z=>z),q];simp⟩⟩
 by_cases hbe:b=e
 ·subst hbe;exact heo
 ·exact ⟨u,k b u hbe q⟩
end
noncomputable def trk (h:Heap)(H:Hp):List au:=(bW h.objs.size).filter fun a=>(H a).isSome
noncomputable def QG (h:Heap)(H:Hp):Heap:=PySem.W.hideAll h (trk h H)
theorem VG (h:Heap)(H:Hp):(QG h H).objs.size=h.objs.size:=PySem.W.hideAll_size _ _
theorem Wb {h:Heap} {o:Obj}(e:h.get? b=some o)(n:H b=none):(QG h H).get? b=some o:=
 eW _ e fun hm=>by
  have q:(H b).isSome=true:=(iA.mp hm).2
  rw [n] at q;simp at q
theorem Et {h:Heap}{H:Hp}{b:au}{o:Obj}(e:(QG h H).get? b=some o):h.get? b=some o/\H b=none:=by
 have e':h.get? b=some o:=gw (trk h H) e
 refine ⟨e',?_⟩
 cases q:H b with
 | none=>rfl
 | some x=>
  have hm:b ∈ trk h H:=iA.mpr ⟨eF.mpr (aG e'),by simp [q]⟩
  have z:(QG h H).get? b=none:=df (trk h H) hm
  rw [z] at e;cases e
noncomputable def FD (g h:Heap)(L:au):List (au × Obj):=(bW h.objs.size).filterMap fun a=>if a=L \/ (g.get? a).isSome=true then none else (h.get? a).map fun o=>(a,o)
noncomputable def qM (g h:Heap)(L d:au):List (au × Obj):=(FD g h L).filter fun p=>decide (p.1 ≠ d)
structure Mod (K:ax)(mg:Str->Option aj)(base:Heap):Prop where
 kin:K.In base
 glob:base.Ns bc mg
 blt:∃ mb,base.Ns builtinsNs mb/\∀ x:Str,x ≠ "__name__"->mb x=bI x
 nolimit:base.NoLimit
structure Cx where
 prog:aS
 w:bo
 K:ax
 mg:Str->Option aj
 base:Heap
 A:aZ
 N:List Str
 s₀:aw
 H₀:Hp
 env:Env
 outer:List Env
 stack:List Env
 ex:List au
 fn:Str->Bool
 calm:Bool
 pn:List (au × Obj)
 xe:aj->aw->Prop
noncomputable def frs (l:List Env):List au:=l.filterMap (·.frame)
noncomputable abbrev Cx.fs (X:Cx):List au:=frs X.outer
def Vis (sc:Scope)(x:Str):Prop:=sc.names.lookup x=some .local \/ sc.names.lookup x=some .cell \/ sc.names.lookup x=some .free
def Loc (sc:Scope)(x:Str):Prop:=sc.names.lookup x=some .local \/ sc.names.lookup x=some .cell
def MS (env:Env)(h:Heap)(m:Str->Option aj)(x:Str)(u:aj):Prop:=
 (env.kindOf x=some .local/\m x=some u) \/ ((env.kindOf x=some .cell \/ env.kindOf x=some .free)/\∃ c,env.cells.lookup x=some c/\h.IsCell c (some u))
structure Cx.Ok (X:Cx):Prop where
 mod:Mod X.K X.mg X.base
 kind:X.env.scope.kind=.function
 glob:X.env.globals=bc
 blt:X.env.builtins=builtinsNs
 above:X.s₀.heap.objs.size<=X.env.locals
 inj:∀ x y c,X.env.cells.lookup x=some c->X.env.cells.lookup y=some c->x=y
 has:∀ x,(X.env.kindOf x=some .cell \/ X.env.kindOf x=some .free)->∃ c,X.env.cells.lookup x=some c
 cab:∀ x c,X.fn x=true->X.env.cells.lookup x=some c->X.s₀.heap.objs.size<=c
 hd:X.calm=true->X.A.handled=none
 frames:X.A.frames=some X.stack
 stk:X.stack=X.outer \/ (X.stack=X.env :: X.outer/\X.env.frame=some X.env.locals)
 exf:∀ b ∈ X.ex,b ≠ X.env.locals/\∀ x c,X.env.cells.lookup x=some c->c ≠ b
 bs:∀ b o,X.base.get? b=some o->X.s₀.heap.get? b=some o/\X.H₀ b=none
 bsz:X.base.objs.size<=X.s₀.heap.objs.size
 noex:∀ b o,X.base.get? b=some o->b ∉ X.ex
 exfs:∀ b ∈ X.ex,b ∉ X.fs
 funs:X.s₀.heap.FunFrames X.base X.outer
 frf:∀ b ∈ X.fs,X.H₀ b=none
structure Inv (X:Cx)(pins:List (au × Obj))(σ:List (Option V))(H:Hp)(s:aw):Prop where
 ok:X.Ok
 os:s.os=X.s₀.os
 bare:gu s.gens
 base:Un X.fs X.ex X.H₀ H X.s₀.heap s.heap
 loc:∃ m,s.heap.Ns X.env.locals m/\∀ (i:Nat) (x:Str) (v:V),X.N[i]?=some x->σ[i]?=some (some v)->Vis X.env.scope x->∃ u,zA v u/\MS X.env s.heap m x u
 cell:∀ x c,X.env.cells.lookup x=some c->∃ v,s.heap.IsCell c v
 free:H X.env.locals=none
 freeC:∀ x c,X.env.cells.lookup x=some c->H c=none
 pin:∀ p ∈ X.pn ++ pins,s.heap.get? p.1=some p.2/\H p.1=none/\p.1 ≠ X.env.locals/\p.1 ∉ X.fs/\∀ v,p.2.data ≠ .cell v
 hok:HOk X.prog X.w H s.heap
 len:σ.length=X.N.length
section
variable {X:Cx}{pins:List (au × Obj)}{σ:List (Option V)}{H H':Hp}{s:aw}{h':Heap}
theorem Cx.Ok.nofr (ok:X.Ok) {o:Obj}(e:X.base.get? b=some o):b ∉ X.fs:=fun hb=>by
 have:=(ok.funs.mem hb).1
 rw [e] at this;cases this
theorem Inv.bs (I:Inv X pins σ H s):∀ b o,X.base.get? b=some o->s.heap.get? b=some o/\H b=none:=fun b o e=>
 ⟨I.base.keep b o (I.ok.bs b o e).1 (I.ok.bs b o e).2 (I.ok.nofr e) (I.ok.noex b o e),I.base.free b o (I.ok.bs b o e).1 (I.ok.bs b o e).2 (I.ok.noex b o e)⟩
theorem Inv.bk (I:Inv X pins σ H s):∀ b o,X.base.get? b=some o->s.heap.get? b=some o:=fun b o e=>(I.bs b o e).1
theorem Inv.mod (I:Inv X pins σ H s):Mod X.K X.mg X.base:=I.ok.mod
theorem Inv.kIn (I:Inv X pins σ H s):X.K.In s.heap:=I.ok.mod.kin.keeps I.bk
theorem Inv.lt (I:Inv X pins σ H s):X.env.locals<s.heap.objs.size:=let ⟨_,hn,_⟩:=I.loc;hn.lt
theorem Inv.sz (I:Inv X pins σ H s):X.s₀.heap.objs.size<=s.heap.objs.size:=bb I.ok.above (lE I.lt)
theorem Inv.nofs (I:Inv X pins σ H s) (h:s.heap.objs.size<=a):a ∉ X.fs:=fun hb=>by
 obtain ⟨_,o,ho,_⟩:=I.ok.funs.mem hb
 exact absurd (bn (aG ho) (bb I.sz h)) (cW _)
theorem Inv.cne (I:Inv X pins σ H s):∀ x c,X.env.cells.lookup x=some c->c ≠ X.env.locals:=fun x c e z=>by
 obtain ⟨v,o,ho,hd⟩:=I.cell x c e
 obtain ⟨m,⟨o',es,ep,ho',hd',_⟩,_⟩:=I.loc
 rw [z,ho'] at ho;cases ho;rw [hd'] at hd;cases hd
theorem Inv.funs (I:Inv X pins σ H s):s.heap.FunFrames X.base X.outer:=by
 have all:∀ (l:List Env),(∀ b ∈ frs l,b ∈ X.fs)->X.s₀.heap.FunFrames X.base l->s.heap.FunFrames X.base l:=by
  intro l
  induction l with
  | nil=>intro _ _;trivial
  | cons env r ih=>
   intro hs hl
   obtain ⟨hk,⟨L,o,hf,hn,ho,hd⟩,hr⟩:=hl
   have hL:L ∈ X.fs:=hs L (by unfold frs;rw [eX,hf];exact bD)
   obtain ⟨sl,e⟩:=I.base.slot L o ho (I.ok.frf L hL) hL fun z=>I.ok.exfs L z hL
   exact ⟨hk,⟨L,_,hf,hn,e,hd⟩,ih (fun b hb=>hs b (by unfold frs;rw [eX,hf];exact aX _ hb)) hr⟩
 exact all X.outer (fun _ hb=>hb) I.ok.funs
theorem Inv.stack (I:Inv X pins σ H s):s.heap.FunFrames X.base X.stack:=by
 rcases I.ok.stk with e | ⟨e,hf⟩
 ·rw [e];exact I.funs
 ·rw [e]
  obtain ⟨m,hn,_⟩:=I.loc
  refine .cons (by rw [I.ok.kind];decide) hf hn ?_ I.funs
  exact eG (bb I.ok.bsz I.ok.above)
theorem Inv.stkSub (I:Inv X pins σ H s):∀ b ∈ frs X.stack,b ∈ X.env.locals :: X.fs:=fun b hb=>by
 rcases I.ok.stk with e | ⟨e,hf⟩
 ·rw [e] at hb;exact aX _ hb
 ·rw [e] at hb
  unfold frs at hb
  rw [eX,hf] at hb
  exact hb
theorem Inv.stkFree (I:Inv X pins σ H s):∀ b ∈ frs X.stack,H b=none:=fun b hb=>by
 rcases aA.mp (I.stkSub b hb) with e | hb
 ·rw [e];exact I.free
 ·obtain ⟨_,o,ho,_⟩:=I.ok.funs.mem hb
  exact I.base.free b o ho (I.ok.frf b hb) fun z=>I.ok.exfs b z hb
variable {g':Array GenState} {t':Nat} {d':Drawn} {ch:List au}
theorem Inv.step (I:Inv X pins σ H s)
  (hch:∀ b ∈ ch,(b ∈ X.ex \/ X.s₀.heap.objs.size<=b)/\b ≠ X.env.locals/\(∀ x c,X.env.cells.lookup x=some c->c ≠ b)/\∀ p ∈ X.pn ++ pins,p.1 ≠ b)
  (keep:∀ b o,b ≠ X.env.locals->b ∉ X.fs->b ∉ ch->s.heap.get? b=some o->H b=none->h'.get? b=some o)
  (slot:∀ b o,b ≠ X.env.locals->b ∈ X.fs->b ∉ ch->s.heap.get? b=some o->H b=none->∃ sl,h'.get? b=some { o with slots:=sl }) (free:∀ b o,b ∉ ch->s.heap.get? b=some o->H b=none->H' b=none)
  (there:∀ b o,b ∉ ch->s.heap.get? b=some o->∃ o',h'.get? b=some o')
  (tups:∀ b xs,H b=some (.tup xs)->H' b=some (.tup xs)) (frzs:∀ b o u,H b=some (.frz o u)->H' b=some (.frz o u)) (tbls:∀ b ps,H b=some (.tbl ps)->∃ more,H' b=some (.tbl (ps ++ more)))
  (ns:∀ m,s.heap.Ns X.env.locals m->h'.Ns X.env.locals m) (hok:HOk X.prog X.w H' h') (hg:gu g') :
  Inv X pins σ H' { s with heap:=h',gens:=g',drawn:=d',toks:=t' }:=by
 have neL:∀ b o,X.s₀.heap.get? b=some o->b ≠ X.env.locals:=fun b o e=>bp (bn (aG e) I.ok.above)
 have neC:∀ b o,X.s₀.heap.get? b=some o->b ∉ X.ex->b ∉ ch:=fun b o e hx hb=>by
  rcases (hch b hb).1 with z | z
  ·exact hx z
  ·exact absurd (bn (aG e) z) (cW _)
 have cellK:∀ x c,X.env.cells.lookup x=some c->∀ v,s.heap.IsCell c v->h'.IsCell c v:=fun x c e v ⟨o,ho,hd⟩=>by
  have nch:c ∉ ch:=fun z=>(hch c z).2.2.1 x c e rfl
  by_cases hc:c ∈ X.fs
  ·obtain ⟨sl,q⟩:=slot c o (I.cne x c e) hc nch ho (I.freeC x c e)
   exact ⟨_,q,hd⟩
  ·exact ⟨o,keep c o (I.cne x c e) hc nch ho (I.freeC x c e),hd⟩
 refine ⟨I.ok,I.os,hg,⟨fun b o e n hb hx=>?_,fun b o e n hb hx=>?_,fun b o e n hx=>?_,fun b o e hx=>?_,fun b xs e=>tups b xs (I.base.tups b xs e),fun b o xs e=>frzs b o xs (I.base.frzs b o xs e),fun b ps e=>?_⟩,?_,fun x c e=>?_,?_,fun x c e=>?_,fun p hp=>?_,hok,I.len⟩
 ·exact keep b o (neL b o e) hb (neC b o e hx) (I.base.keep b o e n hb hx) (I.base.free b o e n hx)
 ·obtain ⟨sl,e1⟩:=I.base.slot b o e n hb hx
  obtain ⟨sl',e2⟩:=slot b _ (neL b o e) hb (neC b o e hx) e1 (I.base.free b o e n hx)
  exact ⟨sl',e2⟩
 ·obtain ⟨o',e1⟩:=I.base.there b o e hx
  exact free b o' (neC b o e hx) e1 (I.base.free b o e n hx)
 ·obtain ⟨o',e1⟩:=I.base.there b o e hx
  exact there b o' (neC b o e hx) e1
 ·obtain ⟨m1,e1⟩:=I.base.tbls b ps e
  obtain ⟨m2,e2⟩:=tbls b _ e1
  exact ⟨m1 ++ m2,by rw [e2,lj]⟩
 ·obtain ⟨m,hn,hl⟩:=I.loc
  refine ⟨m,ns m hn,fun i x v e1 e2 e3=>?_⟩
  obtain ⟨u,r,l⟩:=hl i x v e1 e2 e3
  refine ⟨u,r,?_⟩
  rcases l with l | ⟨k,c,e,z⟩
  ·exact .inl l
  ·exact .inr ⟨k,c,e,cellK x c e _ z⟩
 ·obtain ⟨v,z⟩:=I.cell x c e
  exact ⟨v,cellK x c e v z⟩
 ·obtain ⟨m,⟨o,_,_,ho,_⟩,_⟩:=I.loc
  exact free _ o (fun z=>(hch _ z).2.1 rfl) ho I.free
 ·obtain ⟨v,o,ho,hd⟩:=I.cell x c e
  exact free c o (fun z=>(hch c z).2.2.1 x c e rfl) ho (I.freeC x c e)
 ·obtain ⟨e,n,ne,nf,d⟩:=I.pin p hp
  have nch:p.1 ∉ ch:=fun z=>(hch p.1 z).2.2.2 p hp rfl
  exact ⟨keep p.1 p.2 ne nf nch e n,free p.1 p.2 nch e n,ne,nf,d⟩
theorem Inv.un (I:Inv X pins σ H s)(u:Un X.fs [] H H' s.heap h')(hok:HOk X.prog X.w H' h'):Inv X pins σ H' { s with heap:=h',toks:=t' }:=by
 obtain ⟨m,⟨o,es,ep,ho,r⟩,_⟩:=id I.loc
 obtain ⟨sl,hL⟩:=u.any ho I.free (by simp)
 exact I.step (g':=s.gens) (d':=s.drawn) (ch:=[]) (fun _ z=>nomatch z) (fun b o _ hb _ e n=>u.keep b o e n hb (by simp)) (fun b o _ hb _ e n=>u.slot b o e n hb (by simp)) (fun b o _ e n=>u.free b o e n (by simp)) (fun b o _ e=>u.there b o e (by simp)) u.tups u.frzs u.tbls (fun m' hm=>by
  obtain ⟨o',es',ep',ho',r'⟩:=hm
  rw [ho] at ho';cases ho'
  exact ⟨_,es',ep',hL,r'⟩) hok I.bare
theorem Inv.call (I:Inv X pins σ H s)(u:Un (frs X.stack) ch H H' s.heap h')(hok:HOk X.prog X.w H' h')(hg:gu g')
  (hch:∀ b ∈ ch,(b ∈ X.ex \/ X.s₀.heap.objs.size<=b)/\b ≠ X.env.locals/\(∀ x c,X.env.cells.lookup x=some c->c ≠ b)/\∀ p ∈ X.pn ++ pins,p.1 ≠ b) :
  Inv X pins σ H' { s with heap:=h',gens:=g',drawn:=d',toks:=t' }:=by
 obtain ⟨m,⟨o,es,ep,ho,r⟩,_⟩:=id I.loc
 obtain ⟨sl,hL⟩:=u.any ho I.free fun z=>(hch _ z).2.1 rfl
 exact I.step (ch:=ch) hch (fun b o hL hb hc e n=>u.keep b o e n (fun z=>(aA.mp (I.stkSub b z)).elim hL hb) hc) (fun b o _ _ hc e n=>u.any e n hc) (fun b o hc e n=>u.free b o e n hc) (fun b o hc e=>u.there b o e hc) u.tups u.frzs u.tbls (fun m' hm=>by
  obtain ⟨o',es',ep',ho',r'⟩:=hm
  rw [ho] at ho';cases ho'
  exact ⟨_,es',ep',hL,r'⟩) hok hg
theorem Inv.turned {it:au}(I:Inv X pins σ H s)(k:∀ b o,b ≠ it->s.heap.get? b=some o->h'.get? b=some o)(hn:H it=none)(hL:it ≠ X.env.locals)
  (h1:it ∈ X.ex \/ X.s₀.heap.objs.size<=it) (h2:∀ x c,X.env.cells.lookup x=some c->c ≠ it) (h3:∀ p ∈ X.pn ++ pins,p.1 ≠ it):Inv X pins σ H { s with heap:=h',toks:=t' }:=by
 have nit:∀ b u,H b=some u->b ≠ it:=fun b u e z=>by rw [z,hn] at e;cases e
 refine I.step (g':=s.gens) (d':=s.drawn) (ch:=[it]) (fun b hb=>?_) (fun b o _ _ hc e _=>k b o (fun z=>hc (by simp [z])) e) (fun b o _ _ hc e _=>⟨o.slots,k b o (fun z=>hc (by simp [z])) e⟩) (fun _ _ _ _ n=>n)
  (fun b o hc e=>⟨o,k b o (fun z=>hc (by simp [z])) e⟩) (fun _ _ e=>e) (fun _ _ _ e=>e) (fun b ps e=>⟨#[],by rw [e];simp⟩) (fun m hm=>?_) (fun b u e=>?_) I.bare
 ·have e:b=it:=by simpa using hb
  subst e
  exact ⟨h1,hL,h2,h3⟩
 ·obtain ⟨o,es,ep,ho,r⟩:=hm
  exact ⟨o,es,ep,k _ o (Ne.symm hL) ho,r⟩
 ·refine (I.hok b u e).stay (fun c v hc q=>k c v ?_ q) (fun _ q=>q) fun _ _ q=>q
  rcases hc with z | z
  ·rw [z];exact nit b u e
  ·exact nit c _ z
theorem Inv.tok (I:Inv X pins σ H s)(t:Nat):Inv X pins σ H { s with toks:=t }:=I.un (h':=s.heap) (t':=t) Un.refl I.hok
theorem Inv.kept (I:Inv X pins σ H s)(k:∀ b u,s.heap.get? b=some u->h'.get? b=some u):Inv X pins σ H { s with heap:=h',toks:=t' }:=I.un (Un.kept k) (I.hok.kept k)
theorem Inv.laid (I:Inv X pins σ H s)(k:∀ b u,s.heap.get? b=some u->h'.get? b=some u)(hp:s.heap.objs.size<=a)(new:zQ X.prog X.w (upd H a o) h' a o) :
  Inv X pins σ (upd H a o) { s with heap:=h',toks:=t' }:=I.un (Un.laid k hp (I.hok.fresh hp)) (I.hok.laid k hp new)
theorem Inv.write {x e:au} (I:Inv X pins σ H s)(mu:Mut (H x))(he:e=x \/ H e=some (.own x))(k:∀ b u,b ≠ e->s.heap.get? b=some u->h'.get? b=some u)(heo:∃ u,h'.get? e=some u)
  (new:zQ X.prog X.w (upd H x o) h' x o):Inv X pins σ (upd H x o) { s with heap:=h',toks:=t' }:=I.un (Un.write mu he k heo) (I.hok.write mu he k heo new)
theorem Inv.pins_of {pins':List (au × Obj)}(I:Inv X pins σ H s)(h:∀ p ∈ pins',s.heap.get? p.1=some p.2/\H p.1=none/\p.1 ≠ X.env.locals/\p.1 ∉ X.fs/\∀ v,p.2.data ≠ .cell v):Inv X pins' σ H s:=
 ⟨I.ok,I.os,I.bare,I.base,I.loc,I.cell,I.free,I.freeC,fun p hp=>(cq.mp hp).elim (fun z=>I.pin p (f9 _ z)) (h p),I.hok,I.len⟩
theorem JM {N:List Str}(hN:N.Nodup){i j:Nat}{x:Str}(a:N[i]?=some x)(b:N[j]?=some x):i=j:=by
 obtain ⟨h1,e1⟩:=aD.mp a
 obtain ⟨h2,e2⟩:=aD.mp b
 exact (lV hN).mp (e1.trans e2.symm)
theorem Zd {M : mz}{A : aZ}{E : aj -> aw -> Prop}{i : Nat}{x : Str}{v : V}{u : aj}{Q : Unit -> aw -> Prop}(I : Inv X pins σ H s)(hN : X.N.Nodup)(hi : X.N[i]? = some x)(hx : Loc X.env.scope x)(r : zA v u)
    (h:∀ s',Inv X pins (σ.set i (some v)) H s'->(∃ a,bU a s.heap s'.heap/\(a=X.env.locals \/ X.env.cells.lookup x=some a))->Q () s') (hf:X.fn x=true \/ X.env.scope.names.lookup x=some .local:=by first | exact .inl rfl | exact .inr rfl | assumption):aO M A (storeName X.env x u) Q E s:=by
  obtain ⟨m,hn,hl⟩:=id I.loc
  have hcls:(X.env.scope.kind == .class || (X.env.scope.kind == .module && X.env.locals != X.env.globals))=false:=by rw [I.ok.kind];rfl
  have hiσ:i<σ.length:=by rw [I.len];exact (aD.mp hi).1
  have cne:=I.cne
  have tracked:∀ {a:au} {h':Heap},(∃ o,s.heap.get? a=some o/\H a=none)->bU a s.heap h'->HOk X.prog X.w H h':=fun {a h'} ha hs b ob e=>by
    obtain ⟨_,_,hfree⟩:=ha
    refine (I.hok b ob e).stay (fun c w' hc q=>(hs.2 c ?_).trans q) (fun _ q=>q) fun _ _ q=>q
    rintro rfl
    rcases hc with rfl | hc
    · rw [hfree] at e;cases e
    · rw [hfree] at hc;cases hc
  rcases hx with hk | hk
  · refine wpAny_storeName_local hk hn (fun h' hn' hs=>?_) hcls
    obtain ⟨oL,_,_,hoL,_⟩:=id hn
    refine h _ ⟨I.ok,I.os,I.bare,⟨fun b o e n hb hx=>?_,fun b o e n hb hx=>?_,I.base.free,fun b o e hx=>?_,I.base.tups,I.base.frzs,I.base.tbls⟩,⟨_,hn',fun j y v' e1 e2 e3=>?_⟩,fun y c e=>?_,I.free,I.freeC,fun p hp=>?_,tracked ⟨oL,hoL,I.free⟩ hs,by simpa using I.len⟩ ⟨_,hs,.inl rfl⟩
    · exact (hs.2 b (bp (bn (aG e) I.ok.above))).trans (I.base.keep b o e n hb hx)
    · obtain ⟨sl,e1⟩:=I.base.slot b o e n hb hx
      exact ⟨sl,(hs.2 b (bp (bn (aG e) I.ok.above))).trans e1⟩
    · obtain ⟨o',e1⟩:=I.base.there b o e hx
      exact ⟨o',(hs.2 b (bp (bn (aG e) I.ok.above))).trans e1⟩
    · by_cases hj:j=i
      · subst hj
        rw [hi] at e1;cases e1
        rw [fz hiσ] at e2
        cases e2
        exact ⟨u,r,.inl ⟨hk,by simp⟩⟩
      · rw [dg (Ne.symm hj)] at e2
        obtain ⟨u',r',q⟩:=hl j y v' e1 e2 e3
        refine ⟨u',r',?_⟩
        rcases q with ⟨k,e⟩ | ⟨k,c,e,z⟩
        · refine .inl ⟨k,?_⟩
          have:y ≠ x:=fun e=>hj (JM hN e1 (e ▸ hi))
          simp [this,e]
        · exact .inr ⟨k,c,e,z.sameBut hs (cne y c e)⟩
    · obtain ⟨w',z⟩:=I.cell y c e
      exact ⟨w',z.sameBut hs (cne y c e)⟩
    · obtain ⟨e,n,ne,nf,d⟩:=I.pin p hp
      exact ⟨(hs.2 p.1 ne).trans e,n,ne,nf,d⟩
  · have hfn : X.fn x = true := by
      rcases hf with z | z
      · exact z
      · rw [z] at hk;cases hk
    obtain ⟨c,hc⟩:=I.ok.has x (.inl hk)
    obtain ⟨w',z⟩:=I.cell x c hc
    refine wpAny_storeName_cell I.ok.kind hk hc z (fun h' hc' hs=>?_)
    obtain ⟨oc,hoc,hocd⟩:=id z
    refine h { s with heap:=h' } ⟨I.ok,I.os,I.bare,⟨fun b o e n hb hx=>?_,fun b o e n hb hx=>?_,I.base.free,fun b o e hx=>?_,I.base.tups,I.base.frzs,I.base.tbls⟩,⟨m,hn.sameBut hs (Ne.symm (cne x c hc)),fun j y v' e1 e2 e3=>?_⟩,fun y c' e=>?_,I.free,I.freeC,fun p hp=>?_,tracked ⟨oc,hoc,I.freeC x c hc⟩ hs,by simpa using I.len⟩ ⟨c,hs,.inr hc⟩
    · exact (hs.2 b (bp (bn (aG e) (I.ok.cab x c hfn hc)))).trans (I.base.keep b o e n hb hx)
    · obtain ⟨sl,e1⟩:=I.base.slot b o e n hb hx
      exact ⟨sl,(hs.2 b (bp (bn (aG e) (I.ok.cab x c hfn hc)))).trans e1⟩
    · obtain ⟨o',e1⟩:=I.base.there b o e hx
      exact ⟨o',(hs.2 b (bp (bn (aG e) (I.ok.cab x c hfn hc)))).trans e1⟩
    · by_cases hj:j=i
      · subst hj
        rw [hi] at e1;cases e1
        rw [fz hiσ] at e2
        cases e2
        exact ⟨u,r,.inr ⟨.inl hk,c,hc,hc'⟩⟩
      · rw [dg (Ne.symm hj)] at e2
        obtain ⟨u',r',q⟩:=hl j y v' e1 e2 e3
        refine ⟨u',r',?_⟩
        rcases q with q | ⟨k,c',e,z'⟩
        · exact .inl q
        · refine .inr ⟨k,c',e,z'.sameBut hs ?_⟩
          rintro rfl
          exact hj (JM hN e1 (I.ok.inj _ _ _ e hc ▸ hi))
    · by_cases hcc:c'=c
      · subst hcc;exact ⟨_,hc'⟩
      · obtain ⟨w2,z2⟩:=I.cell y c' e
        exact ⟨w2,z2.sameBut hs hcc⟩
    · obtain ⟨e,n,ne,nf,d⟩:=I.pin p hp
      refine ⟨(hs.2 p.1 ?_).trans e,n,ne,nf,d⟩
      intro q
      rw [q,hoc] at e
      have q':oc=p.2:=bP e
      exact d w' (by rw [<- q'];exact hocd)
theorem xt {M:mz}{A:aZ}{E:aj->aw->Prop}{i:Nat}{x:Str}{v:V}{u:aj}{Q:Unit->aw->Prop}(I:Inv X pins σ H s)(hN:X.N.Nodup)(hi:X.N[i]?=some x)(hx:Loc X.env.scope x)(r:zA v u)
  (h:∀ s',Inv X pins (σ.set i (some v)) H s'->Q () s') (hf:X.fn x=true \/ X.env.scope.names.lookup x=some .local:=by first | exact .inl rfl | exact .inr rfl | assumption):aO M A (storeName X.env x u) Q E s:=
 Zd I hN hi hx r (fun s' I' _=>h s' I') hf
theorem Inv.call' {s':aw} (I:Inv X pins σ H s)(ho:s'.os=s.os)(u:Un (frs X.stack) ch H H' s.heap s'.heap)(hok:HOk X.prog X.w H' s'.heap)(hg:gu s'.gens)
  (hch:∀ b ∈ ch,(b ∈ X.ex \/ X.s₀.heap.objs.size<=b)/\b ≠ X.env.locals/\(∀ x c,X.env.cells.lookup x=some c->c ≠ b)/\∀ p ∈ X.pn ++ pins,p.1 ≠ b):Inv X pins σ H' s':=by
 obtain ⟨h',g',d',t',o'⟩:=s'
 have e:o'=s.os:=ho
 subst e
 exact I.call (g':=g') (t':=t') (d':=d') u hok hg hch
end
abbrev XK:=aj->Option au->Hp->Prop
abbrev St:=List (Option V)
abbrev VK:=V->Hp->Prop
abbrev TE:=St->Hp->VK->Prop
abbrev TT:=St->Hp->(Bool->Hp->Prop)->Prop
abbrev TA:=St->Hp->(List V->Hp->Prop)->Prop
structure yb where
 nx:St->Hp->Prop
 rt:VK
 bk:St->Hp->Prop:=fun _ _=>False
 ct:St->Hp->Prop:=fun _ _=>False
abbrev TS:=yb->St->Hp->Prop
def EP (X:Cx)(pins:List (au × Obj))(σ:St)(Q:VK)(u:aj)(s':aw):Prop:=∃ v H',Inv X pins σ H' s'/\zA v u/\Q v H'
def TP (X:Cx)(pins:List (au × Obj))(σ:St)(Q:Bool->Hp->Prop)(b:Bool)(s':aw):Prop:=∃ H',Inv X pins σ H' s'/\Q b H'
def AP (X:Cx)(pins:List (au × Obj))(σ:St)(Q:List V->Hp->Prop)(us:List aj)(s':aw):Prop:=∃ vs H',Inv X pins σ H' s'/\zF vs us/\Q vs H'
def SP (X:Cx)(pins:List (au × Obj))(D:yb)(f:Flow)(s':aw):Prop:=
 match f with
 | .next=>∃ σ' H',Inv X pins σ' H' s'/\D.nx σ' H'
 | .brk=>∃ σ' H',Inv X pins σ' H' s'/\D.bk σ' H'
 | .cont=>∃ σ' H',Inv X pins σ' H' s'/\D.ct σ' H'
 | .ret u=>∃ v σ' H',Inv X pins σ' H' s'/\zA v u/\D.rt v H'
def PE (X:Cx)(e:Expr)(t:TE):Prop:=
 ∀ (pins:List (au × Obj)) (s:aw) (σ:St) (H:Hp) (Q:VK),Inv X pins σ H s->t σ H Q->aO (aN X.prog X.w) X.A (eval e X.env) (EP X pins σ Q) X.xe s
def PT (X:Cx)(e:Expr)(t:TT):Prop:=
 ∀ (pins:List (au × Obj)) (s:aw) (σ:St) (H:Hp) (Q:Bool->Hp->Prop),Inv X pins σ H s->t σ H Q->aO (aN X.prog X.w) X.A (isTrue e X.env (eval e X.env)) (TP X pins σ Q) X.xe s
def PW (X:Cx)(e:Expr)(t:TT):Prop:=
 ∀ (whole:Sem aj) (pins:List (au × Obj)) (s:aw) (σ:St) (H:Hp) (Q:Bool->Hp->Prop),Inv X pins σ H s->t σ H Q->aO (aN X.prog X.w) X.A (isTrue e X.env whole) (TP X pins σ Q) X.xe s
variable {X:Cx} {e:Expr}
theorem PW.pt {t:TT}(h:PW X e t):PT X e t:=h _
def PA (X:Cx)(es:List Expr)(t:TA):Prop:=
 ∀ (pos:Pos) (pins:List (au × Obj)) (s:aw) (σ:St) (H:Hp) (Q:List V->Hp->Prop),Inv X pins σ H s->t σ H Q->aO (aN X.prog X.w) X.A (spliced (ca pos (aQ es X.env))) (AP X pins σ Q) X.xe s
def PS (X:Cx)(st:cw)(t:TS):Prop:=
 ∀ (pins:List (au × Obj)) (s:aw) (σ:St) (H:Hp) (D:yb),Inv X pins σ H s->t D σ H->aO (aN X.prog X.w) X.A (exec st X.env) (SP X pins D) X.xe s
def PSs (X:Cx)(st:List cw)(t:TS):Prop:=
 ∀ (pins:List (au × Obj)) (s:aw) (σ:St) (H:Hp) (D:yb),Inv X pins σ H s->t D σ H->aO (aN X.prog X.w) X.A (execs st X.env) (SP X pins D) X.xe s
variable {A:aZ} {E:aj->aw->Prop} {s:aw}
theorem thn {α:Type}{t:Sem α}{Q Q':α->aw->Prop}{M:mz} (h:aO M A t Q E s)(hQ:∀ a s,Q a s->Q' a s):aO M A t Q' E s:=ba h hQ fun _ _ x=>x
section
variable {X:Cx}
variable {pins:List (au × Obj)} {σ:St}
theorem bin {a b:Expr}{ta tb:TE}(ha:PE X a ta)(hb:PE X b tb) {R:V->V->Hp->Prop}(I:Inv X pins σ H s)(h:ta σ H fun x H1=>tb σ H1 fun y H2=>R x y H2)
  {α:Type} {Q:α->aw->Prop} {f:aj->aj->Sem α}
  (hf:∀ v u s2 x y H2,Inv X pins σ H2 s2->zA x v->zA y u->R x y H2->aO (aN X.prog X.w) X.A (f v u) Q X.xe s2) :
  aO (aN X.prog X.w) X.A (eval a X.env) (fun v s₁=>aO (aN X.prog X.w) X.A (eval b X.env) (fun u s₂=>aO (aN X.prog X.w) X.A (f v u) Q X.xe s₂) X.xe s₁) X.xe s:=by
 refine thn (ha pins s σ H _ I h) fun v s1 ⟨x,H1,I1,r1,q1⟩=>?_
 refine thn (hb pins s1 σ H1 _ I1 q1) fun u s2 ⟨y,H2,I2,r2,q2⟩=>?_
 exact hf v u s2 x y H2 I2 r1 r2 q2
noncomputable def wY (i:Nat):TE:=fun σ H Q=>∃ v,σ[i]?=some (some v)/\Q v H
noncomputable def tC (v:V):TE:=fun _ H Q=>Q v H
variable {pos:Pos}
theorem IW {i:Nat}{x:Str} (hN:X.N[i]?=some x)(hv:Vis X.env.scope x)(hd:(x == ("__debug__":Str))=false:=by decide)(hcd:(x == ("__classdict__":Str))=false:=by decide):PE X (.Name x pos) (wY i):=by
 intro pins s σ H Q I h
 obtain ⟨v,e,h⟩:=h
 obtain ⟨m,hn,hl⟩:=I.loc
 obtain ⟨u,r,l⟩:=hl i x v hN e hv
 have fin:EP X pins σ Q u s:=⟨v,H,I,r,h⟩
 rcases l with ⟨hk,hm⟩ | ⟨hk,c,hc,hcell⟩
 ·exact wpAny_Name (wpAny_loadName_local I.ok.kind hk hn hm fin) hd
 ·rcases hk with hk | hk
  ·exact wpAny_Name (wpAny_loadName_cell I.ok.kind hk hc hcell fin) hd
  ·exact wpAny_Name (wpAny_loadName_free I.ok.kind hk hc hcell fin hcd) hd
theorem zf {i j pos}:PE X (.Constant (.int i) j pos) (tC (.int i)):=fun _ _ _ H _ I h=>wpAny_Constant_int ⟨.int i,H,I.tok _,⟨_,rfl⟩,h⟩
theorem j9 {b j pos}:PE X (.Constant (.bool b) j pos) (tC (.bl b)):=fun _ _ _ H _ I h=>Constant_bool ⟨.bl b,H,I,rfl,h⟩
theorem zS {j pos}:PE X (.Constant .none j pos) (tC .non):=fun _ _ _ H _ I h=>Constant_none ⟨.non,H,I,rfl,h⟩
theorem zj {x j pos}:PE X (.Constant (.str x) j pos) (tC (.str x)):=fun _ _ _ H _ I h=>Calls.Constant_str ⟨.str x,H,I.tok _,⟨_,rfl⟩,h⟩
def Gl (X:Cx)(x:Str):Prop:=X.env.kindOf x=some .globalImplicit
variable {Q:aj->aw->Prop}
theorem j4 {x:Str}{u:aj} (I:Inv X pins σ H s)(hg:Gl X x)(hm:X.mg x=some u)(h:Q u s)
  (hd:(x == ("__debug__":Str))=false:=by decide):aO (aN X.prog X.w) X.A (eval (.Name x pos) X.env) Q E s:=
 gx I.ok.kind hg (Calls.loadGlobal_global (by rw [I.ok.glob];exact I.mod.glob.keeps I.bk) hm h) hd
theorem yh {x:Str}{u:aj} (I:Inv X pins σ H s)(hg:Gl X x)(hm:X.mg x=none)(hv:bI x=some u)(h:Q u s)
  (hn:x ≠ "__name__":=by decide) (hd:(x == ("__debug__":Str))=false:=by decide):aO (aN X.prog X.w) X.A (eval (.Name x pos) X.env) Q E s:=by
 obtain ⟨mb,h1,h2⟩:=I.mod.blt
 exact gx I.ok.kind hg (Calls.loadGlobal_builtin (by rw [I.ok.glob];exact I.mod.glob.keeps I.bk) hm (by rw [I.ok.blt];exact h1.keeps I.bk) ((h2 x hn).trans hv) h) hd
theorem zY {x:Str}{v:V}{u:aj} (hg:Gl X x)(hm:X.mg x=none)(hv:bI x=some u)(r:zA v u)(hn:x ≠ "__name__":=by decide)(hd:(x == ("__debug__":Str))=false:=by decide):PE X (.Name x pos) (tC v):=
 fun _ _ _ H _ I h=>yh I hg hm hv ⟨v,H,I,r,h⟩ hn hd
variable {a b:Expr}{ta tb:TE}{pos:Pos}
def PC (X:Cx)(op:mB)(a b:Expr)(t:TE):Prop:=
 ∀ (pins:List (au × Obj)) (s:aw) (σ:St) (H:Hp) (Q:VK),Inv X pins σ H s->t σ H Q ->
  aO (aN X.prog X.w) X.A (eval a X.env) (fun v s₁=>aO (aN X.prog X.w) X.A (eval b X.env) (fun u s₂=>aO (aN X.prog X.w) X.A (cJ op v u) (EP X pins σ Q) X.xe s₂) X.xe s₁) X.xe s
variable {op:mB}
theorem WN (b:Expr) (h:op ≠ .In)(h2:op ≠ .NotIn):et op b=false:=by
 have e1:(op == mB.In)=false:=by cases op <;> first | rfl | exact absurd rfl h
 have e2:(op == mB.NotIn)=false:=by cases op <;> first | rfl | exact absurd rfl h2
 cases b <;> simp [et,e1,e2]
noncomputable def tB (t:TE):TT:=fun σ H Q=>t σ H fun x H1=>∃ c,x=.bl c/\Q c H1
variable {t:TE}
theorem MW (h:PC X op a b t)(h1:et op b=false:=by first | exact WN _ (by decide) (by decide) | rfl):PT X (.Compare a [op] [b] pos) (tB t):=by
 intro pins s σ H Q I hw
 refine wpAny_isTrue_Compare1 (thn (h pins s σ H _ I hw) fun v s1 h1=>thn h1 fun u s2 h2=>thn h2 fun c s3 ⟨x,H1,I1,r1,q1⟩=>?_) h1
 obtain ⟨d,rfl,q⟩:=q1
 cases r1
 exact cP ⟨H1,I1,q⟩
theorem jd (h:PE X e t)(he:∀ whole,isTrue e X.env whole=(do let v <- whole;h8 e.pos;holding [v] (truthy v)):=by intro _;rfl):PT X e (tB t):=by
 intro pins s σ H Q I hw
 refine isTrue_plain (thn (h pins s σ H _ I hw) fun v s1 ⟨x,H1,I1,r1,q1⟩=>?_) (he _)
 obtain ⟨d,rfl,q⟩:=q1
 cases r1
 exact cP ⟨H1,I1,q⟩
variable {tA tB':TT}{qM:List Expr}
noncomputable def Im (t u:TT):TT:=fun σ H Q=>t σ H fun c H1=>if c=true then u σ H1 Q else Q false H1
noncomputable def tOr (t u:TT):TT:=fun σ H Q=>t σ H fun c H1=>if c=true then Q true H1 else u σ H1 Q
noncomputable def IJ (t:TT):TT:=fun σ H Q=>t σ H fun c H1=>Q (!c) H1
theorem kS (ha:PT X a tA):PW X (.BoolOp .And [a] pos) tA:=by
 intro wh pins s σ H Q I h
 refine isTrue_and (thn (ha pins s σ H Q I h) fun c s1 e=>?_)
 cases c with
 | true=>exact isTrue_and_nil e
 | false=>exact e
theorem jW (ha:PT X a tA):PW X (.BoolOp .Or [a] pos) tA:=by
 intro wh pins s σ H Q I h
 refine isTrue_or (thn (ha pins s σ H Q I h) fun c s1 e=>?_)
 cases c with
 | false=>exact isTrue_or_nil e
 | true=>exact e
theorem ye (ha:PT X a tA)(hb:PW X (.BoolOp .And (b :: qM) pos) tB'):PW X (.BoolOp .And (a :: b :: qM) pos) (Im tA tB'):=by
 intro wh pins s σ H Q I h
 refine isTrue_and (thn (ha pins s σ H _ I h) fun c s1 ⟨H1,I1,q1⟩=>?_)
 cases c with
 | true=>exact hb wh pins s1 σ H1 Q I1 q1
 | false=>exact ⟨H1,I1,q1⟩
theorem kA (ha:PT X a tA)(hb:PW X (.BoolOp .Or (b :: qM) pos) tB'):PW X (.BoolOp .Or (a :: b :: qM) pos) (tOr tA tB'):=by
 intro wh pins s σ H Q I h
 refine isTrue_or (thn (ha pins s σ H _ I h) fun c s1 ⟨H1,I1,q1⟩=>?_)
 cases c with
 | true=>exact ⟨H1,I1,q1⟩
 | false=>exact hb wh pins s1 σ H1 Q I1 q1
theorem jG (ha:PT X a tA):PT X (.UnaryOp .Not a pos) (IJ tA):=by
 intro pins s σ H Q I h
 exact isTrue_not (ha pins s σ H (fun c H1=>Q (!c) H1) I h)
noncomputable def DG (ta tb:TE):TE:=fun σ H Q=>ta σ H fun x H1=>∃ c,x=.bl c/\if c=true then tb σ H1 Q else Q (.bl false) H1
theorem Qq {op} (h:PE X a t):PE X (.BoolOp op [a] pos) t:=fun pins s σ H Q I hw=>BoolOp_one (h pins s σ H Q I hw)
theorem v7 (ha:PE X a ta)(hb:PE X (.BoolOp .And (b :: qM) pos) tb):PE X (.BoolOp .And (a :: b :: qM) pos) (DG ta tb):=by
 intro pins s σ H Q I h
 refine BoolOp_and (thn (ha pins s σ H _ I h) fun v s1 ⟨x,H1,I1,r1,q1⟩=>?_)
 obtain ⟨c,rfl,q1⟩:=q1
 cases r1
 refine cP ?_
 cases c with
 | true=>exact hb pins s1 σ H1 Q I1 q1
 | false=>exact ⟨.bl false,H1,I1,rfl,q1⟩
noncomputable def tIf (t:TT)(ta tb:TE):TE:=fun σ H Q=>t σ H fun c H1=>if c=true then ta σ H1 Q else tb σ H1 Q
theorem yK {c:Expr}(hc:PT X c tA)(ha:PE X a ta)(hb:PE X b tb):PE X (.IfExp c a b pos) (tIf tA ta tb):=by
 intro pins s σ H Q I h
 refine wpAny_IfExp (thn (hc pins s σ H _ I h) fun d s1 ⟨H1,I1,q1⟩=>?_)
 cases d with
 | true=>exact ha pins s1 σ H1 Q I1 q1
 | false=>exact hb pins s1 σ H1 Q I1 q1
end
def SqL (K:ax)(H:Hp)(a:au)(xs:List V):Prop:=
 Rd H a (.lst xs) \/
  ∃ (o:Obj) (its:Array aj) (n:Nat),K.lookup a=some o/\o.cls=.type "list"/\o.dict=none/\o.data=.seq its n/\its.size<=aM/\zF xs its.toList
def SqT (K:ax)(H:Hp)(a:au)(xs:List V):Prop:=
 Rd H a (.tup xs) \/
  ∃ (o:Obj) (its:Array aj) (n:Nat),K.lookup a=some o/\o.cls=.type "tuple"/\o.data=.seq its n/\its.size<=aM/\zF xs its.toList
noncomputable def Nd:aj->Option V
 | .none=>some .non
 | .bool b=>some (.bl b)
 | .int i _=>some (.int i)
 | .str x _=>some (.str x)
 | .bytes b _=>some (.byt b)
 | .float b _=>some (.flt b)
 | .ref a=>some (.ref a)
 | .type n=>some (.ty n)
 | _=>none
theorem zA.abs {x:V}{u:aj}(r:zA x u):Nd u=some x:=by
 cases x with
 | non=>cases r;rfl
 | bl _=>cases r;rfl
 | int _=>obtain ⟨t,rfl⟩:=r;rfl
 | str _=>obtain ⟨t,rfl⟩:=r;rfl
 | byt _=>obtain ⟨t,rfl⟩:=r;rfl
 | flt _=>obtain ⟨t,rfl⟩:=r;rfl
 | ref _=>cases r;rfl
 | ty _=>cases r;rfl
theorem zA.inj {x y:V}{u:aj}(r:zA x u)(q:zA y u):x=y:=bP (r.abs.symm.trans q.abs)
theorem zF.inj:∀ {xs ys:List V} {us:List aj},zF xs us->zF ys us->xs=ys
 | _,_,_,.nil,.nil=>rfl
 | _,_,_,.cons r t,.cons r' t'=>by rw [r.inj r',zF.inj t t']
section
variable {X:Cx}{pins:List (au × Obj)}{σ:St}{H:Hp}{s:aw}{a:au}{xs ys:List V}
variable {K:ax}
theorem SqL.of (h:H a=some (.lst xs)):SqL K H a xs:=.inl (.inl h)
theorem SqT.of (h:H a=some (.tup xs)):SqT K H a xs:=.inl (.inl h)
theorem Inv.list (I:Inv X pins σ H s)(h:SqL X.K H a xs):∃ its:List aj,zF xs its/\PlainL s.heap a its.toArray/\xs.length<=aM:=by
 rcases h with h | ⟨o,its,n,hk,hc,hd,hs,hz,r⟩
 ·obtain ⟨z,its,n,r,e⟩:=h.ok I.hok
  exact ⟨its,r,⟨_,n,e,rfl,rfl,rfl⟩,z⟩
 ·refine ⟨its.toList,r,⟨o,n,I.kIn a o hk,hc,hd,by simpa using hs⟩,?_⟩
  have e:=r.length
  simp only [gm] at e
  omega
theorem Inv.tuple (I:Inv X pins σ H s)(h:SqT X.K H a xs):∃ its:List aj,zF xs its/\IsTup s.heap a its.toArray/\xs.length<=aM:=by
 rcases h with h | ⟨o,its,n,hk,hc,hs,hz,r⟩
 ·obtain ⟨z,its,r,p⟩:=h.ok I.hok
  exact ⟨its,r,p.is,z⟩
 ·refine ⟨its.toList,r,⟨o,I.kIn a o hk,hc,n,by simpa using hs⟩,?_⟩
  have e:=r.length
  simp only [gm] at e
  omega
theorem Inv.list_inj (I:Inv X pins σ H s)(h:SqL X.K H a xs)(h':SqL X.K H a ys):xs=ys:=by
 obtain ⟨its,r,⟨o,n,e,_,_,d⟩,_⟩:=I.list h
 obtain ⟨its',r',⟨o',n',e',_,_,d'⟩,_⟩:=I.list h'
 rw [e] at e';cases e'
 rw [d] at d'
 injection d' with d1 _
 have:its=its':=by simpa using congrArg Array.toList d1
 subst this
 exact r.inj r'
theorem Inv.tuple_inj (I:Inv X pins σ H s)(h:SqT X.K H a xs)(h':SqT X.K H a ys):xs=ys:=by
 obtain ⟨its,r,⟨o,e,_,n,d⟩,_⟩:=I.tuple h
 obtain ⟨its',r',⟨o',e',_,n',d'⟩,_⟩:=I.tuple h'
 rw [e] at e';cases e'
 rw [d] at d'
 injection d' with d1 _
 have:its=its':=by simpa using congrArg Array.toList d1
 subst this
 exact r.inj r'
end
noncomputable abbrev Cx.wish (X:Cx)(E:aj->aw->Prop):Cx:={ X with xe:=E }
noncomputable abbrev Cx.nox (X:Cx):Cx:=X.wish fun _ _=>False
theorem Cx.Ok.wish (ok:X.Ok)(E:aj->aw->Prop):(X.wish E).Ok:=
 ⟨ok.mod,ok.kind,ok.glob,ok.blt,ok.above,ok.inj,ok.has,ok.cab,ok.hd,ok.frames,ok.stk,ok.exf,ok.bs,ok.bsz,ok.noex,ok.exfs,ok.funs,ok.frf⟩
theorem Cx.Ok.unwish (ok:(X.wish E).Ok):X.Ok:=
 ⟨ok.mod,ok.kind,ok.glob,ok.blt,ok.above,ok.inj,ok.has,ok.cab,ok.hd,ok.frames,ok.stk,ok.exf,ok.bs,ok.bsz,ok.noex,ok.exfs,ok.funs,ok.frf⟩
section
variable {X:Cx}{pins:List (au × Obj)}{σ:St}{H:Hp}{s:aw}{E:aj->aw->Prop}
theorem Inv.wish (I:Inv X pins σ H s)(E:aj->aw->Prop):Inv (X.wish E) pins σ H s:=⟨I.ok.wish E,I.os,I.bare,I.base,I.loc,I.cell,I.free,I.freeC,I.pin,I.hok,I.len⟩
theorem Inv.unwish (I:Inv (X.wish E) pins σ H s):Inv X pins σ H s:=⟨I.ok.unwish,I.os,I.bare,I.base,I.loc,I.cell,I.free,I.freeC,I.pin,I.hok,I.len⟩
theorem SP.unwish {D:yb}{f:Flow}{s':aw}(h:SP (X.wish E) pins D f s'):SP X pins D f s':=by
 cases f with
 | next=>obtain ⟨σ',H',I,q⟩:=h;exact ⟨σ',H',I.unwish,q⟩
 | brk=>obtain ⟨σ',H',I,q⟩:=h;exact ⟨σ',H',I.unwish,q⟩
 | cont=>obtain ⟨σ',H',I,q⟩:=h;exact ⟨σ',H',I.unwish,q⟩
 | ret u=>obtain ⟨v,σ',H',I,r,q⟩:=h;exact ⟨v,σ',H',I.unwish,r,q⟩
theorem PSs.nox {st:List cw}{t:TS}(h:PSs X.nox st t):PSs X st t:=fun pins s σ H D I hw=>
 ba (h pins s σ H D (I.wish _) hw) (fun _ _ q=>q.unwish) fun _ _ z=>bM z
end
section
variable {X:Cx}{st:cw}{qM:List cw}{t u:TS}{e:Expr}{te:TE}{pos:Pos}
noncomputable def DA:TS:=fun D σ H=>D.nx σ H
noncomputable def Aa (t u:TS):TS:=fun D σ H=>t { D with nx:=u D } σ H
theorem zx:PSs X [] DA:=fun _ _ σ H _ I h=>ff ⟨σ,H,I,h⟩
theorem zc (h1:PS X st t)(h2:PSs X qM u):PSs X (st :: qM) (Aa t u):=by
 intro pins s σ H D I h
 refine gW (thn (h1 pins s σ H { D with nx:=u D } I h) fun f s1 q=>?_)
 cases f with
 | next=>
  obtain ⟨σ',H',I',q⟩:=q
  exact h2 pins s1 σ' H' D I' q
 | ret v=>exact q
 | brk=>exact q
 | cont=>exact q
theorem zi (h1:PS X st t):PSs X [st] t:=by
 intro pins s σ H D I h
 refine gW (thn (h1 pins s σ H D I h) fun f s1 q=>?_)
 cases f with
 | next=>exact ff q
 | ret v=>exact q
 | brk=>exact q
 | cont=>exact q
theorem Inv.quiet {pins:List (au × Obj)}{σ:St} (I:Inv X pins σ H s):interactive X.env=false:=by simp [interactive,I.ok.kind]
noncomputable def Xz (te:TE):TS:=fun D σ H=>te σ H fun _ H1=>D.nx σ H1
theorem qR (he:PE X e te)(hs:iZ e none pos.line X.env=pure false:=by rfl):PS X (.Expr e pos) (Xz te):=by
 intro pins s σ H D I h
 exact wpAny_Expr_any (thn (he pins s σ H _ I h) fun v s1 ⟨x,H1,I1,r1,q1⟩=>⟨σ,H1,I1,q1⟩) I.quiet hs
noncomputable def Lu (te:TE):TS:=fun D σ H=>te σ H D.rt
theorem zC (he:PE X e te):PS X (.Return (some e) pos) (Lu te):=by
 intro pins s σ H D I h
 exact wpAny_Return_some (thn (he pins s σ H _ I h) fun v s1 ⟨x,H1,I1,r1,q1⟩=>⟨x,σ,H1,I1,r1,q1⟩)
noncomputable def Ey (c:TT)(t u:TS):TS:=fun D σ H=>c σ H fun b H1=>if b=true then t D σ H1 else u D σ H1
theorem zL {c:Expr}{a b:List cw}{tc:TT}(hc:PT X c tc)(ha:PSs X a t)(hb:PSs X b u):PS X (.If c a b pos) (Ey tc t u):=by
 intro pins s σ H D I h
 refine wpAny_If (thn (hc pins s σ H _ I h) fun d s1 ⟨H1,I1,q1⟩=>?_)
 cases d with
 | true=>exact ha pins s1 σ H1 D I1 q1
 | false=>exact hb pins s1 σ H1 D I1 q1
end
abbrev TG:=V->St->Hp->(St->Hp->Prop)->Prop
abbrev TGs:=List V->St->Hp->(St->Hp->Prop)->Prop
def PG (X:Cx)(target:Expr)(t:TG):Prop:=
 ∀ (pins:List (au × Obj)) (s:aw) (σ:St) (H:Hp) (v:V) (u:aj) (Q:St->Hp->Prop),Inv X pins σ H s->zA v u->t v σ H Q ->
  aO (aN X.prog X.w) X.A (lp target X.env u) (fun _ s'=>∃ σ' H',Inv X pins σ' H' s'/\Q σ' H') X.xe s
def PGs (X:Cx)(ts:List Expr)(t:TGs):Prop:=
 ∀ (pins:List (au × Obj)) (s:aw) (σ:St) (H:Hp) (vs:List V) (us:List aj) (Q:St->Hp->Prop),Inv X pins σ H s->zF vs us->t vs σ H Q ->
  aO (aN X.prog X.w) X.A (i8 ((ft ts X.env).map (·.2)) us) (fun _ s'=>∃ σ' H',Inv X pins σ' H' s'/\Q σ' H') X.xe s
abbrev Q6:=V->V->V->Hp->(Hp->Prop)->Prop
def W6 (X:Cx)(t:Q6):Prop:=
 ∀ (pins:List (au × Obj)) (s:aw) (σ:St) (H:Hp) (o i v:V) (ov iv u:aj) (Q:Hp->Prop),Inv X pins σ H s->zA o ov->zA i iv->zA v u->t o i v H Q ->
  aO (aN X.prog X.w) X.A (setItem ov iv u) (fun _ s'=>∃ H',Inv X pins σ H' s'/\Q H') X.xe s
abbrev TIp:=V->V->Hp->VK->Prop
def PIp (X:Cx)(op:Operator)(t:TIp):Prop:=
 ∀ (pins:List (au × Obj)) (s:aw) (σ:St) (H:Hp) (x y:V) (v u:aj) (Q:VK),Inv X pins σ H s->zA x v->zA y u->t x y H Q ->
  aO (aN X.prog X.w) X.A (inplaceOp op v u) (EP X pins σ Q) X.xe s
section
variable {X:Cx}{pos:Pos}
noncomputable def QY (i:Nat):TG:=fun v σ H Q=>Q (σ.set i (some v)) H
variable {i:Nat}
theorem zR {x:Str}(hN:X.N.Nodup)(hi:X.N[i]?=some x)(hx:Loc X.env.scope x)(hf:X.fn x=true \/ X.env.scope.names.lookup x=some .local:=by first | exact .inl rfl | exact .inr rfl | assumption):PG X (.Name x pos) (QY i):=by
 intro pins s σ H v u Q I r h
 exact wpAny_assign_Name (xt I hN hi hx r (fun s' I'=>⟨_,H,I',h⟩) hf)
noncomputable def IG:TGs:=fun vs σ H Q=>vs=[]/\Q σ H
noncomputable def AC (t:TG)(u:TGs):TGs:=fun vs σ H Q=>∃ v r,vs=v :: r/\t v σ H fun σ' H'=>u r σ' H' Q
theorem jl:PGs X [] IG:=by
 intro pins s σ H vs us Q I r h
 obtain ⟨e,h⟩:=h
 subst e
 cases r
 exact assignInOrder_nil ⟨σ,H,I,h⟩
theorem zP {e:Expr}{es:List Expr}{t:TG}{u:TGs}(h1:PG X e t)(h2:PGs X es u)
  (hs:(ft (e :: es) X.env).map (·.2)=lp e X.env :: (ft es X.env).map (·.2):=by rfl):PGs X (e :: es) (AC t u):=by
 intro pins s σ H vs us Q I r h
 obtain ⟨v,vr,e1,h⟩:=h
 subst e1
 cases r with
 | cons r rr=>
  rw [hs]
  refine gy (thn (h1 pins s σ H _ _ _ I r h) fun _ s1 ⟨σ1,H1,I1,q1⟩=>?_)
  exact h2 pins s1 σ1 H1 _ _ Q I1 rr q1
noncomputable def J9 (K:ax)(n:Nat)(t:TGs):TG:=fun v σ H Q=>∃ a xs,v=.ref a/\SqT K H a xs/\xs.length=n/\t xs σ H Q
theorem Iy {es:List Expr}{k:Nat}{t:TGs}{n:Nat}(hc:X.calm=true)(h:PGs X es t)
  (hn:(ft es X.env).length=n:=by rfl) (hst:(ft es X.env).findIdx? (·.1)=none:=by rfl):PG X (.Tuple es k pos) (J9 X.K n t):=by
 intro pins s σ H v u Q I r hw
 obtain ⟨a,xs,e1,hq,hl,hw⟩:=hw
 subst e1
 cases r
 obtain ⟨its,rv,ht,hz⟩:=I.tuple hq
 refine assign_Tuple_tuple (I.ok.hd hc) ht (by simp [hn,<- hl,rv.length]) hst fun h' hx=>?_
 have I1:Inv X pins σ H { s with heap:=h' }:=I.kept (t':=s.toks) fun b o e=>hx b o (bp (aG e)) e
 exact h pins _ σ H xs _ Q I1 (by simpa using rv) hw
noncomputable def Ls (to ti:TE)(t:Q6):TG:=fun v σ H Q=>to σ H fun o H1=>ti σ H1 fun i H2=>t o i v H2 fun H3=>Q σ H3
theorem qB {o i:Expr}{to ti:TE}{t:Q6}(ho:PE X o to)(hi:PE X i ti)(hs:W6 X t)
  (ha:∀ v,lp (.Subscript o i pos) X.env v=(do
   let ov <- holding [v] (eval o X.env)
   let iv <- holding [v,ov] (eval i X.env)
   h8 pos
   holding [v,ov,iv] (setItem ov iv v)
   release [v,ov,iv] []):=by intro _;rfl):PG X (.Subscript o i pos) (Ls to ti t):=by
 intro pins s σ H v u Q I r h
 rw [ha]
 refine ap (cX (thn (ho pins s σ H _ I h) fun ov s1 ⟨x,H1,I1,r1,q1⟩=>?_))
 refine ap (cX (thn (hi pins s1 σ H1 _ I1 q1) fun iv s2 ⟨y,H2,I2,r2,q2⟩=>?_))
 refine ap (cY (ap (cX (thn (hs pins s2 σ H2 x y v ov iv u _ I2 r1 r2 r q2) fun _ s3 ⟨H3,I3,q3⟩=>?_))))
 exact wpAny_release ⟨σ,H3,I3,q3⟩
noncomputable def JS (te:TE)(g:TG):TS:=fun D σ H=>te σ H fun x H1=>g x σ H1 D.nx
variable {te:TE}
theorem qW {tg e:Expr} {g:TG}(he:PE X e te)(hg:PG X tg g)(hs:swapsWithSole [tg] e pos.line X.env=pure false:=by rfl)(hw:swappedStores [tg] e X.env=pure none:=by rfl)
  (h1:(ft [tg] X.env).map (·.2)=[lp tg X.env]:=by rfl):PS X (.Assign [tg] e pos) (JS te g):=by
 intro pins s σ H D I h
 refine wpAny_Assign_stores (thn (he pins s σ H _ I h) fun v s1 ⟨x,H1,I1,r1,q1⟩=>?_) hs hw
 rw [h1]
 exact thn (hg pins s1 σ H1 x v _ I1 r1 q1) fun _ s2 q=>q
theorem zG {x:Str} {pos':Pos}(hN:X.N.Nodup)(hi:X.N[i]?=some x)(hx:Loc X.env.scope x)(he:PE X e te)(hs:iZ e (some (.Name x pos')) pos.line X.env=pure false:=by rfl)(hf:X.fn x=true \/ X.env.scope.names.lookup x=some .local:=by first | exact .inl rfl | exact .inr rfl | assumption) :
  PS X (.Assign [.Name x pos'] e pos) (JS te (QY i)):=by
 intro pins s σ H D I h
 refine wpAny_Assign_Name (thn (he pins s σ H _ I h) fun v s1 ⟨y,H1,I1,r1,q1⟩=>?_) hs
 exact xt I1 hN hi hx r1 (fun s2 I2=>⟨_,H1,I2,q1⟩) hf
noncomputable def IB (i j:Nat)(ta:TA):TS:=fun D σ H=>ta σ H fun vs H1=>∃ v w,vs=[v,w]/\D.nx ((σ.set i (some v)).set j (some w)) H1
theorem WW {i j:Nat}{x y:Str}{a b:Expr}{ta:TA}{px py pt:Pos}{kt k2 pt2}(hc:X.calm=true)(hN:X.N.Nodup)(hi:X.N[i]?=some x)(hj:X.N[j]?=some y)(hij:i ≠ j)
  (hx:X.env.scope.names.lookup x=some .local) (hy:X.env.scope.names.lookup y=some .local) (ha:PA X [a,b] ta)
  (hw:swappedStores [.Tuple [.Name x px,.Name y py] kt pt] (.Tuple [a,b] k2 pt2) X.env=pure (some [x,y]))
  (hs:swapsWithSole [.Tuple [.Name x px,.Name y py] kt pt] (.Tuple [a,b] k2 pt2) pos.line X.env=pure false:=by rfl) :
  PS X (.Assign [.Tuple [.Name x px,.Name y py] kt pt] (.Tuple [a,b] k2 pt2) pos) (IB i j ta):=by
 intro pins s σ H D I h
 rw [exec_Assign_arm]
 refine ap (cY ?_)
 rw [hs]
 refine ap (aL ?_)
 rw [if_neg (by decide)]
 refine ap (Tuple_ (thn (ha _ pins s σ H _ I h) fun us s1 ⟨vs,H1,I1,r1,q1⟩=>?_))
 obtain ⟨v,w,e1,q1⟩:=q1
 subst e1
 obtain ⟨u1,u2,rfl,rv,rw'⟩:∃ u1 u2,us=[u1,u2]/\zA v u1/\zA w u2:=by
  cases r1 with
  | cons p q=>
   cases q with
   | cons p' q'=>
    cases q'
    exact ⟨_,_,rfl,p,p'⟩
 refine cQ ?_ (by show 2<=aM;decide)
 have I2:Inv X pins σ H1 { s1 with heap:=s1.heap.push { cls:=.type "tuple",data:=.seq [u1,u2].toArray } }:=I1.kept (t':=s1.toks) fun b o e=>az _ e
 rw [hw]
 refine ap (aL ?_)
 show aO (aN X.prog X.w) X.A (do rule "assign.swapped-stores";let items <- unpackItems (.ref s1.heap.objs.size) 2 none;i8 [fun v=>bindName X.env y v,fun v=>bindName X.env x v] items.reverse;pure Flow.next) _ _ _
 refine ap (lq (ap (unpackItems_tuple (items:=#[u1,u2]) (I.ok.hd hc) (IsTup.new s1.heap _) fun h' hx'=>?_)))
 have I3:=I2.kept (h':=h') (t':=s1.toks) fun b o e=>hx' b o (bp (aG e)) e
 show aO _ _ (i8 [fun v=>bindName X.env y v,fun v=>bindName X.env x v] [u2,u1] >>= fun _=>pure Flow.next) _ _ _
 refine ap (gy (wpAny_bindName (xt I3 hN hj (.inl hy) rw' (fun s2 I4=>?_) (.inr hy))))
 refine gy (wpAny_bindName (xt I4 hN hi (.inl hx) rv (fun s3 I5=>assignInOrder_nil (aL ?_)) (.inr hx)))
 rw [List.set_comm _ _ (Ne.symm hij)] at I5
 exact ⟨_,H1,I5,q1⟩
noncomputable def BS (to ti te:TE)(tget:V->V->Hp->VK->Prop)(tip:TIp)(tset:Q6):TS:=fun D σ H=>to σ H fun o H1=>ti σ H1 fun i H2=>tget o i H2 fun x H3=>te σ H3 fun y H4=>tip x y H4 fun z H5=>tset o i z H5 fun H6=>D.nx σ H6
def LM (X:Cx)(t:V->V->Hp->VK->Prop):Prop:=
 ∀ (pins:List (au × Obj)) (s:aw) (σ:St) (H:Hp) (o i:V) (ov iv:aj) (Q:VK),Inv X pins σ H s->zA o ov->zA i iv->t o i H Q ->
  aO (aN X.prog X.w) X.A (gN ov iv) (EP X pins σ Q) X.xe s
theorem vN {o i e:Expr}{to ti te:TE}{tget:V->V->Hp->VK->Prop}{tip:TIp}{tset:Q6}{op:Operator}{tpos:Pos}(ho:PE X o to)(hi:PE X i ti)(hg:LM X tget)(he:PE X e te)(hp:PIp X op tip)(hs:W6 X tset)
  (ha:∀ ov iv new,augStore i ov iv new=(do holding [new,ov,iv] (setItem ov iv new);release [new,ov,iv] [];pure .next):=by intros;rfl):PS X (.AugAssign (.Subscript o i tpos) op e pos) (BS to ti te tget tip tset):=by
 intro pins s σ H D I h
 refine wpAny_AugAssign_SubscriptAny (thn (ho pins s σ H _ I h) fun ov s1 ⟨x1,H1,I1,r1,q1⟩=>?_) ha
 refine thn (hi pins s1 σ H1 _ I1 q1) fun iv s2 ⟨x2,H2,I2,r2,q2⟩=>?_
 refine thn (hg pins s2 σ H2 x1 x2 ov iv _ I2 r1 r2 q2) fun old s3 ⟨x3,H3,I3,r3,q3⟩=>?_
 refine thn (he pins s3 σ H3 _ I3 q3) fun v s4 ⟨x4,H4,I4,r4,q4⟩=>?_
 refine thn (hp pins s4 σ H4 x3 x4 old v _ I4 r3 r4 q4) fun new s5 ⟨x5,H5,I5,r5,q5⟩=>?_
 exact thn (hs pins s5 σ H5 x1 x2 x5 ov iv new _ I5 r1 r2 r5 q5) fun _ s6 ⟨H6,I6,q6⟩=>⟨σ,H6,I6,q6⟩
noncomputable def ipI (f:Int->Int->Int):TIp:=fun x y H Q=>∃ i j,x=.int i/\y=.int j/\Q (.int (f i j)) H
theorem Z7:PIp X .Add (ipI fun i j=>i+j):=by
 intro pins s σ H x y v u Q I r1 r2 h
 obtain ⟨i,j,e1,e2,q⟩:=h
 subst e1;subst e2
 obtain ⟨t,rfl⟩:=r1
 obtain ⟨t',rfl⟩:=r2
 exact iadd_int ⟨.int _,H,I.tok _,⟨_,rfl⟩,q⟩
end
section
variable {X:Cx}{pos:Pos}
end
structure It where
 go:Nat->Hp->Prop
 yld:Nat->Hp->V->Hp->Prop
 stop:Nat->Hp->Prop
def vI (X:Cx)(pins:List (au × Obj))(H:Hp)(b:au):Prop:=
 H b=none/\b ≠ X.env.locals/\b ∉ X.fs/\(b ∈ X.ex \/ X.s₀.heap.objs.size<=b)/\(∀ x c,X.env.cells.lookup x=some c->c ≠ b)/\∀ p ∈ X.pn ++ pins,p.1 ≠ b
variable {pins:List (au × Obj)} {σ:St}
theorem Inv.fpOk {H H':Hp} (I:Inv X pins σ H s)(hb:s.heap.objs.size<=b)(hn:H' b=none):vI X pins H' b:=by
 refine ⟨hn,dP (bn I.lt hb),I.nofs hb,.inr (bb I.sz hb),fun x c e z=>?_,fun p hp z=>?_⟩
 ·obtain ⟨v,q⟩:=I.cell x c e
  exact absurd (bn q.lt (by rw [z];exact hb)) (cW _)
 ·exact absurd (bn (aG (I.pin p hp).1) (by rw [z];exact hb)) (cW _)
structure Q3 (P:aS)(w:bo)(K:ax)(tg:Expr)(J:It)(fp:List au)(it:au)(tn:Nat->Heap->Prop):Prop where
 mem:it ∈ fp
 obj:∀ i h,tn i h->∀ b ∈ fp,∃ o,h.get? b=some o/\∀ v,o.data ≠ .cell v
 keep:∀ i h h',tn i h->(∀ b ∈ fp,∀ o,h.get? b=some o->h'.get? b=some o)->tn i h'
 item:∀ (X:Cx),X.prog=P->X.w=w->X.K=K->X.calm=true->∀ (i:Nat) (pins:List (au × Obj)) (s:aw) (σ:St) (H:Hp) (E:aj->aw->Prop),Inv X pins σ H s->(∀ b ∈ fp,vI X pins H b)->tn i s.heap->J.go i H ->
  aO (aN P w) X.A (iI (.ref it)) (fun r s1=>∃ u,r=some u /\
   aO (aN P w) X.A (gh tg (.ref it) u) (fun _ s2=>∃ x H',Inv X pins σ H' s2/\zA x u/\J.yld i H x H'/\tn (i+1) s2.heap/\∀ b ∈ fp,H' b=none) E s1) E s
 done:∀ (X:Cx),X.prog=P->X.w=w->X.K=K->X.calm=true->∀ (i:Nat) (pins:List (au × Obj)) (s:aw) (σ:St) (H:Hp) (E:aj->aw->Prop),Inv X pins σ H s->(∀ b ∈ fp,vI X pins H b)->tn i s.heap->J.stop i H ->
  aO (aN P w) X.A (iI (.ref it)) (fun r s1=>r=none/\Inv X pins σ H s1) E s
 self:∀ (A:aZ) (i:Nat) (s:aw) (Q:aj->aw->Prop) (E:aj->aw->Prop),tn i s.heap->Q (.ref it) s->aO (aN P w) A (pyIter (.ref it)) Q E s
abbrev TI:=St->Hp->(It->Hp->Prop)->Prop
def PIE (X:Cx)(pins:List (au × Obj))(σ:St)(tg:Expr)(R:It->Hp->Prop)(itv:aj)(s2:aw):Prop:=
 ∃ (it:au) (fp:List au) (tn:Nat->Heap->Prop) (J:It) (H':Hp),itv=.ref it/\Inv X pins σ H' s2/\Q3 X.prog X.w X.K tg J fp it tn/\tn 0 s2.heap/\(∀ b ∈ fp,vI X pins H' b)/\R J H'
def PI (X:Cx)(tg iter:Expr)(wi:TI):Prop:=
 ∀ (pins:List (au × Obj)) (s:aw) (σ:St) (H:Hp) (R:It->Hp->Prop),Inv X pins σ H s->wi σ H R ->
  aO (aN X.prog X.w) X.A (eval iter X.env) (fun v s1=>aO (aN X.prog X.w) X.A (pyIter v) (PIE X pins σ tg R) X.xe s1) X.xe s
theorem Bi {M : mz}{A : aZ}{E : aj -> aw -> Prop}{s : aw}{tg : Expr}{it : au}{u : aj}{o : Obj}{n : String}{vs : Array aj}{Q : Unit -> aw -> Prop}(ho : s.heap.get? it = some o)(hc : o.cls = .type n)(hd : o.data = .fields vs)
    (hn:["enumerate","zip","dict_itemiterator","dict_reverseitemiterator","odict_iterator","itertools.zip_longest","itertools.pairwise"].contains n=false) (hQ:Q () s):aO M A (gh tg (.ref it) u) Q E s:=by
  unfold gh
  cases tg <;> first
    | exact aL hQ
    | (cases u <;> first
        | exact aL hQ
        | (refine ap (wpAny_load ho ?_)
           rw [hc,hd]
           show aO M A (if (["enumerate","zip","dict_itemiterator","dict_reverseitemiterator","odict_iterator","itertools.zip_longest","itertools.pairwise"].contains n && vs[0]? == some (fA _))=true then _ else _) Q E s
           rw [if_neg (by intro h;rw [hn,Bool.false_and] at h;cases h)]
           exact aL hQ))
noncomputable def Itl (K:ax)(a:au):It:=
 ⟨fun i H=>∃ xs x,SqL K H a xs/\xs[i]?=some x,fun i H x H'=>H'=H/\∀ xs,SqL K H a xs->xs[i]?=some x,fun i H=>∃ xs,SqL K H a xs/\xs.length<=i⟩
noncomputable def Itt (K:ax)(a:au):It:=
 ⟨fun i H=>∃ xs x,SqT K H a xs/\xs[i]?=some x,fun i H x H'=>H'=H/\∀ xs,SqT K H a xs->xs[i]?=some x,fun i H=>∃ xs,SqT K H a xs/\xs.length<=i⟩
noncomputable def Itr (lo:Int)(n:Nat):It:=⟨fun i _=>i<n,fun i H x H'=>H'=H/\x=.int (lo+i),fun i _=>n<=i⟩
variable {K:ax} {tg:Expr}
theorem Vb (a it:au):Q3 P w K tg (Itl K a) [it] it (fun i h=>h.IsListIter it a i) where
 mem:=by simp
 obj:=fun i h st b hb=>by
  have e:b=it:=by simpa using hb
  subst e
  obtain ⟨o,e,c,d⟩:=st
  exact ⟨o,e,fun v z=>by rw [d] at z;cases z⟩
 keep:=fun i h h' st k=>st.at fun o e=>k it (by simp) o e
 item:=by
  intro X hP hw hK hc i pins s σ H E I hf st hg
  subst hP hw hK
  obtain ⟨xs,x,hq,hx⟩:=hg
  obtain ⟨its,rv,p,hz⟩:=I.list hq
  obtain ⟨u,hu,ru⟩:=rv.get hx
  obtain ⟨f0,f1,f2,f3,f4,f5⟩:=hf it (by simp)
  refine wpAny_pyNext_list_item st p.isList (x:=u) (by simpa using hu) fun h' st' sb=>?_
  have I1:Inv X pins σ H { s with heap:=h' }:=I.turned (t':=s.toks) (fun b o hb e=>(sb.2 b hb).trans e) f0 f1 f3 f4 f5
  obtain ⟨o,e,c,d⟩:=id st'
  exact ⟨u,rfl,Bi (s:={ s with heap:=h' }) e c d (by decide) ⟨x,H,I1,ru,⟨rfl,fun ys hy=>by rw [I.list_inj hy hq];exact hx⟩,st',fun b hb=>(hf b hb).1⟩⟩
 done:=by
  intro X hP hw hK hc i pins s σ H E I hf st hg
  subst hP hw hK
  obtain ⟨xs,hq,hx⟩:=hg
  obtain ⟨its,rv,p,hz⟩:=I.list hq
  obtain ⟨f0,f1,f2,f3,f4,f5⟩:=hf it (by simp)
  have hl:=rv.length
  exact wpAny_pyNext_list_end (I.ok.hd hc) st p.isList (by simp;omega) fun h' eb=>⟨rfl,I.turned (t':=s.toks) (fun b o hb e=>eb b o hb e) f0 f1 f3 f4 f5⟩
 self:=fun _ _ _ _ _ st h=>wpAny_pyIter_listiter st h
theorem J1 (a it:au):Q3 P w K tg (Itt K a) [it] it (fun i h=>h.IsTupleIter it a i) where
 mem:=by simp
 obj:=fun i h st b hb=>by
  have e:b=it:=by simpa using hb
  subst e
  obtain ⟨o,e,c,d⟩:=st
  exact ⟨o,e,fun v z=>by rw [d] at z;cases z⟩
 keep:=fun i h h' st k=>st.at fun o e=>k it (by simp) o e
 item:=by
  intro X hP hw hK hc i pins s σ H E I hf st hg
  subst hP hw hK
  obtain ⟨xs,x,hq,hx⟩:=hg
  obtain ⟨its,rv,p,hz⟩:=I.tuple hq
  obtain ⟨u,hu,ru⟩:=rv.get hx
  obtain ⟨f0,f1,f2,f3,f4,f5⟩:=hf it (by simp)
  refine wpAny_pyNext_tuple_item st (show s.heap.IsTuple a its.toArray from p) (x:=u) (by simpa using hu) fun h' st' sb=>?_
  have I1:Inv X pins σ H { s with heap:=h' }:=I.turned (t':=s.toks) (fun b o hb e=>(sb.2 b hb).trans e) f0 f1 f3 f4 f5
  obtain ⟨o,e,c,d⟩:=id st'
  exact ⟨u,rfl,Bi (s:={ s with heap:=h' }) e c d (by decide) ⟨x,H,I1,ru,⟨rfl,fun ys hy=>by rw [I.tuple_inj hy hq];exact hx⟩,st',fun b hb=>(hf b hb).1⟩⟩
 done:=by
  intro X hP hw hK hc i pins s σ H E I hf st hg
  subst hP hw hK
  obtain ⟨xs,hq,hx⟩:=hg
  obtain ⟨its,rv,p,hz⟩:=I.tuple hq
  obtain ⟨f0,f1,f2,f3,f4,f5⟩:=hf it (by simp)
  have hl:=rv.length
  exact wpAny_pyNext_tuple_end (I.ok.hd hc) st (show s.heap.IsTuple a its.toArray from p) (by simp;omega) fun h' eb=>⟨rfl,I.turned (t':=s.toks) (fun b o hb e=>eb b o hb e) f0 f1 f3 f4 f5⟩
 self:=fun _ _ _ _ _ st h=>wpAny_pyIter_tupleiter st h
theorem Xe (it:au)(lo:Int)(n:Nat):Q3 P w K tg (Itr lo n) [it] it (fun i h=>IsRangeIter h it (lo+(i:Nat) * 1) ((n:Int) - (i:Nat)) 1) where
 mem:=by simp
 obj:=fun i h st b hb=>by
  have e:b=it:=by simpa using hb
  subst e
  exact ⟨_,st,fun v z=>by
   have z':dB _=fu v:=z
   cases z'⟩
 keep:=fun i h h' st k=>k it (by simp) _ st
 item:=by
  intro X hP hw hK hc i pins s σ H E I hf st hg
  subst hP hw hK
  obtain ⟨f0,f1,f2,f3,f4,f5⟩:=hf it (by simp)
  have W:=Walks.range (prog:=X.prog) (w:=X.w) (I.ok.hd hc) it lo 1 n
  refine W.item i s _ _ hg st fun v h' tk hv st' kk=>?_
  obtain ⟨t,rfl⟩:=hv
  have I1:Inv X pins σ H { s with heap:=h',toks:=tk }:=I.turned (fun b o hb e=>kk b o (by simpa using hb) e) f0 f1 f3 f4 f5
  refine ⟨_,rfl,Bi (s:={ s with heap:=h',toks:=tk }) (n:="range_iterator") st' rfl rfl (by decide) ⟨.int (lo+i),H,I1,⟨t,?_⟩,⟨rfl,rfl⟩,st',fun b hb=>(hf b hb).1⟩⟩
  rw [iJ]
 done:=by
  intro X hP hw hK hc i pins s σ H E I hf st hg
  subst hP hw hK
  obtain ⟨f0,f1,f2,f3,f4,f5⟩:=hf it (by simp)
  exact wpAny_pyNext_range_end (I.ok.hd hc) st (by have:n<=i:=hg;omega) fun h' eb=>⟨rfl,I.turned (t':=s.toks) (fun b o hb e=>eb b o hb e) f0 f1 f3 f4 f5⟩
 self:=fun _ _ _ _ _ st h=>wpAny_pyIter_rangeiter st h
section
variable {X:Cx}{tg:Expr}
theorem BF {R:It->Hp->Prop} {lo hi:Int}{t u v:Tok}{tk:Nat}(I:Inv X pins σ H s)(h1:-(2 ^ 62)<=lo)(h2:lo<2 ^ 62)(h3:-(2 ^ 62)<=hi)(h4:hi<2 ^ 62)
  (q:R (Itr lo (hi - lo).toNat) H):aO (aN X.prog X.w) X.A (pyIter (.ref s.heap.objs.size)) (PIE X pins σ tg R) E { s with heap:=s.heap.push { cls:=.type "range",data:=.fields #[.int lo t,.int hi u,.int 1 v] },toks:=tk }:=by
 refine wpAny_pyIter_range (IsRange.new ..) (small_one h1 h2 h3 h4) ?_
 have I1:Inv X pins σ H { s with heap:=s.heap.push { cls:=.type "range",data:=.fields #[.int lo t,.int hi u,.int 1 v] },toks:=tk }:=I.kept fun b o e=>az _ e
 refine ⟨(s.heap.push { cls:=.type "range",data:=.fields #[.int lo t,.int hi u,.int 1 v] }).objs.size,[(s.heap.push { cls:=.type "range",data:=.fields #[.int lo t,.int hi u,.int 1 v] }).objs.size],_,_,H,rfl,
  I1.kept (t':=tk) fun b o e=>az _ e,Xe _ lo (hi - lo).toNat,?_,fun b hb=>?_,q⟩
 ·have e1:lo+((0:Nat):Int) * 1=lo:=by simp
  have e2:(((hi - lo).toNat:Nat):Int) - ((0:Nat):Int)=dj lo hi 1:=by rw [i9];split <;> omega
  show IsRangeIter _ _ (lo+((0:Nat):Int) * 1) ((((hi - lo).toNat:Nat):Int) - ((0:Nat):Int)) 1
  rw [e1,e2]
  exact aW _ rfl
 ·have e:b=(s.heap.push { cls:=.type "range",data:=.fields #[.int lo t,.int hi u,.int 1 v] }).objs.size:=by simpa using hb
  subst e
  exact I1.fpOk (aJ _) (I1.hok.fresh (aJ _))
noncomputable def WC (ta:TA):TI:=fun σ H R=>ta σ H fun vs H1=>∃ j:Int,vs=[.int j]/\-(2 ^ 62)<=j/\j<2 ^ 62/\R (Itr 0 j.toNat) H1
theorem kI {a:Expr}{ta:TA}{p pos:Pos}(hg:Gl X "range")(hm:X.mg "range"=none)(ha:PA X [a] ta)(hs:aQ [a] X.env=[(false,eval a X.env)]:=by rfl):PI X tg (.Call (.Name "range" p) [a] [] pos) (WC ta):=by
 intro pins s σ H R I h
 refine Call_ (yh I hg hm boot_range (cO (thn (ha pos pins s σ H _ I h) fun us s1 ⟨vs,H1,I1,r1,q1⟩=>?_) hs rfl))
 obtain ⟨j,e,q1,q2,q⟩:=q1
 subst e
 cases r1 with
 | cons r rr=>
  cases rr
  obtain ⟨t,rfl⟩:=r
  exact call_range_1 (BF I1 (by omega) (by omega) q1 q2 (by simpa using q))
noncomputable def EJ (wi:TI)(g:TG)(tb:TS):TS:=fun D σ H=>wi σ H fun J H1=>∃ W:Nat->Nat->St->Hp->Prop,(∃ m,W 0 m σ H1)/\∀ i m σ H,W i m σ H ->
 (J.stop i H/\D.nx σ H) \/ (J.go i H/\∃ N:St->Hp->Prop,(∀ σ' H',N σ' H'->∃ m',m'<m/\W (i+1) m' σ' H')/\∀ x H',J.yld i H x H'->g x σ H' fun σ2 H2=>tb { D with nx:=N,ct:=N,bk:=D.nx } σ2 H2)
noncomputable def wO (fp:List au)(h:Heap):List (au × Obj):=fp.filterMap fun b=>(h.get? b).map fun o=>(b,o)
theorem kQ {fp:List au}{h:Heap} {o:Obj}(hb:b ∈ fp)(e:h.get? b=some o):(b,o) ∈ wO fp h:=ef.mpr ⟨b,hb,by rw [e];rfl⟩
theorem VD {fp:List au}{h:Heap}{p:au × Obj}(hp:p ∈ wO fp h):p.1 ∈ fp/\h.get? p.1=some p.2:=by
 obtain ⟨b,hb,e⟩:=ef.mp hp
 cases q:h.get? b with
 | none=>rw [q] at e;cases e
 | some o=>
  rw [q] at e
  have e':(b,o)=p:=bP e
  subst e'
  exact ⟨hb,q⟩
theorem Inv.pinned {fp:List au}(I:Inv X pins σ H s)(hf:∀ b ∈ fp,vI X pins H b)(ho:∀ b ∈ fp,∃ o,s.heap.get? b=some o/\∀ v,o.data ≠ .cell v):Inv X (pins ++ wO fp s.heap) σ H s:=
 I.pins_of fun p hp=>(cq.mp hp).elim (fun z=>I.pin p (bR _ z)) fun z=>by
  obtain ⟨hb,e⟩:=VD z
  obtain ⟨f0,f1,f2,_⟩:=hf p.1 hb
  obtain ⟨o,e',d⟩:=ho p.1 hb
  rw [e] at e';cases e'
  exact ⟨e,f0,f1,f2,d⟩
theorem Inv.unpinned {pins pl:List (au × Obj)} (I:Inv X (pins ++ pl) σ H s):Inv X pins σ H s:=I.pins_of fun p hp=>I.pin p (bR _ (f9 _ hp))
theorem xK {iter:Expr}{body:List cw}{wi:TI}{g:TG}{tb:TS}{pos:Pos}(hp:PassesOwn (aN X.prog X.w) X.A X.env X.xe)(hc:X.calm=true)(hi:PI X tg iter wi)(hg:PG X tg g)(hb:PSs X body tb)
  (hs:∀ x,fB iter X.env x=pure x:=by intro _;rfl):PS X (.For tg iter body [] pos) (EJ wi g tb):=by
 intro pins s σ H D I h
 refine wpAny_For (thn (hi pins s σ H _ I h) fun v s1 h1=>thn h1 fun itv s2 h2=>?_) hs
 obtain ⟨it,fp,tn,J,H2,e,I2,T,st2,f2,W,⟨m0,w0⟩,turn⟩:=h2
 subst e
 have stat:∀ {H':Hp},(∀ b ∈ fp,H' b=none)->∀ b ∈ fp,vI X pins H' b:=fun hn b hb=>⟨hn b hb,(f2 b hb).2⟩
 refine codeAny_forLoop_any (fun n s'=>∃ i σ' H',Inv X pins σ' H' s'/\tn i s'.heap/\(∀ b ∈ fp,H' b=none)/\W i n σ' H') ?_ m0 ⟨0,σ,H2,I2,st2,fun b hb=>(f2 b hb).1,w0⟩
 rintro n s3 ⟨i,σ3,H3,I3,st3,fr3,w3⟩
 rcases turn i n σ3 H3 w3 with ⟨stop,qn⟩ | ⟨go,N,hN,step⟩
 ·refine fg hp (thn (T.done X rfl rfl rfl hc i pins s3 σ3 H3 X.xe I3 (stat fr3) st3 stop) fun r s4 ⟨hr,I4⟩=>?_)
  subst hr
  exact ff ⟨σ3,H3,I4,qn⟩
 ·refine fg hp (thn (T.item X rfl rfl rfl hc i pins s3 σ3 H3 X.xe I3 (stat fr3) st3 go) fun r s4 ⟨u,hr,h4⟩=>?_)
  subst hr
  refine fg hp (thn h4 fun _ s5 ⟨x,H5,I5,r5,y5,st5,fr5⟩=>?_)
  have I5':=I5.pinned (stat fr5) (T.obj _ _ st5)
  refine fg hp (thn (hg _ s5 σ3 H5 x u _ I5' r5 (step x H5 y5)) fun _ s6 ⟨σ6,H6,I6,q6⟩=>?_)
  refine fg hp (thn (hb _ s6 σ6 H6 _ I6 q6) fun f s7 q7=>?_)
  have again:∀ {σ7:St} {H7:Hp},Inv X (pins ++ wO fp s5.heap) σ7 H7 s7->N σ7 H7->∃ m,m<n/\∃ i σ' H',Inv X pins σ' H' s7/\tn i s7.heap/\(∀ b ∈ fp,H' b=none)/\W i m σ' H':=fun {σ7 H7} I7 n7=>by
   obtain ⟨m',hm,w7⟩:=hN σ7 H7 n7
   refine ⟨m',hm,i+1,σ7,H7,I7.unpinned,T.keep _ _ _ st5 fun b hb o e=>(I7.pin (b,o) (bR _ (bR _ (kQ hb e)))).1,fun b hb=>?_,w7⟩
   obtain ⟨o,e,d⟩:=T.obj _ _ st5 b hb
   exact (I7.pin (b,o) (bR _ (bR _ (kQ hb e)))).2.1
  cases f with
  | next=>obtain ⟨σ7,H7,I7,n7⟩:=q7;exact again I7 n7
  | cont=>obtain ⟨σ7,H7,I7,n7⟩:=q7;exact again I7 n7
  | brk=>obtain ⟨σ7,H7,I7,q7⟩:=q7;exact ⟨σ7,H7,I7.unpinned,q7⟩
  | ret v=>obtain ⟨x7,σ7,H7,I7,r7,q7⟩:=q7;exact ⟨x7,σ7,H7,I7.unpinned,r7,q7⟩
end
abbrev R2:=V->V->Hp->VK->Prop
def OpR (X:Cx)(f:aj->aj->Sem aj)(r:R2):Prop:=
 ∀ (pins:List (au × Obj)) (s:aw) (σ:St) (H:Hp) (x y:V) (v u:aj) (Q:VK),Inv X pins σ H s->zA x v->zA y u->r x y H Q ->
  aO (aN X.prog X.w) X.A (f v u) (EP X pins σ Q) X.xe s
def UnR (X:Cx)(f:aj->Sem aj)(r:V->Hp->VK->Prop):Prop:=
 ∀ (pins:List (au × Obj)) (s:aw) (σ:St) (H:Hp) (x:V) (v:aj) (Q:VK),Inv X pins σ H s->zA x v->r x H Q ->
  aO (aN X.prog X.w) X.A (f v) (EP X pins σ Q) X.xe s
def jT (X:Cx)(f:aj)(r:List V->Hp->VK->Prop):Prop:=
 ∀ (pins:List (au × Obj)) (s:aw) (σ:St) (H:Hp) (xs:List V) (us:List aj) (Q:VK),Inv X pins σ H s->zF xs us->r xs H Q ->
  aO (aN X.prog X.w) X.A (call f us) (EP X pins σ Q) X.xe s
noncomputable def tOp (r:R2)(ta tb:TE):TE:=fun σ H Q=>ta σ H fun x H1=>tb σ H1 fun y H2=>r x y H2 Q
noncomputable def tUn (r:V->Hp->VK->Prop)(ta:TE):TE:=fun σ H Q=>ta σ H fun x H1=>r x H1 Q
noncomputable def rI (C:Int->Int->Prop)(g:Int->Int->V):R2:=fun x y H Q=>∃ i j,x=.int i/\y=.int j/\C i j/\Q (g i j) H
noncomputable def rI0 (g:Int->Int->V):R2:=fun x y H Q=>∃ i j,x=.int i/\y=.int j/\Q (g i j) H
noncomputable def rU (g:Int->V):V->Hp->VK->Prop:=fun x H Q=>∃ i,x=.int i/\Q (g i) H
section
variable {X:Cx}{a b c:Expr}{ta tb tc:TE}{pos:Pos}
variable {f:aj->aj->Sem aj}
theorem HI (ha:PE X a ta)(hb:PE X b tb) {R:V->V->Hp->Prop}(I:Inv X pins σ H s)
  (h:ta σ H fun x H1=>tb σ H1 fun y H2=>R x y H2) {Q:aj->aw->Prop}
  (hf:∀ v u s2 x y H2,Inv X pins σ H2 s2->zA x v->zA y u->R x y H2->aO (aN X.prog X.w) X.A (f v u) Q X.xe s2) :
  aO (aN X.prog X.w) X.A (eval a X.env) (fun v s₁=>aO (aN X.prog X.w) X.A (eval b X.env) (fun u s₂=>aO (aN X.prog X.w) X.A (f v u) Q X.xe s₂) X.xe s₁) X.xe s:=by
 refine thn (ha pins s σ H _ I h) fun v s1 ⟨x,H1,I1,r1,q1⟩=>?_
 refine thn (hb pins s1 σ H1 _ I1 q1) fun u s2 ⟨y,H2,I2,r2,q2⟩=>?_
 exact hf v u s2 x y H2 I2 r1 r2 q2
theorem zE {op:Operator}{r:R2}(ho:OpR X (gb op) r)(ha:PE X a ta)(hb:PE X b tb):PE X (.BinOp a op b pos) (tOp r ta tb):=by
 intro pins s σ H Q I h
 exact wpAny_BinOp (HI ha hb I h fun v u s2 x y H2 I2 rx ry q=>ho pins s2 σ H2 x y v u Q I2 rx ry q)
theorem GB {op:UnaryOp}{r:V->Hp->VK->Prop}(ho:UnR X (unaryOp op) r)(ha:PE X a ta):PE X (.UnaryOp op a pos) (tUn r ta):=by
 intro pins s σ H Q I h
 exact UnaryOp_ (thn (ha pins s σ H _ I h) fun v s1 ⟨x,H1,I1,r1,q1⟩=>ho pins s1 σ H1 x v Q I1 r1 q1)
variable {g:Int->Int->Int}
theorem opI {C:Int->Int->Prop}
  (rule:∀ (i j:Int) (t u:Tok) (s:aw) (Q:aj->aw->Prop) (E:aj->aw->Prop),C i j->Q (.int (g i j) s.toks) { s with toks:=s.toks+1 }->aO (aN X.prog X.w) X.A (f (.int i t) (.int j u)) Q E s) :
  OpR X f (rI C fun i j=>.int (g i j)):=by
 intro pins s σ H x y v u Q I rx ry h
 obtain ⟨i,j,rfl,rfl,hc,q⟩:=h
 obtain ⟨t,rfl⟩:=rx
 obtain ⟨t',rfl⟩:=ry
 exact rule i j t t' s _ _ hc ⟨.int (g i j),H,I.tok _,⟨_,rfl⟩,q⟩
theorem LV
  (rule:∀ (i j:Int) (t u:Tok) (s:aw) (Q:aj->aw->Prop) (E:aj->aw->Prop),Q (.int (g i j) s.toks) { s with toks:=s.toks+1 }->aO (aN X.prog X.w) X.A (f (.int i t) (.int j u)) Q E s) :
  OpR X f (rI0 fun i j=>.int (g i j)):=by
 intro pins s σ H x y v u Q I rx ry h
 obtain ⟨i,j,rfl,rfl,q⟩:=h
 obtain ⟨t,rfl⟩:=rx
 obtain ⟨t',rfl⟩:=ry
 exact rule i j t t' s _ _ ⟨.int (g i j),H,I.tok _,⟨_,rfl⟩,q⟩
theorem E3 {g:Int->Int->Bool}
  (rule:∀ (i j:Int) (t u:Tok) (s:aw) (Q:aj->aw->Prop) (E:aj->aw->Prop),Q (.bool (g i j)) s->aO (aN X.prog X.w) X.A (f (.int i t) (.int j u)) Q E s) :
  OpR X f (rI0 fun i j=>.bl (g i j)):=by
 intro pins s σ H x y v u Q I rx ry h
 obtain ⟨i,j,rfl,rfl,q⟩:=h
 obtain ⟨t,rfl⟩:=rx
 obtain ⟨t',rfl⟩:=ry
 exact rule i j t t' s _ _ ⟨.bl (g i j),H,I,rfl,q⟩
def HY (i j:Int):Prop:=0<j/\j<1073741824
def Nf (i j:Int):Prop:=0<=j/\j<=1000000/\i.natAbs<2 ^ 64
def Ao (i j:Int):Prop:=(-(2 ^ 64)<i/\i<2 ^ 64) \/ (-(2 ^ 64)<j/\j<2 ^ 64)
theorem Ao.ok {i j:Int}(h:Ao i j):IntMulOk i j:=by
 rcases h with ⟨h1,h2⟩ | ⟨h1,h2⟩
 ·exact .of_left (intBits_le_64 h1 h2)
 ·exact .of_right (intBits_le_64 h1 h2)
theorem qV:OpR X (gb .Add) (rI0 fun i j=>.int (i+j)):=LV fun _ _ _ _ _ _ _ q=>add_int q
theorem ya:OpR X (gb .Sub) (rI0 fun i j=>.int (i - j)):=LV fun _ _ _ _ _ _ _ q=>sub_int q
theorem xl:OpR X (gb .Mult) (rI Ao fun i j=>.int (i * j)):=opI fun _ _ _ _ _ _ _ hc q=>mul_int q hc.ok
theorem X7:OpR X (gb .FloorDiv) (rI HY fun i j=>.int (i / j)):=opI fun i j _ _ _ _ _ hc q=>by
 have h1:(0:Int)<j:=hc.1
 have h2:j<1073741824:=hc.2
 exact floordiv_int (by omega) (by rw [gz i (by omega)];exact q) (.inl (ia (by omega)))
theorem kj:OpR X (gb .Mod) (rI (fun _ j=>0<j) fun i j=>.int (i % j)):=opI fun i j _ _ _ _ _ hc q=>by
 have h1:(0:Int)<j:=hc
 exact mod_int' (by omega) (by rw [gA i (by omega)];exact q)
theorem AD:OpR X (gb .Pow) (rI Nf fun i j=>.int (i ^ j.toNat)):=opI fun _ _ _ _ _ _ _ hc q=>pow_int_small hc.1 hc.2.1 hc.2.2 q
theorem unI {f:aj->Sem aj}{g:Int->Int}
  (rule:∀ (i:Int) (t:Tok) (s:aw) (Q:aj->aw->Prop) (E:aj->aw->Prop),Q (.int (g i) s.toks) { s with toks:=s.toks+1 }->aO (aN X.prog X.w) X.A (f (.int i t)) Q E s) :
  UnR X f (rU fun i=>.int (g i)):=by
 intro pins s σ H x v Q I rx h
 obtain ⟨i,rfl,q⟩:=h
 obtain ⟨t,rfl⟩:=rx
 exact rule i t s _ _ ⟨.int (g i),H,I.tok _,⟨_,rfl⟩,q⟩
theorem A7:UnR X (unaryOp .USub) (rU fun i=>.int (-i)):=unI fun _ _ _ _ _ q=>neg_int q
end
noncomputable def MV:V->V->Bool
 | .non,.non=>true | .non,.int _=>true | .int _,.non=>true | .non,.bl _=>true | .bl _,.non=>true | .non,.str _=>true | .str _,.non=>true
 | .int _,.int _=>true | .bl _,.bl _=>true | .str _,.str _=>true | .byt _,.byt _=>true
 | .int _,.str _=>true | .str _,.int _=>true | .bl _,.str _=>true | .str _,.bl _=>true
 | _,_=>false
noncomputable def rEq:R2:=fun x y H Q=>MV x y=true/\Q (.bl (decide (x=y))) H
theorem Gd {i j:Int}:decide (V.int i=V.int j)=(i == j):=by
 rw [fh]
 simp
theorem Iq {i j:Bool}:decide (V.bl i=V.bl j)=(i == j):=by
 rw [fh]
 simp
theorem El {i j:Str}:decide (V.str i=V.str j)=(i == j):=by
 rw [fh]
 simp
theorem En {i j:Array UInt8}:decide (V.byt i=V.byt j)=(i.toList == j.toList):=by
 rw [fh]
 cases i
 cases j
 simp
section
variable {X:Cx}{a b c:Expr}{ta tb tc:TE}{pos:Pos}
theorem qN {Q:VK}{k k':Bool}(I:Inv X pins σ H s)(q:Q (.bl k) H)(e:k=k'):EP X pins σ Q (.bool k') s:=by
 subst e
 exact ⟨.bl k,H,I,rfl,q⟩
theorem GF:OpR X (cJ .Eq) rEq:=by
 intro pins s σ H x y v u Q I rx ry h
 obtain ⟨hs,q⟩:=h
 cases x with
 | non=>
  cases rx
  cases y with
  | non=>cases ry;exact PySem.EqNone.eq_none_none (qN I q (by simp))
  | bl j=>cases ry;exact PySem.EqNone.eq_none_bool (qN I q (by simp))
  | int j=>obtain ⟨t',rfl⟩:=ry;exact PySem.EqNone.eq_none_int (qN I q (by simp))
  | str j=>obtain ⟨t',rfl⟩:=ry;exact PySem.EqNone.eq_none_str (qN I q (by simp))
  | _=>exact absurd (show false=true from hs) bf
 | bl i=>
  cases rx
  cases y with
  | non=>cases ry;exact PySem.EqNone.eq_bool_none (qN I q (by simp))
  | bl j=>cases ry;exact eq_bool (qN I q Iq)
  | str j=>obtain ⟨t',rfl⟩:=ry;exact PySem.EqMixed.eq_bool_str (qN I q (by simp))
  | _=>exact absurd (show false=true from hs) bf
 | int i=>
  obtain ⟨t,rfl⟩:=rx
  cases y with
  | non=>cases ry;exact PySem.EqNone.eq_int_none (qN I q (by simp))
  | int j=>obtain ⟨t',rfl⟩:=ry;exact eq_int (qN I q Gd)
  | str j=>obtain ⟨t',rfl⟩:=ry;exact PySem.EqMixed.eq_int_str (qN I q (by simp))
  | _=>exact absurd (show false=true from hs) bf
 | str i=>
  obtain ⟨t,rfl⟩:=rx
  cases y with
  | non=>cases ry;exact PySem.EqNone.eq_str_none (qN I q (by simp))
  | bl j=>cases ry;exact PySem.EqMixed.eq_str_bool (qN I q (by simp))
  | int j=>obtain ⟨t',rfl⟩:=ry;exact PySem.EqMixed.eq_str_int (qN I q (by simp))
  | str j=>obtain ⟨t',rfl⟩:=ry;exact eq_str (qN I q El)
  | _=>exact absurd (show false=true from hs) bf
 | byt i=>
  obtain ⟨t,rfl⟩:=rx
  cases y with
  | byt j=>obtain ⟨t',rfl⟩:=ry;exact PySem.W.eq_bytes (qN I q En)
  | _=>exact absurd (show false=true from hs) bf
 | _=>cases y <;> exact absurd (show false=true from hs) bf
theorem G8:OpR X (cJ .Lt) (rI0 fun i j=>.bl (decide (i<j))):=E3 fun _ _ _ _ _ _ _ q=>lt_int q
theorem GH:OpR X (cJ .LtE) (rI0 fun i j=>.bl (decide (i<=j))):=E3 fun _ _ _ _ _ _ _ q=>le_int q
theorem GK:OpR X (cJ .Gt) (rI0 fun i j=>.bl (decide (j<i))):=E3 fun _ _ _ _ _ _ _ q=>gt_int q
theorem MQ:OpR X (cJ .GtE) (rI0 fun i j=>.bl (decide (j<=i))):=E3 fun _ _ _ _ _ _ _ q=>ge_int q
theorem ka:OpR X (cJ .Is) (fun x y H Q=>y=.non/\Q (.bl (decide (x=.non))) H):=by
 intro pins s σ H x y v u Q I rx ry h
 obtain ⟨rfl,q⟩:=h
 cases ry
 refine is_none_gen (qN I q ?_)
 cases x <;> first
  | (cases rx;rfl)
  | (obtain ⟨t,rfl⟩:=rx;rfl)
theorem jJ:OpR X (cJ .IsNot) (fun x y H Q=>y=.non/\Q (.bl (!decide (x=.non))) H):=by
 intro pins s σ H x y v u Q I rx ry h
 obtain ⟨rfl,q⟩:=h
 cases ry
 refine isnot_none_gen (qN I q ?_)
 cases x <;> first
  | (cases rx;rfl)
  | (obtain ⟨t,rfl⟩:=rx;rfl)
variable {op:mB}
theorem zr (b:Expr) (h:op ≠ .In:=by decide)(h2:op ≠ .NotIn:=by decide):et op b=false:=by
 have e1:(op == mB.In)=false:=by cases op <;> first | rfl | exact absurd rfl h
 have e2:(op == mB.NotIn)=false:=by cases op <;> first | rfl | exact absurd rfl h2
 cases b <;> simp [et,e1,e2]
variable {r:R2}
theorem qU (ho:OpR X (cJ op) r)(ha:PE X a ta)(hb:PE X b tb)(hm:et op b=false):PE X (.Compare a [op] [b] pos) (tOp r ta tb):=by
 intro pins s σ H Q I h
 exact wpAny_Compare1 (HI ha hb I h fun v u s2 x y H2 I2 rx ry q=>ho pins s2 σ H2 x y v u Q I2 rx ry q) hm
noncomputable def Yk (t:TE):TT:=fun σ H Q=>t σ H fun x H'=>∃ k,x=.bl k/\Q k H'
theorem zp (ho:OpR X (cJ op) r)(ha:PE X a ta)(hb:PE X b tb)(hm:et op b=false):PT X (.Compare a [op] [b] pos) (Yk (tOp r ta tb)):=by
 intro pins s σ H Q I h
 refine wpAny_isTrue_Compare1 (thn (ha pins s σ H _ I h) fun v s1 ⟨x,H1,I1,r1,q1⟩=>thn (hb pins s1 σ H1 _ I1 q1) fun u s2 ⟨y,H2,I2,r2,q2⟩=>
  thn (ho pins s2 σ H2 x y v u _ I2 r1 r2 q2) fun c s3 ⟨z,H3,I3,r3,k,e,q3⟩=>?_) hm
 subst e
 cases r3
 exact cP ⟨H3,I3,q3⟩
noncomputable def Xq (r r':R2)(ta tb tc:TE):TE:=fun σ H Q=>ta σ H fun x H1=>tb σ H1 fun y H2=>r x y H2 fun z H3=>∃ k,z=.bl k /\
 (if k=true then tc σ H3 fun w' H4=>r' y w' H4 Q else Q (.bl false) H3)
theorem Bu {op op':mB}{r r':R2}(ho:OpR X (cJ op) r)(ho':OpR X (cJ op') r')(ha:PE X a ta)(hb:PE X b tb)(hc:PE X c tc)
  (hm:lastMarks [op,op'] [b,c]=false:=by with_unfolding_all rfl):PE X (.Compare a [op,op'] [b,c] pos) (Xq r r' ta tb tc):=by
 intro pins s σ H Q I h
 refine Compare_chain (thn (ha pins s σ H _ I h) fun v s1 ⟨x,H1,I1,r1,q1⟩=>chain_link (thn (hb pins s1 σ H1 _ I1 q1) fun u s2 ⟨y,H2,I2,r2,q2⟩=>
  thn (ho pins s2 σ H2 x y v u _ I2 r1 r2 q2) fun d s3 ⟨z,H3,I3,r3,k,e,q3⟩=>?_)) hm
 subst e
 cases r3
 refine cP ?_
 cases k with
 | false=>exact ite_ff ⟨.bl false,H3,I3,rfl,q3⟩
 | true=>exact ite_tt (chain_last (thn (hc pins s3 σ H3 _ I3 q3) fun w' s4 ⟨z',H4,I4,r4,q4⟩=>ho' pins s4 σ H4 y z' u w' Q I4 r2 r4 q4))
theorem Bg {op op':mB}{r r':R2}(ho:OpR X (cJ op) r)(ho':OpR X (cJ op') r')(ha:PE X a ta)(hb:PE X b tb)(hc:PE X c tc)
  (hm:lastMarks [op,op'] [b,c]=false:=by with_unfolding_all rfl):PT X (.Compare a [op,op'] [b,c] pos) (Yk (Xq r r' ta tb tc)):=by
 intro pins s σ H Q I h
 refine isTrue_chain (thn (ha pins s σ H _ I h) fun v s1 ⟨x,H1,I1,r1,q1⟩=>test_link (thn (hb pins s1 σ H1 _ I1 q1) fun u s2 ⟨y,H2,I2,r2,q2⟩=>
  thn (ho pins s2 σ H2 x y v u _ I2 r1 r2 q2) fun d s3 ⟨z,H3,I3,r3,k,e,q3⟩=>?_)) hm
 subst e
 cases r3
 refine cP ?_
 cases k with
 | false=>
  obtain ⟨k',e',q'⟩:=q3
  cases e'
  exact ite_ff ⟨H3,I3,q'⟩
 | true=>
  refine ite_tt (test_last (thn (hc pins s3 σ H3 _ I3 q3) fun w' s4 ⟨z',H4,I4,r4,q4⟩=>thn (ho' pins s4 σ H4 y z' u w' _ I4 r2 r4 q4) fun d' s5 ⟨z2,H5,I5,r5,k2,e2,q5⟩=>?_))
  subst e2
  cases r5
  exact cP ⟨H5,I5,q5⟩
theorem wU:(aM:Nat)<2 ^ 63:=by rw [cg];decide
theorem xw {x:V}{us:List aj}(r:zF [x] us):∃ u,us=[u]/\zA x u:=by
 cases r with
 | cons r1 r2=>cases r2;exact ⟨_,rfl,r1⟩
theorem QT {x y:V}{us:List aj}(r:zF [x,y] us):∃ u w',us=[u,w']/\zA x u/\zA y w':=by
 cases r with
 | cons r1 r2=>
  cases r2 with
  | cons r3 r4=>cases r4;exact ⟨_,_,rfl,r1,r3⟩
theorem Q4:jT X (.builtin "abs") (fun xs H Q=>∃ i,xs=[.int i]/\Q (.int (if i<0 then -i else i)) H):=by
 intro pins s σ H xs us Q I r h
 obtain ⟨i,rfl,q⟩:=h
 obtain ⟨u,rfl,t,rfl⟩:=xw r
 exact call_abs_int fun u tk=>⟨.int (if i<0 then -i else i),H,I.tok _,⟨_,rfl⟩,q⟩
theorem Zy (hc:X.calm=true):jT X (.builtin "max") (fun xs H Q=>∃ i j,xs=[.int i,.int j]/\Q (.int (if j > i then j else i)) H):=by
 intro pins s σ H xs us Q I r h
 obtain ⟨i,j,rfl,q⟩:=h
 obtain ⟨u,w',rfl,⟨t,rfl⟩,⟨t',rfl⟩⟩:=QT r
 refine max_two_ints (I.ok.hd hc) fun h' tk k=>⟨_,H,I.kept k,?_,q⟩
 by_cases hj:j > i
 ·rw [if_pos hj,if_pos hj];exact ⟨_,rfl⟩
 ·rw [if_neg hj,if_neg hj];exact ⟨_,rfl⟩
theorem Y4:jT X (.type "int") (fun xs H Q=>(∃ i,xs=[.int i]/\Q (.int i) H) \/ ∃ k,xs=[.bl k]/\Q (.int (if k then 1 else 0)) H):=by
 intro pins s σ H xs us Q I r h
 rcases h with ⟨i,rfl,q⟩ | ⟨k,rfl,q⟩
 ·obtain ⟨u,rfl,t,rfl⟩:=xw r
  exact call_int_int ⟨.int i,H,I,⟨_,rfl⟩,q⟩
 ·obtain ⟨u,rfl,r1⟩:=xw r
  cases r1
  exact call_int_bool ⟨.int (if k then 1 else 0),H,I.tok _,⟨_,rfl⟩,q⟩
theorem JF:jT X (.builtin "divmod") (fun xs H Q=>∃ i j,xs=[.int i,.int j]/\HY i j/\∀ p,H p=none->Q (.ref p) (upd H p (.tup [.int (i / j),.int (i % j)]))):=by
 intro pins s σ H xs us Q I r h
 obtain ⟨i,j,rfl,⟨h1,h2⟩,q⟩:=h
 obtain ⟨u,w',rfl,⟨t,rfl⟩,⟨t',rfl⟩⟩:=QT r
 refine divmod_int (by omega) ?_ (.inl (ia (by omega)))
 rw [gz i (by omega),gA i (by omega)]
 have hn:H s.heap.objs.size=none:=I.hok.fresh (aJ _)
 refine ⟨.ref s.heap.objs.size,_,?_,rfl,q _ hn⟩
 refine I.laid (fun b o e=>az _ e) (aJ _) ⟨by simp only [aT,fj];rw [cg];decide,[.int (i / j) s.toks,.int (i % j) (s.toks+1)],.cons ⟨_,rfl⟩ (.cons ⟨_,rfl⟩ .nil),?_⟩
 exact ⟨_,aW s.heap rfl,rfl,⟨0,rfl⟩,rfl⟩
end
structure KN (h:Heap)(x dx C:au)(mA:Str->Option aj):Prop where
 obj:h.get? x=some (dr C dx)
 ns:h.Ns1 dx mA
 ne:dx ≠ x
variable {mA:Str->Option aj}
theorem Zs {h:Heap}{dx:au} (n:h.Ns1 dx mA):∃ od,h.get? dx=some od/\∀ name,fC name od=some (mA name):=by
 obtain ⟨o,es,ep,ho,hd,hk,_,hm⟩:=n
 refine ⟨o,ho,fun name=>?_⟩
 have e:=hm name
 unfold nsFind findBy at e
 rw [<- lr] at e
 unfold fC
 rw [hd]
 dsimp only
 split
 ·rename_i y q
  rw [q] at e
  exact congrArg some e
 ·rename_i q
  rw [q] at e
  have a:es.toList.any (·.refKey)=false:=by
   rw [List.any_eq_false]
   intro y hy
   obtain ⟨z,t,hkey⟩:=hk y (iK.mp hy)
   simp [DictEntry.refKey,hkey]
  have a':¬ es.toList.any (·.refKey)=true:=by rw [a];exact bf
  rw [if_neg a']
  exact congrArg some e
theorem KN.look {h:Heap}{x dx C:au} (I:KN h x dx C mA):∃ od,PySem.W.InstAt h x (dr C dx) C (some od)/\∀ name,fC name od=some (mA name):=
 let ⟨od,ho,hl⟩:=Zs I.ns
 ⟨od,⟨I.obj,rfl,rfl,ho⟩,hl⟩
section
variable {prog:aS}{w:bo}{A:aZ}{E:aj->aw->Prop}{s:aw}{K:ax}{x dx C f:au}{mA:Str->Option aj}{name:Str}{v:aj}
theorem Gu {expr:Bool}{Q:aj->aw->Prop}(X:K.In s.heap)(I:KN s.heap x dx C mA)(hg:eP K C name=true)(hh:dQ K C=true)
  (ha:bt K (.ref C) name=some none) (hv:mA name=some v) (hv':gX v=true) (h:Q v { s with toks:=s.toks+1 }) :
  aO (aN prog w) A (mE (.ref x) name expr) Q E s:=by
 obtain ⟨od,J,hl⟩:=I.look
 exact PySem.W.get_value X J (gn hg).1 (i6 hh ha rfl (by rw [hl,hv])) hv' h
theorem Au {pl:Sem Bool}{Q:aj × List aj->aw->Prop}(X:K.In s.heap)(I:KN s.heap x dx C mA)(hg:eP K C name=true)
  (hf:bt K (.ref C) name=some (some (.ref f))) (ht:cZ K (.ref f)=true) (hv:mA name=none) (h:Q (.ref f,[.ref x]) s) :
  aO (aN prog w) A (getMethod (.ref x) name pl) Q E s:=by
 obtain ⟨od,J,hl⟩:=I.look
 exact PySem.W.method_fn X J (gn hg).1 (gn hg).2 hf (beq_iff_eq.mp ht) (by show (fC name od).map (·.isSome)=some false;rw [hl,hv];rfl) h
theorem ZK {ns:List Str}{Q:Unit->aw->Prop}(X:K.In s.heap)(I:KN s.heap x dx C mA)
  (hs:bt K (.ref C) "__setattr__"=some (some (.builtin "object.__setattr__"))) (hp:gO K C=true) (ht:iB K C name=some none) (hh:dQ K C=true)
  (hw:gr mA ns) (hsz:ns.length<=aM)
  (h:∀ h',KN h' x dx C (fun y=>if y=name then some v else mA y)->bU dx s.heap h'->Q () { s with heap:=h',toks:=s.toks+2 }) :
  aO (aN prog w) A (setAttr (.ref x) name v) Q E s:=by
 obtain ⟨od,J,hl⟩:=I.look
 refine gP X J hs (PySem.W.osa_open (s:={ s with toks:=s.toks+1 }) (r:=none) X J hp ht fun b=>?_)
 obtain ⟨cd,hc,hd'⟩:=fP hh
 have hx:s.heap.get? x=some ⟨.ref C,some dx,.plain,#[]⟩:=I.obj
 refine ap (aL (ap (ap (iL hx (ap (eu.here (s:={ s with toks:=s.toks+1 }) (eY X hc) ?_))))))
 rw [hd']
 refine aL (a:=some dx) (ap (aL (ap ?_)))
 refine lF (s:={ s with toks:=s.toks+1 }) I.ns fun h' hn2 hs2=>?_
 obtain ⟨oD,esD,epD,hoD,hdD,hcD⟩:=hn2.count (gr.cons name v hw)
 refine ap (gY hoD (by rw [hdD];exact gZ (bb hcD (by rw [aT];omega))) ?_)
 exact aL (h _ ⟨(hs2.2 _ (Ne.symm I.ne)).trans I.obj,hn2,I.ne⟩ hs2)
theorem Br {R:lW->aw->Prop}{vs:List aj}{kw:List (Str × aj)}(X:K.In s.heap)(hm:iC K C=true)
  (hi:bt K (.ref C) "__init__"=some (some (.ref f))) (hf:PySem.W.typeIn K (.ref f)=some (.type "function"))
  (h:fk (aN prog w) (A.under (.builtin "type.__call__" ⟨.ref C :: vs,kw⟩)) (.call (.ref f) ⟨.ref (s.heap.objs.size+1) :: vs,kw⟩) (PySem.W.InitBack (s.heap.objs.size+1) R)
   { s with heap:=(s.heap.push cy).push (dr C s.heap.objs.size) }) :
  fk (aN prog w) A (.call (.ref C) ⟨vs,kw⟩) R s:=by
 obtain ⟨hh,g,d,t,os⟩:=s
 exact PySem.W.make_core (PySem.W.makes_of X hm) (eI X hi) (fun self=>PySem.W.bind_fn X self hf) (.inl rfl) h
end
noncomputable def jD (f:Str)(v:V):List (Str × V)->List (Str × V)
 | []=>[(f,v)]
 | (g,x) :: r=>if g=f then (g,v) :: r else (g,x) :: jD f v r
theorem j6 (f g:Str)(v:V):∀ fs:List (Str × V),(jD f v fs).lookup g=if g=f then some v else fs.lookup g
 | []=>by
  show cU g [(f,v)]=_
  by_cases h:g=f
  ·have hb:(g == f)=true:=beq_iff_eq.mpr h
   simp only [cU,hb,if_pos h]
  ·have hb:(g == f)=false:=beq_eq_false_iff_ne.mpr h
   simp only [cU,hb,if_neg h]
 | (k,x) :: r=>by
  have ih:=j6 f g v r
  rw [show jD f v ((k,x) :: r)=(if k=f then (k,v) :: r else (k,x) :: jD f v r) from rfl]
  by_cases hk:k=f
  ·rw [if_pos hk]
   by_cases h:g=k
   ·have hb:(g == k)=true:=beq_iff_eq.mpr h
    simp only [cU,hb,if_pos (h.trans hk)]
   ·have hb:(g == k)=false:=beq_eq_false_iff_ne.mpr h
    simp only [cU,hb,if_neg (fun e:g=f=>h (e.trans hk.symm))]
  ·rw [if_neg hk]
   by_cases h:g=k
   ·have hb:(g == k)=true:=beq_iff_eq.mpr h
    simp only [cU,hb,if_neg (fun e:g=f=>hk (h.symm.trans e))]
   ·have hb:(g == k)=false:=beq_eq_false_iff_ne.mpr h
    simp only [cU,hb]
    exact ih
theorem kJ (f:Str)(v:V):∀ fs:List (Str × V),f ∈ (jD f v fs).map (·.1)/\∀ g,g ∈ fs.map (·.1)->g ∈ (jD f v fs).map (·.1)
 | []=>⟨by simp [jD],fun g h=>by simp at h⟩
 | (k,x) :: r=>by
  obtain ⟨i1,i2⟩:=kJ f v r
  rw [show jD f v ((k,x) :: r)=(if k=f then (k,v) :: r else (k,x) :: jD f v r) from rfl]
  by_cases hk:k=f
  ·rw [if_pos hk]
   subst hk
   exact ⟨by simp,fun g h=>by simpa using h⟩
  ·rw [if_neg hk]
   refine ⟨?_,fun g h=>?_⟩
   ·rw [aV]
    exact aX _ i1
   ·rw [aV] at h ⊢
    rcases aA.mp h with e | e
    ·exact aA.mpr (.inl e)
    ·exact aX _ (i2 g e)
theorem vh (f:Str)(v:V):∀ fs:List (Str × V),(jD f v fs).length<=fs.length+1
 | []=>by simp [jD]
 | (k,x) :: r=>by
  have ih:=vh f v r
  rw [show jD f v ((k,x) :: r)=(if k=f then (k,v) :: r else (k,x) :: jD f v r) from rfl]
  by_cases hk:k=f
  ·rw [if_pos hk,aT,aT];omega
  ·rw [if_neg hk,aT,aT];omega
theorem kF.some_of {v:V}{o:Option aj}(r:kF (some v) o):∃ u,o=some u/\zA v u:=by
 cases o with
 | none=>exact (show False from r).elim
 | some u=>exact ⟨u,rfl,r⟩
theorem kF.none_of {o:Option aj}(r:kF none o):o=none:=by
 cases o with
 | none=>rfl
 | some u=>exact (show False from r).elim
theorem Zi {v:V}{u:aj}(r:zA v u):gX u=true:=by
 cases v with
 | non=>cases (show u=aj.none from r);rfl
 | bl b=>cases (show u=aj.bool b from r);rfl
 | int i=>obtain ⟨t,e⟩:=(show ∃ t,u=aj.int i t from r);cases e;rfl
 | str x=>obtain ⟨t,e⟩:=(show ∃ t,u=aj.str x t from r);cases e;rfl
 | byt b=>obtain ⟨t,e⟩:=(show ∃ t,u=aj.bytes b t from r);cases e;rfl
 | flt b=>obtain ⟨t,e⟩:=(show ∃ t,u=aj.float b t from r);cases e;rfl
 | ref a=>cases (show u=aj.ref a from r);rfl
 | ty n=>cases (show u=aj.type n from r);rfl
section
variable {P:aS}{w:bo}{H H':Hp}{h h':Heap}{a C dx:au}{fs fs':List (Str × V)}
theorem vR (hok:HOk P w H h)(e:H a=some (.ins C dx fs)):∃ mA,KN h a dx C mA/\(∀ f,kF (fs.lookup f) (mA f))/\gr mA (fs.map (·.1))/\fs.length<=1000/\H dx=some (.own a):=by
 obtain ⟨d,z,ne,ob,mA,n,r,q⟩:=(show zQ P w H h a (.ins C dx fs) from hok a _ e)
 exact ⟨mA,⟨ob,n,ne⟩,r,q,z,d⟩
end
structure Cls (K:ax)(C:au):Prop where
 pg:eP K C Str.empty=true
 hd:dQ K C=true
 po:gO K C=true
 sa:bt K (.ref C) "__setattr__"=some (some (.builtin "object.__setattr__"))
variable {C:au}
theorem Cls.get (c:Cls K C)(f:Str):eP K C f=true:=c.pg
def jX (K:ax)(C:au)(f:Str):Prop:=bt K (.ref C) f=some none
variable {f:Str}
theorem jX.taker (n:jX K C f):iB K C f=some none:=by
 unfold iB
 rw [show bt K (.ref C) f=some none from n]
 rfl
structure Con (K:ax)(C:au)(f:Str)(v:V)(u:aj):Prop where
 at_:bt K (.ref C) f=some (some u)
 rel:zA v u
 get:fD K u "__get__"=some none
 cp:PySem.W.copiedNames.contains f=false
structure Xh (K:ax)(C:au)(m:Str)(f:au):Prop where
 at_:bt K (.ref C) m=some (some (.ref f))
 fn:cZ K (.ref f)=true
 kp:cR K (.ref f)=true
section
variable {X:Cx}{pins:List (au × Obj)}{σ:St}{H:Hp}{s:aw}{a C dx:au}{fs:List (Str × V)}{f:Str}{v:V}{A:aZ}{E:aj->aw->Prop}
variable {Q:aj->aw->Prop}
theorem Xi {b:Bool} (I:Inv X pins σ H s)(e:H a=some (.ins C dx fs))(c:Cls X.K C)(n:jX X.K C f)(l:fs.lookup f=some v)
  (h:∀ u s',Inv X pins σ H s'->zA v u->Q u s'):aO (aN X.prog X.w) A (mE (.ref a) f b) Q E s:=by
 obtain ⟨mA,O,r,_,_,_⟩:=vR I.hok e
 obtain ⟨u,hu,ru⟩:=kF.some_of (v:=v) (o:=mA f) (by rw [<- l];exact r f)
 exact Gu I.kIn O (c.get f) c.hd n hu (Zi ru) (h u _ (I.tok _) ru)
theorem kX {m:Str}{g:au}{pl:Sem Bool}{Q:aj × List aj->aw->Prop}(I:Inv X pins σ H s)(e:H a=some (.ins C dx fs))(c:Cls X.K C)(k:Xh X.K C m g)(l:fs.lookup m=none)
  (h:Q (.ref g,[.ref a]) s):aO (aN X.prog X.w) A (getMethod (.ref a) m pl) Q E s:=by
 obtain ⟨mA,O,r,_,_,_⟩:=vR I.hok e
 have hn:mA m=none:=kF.none_of (by rw [<- l];exact r m)
 exact Au I.kIn O (c.get m) k.at_ k.fn hn h
theorem Ki {y:V}{u:aj}{Q:Unit->aw->Prop}(I:Inv X pins σ H s)(e:H a=some (.ins C dx fs))(c:Cls X.K C)(n:jX X.K C f)(hl:fs.length<1000)(ry:zA y u)
  (h:∀ s',Inv X pins σ (upd H a (.ins C dx (jD f y fs))) s'->Q () s'):aO (aN X.prog X.w) A (setAttr (.ref a) f u) Q E s:=by
 obtain ⟨mA,O,r,wi,_,ho⟩:=vR I.hok e
 have hz:(fs.map (·.1)).length<=aM:=by rw [aq,cg];omega
 refine ZK I.kIn O c.sa c.po n.taker c.hd wi hz fun h' O' sb=>h _ ?_
 have hd:∃ o,h'.get? dx=some o:=let ⟨o,_,_,e',_⟩:=O'.ns;⟨o,e'⟩
 refine I.write (x:=a) (e:=dx) (by rw [e];exact True.intro) (.inr ho) (fun b q hb z=>(sb.2 b hb).trans z) hd ?_
 refine ⟨by rw [zk O.ne];exact ho,?_,O.ne,O'.obj,_,O'.ns,fun g=>?_,fun g hg=>?_⟩
 ·have:=vh f y fs;omega
 ·show kF ((jD f y fs).lookup g) (if g=f then some u else mA g)
  rw [j6]
  by_cases q:g=f
  ·rw [if_pos q,if_pos q];exact ry
  ·rw [if_neg q,if_neg q];exact r g
 ·by_cases q:g=f
  ·rw [q];exact (kJ f y fs).1
  ·refine (kJ f y fs).2 g (wi g fun z=>hg ?_)
   show (if g=f then some u else mA g)=none
   rw [if_neg q];exact z
theorem Inv.made (I:Inv X pins σ H s):Inv X pins σ (upd (upd H s.heap.objs.size (.own (s.heap.objs.size+1))) (s.heap.objs.size+1) (.ins C s.heap.objs.size []))
  { s with heap:=(s.heap.push cy).push (dr C s.heap.objs.size) }:=by
 have e1:(s.heap.push cy).get? s.heap.objs.size=some cy:=aW s.heap rfl
 have e2:((s.heap.push cy).push (dr C s.heap.objs.size)).get? (s.heap.objs.size+1)=some (dr C s.heap.objs.size):=by
  have:=aW (s.heap.push cy) (o:=dr C s.heap.objs.size) rfl
  rwa [dh] at this
 have e3:(s.heap.push cy).Ns s.heap.objs.size (fun _=>none):=⟨cy,#[],_,e1,rfl,(fun e he=>absurd he (by simp)),fun _=>rfl⟩
 have I1:=I.laid (a:=s.heap.objs.size) (o:=.own (s.heap.objs.size+1)) (h':=s.heap.push cy) (t':=s.toks) (fun b u q=>az _ q) (aJ _) ⟨_,e1⟩
 refine I1.laid (a:=s.heap.objs.size+1) (o:=.ins C s.heap.objs.size []) (t':=s.toks) (fun b u q=>az _ q) (lG (dh _ _)) ?_
 have ne:s.heap.objs.size ≠ s.heap.objs.size+1:=bp (lX _)
 refine ⟨by rw [zk ne,zm],cK _,ne,e2,fun _=>none,(Heap.Ns1.of_empty e3).at fun o q=>az _ q,fun _=>True.intro,fun y hy=>absurd rfl hy⟩
theorem YS {prog:aS} {env:Env} {pos:Pos} (hb:dS e f env (eval e env)=eval e env)
  (h:aO (aN prog w) A (eval e env) (fun o s₁=>aO (aN prog w) A (mE o f true) Q E s₁) E s):aO (aN prog w) A (eval (.Attribute e f pos) env) Q E s:=
 Attribute_any_ h (by rw [arm_eval_Attribute,hb])
end
noncomputable def Hh (K:ax)(ta:TE)(f:Str):TE:=fun σ H Q=>ta σ H fun x H1=>∃ a C dx fs v,x=.ref a/\H1 a=some (.ins C dx fs)/\Cls K C/\jX K C f/\fs.lookup f=some v/\Q v H1
noncomputable def F5 (K:ax)(ta tv:TE)(f:Str):TS:=fun D σ H=>tv σ H fun y H1=>ta σ H1 fun x H2=>∃ a C dx fs,x=.ref a/\H2 a=some (.ins C dx fs)/\Cls K C/\jX K C f/\fs.length<1000 /\
 D.nx σ (upd H2 a (.ins C dx (jD f y fs)))
section
variable {X:Cx}{o e value:Expr}{f:Str}{pos pos' tpos:Pos}{ta tv:TE}
theorem qh (he:PE X e ta)(hb:dS e f X.env (eval e X.env)=eval e X.env):PE X (.Attribute e f pos) (Hh X.K ta f):=by
 intro pins s σ H Q I h
 refine YS hb (thn (he pins s σ H _ I h) fun u s1 ⟨x,H1,I1,rx,a,C,dx,fs,v,ex,ea,c,n,l,q⟩=>?_)
 subst ex
 obtain rfl:u=aj.ref a:=rx
 exact Xi I1 ea c n l fun u' s2 I2 ru=>⟨v,H1,I2,ru,q⟩
theorem xJ (ha:PE X o ta)(hv:PE X value tv)(hs:iZ value (some (.Attribute o f pos')) pos.line X.env=pure false):PS X (.Assign [.Attribute o f pos'] value pos) (F5 X.K ta tv f):=by
 intro pins s σ H D I h
 refine fM (thn (hv pins s σ H _ I h) fun u s1 ⟨y,H1,I1,ry,q⟩=>thn (ha pins s1 σ H1 _ I1 q) fun ov s2 ⟨x,H2,I2,rx,a,C,dx,fs,ex,ea,c,n,l,q2⟩=>?_) hs
 subst ex
 obtain rfl:ov=aj.ref a:=rx
 exact Ki I2 ea c n l ry fun s3 I3=>⟨σ,_,I3,q2⟩
theorem GI {pl:Sem Bool}{m:Str}{apos:Pos}{args:List Expr} {Q:aj->aw->Prop}{te:TE}(he:PE X e te)(I:Inv X pins σ H s)
  (h:te σ H fun x H1=>∃ a C dx fs g,x=.ref a/\H1 a=some (.ins C dx fs)/\Cls X.K C/\Xh X.K C m g/\fs.lookup m=none /\
   ∀ s1,Inv X pins σ H1 s1->aO (aN X.prog X.w) X.A (gc pos (.ref g) [.ref a] (ca pos (aQ args X.env)) (fc pos (dC [] X.env))) Q X.xe s1)
  (ht:eval (.Call (.Attribute e m apos) args [] pos) X.env=(do
   let ov <- eval e X.env
   h8 apos.atName
   let (f,first) <- holding [ov] (getMethod ov m pl)
   gc pos f first (ca pos (aQ args X.env)) (fc pos (dC [] X.env)))) :
  aO (aN X.prog X.w) X.A (eval (.Call (.Attribute e m apos) args [] pos) X.env) Q X.xe s:=by
 refine eB (pl:=pl) (thn (he pins s σ H _ I h) fun u s1 ⟨x,H1,I1,rx,a,C,dx,fs,g,ex,ea,c,k,l,q⟩=>?_) ht
 subst ex
 obtain rfl:u=aj.ref a:=rx
 exact kX I1 ea c k l (q s1 I1)
end
section
variable {X:Cx}{pins:List (au × Obj)}{σ:St}{H:Hp}{s:aw}{A:aZ}{E:aj->aw->Prop}{Q:aj->aw->Prop}{c:aj}{b:Bool}
inductive xD (K:ax) (H:Hp):V->aj->Prop where
  | non:xD K H .non (.type "NoneType")
  | bl (x:Bool):xD K H (.bl x) (.type "bool")
  | int (i:Int):xD K H (.int i) (.type "int")
  | str (x:Str):xD K H (.str x) (.type "str")
  | flt (x:UInt64):xD K H (.flt x) (.type "float")
  | lst {a:au} {xs:List V} (e:H a=some (.lst xs)):xD K H (.ref a) (.type "list")
  | frz {a:au} {o:Obj} {xs:List V} (e:H a=some (.frz o (.lst xs))):xD K H (.ref a) (.type "list")
  | tup {a:au} {xs:List V} (e:H a=some (.tup xs)):xD K H (.ref a) (.type "tuple")
  | dK {a:au} {kvs:List (Key × V)} (e:H a=some (.dK kvs)):xD K H (.ref a) (.type "dict")
  | dT {a:au} {kvs:List (List Key × V)} (e:H a=some (.dT kvs)):xD K H (.ref a) (.type "dict")
  | ins {a C dx : au} {fs : List (Str × V)} (e : H a = some (.ins C dx fs)) (cl : Cls K C) (ha : bt K (.ref C) "__class__" = some (some (.builtin "object.__class__")))
      (hn:fD K (.builtin "object.__class__") "__get__"=some (some (.builtin "getset_descriptor.__get__"))) (htk:iD K (.builtin "object.__class__")=some true)
      (hm:PySem.W.mroIn K C (.type "object")=some true):xD K H (.ref a) (.ref C)
theorem VQ {x:V}{u t:aj}(I:Inv X pins σ H s)(rx:zA x u)(ty:xD X.K H x t)(e:iM X.K t c=some b)(h:∀ tk,Q (.bool b) { s with toks:=tk }) :
  aO (aN X.prog X.w) A (call (.builtin "isinstance") [u,c]) Q E s:=by
 cases ty with
 | non=>cases (show u=aj.none from rx);exact cr lH I.kIn True.intro e (fun z=>nomatch z) h
 | bl y=>cases (show u=aj.bool y from rx);exact cr lI I.kIn True.intro e (fun z=>nomatch z) h
 | int i=>obtain ⟨t,q⟩:=(show ∃ t,u=aj.int i t from rx);cases q;exact cr lY I.kIn True.intro e (fun z=>nomatch z) h
 | str y=>obtain ⟨t,q⟩:=(show ∃ t,u=aj.str y t from rx);cases q;exact cr lZ I.kIn True.intro e (fun z=>nomatch z) h
 | flt y=>obtain ⟨t,q⟩:=(show ∃ t,u=aj.float y t from rx);cases q;exact cr ls I.kIn True.intro e (fun z=>nomatch z) h
 | @lst a xs ea=>
  cases (show u=aj.ref a from rx)
  obtain ⟨_,_,n,_,h1⟩:=(show zQ X.prog X.w H s.heap a (.lst xs) from I.hok a _ ea)
  exact cr fE I.kIn ⟨_,h1,rfl⟩ e (fun z=>nomatch z) h
 | @frz a ob xs ea=>
  cases (show u=aj.ref a from rx)
  obtain ⟨_,_,_,n,_,h1⟩:=(show zQ X.prog X.w H s.heap a (.frz ob (.lst xs)) from I.hok a _ ea)
  exact cr fE I.kIn ⟨_,h1,rfl⟩ e (fun z=>nomatch z) h
 | @tup a xs ea=>
  cases (show u=aj.ref a from rx)
  obtain ⟨_,_,_,p⟩:=(show zQ X.prog X.w H s.heap a (.tup xs) from I.hok a _ ea)
  obtain ⟨o,h1,h2,_⟩:=p
  exact cr lu I.kIn ⟨o,h1,h2⟩ e (fun z=>nomatch z) h
 | @dK a kvs ea=>
  cases (show u=aj.ref a from rx)
  obtain ⟨_,_,vs,_,p⟩:=(show zQ X.prog X.w H s.heap a (.dK kvs) from I.hok a _ ea)
  obtain ⟨o,es,ep,h1,h2,_⟩:=p
  exact cr fF I.kIn ⟨o,h1,h2.1⟩ e (fun z=>nomatch z) h
 | @dT a kvs ea=>
  cases (show u=aj.ref a from rx)
  obtain ⟨_,_,xs,_,o,es,ep,h1,h2,_⟩:=(show zQ X.prog X.w H s.heap a (.dT kvs) from I.hok a _ ea)
  exact cr fF I.kIn ⟨o,h1,h2.1⟩ e (fun z=>nomatch z) h
 | @ins a C dx fs ea cl ha hn htk hm=>
  cases (show u=aj.ref a from rx)
  obtain ⟨mA,O,_⟩:=vR I.hok ea
  obtain ⟨od,J,_⟩:=O.look
  exact cr (PySem.W.kitx_own (cl.get _) cl.hd ha hn htk hm) I.kIn J e (fun z=>nomatch z) h
end
structure qt (k:Nat)(A:aZ):Prop where
 hd:A.handled=none
 gd:A.guards=some []
 dp:A.depth+3 * k+5<fG
 un:A.units+16 * k+200<gf
theorem qt.mono {j k:Nat} (r:qt k A)(h:j<=k):qt j A:=⟨r.hd,r.gd,by have:=r.dp;omega,by have:=r.un;omega⟩
theorem qt.deeper {k:Nat} (r:qt (k+1) A)(env:Env):qt k (A.deeper env):=
 ⟨r.hd,r.gd,by have:=r.dp;show A.depth+1+3 * k+5<_;omega,by have:=r.un;show A.units+3+16 * k+200<_;omega⟩
variable {kw:List (Str × aj)}
theorem wK:(A.under (.builtin "type.__call__" ⟨.ref C :: us,kw⟩)).depth=A.depth+1:=by
 first | rfl | simp [aZ.under,lJ.weight,lJ.isCreation,lJ.isGuard,lJ.isCaller,lJ.frames,lJ.isFrame,guardIds]
theorem wf:(A.under (.builtin "type.__call__" ⟨.ref C :: us,kw⟩)).units=A.units+1:=by
 first | rfl | simp [aZ.under,lJ.cUnits,lJ.frames,lJ.isFrame]
theorem vv:(A.under (.builtin "type.__call__" ⟨.ref C :: us,kw⟩)).guards=A.guards:=by
 first | rfl | (simp [aZ.under,lJ.guards,pushGuards,lJ.isGuard,guardIds])
theorem qt.make {k:Nat} (r:qt (k+1) A)(C:au)(us:List aj)(kw:List (Str × aj)):qt k (A.under (.builtin "type.__call__" ⟨.ref C :: us,kw⟩)):=
 ⟨r.hd,(vv).trans r.gd,by have:=r.dp;rw [wK];omega,by have:=r.un;rw [wf];omega⟩
theorem qt.depth {k:Nat} (r:qt k A):A.depth<fG:=by have:=r.dp;omega
theorem qt.units {k:Nat} (r:qt k A):A.units+64<gf:=by have:=r.un;omega
noncomputable def VX:TA:=fun _ H Q=>Q [] H
noncomputable def Jl (ta:TE)(tr:TA):TA:=fun σ H Q=>ta σ H fun x H1=>tr σ H1 fun xs H2=>Q (x :: xs) H2
section
variable {X:Cx}{e:Expr}{es:List Expr}{te:TE}{t:TA}{pos:Pos}
theorem zb:PA X [] VX:=fun _ _ _ _ H Q I h=>Calls.spliced_nil ⟨[],H,I,.nil,h⟩
theorem za (ha:PE X e te)(hr:PA X es t)(hs:aQ (e :: es) X.env=(false,eval e X.env) :: aQ es X.env:=by rfl):PA X (e :: es) (Jl te t):=by
 intro pos pins s σ H Q I h
 rw [hs]
 show aO _ _ (spliced ((false,eval e X.env) :: ca pos (aQ es X.env))) _ _ s
 refine Calls.spliced_cons (thn (ha pins s σ H _ I h) fun u s1 ⟨x,H1,I1,r1,q1⟩=>?_)
 exact thn (hr pos pins s1 σ H1 _ I1 q1) fun us s2 ⟨xs,H2,I2,r2,q2⟩=>⟨x :: xs,H2,I2,.cons r1 r2,q2⟩
noncomputable def Ar (t:TA):TE:=fun σ H Q=>t σ H fun xs H1=>xs.length<=aM/\∀ p,H1 p=none->Q (.ref p) (upd H1 p (.tup xs))
noncomputable def Ld (t:TA):TE:=fun σ H Q=>t σ H fun xs H1=>xs.length<=aM/\∀ p,H1 p=none->Q (.ref p) (upd H1 p (.lst xs))
theorem zB {x1}(h:PA X es t):PE X (.Tuple es x1 pos) (Ar t):=by
 intro pins s σ H Q I hq
 refine wpAny_Tuple_spliced (thn (h pos pins s σ H _ I hq) fun us s1 ⟨xs,H1,I1,r,z,q⟩=>⟨by rw [<- r.length];exact z,?_⟩)
 have hf:H1 s1.heap.objs.size=none:=I1.hok.fresh (aJ _)
 refine ⟨.ref s1.heap.objs.size,upd H1 s1.heap.objs.size (.tup xs),I1.laid (t':=s1.toks) (fun b u e=>az _ e) (aJ _) ?_,rfl,q _ hf⟩
 exact ⟨z,us,r,⟨_,aW _ rfl,rfl,⟨_,rfl⟩,rfl⟩⟩
theorem zU (h:PA X es t):PE X (.List es pos) (Ld t):=by
 intro pins s σ H Q I hq
 refine wpAny_List_spliced (thn (h pos pins s σ H _ I hq) fun us s1 ⟨xs,H1,I1,r,z,q⟩=>⟨by rw [<- r.length];exact z,?_⟩)
 have hf:H1 s1.heap.objs.size=none:=I1.hok.fresh (aJ _)
 refine ⟨.ref s1.heap.objs.size,upd H1 s1.heap.objs.size (.lst xs),I1.laid (t':=s1.toks) (fun b u e=>az _ e) (aJ _) ?_,rfl,q _ hf⟩
 exact ⟨z,us,0,r,aW _ rfl⟩
end
abbrev Sp:=List V->Hp->VK->XK->Prop
abbrev CXT:=List Env->Hp->aw->XK->aj->aw->Prop
structure QE (P:aS)(w:bo)(K:ax)(mg:Str->Option aj)(base:Heap)(A:aZ)(outer:List Env)(s:aw)(H:Hp):Prop where
 frames:A.frames=some outer
 mod:Mod K mg base
 bs:∀ b o,base.get? b=some o->s.heap.get? b=some o/\H b=none
 bsz:base.objs.size<=s.heap.objs.size
 funs:s.heap.FunFrames base outer
 frf:∀ b ∈ frs outer,H b=none
 hok:HOk P w H s.heap
 bare:gu s.gens
def CE (outer:List Env)(P:aS)(w:bo)(H:Hp)(s:aw)(Q:VK)(u:aj)(s':aw):Prop:=
 ∃ v H',s'.os=s.os/\gu s'.gens/\Un (frs outer) [] H H' s.heap s'.heap/\HOk P w H' s'.heap/\zA v u/\Q v H'
def CR (CX:CXT)(outer:List Env)(P:aS)(w:bo)(H:Hp)(s:aw)(Q:VK)(E:XK)(r:lW)(s':aw):Prop:=
 match r with
 | .ok (.ret u)=>CE outer P w H s Q u s'
 | .ok _=>False
 | .error e=>CX outer H s E e s'
structure jA (P:aS)(w:bo)(K:ax)(mg:Str->Option aj)(base:Heap)(CX:CXT)(k:Nat)(f:au)(fd:cV)(ps:List Str)(sp:Sp):Prop where
 len:∀ vs H Q E,sp vs H Q E->vs.length=ps.length
 run:∀ (A:aZ) (outer:List Env) (s:aw) (H:Hp) (args:Args) (us:List aj) (vs:List V) (Q:VK) (E:XK),qt k A->QE P w K mg base A outer s H->ib s fd args (ps.zip us)->zF vs us->sp vs H Q E ->
  fk (aN P w) A (.call (.ref f) args) (CR CX outer P w H s Q E) s
variable {mg:Str->Option aj} {base:Heap} {CX:CXT} {fd:cV} {ps:List Str} {sp:Sp}
theorem jA.mono {j k:Nat}{f:au} (F:jA P w K mg base CX j f fd ps sp)(h:j<=k) :
  jA P w K mg base CX k f fd ps sp:=⟨F.len,fun A outer s H args us vs Q E hr=>F.run A outer s H args us vs Q E (hr.mono h)⟩
theorem jA.imp {k:Nat}{f:au} {sp sp':Sp}(F:jA P w K mg base CX k f fd ps sp)
  (h:∀ vs H Q E,sp' vs H Q E->sp vs H Q E):jA P w K mg base CX k f fd ps sp':=
 ⟨fun vs H Q E q=>F.len vs H Q E (h _ _ _ _ q),fun A outer s H args us vs Q E hr he hb hv hs=>F.run A outer s H args us vs Q E hr he hb hv (h _ _ _ _ hs)⟩
theorem QE.make {outer:List Env} (e:QE P w K mg base A outer s H)(C:au)(us:List aj)(kw:List (Str × aj)) :
  QE P w K mg base (A.under (.builtin "type.__call__" ⟨.ref C :: us,kw⟩)) outer s H:=⟨by first | exact e.frames | (simpa [aZ.under,lJ.envs,lJ.isFrame,pushEnvs] using e.frames),e.mod,e.bs,e.bsz,e.funs,e.frf,e.hok,e.bare⟩
section
variable {X:Cx}{pins:List (au × Obj)}{σ:St}{H:Hp}{s s':aw}
theorem Inv.env0 (I:Inv X pins σ H s):QE X.prog X.w X.K X.mg X.base X.A X.stack s H:=
 ⟨I.ok.frames,I.ok.mod,I.bs,bb I.ok.bsz I.sz,I.stack,I.stkFree,I.hok,I.bare⟩
theorem Inv.after {Q:VK}{u:aj}(I:Inv X pins σ H s)(h:CE X.stack X.prog X.w H s Q u s'):EP X pins σ Q u s':=by
 obtain ⟨v,H',os,bare,un,hok,r,q⟩:=h
 obtain ⟨hh,g,d,t,os'⟩:=s'
 obtain rfl:os'=s.os:=os
 exact ⟨v,H',I.call (h':=hh) (g':=g) (d':=d) (t':=t) (ch:=[]) un hok bare (fun b z=>absurd z (by simp)),r,q⟩
end
noncomputable def YG (sp:Sp)(dvs:List V)(E:XK)(t:TA):TE:=fun σ H Q=>t σ H fun vs H1=>sp (vs ++ dvs) H1 Q E
noncomputable def Zz (C:au)(m:Str)(sp:Sp)(dvs:List V)(E:XK)(ta:TE)(t:TA):TE:=fun σ H Q=>ta σ H fun x H1=>∃ a dx fs,x=.ref a/\H1 a=some (.ins C dx fs)/\fs.lookup m=none /\
 t σ H1 fun vs H2=>sp (x :: (vs ++ dvs)) H2 Q E
noncomputable def Yq (C:au)(sp:Sp)(dvs:List V)(E:XK)(t:TA):TE:=fun σ H Q=>t σ H fun vs H1=>∀ x dx,H1 x=none->H1 dx=none->dx ≠ x ->
 sp (.ref x :: (vs ++ dvs)) (upd (upd H1 dx (.own x)) x (.ins C dx [])) (fun v H2=>v=.non/\Q (.ref x) H2) E
def jv (K:ax)(fd:cV)(ps:List Str)(ds:List aj):Prop:=
 ∀ (s:aw) (us:List aj),K.In s.heap->(us ++ ds).length=ps.length->ib s fd ⟨us,[]⟩ (ps.zip (us ++ ds))
theorem jv.all (h:∀ us:List aj,us.length=ps.length->eJ fd ⟨us,[]⟩=pure (ps.zip us)):jv K fd ps []:=fun s us _ hl=>by
 rw [bQ] at hl ⊢
 exact .of_eq (h us hl)
def xv (CX:CXT)(X:Cx)(E:XK):Prop:=∀ (pins:List (au × Obj)) (σ:St) (H:Hp) (s:aw) (e:aj) (s':aw),Inv X pins σ H s->CX X.stack H s E e s'->X.xe e s'
section
variable {X:Cx}{CX:CXT}{k:Nat}{f C:au}{fd:cV}{ps:List Str}{sp:Sp}{dvs:List V}{ds:List aj}{E:XK}{x m:Str}{p pos apos:Pos}{e o:Expr}{es:List Expr}{ta:TE}{t:TA}
theorem Xt {pins:List (au × Obj)}{σ:St}{H:Hp}{s:aw}{Q:VK}{us:List aj}{vs:List V}(F:jA X.prog X.w X.K X.mg X.base CX k f fd ps sp)(hr:qt k X.A)(hb:jv X.K fd ps ds)(hd:zF dvs ds)(hx:xv CX X E)
  (I:Inv X pins σ H s) (r:zF vs us) (h:sp (vs ++ dvs) H Q E):aO (aN X.prog X.w) X.A (call (.ref f) us) (EP X pins σ Q) X.xe s:=by
 have r2:zF (vs ++ dvs) (us ++ ds):=r.append hd
 have hl:(us ++ ds).length=ps.length:=by rw [<- r2.length];exact F.len _ _ _ _ h
 refine gB (eQ (F.run X.A X.stack s H ⟨us,[]⟩ (us ++ ds) (vs ++ dvs) Q E hr I.env0 (hb s us I.kIn hl) r2 h) fun r s' hq=>?_)
 cases r with
 | error e=>exact hx pins σ H s e s' I hq
 | ok fl=>
  cases fl with
  | ret u=>exact I.after hq
  | next=>exact bM hq
  | brk=>exact bM hq
  | cont=>exact bM hq
theorem FY (F:jA X.prog X.w X.K X.mg X.base CX k f fd ps sp)(hr:qt k X.A)(hg:Gl X x)(hm:X.mg x=some (.ref f))(hk:cR X.K (.ref f)=true)(hb:jv X.K fd ps ds)(hd:zF dvs ds)(hx:xv CX X E)
  (ha:PA X (e :: es) t) (hdb:(x == ("__debug__":Str))=false:=by decide) (he:aQ (e :: es) X.env=(false,eval e X.env) :: aQ es X.env:=by rfl) (hpl:(ca pos (aQ es X.env)).any (·.1)=false:=by rfl) :
  PE X (.Call (.Name x p) (e :: es) [] pos) (YG sp dvs E t):=by
 intro pins s σ H Q I h
 refine eg (j4 I hg hm ?_ hdb)
 refine eh (h₀:=X.base) I.ok.mod.kin hk (thn (ha pos pins s σ H _ I h) fun us s1 ⟨vs,H1,I1,r,q⟩=>⟨I1.kIn,?_⟩) he hpl
 exact Xt F hr hb hd hx I1 r q
variable {pl:Sem Bool}
theorem Fz (he:PE X o ta)(c:Cls X.K C)(hm:Xh X.K C m f)(F:jA X.prog X.w X.K X.mg X.base CX k f fd ps sp)(hr:qt k X.A)(hb:jv X.K fd ps ds)(hd:zF dvs ds)(hx:xv CX X E)(ha:PA X (e :: es) t)
  (hst:aQ (e :: es) X.env=(false,eval e X.env) :: aQ es X.env:=by rfl) (hpl:(ca pos (aQ es X.env)).any (·.1)=false:=by rfl)
  (ht:eval (.Call (.Attribute o m apos) (e :: es) [] pos) X.env=(do
   let ov <- eval o X.env
   h8 apos.atName
   let (f,first) <- holding [ov] (getMethod ov m pl)
   gc pos f first (ca pos (aQ (e :: es) X.env)) (fc pos (dC [] X.env))):=by rfl) :
  PE X (.Call (.Attribute o m apos) (e :: es) [] pos) (Zz C m sp dvs E ta t):=by
 intro pins s σ H Q I h
 refine eB (pl:=pl) (thn (he pins s σ H _ I h) fun u s1 ⟨x,H1,I1,rx,a,dx,fs,ex,ea,l,q⟩=>?_) ht
 subst ex
 obtain rfl:u=aj.ref a:=rx
 refine kX I1 ea c hm l ?_
 refine eh (first:=[.ref a]) (h₀:=X.base) I.ok.mod.kin hm.kp (thn (ha pos pins s1 σ H1 _ I1 q) fun us s2 ⟨vs,H2,I2,r,q2⟩=>⟨I2.kIn,?_⟩) hst hpl
 exact Xt (us:=.ref a :: us) (vs:=.ref a :: vs) F hr hb hd hx I2 (.cons rfl r) q2
theorem WI (he:PE X o ta)(c:Cls X.K C)(hm:Xh X.K C m f)(F:jA X.prog X.w X.K X.mg X.base CX k f fd ps sp)(hr:qt k X.A)(hb:jv X.K fd ps ds)(hd:zF dvs ds)(hx:xv CX X E)
  (ht:eval (.Call (.Attribute o m apos) [] [] pos) X.env=(do
   let ov <- eval o X.env
   h8 apos.atName
   let (f,first) <- holding [ov] (getMethod ov m pl)
   gc pos f first (ca pos (aQ [] X.env)) (fc pos (dC [] X.env))):=by rfl) :
  PE X (.Call (.Attribute o m apos) [] [] pos) (Zz C m sp dvs E ta VX):=by
 intro pins s σ H Q I h
 refine eB (pl:=pl) (thn (he pins s σ H _ I h) fun u s1 ⟨x,H1,I1,rx,a,dx,fs,ex,ea,l,q⟩=>?_) ht
 subst ex
 obtain rfl:u=aj.ref a:=rx
 refine kX I1 ea c hm l ?_
 exact PySem.W.callWith_K0 (first:=[.ref a]) I1.kIn hm.kp (Xt (us:=[.ref a]) (vs:=[.ref a]) F hr hb hd hx I1 (.cons rfl .nil) q)
structure Mk (K:ax)(C f:au):Prop where
 makes:iC K C=true
 init:bt K (.ref C) "__init__"=some (some (.ref f))
 fn:cZ K (.ref f)=true
 kp:cR K (.ref C)=true
theorem AB {pins:List (au × Obj)}{σ:St}{H:Hp}{s:aw}{Q:VK}{us:List aj}{vs:List V}(M:Mk X.K C f)(F:jA X.prog X.w X.K X.mg X.base CX k f fd ps sp)(hr:qt (k+1) X.A)(hb:jv X.K fd ps ds)(hd:zF dvs ds)
  (hx:xv CX X E) (I:Inv X pins σ H s) (r:zF vs us)
  (h:∀ x dx,H x=none->H dx=none->dx ≠ x->sp (.ref x :: (vs ++ dvs)) (upd (upd H dx (.own x)) x (.ins C dx [])) (fun v H2=>v=.non/\Q (.ref x) H2) E) :
  aO (aN X.prog X.w) X.A (call (.ref C) us) (EP X pins σ Q) X.xe s:=by
 have hq:=h (s.heap.objs.size+1) s.heap.objs.size (I.hok.fresh (iO _)) (I.hok.fresh (aJ _)) (bp (lX _))
 have I2:=Inv.made (C:=C) I
 have r2:zF (V.ref (s.heap.objs.size+1) :: (vs ++ dvs)) (aj.ref (s.heap.objs.size+1) :: (us ++ ds)):=.cons rfl (r.append hd)
 have hl:(aj.ref (s.heap.objs.size+1) :: us ++ ds).length=ps.length:=by
  have e:=r2.length
  rw [F.len _ _ _ _ hq] at e
  exact e.symm
 refine gB (Br (f:=f) I.kIn M.makes M.init (beq_iff_eq.mp M.fn) (eQ (F.run _ X.stack _ _ ⟨aj.ref (s.heap.objs.size+1) :: us,[]⟩ (aj.ref (s.heap.objs.size+1) :: (us ++ ds)) _ _ E (hr.make C us [])
  (I2.env0.make C us []) (hb _ (aj.ref (s.heap.objs.size+1) :: us) I2.kIn hl) r2 hq) fun r s' hq'=>?_))
 cases r with
 | error e=>exact hx pins σ _ _ e s' I2 hq'
 | ok fl=>
  cases fl with
  | ret u=>
   obtain ⟨v,H',I3,rv,ev,q3⟩:=I2.after hq'
   subst ev
   exact ⟨rv,⟨V.ref (s.heap.objs.size+1),H',I3,rfl,q3⟩⟩
  | next=>exact bM hq'
  | brk=>exact bM hq'
  | cont=>exact bM hq'
theorem EE (M:Mk X.K C f)(F:jA X.prog X.w X.K X.mg X.base CX k f fd ps sp)(hr:qt (k+1) X.A)(hg:Gl X x)(hm:X.mg x=some (.ref C))(hb:jv X.K fd ps ds)(hd:zF dvs ds)(hx:xv CX X E)
  (ha:PA X (e :: es) t) (hdb:(x == ("__debug__":Str))=false:=by decide) (he:aQ (e :: es) X.env=(false,eval e X.env) :: aQ es X.env:=by rfl) (hpl:(ca pos (aQ es X.env)).any (·.1)=false:=by rfl) :
  PE X (.Call (.Name x p) (e :: es) [] pos) (Yq C sp dvs E t):=by
 intro pins s σ H Q I h
 refine eg (j4 I hg hm ?_ hdb)
 refine eh (h₀:=X.base) I.ok.mod.kin M.kp (thn (ha pos pins s σ H _ I h) fun us s1 ⟨vs,H1,I1,r,q⟩=>⟨I1.kIn,?_⟩) he hpl
 exact AB M F hr hb hd hx I1 r q
end
section
variable {X:Cx}{CX:CXT}{k:Nat}{f C:au}{fd:cV}{ps ks:List Str}{sp:Sp}{E:XK}{x m:Str}{p pos apos kpos:Pos}{e o:Expr}{es:List Expr}{kws:List gQ}{te ta:TE}{t tk:TA}{nm:Option Str}
structure MY (K:ax)(fd:cV)(ps ks:List Str)(g:List aj->List aj->List aj)(gV:List V->List V->List V):Prop where
 to:∀ (s:aw) (us ws:List aj),K.In s.heap->(g us ws).length=ps.length->ib s fd ⟨us,ks.zip ws⟩ (ps.zip (g us ws))
 rel:∀ {vs:List V} {us:List aj} {zs:List V} {ws:List aj},zF vs us->zF zs ws->zF (gV vs zs) (g us ws)
variable {g:List aj->List aj->List aj}{gV:List V->List V->List V}
end
structure zu (N P:List Str)(sc:Scope):Prop where
 kind:sc.kind=.function
 co:sc.isCoroutine=false
 gen:sc.isGenerator=false
 nd:N.Nodup
 pre:N.take P.length=P
 par:∀ x ∈ P,sc.names.lookup x=some .local \/ sc.names.lookup x=some .cell
 nofree:∀ y ∈ sc.names,y.2 ≠ .free
theorem Zc {kindOf:Str->Option bT}{x:Str}:∀ {binds:List (Str × aj)} {m:Str->Option aj},(∀ v,(x,v) ∉ binds)->mH kindOf binds m x=m x
 | [],_,_=>rfl
 | (n,v) :: r,m,h=>by
  unfold mH
  rw [Zc fun w hw=>h w (aX _ hw)]
  split
  ·have:x ≠ n:=by rintro rfl;exact h v bD
   simp [this]
  ·rfl
theorem Zr {kindOf:Str->Option bT}{x:Str}:∀ {binds:List (Str × aj)} {m:Str->Option aj},(∀ v,(x,v) ∉ binds)->mI kindOf binds m x=m x
 | [],_,_=>rfl
 | (n,v) :: r,m,h=>by
  unfold mI
  rw [Zr fun w hw=>h w (aX _ hw)]
  split
  ·rfl
  ·have:x ≠ n:=by rintro rfl;exact h v bD
   simp [this]
theorem Zj {kindOf:Str->Option bT}{x:Str}{v:aj}:∀ {P:List Str} {vs:List aj} {i:Nat} {m:Str->Option aj},P.Nodup->P[i]?=some x->vs[i]?=some v->kindOf x=some .local ->
  mH kindOf (P.zip vs) m x=some v
 | [],_,_,_,_,h,_,_=>by simp at h
 | _ :: _,[],_,_,_,_,h,_=>by simp at h
 | p :: P,w :: vs,0,m,nd,h1,h2,hk=>by
  simp at h1 h2;subst h1;subst h2
  show mH kindOf ((p,w) :: P.zip vs) m p=_
  unfold mH
  rw [Zc fun v hv=>(b7.mp nd).1 (gi hv).1,if_pos hk]
  simp
 | p :: P,w :: vs,i+1,m,nd,h1,h2,hk=>by
  show mH kindOf ((p,w) :: P.zip vs) m x=_
  unfold mH
  exact Zj (i:=i) (b7.mp nd).2 (by simpa using h1) (by simpa using h2) hk
theorem ZJ {kindOf:Str->Option bT}{x:Str}{v:aj}:∀ {P:List Str} {vs:List aj} {i:Nat} {m:Str->Option aj},P.Nodup->P[i]?=some x->vs[i]?=some v->kindOf x ≠ some .local ->
  mI kindOf (P.zip vs) m x=some v
 | [],_,_,_,_,h,_,_=>by simp at h
 | _ :: _,[],_,_,_,_,h,_=>by simp at h
 | p :: P,w :: vs,0,m,nd,h1,h2,hk=>by
  simp at h1 h2;subst h1;subst h2
  show mI kindOf ((p,w) :: P.zip vs) m p=_
  unfold mI
  rw [Zr fun v hv=>(b7.mp nd).1 (gi hv).1,if_neg hk]
  simp
 | p :: P,w :: vs,i+1,m,nd,h1,h2,hk=>by
  show mI kindOf ((p,w) :: P.zip vs) m x=_
  unfold mI
  exact ZJ (i:=i) (b7.mp nd).2 (by simpa using h1) (by simpa using h2) hk
noncomputable def qJ (N:List Str)(vs:List V):St:=vs.map some ++ aF (N.length - vs.length) none
noncomputable def jM (CX:CXT)(P:aS)(w:bo)(K:ax)(mg:Str->Option aj)(base:Heap)(N:List Str)(qual:Str)(scope:Scope)(f:au)(cd:aj)(A:aZ)(outer:List Env)(s:aw)(H:Hp)(E:XK):Cx where
 prog:=P
 w:=w
 K:=K
 mg:=mg
 base:=base
 A:=A.deeper (eZ qual scope s.heap.objs.size f cd)
 N:=N
 s₀:=s
 H₀:=H
 env:=eZ qual scope s.heap.objs.size f cd
 outer:=outer
 stack:=eZ qual scope s.heap.objs.size f cd :: outer
 ex:=[]
 calm:=true
 fn:=fun _=>true
 pn:=[]
 xe:=fun e s'=>aO (aN P w) (A.deeper (eZ qual scope s.heap.objs.size f cd)) (leaving (eZ qual scope s.heap.objs.size f cd) e) (fun _ s''=>CX outer H s E e s'') (fun e' s''=>CX outer H s E e' s'') s'
theorem JE {sc:Scope}{n:Nat}{x:Str}(h:sc.names.lookup x=some .cell):∃ c,(ma n sc.names []).lookup x=some c:=by
 have q:=fH sc.names n [] (.inl h)
 exact Option.isSome_iff_exists.mp q
theorem Zu {CX : CXT}{P : aS}{w : bo}{K : ax}{mg : Str -> Option aj}{base : Heap}{N ps : List Str}{qual : Str}{scope : Scope}{f : au}{cd : aj}{A : aZ}{outer : List Env}{s s1 : aw}{H : Hp}{E : XK}{us : List aj}{vs : List V}
    (S:zu N ps scope) (hd:A.handled=none) (e0:QE P w K mg base A outer s H) (hl:vs.length=ps.length) (r:zF vs us)
    (x:InCallC s s.heap.objs.size (mH (eZ qual scope s.heap.objs.size f cd).kindOf (ps.zip us) fun _=>none) (ma (s.heap.objs.size+1) scope.names []) (mI (eZ qual scope s.heap.objs.size f cd).kindOf (ps.zip us) fun _=>none) s1) :
    Inv (jM CX P w K mg base N qual scope f cd A outer s H E) [] (qJ N vs) H s1:=by
  have hpl:ps.length<=N.length:=by have:=congrArg gg S.pre;rw [b8] at this;omega
  obtain ⟨h1,tk,rfl,hk⟩:=x.done
  have noA:∀ b:au,b ∉ (jM CX P w K mg base N qual scope f cd A outer s H E).ex:=fun b z=>absurd (show b ∈ ([]:List au) from z) (by simp)
  refine ⟨⟨e0.mod,S.kind,rfl,rfl,aJ _,fun y z c h1 h2=>?_,fun y hy=>?_,fun y c _ h=>?_,fun _=>hd,aZ.frames_deeper e0.frames,.inr ⟨rfl,rfl⟩,fun b z=>absurd z (noA b),e0.bs,e0.bsz,fun b _ _=>noA b,fun b z=>absurd z (noA b),e0.funs,e0.frf⟩,
    rfl,e0.bare,Un.kept hk,⟨_,x.toInCall.ns,fun i y v h1 h2 h3=>?_⟩,fun y c h=>⟨_,x.cell y c h⟩,e0.hok.fresh (aJ _),fun y c h=>?_,fun p hp=>absurd (show p ∈ ([]:List (au × Obj)) from hp) (by simp),e0.hok.kept hk,?_⟩
  · exact name_of_addr x.apart (d3 h1) (d3 h2)
  · have hy:scope.names.lookup y=some .cell \/ scope.names.lookup y=some .free:=hy
    rcases hy with hy | hy
    · exact JE hy
    · exact absurd rfl (S.nofree _ (d3 hy))
  · exact lE (x.above y c (d3 h))
  · have hi : i < vs.length := by
      unfold qJ at h2
      by_cases hi:i<vs.length
      · exact hi
      · rw [cS (by simpa using hi)] at h2
        rw [g0] at h2
        split at h2 <;> cases h2
    have ha:vs[i]?=some v:=by
      unfold qJ at h2
      rw [cv (by simpa using hi),aE] at h2
      cases e:vs[i]? with
      | none=>rw [e] at h2;cases h2
      | some a=>rw [e] at h2;cases h2;rfl
    obtain ⟨u,hu,rv⟩:=r.get ha
    have hp:ps[i]?=some y:=by
      rw [<- S.pre,List.getElem?_take_of_lt (by omega)];exact h1
    have ndP:ps.Nodup:=by rw [<- S.pre];exact S.nd.sublist (List.take_sublist _ _)
    refine ⟨u,rv,?_⟩
    rcases S.par y (aR hp) with k | k
    · exact .inl ⟨k,Zj ndP hp hu k⟩
    · obtain ⟨c,e⟩:=JE (n:=s.heap.objs.size+1) k
      refine .inr ⟨.inl k,c,e,?_⟩
      have q:=x.cell y c e
      rw [ZJ ndP hp hu (by show scope.names.lookup y ≠ _;rw [k];decide)] at q
      exact q
  · exact e0.hok.fresh (lE (x.above y c (d3 h)))
  · unfold qJ
    show _=N.length
    rw [bE,aq,cC]
    omega
theorem DZ {CX:CXT}{P:aS}{w:bo}{K:ax}{mg:Str->Option aj}{base:Heap}{k:Nat}{f:au}{name qual:Str}{params:Arguments}{body:List cw}{scope:Scope}{dV kV doc pm cdv ct oc:aj}{an od:Option au}
  {osl:Array (Option aj)} {N ps:List Str} {sp:Sp} (lk:K.lookup f=some ⟨oc,od,.func (bO name qual params body scope dV kV doc pm an cdv ct),osl⟩) (hcd:eK K cdv qual=true) (S:zu N ps scope)
  (len:∀ vs H Q E,sp vs H Q E->vs.length=ps.length)
  (hbody:∀ (A:aZ) (outer:List Env) (s:aw) (H:Hp) (vs:List V) (Q:VK) (E:XK),qt k (A.deeper (eZ qual scope s.heap.objs.size f cdv))->sp vs H Q E ->
   ∃ t,PSs (jM CX P w K mg base N qual scope f cdv A outer s H E) body t/\t { nx:=fun _ H'=>Q .non H',rt:=Q } (qJ N vs) H) :
  jA P w K mg base CX (k+1) f (bO name qual params body scope dV kV doc pm an cdv ct) ps sp:=by
 refine ⟨len,fun A outer s H args us vs Q E hr e0 hb r hsp=>?_⟩
 have hl:=len _ _ _ _ hsp
 have KX:K.In s.heap:=e0.mod.kin.keeps fun b o e=>(e0.bs b o e).1
 have lim:s.heap.NoLimit:=e0.mod.nolimit.keeps fun b o e=>(e0.bs b o e).1
 have hkind:∀ y ∈ ps.zip us,scope.names.lookup y.1=some .local \/ (scope.names.lookup y.1=some .cell/\((ma (s.heap.objs.size+1) scope.names []).lookup y.1).isSome=true):=fun ⟨n,v⟩ hy=>by
  rcases S.par n (gi hy).1 with q | q
  ·exact .inl q
  ·exact .inr ⟨q,fH _ _ _ (.inl q)⟩
 refine codeAny_call_function hr.depth (KX _ _ lk) rfl S.co S.gen rfl (lv KX hcd) (hb _ _ _ _ ?_)
 refine wpAny_newFunctionEnv_cells S.kind hkind fun env he s1 x=>?_
 subst he
 refine ⟨lim.keeps x.toInCall.keep,codeAny_func ?_⟩
 obtain ⟨t,ht,hq⟩:=hbody A outer s H vs Q E (hr.deeper _) hsp
 have I:Inv (jM CX P w K mg base N qual scope f cdv A outer s H E) [] (qJ N vs) H s1:=Zu S hr.hd e0 hl r x
 refine ba (ht [] s1 (qJ N vs) H _ I hq) (fun fl s' hs=>?_) fun e s' hs=>hs
 have fin:∀ {σ':St} {H':Hp} {v:V} {u:aj},Inv (jM CX P w K mg base N qual scope f cdv A outer s H E) [] σ' H' s'->zA v u->Q v H'->CE outer P w H s Q u s':=
  fun {σ' H' v u} J rv q=>⟨v,H',J.os,J.bare,J.base,J.hok,rv,q⟩
 cases fl with
 | ret u=>
  obtain ⟨v,σ',H',J,rv,q⟩:=hs
  exact fin J rv q
 | next=>
  obtain ⟨σ',H',J,q⟩:=hs
  exact fin (v:=V.non) (u:=aj.none) J rfl q
 | brk=>
  obtain ⟨_,_,_,q⟩:=hs
  exact bM q
 | cont=>
  obtain ⟨_,_,_,q⟩:=hs
  exact bM q
section
variable {X:Cx}{x:Str}{p pos:Pos}{e:Expr}{es:List Expr}{t:TA}{id T:String}{r:List V->Hp->VK->Prop}
noncomputable def tCB (r:List V->Hp->VK->Prop)(t:TA):TE:=fun σ H Q=>t σ H fun vs H1=>r vs H1 Q
theorem zn (hc:jT X (.builtin id) r)(hg:Gl X x)(hm:X.mg x=none)(hv:bI x=some (.builtin id))(ha:PA X (e :: es) t)(hn:x ≠ "__name__":=by decide)(hdb:(x == ("__debug__":Str))=false:=by decide)
  (he:aQ (e :: es) X.env=(false,eval e X.env) :: aQ es X.env:=by rfl) (hpl:(ca pos (aQ es X.env)).any (·.1)=false:=by rfl):PE X (.Call (.Name x p) (e :: es) [] pos) (tCB r t):=by
 intro pins s σ H Q I h
 refine eg (yh I hg hm hv ?_ hn hdb)
 exact PyProof.Rows.callWith_builtin1 (thn (ha pos pins s σ H _ I h) fun us s1 ⟨vs,H1,I1,r1,q1⟩=>hc pins s1 σ H1 vs us Q I1 r1 q1) he hpl
theorem zK (hc:jT X (.type T) r)(hg:Gl X x)(hm:X.mg x=none)(hv:bI x=some (.type T))(ha:PA X (e :: es) t)(hn:x ≠ "__name__":=by decide)(hdb:(x == ("__debug__":Str))=false:=by decide)
  (he:aQ (e :: es) X.env=(false,eval e X.env) :: aQ es X.env:=by rfl) (hpl:(ca pos (aQ es X.env)).any (·.1)=false:=by rfl):PE X (.Call (.Name x p) (e :: es) [] pos) (tCB r t):=by
 intro pins s σ H Q I h
 refine eg (yh I hg hm hv ?_ hn hdb)
 exact cO (thn (ha pos pins s σ H _ I h) fun us s1 ⟨vs,H1,I1,r1,q1⟩=>hc pins s1 σ H1 vs us Q I1 r1 q1) he hpl
end
end L2
namespace HT
open PySem PyProof.Rows
section
open PySem.SeqAt
open PySem.AutoSeq1 (wpAny_loadPart')
open PySem.MeetsSeq PySem.MeetsSeq2 PySem.MeetsSeq3
end
section
variable {prog:aS}{w:bo}{A:aZ}{E:aj->aw->Prop}{s:aw}
noncomputable def sIx (n d:Nat):Option Int->Nat
 | none=>d
 | some v=>if v<0 then (v+(n:Int)).toNat else min v.toNat n
theorem sIx_none (n d:Nat):sIx n d none=d:=rfl
theorem sIx_nat (n d k:Nat):sIx n d (some (k:Int))=min k n:=by
 show (if (k:Int)<0 then ((k:Int)+(n:Int)).toNat else min (k:Int).toNat n)=min k n
 rw [if_neg (by omega),bz]
theorem Ia (n d:Nat)(hd:d<=n)(o:Option Int):sIx n d o<=n:=by
 cases o with
 | none=>exact hd
 | some v=>
  show (if v<0 then (v+(n:Int)).toNat else min v.toNat n)<=n
  by_cases hv:v<0
  ·rw [if_pos hv];omega
  ·rw [if_neg hv];exact Nat.min_le_right _ _
theorem XT (v:Int)(n d:Nat):(if v<0 then max (v+(n:Int)) 0 else min v (n:Int))=((sIx n d (some v):Nat):Int):=by
 show (if v<0 then max (v+(n:Int)) 0 else min v (n:Int))=(((if v<0 then (v+(n:Int)).toNat else min v.toNat n):Nat):Int)
 by_cases hv:v<0
 ·simp only [if_pos hv];omega
 ·simp only [if_neg hv];omega
theorem K0 (lo hi:Option Int)(n:Nat):eU lo hi 1 (n:Int)=(((sIx n 0 lo:Nat):Int),((sIx n n hi:Nat):Int)):=by
 have h1:¬ ((1:Int)<0):=by omega
 unfold eU
 simp only [h1,if_false]
 refine Prod.ext ?_ ?_
 ·cases lo with
  | none=>rfl
  | some v=>exact XT v n 0
 ·cases hi with
  | none=>rfl
  | some v=>exact XT v n n
theorem KL (i j:Nat):dL (i:Int) (j:Int) 1=j - i:=by
 unfold dL
 have h1:(1:Int) > 0:=by omega
 simp only [h1,if_true,Int.ediv_one]
 split <;> omega
theorem ww {v:aj}{o:Option Int}{Q:Option Int->aw->Prop}(p:lw v o)(h:Q o s):aO (aN prog w) A (Builtin.Slice.slicePartIndex v) Q E s:=by
 cases p with
 | none=>exact slicePart_none h
 | int i t=>exact slicePart_int h
variable {sl:au} {vl vu:aj} {lo hi:Option Int}
theorem vg {n:Nat}{Q:Int × Int × Nat->aw->Prop}(hs:s.heap.IsSliceOf sl vl vu .none)(pl:lw vl lo)(pu:lw vu hi)
  (h:Q (((sIx n 0 lo:Nat):Int),1,sIx n n hi - sIx n 0 lo) s):aO (aN prog w) A (gC (.ref sl) (pure (n:Int))) Q E s:=by
 obtain ⟨os,hos,hcs,hds⟩:=id hs
 unfold gC Builtin.Slice.sliceFields
 refine ap (ap (bS hos hds (x:=vl) rfl (ap (bS hos hds (x:=vu) rfl (ap (bS hos hds (x:=.none) rfl (aL ?_)))))))
 refine ap (slicePart_none ?_)
 show aO _ _ (if ((1:Int) == 0)=true then _ else _) _ _ s
 rw [if_neg (by decide)]
 refine ap (ww pl (ap (ww pu (ap (aL ?_)))))
 show aO _ _ (match eU lo hi 1 (n:Int) with | (lo,hi)=>pure (lo,(1:Int),dL lo hi 1)) _ _ s
 rw [K0 lo hi n]
 show aO _ _ (pure (((sIx n 0 lo:Nat):Int),(1:Int),dL ((sIx n 0 lo:Nat):Int) ((sIx n n hi:Nat):Int) 1)) _ _ s
 rw [KL]
 exact aL h
theorem WR (xs:Array aj)(i k:Nat):((bW k).filterMap fun (m:Nat)=>xs[((i:Int)+(m:Int) * 1).toNat]?).toArray=((xs.toList.drop i).take k).toArray:=by
 have e:(fun (m:Nat)=>xs[((i:Int)+(m:Int) * 1).toNat]?)=fun m=>xs[i+m]?:=by
  funext m
  have:((i:Int)+(m:Int) * 1).toNat=i+m:=by omega
  rw [this]
 rw [e]
 have:=pick_run xs i k
 rw [List.filterMap_map] at this
 have e2:((fun x=>xs[x]?) ∘ fun x=>i+x)=fun m=>xs[i+m]?:=rfl
 rw [e2] at this
 rw [this]
theorem getItem_tuple_cut {t sl:au}{items:Array aj} {Q:aj->aw->Prop}(ht:IsTup s.heap t items)(hs:s.heap.IsSliceOf sl vl vu .none)(pl:lw vl lo)(pu:lw vu hi)
  (hw:¬ (sIx items.size 0 lo=0/\sIx items.size items.size hi=items.size))
  (h:Q (.ref s.heap.objs.size) { s with heap:=s.heap.push { cls:=.type "tuple",data:=.seq ((items.toList.drop (sIx items.size 0 lo)).take (sIx items.size items.size hi - sIx items.size 0 lo)).toArray } })
  (hsz:items.size<=aM):aO (aN prog w) A (gN (.ref t) (.ref sl)) Q E s:=by
 have htake:sizeOk (.seq ((items.toList.drop (sIx items.size 0 lo)).take (sIx items.size items.size hi - sIx items.size 0 lo)).toArray):=by
  show ((items.toList.drop (sIx items.size 0 lo)).take (sIx items.size items.size hi - sIx items.size 0 lo)).toArray.size<=aM
  rw [aH,b8,dE,gm]
  omega
 have hj:sIx items.size items.size hi<=items.size:=Ia _ _ (aJ _) hi
 obtain ⟨os,hos,hcs,hds⟩:=id hs
 have hTs:s.TypeIs (.ref sl) "slice":=⟨os,hos,hcs⟩
 unfold gN
 try with_reducible refine cX ?_
 first | refine ap (aL ?_) | skip
 refine ap (wpAny_sequenceKey ht.typeIs (by decide) ?_)
 refine ap (cL (name:=af "__getitem__") ht.typeIs dZ
  (d6 dZ ht.typeIs entry_tuple_getitem ?_ (args_tuple_getitem _ _)))
 show aO _ _ (Builtin.Tuple.tupleItemsOf (.ref t) >>= _) _ _ s
 refine ap (tupleItemsOf_ ht ?_)
 refine ap (wpAny_typeOf hTs ?_)
 rw [if_pos (by decide)]
 refine ap (vg hs pl pu ?_)
 have hno:¬ ((((sIx items.size 0 lo:Nat):Int) == 0 && (1:Int) == 1 && (sIx items.size items.size hi - sIx items.size 0 lo) == items.size)=true):=by
  intro q
  rw [dF,dF] at q
  have q1:((sIx items.size 0 lo:Nat):Int)=0:=eq_of_beq q.1.1
  have q2:sIx items.size items.size hi - sIx items.size 0 lo=items.size:=eq_of_beq q.2
  exact hw ⟨by omega,by omega⟩
 show aO _ _ (if (((sIx items.size 0 lo:Nat):Int) == 0 && (1:Int) == 1 && (sIx items.size items.size hi - sIx items.size 0 lo) == items.size)=true then _ else _) _ _ s
 rw [if_neg hno,WR]
 first
  | exact ap (m:=dU _) (cQ (aL ⟨_,rfl,aL h⟩) htake)
  | exact ap (m:=dU _) (cQ (ap (aL (aL ⟨_,rfl,aL h⟩))) htake)
  | exact ap (ap (m:=dU _) (cQ (aL (aL ⟨_,rfl,aL h⟩)) htake))
  | exact ap (ap (m:=dU _) (cQ (aL ⟨_,rfl,aL h⟩) htake))
end
end HT
namespace L2
open PySem PySem.Spec PyProof.Rows
abbrev TO:=St->Hp->(Option Int->Hp->Prop)->Prop
def PO (X:Cx)(e:Option Expr)(t:TO):Prop:=
 ∀ (pins:List (au × Obj)) (s:aw) (σ:St) (H:Hp) (Q:Option Int->Hp->Prop),Inv X pins σ H s->t σ H Q ->
  aO (aN X.prog X.w) X.A (evalPart e X.env) (fun u s'=>∃ o H',Inv X pins σ H' s'/\lw u o/\Q o H') X.xe s
noncomputable def Qv:TO:=fun _ H Q=>Q none H
noncomputable def WO (t:TE):TO:=fun σ H Q=>t σ H fun x H1=>∃ i,x=.int i/\Q (some i) H1
section
variable {X:Cx}{e:Expr}{te:TE}{lo hi:Option Expr}{tl th:TO}{pos p2:Pos}
theorem yq:PO X none Qv:=by
 intro pins s σ H Q I h
 rw [evalPart_none]
 exact aL ⟨none,H,I,.none,h⟩
theorem jN (h:PE X e te):PO X (some e) (WO te):=by
 intro pins s σ H Q I hw
 rw [evalPart_some]
 refine thn (h pins s σ H _ I hw) fun u s1 ⟨x,H1,I1,r1,q1⟩=>?_
 obtain ⟨i,rfl,q⟩:=q1
 obtain ⟨t,rfl⟩:=r1
 exact ⟨some i,H1,I1,.int i t,q⟩
def SlR (X:Cx)(r:V->Option Int->Option Int->Hp->VK->Prop):Prop:=
 ∀ (pins:List (au × Obj)) (s:aw) (σ:St) (H:Hp) (x:V) (v vl vu:aj) (lo hi:Option Int) (sl:au) (Q:VK),Inv X pins σ H s->zA x v->s.heap.IsSliceOf sl vl vu .none->lw vl lo->lw vu hi->r x lo hi H Q ->
  ∃ T id,typeLookup (.type T) "__getitem__"=pure (some (.builtin id))/\s.TypeIs v T/\aO (aN X.prog X.w) X.A (gN v (.ref sl)) (EP X pins σ Q) X.xe s
noncomputable def tSl (r:V->Option Int->Option Int->Hp->VK->Prop)(te:TE)(tl th:TO):TE:=fun σ H Q=>te σ H fun x H1=>tl σ H1 fun l H2=>th σ H2 fun u H3=>r x l u H3 Q
theorem jS {r:V->Option Int->Option Int->Hp->VK->Prop}(hr:SlR X r)(he:PE X e te)(hl:PO X lo tl)(hu:PO X hi th):PE X (.Subscript e (.Slice lo hi none p2) pos) (tSl r te tl th):=by
 intro pins s σ H Q I h
 refine Subscript_ (thn (he pins s σ H _ I h) fun v s1 ⟨x,H1,I1,r1,q1⟩=>?_)
 refine wpAny_Slice (thn (hl pins s1 σ H1 _ I1 q1) fun vl s2 ⟨l,H2,I2,pl,q2⟩=>thn (hu pins s2 σ H2 _ I2 q2) fun vu s3 ⟨u,H3,I3,pu,q3⟩=>?_)
 rw [evalPart_none]
 refine aL ?_
 have I4:Inv X pins σ H3 { s3 with heap:=s3.heap.push { cls:=.type "slice",data:=.fields #[vl,vu,.none] } }:=I3.kept (t':=s3.toks) fun b ob q=>az _ q
 obtain ⟨T,id,hT,ht,hg⟩:=hr pins { s3 with heap:=s3.heap.push { cls:=.type "slice",data:=.fields #[vl,vu,.none] } } σ H3 x v vl vu l u s3.heap.objs.size Q I4 r1 (Heap.IsSliceOf.new ..) pl pu q3
 show aO (aN X.prog X.w) X.A (subscriptTail e (.Slice lo hi none p2) v (.ref s3.heap.objs.size)) (EP X pins σ Q) X.xe { s3 with heap:=s3.heap.push { cls:=.type "slice",data:=.fields #[vl,vu,.none] } }
 exact tail_any (ops:=[.ref s3.heap.objs.size,v]) ht hT hg (by with_unfolding_all rfl)
noncomputable def wW (xs:List V)(lo hi:Option Int):List V:=(xs.drop (HT.sIx xs.length 0 lo)).take (HT.sIx xs.length xs.length hi - HT.sIx xs.length 0 lo)
theorem vw (xs:List V)(lo hi:Option Int):(wW xs lo hi).length<=xs.length:=by
 unfold wW
 rw [b8,dE]
 omega
noncomputable def MA (K:ax):V->Option Int->Option Int->Hp->VK->Prop:=fun x lo hi H Q=>∃ a xs,x=.ref a/\SqT K H a xs /\
 ¬ (HT.sIx xs.length 0 lo=0/\HT.sIx xs.length xs.length hi=xs.length)/\∀ p,H p=none->Q (.ref p) (upd H p (.tup (wW xs lo hi)))
theorem vX:SlR X (MA X.K):=by
 intro pins s σ H x v vl vu lo hi sl Q I rx hs pl pu h
 obtain ⟨a,xs,rfl,hx,hw,q⟩:=h
 cases rx
 obtain ⟨its,r,ht,hz⟩:=I.tuple hx
 have hlen:its.toArray.size=xs.length:=by rw [aH];exact r.length.symm
 refine ⟨"tuple",_,dZ.lookup,ht.typeIs,?_⟩
 refine HT.getItem_tuple_cut ht hs pl pu (by rw [hlen];exact hw) ?_ (by rw [hlen];exact hz)
 rw [hlen]
 refine ⟨.ref s.heap.objs.size,_,I.laid (t':=s.toks) (o:=.tup (wW xs lo hi)) (fun b ob q=>az _ q) (aJ _) ?_,rfl,q _ (I.hok.fresh (aJ _))⟩
 exact ⟨bb (vw xs lo hi) hz,_,(r.drop (HT.sIx xs.length 0 lo)).take (HT.sIx xs.length xs.length hi - HT.sIx xs.length 0 lo),Qg.new _ _⟩
end
noncomputable def ixN (n:Nat)(i:Int):Option Nat:=if 0<=i then (if i<n then some i.toNat else none) else if -(n:Int)<=i then some (i+n).toNat else none
noncomputable def atI {α:Type}(xs:List α)(i:Int):Option α:=(ixN xs.length i).bind fun j=>xs[j]?
variable {n j:Nat}
theorem YD {i:Int} (h:ixN n i=some j):seqIndex? i n=some j/\j<n/\-(n:Int)<=i/\i<n:=by
 unfold ixN at h
 by_cases h0:0<=i
 ·rw [if_pos h0] at h
  by_cases h1:i<n
  ·rw [if_pos h1] at h
   have e:i.toNat=j:=bP h
   exact ⟨by rw [iP h0 h1,e],by omega,by omega,h1⟩
  ·rw [if_neg h1] at h;cases h
 ·rw [if_neg h0] at h
  by_cases h1:-(n:Int)<=i
  ·rw [if_pos h1] at h
   have e:(i+n).toNat=j:=bP h
   exact ⟨by rw [ic (by omega) h1,e],by omega,h1,by omega⟩
  ·rw [if_neg h1] at h;cases h
theorem ZL {α:Type}{xs:List α}{i:Int}{v:α}(h:atI xs i=some v):∃ j,seqIndex? i xs.length=some j/\xs[j]?=some v/\j<xs.length/\-(xs.length:Int)<=i/\i<xs.length:=by
 unfold atI at h
 cases e:ixN xs.length i with
 | none=>rw [e] at h;cases h
 | some j=>
  rw [e] at h
  obtain ⟨h1,h2,h3,h4⟩:=YD e
  exact ⟨j,h1,h,h2,h3,h4⟩
theorem EY {α:Type}{xs:List α} {v:α}(h:xs[j]?=some v):atI xs (j:Int)=some v:=by
 have hj:j<xs.length:=(aD.mp h).1
 have e:ixN xs.length (j:Int)=some j:=by
  unfold ixN
  rw [if_pos (by omega),if_pos (by omega)];simp
 unfold atI;rw [e];exact h
def Fc (b:Expr):Prop:=∀ o i,iQ b false o i=operate [o,i] (gN o i)
def IxR (X:Cx)(r:R2):Prop:=
 ∀ (value slice:Expr) (pins:List (au × Obj)) (s:aw) (σ:St) (H:Hp) (x y:V) (v u:aj) (Q:VK),Inv X pins σ H s->zA x v->zA y u->r x y H Q ->
  iQ slice false v u=operate [v,u] (gN v u)->aO (aN X.prog X.w) X.A (subscriptTail value slice v u) (EP X pins σ Q) X.xe s
def MtR (X:Cx)(id:String)(r:V->List V->Hp->VK->Prop):Prop:=
 ∀ (pins:List (au × Obj)) (s:aw) (σ:St) (H:Hp) (x:V) (xs:List V) (v:aj) (us:List aj) (Q:VK),Inv X pins σ H s->zA x v->zF xs us->r x xs H Q ->
  aO (aN X.prog X.w) X.A (call (.builtin id) (v :: us)) (EP X pins σ Q) X.xe s
section
variable {X:Cx}{a b:Expr}{ta tb:TE}{pos:Pos}
theorem zv {r:R2}(hr:IxR X r)(ha:PE X a ta)(hb:PE X b tb)(hs:Fc b):PE X (.Subscript a b pos) (tOp r ta tb):=by
 intro pins s σ H Q I h
 exact Subscript_ (HI ha hb I h fun v u s2 x y H2 I2 rx ry q=>hr a b pins s2 σ H2 x y v u Q I2 rx ry q (hs _ _))
noncomputable def FU (K:ax):R2:=fun x y H Q=>∃ p xs i v,x=.ref p/\y=.int i/\SqL K H p xs/\atI xs i=some v/\Q v H
noncomputable def IS (K:ax):R2:=fun x y H Q=>∃ p xs i v,x=.ref p/\y=.int i/\SqT K H p xs/\atI xs i=some v/\Q v H
theorem qK:IxR X (FU X.K):=by
  intro value slice pins s σ H x y v u Q I rx ry h hs
  obtain ⟨p,xs,i,z,rfl,rfl,hq,he,q⟩:=h
  cases rx
  obtain ⟨t,rfl⟩:=ry
  obtain ⟨its,r,pl,hz⟩:=I.list hq
  obtain ⟨j,h1,h2,h3,h4,h5⟩:=ZL he
  obtain ⟨w,ew,rw'⟩:=r.get h2
  have hl:=r.length
  have hn:=wU
  have fin:EP X pins σ Q w s:=⟨z,H,I,rw',q⟩
  by_cases h0:0<=i
  · have hj : i.toNat = j := by
      rw [iP h0 h5] at h1
      exact bP h1
    exact item_listR pl.isList h0 (by omega) (by rw [hj];simpa using ew) fin hs
  · have hj : (i + (its.toArray.size : Int)).toNat = j := by
      rw [ic (by omega) h4] at h1
      rw [aH,<- hl]
      exact bP h1
    exact subscriptTail_builtinR (x:=w) pl.isList.typeIs slot_list_getitem.lookup
      (ie (Q:=fun r s'=>r=w/\EP X pins σ Q r s') pl.isList (by omega) (by rw [aH] <;> omega) (by omega) (by rw [hj];simpa using ew) ⟨rfl,fin⟩) hs
theorem Kj:IxR X (IS X.K):=by
 intro value slice pins s σ H x y v u Q I rx ry h hs
 obtain ⟨p,xs,i,z,rfl,rfl,hq,he,q⟩:=h
 cases rx
 obtain ⟨t,rfl⟩:=ry
 obtain ⟨its,r,pl,hz⟩:=I.tuple hq
 obtain ⟨j,h1,h2,h3,h4,h5⟩:=ZL he
 obtain ⟨w,ew,rw'⟩:=r.get h2
 have hl:=r.length
 have hn:=wU
 have fin:EP X pins σ Q w s:=⟨z,H,I,rw',q⟩
 exact subscriptTail_builtinR (x:=w) pl.typeIs slot_tuple_getitem.lookup
  (getItem_tuple (j:=j) (Q:=fun r s'=>r=w/\EP X pins σ Q r s') pl (by omega) (by omega) (by rw [aH,<- hl];exact h1) (by simpa using ew) ⟨rfl,fin⟩) hs
theorem Kr (its:List aj)(n j:Nat)(u:aj):ig (·.setIfInBounds j u) { cls:=.type "list",data:=.seq its.toArray n }={ cls:=.type "list",data:=.seq (its.set j u).toArray n }:=by
 simp [ig]
variable {pins:List (au × Obj)} {σ:St} {H:Hp} {s:aw} {p:au} {xs:List V}
theorem Inv.lst (I:Inv X pins σ H s)(h:H p=some (.lst xs)) :
  ∃ (its:List aj) (n:Nat),zF xs its/\s.heap.get? p=some { cls:=.type "list",data:=.seq its.toArray n }/\xs.length<=aM:=by
 obtain ⟨z,its,n,r,e⟩:=I.hok p _ h
 exact ⟨its,n,r,e,z⟩
theorem Inv.lstUpd {xs ys:List V}{its its':List aj}{n n':Nat}{f:Obj->Obj}(I:Inv X pins σ H s)(h:H p=some (.lst xs))
  (ho:s.heap.get? p=some { cls:=.type "list",data:=.seq its.toArray n }) (hf:f { cls:=.type "list",data:=.seq its.toArray n }={ cls:=.type "list",data:=.seq its'.toArray n' }) (r:zF ys its') (hz:ys.length<=aM) (t:Nat) :
  Inv X pins σ (upd H p (.lst ys)) { s with heap:=s.heap.update p f,toks:=t }:=by
 have e:(s.heap.update p f).get? p=some { cls:=.type "list",data:=.seq its'.toArray n' }:=by
  rw [bJ f ho (by rw [hf] <;> rfl),hf]
 refine I.write (x:=p) (e:=p) (by rw [h];trivial) (.inl rfl) (fun b u hb q=>(dv _ _ (Ne.symm hb)).trans q) ⟨_,e⟩ ?_
 exact ⟨hz,its',n',r,e⟩
noncomputable def GO:V->V->V->Hp->(Hp->Prop)->Prop:=fun o i v H Q=>∃ p xs k j,o=.ref p/\i=.int k/\H p=some (.lst xs)/\ixN xs.length k=some j/\Q (upd H p (.lst (xs.set j v)))
theorem WZ:W6 X GO:=by
  intro pins s σ H o i v ov iv u Q I ro ri rv h
  obtain ⟨p,xs,k,j,rfl,rfl,hp,hj,q⟩:=h
  cases ro
  obtain ⟨t,rfl⟩:=ri
  obtain ⟨its,n,r,ho,hz⟩:=I.lst hp
  obtain ⟨h1,h2,h3,h4⟩:=YD hj
  have hl:=r.length
  have hn:=wU
  have I':Inv X pins σ (upd H p (.lst (xs.set j v))) { s with heap:=s.heap.update p (ig (·.setIfInBounds j u)) }:=
    I.lstUpd hp ho (Kr its n j u) (r.set rv j) (by rw [bN];exact hz) s.toks
  by_cases h0:0<=k
  · have hk : k.toNat = j := by
      rw [iP h0 h4] at h1
      exact bP h1
    exact PySem.W.ki_setAt ho h0 (by omega) (by rw [aH,<- hl];exact h4) (by rw [hk];exact ⟨_,I',q⟩)
  · have hk : (k + (its.toArray.size : Int)).toNat = j := by
      rw [ic (by omega) h3] at h1
      rw [aH,<- hl]
      exact bP h1
    exact PySem.W.ki_setBack ho (by omega) (by rw [aH,<- hl];exact h3) (by omega) (by rw [hk];exact ⟨_,I',q⟩)
theorem Qo (lo hi:Option Int)(n:Nat):(fv lo hi none n).1=((HT.sIx n 0 lo:Nat):Int)/\(fv lo hi none n).2.1=((HT.sIx n n hi:Nat):Int)/\(fv lo hi none n).2.2=1:=by
 refine ⟨?_,?_,rfl⟩
 ·cases lo with
  | none=>simp [fv,HT.sIx]
  | some i=>
   simp only [fv,HT.sIx,me,show (1:Int) > 0 by decide,if_true]
   by_cases h:i<0
   ·simp only [h,if_true] <;> omega
   ·simp only [h,if_false] <;> omega
 ·cases hi with
  | none=>simp [fv,HT.sIx]
  | some i=>
   simp only [fv,HT.sIx,me,show (1:Int) > 0 by decide,if_true]
   by_cases h:i<0
   ·simp only [h,if_true] <;> omega
   ·simp only [h,if_false] <;> omega
theorem Za (its:List aj)(lo hi:Option Int):slicePick its.toArray lo hi none=((its.drop (HT.sIx its.length 0 lo)).take (HT.sIx its.length its.length hi - HT.sIx its.length 0 lo)).toArray:=by
 obtain ⟨h1,h2,h3⟩:=Qo lo hi its.toArray.size
 unfold slicePick
 rw [h1,h2,h3]
 simp only [sliceRange_one,pick_run,aH] <;> rfl
noncomputable def Mg (K:ax):V->Option Int->Option Int->Hp->VK->Prop:=fun x lo hi H Q=>∃ a xs,x=.ref a/\SqL K H a xs/\∀ p,H p=none->Q (.ref p) (upd H p (.lst (wW xs lo hi)))
theorem XG:SlR X (Mg X.K):=by
 intro pins s σ H x v vl vu lo hi sl Q I rx hs pl pu h
 obtain ⟨a,xs,rfl,hx,q⟩:=h
 cases rx
 obtain ⟨its,r,ht,hz⟩:=I.list hx
 have hlen:=r.length
 refine ⟨"list",_,slot_list_getitem.lookup,ht.isList.typeIs,?_⟩
 refine wpAny_getItem_list_slice ht.isList hs pl pu .none (by simp) ?_ (by rw [aH] <;> omega)
 rw [Za,<- hlen]
 refine ⟨.ref s.heap.objs.size,_,I.laid (t':=s.toks) (o:=.lst (wW xs lo hi)) (fun b ob q=>az _ q) (aJ _) ?_,rfl,q _ (I.hok.fresh (aJ _))⟩
 exact ⟨bb (vw xs lo hi) hz,_,0,(r.drop (HT.sIx xs.length 0 lo)).take (HT.sIx xs.length xs.length hi - HT.sIx xs.length 0 lo),aW _ rfl⟩
noncomputable def xL:V->Bool
 | .non=>true
 | .bl _=>true
 | .int _=>true
 | .str _=>true
 | _=>false
noncomputable def eqV:V->V->Bool
 | .non,.non=>true
 | .bl a,.bl b=>a == b
 | .bl a,.int b=>(if a then 1 else 0) == b
 | .int a,.bl b=>a == (if b then 1 else 0)
 | .int a,.int b=>a == b
 | .str a,.str b=>a == b
 | _,_=>false
theorem Lo {A:aZ}{s:aw}{y x:V}{u v:aj}(ry:zA y u)(rx:zA x v)(fy:xL y=true)(fx:xL x=true):bH A s u v (eqV y x):=by
 cases y with
 | non=>
  cases ry
  cases x with
  | non=>cases rx;exact bH.same _
  | bl b=>cases rx;exact bH.none_bool b
  | int b=>obtain ⟨t,rfl⟩:=rx;exact bH.none_int b t
  | str b=>obtain ⟨t,rfl⟩:=rx;exact bH.none_str b t
  | _=>exact absurd (show false=true from fx) bf
 | bl a=>
  cases ry
  cases x with
  | non=>cases rx;exact bH.bool_none a
  | bl b=>cases rx;exact bH.bool_bool a b
  | int b=>obtain ⟨t,rfl⟩:=rx;exact bH.bool_int a b t
  | str b=>obtain ⟨t,rfl⟩:=rx;exact bH.bool_str a b t
  | _=>exact absurd (show false=true from fx) bf
 | int a=>
  obtain ⟨t',rfl⟩:=ry
  cases x with
  | non=>cases rx;exact bH.int_none a t'
  | bl b=>cases rx;exact bH.int_bool a t' b
  | int b=>obtain ⟨t,rfl⟩:=rx;exact bH.int_int a t' b t
  | str b=>obtain ⟨t,rfl⟩:=rx;exact bH.int_str a t' b t
  | _=>exact absurd (show false=true from fx) bf
 | str a=>
  obtain ⟨t',rfl⟩:=ry
  cases x with
  | non=>cases rx;exact bH.str_none a t'
  | bl b=>cases rx;exact bH.str_bool a t' b
  | int b=>obtain ⟨t,rfl⟩:=rx;exact bH.str_int a t' b t
  | str b=>obtain ⟨t,rfl⟩:=rx;exact bH.str_str a t' b t
  | _=>exact absurd (show false=true from fx) bf
 | _=>exact absurd (show false=true from fy) bf
noncomputable def eqU (x:V)(u:aj):Bool:=match u with
 | .none=>eqV .non x
 | .bool b=>eqV (.bl b) x
 | .int i _=>eqV (.int i) x
 | .str z _=>eqV (.str z) x
 | _=>false
theorem WD {x y:V}{u:aj}(r:zA y u)(f:xL y=true):eqU x u=eqV y x:=by
 cases y with
 | non=>cases r;rfl
 | bl b=>cases r;rfl
 | int i=>obtain ⟨t,rfl⟩:=r;rfl
 | str z=>obtain ⟨t,rfl⟩:=r;rfl
 | _=>exact absurd (show false=true from f) bf
theorem yz {x:V}:∀ {xs:List V} {us:List aj},zF xs us->xs.all xL=true->us.any (eqU x)=xs.any fun y=>eqV y x
 | _,_,.nil,_=>rfl
 | y :: xs,u :: us,.cons r t,f=>by
  rw [dX,dF] at f
  rw [ez,ez,WD r f.1,yz t f.2]
theorem kz {A:aZ}{s:aw}{x:V}{v:aj}(rx:zA x v)(fx:xL x=true):∀ {xs:List V} {us:List aj},zF xs us->xs.all xL=true->∀ u ∈ us,bH A s u v (eqU x u)
 | _,_,.nil,_=>fun u hu=>by cases hu
 | y :: xs,u :: us,.cons r t,f=>fun u' hu=>by
  rw [dX,dF] at f
  rcases aA.mp hu with rfl | hu
  ·rw [WD r f.1];exact Lo r rx f.1 fx
  ·exact kz rx fx t f.2 u' hu
noncomputable def inV (x:V)(xs:List V):Bool:=xs.any fun y=>eqV y x
noncomputable def rIn (K:ax)(neg:Bool):R2:=fun x y H Q=>∃ p xs,y=.ref p/\(SqL K H p xs \/ SqT K H p xs)/\xL x=true/\xs.all xL=true/\Q (.bl (if neg then !inV x xs else inV x xs)) H
theorem yR:OpR X (cJ .In) (rIn X.K false):=by
 intro pins s σ H x y v u Q I rx ry h
 obtain ⟨p,xs,rfl,hq,fx,fs,q⟩:=h
 cases ry
 rcases hq with hq | hq
 ·obtain ⟨its,r,pl,hz⟩:=I.list hq
  refine SeqAt.in_listAt (eqU x) pl.isList (fun w hw=>kz rx fx r fs w (by simpa using hw)) ⟨.bl _,H,I,rfl,?_⟩
  rw [show its.toArray.any (eqU x)=its.any (eqU x) by simp,yz r fs]
  exact q
 ·obtain ⟨its,r,pl,hz⟩:=I.tuple hq
  refine SeqAt.in_tupleAt (eqU x) pl (fun w hw=>kz rx fx r fs w (by simpa using hw)) ⟨.bl _,H,I,rfl,?_⟩
  rw [show its.toArray.any (eqU x)=its.any (eqU x) by simp,yz r fs]
  exact q
theorem Qh:OpR X (cJ .NotIn) (rIn X.K true):=by
 intro pins s σ H x y v u Q I rx ry h
 obtain ⟨p,xs,rfl,hq,fx,fs,q⟩:=h
 cases ry
 rcases hq with hq | hq
 ·obtain ⟨its,r,pl,hz⟩:=I.list hq
  refine SeqAt.notIn_listAt (eqU x) pl.isList (fun w hw=>kz rx fx r fs w (by simpa using hw)) ⟨.bl _,H,I,rfl,?_⟩
  rw [show its.toArray.any (eqU x)=its.any (eqU x) by simp,yz r fs]
  exact q
 ·obtain ⟨its,r,pl,hz⟩:=I.tuple hq
  refine SeqAt.notIn_tupleAt (eqU x) pl (fun w hw=>kz rx fx r fs w (by simpa using hw)) ⟨.bl _,H,I,rfl,?_⟩
  rw [show its.toArray.any (eqU x)=its.any (eqU x) by simp,yz r fs]
  exact q
theorem zt:jT X (.builtin "len") (fun xs H Q=>∃ p ys,xs=[.ref p]/\(SqL X.K H p ys \/ SqT X.K H p ys)/\Q (.int ys.length) H):=by
 intro pins s σ H xs us Q I r h
 obtain ⟨p,ys,rfl,hq,q⟩:=h
 obtain ⟨u,rfl,rx⟩:=xw r
 cases rx
 have hn:=wU
 rcases hq with hq | hq
 ·obtain ⟨its,r',pl,hz⟩:=I.list hq
  have hlen:=r'.length
  exact Calls.call_len_list pl.isList (by simp only [aH] <;> omega) ⟨.int ys.length,H,I.tok _,⟨s.toks+1,by rw [aH,hlen]⟩,q⟩
 ·obtain ⟨its,r',pl,hz⟩:=I.tuple hq
  have hlen:=r'.length
  exact len_tuple pl (by simp only [aH] <;> omega) ⟨.int ys.length,H,I.tok _,⟨s.toks+1,by rw [aH,hlen]⟩,q⟩
theorem qA:jT X (.type "list") (fun xs H Q=>∃ p ys,xs=[.ref p]/\(SqL X.K H p ys \/ SqT X.K H p ys)/\∀ l,H l=none->Q (.ref l) (upd H l (.lst ys))):=by
 intro pins s σ H xs us Q I r h
 obtain ⟨p,ys,rfl,hq,q⟩:=h
 obtain ⟨u,rfl,rx⟩:=xw r
 cases rx
 have fin:∀ (its:List aj),zF ys its->ys.length<=aM->∀ (h':Heap) (c':Nat),(∀ b o',s.heap.get? b=some o'->h'.get? b=some o') ->
   h'.get? s.heap.objs.size=some { cls:=.type "list",dict:=none,data:=.seq its.toArray c',slots:=#[] }->EP X pins σ Q (.ref s.heap.objs.size) { s with heap:=h' }:=fun its r' hz h' c' kp e=>
  ⟨.ref s.heap.objs.size,_,I.laid (t':=s.toks) kp (aJ _) (show zQ X.prog X.w _ h' _ (.lst ys) from ⟨hz,its,c',r',e⟩),rfl,q _ (I.hok.fresh (aJ _))⟩
 rcases hq with hq | hq
 ·obtain ⟨its,r',pl,hz⟩:=I.list hq
  have hlen:=r'.length
  obtain ⟨o,ho,hc,n,hd⟩:=pl.isList
  exact call_list_seq p (.inl rfl) ho hc hd (fun h' c' kp e=>fin its r' hz h' c' kp e) (by simp only [aH] <;> omega)
 ·obtain ⟨its,r',pl,hz⟩:=I.tuple hq
  have hlen:=r'.length
  obtain ⟨o,ho,hc,n,hd⟩:=pl
  exact call_list_seq p (.inr rfl) ho hc hd (fun h' c' kp e=>fin its r' hz h' c' kp e) (by simp only [aH] <;> omega)
theorem qE:jT X (.type "tuple") (fun xs H Q=>∃ p ys,xs=[.ref p]/\((SqL X.K H p ys/\∀ l,H l=none->Q (.ref l) (upd H l (.tup ys))) \/ (SqT X.K H p ys/\Q (.ref p) H))):=by
 intro pins s σ H xs us Q I r h
 obtain ⟨p,ys,rfl,h⟩:=h
 obtain ⟨u,rfl,rx⟩:=xw r
 cases rx
 rcases h with ⟨hq,q⟩ | ⟨hq,q⟩
 ·obtain ⟨its,r',pl,hz⟩:=I.list hq
  have hlen:=r'.length
  refine call_tuple_list pl.isList (fun h' kp=>?_) (by simp only [aH] <;> omega)
  have I1:Inv X pins σ H { s with heap:=h' }:=I.kept (t':=s.toks) kp
  have I2:Inv X pins σ (upd H h'.objs.size (.tup ys)) { s with heap:=h'.push { cls:=.type "tuple",data:=.seq its.toArray } }:=
   I1.laid (t':=s.toks) (fun b o e=>az _ e) (aJ _) (show zQ X.prog X.w _ _ _ (.tup ys) from ⟨hz,its,r',Qg.new _ _⟩)
  exact ⟨.ref h'.objs.size,_,I2,rfl,q _ (I1.hok.fresh (aJ _))⟩
 ·obtain ⟨its,r',pl,hz⟩:=I.tuple hq
  exact call_tuple_same pl ⟨.ref p,H,I,rfl,q⟩
def tyV (K:ax)(T:String)(x:V)(H:Hp):Prop:=match x with
  | .str _=>T="str"
  | .int _=>T="int"
  | .ref p => (T = "list" /\ ∃ xs, SqL K H p xs) \/ (T = "tuple" /\ ((∃ xs, Rd H p (.tup xs)) \/ ∃ o, K.lookup p = some o /\ o.cls = .type "tuple" /\ o.dict = none)) \/
      (T="dict"/\((∃ kvs,H p=some (.dK kvs)) \/ ∃ kvs,H p=some (.dT kvs))) \/ (T="set"/\∃ S n,H p=some (.set S n))
  | _=>False
theorem LD {pins : List (au × Obj)}{σ : St}{H : Hp}{s : aw}{T : String}{x : V}{v : aj}(I : Inv X pins σ H s)(r : zA x v)(ty : tyV X.K T x H) :
    s.TypeIs v T/\∀ a,v=.ref a->∃ ob,s.heap.get? a=some ob/\ob.dict=none:=by
  cases x with
  | str z=>
    obtain ⟨t,rfl⟩:=r
    cases (show T="str" from ty)
    exact ⟨typeIs_str s z t,fun _ e=>nomatch e⟩
  | int i=>
    obtain ⟨t,rfl⟩:=r
    cases (show T="int" from ty)
    exact ⟨typeIs_int s i t,fun _ e=>nomatch e⟩
  | ref p=>
    cases r
    rcases ty with ⟨rfl,xs,hq⟩ | ⟨rfl,⟨xs,hx⟩ | ⟨o,hk,hc,hd⟩⟩ | ⟨rfl,hk⟩ | ⟨rfl,S,n,hk⟩
    · obtain ⟨its,_,pl,_⟩:=I.list hq
      refine ⟨pl.isList.typeIs,fun a e=>?_⟩
      cases e
      obtain ⟨o,n,e,c,hd,_⟩:=pl
      exact ⟨o,e,hd⟩
    · obtain ⟨_,its,_,o,e,c,_,hd⟩:=hx.ok I.hok
      refine ⟨⟨o,e,c⟩,fun a e2=>?_⟩
      cases e2
      exact ⟨o,e,hd⟩
    · refine ⟨⟨o,I.kIn p o hk,hc⟩,fun a e=>?_⟩
      cases e
      exact ⟨o,I.kIn _ o hk,hd⟩
    · have z : ∃ o, s.heap.get? p = some o /\ o.ExactDict := by
        rcases hk with ⟨kvs,hk⟩ | ⟨kvs,hk⟩
        · obtain ⟨_,_,_,_,o,_,_,e,ex,_⟩:=I.hok p _ hk
          exact ⟨o,e,ex⟩
        · obtain ⟨_,_,_,_,o,_,_,e,ex,_⟩:=I.hok p _ hk
          exact ⟨o,e,ex⟩
      obtain ⟨o,e,ex⟩:=z
      refine ⟨⟨o,e,ex.1⟩,fun a e2=>?_⟩
      cases e2
      exact ⟨o,e,ex.2.1⟩
    · obtain ⟨o,_,_,_,e,ex,_⟩:=I.hok p _ hk
      refine ⟨⟨o,e,ex.1⟩,fun a e2=>?_⟩
      cases e2
      exact ⟨o,e,ex.2.1⟩
  | _=>exact bM ty
noncomputable def tBM (K:ax)(T:String)(r:V->List V->Hp->VK->Prop)(to:TE)(t:TA):TE:=fun σ H Q=>to σ H fun x H1=>tyV K T x H1/\t σ H1 fun xs H2=>r x xs H2 Q
variable {o e:Expr}{es:List Expr}{to:TE}{t:TA}{name:Str}{apos cpos:Pos}{T id:String}{r:V->List V->Hp->VK->Prop}
theorem vZ (pa:PlainAttrs T)(slot:Slot T name id)(hty:typeOf (.builtin id)=pure (.type "method_descriptor"))(hm:MtR X id r)(ho:PE X o to)(ha:PA X (e :: es) t)
  (hbase:dS o name X.env (eval o X.env)=eval o X.env:=by rfl)
  (hfew:((ca cpos (aQ (e :: es) X.env)).all (fun x=>!x.1) && (fc cpos (dC [] X.env)).all (fun x=>x.1.isSome)
   && decide ((e :: es).length+([]:List gQ).length+(if ([]:List gQ).isEmpty then 0 else 1)<30))=true:=by rfl)
  (hline:(apos.endLine == cpos.line)=true:=by rfl) (hs:aQ (e :: es) X.env=(false,eval e X.env) :: aQ es X.env:=by rfl) (hplain:(ca cpos (aQ es X.env)).any (·.1)=false:=by rfl) :
  PE X (.Call (.Attribute o name apos) (e :: es) [] cpos) (tBM X.K T r to t):=by
 intro pins s σ H Q I h
 refine wpAny_Call_method_late hbase hfew hline rfl (thn (ho pins s σ H _ I h) fun v s1 ⟨x,H1,I1,r1,ty,q1⟩=>?_)
 obtain ⟨h1,h2⟩:=LD I1 r1 ty
 refine ⟨T,id,pa,slot,hty,h1,h2,?_⟩
 have hA:=ha cpos pins s1 σ H1 _ I1 q1
 rw [hs] at hA ⊢
 refine ii (by show (false || (ca cpos (aQ es X.env)).any (·.1))=false;rw [hplain] <;> rfl) (eL ?_)
 exact thn hA fun us s2 ⟨vs,H2,I2,r2,q2⟩=>hm pins s2 σ H2 x vs v us Q I2 r1 r2 q2
end
def MtM (X:Cx)(id:String)(r:V->List V->Hp->VK->Prop):Prop:=
 ∀ (pins:List (au × Obj)) (s:aw) (σ:St) (H:Hp) (x:V) (xs:List V) (v:aj) (us:List aj) (Q:VK),Inv X pins σ H s->zA x v->zF xs us->r x xs H Q ->
  aO (aN X.prog X.w) X.A (call (.builtin id) (v :: us)) (EP X pins σ Q) X.xe s
theorem zF.one:∀ {x:V} {us:List aj},zF [x] us->∃ u,us=[u]/\zA x u
 | _,_,.cons r .nil=>⟨_,rfl,r⟩
theorem zF.dropLast {xs:List V}{us:List aj}(h:zF xs us):zF xs.dropLast us.dropLast:=by
 induction h with
 | nil=>exact .nil
 | cons r t ih=>
  cases t with
  | nil=>exact .nil
  | cons q t'=>exact .cons r ih
theorem zF.rep {xs:List V}{us:List aj}(h:zF xs us):∀ k:Nat,zF (aF k xs).flatten (aF k us).flatten
 | 0=>.nil
 | k+1=>by
  rw [cT,cT,dR,dR]
  exact zF.append h (zF.rep h k)
theorem Zt (its:List aj):∀ (k:Nat) (acc:List aj),
  mJ (fun x1 x2=>x1 ++ x2) acc.toArray (aF k its.toArray)=(acc ++ (aF k its).flatten).toArray
 | 0,acc=>by simp
 | k+1,acc=>by
  have e:acc.toArray ++ its.toArray=(acc ++ its).toArray:=by simp
  have e2:(acc ++ its) ++ (aF k its).flatten=acc ++ (aF (k+1) its).flatten:=by
   rw [cT,dR,lK]
  rw [<- e2,<- Zt its k (acc ++ its),<- e,cT,List.foldl_cons]
section
variable {X:Cx}{pins:List (au × Obj)}{σ:St}{H:Hp}{s:aw}{l b:au}{xs ys zs:List V}
variable {t':Nat}
theorem Inv.lset {its its':List aj} {f:Array aj->Array aj} (I:Inv X pins σ H s)(hH:H l=some (.lst xs))
  (e:s.heap.get? l=some { cls:=.type "list",data:=.seq its.toArray n }) (hf:f its.toArray=its'.toArray) (hv:zF ys its') (hz:ys.length<=aM) :
  Inv X pins σ (upd H l (.lst ys)) { s with heap:=s.heap.update l (ig f),toks:=t' }:=by
 have q:=PySem.IsL.update e f
 rw [hf] at q
 refine I.write (x:=l) (e:=l) (by rw [hH];exact trivial) (.inl rfl) (fun b' u hb hu=>(dv s.heap (ig f) (Ne.symm hb)).trans hu) ⟨_,q⟩ ?_
 exact ⟨hz,its',_,hv,q⟩
theorem Inv.lnew {its:List aj} (I:Inv X pins σ H s)(hv:zF ys its)(hz:ys.length<=aM) :
  Inv X pins σ (upd H s.heap.objs.size (.lst ys)) { s with heap:=s.heap.push { cls:=.type "list",data:=.seq its.toArray },toks:=t' }:=
 I.laid (fun _ _ q=>az _ q) (aJ _) ⟨hz,its,0,hv,aW _ rfl⟩
theorem Inv.fresh (I:Inv X pins σ H s):H s.heap.objs.size=none:=I.hok.fresh (aJ _)
theorem Inv.lstM (I:Inv X pins σ H s)(hH:H l=some (.lst xs)):xs.length<=aM/\∃ (its:List aj) (n:Nat),zF xs its/\xs.length=its.length/\s.heap.get? l=some { cls:=.type "list",data:=.seq its.toArray n }:=by
 obtain ⟨z,its,n,r,e⟩:=I.hok l _ hH
 exact ⟨z,its,n,r,r.length,e⟩
theorem Jm (h:n<=aM):dY n=false:=by
 unfold dY
 exact decide_eq_false (by omega)
end
section
variable {X:Cx}
noncomputable def vL:V->List V->Hp->VK->Prop:=fun x vs H Q=>∃ l xs y,x=.ref l/\vs=[y]/\H l=some (.lst xs)/\xs.length<aM/\Q .non (upd H l (.lst (xs ++ [y])))
theorem Zo:MtM X "list.append" vL:=by
 intro pins s σ H x vs v us Q I rx rv h
 obtain ⟨l,xs,y,rfl,rfl,hH,hz,q⟩:=h
 cases rx
 obtain ⟨u,rfl,ru⟩:=rv.one
 obtain ⟨z,its,n,r,hl,e⟩:=I.lstM hH
 refine ik F.slot_list_append ⟨_,e,rfl⟩ F.entry_list_append (F.args_list_append_2 _ _) (PySem.list_append l its.toArray n u (by rw [aH];omega)) ⟨e,?_⟩
 refine ⟨.non,_,I.lset (its':=its ++ [u]) hH e (by simp) (r.append (.cons ru .nil)) ?_,rfl,q⟩
 rw [bE,fN]
 omega
noncomputable def XJ:V->List V->Hp->VK->Prop:=fun x vs H Q=>∃ l b xs zs,x=.ref l/\vs=[.ref b]/\H l=some (.lst xs)/\H b=some (.lst zs)/\xs.length+zs.length<=aM/\Q .non (upd H l (.lst (xs ++ zs)))
theorem LK:MtM X "list.extend" XJ:=by
 intro pins s σ H x vs v us Q I rx rv h
 obtain ⟨l,b,xs,zs,rfl,rfl,hH,hB,hz,q⟩:=h
 cases rx
 obtain ⟨u,rfl,ru⟩:=rv.one
 cases ru
 obtain ⟨z,its,n,r,hl,e⟩:=I.lstM hH
 obtain ⟨z2,its2,n2,r2,hl2,e2⟩:=I.lstM hB
 have hsz:its.toArray.size+its2.toArray.size<=aM:=by rw [aH,aH];omega
 have hlong:¬ (!its.toArray.isEmpty && dY (its.toArray.size+its2.toArray.size))=true:=by
  rw [Jm hsz,fJ]
  exact bf
 refine ik F.slot_list_extend ⟨_,e,rfl⟩ F.entry_list_extend (F.args_list_extend_2 _ _)
  (AutoSeq1.list_extend_list_list_0 l its.toArray n b its2.toArray n2 hlong (by rw [aH];omega) (by omega)) ⟨e,e2,?_⟩
 refine ⟨.non,_,I.lset (its':=its ++ its2) hH e (by simp) (r.append r2) ?_,rfl,q⟩
 rw [bE]
 omega
noncomputable def Ed:R2:=fun x y H Q=>∃ l b xs zs,x=.ref l/\y=.ref b/\H l=some (.lst xs)/\H b=some (.lst zs)/\xs.length+zs.length<=aM/\∀ p,H p=none->Q (.ref p) (upd H p (.lst (xs ++ zs)))
theorem yT:OpR X (gb .Add) Ed:=by
 intro pins s σ H x y v u Q I rx ry h
 obtain ⟨l,b,xs,zs,rfl,rfl,hH,hB,hz,q⟩:=h
 cases rx
 cases ry
 obtain ⟨z,its,n,r,hl,e⟩:=I.lstM hH
 obtain ⟨z2,its2,n2,r2,hl2,e2⟩:=I.lstM hB
 refine PySem.P.add_list e e2 ?_ (by rw [aH,aH];omega)
 have ea:its.toArray ++ its2.toArray=(its ++ its2).toArray:=by simp
 rw [ea]
 exact ⟨.ref _,_,I.lnew (t':=s.toks) (r.append r2) (by rw [bE];omega),rfl,q _ I.fresh⟩
noncomputable def EQ:R2:=fun x y H Q=>∃ l k xs,x=.ref l/\y=.int k/\H l=some (.lst xs)/\-(2 ^ 63)<=k/\k<2 ^ 63/\xs.length * k.toNat<=aM /\
 ∀ p,H p=none->Q (.ref p) (upd H p (.lst (aF k.toNat xs).flatten))
theorem FL {α:Type}(xs:List α)(k:Nat):(aF k xs).flatten.length=k * xs.length:=by
 induction k with
 | zero=>simp
 | succ k ih=>rw [cT,dR,bE,ih,Nat.succ_mul,Nat.add_comm]
theorem wR:OpR X (gb .Mult) EQ:=by
 intro pins s σ H x y v u Q I rx ry h
 obtain ⟨l,k,xs,rfl,rfl,hH,h1,h2,hz,q⟩:=h
 cases rx
 obtain ⟨t,rfl⟩:=ry
 obtain ⟨z,its,n,r,hl,e⟩:=I.lstM hH
 have hlen:its.toArray.size * k.toNat<=aM:=by rw [aH,<- hl];exact hz
 have hcap:¬ its.toArray.size * k.toNat > (2 ^ 63 - 1) / 8:=by
  have:(aM:Nat)<=(2 ^ 63 - 1) / 8:=by decide
  omega
 have hfit:¬ (!Builtin.List.listFitsIndex k)=true:=by
  rw [fitsIndex_both h1 h2]
  exact bf
 have hlong:¬ dY (its.toArray.size * k.toNat)=true:=by
  rw [Jm hlen]
  exact bf
 have hnew:mJ (fun x1 x2=>x1 ++ x2) #[] (aF (if its.toArray.isEmpty=true then 0 else k.toNat) its.toArray)=(aF k.toNat its).flatten.toArray:=by
  have f0:∀ m:Nat,mJ (fun x1 x2=>x1 ++ x2) #[] (aF m its.toArray)=(aF m its).flatten.toArray:=fun m=>by
   have:=Zt its m []
   rw [List.nil_append] at this
   exact this
  rw [f0]
  cases its with
  | nil=>simp
  | cons a r'=>rw [if_neg (by simp)]
 refine wpAny_binaryOp_repeat_ref (T:="list") (U:="int") (by decide) ⟨_,e,rfl⟩ (fun s'=>typeIs_int s' k t) noFill_list_mul F.fills_int_mul F.slot_int_rmul repeat_list F.slot_int_index.lookup
  (ik F.slot_int_rmul (typeIs_int s k t) F.entry_int_rmul (F.args_int_rmul_2 _ _) (int___rmul___int_list k t l its.toArray n)
   ⟨e,rfl,⟨_,e,rfl⟩,ik F.slot_list_mul ⟨_,e,rfl⟩ F.entry_list_mul (F.args_list_mul_2 _ _) (AutoListH.list___mul___list_int_3 l its.toArray n k t hfit hcap hlong) ⟨e,?_⟩⟩)
 rw [hnew]
 exact ⟨.ref _,_,I.lnew (t':=s.toks) (r.rep k.toNat) (by rw [FL,Nat.mul_comm];exact hz),rfl,q _ I.fresh⟩
end
section
variable {prog:aS}{w:bo}{A:aZ}{E:aj->aw->Prop}{s:aw}
end
section
variable {X:Cx}
end
end L2
namespace Att
open PySem PySem.W PySem.Calls PyProof.Rows
theorem vA {P:Params}{h:Heap}:∀ (ns:List Int) (vs:List aj),WellAll P h vs (ns.map WData.int)->IntsAre vs ns:=by
 intro ns
 induction ns with
 | nil=>
  intro vs w
  rw [im] at w
  cases w
  exact .nil
 | cons n ns ih=>
  intro vs w
  rw [aV] at w
  cases w with
  | cons a b=>
   cases a
   exact .cons _ _ (ih _ b)
theorem V3 {l:OpenLaw}{n:Nat}(hn:l.most=some n){P:Params}{h:Heap}{args:List WData}{vals:List aj}
  (hpre:l.row.toRowW.claim.pre args=true) (hwl:WellAll P h vals args) :
  ∃ a vs ns,vals=[aj.ref a]/\args=[WData.list (ns.map WData.int)]/\h.get? a=some { cls:=.type "list",data:=.seq vs.toArray }/\IntsAre vs ns/\ns.length<=n:=by
 have hsh:WShape.hasAll [] args [.list .int]=true:=(pre_splitW hpre).1
 have hc:l.pre.holds [] { args:=args }=true:=(pre_splitW hpre).2
 obtain ⟨d,r,rfl,h1,h2⟩:=hasAllW_cons hsh
 obtain rfl:=hasAllW_nil h2
 obtain ⟨xs,rfl,h3⟩:=hasW_list h1
 obtain ⟨ns,rfl⟩:=items_int h3
 have hlen:ns.length<=n:=by
  unfold OpenLaw.pre at hc
  have h4:(WTm.not (.lt (.lit (.int (n:Int))) (.len (.arg 0)))).holds [] { args:=[.list (ns.map .int)] }=true:=by
   have h4:=(holds_andW hc).1
   rw [hn] at h4
   exact h4
  have h5:=condW_of h4 (w_not (w_lt w_lit (w_len_list (w_arg rfl))))
  rw [aq] at h5
  refine Nat.le_of_not_lt fun q=>?_
  have q':(n:Int)<((ns.length:Nat):Int):=by omega
  first
   | (rw [decide_eq_true q'] at h5;exact absurd h5 (by decide))
   | (simp at h5;omega)
 cases hwl with
 | cons w1 w2=>
  cases w2
  cases w1 with
  | list ho hall=>exact ⟨_,_,ns,rfl,rfl,ho,vA ns _ hall,hlen⟩
theorem VN (l:OpenLaw)(args:List WData):l.row.toRowW.claim.post args (.bool true) args=true:=
 postW_of (r:=l.row.toRowW) (X:=(true == true))
  (show WShape.has [] (.bool true) .bool=true by first | rfl | decide | simp [WShape.has,WShape.arms,WShape.armsAll])
  (show (WTm.eq .res (.lit (.bool true))).value [] { args:=args,res:=some (.bool true),after:=args }=some (.bool (true == true)) from w_eq_bool (w_res rfl) w_lit) rfl
theorem attach_call {l:OpenLaw}{n:Nat}{q:aS}{loose:List Str}{XP:(Str->Option aj)->Heap->Prop}{YP:bo->Heap->Prop}{d:DefRec}
  (hn:l.most=some n) (hdf:d.params.defaults=[])
  (call:∀ (w:bo) (s₀ s₁:aw) (mg mb:Str->Option aj) (fa:au) (o:Obj) (pm cd doc:aj) (a:au) (vs:List aj) (ns:List Int),
   Ground q loose [] XP w s₀ mg mb s₁.heap->YP w s₁.heap ->
   s₁.heap.get? fa=some o->o.data=.func (docDef d.name d.params d.body d.scope pm cd doc)->s₁.heap.CodeRec cd d.name->mg d.name=some (.ref fa) ->
   s₁.heap.get? a=some { cls:=.type "list",data:=.seq vs.toArray }->IntsAre vs ns->ns.length<=n->s₁.gens=#[] ->
   fk (aN l.prog w) i3 (.call (.ref fa) ⟨[.ref a],[]⟩) (fun r s'=>r=.ok (.ret (.bool true))/\OldK s₁.heap s'.heap/\s'.os=s₁.os/\gu s'.gens) s₁) :
  WalkO q loose XP YP l.row.toRowW d [] (fun f vs=>mK f vs):=by
 intro w s₀ s₁ mg mb G Y fa o pm cd doc dV kV ho hd hcd hD hmg hg args vals as hpre hlay hrd hwl hlo
 obtain rfl:dV=.none:=Dflts.none hD hdf
 obtain rfl:kV=.none:=Dflts.noKw hD
 obtain ⟨a,vs,ns,rfl,rfl,hobj,hints,hlen⟩:=V3 hn hpre hwl
 refine enter_call (eQ (call w s₀ s₁ mg mb fa o pm cd doc a vs ns G Y ho (fd_plain hd) hcd hmg hobj hints hlen hg) fun r s' hq=>?_)
 obtain ⟨rfl,h2,h3,h4⟩:=hq
 exact ⟨.inl ⟨.bool true,.bool true,[],rfl,fun _=>rfl,.bool true,VN l _,fun _=>⟨lf.nil,fun _ hm=>(nomatch hm)⟩⟩,h2,h3,h4⟩
section
variable {prog:aS}{w:bo}{A:aZ}{E:aj->aw->Prop}{s:aw}{K:Frag}
noncomputable def Ni (h:Heap)(L d:au):List (au × Obj):=(bW h.objs.size).filterMap fun a=>if a=L \/ a=d then none else (h.get? a).map fun o=>(a,o)
end
end Att
namespace L2
open PySem PySem.Spec PyProof.Rows
theorem ZE:∀ {vs:List aj} {ns:List Int},IntsAre vs ns->zF (ns.map V.int) vs
 | _,_,.nil=>.nil
 | _,_,.cons n t h=>.cons ⟨t,rfl⟩ (ZE h)
def Ll (H:Hp):Prop:=∀ b,H b=none \/ ∃ o xs,H b=some (.frz o (.lst xs))
theorem DT {P:aS}{w:bo}{K:ax}{mg mb:Str->Option aj}{CX:CXT}{k:Nat}{fa a:au}{fd:cV}{x:Str}{sp:Sp}{s₁:aw}{vs:List aj}{ns:List Int}
  (KX:K.In s₁.heap) (hns:s₁.heap.Ns bc mg) (hb:s₁.heap.Ns builtinsNs mb) (hbb:∀ x:Str,x ≠ "__name__"->mb x=bI x) (hlim:s₁.heap.NoLimit) (hg:s₁.gens=#[])
  (ha:s₁.heap.get? a=some { cls:=.type "list",data:=.seq vs.toArray }) (hi:IntsAre vs ns) (hl:ns.length<=aM) (hr:qt k i3)
  (F:∀ base:Heap,K.In base->base.Ns bc mg->jA P w K mg base CX k fa fd [x] sp) (hbind:∀ (s:aw) (u:aj),ib s fd ⟨[u],[]⟩ [(x,u)])
  (hsp:∀ H:Hp,Ll H->SqL K H a (ns.map V.int)->sp [.ref a] H (fun v _=>v=.bl true) fun _ _ _=>False)
  (hCX:∀ H e s',CX [] H s₁ (fun _ _ _=>False) e s'->False) :
  fk (aN P w) i3 (.call (.ref fa) ⟨[.ref a],[]⟩) (fun r s'=>r=.ok (.ret (.bool true))/\OldK s₁.heap s'.heap/\s'.os=s₁.os/\gu s'.gens) s₁:=by
 have rv:=ZE hi
 have lenV:=hi.length
 have core:∀ H:Hp,Ll H->SqL K H a (ns.map V.int)->HOk P w H s₁.heap->(∀ b,H b ≠ none->b=a)->(H a ≠ none->K.lookup a=none) ->
   fk (aN P w) i3 (.call (.ref fa) ⟨[.ref a],[]⟩) (fun r s'=>r=.ok (.ret (.bool true))/\OldK s₁.heap s'.heap/\s'.os=s₁.os/\gu s'.gens) s₁:=by
  intro H hO hS hok hA hK
  have base_of:∀ {b:au} {o:Obj},s₁.heap.get? b=some o->H b=none->(QG s₁.heap H).get? b=some o:=fun e n=>Wb e n
  have noA:∀ {b:au} {o:Obj} {es:Array DictEntry} {ep:Nat},s₁.heap.get? b=some o->o.data=.dict es ep->H b=none:=fun {b o es ep} e d=>by
   cases q:H b with
   | none=>rfl
   | some u=>
    have e':b=a:=hA b (by rw [q];simp)
    subst e'
    rw [ha] at e;cases e
    have d':eM vs.toArray _=Data.dict es ep:=d
    cases d'
  have nsK:∀ {b:au} {m:Str->Option aj},s₁.heap.Ns b m->(QG s₁.heap H).Ns b m:=fun {b m} ⟨o,es,ep,e,d,r⟩=>⟨o,es,ep,base_of e (noA e d),d,r⟩
  have hKb:K.In (QG s₁.heap H):=fun b o e=>base_of (KX b o e) (by
   cases q:H b with
   | none=>rfl
   | some u=>
    have e':b=a:=hA b (by rw [q];simp)
    subst e'
    rw [hK (by rw [q];simp)] at e;cases e)
  have hM:Mod K mg (QG s₁.heap H):=⟨hKb,nsK hns,⟨mb,nsK hb,hbb⟩,let ⟨mc,h1,h2⟩:=hlim;⟨mc,nsK h1,h2⟩⟩
  have e0:QE P w K mg (QG s₁.heap H) i3 [] s₁ H:=⟨rfl,hM,fun b o e=>Et e,lG (VG _ _),trivial,fun b hb=>absurd (show b ∈ ([]:List au) from hb) (by simp),hok,.of_eq hg⟩
  refine eQ ((F _ hKb (nsK hns)).run i3 [] s₁ H ⟨[.ref a],[]⟩ [.ref a] [.ref a] _ _ hr e0 (hbind s₁ (.ref a)) (.cons rfl .nil) (hsp H hO hS)) fun r s' h=>?_
  cases r with
  | error e=>exact (hCX H e s' h).elim
  | ok fl=>
   cases fl with
   | next=>exact bM h
   | brk=>exact bM h
   | cont=>exact bM h
   | ret u=>
    obtain ⟨v,H',os,bare,un,hok',r',q⟩:=h
    have q':v=.bl true:=q
    subst q'
    obtain rfl:u=aj.bool true:=r'
    refine ⟨rfl,OldK.of_keep fun b o e=>?_,os,bare⟩
    cases q:H b with
    | none=>exact un.keep b o e q (by intro z;exact absurd (show b ∈ ([]:List au) from z) (by simp)) (by simp)
    | some u=>
     rcases hO b with z | ⟨ob,xs,z⟩
     ·rw [q] at z;cases z
     ·have z2:=un.frzs b ob _ z
      obtain ⟨e1,_⟩:=hok b _ z
      obtain ⟨e2,_⟩:=hok' b _ z2
      rw [e] at e1;cases e1
      exact e2
 cases hk:K.lookup a with
 | some o=>
  have e:=KX a o hk
  rw [ha] at e
  cases e
  refine core (fun _=>none) (fun _=>.inl rfl) (.inr ⟨_,vs.toArray,_,hk,rfl,rfl,rfl,by rw [aH,lenV];exact hl,by simpa using rv⟩) (fun b u z=>by have z':(none:Option HO)=some u:=z;cases z') (fun b z=>absurd rfl z) fun z=>absurd rfl z
 | none=>
  refine core (fun b=>if b=a then some (.frz { cls:=.type "list",data:=.seq vs.toArray } (.lst (ns.map V.int))) else none) (fun b=>?_) (.inl (.inr ⟨{ cls:=.type "list",data:=.seq vs.toArray },if_pos rfl⟩)) (fun b u z=>?_) (fun b z=>?_) fun _=>hk
  ·by_cases hb:b=a
   ·exact .inr ⟨_,_,if_pos hb⟩
   ·exact .inl (if_neg hb)
  ·by_cases hb:b=a
   ·have z':=(if_pos hb).symm.trans z
    cases z'
    subst hb
    exact ⟨ha,by rw [aq];exact hl,vs,_,rv,ha⟩
   ·have z':=(if_neg hb).symm.trans z
    cases z'
  ·by_cases hb:b=a
   ·exact hb
   ·exact absurd (if_neg hb) z
noncomputable abbrev KOf {K:ax}{h:Heap}(_:K.In h):ax:=K
theorem walk_of {l:PySem.W.OpenLaw}{n k:Nat}{q:aS}{loose:List Str}{XP:(Str->Option aj)->Heap->Prop}{YP:bo->Heap->Prop}{d:DefRec}{K:Params->ax}{CX:bo->CXT}{sp:bo->Sp}{x:Str}
  (hn:l.most=some n) (hn2:n<=aM) (hdf:d.params.defaults=[]) (hr:qt k i3)
  (hY:∀ (w:bo) (h:Heap),YP w h->(K w.params).In h)
  (F:∀ (w:bo) (mg:Str->Option aj) (fa:au) (h:Heap),(K w.params).In h->h.Ns bc mg->mg d.name=some (.ref fa) ->
   ∃ fd:cV,(∀ (s:aw) (u:aj),ib s fd ⟨[u],[]⟩ [(x,u)]) /\
    ∀ base:Heap,(K w.params).In base->base.Ns bc mg->jA l.prog w (K w.params) mg base (CX w) k fa fd [x] (sp w))
  (hsp:∀ (w:bo) (H:Hp) (a:au) (ns:List Int),ns.length<=n->Ll H->SqL (K w.params) H a (ns.map V.int)->sp w [.ref a] H (fun v _=>v=.bl true) fun _ _ _=>False)
  (hCX:∀ (w:bo) (H:Hp) (s:aw) (e:aj) (s':aw),CX w [] H s (fun _ _ _=>False) e s'->False) :
  PySem.W.WalkO q loose XP YP l.row.toRowW d [] (fun f vs=>mK f vs):=by
 refine Att.attach_call hn hdf fun w s₀ s₁ mg mb fa o pm cd doc a vs ns G Y ho hd hcd hmg hobj hints hlen hg=>?_
 have KX:=hY w _ Y
 obtain ⟨fd,hb,hF⟩:=F w mg fa _ KX G.T.g hmg
 exact DT KX G.T.g G.T.b G.T.builtins G.T.nolimit hg hobj hints (bb hlen hn2) hr hF hb (fun H hO hS=>hsp w H a ns hlen hO hS) fun H e s'=>hCX w H s₁ e s'
end L2
namespace L2
open PySem PySem.Spec PyProof.Rows
noncomputable def qS (s:cw)(j:Nat):cw:=match s with
 | .ClassDef _ _ _ body _ _ _ _ _ _ _=>body.getD j (.Pass ⟨0,0,0,0⟩)
 | _=>.Pass ⟨0,0,0,0⟩
noncomputable def qv (s:cw):Arguments:=match s with
 | .FunctionDef _ a _ _ _ _ _ _ _ _=>a
 | _=>{ posonlyargs:=[],args:=[],vararg:=none,kwonlyargs:=[],kw_defaults:=[],kwarg:=none,defaults:=[] }
noncomputable def zM (s:cw):List cw:=match s with
 | .FunctionDef _ _ b _ _ _ _ _ _ _=>b
 | _=>[]
noncomputable def zg (s:cw):Scope:=match s with
 | .FunctionDef _ _ _ _ _ _ sc _ _ _=>sc
 | _=>{ kind:=.function,names:=[],isGenerator:=false,isCoroutine:=false }
noncomputable abbrev CX0:CXT:=fun _ _ _ _ _ _=>False
noncomputable abbrev E0:XK:=fun _ _ _=>False
variable {X:Cx}
theorem Yb:xv CX0 X E0:=fun _ _ _ _ _ _ _ h=>h.elim
structure Fun (K:ax)(x qual:Str)(st:cw)(f:au)(fd:cV):Prop where
 ex:∃ (oc:aj) (od:Option au) (kV doc pm:aj) (an:Option au) (cdv ct:aj) (osl:Array (Option aj)),
  fd=bO x qual (qv st) (zM st) (zg st) .none kV doc pm an cdv ct/\K.lookup f=some ⟨oc,od,.func fd,osl⟩/\eK K cdv qual=true
 kp:cR K (.ref f)=true
section
variable {P:aS}{w:bo}{K:ax}{mg:Str->Option aj}{base:Heap}
variable {st:cw} {f:au} {fd:cV}
theorem Fun.ok {x qual:Str} {N ps:List Str}{k:Nat}{sp:Sp}(F:Fun K x qual st f fd)(S:zu N ps (zg st))(len:∀ vs H Q E,sp vs H Q E->vs.length=ps.length)
  (hbody:∀ (cdv:aj) (A:aZ) (outer:List Env) (s:aw) (H:Hp) (vs:List V) (Q:VK) (E:XK),qt k (A.deeper (eZ qual (zg st) s.heap.objs.size f cdv))->sp vs H Q E ->
   ∃ t,PSs (jM CX0 P w K mg base N qual (zg st) f cdv A outer s H E).nox (zM st) t/\t { nx:=fun _ H'=>Q .non H',rt:=Q } (qJ N vs) H):jA P w K mg base CX0 (k+1) f fd ps sp:=by
 obtain ⟨oc,od,kV,doc,pm,an,cdv,ct,osl,rfl,lk,hcd⟩:=F.ex
 refine DZ lk hcd S len fun A outer s H vs Q E hr hsp=>?_
 obtain ⟨t,h,q⟩:=hbody cdv A outer s H vs Q E hr hsp
 exact ⟨t,h.nox,q⟩
theorem Fun.binds {x qual:Str} {ps:List Str}(F:Fun K x qual st f fd)
  (h:∀ (kV doc pm:aj) (an:Option au) (cdv ct:aj) (us:List aj),us.length=ps.length->eJ (bO x qual (qv st) (zM st) (zg st) .none kV doc pm an cdv ct) ⟨us,[]⟩=pure (ps.zip us)):jv K fd ps []:=by
 obtain ⟨oc,od,kV,doc,pm,an,cdv,ct,osl,rfl,lk,hcd⟩:=F.ex
 exact .all (h kV doc pm an cdv ct)
theorem fun_mk {x qual:Str} {oc:aj}{od an:Option au}{osl:Array (Option aj)}{kV doc pm cdv ct:aj}(l:K.lookup f=some ⟨oc,od,.func (bO x qual (qv st) (zM st) (zg st) .none kV doc pm an cdv ct),osl⟩)
  (c:eK K cdv qual=true) (k:cR K (.ref f)=true):Fun K x qual st f (bO x qual (qv st) (zM st) (zg st) .none kV doc pm an cdv ct):=⟨⟨oc,od,kV,doc,pm,an,cdv,ct,osl,rfl,l,c⟩,k⟩
end
variable {A:aZ}
theorem qm {k:Nat}(hr:qt k A):A.units+1<gf:=dG (Nat.add_le_add_left (by decide:1<=64) _) hr.units
section
variable {X:Cx}
theorem pv (i:Nat){x:Str}{pos:Pos}(hN:X.N[i]?=some x:=by rfl)(hv:Vis X.env.scope x:=by first | exact bh rfl | exact bj (bh rfl) | exact bj (bj rfl))(hd:(x == ("__debug__":Str))=false:=by decide)
  (hcd:(x == ("__classdict__":Str))=false:=by decide):PE X (.Name x pos) (wY i):=IW hN hv hd hcd
end
theorem Mv {c A B:Prop}[Decidable c](h1:c->A)(h2:¬ c->B):if c then A else B:=by
 by_cases h:c
 ·rw [if_pos h]
  exact h1 h
 ·rw [if_neg h]
  exact h2 h
section
variable {κ:Type}[DecidableEq κ]
noncomputable def xu (kvs:List (κ × V))(k:κ):Option V:=(kvs.find? fun kv=>decide (kv.1=k)).map (·.2)
noncomputable def kD (kvs:List (κ × V))(k:κ)(v:V):List (κ × V):=
 if (kvs.any fun kv=>decide (kv.1=k))=true then kvs.map (fun kv=>if kv.1=k then (kv.1,v) else kv) else kvs ++ [(k,v)]
variable {p:κ × V} {r:List (κ × V)}
theorem yI {k:κ}(e:p.1=k):xu (p :: r) k=some p.2:=by simp [xu,bV,e]
theorem yl {k:κ}(e:¬ p.1=k):xu (p :: r) k=xu r k:=by simp [xu,bV,e]
theorem QR (k:κ):∀ kvs:List (κ × V),(kvs.any fun kv=>decide (kv.1=k))=(xu kvs k).isSome
 | []=>rfl
 | p :: r=>by
  rw [ez]
  by_cases e:p.1=k
  ·simp only [yI e,decide_eq_true e,Bool.true_or,Option.isSome_some]
  ·rw [yl e,decide_eq_false e,Bool.false_or];exact QR k r
theorem xF (kvs:List (κ × V))(k:κ)(v:V):(kD kvs k v).length<=kvs.length+1:=by
 unfold kD
 split
 ·rw [aq];omega
 ·rw [bE,aT,fj];omega
theorem kF.isSome_eq {o:Option V}{u:Option aj}(r:kF o u):o.isSome=u.isSome:=by
 cases o with
 | none=>cases u with
  | none=>rfl
  | some _=>exact (show False from r).elim
 | some _=>cases u with
  | none=>exact (show False from r).elim
  | some _=>rfl
theorem kF.getD {o:Option V}{u:Option aj}{d:V}{d':aj}(r:kF o u)(rd:zA d d'):zA (o.getD d) (u.getD d'):=by
 cases o with
 | none=>cases u with
  | none=>exact rd
  | some _=>exact (show False from r).elim
 | some _=>cases u with
  | none=>exact (show False from r).elim
  | some _=>exact r
theorem KV.val {kvs:List (κ × V)}{vs:List (κ × aj)}(r:KV kvs vs)(k:κ):kF (xu kvs k) (i4 vs k):=by
 unfold KV at r
 induction r with
 | nil=>exact True.intro
 | @cons p q ps qs h t ih=>
  obtain ⟨h1,h2⟩:=h
  by_cases e:p.1=k
  ·have e':q.1=k:=h1.symm.trans e
   have b:i4 (q :: qs) k=some q.2:=by simp [i4,bV,e']
   rw [yI e,b];exact h2
  ·have e':¬ q.1=k:=fun z=>e (h1.trans z)
   have b:i4 (q :: qs) k=i4 qs k:=by simp [i4,bV,e']
   rw [yl e,b];exact ih
theorem KV.any {kvs:List (κ × V)}{vs:List (κ × aj)}(r:KV kvs vs)(k:κ):(kvs.any fun kv=>decide (kv.1=k))=vs.any fun kv=>decide (kv.1=k):=by
 unfold KV at r
 induction r with
 | nil=>rfl
 | cons h t ih=>rw [ez,ez,ih,h.1]
theorem KV.repl {kvs:List (κ × V)}{vs:List (κ × aj)}(r:KV kvs vs)(k:κ){y:V}{u:aj}(ry:zA y u) :
  KV (kvs.map fun kv=>if kv.1=k then (kv.1,y) else kv) (vs.map fun kv=>if kv.1=k then (kv.1,u) else kv):=by
 unfold KV at r ⊢
 induction r with
 | nil=>exact .nil
 | @cons p q ps qs h t ih=>
  rw [aV,aV]
  refine .cons ?_ ih
  obtain ⟨h1,h2⟩:=h
  by_cases e:p.1=k
  ·rw [if_pos e,if_pos (h1.symm.trans e)];exact ⟨h1,ry⟩
  ·rw [if_neg e,if_neg (fun z=>e (h1.trans z))];exact ⟨h1,h2⟩
variable {kvs:List (κ × V)} {vs:List (κ × aj)}
theorem KV.put (r:KV kvs vs)(k:κ){y:V}{u:aj}(ry:zA y u):KV (kD kvs k y) (stored vs k u):=by
 unfold kD stored
 rw [r.any k]
 by_cases e:(vs.any fun kv=>decide (kv.1=k))=true
 ·rw [if_pos e,if_pos e];exact r.repl k ry
 ·rw [if_neg e,if_neg e];exact eV.snoc r ⟨rfl,ry⟩
theorem KV.length (r:KV kvs vs):kvs.length=vs.length:=eV.length r
end
theorem Q0 {P:aS}{w:bo}{k:Key}{u:aj}(r:zA (kV k) u):(qk P w).is k u=true:=by
 cases k with
 | inl i=>obtain ⟨t,e⟩:=(show ∃ t,u=aj.int i t from r);subst e;exact QL P w i t
 | inr x=>obtain ⟨t,e⟩:=(show ∃ t,u=aj.str x t from r);subst e;exact JT P w x t
theorem ZH {P:aS}{w:bo}:∀ {ks:List Key} {us:List aj},zF (ks.map kV) us->ItemsAre (qk P w) ks us
 | [],_,r=>by rw [im] at r;cases r;exact .nil
 | k :: ks,_,r=>by
  rw [aV] at r
  cases r with
  | cons h t=>exact .cons (Q0 h) (ZH t)
noncomputable abbrev KT (H:Hp):List (List Key × V)->List (List Key × au × aj)->Prop:=eV fun p q=>p.1=q.1/\H q.2.1=some (.tup (p.1.map kV))/\zA p.2 q.2.2
theorem KT.val {H:Hp}{kvs:List (List Key × V)}{xs:List (List Key × au × aj)}(r:KT H kvs xs)(k:List Key):kF (xu kvs k) ((mC xs k).map (·.2)):=by
 induction r with
 | nil=>exact True.intro
 | @cons p q ps qs h t ih=>
  obtain ⟨h1,_,h2⟩:=h
  by_cases e:p.1=k
  ·have e':q.1=k:=h1.symm.trans e
   have b:mC (q :: qs) k=some q.2:=by simp [mC,bV,e']
   rw [yI e,b];exact h2
  ·have e':¬ q.1=k:=fun z=>e (h1.trans z)
   have b:mC (q :: qs) k=mC qs k:=by simp [mC,bV,e']
   rw [yl e,b];exact ih
theorem KT.repl {H:Hp}{kvs:List (List Key × V)}{xs:List (List Key × au × aj)}(r:KT H kvs xs)(k:List Key){y:V}{u:aj}(ry:zA y u) :
  KT H (kvs.map fun kv=>if kv.1=k then (kv.1,y) else kv) (xs.map (putAt k u)):=by
 induction r with
 | nil=>exact .nil
 | @cons p q ps qs h t ih=>
  rw [aV,aV]
  refine .cons ?_ ih
  obtain ⟨h1,h2,h3⟩:=h
  unfold putAt
  by_cases e:p.1=k
  ·rw [if_pos e,if_pos (h1.symm.trans e)];exact ⟨h1,h2,ry⟩
  ·rw [if_neg e,if_neg (fun z=>e (h1.trans z))];exact ⟨h1,h2,h3⟩
variable {H:Hp} {kvs:List (List Key × V)} {xs:List (List Key × au × aj)} {y:V}
theorem KT.put (r:KT H kvs xs)(k:List Key){b:au} {u:aj}(hb:H b=some (.tup (k.map kV)))(ry:zA y u) :
  KT H (kD kvs k y) (storedH xs k b u):=by
 have e:(kvs.any fun kv=>decide (kv.1=k))=(mC xs k).isSome:=by
  rw [QR,(r.val k).isSome_eq,Option.isSome_map]
 unfold kD storedH
 rw [e]
 by_cases q:(mC xs k).isSome=true
 ·rw [if_pos q,if_pos q];exact r.repl k ry
 ·rw [if_neg q,if_neg q];exact eV.snoc r ⟨rfl,hb,ry⟩
variable {H':Hp}
theorem KT.keeps (r:KT H kvs xs)(ht:∀ b ys,H b=some (.tup ys)->H' b=some (.tup ys)):KT H' kvs xs:=
 eV.mapP r fun _ _ z=>⟨z.1,ht _ _ z.2.1,z.2.2⟩
section
variable {P:aS}{w:bo}{H:Hp}{h:Heap}{a:au}
theorem GV {u:HO}(ok:HOk P w H h)(e:Rd H a u):zQ P w H h a u:=e.ok ok
theorem AY {kvs:List (Key × V)}(ok:HOk P w H h)(e:Rd H a (.dK kvs)):kvs.length<=aM/\(a == dq)=false/\∃ vs,KV kvs vs/\h.DictOf (qk P w) a vs:=
 show zQ P w H h a (.dK kvs) from GV ok e
theorem YC {kvs:List (Key × V)}(ok:HOk P w H h)(e:H a=some (.dK kvs)):kvs.length<=aM/\(a == dq)=false/\∃ vs,KV kvs vs/\h.DictOf (qk P w) a vs:=AY ok (.inl e)
theorem Kw {ks:List Key}(ok:HOk P w H h)(e:H a=some (.tup (ks.map kV))):(iY (qk P w)).is h ks a:=by
 obtain ⟨_,its,r,o,h1,h2,⟨n,h3⟩,_⟩:=(show zQ P w H h a (.tup (ks.map kV)) from ok a _ e)
 exact ⟨o,its.toArray,n,h1,h2,h3,by simpa using ZH r⟩
theorem AJ (ok:HOk P w H h)(e:Rd H a (.dT kvs)):kvs.length<=aM/\(a == dq)=false /\
  ∃ xs,KT H kvs xs/\h.DictOfH (iY (qk P w)) a xs:=by
 obtain ⟨z,y,xs,r,o,es,ep,h1,h2,h3,h4,h5⟩:=(show zQ P w H h a (.dT kvs) from GV ok e)
 refine ⟨z,y,xs,r,o,es,ep,h1,h2,h3,h4,fun x hx=>?_,h5⟩
 have all:∀ {l:List (List Key × V)} {m:List (List Key × au × aj)},KT H l m->∀ x ∈ m,(iY (qk P w)).is h x.1 x.2.1:=by
  intro l m q
  induction q with
  | nil=>intro x hx;exact nomatch hx
  | @cons p q ps qs hq t ih=>
   intro x hx
   rcases aA.mp hx with e | hx
   ·subst e
    exact Kw ok (by rw [<- hq.1];exact hq.2.1)
   ·exact ih x hx
 exact all r x hx
theorem Mi (ok:HOk P w H h)(e:H a=some (.dT kvs)):kvs.length<=aM/\(a == dq)=false /\
  ∃ xs,KT H kvs xs/\h.DictOfH (iY (qk P w)) a xs:=AJ ok (.inl e)
end
def VR (H:Hp)(a:au)(y:V)(r:Option V):Prop:=
 (∃ kvs k,Rd H a (.dK kvs)/\y=kV k/\r=xu kvs k) \/ ∃ kvs k b,Rd H a (.dT kvs)/\y=.ref b/\H b=some (.tup (k.map kV))/\r=xu kvs k
def Ax (H:Hp)(a:au)(y v:V)(H':Hp):Prop:=
 (∃ kvs k,H a=some (.dK kvs)/\y=kV k/\kvs.length<aM/\H'=upd H a (.dK (kD kvs k v))) \/
 ∃ kvs k b,H a=some (.dT kvs)/\y=.ref b/\H b=some (.tup (k.map kV))/\kvs.length<aM/\H'=upd H a (.dT (kD kvs k v))
theorem VR.k {H:Hp}{a:au}{kvs:List (Key × V)}{k:Key}(e:H a=some (.dK kvs)):VR H a (kV k) (xu kvs k):=.inl ⟨kvs,k,.inl e,rfl,rfl⟩
theorem Ax.k {H:Hp}{a:au}{kvs:List (Key × V)}{k:Key}{v:V}(e:H a=some (.dK kvs))(hl:kvs.length<aM):Ax H a (kV k) v (upd H a (.dK (kD kvs k v))):=.inl ⟨kvs,k,e,rfl,hl,rfl⟩
section
variable {X:Cx}{pins:List (au × Obj)}{σ:St}{H:Hp}{s:aw}{a:au}{y v:V}{u r:aj}{o:Option V}{A:aZ}{E:aj->aw->Prop}
theorem Inv.big (I:Inv X pins σ H s):dq<s.heap.objs.size:=by
 have h:bc<s.heap.objs.size:=(I.mod.glob.keeps I.bk).lt
 exact Nat.lt_trans (by decide) h
theorem Vc {Q:aj->aw->Prop}(hu:A.units+1<gf)(I:Inv X pins σ H s)(g:VR H a y (some v))(ry:zA y u)(h:∀ w' s',Inv X pins σ H s'->zA v w'->Q w' s') :
  aO (aN X.prog X.w) A (gN (.ref a) u) Q E s:=by
 rcases g with ⟨kvs,k,e,ey,l⟩ | ⟨kvs,k,b,e,ey,eb,l⟩
 ·subst ey
  obtain ⟨z,hd,vs,rel,dd⟩:=AY I.hok e
  obtain ⟨w',hw,rw'⟩:=kF.some_of (v:=v) (o:=i4 vs k) (by rw [l];exact rel.val k)
  exact wpAny_getItem_of (Q0 ry) dd.mapOf hw (h w' _ (I.tok _) rw')
 ·subst ey
  cases (show u=aj.ref b from ry)
  obtain ⟨z,hd,xs,rel,dd⟩:=AJ I.hok e
  obtain ⟨w',hw,rw'⟩:=kF.some_of (v:=v) (o:=(mC xs k).map (·.2)) (by rw [l];exact rel.val k)
  obtain ⟨p,hp,hp2⟩:=dA.mp hw
  refine wpAny_getItem_heap (tupleKind_room_in1 hu) (Kw I.hok eb) dd hp ?_
  rw [hp2]
  exact h w' _ (I.tok _) rw'
variable {h':Heap}
theorem vK {t':Nat}{ob:HO}(I:Inv X pins σ H s)(mu:Mut (H a))(hs:bU a s.heap h')(he:∃ q,h'.get? a=some q)(new:zQ X.prog X.w (upd H a ob) h' a ob) :
  Inv X pins σ (upd H a ob) { s with heap:=h',toks:=t' }:=
 I.write (x:=a) (e:=a) mu (.inl rfl) (fun b q hb z=>(hs.2 b hb).trans z) he new
theorem J8 {P:aS}{w:bo} {kvs:List (Key × V)}{vs:List (Key × aj)}(z:kvs.length<=aM)(hd:(a == dq)=false)(rel:KV kvs vs)(dd:h'.DictOf (qk P w) a vs) :
  zQ P w H' h' a (.dK kvs):=⟨z,hd,vs,rel,dd⟩
theorem Vy {Q:Unit->aw->Prop}(hu:A.units+1<gf)(I:Inv X pins σ H s)(g:Ax H a y v H')(ry:zA y u)(rv:zA v r)(h:∀ s',Inv X pins σ H' s'->Q () s') :
  aO (aN X.prog X.w) A (setItem (.ref a) u r) Q E s:=by
 rcases g with ⟨kvs,k,e,ey,l,eH⟩ | ⟨kvs,k,b,e,ey,eb,l,eH⟩
 ·subst ey eH
  obtain ⟨z,hd,vs,rel,dd⟩:=YC I.hok e
  have hz:vs.length<=aM:=by rw [<- rel.length];exact z
  have hl:(kD kvs k v).length<=aM:=by have:=xF kvs k v;omega
  refine wpAny_setItem_pairs (hsz:=hz) (Q0 ry) dd fun h' dd' hs=>h _ ?_
  have he:∃ q,h'.get? a=some q:=let ⟨q,_,_,hq,_⟩:=dd';⟨q,hq⟩
  exact vK I (by rw [e];exact True.intro) hs he (J8 hl hd (rel.put k rv) dd')
 ·subst ey eH
  cases (show u=aj.ref b from ry)
  obtain ⟨z,hd,xs,rel,dd⟩:=Mi I.hok e
  have hz:xs.length<=aM:=by rw [<- eV.length rel];exact z
  have hl:(kD kvs k v).length<=aM:=by have:=xF kvs k v;omega
  refine wpAny_setItem_heap (hsz:=hz) (tupleKind_room_in1 hu) (Kw I.hok eb) dd fun h' dd' hs=>h _ ?_
  obtain ⟨q,es,ep,hq,h2,h3,h4,_,h5⟩:=dd'
  refine vK I (by rw [e];exact True.intro) hs ⟨q,hq⟩ ⟨hl,hd,_,(rel.put k eb rv).keeps fun c ys ec=>?_,q,es,ep,hq,h2,h3,h4,h5⟩
  rw [zk (Ze ec e (fun z=>nomatch z))]
  exact ec
end
section
variable {X:Cx}{pins:List (au × Obj)}{σ:St}{H:Hp}{s:aw}{a:au}{kvs:List (Key × V)}{k:Key}{u:aj}{A:aZ}{E:aj->aw->Prop}
end
def Ms (i:Expr):Prop:=∀ ov iv,iQ i false ov iv=operate [ov,iv] (gN ov iv)
variable {w:bo} {s:aw} {pos:Pos}
theorem E9 {prog:aS} {E:aj->aw->Prop} {env:Env}{value slice:Expr} {T id:String}{Q:aj->aw->Prop}
  (hl:typeLookup (.type T) "__getitem__"=pure (some (.builtin id))) (hs:Ms slice)
  (h:aO (aN prog w) A (eval value env) (fun o s₁=>aO (aN prog w) A (eval slice env) (fun i s₂=>s₂.TypeIs o T/\aO (aN prog w) A (gN o i) Q E s₂) E s₁) E s) :
  aO (aN prog w) A (eval (.Subscript value slice pos) env) Q E s:=by
 refine Subscript_ (ba h (fun o s₁ h₁=>ba h₁ (fun i s₂ h₂=>?_) fun _ _ x=>x) fun _ _ x=>x)
 obtain ⟨hT,h₂⟩:=h₂
 unfold subscriptTail
 refine ap ?_
 rw [getitemInPython_of_ne hT.not_modules]
 refine ap (wpAny_specialOf hT hl ?_)
 have fin:aO (aN prog w) A (iQ slice false o i) (fun r s₃=>aO (aN prog w) A (letTemporaryGo value o r >>= fun _=>pure r) Q E s₃) E s₂:=by
  rw [hs o i]
  exact wpAny_operating (ba h₂ (fun r s₃ h₃=>ap (wpAny_letTemporaryGo (aL h₃))) fun _ _ x=>x)
 first
  | exact aL (ap fin)
  | exact ap (aL (ap fin))
  | exact ap fin
theorem QJ {pins:List (au × Obj)}{σ:St} {a:au} {o:Option V}(I:Inv X pins σ H s)(g:VR H a y o):s.TypeIs (.ref a) "dict":=by
 rcases g with ⟨kvs,k,e,_,_⟩ | ⟨kvs,k,b,e,_,_,_⟩
 ·obtain ⟨_,_,vs,_,dd⟩:=AY I.hok e
  exact dd.typeIs
 ·obtain ⟨_,_,xs,_,dd⟩:=AJ I.hok e
  exact dd.typeIs
noncomputable def WA (td ty:TE):TE:=fun σ H Q=>td σ H fun x H1=>ty σ H1 fun y H2=>∃ a v,x=.ref a/\VR H2 a y (some v)/\Q v H2
section
variable {X:Cx}{o i e value:Expr}{pos pos' tpos:Pos}{td ty tv:TE}
theorem zI (hu:X.A.units+1<gf)(ho:PE X o td)(hi:PE X i ty)(hs:Ms i):PE X (.Subscript o i pos) (WA td ty):=by
 intro pins s σ H Q I h
 refine E9 PySem.F.slot_dict_getitem.lookup hs (thn (ho pins s σ H _ I h) fun u s1 ⟨x,H1,I1,rx,q1⟩=>thn (hi pins s1 σ H1 _ I1 q1) fun iv s2 ⟨y,H2,I2,ry,a,v,ex,g,q2⟩=>?_)
 subst ex
 obtain rfl:u=aj.ref a:=rx
 exact ⟨QJ I2 g,Vc hu I2 g ry fun w' s3 I3 rw'=>⟨v,H2,I3,rw',q2⟩⟩
end
theorem Ac {P:aS} (h:Heap)(hb:dq<h.objs.size):zQ P w H (h.push { cls:=.type "dict",data:=.dict #[] }) h.objs.size (.dK []):=
 ⟨cK _,beq_eq_false_iff_ne.mpr (Ne.symm (bp hb)),[],.nil,Heap.DictOf.new h⟩
section
variable {X:Cx}{pos:Pos}
end
noncomputable def wQ:List (TE × TE)->St->Hp->(List (V × V)->Hp->Prop)->Prop
 | [],_,H,Q=>Q [] H
 | (tk,tv) :: r,σ,H,Q=>tk σ H fun x H1=>tv σ H1 fun y H2=>wQ r σ H2 fun ps H3=>Q ((x,y) :: ps) H3
noncomputable abbrev VV:List (V × V)->List (aj × aj)->Prop:=eV fun p q=>zA p.1 q.1/\zA p.2 q.2
def PPs (X:Cx)(pos:Pos)(keys:List (Option Expr))(values:List Expr)(trs:List (TE × TE)):Prop:=
 ∀ (pins:List (au × Obj)) (s:aw) (σ:St) (H:Hp) (Q:List (V × V)->Hp->Prop),Inv X pins σ H s->wQ trs σ H Q ->
  aO (aN X.prog X.w) X.A (evalPairs (pairTrees keys values X.env pos)) (fun vs s'=>∃ ps H',Inv X pins σ H' s'/\VV ps vs/\Q ps H') X.xe s
theorem Qf:PPs X pos [] [] []:=fun pins s σ H Q I h=>pairTrees_nil_walk ⟨[],H,I,.nil,h⟩
variable {trs:List (TE × TE)}
theorem ja {k v:Expr}{ks:List (Option Expr)}{vs:List Expr}{tk tv:TE} (hk:PE X k tk)(hv:PE X v tv)(hr:PPs X pos ks vs trs) :
  PPs X pos (some k :: ks) (v :: vs) ((tk,tv) :: trs):=fun pins s σ H Q I h=>
 pairTrees_cons_walk (thn (hk pins s σ H _ I h) fun u s1 ⟨x,H1,I1,rx,q1⟩=>thn (hv pins s1 σ H1 _ I1 q1) fun w2 s2 ⟨y,H2,I2,ry,q2⟩=>
  thn (hr pins s2 σ H2 _ I2 q2) fun ws s3 ⟨ps,H3,I3,rel,q3⟩=>⟨(x,y) :: ps,H3,I3,.cons ⟨rx,ry⟩ rel,q3⟩)
noncomputable def kl (kvs more:List (Key × V)):List (Key × V):=more.foldl (fun acc kv=>kD acc kv.1 kv.2) kvs
theorem KV.merge:∀ {more:List (Key × V)} {rs:List (Key × aj)} {kvs:List (Key × V)} {vs:List (Key × aj)},KV more rs->KV kvs vs->KV (kl kvs more) (merged vs rs):=by
 intro more rs kvs vs r
 unfold KV at r
 induction r generalizing kvs vs with
 | nil=>intro q;exact q
 | @cons p q ps qs h t ih=>
  intro r0
  have e:KV (kD kvs p.1 p.2) (stored vs q.1 q.2):=by
   have:=r0.put p.1 h.2
   rw [<- h.1];exact this
  exact ih e
theorem ki:∀ (more kvs:List (Key × V)),(kl kvs more).length<=kvs.length+more.length
 | [],kvs=>by show kvs.length<=kvs.length+0;omega
 | p :: r,kvs=>by
  have h1:=ki r (kD kvs p.1 p.2)
  have h2:=xF kvs p.1 p.2
  show (kl (kD kvs p.1 p.2) r).length<=_
  rw [aT];omega
theorem wa {P:aS}{w:bo}:∀ {kvs:List (Key × V)} {ws:List (aj × aj)},VV (kvs.map fun kv=>(kV kv.1,kv.2)) ws->∃ rs,Carries (qk P w) ws rs/\KV kvs rs
 | [],_,r=>by rw [im] at r;cases r;exact ⟨[],True.intro,.nil⟩
 | p :: kvs,_,r=>by
  rw [aV] at r
  cases r with
  | @cons a b as bs h t=>
   obtain ⟨rs,c,q⟩:=wa (P:=P) (w:=w) t
   obtain ⟨b1,b2⟩:=b
   exact ⟨(p.1,b2) :: rs,⟨Q0 h.1,rfl,c⟩,.cons ⟨rfl,h.2⟩ q⟩
noncomputable def A8 (trs:List (TE × TE)):TE:=fun σ H Q=>∀ p,H p=none->wQ trs σ (upd H p (.dK [])) fun ps H2=>H2 p=some (.dK [])/\∃ kvs:List (Key × V),ps=kvs.map (fun kv=>(kV kv.1,kv.2))/\kvs.length<=15/\Q (.ref p) (upd H2 p (.dK (kl [] kvs)))
theorem ZN {keys:List (Option Expr)}{values:List Expr} (h:PPs X pos keys values trs)(hall:keys.all (·.isSome)=true)(hl:keys.length=values.length)(h0:keys ≠ [])
  (h15:keys.length<=15):PE X (.Dict keys values pos) (A8 trs):=by
 intro pins s σ H Q I q
 have hn:=I.hok.fresh (aJ s.heap.objs.size)
 have I1:=I.laid (a:=s.heap.objs.size) (o:=.dK []) (h':=s.heap.push { cls:=.type "dict",data:=.dict #[] }) (t':=s.toks) (fun _ _ q=>az _ q) (aJ _) (Ac s.heap I.big)
 refine wpAny_Dict_walk (knd:=qk X.prog X.w) hall hl h0 h15 (thn (h pins _ σ _ _ I1 (q _ hn)) fun ws s2 ⟨ps,H2,I2,rel,e,kvs,ep,lk,q2⟩=>?_)
 subst ep
 obtain ⟨rs,c,rk⟩:=wa (P:=X.prog) (w:=X.w) rel
 obtain ⟨z,hd,vs0,r0,dd⟩:=YC I2.hok e
 cases r0
 refine ⟨rs,c,dd,fun h' dd' hs=>⟨.ref s.heap.objs.size,_,?_,rfl,q2⟩⟩
 have hz:(kl [] kvs).length<=aM:=by
  have h1:=ki kvs []
  rw [fj] at h1
  rw [cg];omega
 have he:∃ q,h'.get? s.heap.objs.size=some q:=let ⟨q,_,_,hq,_⟩:=dd';⟨q,hq⟩
 exact vK I2 (by rw [e];exact True.intro) hs he (J8 hz hd (rk.merge .nil) dd')
structure M1 (X:Cx)(o:Expr)(m:Str)(apos:Pos)(e:Expr)(cpos:Pos):Prop where
 base:dS o m X.env (eval o X.env)=eval o X.env
 few:((ca cpos (aQ [e] X.env)).all (fun x=>!x.1) && (fc cpos (dC [] X.env)).all (fun x=>x.1.isSome)
  && decide (([e]:List Expr).length+([]:List gQ).length+(if ([]:List gQ).isEmpty then 0 else 1)<30))=true
 line:(apos.endLine == cpos.line)=true
 trees:ca cpos (aQ [e] X.env)=[(false,eval e X.env)]
structure M2 (X:Cx)(o:Expr)(m:Str)(apos:Pos)(e f:Expr)(cpos:Pos):Prop where
 base:dS o m X.env (eval o X.env)=eval o X.env
 few:((ca cpos (aQ [e,f] X.env)).all (fun x=>!x.1) && (fc cpos (dC [] X.env)).all (fun x=>x.1.isSome)
  && decide (([e,f]:List Expr).length+([]:List gQ).length+(if ([]:List gQ).isEmpty then 0 else 1)<30))=true
 line:(apos.endLine == cpos.line)=true
 trees:ca cpos (aQ [e,f] X.env)=[(false,eval e X.env),(false,eval f X.env)]
section
variable {X:Cx}{pins:List (au × Obj)}{σ:St}{H:Hp}{s:aw}{a:au}{y d:V}{u r:aj}{o:Option V}{A:aZ}{E:aj->aw->Prop}
end
section
variable {X:Cx}{o e f:Expr}{apos cpos:Pos}{td ty tx:TE}
end
section
variable {X:Cx}{pins:List (au × Obj)}{σ:St}{H:Hp}{s:aw}{a:au}{kvs:List (Key × V)}{A:aZ}{E:aj->aw->Prop}
end
section
variable {X:Cx}{pins:List (au × Obj)}{σ:St}{H:Hp}{s:aw}{a:au}{y:V}{u:aj}{A:aZ}{E:aj->aw->Prop}
end
section
variable {κ:Type}[DecidableEq κ]
end
end L2
set_option Elab.async false
set_option linter.all false
set_option maxRecDepth 100000
set_option maxHeartbeats 4000000
namespace L2
open PySem PySem.Spec PyProof.Rows
noncomputable def B1 (N:List Str)(ts:List Nat)(sc:Scope)(kind:Str->Option bT):Bool:=
 sc.kind == .function && sc.names.all (fun y=>y.2 != .cell && (y.2 != .local || sc.names.lookup y.1 == some .local) && (y.2 != .free || kind y.1 == some .cell || kind y.1 == some .free)) &&
  N.zipIdx.all (fun p=>sc.names.lookup p.1 != some .local || ts.contains p.2)
noncomputable def jn (cells:List (Str × au)):List (Str × bT)->List (Str × au)->List (Str × au)
 | [],acc=>acc
 | (n,k) :: r,acc=>jn cells r (if k=.free then (n,(cells.lookup n).getD 0) :: acc else acc)
theorem Ql {env:Env}:∀ (names:List (Str × bT)) (acc:List (Str × au)),(∀ y ∈ names,y.2=.free->∃ c,env.cells.lookup y.1=some c) ->
  (forIn names acc fun (x:Str × bT) (cs:List (Str × au))=>(match x with | (name,kind)=>if (kind == bT.free)=true then (do let c <- cellOf env name;pure (er ((name,c) :: cs))) else pure (er cs):Sem (ForInStep (List (Str × au)))))=pure (jn env.cells names acc)
 | [],acc,_=>rfl
 | (n,k) :: r,acc,h=>by
  rw [gk]
  by_cases hk:k=.free
  ·subst hk
   obtain ⟨c,hc⟩:=h (n,.free) bD rfl
   have e1:cellOf env n=pure c:=by unfold cellOf;rw [hc]
   simp only [beq_self_eq_true,if_true,e1,pure_bind]
   rw [Ql r _ fun y hy=>h y (aX _ hy)]
   show _=pure (jn env.cells r (if bT.free=.free then _ else _))
   rw [if_pos rfl,hc];rfl
  ·have hb:(k == bT.free)=false:=by simpa using hk
   simp only [hb,lz,if_false,pure_bind]
   rw [Ql r _ fun y hy=>h y (aX _ hy)]
   show _=pure (jn env.cells r (if k=.free then _ else _))
   rw [if_neg hk]
theorem yO {cells : List (Str × au)} : ∀ (names : List (Str × bT)) (acc : List (Str × au)), (∀ y ∈ names, y.2 = .free -> ∃ c, cells.lookup y.1 = some c) -> (∀ x c, acc.lookup x = some c -> cells.lookup x = some c) ->
    (∀ x c,(jn cells names acc).lookup x=some c->cells.lookup x=some c)/\(∀ x c,acc.lookup x=some c->∃ c',(jn cells names acc).lookup x=some c')/\∀ y ∈ names,y.2=.free->∃ c,(jn cells names acc).lookup y.1=some c
  | [],acc,_,h2=>⟨h2,fun x c e=>⟨c,e⟩,fun y hy=>nomatch hy⟩
  | (n,k) :: r,acc,h1,h2=>by
    by_cases hk:k=.free
    · subst hk
      obtain ⟨c,hc⟩:=h1 (n,.free) bD rfl
      have hc:cells.lookup n=some c:=hc
      have e:jn cells ((n,.free) :: r) acc=jn cells r ((n,c) :: acc):=by
        show jn cells r (if bT.free=.free then _ else _)=_
        rw [if_pos rfl,hc];rfl
      rw [e]
      obtain ⟨q1,q2,q3⟩:=yO (cells:=cells) r ((n,c) :: acc) (fun y hy=>h1 y (aX _ hy)) (fun x c' e'=>by
        rw [cu] at e'
        cases hx:x == n with
        | true => rw [hx] at e'; have : x = n := by simpa using hx
                  subst this;cases e';exact hc
        | false=>rw [hx] at e';exact h2 x c' e')
      refine ⟨q1,fun x c' e'=>?_,fun y hy hf=>?_⟩
      · cases hx:x == n with
        | true=>exact q2 x c (by rw [cu,hx])
        | false=>exact q2 x c' (by rw [cu,hx];exact e')
      · rcases aA.mp hy with rfl | hy
        · exact q2 n c (by rw [cu,beq_self_eq_true])
        · exact q3 y hy hf
    · have e : jn cells ((n, k) :: r) acc = jn cells r acc := by
        show jn cells r (if k=.free then _ else _)=_
        rw [if_neg hk]
      rw [e]
      obtain ⟨q1,q2,q3⟩:=yO (cells:=cells) r acc (fun y hy=>h1 y (aX _ hy)) h2
      refine ⟨q1,q2,fun y hy hf=>?_⟩
      rcases aA.mp hy with rfl | hy
      · exact absurd hf hk
      · exact q3 y hy hf
variable {scope:Scope}
theorem Ky {env:Env}(h:∀ y ∈ scope.names,y.2=.free->∃ c,env.cells.lookup y.1=some c) :
  ∃ cl,closureFor scope env=pure cl/\(∀ x c,cl.lookup x=some c->env.cells.lookup x=some c)/\∀ y ∈ scope.names,y.2=.free->∃ c,cl.lookup y.1=some c:=by
 obtain ⟨q1,_,q3⟩:=yO (cells:=env.cells) scope.names [] h (fun x c e=>nomatch e)
 refine ⟨jn env.cells scope.names [],?_,q1,q3⟩
 unfold closureFor
 have:=Ql (env:=env) scope.names [] h
 first
  | exact this
  | (simp only [bind_pure];exact this)
  | (refine Eq.trans ?_ this;simp)
theorem yB {env:Env}:∀ {names:List (Str × bT)} {x:Str},(names.map fun (n,k)=>if (k == bT.free && env.scope.kind == .function && env.kindOf n == some .cell) then (n,bT.cell) else (n,k)).lookup x =
  (names.lookup x).map fun k=>if (k == bT.free && env.scope.kind == .function && env.kindOf x == some .cell) then bT.cell else k
 | [],_=>rfl
 | (n,k) :: r,x=>by
  have ih:=@yB env r x
  rw [aV]
  cases hx:x == n with
  | true=>
   have e:x=n:=by simpa using hx
   subst e
   rw [cu (as:=r),beq_self_eq_true]
   show cU x ((if (k == bT.free && env.scope.kind == .function && env.kindOf x == some .cell)=true then (x,bT.cell) else (x,k)) :: _)=some _
   by_cases hc:(k == bT.free && env.scope.kind == .function && env.kindOf x == some .cell)=true
   ·rw [if_pos hc,cu,beq_self_eq_true];dsimp only;rw [if_pos hc]
   ·rw [if_neg hc,cu,beq_self_eq_true];dsimp only;rw [if_neg hc]
  | false=>
   rw [cu (as:=r),hx]
   show cU x ((if (k == bT.free && env.scope.kind == .function && env.kindOf n == some .cell)=true then (n,bT.cell) else (n,k)) :: _)=_
   by_cases hc:(k == bT.free && env.scope.kind == .function && env.kindOf n == some .cell)=true
   ·rw [if_pos hc,cu,hx];exact ih
   ·rw [if_neg hc,cu,hx];exact ih
noncomputable abbrev cxC (X:Cx)(scope:Scope)(cl:List (Str × au))(s:aw)(H:Hp)(fp:List au):Cx:=
 { X with s₀:=s,H₀:=H,env:=compEnvC scope cl s.heap.objs.size X.env,outer:=X.stack,ex:=fp,fn:=fun _=>false,pn:=[],xe:=fun _ _=>False }
noncomputable def clr:List Nat->St->St
 | [],σ=>σ
 | j :: r,σ=>clr r (σ.set j none)
theorem Yr:∀ (ts:List Nat) (σ:St),(clr ts σ).length=σ.length
 | [],_=>rfl
 | j :: r,σ=>by show (clr r (σ.set j none)).length=_;rw [Yr r];simp
theorem JP:∀ (ts:List Nat) (σ:St) (i:Nat) (v:V),(clr ts σ)[i]?=some (some v)->i ∉ ts/\σ[i]?=some (some v)
 | [],_,_,_,h=>⟨by simp,h⟩
 | j :: r,σ,i,v,h=>by
  obtain ⟨h1,h2⟩:=JP r (σ.set j none) i v h
  by_cases e:j=i
  ·subst e
   rw [cb] at h2
   simp at h2
  ·rw [dg e] at h2
   exact ⟨by simp [h1,Ne.symm e],h2⟩
structure ScF (X:Cx)(ts:List Nat)(scope:Scope):Prop where
 kind:scope.kind=.function
 cell:∀ y ∈ scope.names,y.2 ≠ .cell
 loc:∀ y ∈ scope.names,y.2=.local->scope.names.lookup y.1=some .local
 free:∀ y ∈ scope.names,y.2=.free->X.env.kindOf y.1=some .cell \/ X.env.kindOf y.1=some .free
 ts:∀ (i:Nat) x,X.N[i]?=some x->scope.names.lookup x=some .local->i ∈ ts
variable {X:Cx} {ts:List Nat}
theorem Io (h:B1 X.N ts scope X.env.kindOf=true):ScF X ts scope:=by
  unfold B1 at h
  simp only [dF,d7,bne_iff_ne,ne_eq,Bool.or_eq_true,beq_iff_eq] at h
  obtain ⟨⟨h1,h2⟩,h3⟩:=h
  refine ⟨h1,fun y hy=>(h2 y hy).1.1,fun y hy e=>?_,fun y hy e=>?_,fun i x e1 e2=>?_⟩
  · rcases (h2 y hy).1.2 with z | z
    · exact absurd e z
    · exact z
  · rcases (h2 y hy).2 with (z | z) | z
    · exact absurd e z
    · exact .inl z
    · exact .inr z
  · have hm : (x, i) ∈ X.N.zipIdx := by
      rw [List.mem_zipIdx_iff_getElem?];exact e1
    rcases h3 _ hm with z | z
    · exact absurd e2 z
    · simpa using z
section
variable {X:Cx}{ts:List Nat}{scope:Scope}{pins:List (au × Obj)}{σ:St}{H:Hp}{s:aw}{fp:List au}
theorem KA (I:Inv X pins σ H s)(S:ScF X ts scope)(hf:∀ b ∈ fp,vI X pins H b)(hfl:∀ b ∈ fp,b<s.heap.objs.size){cl:List (Str × au)}(c1:∀ x c,cl.lookup x=some c->X.env.cells.lookup x=some c)
  (c2:∀ y ∈ scope.names,y.2=.free->∃ c,cl.lookup y.1=some c) {h1:Heap} {t1:Nat} (hns:h1.Ns s.heap.objs.size (fun x=>([]:List (Str × aj)).reverse.lookup x))
  (hk:∀ b o,s.heap.get? b=some o->h1.get? b=some o):Inv (cxC X scope cl s H fp) [] (clr ts σ) H { s with heap:=h1,toks:=t1 }:=by
 have hlk:∀ x,(lL scope X.env).names.lookup x=(scope.names.lookup x).map fun k=>if (k == bT.free && X.env.scope.kind == .function && X.env.kindOf x == some .cell) then bT.cell else k:=fun x=>yB
 have cfree:∀ x,((lL scope X.env).names.lookup x=some .cell \/ (lL scope X.env).names.lookup x=some .free)->(x,bT.free) ∈ scope.names:=fun x hx=>by
  rw [hlk] at hx
  cases e:scope.names.lookup x with
  | none=>rw [e] at hx;rcases hx with hx | hx <;> cases hx
  | some k=>
   have hm:=mem_of_lookup_some e
   cases k with
   | free=>exact hm
   | cell=>exact absurd rfl (S.cell _ hm)
   | «local»=>rw [e] at hx;rcases hx with hx | hx <;> cases hx
   | globalExplicit=>rw [e] at hx;rcases hx with hx | hx <;> cases hx
   | globalImplicit=>rw [e] at hx;rcases hx with hx | hx <;> cases hx
 have ccell:∀ x c,cl.lookup x=some c->∃ v,s.heap.IsCell c v:=fun x c e=>I.cell x c (c1 x c e)
 have fpne:∀ b ∈ fp,b ∉ frs X.stack:=fun b hb z=>by
  obtain ⟨_,f1,f2,_⟩:=hf b hb
  rcases aA.mp (I.stkSub b z) with e | e
  ·exact f1 e
  ·exact f2 e
 refine ⟨⟨I.ok.mod,S.kind,I.ok.glob,I.ok.blt,aJ _,fun x y c e1 e2=>I.ok.inj x y c (c1 x c e1) (c1 y c e2),fun x hx=>c2 (x,.free) (cfree x hx) rfl,(fun x c hx=>nomatch hx),I.ok.hd,I.ok.frames,.inl rfl,fun b hb=>⟨bp (hfl b hb),fun x c e=>(hf b hb).2.2.2.2.1 x c (c1 x c e)⟩,
  I.bs,bb I.ok.bsz I.sz,fun b o e hb=>?_,fpne,I.stack,I.stkFree⟩,rfl,I.bare,Un.kept hk,⟨_,hns,fun i x v e1 e2 e3=>?_⟩,fun x c e=>?_,I.hok.fresh (aJ _),fun x c e=>I.freeC x c (c1 x c e),fun p hp=>absurd hp (by simp),I.hok.kept hk,by rw [Yr];exact I.len⟩
 ·rcases (hf b hb).2.2.2.1 with z | z
  ·exact I.ok.noex b o e z
  ·exact absurd (bn (aG e) (bb I.ok.bsz z)) (cW _)
 ·obtain ⟨nt,e2⟩:=JP ts σ i v e2
  have e3':(lL scope X.env).names.lookup x=some .local \/ (lL scope X.env).names.lookup x=some .cell \/ (lL scope X.env).names.lookup x=some .free:=e3
  rcases e3' with z | z
  ·rw [hlk] at z
   cases e:scope.names.lookup x with
   | none=>rw [e] at z;cases z
   | some k=>
    rw [e] at z
    have z':(if (k == bT.free && X.env.scope.kind == .function && X.env.kindOf x == some .cell)=true then bT.cell else k)=.local:=bP z
    split at z'
    ·cases z'
    ·subst z'
     exact absurd (S.ts i x e1 e) nt
  ·have hm:=cfree x z
   obtain ⟨c,hc⟩:=c2 _ hm rfl
   obtain ⟨m,hn,hl⟩:=I.loc
   have vis:Vis X.env.scope x:=by
    rcases S.free _ hm rfl with q | q
    ·exact .inr (.inl q)
    ·exact .inr (.inr q)
   obtain ⟨u,r,l⟩:=hl i x v e1 e2 vis
   refine ⟨u,r,.inr ⟨z,c,hc,?_⟩⟩
   rcases l with ⟨q,_⟩ | ⟨_,c',hc',hcell⟩
   ·rcases S.free _ hm rfl with q' | q'
    ·rw [q'] at q;cases q
    ·rw [q'] at q;cases q
   ·rw [c1 x c hc] at hc'
    cases hc'
    obtain ⟨o,ho,hd⟩:=hcell
    exact ⟨o,hk _ _ ho,hd⟩
 ·obtain ⟨v,o,ho,hd⟩:=ccell x c e
  exact ⟨v,o,hk _ _ ho,hd⟩
end
section
variable {prog:aS}{w:bo}{A:aZ}{R:lW->aw->Prop}{s:aw}
theorem xY {elt target iter : Expr}{ifs : List Expr}{scope : Scope}{pos : Pos}{it acc : aj}{env : Env}(I : Nat -> aw -> Prop)
    (turn:∀ n s,I n s->aO (aN prog w) A (iI it) (fun r s₁=>match r with
      | none=>R (.ok .next) s₁
      | some v => aO (aN prog w) A (gh target it v) (fun _ s₀ => aO (aN prog w) A (lp target env v) (fun _ s₂ =>
          aO (aN prog w) A (forIn ifs true fun c r=>if r=true then do let ok <- isTrue c env (eval c env);pure (er ok) else pure (er r)) (fun ok s₃=>
            if ok=true then aO (aN prog w) A (eval elt env) (fun x s₄=>
              aO (aN prog w) A (call (.builtin "list.append") [acc,x]) (fun _ s₅=>∃ m,m<n/\I m s₅) (fun _ _=>False) s₄) (fun _ _=>False) s₃
            else ∃ m,m<n/\I m s₃) (fun _ _=>False) s₂) (fun _ _=>False) s₀) (fun _ _=>False) s₁) (fun _ _=>False) s)
    (n:Nat) (h:I n s) :
    fk (aN prog w) A (.compLoop (.ListComp elt [⟨target,iter,ifs,0⟩] scope pos) 0 it acc env) R s:=by
  refine codeAny_loop rfl I (fun n s hI=>?_) n h
  show aO _ A ((compTurn (.ListComp elt [⟨target,iter,ifs,0⟩] scope pos) 0 it acc env).onRaise (fun x=>do hJ x env;theTreesLotGoes x)) _ _ s
  refine wpAny_noted ?_
  rw [compTurn_list]
  refine ap (cY (ap (ba (turn n s hI) (fun r s₁ h₁=>?_) fun _ _ h'=>h'.elim)))
  cases r with
  | none=>exact aL h₁
  | some v=>
    refine ap (ba h₁ (fun _ s₀ h₀=>?_) fun _ _ h'=>h'.elim)
    refine ap (ba h₀ (fun _ s₂ h₂=>ap (ba h₂ (fun ok s₃ h₃=>?_) fun _ _ h'=>h'.elim)) fun _ _ h'=>h'.elim)
    cases ok with
    | false=>exact aL ⟨rfl,h₃⟩
    | true=>
      exact ap (ap (ba h₃ (fun x s₄ h₄=>ap (ba h₄ (fun _ s₅ h₅=>aL (aL ⟨rfl,h₅⟩)) fun _ _ h'=>h'.elim)) fun _ _ h'=>h'.elim))
end
noncomputable def Ah:TT:=fun _ H Q=>Q true H
def PIf (X:Cx)(ifs:List Expr)(t:TT):Prop:=
 ∀ (pins:List (au × Obj)) (s:aw) (σ:St) (H:Hp) (Q:Bool->Hp->Prop),Inv X pins σ H s->t σ H Q ->
  aO (aN X.prog X.w) X.A (forIn ifs true fun c r=>if r=true then do let ok <- isTrue c X.env (eval c X.env);pure (er ok) else pure (er r)) (TP X pins σ Q) X.xe s
theorem kU:PIf X [] Ah:=fun _ _ _ H _ I h=>wpAny_tests_nil ⟨H,I,h⟩
variable {t:TT}
theorem Yd {c:Expr} (h:PT X c t):PIf X [c] t:=fun pins s σ H Q I hq=>wpAny_tests_one (h pins s σ H Q I hq)
noncomputable def JV (ts:List Nat)(wi:TI)(g:TG)(tt:TT)(te:TE):TE:=fun σ H Q=>wi σ H fun J H1=>∀ D,H1 D=none->∃ W:Nat->Nat->St->Hp->Prop,(∃ m,W 0 m (clr ts σ) (upd H1 D (.lst [])))/\∀ i m τ H2,W i m τ H2 ->
 (J.stop i H2/\Q (.ref D) H2) \/ (J.go i H2/\∃ N:St->Hp->Prop,(∀ τ' H',N τ' H'->∃ m',m'<m/\W (i+1) m' τ' H')/\∀ x H',J.yld i H2 x H'->g x τ H' fun τ2 H3=>tt τ2 H3 fun b H4=>
  if b=true then te τ2 H4 fun v H5=>∃ ys,H5 D=some (.lst ys)/\ys.length<aM/\N τ2 (upd H5 D (.lst (ys ++ [v]))) else N τ2 H4)
section
variable {X:Cx}{ts:List Nat}{scope:Scope}{tg iter elt:Expr}{ifs:List Expr}{wi:TI}{g:TG}{tt:TT}{te:TE}{pos:Pos}
theorem Jp (hc:X.calm=true)(hsc:B1 X.N ts scope X.env.kindOf=true)(hi:PI X tg iter wi)(hg:∀ cl s H fp,PG (cxC X scope cl s H fp) tg g)(ht:∀ cl s H fp,PIf (cxC X scope cl s H fp) ifs tt)(he:∀ cl s H fp,PE (cxC X scope cl s H fp) elt te)
  {pins:List (au × Obj)} {s:aw} {σ:St} {H:Hp} {Q:VK} (I:Inv X pins σ H s) (h:JV ts wi g tt te σ H Q) {use:Option (aj->Sem Unit)} {Q':aj->aw->Prop}
  (fin:∀ (D C:au) (H':Hp) (s':aw),Inv X pins σ H' s'->(∃ m,s'.heap.Ns C m)->H' C=none->C ≠ X.env.locals->(∀ x c,X.env.cells.lookup x=some c->c ≠ C)->X.s₀.heap.objs.size<=C->(∀ p ∈ X.pn ++ pins,p.1 ≠ C)->C ∉ X.fs->Q (.ref D) H' ->
   compPost (aN X.prog X.w) X.A X.xe use Q' (.ref D) C (.ok .next) s')
  (hs:∀ x,fB iter X.env x=pure x) :
  aO (aN X.prog X.w) X.A (comprehension (.ListComp elt [⟨tg,iter,ifs,0⟩] scope pos) scope X.env (firstIterPos [⟨tg,iter,ifs,0⟩] pos) (newList []) false (eval iter X.env) use) Q' X.xe s:=by
 have S:=Io hsc
 obtain ⟨cl,hcl,c1,c2⟩:=Ky (scope:=scope) (env:=X.env) fun y hy e=>I.ok.has y.1 (S.free y hy e)
 refine wpAny_comprehension_free (use:=use) rfl hs hcl S.kind S.loc ?_
 refine ba (hi pins s σ H _ I h) (fun v s1 h1=>ba h1 (fun itv s2 h2=>?_) fun _ _ e=>e) fun _ _ e=>e
 obtain ⟨it,fp,tn,J,H2,e,I2,T,st2,f2,q2⟩:=h2
 subst e
 have hD:H2 s2.heap.objs.size=none:=I2.hok.fresh (aJ _)
 obtain ⟨W,⟨m0,w0⟩,turn⟩:=q2 _ hD
 refine cQ (wpAny_newFunctionEnv S.cell (by intro y hy;simp at hy) (fun h₁ hns₁ hsb₁=>?_) S.kind)
 dsimp only at hns₁ hsb₁ ⊢
 generalize hh3:s2.heap.push { cls:=.type "list",dict:=none,data:=.seq ([]:List aj).toArray }=g3 at hns₁ hsb₁ ⊢
 have I3:Inv X pins σ (upd H2 s2.heap.objs.size (.lst [])) { s2 with heap:=g3 }:=by
  rw [<- hh3]
  exact I2.laid (t':=s2.toks) (fun b u e=>az _ e) (aJ _) ⟨cK _,[],_,.nil,aW _ rfl⟩
 have st3:tn 0 g3:=T.keep _ _ _ st2 fun b _ o e=>by rw [<- hh3];exact az _ e
 have lt2:∀ b ∈ fp,b<s2.heap.objs.size:=fun b hb=>by obtain ⟨o,e,_⟩:=T.obj _ _ st2 b hb;exact aG e
 have hsz3:g3.objs.size=s2.heap.objs.size+1:=by rw [<- hh3,dh]
 have f3:∀ b ∈ fp,vI X pins (upd H2 s2.heap.objs.size (.lst [])) b:=fun b hb=>⟨by rw [zk (bp (lt2 b hb))];exact (f2 b hb).1,(f2 b hb).2⟩
 have lt3:∀ b ∈ fp,b<g3.objs.size:=fun b hb=>by rw [hsz3];exact lM (lt2 b hb)
 have old:∀ b o,g3.get? b=some o->h₁.get? b=some o:=fun b o e=>hsb₁.extBut b o (bp (aG e)) (az _ e)
 have hns:h₁.Ns g3.objs.size (fun x=>([]:List (Str × aj)).reverse.lookup x):=hns₁
 have I4:∀ t,Inv (cxC X scope cl { s2 with heap:=g3 } (upd H2 s2.heap.objs.size (.lst [])) fp) [] (clr ts σ) (upd H2 s2.heap.objs.size (.lst [])) { s2 with heap:=h₁,toks:=t }:=fun t=>KA I3 S f3 lt3 c1 c2 hns old
 have fpne:∀ b ∈ fp,b ∉ frs X.stack:=fun b hb z=>by
  obtain ⟨_,f1,f2,_⟩:=f3 b hb
  rcases aA.mp (I3.stkSub b z) with e | e
  ·exact f1 e
  ·exact f2 e
 have stat:∀ {H':Hp},(∀ b ∈ fp,H' b=none)->∀ b ∈ fp,vI (cxC X scope cl { s2 with heap:=g3 } (upd H2 s2.heap.objs.size (.lst [])) fp) [] H' b:=fun hn b hb=>
  ⟨hn b hb,bp (lt3 b hb),fpne b hb,.inl hb,fun x c e=>(f2 b hb).2.2.2.2.1 x c (c1 x c e),fun p hp=>absurd hp (by simp)⟩
 have loop:∀ t,fk (aN X.prog X.w) X.A (.compLoop (.ListComp elt [⟨tg,iter,ifs,0⟩] scope pos) 0 (.ref it) (.ref s2.heap.objs.size) (compEnvC scope cl g3.objs.size X.env))
   (compPost (aN X.prog X.w) X.A X.xe use Q' (.ref s2.heap.objs.size) g3.objs.size) { s2 with heap:=h₁,toks:=t }:=by
  intro t
  refine xY (fun n s'=>∃ i τ H',Inv (cxC X scope cl { s2 with heap:=g3 } (upd H2 s2.heap.objs.size (.lst [])) fp) [] τ H' s'/\tn i s'.heap/\(∀ b ∈ fp,H' b=none)/\W i n τ H') ?_ m0
   ⟨0,clr ts σ,_,I4 t,T.keep _ _ _ st3 fun b _ o e=>old b o e,fun b hb=>(f3 b hb).1,w0⟩
  rintro n s5 ⟨i,τ,H5,I5,st5,fr5,w5⟩
  rcases turn i n τ H5 w5 with ⟨stop,qn⟩ | ⟨go,N,hN,step⟩
  ·refine thn (T.done (cxC X scope cl { s2 with heap:=g3 } (upd H2 s2.heap.objs.size (.lst [])) fp) rfl rfl rfl hc i [] s5 τ H5 _ I5 (stat fr5) st5 stop) fun r s6 ⟨hr,I6⟩=>?_
   subst hr
   have base:Un (frs X.stack) fp (upd H2 s2.heap.objs.size (.lst [])) H5 g3 s6.heap:=I6.base
   have J6:Inv X pins σ H5 s6:=I3.call' (ch:=fp) I6.os base I6.hok I6.bare fun b hb=>⟨(f3 b hb).2.2.2.1,(f3 b hb).2.1,(f3 b hb).2.2.2.2.1,(f3 b hb).2.2.2.2.2⟩
   obtain ⟨m6,n6,_⟩:=I6.loc
   have hC:g3.get? g3.objs.size=none:=eG (aJ _)
   refine fin _ g3.objs.size H5 s6 J6 ⟨m6,n6⟩ I6.free (dP I3.lt) (fun x c e z=>?_) I3.sz (fun p hp z=>?_) (I3.nofs (aJ _)) qn
   ·obtain ⟨v,q⟩:=I3.cell x c e
    exact absurd q.lt (by rw [z];exact cW _)
   ·exact absurd (aG (I3.pin p hp).1) (by rw [z];exact cW _)
  ·refine thn (T.item (cxC X scope cl { s2 with heap:=g3 } (upd H2 s2.heap.objs.size (.lst [])) fp) rfl rfl rfl hc i [] s5 τ H5 _ I5 (stat fr5) st5 go) fun r s6 ⟨u,hr,h6⟩=>?_
   subst hr
   refine thn h6 fun _ s7 ⟨x,H7,I7,r7,y7,st7,fr7⟩=>?_
   have I7':=I7.pinned (stat fr7) (T.obj _ _ st7)
   refine thn (hg cl { s2 with heap:=g3 } _ fp _ s7 τ H7 x u _ I7' r7 (step x H7 y7)) fun _ s8 ⟨τ8,H8,I8,q8⟩=>?_
   refine thn (ht cl { s2 with heap:=g3 } _ fp _ s8 τ8 H8 _ I8 q8) fun b s9 ⟨H9,I9,q9⟩=>?_
   have again:∀ {τ9:St} {H9:Hp} {s9:aw},Inv (cxC X scope cl { s2 with heap:=g3 } (upd H2 s2.heap.objs.size (.lst [])) fp) ([] ++ wO fp s7.heap) τ9 H9 s9->N τ9 H9 ->
     ∃ m,m<n/\∃ i τ H',Inv (cxC X scope cl { s2 with heap:=g3 } (upd H2 s2.heap.objs.size (.lst [])) fp) [] τ H' s9/\tn i s9.heap/\(∀ b ∈ fp,H' b=none)/\W i m τ H':=fun {τ9 H9 s9} I9 n9=>by
    obtain ⟨m',hm,w9⟩:=hN _ _ n9
    refine ⟨m',hm,i+1,τ9,H9,I9.unpinned,T.keep _ _ _ st7 fun b hb o e=>(I9.pin (b,o) (bR _ (bR _ (kQ hb e)))).1,fun b hb=>?_,w9⟩
    obtain ⟨o,e,d⟩:=T.obj _ _ st7 b hb
    exact (I9.pin (b,o) (bR _ (bR _ (kQ hb e)))).2.1
   cases b with
   | false=>
    rw [if_neg bf] at q9 ⊢
    exact again I9 q9
   | true=>
    rw [if_pos rfl] at q9 ⊢
    refine thn (he cl { s2 with heap:=g3 } _ fp _ s9 τ8 H9 _ I9 q9) fun y s10 ⟨v,H10,I10,r10,ys,hys,hlen,n10⟩=>?_
    exact thn (Zo (X:=cxC X scope cl { s2 with heap:=g3 } (upd H2 s2.heap.objs.size (.lst [])) fp) _ s10 τ8 H10 (.ref s2.heap.objs.size) [v] (.ref s2.heap.objs.size) [y] (fun _ H11=>N τ8 H11) I10 rfl (.cons r10 .nil) ⟨_,ys,v,rfl,rfl,hys,hlen,n10⟩) fun _ s11 ⟨_,H11,I11,_,n11⟩=>again I11 n11
 have LW:=loop (s2.toks+([]:List (Str × aj)).length)
 exact codeAny_compStart_list LW (T.self _ 0 _ _ _ (T.keep _ _ _ st3 fun b _ o e=>old b o e) LW)
end
section
variable {X:Cx}{ts:List Nat}{scope:Scope}{tg iter elt:Expr}{ifs:List Expr}{wi:TI}{g:TG}{tt:TT}{te:TE}{pos:Pos}
theorem yM (hc:X.calm=true)(hsc:B1 X.N ts scope X.env.kindOf=true)(hi:PI X tg iter wi)(hg:∀ cl s H fp,PG (cxC X scope cl s H fp) tg g)(ht:∀ cl s H fp,PIf (cxC X scope cl s H fp) ifs tt)(he:∀ cl s H fp,PE (cxC X scope cl s H fp) elt te)
  (hs:∀ x,fB iter X.env x=pure x:=by intro _;rfl):PE X (.ListComp elt [⟨tg,iter,ifs,0⟩] scope pos) (JV ts wi g tt te):=by
 intro pins s σ H Q I h
 rw [eval_ListComp]
 refine Jp hc hsc hi hg ht he I h (use:=none) (fun D C H' s' I' ⟨m,hn⟩ hC hL hce hsz hp hfs q=>⟨m,hn,fun h' hs'=>?_⟩) hs
 exact ⟨.ref D,H',I'.turned (t':=s'.toks) (it:=C) (fun b o hb e=>(hs'.2 b hb).trans e) hC hL (.inr hsz) hce hp,rfl,q⟩
theorem vM {j:Nat}{y:Str}{py spos:Pos}(hc:X.calm=true)(hN:X.N.Nodup)(hj:X.N[j]?=some y)(hy:Loc X.env.scope y)(hsc:B1 X.N ts scope X.env.kindOf=true)(hi:PI X tg iter wi)(hg:∀ cl s H fp,PG (cxC X scope cl s H fp) tg g)(ht:∀ cl s H fp,PIf (cxC X scope cl s H fp) ifs tt)(he:∀ cl s H fp,PE (cxC X scope cl s H fp) elt te)
  (hsw:iZ (.ListComp elt [⟨tg,iter,ifs,0⟩] scope pos) (some (.Name y py)) spos.line X.env=pure true:=by rfl)
  (hs:∀ x,fB iter X.env x=pure x:=by intro _;rfl) (hf:X.fn y=true \/ X.env.scope.names.lookup y=some .local:=by first | exact .inl rfl | exact .inr rfl | assumption) :
  PS X (.Assign [.Name y py] (.ListComp elt [⟨tg,iter,ifs,0⟩] scope pos) spos) (JS (JV ts wi g tt te) (QY j)):=by
 intro pins s σ H D I h
 rw [exec_Assign_Name_used _ _ _ _ hsw]
 refine ap (cY (ap ?_))
 show aO _ _ (do let _ <- comprehension (.ListComp elt [⟨tg,iter,ifs,0⟩] scope pos) scope X.env _ (newList []) false (eval iter X.env) (some (lp (.Name y py) X.env))) _ _ s
 refine ap (ba (Jp hc hsc hi hg ht he I h (use:=some (lp (.Name y py) X.env)) (Q':=fun _ s'=>SP X pins D .next s') (fun D' C H' s' I' ⟨m,hn⟩ hC hL hce hsz hp hfs q=>?_) hs) (fun _ s' hq=>aL (aL hq)) fun _ _ e=>e)
 show aO _ _ (lp (.Name y py) X.env (.ref D')) _ _ _
 refine wpAny_assign_Name (Zd (v:=.ref D') I' hN hj hy rfl (fun s2 I2 ⟨a,hsb,ha⟩=>?_) hf)
 have hCa:C ≠ a:=by
  rcases ha with rfl | ha
  ·exact hL
  ·exact Ne.symm (hce y a ha)
 refine ⟨m,hn.sameBut hsb hCa,fun h' hs'=>?_⟩
 exact ⟨_,H',I2.turned (t':=s2.toks) (it:=C) (fun b o hb e=>(hs'.2 b hb).trans e) hC hL (.inr hsz) hce hp,q⟩
end
noncomputable def Ite (K:ax)(a:au):It:=
 ⟨fun i H=>∃ xs x,SqL K H a xs/\xs[i]?=some x,fun i H y H'=>∃ p x,H p=none/\y=.ref p/\(∀ xs,SqL K H a xs->xs[i]?=some x)/\H'=upd H p (.tup [.int i,x]),fun i H=>∃ xs,SqL K H a xs/\xs.length<=i⟩
variable {P:aS} {w:bo} {K:ax} {es:List Expr} {kt:Nat} {tp:Pos}
theorem Zh (a e it:au)(hei:e ≠ it):Q3 P w K (.Tuple es kt tp) (Ite K a) [e,it] e (fun i h=>(∃ old,IsEnum h e it (i:Nat) old)/\h.IsListIter it a i) where
 mem:=by simp
 obj:=fun i h st b hb=>by
  obtain ⟨⟨old,he⟩,⟨o,e1,c,d⟩⟩:=st
  rcases aA.mp hb with rfl | hb
  ·exact ⟨_,he,fun v z=>by have z':dB _=fu v:=z;cases z'⟩
  ·have e2:b=it:=by simpa using hb
   subst e2
   exact ⟨o,e1,fun v z=>by rw [d] at z;cases z⟩
 keep:=fun i h h' st k=>by
  obtain ⟨⟨old,he⟩,st⟩:=st
  exact ⟨⟨old,k e (by simp) _ he⟩,st.at fun o e=>k it (by simp) o e⟩
 item:=by
  intro X hP hw hK hc i pins s σ H E I hf st hg
  subst hP hw hK
  obtain ⟨⟨old,he⟩,st⟩:=st
  obtain ⟨xs,x,hq,hx⟩:=hg
  obtain ⟨its,rv,p,hz⟩:=I.list hq
  obtain ⟨u,hu,ru⟩:=rv.get hx
  have fe:=hf e (by simp)
  have fi:=hf it (by simp)
  refine wpAny_pyNext_enum_item he st p.isList (x:=u) (by simpa using hu) hei fun h1 heo hit1 ht1 hz1 hk1=>?_
  refine ⟨.ref s.heap.objs.size,rfl,gD heo fun h2 he2 hs2=>?_⟩
  replace hs2:bU e h1 h2:=hs2
  have elt:e<s.heap.objs.size:=aG he
  have hfr:H s.heap.objs.size=none:=I.hok.fresh (aJ _)
  have ht2:h2.get? s.heap.objs.size=some { cls:=.type "tuple",data:=.seq #[.int i s.toks,u] }:=(hs2.2 _ (dP elt)).trans ht1
  have kk:∀ b o,b ∉ [e,it]->s.heap.get? b=some o->h2.get? b=some o:=fun b o hc q=>by
   have n1:b ≠ e:=fun z=>hc (by simp [z])
   have n2:b ≠ it:=fun z=>hc (by simp [z])
   exact (hs2.2 b n1).trans (hk1 b o n1 n2 q)
  have nb:∀ c v,H c=some v->c ∉ [e,it]:=fun c v z hm=>by
   rcases aA.mp hm with z' | z'
   ·rw [z',fe.1] at z;cases z
   ·have e2:c=it:=by simpa using z'
    rw [e2,fi.1] at z;cases z
  have I2:Inv X pins σ (upd H s.heap.objs.size (.tup [.int i,x])) { s with heap:=h2,toks:=s.toks+1 }:=by
   refine I.step (g':=s.gens) (d':=s.drawn) (ch:=[e,it]) (fun b hb=>?_) (fun b o _ _ hc q _=>kk b o hc q) (fun b o _ _ hc q _=>⟨o.slots,kk b o hc q⟩) (fun b o _ q n=>by rw [zk (bp (aG q))];exact n) (fun b o hc q=>⟨o,kk b o hc q⟩)
    (fun b xs q=>by rw [zk (zo q hfr)];exact q) (fun b o u q=>by rw [zk (zo q hfr)];exact q) (fun b ps q=>⟨#[],by rw [zk (zo q hfr),q];simp⟩) (fun m hm=>?_) (fun b v q=>?_) I.bare
   ·rcases aA.mp hb with z | hb
    ·rw [z];exact ⟨fe.2.2.2.1,fe.2.1,fe.2.2.2.2.1,fe.2.2.2.2.2⟩
    ·have e2:b=it:=by simpa using hb
     rw [e2];exact ⟨fi.2.2.2.1,fi.2.1,fi.2.2.2.2.1,fi.2.2.2.2.2⟩
   ·obtain ⟨o,es,ep,ho,r⟩:=hm
    exact ⟨o,es,ep,kk _ o (by simp [Ne.symm fe.2.1,Ne.symm fi.2.1]) ho,r⟩
   ·by_cases hb:b=s.heap.objs.size
    ·subst hb
     rw [zm] at q
     cases q
     exact ⟨by show 2<=aM;decide,[.int i s.toks,u],.cons ⟨_,rfl⟩ (.cons ru .nil),_,ht2,rfl,⟨_,rfl⟩,rfl⟩
    ·rw [zk hb] at q
     refine (I.hok b v q).stay (fun c o hc q'=>kk c o ?_ q') (fun c z=>by rw [zk (zo z hfr)];exact z) fun c xs z=>by rw [zk (zo z hfr)];exact z
     rcases hc with z | z
     ·rw [z];exact nb b v q
     ·exact nb c _ z
  refine ⟨.ref s.heap.objs.size,_,I2,rfl,⟨s.heap.objs.size,x,hfr,rfl,fun ys hy=>by rw [I.list_inj hy hq];exact hx,rfl⟩,⟨⟨_,by simpa using he2⟩,hit1.extBut hs2.extBut (Ne.symm hei)⟩,fun b hb=>?_⟩
  have hlt:b<s.heap.objs.size:=by
   rcases aA.mp hb with rfl | hb
   ·exact elt
   ·have e2:b=it:=by simpa using hb
    subst e2
    obtain ⟨o,e1,_⟩:=st
    exact aG e1
  rw [zk (bp hlt)]
  exact (hf b hb).1
 done:=by
  intro X hP hw hK hc i pins s σ H E I hf st hg
  subst hP hw hK
  obtain ⟨⟨old,he⟩,st⟩:=st
  obtain ⟨xs,hq,hx⟩:=hg
  obtain ⟨its,rv,p,hz⟩:=I.list hq
  obtain ⟨f0,f1,f2,f3,f4,f5⟩:=hf it (by simp)
  have hl:=rv.length
  exact wpAny_pyNext_enum_end (I.ok.hd hc) he st p.isList (by simp;omega) fun h' eb=>⟨rfl,I.turned (t':=s.toks) (fun b o hb e=>eb b o hb e) f0 f1 f3 f4 f5⟩
 self:=fun _ _ _ _ _ st h=>by
  obtain ⟨⟨old,he⟩,_⟩:=st
  exact eE he h
section
variable {X:Cx}{pins:List (au × Obj)}{σ:St}{H:Hp}{s:aw}
variable {ch:List au} {h2:Heap} {tk:Nat}
theorem Inv.yieldTup {T:au}{xs:List V}{us:List aj}(I:Inv X pins σ H s)(hf:∀ b ∈ ch,vI X pins H b)(kk:∀ b o,b ∉ ch->s.heap.get? b=some o->h2.get? b=some o)(hT:s.heap.objs.size<=T)
  (ht2:h2.get? T=some { cls:=.type "tuple",data:=.seq us.toArray }) (rv:zF xs us) (hz:xs.length<=aM):Inv X pins σ (upd H T (.tup xs)) { s with heap:=h2,toks:=tk }:=by
 have hfr:H T=none:=I.hok.fresh hT
 have nb:∀ c v,H c=some v->c ∉ ch:=fun c v z hm=>by rw [(hf c hm).1] at z;cases z
 refine I.step (g':=s.gens) (d':=s.drawn) (ch:=ch) (fun b hb=>⟨(hf b hb).2.2.2.1,(hf b hb).2.1,(hf b hb).2.2.2.2.1,(hf b hb).2.2.2.2.2⟩) (fun b o _ _ hc q _=>kk b o hc q) (fun b o _ _ hc q _=>⟨o.slots,kk b o hc q⟩)
  (fun b o _ q n=>by rw [zk (bp (bn (aG q) hT))];exact n) (fun b o hc q=>⟨o,kk b o hc q⟩)
  (fun b xs q=>by rw [zk (zo q hfr)];exact q) (fun b o u q=>by rw [zk (zo q hfr)];exact q) (fun b ps q=>⟨#[],by rw [zk (zo q hfr),q];simp⟩) (fun m hm=>?_) (fun b v q=>?_) I.bare
 ·obtain ⟨o,es,ep,ho,r⟩:=hm
  exact ⟨o,es,ep,kk _ o (fun z=>(hf _ z).2.1 rfl) ho,r⟩
 ·by_cases hb:b=T
  ·subst hb
   rw [zm] at q
   cases q
   exact ⟨hz,us,rv,_,ht2,rfl,⟨_,rfl⟩,rfl⟩
  ·rw [zk hb] at q
   refine (I.hok b v q).stay (fun c o hc q'=>kk c o ?_ q') (fun c z=>by rw [zk (zo z hfr)];exact z) fun c xs z=>by rw [zk (zo z hfr)];exact z
   rcases hc with z | z
   ·rw [z];exact nb b v q
   ·exact nb c _ z
theorem Inv.turnedL (I:Inv X pins σ H s)(hf:∀ b ∈ ch,vI X pins H b)(kk:∀ b o,b ∉ ch->s.heap.get? b=some o->h2.get? b=some o):Inv X pins σ H { s with heap:=h2,toks:=tk }:=by
 have nb:∀ c v,H c=some v->c ∉ ch:=fun c v z hm=>by rw [(hf c hm).1] at z;cases z
 refine I.step (g':=s.gens) (d':=s.drawn) (ch:=ch) (fun b hb=>⟨(hf b hb).2.2.2.1,(hf b hb).2.1,(hf b hb).2.2.2.2.1,(hf b hb).2.2.2.2.2⟩) (fun b o _ _ hc q _=>kk b o hc q) (fun b o _ _ hc q _=>⟨o.slots,kk b o hc q⟩)
  (fun b o _ q n=>n) (fun b o hc q=>⟨o,kk b o hc q⟩) (fun b xs q=>q) (fun b o u q=>q) (fun b ps q=>⟨#[],by rw [q];simp⟩) (fun m hm=>?_) (fun b v q=>?_) I.bare
 ·obtain ⟨o,es,ep,ho,r⟩:=hm
  exact ⟨o,es,ep,kk _ o (fun z=>(hf _ z).2.1 rfl) ho,r⟩
 ·refine (I.hok b v q).stay (fun c o hc q'=>kk c o ?_ q') (fun c z=>z) fun c xs z=>z
  rcases hc with z | z
  ·rw [z];exact nb b v q
  ·exact nb c _ z
end
noncomputable def Itz (K:ax)(a b:au):It:=
 ⟨fun i H=>∃ xs ys x y,SqL K H a xs/\SqL K H b ys/\xs[i]?=some x/\ys[i]?=some y,fun i H z H'=>∃ p x y,H p=none/\z=.ref p/\(∀ xs,SqL K H a xs->xs[i]?=some x)/\(∀ ys,SqL K H b ys->ys[i]?=some y)/\H'=upd H p (.tup [x,y]),
  fun i H=>∃ xs ys,SqL K H a xs/\SqL K H b ys/\(xs.length<=i \/ ys.length<=i)⟩
theorem A4 (l1 l2 z TI TO i1 i2:au)(D:ZipApart z TI TO i1 i2 l1 l2) :
  Q3 P w K (.Tuple es kt tp) (Itz K l1 l2) [z,TI,TO,i1,i2] z (fun i h=>IsZip h z TI TO .none/\fK h TI (.ref i1) (.ref i2)/\(∃ a b,fK h TO a b)/\h.IsListIter i1 l1 i/\h.IsListIter i2 l2 i) where
 mem:=by simp
 obj:=fun i h st b hb=>by
  obtain ⟨hz,hTI,⟨a,c,hTO⟩,⟨o1,e1,c1,d1⟩,⟨o2,e2,c2,d2⟩⟩:=st
  simp only [aA,aK,or_false] at hb
  rcases hb with rfl | rfl | rfl | rfl | rfl
  ·exact ⟨_,hz,fun v q=>by have q':dB _=fu v:=q;cases q'⟩
  ·exact ⟨_,hTI,fun v q=>by have q':eM _ _=fu v:=q;cases q'⟩
  ·exact ⟨_,hTO,fun v q=>by have q':eM _ _=fu v:=q;cases q'⟩
  ·exact ⟨o1,e1,fun v q=>by rw [d1] at q;cases q⟩
  ·exact ⟨o2,e2,fun v q=>by rw [d2] at q;cases q⟩
 keep:=fun i h h' st k=>by
  obtain ⟨hz,hTI,⟨a,c,hTO⟩,h1,h2⟩:=st
  exact ⟨k _ (by simp) _ hz,k _ (by simp) _ hTI,⟨a,c,k _ (by simp) _ hTO⟩,h1.at fun o e=>k _ (by simp) o e,h2.at fun o e=>k _ (by simp) o e⟩
 item:=by
  intro X hP hw hK hc i pins s σ H E I hf st hg
  subst hP hw hK
  obtain ⟨hz,hTI,⟨a,c,hTO⟩,h1,h2⟩:=st
  obtain ⟨xs,ys,x,y,hq1,hq2,hx,hy⟩:=hg
  obtain ⟨its1,rv1,p1,hz1⟩:=I.list hq1
  obtain ⟨its2,rv2,p2,hz2⟩:=I.list hq2
  obtain ⟨u,hu,ru⟩:=rv1.get hx
  obtain ⟨v,hv,rvv⟩:=rv2.get hy
  refine wpAny_pyNext_zip_item D hz hTI hTO h1 h2 p1.isList p2.isList (x:=u) (y:=v) (by simpa using hu) (by simpa using hv) fun g1 b1 b2 b3 b4 b5 b6 hk=>?_
  refine ⟨.ref s.heap.objs.size,rfl,gI b1 fun g2 hz2' hs2=>?_⟩
  replace hs2:bU z g1 g2:=hs2
  have zlt:z<s.heap.objs.size:=aG hz
  have I2:Inv X pins σ (upd H s.heap.objs.size (.tup [x,y])) { s with heap:=g2,toks:=s.toks }:=by
   refine I.yieldTup (us:=[u,v]) hf (fun b o hb e=>?_) (aJ _) ((hs2.2 _ (dP zlt)).trans b5) (.cons ru (.cons rvv .nil)) (by show 2<=aM;decide)
   simp only [aA,aK,or_false,not_or] at hb
   exact (hs2.2 b hb.1).trans (hk b o hb.1 hb.2.2.1 hb.2.2.2.1 hb.2.2.2.2 e)
  refine ⟨.ref s.heap.objs.size,_,I2,rfl,⟨s.heap.objs.size,x,y,I.hok.fresh (aJ _),rfl,fun xs' h'=>by rw [I.list_inj h' hq1];exact hx,fun ys' h'=>by rw [I.list_inj h' hq2];exact hy,rfl⟩,
   ⟨hz2',(hs2.2 _ D.TIz).trans (hk _ _ D.TIz D.TITO D.TIi1 D.TIi2 hTI),⟨_,_,(hs2.2 _ D.TOz).trans b2⟩,b3.extBut hs2.extBut D.i1z,b4.extBut hs2.extBut D.i2z⟩,fun b hb=>?_⟩
  have hlt:b<s.heap.objs.size:=by
   simp only [aA,aK,or_false] at hb
   rcases hb with rfl | rfl | rfl | rfl | rfl
   ·exact zlt
   ·exact aG hTI
   ·exact aG hTO
   ·obtain ⟨o,e,_⟩:=h1;exact aG e
   ·obtain ⟨o,e,_⟩:=h2;exact aG e
  rw [zk (bp hlt)]
  exact (hf b hb).1
 done:=by
  intro X hP hw hK hc i pins s σ H E I hf st hg
  subst hP hw hK
  obtain ⟨hz,hTI,⟨a,c,hTO⟩,h1,h2⟩:=st
  obtain ⟨xs,ys,hq1,hq2,hend⟩:=hg
  obtain ⟨its1,rv1,p1,hz1⟩:=I.list hq1
  obtain ⟨its2,rv2,p2,hz2⟩:=I.list hq2
  have l1:=rv1.length
  have l2:=rv2.length
  refine wpAny_pyNext_zip_end (I.ok.hd hc) D hz hTI hTO h1 h2 p1.isList p2.isList (by simp;omega) fun h' hk=>⟨rfl,I.turnedL (tk:=s.toks) hf fun b o hb e=>?_⟩
  simp only [aA,aK,or_false,not_or] at hb
  exact hk b o hb.1 hb.2.2.1 hb.2.2.2.1 hb.2.2.2.2 e
 self:=fun _ _ _ _ _ st h=>fQ st.1 h
theorem wN:bI "enumerate"=some (.type "enumerate"):=by decide +kernel
theorem V4:bI "zip"=some (.type "zip"):=by decide +kernel
section
variable {X:Cx}{es:List Expr}{kt:Nat}{tp:Pos}
noncomputable def GR (K:ax)(ta:TA):TI:=fun σ H R=>ta σ H fun vs H1=>∃ a,vs=[.ref a]/\(∃ xs,SqL K H1 a xs)/\R (Ite K a) H1
theorem F8 {e:Expr}{ta:TA}{p pos:Pos}(hg:Gl X "enumerate")(hm:X.mg "enumerate"=none)(ha:PA X [e] ta)(hs:aQ [e] X.env=[(false,eval e X.env)]:=by rfl) :
  PI X (.Tuple es kt tp) (.Call (.Name "enumerate" p) [e] [] pos) (GR X.K ta):=by
 intro pins s σ H R I h
 refine Call_ (yh I hg hm (wN) (cO (thn (ha pos pins s σ H _ I h) fun us s1 ⟨vs,H1,I1,r1,q1⟩=>?_) hs rfl))
 obtain ⟨a,e,⟨xs,hq⟩,q⟩:=q1
 subst e
 obtain ⟨u,rfl,ru⟩:=xw r1
 cases ru
 obtain ⟨its,rv,pl,hz⟩:=I1.list hq
 refine call_enumerate_list pl.isList fun h' he hit hsz hk=>eE he ?_
 have I2:Inv X pins σ H1 { s1 with heap:=h' }:=I1.kept (t':=s1.toks) hk
 refine ⟨s1.heap.objs.size+1,[s1.heap.objs.size+1,s1.heap.objs.size],_,_,H1,rfl,I2,Zh a _ _ (hR _),⟨⟨_,he⟩,hit⟩,fun b hb=>?_,q⟩
 have hb':s1.heap.objs.size<=b:=by
  simp only [aA,aK,or_false] at hb
  rcases hb with rfl | rfl
  ·exact iO _
  ·exact aJ _
 exact I1.fpOk hb' (I1.hok.fresh hb')
end
variable {a:au} {xs:List V} {g:TG} {tb:TS} {D:yb} {σ:St} {H:Hp}
theorem W3 (Pv:Nat->St->Hp->Prop)(h0:Pv 0 σ H)(hl:∀ i σ H,i<=xs.length->Pv i σ H->SqL K H a xs)
  (hs:∀ i x p σ H,xs[i]?=some x->H p=none->Pv i σ H->g (.ref p) σ (upd H p (.tup [.int i,x])) fun σ2 H2=>tb { D with nx:=Pv (i+1),ct:=Pv (i+1),bk:=D.nx } σ2 H2) (hd:∀ σ H,Pv xs.length σ H->D.nx σ H) :
  ∃ W:Nat->Nat->St->Hp->Prop,(∃ m,W 0 m σ H)/\∀ i m σ H,W i m σ H ->
   ((Ite K a).stop i H/\D.nx σ H) \/ ((Ite K a).go i H/\∃ N:St->Hp->Prop,(∀ σ' H',N σ' H'->∃ m',m'<m/\W (i+1) m' σ' H')/\∀ x H',(Ite K a).yld i H x H'->g x σ H' fun σ2 H2=>tb { D with nx:=N,ct:=N,bk:=D.nx } σ2 H2):=by
 refine ⟨fun i m σ H=>m=xs.length - i/\i<=xs.length/\Pv i σ H,⟨xs.length,by simp,cK _,h0⟩,?_⟩
 rintro i m σ H ⟨rfl,hi,p⟩
 have q:=hl i σ H hi p
 by_cases hlt:i<xs.length
 ·refine .inr ⟨⟨xs,xs[i],q,by simp [hlt]⟩,Pv (i+1),fun σ' H' p'=>⟨xs.length - (i+1),by omega,rfl,hlt,p'⟩,fun x H' y=>?_⟩
  obtain ⟨pp,x',hp,rfl,y,rfl⟩:=y
  exact hs i x' pp σ _ (y xs q) hp p
 ·have e:i=xs.length:=by omega
  subst e
  exact .inl ⟨⟨xs,q,aJ _⟩,hd σ H p⟩
noncomputable def Jh (p:au)(a b c:Int):HO:=.ext fun h=>∃ t u v,h.get? p=some { cls:=.type "range",data:=.fields #[.int a t,.int b u,.int c v] }
variable {p:au}
theorem Ie {h:Heap} {a b c:Int}{t u v:Tok}(e:h.get? p=some { cls:=.type "range",data:=.fields #[.int a t,.int b u,.int c v] }):zQ P w H h p (Jh p a b c):=
 ⟨⟨t,u,v,e⟩,⟨_,e⟩,fun h1 h2 ⟨t,u,v,q⟩ k=>⟨t,u,v,k _ q⟩⟩
noncomputable def qj (a c:Int)(n:Nat):List Int:=(bW n).map fun (i:Nat)=>a+(i:Int) * c
theorem je (a c:Int)(n:Nat):(qj a c n).length=n:=by simp [qj]
theorem Kt {a c:Int}:∀ {n:Nat} {acc:Array aj},ItemsOf (fun (i:Nat) (v:aj)=>∃ t,v=aj.int (a+(i:Int) * c) t) acc n->zF ((qj a c n).map V.int) acc.toList:=by
 intro n acc ⟨hs,hi⟩
 have key:∀ (k:Nat) (l:List aj),l.length=k->(∀ (j:Nat) v,l[j]?=some v->∃ t,v=aj.int (a+(j:Int) * c) t)->zF ((qj a c k).map V.int) l:=by
  intro k
  induction k with
  | zero=>intro l hl _;cases l with
   | nil=>exact .nil
   | cons=>simp at hl
  | succ k ih=>
   intro l hl hv
   obtain ⟨l',x,rfl⟩:∃ l' x,l=l' ++ [x]:=⟨l.dropLast,l.getLast (by intro e;rw [e] at hl;simp at hl),(List.dropLast_concat_getLast _).symm⟩
   have hl':l'.length=k:=by simpa using hl
   have e:(qj a c (k+1)).map V.int=(qj a c k).map V.int ++ [.int (a+(k:Int) * c)]:=by simp [qj,List.range_succ]
   rw [e]
   refine (ih l' hl' fun j v hj=>hv j v ?_).append (.cons ?_ .nil)
   ·rw [cv (aD.mp hj).1];exact hj
   ·obtain ⟨t,rfl⟩:=hv k x (by rw [cS (by omega),hl'];simp)
    exact ⟨t,rfl⟩
 exact key n acc.toList (by simpa using hs) fun j v hj=>hi j v (by simpa using hj)
section
variable {X:Cx}
theorem vk:jT X (.type "range") (fun xs H Q=>∃ b:Int,xs=[.int b]/\∀ p,H p=none->Q (.ref p) (upd H p (Jh p 0 b 1))):=by
 intro pins s σ H xs us Q I r h
 obtain ⟨b,rfl,q⟩:=h
 obtain ⟨u,rfl,t,rfl⟩:=xw r
 refine call_range_1 ⟨.ref s.heap.objs.size,_,I.laid (fun b o e=>az _ e) (aJ _) ?_,rfl,q _ (I.hok.fresh (aJ _))⟩
 exact Ie (aW _ rfl)
theorem xZ (hc:X.calm=true):jT X (.type "list") (fun xs H Q=>∃ p a b c n,xs=[.ref p]/\H p=some (Jh p a b c)/\e7 a b c=true/\dj a b c=((n:Nat):Int)/\n<=100000/\∀ l,H l=none->Q (.ref l) (upd H l (.lst ((qj a c n).map V.int)))):=by
 intro pins s σ H xs us Q I r h
 obtain ⟨p,a,b,c,n,rfl,hp,hs,hn,hz,q⟩:=h
 obtain ⟨u,rfl,rx⟩:=xw r
 cases rx
 obtain ⟨⟨t,u,v,e⟩,_⟩:=(show zQ X.prog X.w H s.heap p (Jh p a b c) from I.hok _ _ hp)
 refine call_list_range (I.ok.hd hc) e hs hn (bb hz (by decide)) fun h' tk acc c' hk he hi=>?_
 refine ⟨.ref s.heap.objs.size,_,I.laid hk (aJ _) (show zQ X.prog X.w _ h' _ (.lst ((qj a c n).map V.int)) from ⟨?_,acc.toList,c',Kt hi,by simpa using he⟩),rfl,q _ (I.hok.fresh (aJ _))⟩
 rw [aq,je]
 exact bb hz (by decide)
end
section
variable {X:Cx}
noncomputable def isT (t c:String):Option Bool:=if (aj.type t == aj.type c)=true then some true else if PySem.W.kitMeta c=true then (fastBuiltinMro t).map (·.contains (aj.type c)) else none
theorem Xw (K:ax)(t c:String):iM K (.type t) (.type c)=isT t c:=rfl
noncomputable def vD (t:String):List String->Option Bool
 | []=>some false
 | c :: r=>match isT t c with
  | some true=>some true
  | some false=>vD t r
  | none=>none
theorem Jg (K:ax)(t:String):∀ cs:List String,iR K (.type t) (cs.map aj.type)=vD t cs
 | []=>rfl
 | c :: r=>by
  show (match iM K (.type t) (.type c) with | some true=>some true | some false=>iR K (.type t) (r.map aj.type) | none=>none)=_
  rw [Xw,Jg K t r];rfl
theorem qa:jT X (.builtin "isinstance") (fun xs H Q=>∃ x t c b,xs=[x,.ty c]/\xD X.K H x (.type t)/\isT t c=some b/\Q (.bl b) H):=by
 intro pins s σ H xs us Q I r h
 obtain ⟨x,t,c,b,rfl,ty,e,q⟩:=h
 obtain ⟨u,v,rfl,ru,rv⟩:=QT r
 cases rv
 exact VQ I ru ty (by rw [Xw];exact e) fun tk=>⟨.bl b,H,I.tok _,rfl,q⟩
theorem JA:∀ {cs:List String} {us:List aj},zF (cs.map V.ty) us->us=cs.map aj.type
 | [],_,.nil=>rfl
 | c :: cs,_,.cons r t=>by rw [JA t];cases r;rfl
theorem Zb:jT X (.builtin "isinstance") (fun xs H Q=>∃ x t p cs b,xs=[x,.ref p]/\H p=some (.tup (cf V.ty cs))/\xD X.K H x (.type t)/\vD t cs=some b/\Q (.bl b) H):=by
 intro pins s σ H xs us Q I r h
 obtain ⟨x,t,p,cs,b,rfl,hp,ty,e,q⟩:=h
 obtain ⟨u,v,rfl,rx,rv⟩:=QT r
 cases rv
 obtain ⟨_,its,rt,o,ho,hc,⟨n,hd⟩,_⟩:=(show zQ X.prog X.w H s.heap p (.tup (cf V.ty cs)) from I.hok _ _ hp)
 obtain ⟨oc,od,odt,osl⟩:=o
 simp only at hc hd
 subst hc hd
 have e':iR X.K (.type t) its=some b:=by rw [JA rt,Jg];exact e
 have fin:∀ tk,EP X pins σ Q (.bool b) { s with toks:=tk }:=fun tk=>⟨.bl b,H,I.tok _,rfl,q⟩
 cases ty with
 | non=>cases (show u=aj.none from rx);exact cH lH I.kIn True.intro ho e' (fun z=>nomatch z) fin
 | bl y=>cases (show u=aj.bool y from rx);exact cH lI I.kIn True.intro ho e' (fun z=>nomatch z) fin
 | int i=>obtain ⟨t,q⟩:=(show ∃ t,u=aj.int i t from rx);cases q;exact cH lY I.kIn True.intro ho e' (fun z=>nomatch z) fin
 | str y=>obtain ⟨t,q⟩:=(show ∃ t,u=aj.str y t from rx);cases q;exact cH lZ I.kIn True.intro ho e' (fun z=>nomatch z) fin
 | flt y=>obtain ⟨t,q⟩:=(show ∃ t,u=aj.float y t from rx);cases q;exact cH ls I.kIn True.intro ho e' (fun z=>nomatch z) fin
 | @lst a xs ea=>
  cases (show u=aj.ref a from rx)
  obtain ⟨_,_,n,_,h1⟩:=(show zQ X.prog X.w H s.heap a (.lst xs) from I.hok a _ ea)
  exact cH fE I.kIn ⟨_,h1,rfl⟩ ho e' (fun z=>nomatch z) fin
 | @frz a ob xs ea=>
  cases (show u=aj.ref a from rx)
  obtain ⟨_,_,_,n,_,h1⟩:=(show zQ X.prog X.w H s.heap a (.frz ob (.lst xs)) from I.hok a _ ea)
  exact cH fE I.kIn ⟨_,h1,rfl⟩ ho e' (fun z=>nomatch z) fin
 | @tup a xs ea=>
  cases (show u=aj.ref a from rx)
  obtain ⟨_,_,_,p⟩:=(show zQ X.prog X.w H s.heap a (.tup xs) from I.hok a _ ea)
  obtain ⟨o,h1,h2,_⟩:=p
  exact cH lu I.kIn ⟨o,h1,h2⟩ ho e' (fun z=>nomatch z) fin
 | @dK a kvs ea=>
  cases (show u=aj.ref a from rx)
  obtain ⟨_,_,vs,_,p⟩:=(show zQ X.prog X.w H s.heap a (.dK kvs) from I.hok a _ ea)
  obtain ⟨o,es,ep,h1,h2,_⟩:=p
  exact cH fF I.kIn ⟨o,h1,h2.1⟩ ho e' (fun z=>nomatch z) fin
 | @dT a kvs ea=>
  cases (show u=aj.ref a from rx)
  obtain ⟨_,_,xs,_,o,es,ep,h1,h2,_⟩:=(show zQ X.prog X.w H s.heap a (.dT kvs) from I.hok a _ ea)
  exact cH fF I.kIn ⟨o,h1,h2.1⟩ ho e' (fun z=>nomatch z) fin
end
def At (K:ax)(mg:Str->Option aj)(x:Str)(st:cw):Prop:=∃ f fd,Fun K x x st f fd/\mg x=some (.ref f)
def Df (P:aS)(w:bo)(K:ax)(mg:Str->Option aj)(base:Heap)(x:Str)(ps:List Str)(k:Nat)(sp:Sp):Prop:=
 ∃ f fd,jA P w K mg base CX0 k f fd ps sp/\jv K fd ps []/\cR K (.ref f)=true/\mg x=some (.ref f)/\∃ oc od osl,K.lookup f=some ⟨oc,od,.func fd,osl⟩
variable {mg:Str->Option aj} {base:Heap} {ps:List Str} {sp:Sp}
theorem Df.mono {x:Str} {j k:Nat} (D:Df P w K mg base x ps j sp)(h:j<=k):Df P w K mg base x ps k sp:=
 let ⟨f,fd,F,r⟩:=D
 ⟨f,fd,F.mono h,r⟩
section
variable {X:Cx}{k:Nat}{x:Str}{ps:List Str}{sp:Sp}{p pos:Pos}{e:Expr}{es:List Expr}{t:TA}
theorem zX (D:Df X.prog X.w X.K X.mg X.base x ps k sp)(hr:qt k X.A)(hg:Gl X x)(ha:PA X (e :: es) t)(hdb:(x == ("__debug__":Str))=false:=by decide)
  (he:aQ (e :: es) X.env=(false,eval e X.env) :: aQ es X.env:=by rfl) (hpl:(ca pos (aQ es X.env)).any (·.1)=false:=by rfl):PE X (.Call (.Name x p) (e :: es) [] pos) (YG sp [] E0 t):=by
 obtain ⟨f,fd,F,b,kp,m,_⟩:=D
 exact FY F hr hg m kp b .nil Yb ha hdb he hpl
end
variable {st:cw} {N:List Str}
theorem Zk {x:Str} {k:Nat} (a:At K mg x st)(S:zu N ps (zg st))
  (hb:∀ (kV doc pm:aj) (an:Option au) (cdv ct:aj) (us:List aj),us.length=ps.length->eJ (bO x x (qv st) (zM st) (zg st) .none kV doc pm an cdv ct) ⟨us,[]⟩=pure (ps.zip us))
  (len:∀ vs H Q E,sp vs H Q E->vs.length=ps.length)
  (hbody:∀ (f:au) (cdv:aj) (A:aZ) (outer:List Env) (s:aw) (H:Hp) (vs:List V) (Q:VK) (E:XK),qt k (A.deeper (eZ x (zg st) s.heap.objs.size f cdv))->sp vs H Q E ->
   ∃ t,PSs (jM CX0 P w K mg base N x (zg st) f cdv A outer s H E).nox (zM st) t/\t { nx:=fun _ H'=>Q .non H',rt:=Q } (qJ N vs) H):Df P w K mg base x ps (k+1) sp:=by
 obtain ⟨f,fd,F,m⟩:=a
 obtain ⟨oc,od,kV,doc,pm,an,cdv,ct,osl,_,lk,_⟩:=id F.ex
 exact ⟨f,fd,F.ok S len fun cdv A outer s H vs Q E=>hbody f cdv A outer s H vs Q E,F.binds hb,F.kp,m,oc,od,osl,lk⟩
variable {f:au} {oc:aj} {od an:Option au} {osl:Array (Option aj)}
theorem at_mk {h:Heap}{x:Str} {kV doc pm cdv ct:aj}(X:K.In h)(G:h.Ns bc mg)(a:bF K bc x=some (some (.ref f)))
  (l:K.lookup f=some ⟨oc,od,.func (bO x x (qv st) (zM st) (zg st) .none kV doc pm an cdv ct),osl⟩) (c:eK K cdv x=true) (k:cR K (.ref f)=true):At K mg x st:=⟨f,_,fun_mk l c k,fX X G a⟩
theorem Df.fn {x:Str} {k:Nat} {fd:cV} (D:Df P w K mg base x ps k sp)(m:mg x=some (.ref f))(l:K.lookup f=some ⟨oc,od,.func fd,osl⟩):jA P w K mg base CX0 k f fd ps sp:=by
 obtain ⟨f',fd',F,_,_,m',oc',od',osl',l'⟩:=D
 rw [m] at m'
 cases m'
 rw [l] at l'
 cases l'
 exact F
structure Blt (mg:Str->Option aj):Prop where
 len:mg "len"=none
 range:mg "range"=none
 list:mg "list"=none
 tuple:mg "tuple"=none
 int:mg "int"=none
 bool:mg "bool"=none
 str:mg "str"=none
 abs:mg "abs"=none
 divmod:mg "divmod"=none
 enumerate:mg "enumerate"=none
 zip:mg "zip"=none
 sorted:mg "sorted"=none
 max:mg "max"=none
 min:mg "min"=none
 isinstance:mg "isinstance"=none
 all:mg "all"=none
theorem blt_mk {h:Heap}(X:K.In h)(G:h.Ns bc mg)(z1:bF K bc "len"=some none)(z2:bF K bc "range"=some none)(z3:bF K bc "list"=some none)(z4:bF K bc "tuple"=some none)(z5:bF K bc "int"=some none)(z6:bF K bc "bool"=some none)(z7:bF K bc "str"=some none)(z8:bF K bc "abs"=some none)
  (z9:bF K bc "divmod"=some none) (z10:bF K bc "enumerate"=some none) (z11:bF K bc "zip"=some none) (z12:bF K bc "sorted"=some none) (z13:bF K bc "max"=some none) (z14:bF K bc "min"=some none) (z15:bF K bc "isinstance"=some none) (z16:bF K bc "all"=some none):Blt mg:=
 ⟨bw X G z1,bw X G z2,bw X G z3,bw X G z4,bw X G z5,bw X G z6,bw X G z7,bw X G z8,bw X G z9,bw X G z10,bw X G z11,bw X G z12,bw X G z13,bw X G z14,bw X G z15,bw X G z16⟩
theorem zw:bI "isinstance"=some (.builtin "isinstance"):=by decide +kernel
theorem D0:bI "abs"=some (.builtin "abs"):=by decide +kernel
theorem Vh:bI "divmod"=some (.builtin "divmod"):=by decide +kernel
theorem DS:bI "max"=some (.builtin "max"):=by decide +kernel
theorem ql:bI "len"=some (.builtin "len"):=by decide +kernel
theorem qT:bI "list"=some (.type "list"):=by decide +kernel
theorem qC:bI "tuple"=some (.type "tuple"):=by decide +kernel
theorem yV:bI "int"=some (.type "int"):=by decide +kernel
theorem vP:bI "bool"=some (.type "bool"):=by decide +kernel
theorem vY:bI "str"=some (.type "str"):=by decide +kernel
theorem Q2:bI "range"=some (.type "range"):=by decide +kernel
def Kp (bs:List au)(H H':Hp):Prop:=∀ c o,c ∉ bs->H c=some o->H' c=some o
theorem Kp.refl {bs:List au}:Kp bs H H:=fun _ _ _ h=>h
variable {H1 H2:Hp}
theorem Kp.trans {bs:List au} (a:Kp bs H H1)(b:Kp bs H1 H2):Kp bs H H2:=fun c o n h=>b c o n (a c o n h)
theorem Kp.new {bs:List au} (o:HO)(h:H p=none):Kp bs H (upd H p o):=fun c u _ q=>by rw [zk (zo q h)];exact q
theorem Kp.set {bs:List au} (o:HO)(h:p ∈ bs):Kp bs H (upd H p o):=fun c u n q=>by have hne:c ≠ p:=(fun e=>n (by rw [e];exact h));rw [zk hne];exact q
theorem Kp.free {H H':Hp}(e:Kp [] H H'){l:au}(h:H' l=Option.none):H l=Option.none:=by
 cases q:H l with
 | none=>rfl
 | some o=>rw [e l o (by simp) q] at h;cases h
def Bx (H:Hp)(b:au)(N:Nat):Prop:=∃ x y z:Int,H b=some (.lst [.int x,.int y,.int z])/\0<=x/\0<=y/\y<2147483648/\0<=z/\z<=N
noncomputable abbrev il (ns:List Int):HO:=.lst (ns.map V.int)
variable {qual:Str} {A:aZ} {outer:List Env} {s:aw} {E:XK}
theorem cxK {CX:CXT} {cd:aj}:
  (jM CX P w K mg base N qual scope f cd A outer s H E).K=K:=rfl
def L6 (J:It)(g:TG)(tb:TS)(D:yb)(σ:St)(H:Hp):Prop:=∃ W:Nat->Nat->St->Hp->Prop,(∃ m,W 0 m σ H)/\∀ i m σ H,W i m σ H ->
 (J.stop i H/\D.nx σ H) \/ (J.go i H/\∃ N:St->Hp->Prop,(∀ σ' H',N σ' H'->∃ m',m'<m/\W (i+1) m' σ' H')/\∀ x H',J.yld i H x H'->g x σ H' fun σ2 H2=>tb { D with nx:=N,ct:=N,bk:=D.nx } σ2 H2)
variable {wi:TI}
theorem Z3:EJ wi g tb D σ H=wi σ H (fun J H1=>L6 J g tb D σ H1):=rfl
def Mc (J:It)(g:TG)(tt:TT)(te:TE)(D:au)(Q:VK)(τ:St)(H:Hp):Prop:=∃ W:Nat->Nat->St->Hp->Prop,(∃ m,W 0 m τ H)/\∀ i m τ H2,W i m τ H2 ->
 (J.stop i H2/\Q (.ref D) H2) \/ (J.go i H2/\∃ N:St->Hp->Prop,(∀ τ' H',N τ' H'->∃ m',m'<m/\W (i+1) m' τ' H')/\∀ x H',J.yld i H2 x H'->g x τ H' fun τ2 H3=>tt τ2 H3 fun b H4=>
  if b=true then te τ2 H4 fun v H5=>∃ ys,H5 D=some (.lst ys)/\ys.length<aM/\N τ2 (upd H5 D (.lst (ys ++ [v]))) else N τ2 H4)
variable {tt:TT} {te:TE} {Q:VK}
theorem WU:
  JV ts wi g tt te σ H Q=wi σ H (fun J H1=>∀ D,H1 D=none->Mc J g tt te D Q (clr ts σ) (upd H1 D (.lst []))):=rfl
theorem FQ (Pv:Nat->St->Hp->Prop)(h0:Pv 0 σ H)(hl:∀ i σ H,i<=xs.length->Pv i σ H->SqL K H a xs)
  (hs:∀ i x p σ H,xs[i]?=some x->H p=none->Pv i σ H->g (.ref p) σ (upd H p (.tup [.int i,x])) fun σ2 H2=>tb { D with nx:=Pv (i+1),ct:=Pv (i+1),bk:=D.nx } σ2 H2) (hd:∀ σ H,Pv xs.length σ H->D.nx σ H):L6 (Ite K a) g tb D σ H:=W3 Pv h0 hl hs hd
theorem Pn1_ {α:Type}{p:List α->Prop}(f:∀ a,p [a]):∀ us:List α,us.length=1->p us
 | [_],_=>f _
theorem Pn2_ {α:Type}{p:List α->Prop}(f:∀ a b,p [a,b]):∀ us:List α,us.length=2->p us
 | [_,_],_=>f _ _
theorem Pn3_ {α:Type}{p:List α->Prop}(f:∀ a b c,p [a,b,c]):∀ us:List α,us.length=3->p us
 | [_,_,_],_=>f _ _ _
theorem Pn4_ {α:Type}{p:List α->Prop}(f:∀ a b c d,p [a,b,c,d]):∀ us:List α,us.length=4->p us
 | [_,_,_,_],_=>f _ _ _ _
noncomputable def Jj_:Expr->Option Int
 | .Constant (.int i) _ _=>some i
 | _=>none
noncomputable def Ka:List Expr->Option (List Int)
 | []=>some []
 | e :: r=>match Jj_ e with
  | some i=>(Ka r).map (i :: ·)
  | none=>none
noncomputable def GW (is:List Int):TA:=fun _ H Q=>Q (is.map V.int) H
theorem Ye {X:Cx}:∀ {es:List Expr} {is:List Int},Ka es=some is->PA X es (GW is)
 | [],is,h=>by
  cases (show some []=some is from h)
  exact zb
 | e :: r,is,h=>by
  unfold Ka at h
  split at h
  ·rename_i i hi
   obtain ⟨js,e',rfl⟩:=dA.mp h
   unfold Jj_ at hi
   split at hi
   ·cases hi;exact za (te:=tC (.int i)) zf (Ye e')
   ·cases hi
  ·cases h
theorem yS:jT X (.type "int") (fun xs H Q=>∃ k,xs=[.bl k]/\Q (.int (if k then 1 else 0)) H):=by
 intro pins s σ H xs us Q I r h
 exact Y4 pins s σ H xs us Q I r (.inr h)
variable {b:au}
theorem Bx.mono {N M:Nat}(h:Bx H b N)(le:N<=M):Bx H b M:=let ⟨x,y,z,h1,h2,h3,h4,h5,h6⟩:=h;⟨x,y,z,h1,h2,h3,h4,h5,by omega⟩
variable {o:HO}
theorem Bx.new {N:Nat} (h:Bx H b N)(hp:H p=none):Bx (upd H p o) b N:=let ⟨x,y,z,h1,r⟩:=h;⟨x,y,z,(zk (zo h1 hp)).trans h1,r⟩
def vp (n:Nat)(ns:List Int):Prop:=ns.length=n/\ns.Nodup/\∀ x ∈ ns,0<=x/\x<(n:Int)
variable {n i:Nat} {ns:List Int}
theorem vp.getD (h:vp n ns) (hi:i<n):0<=ns.getD i 0/\ns.getD i 0<n:=by
 obtain ⟨l,d,b⟩:=h
 have hi':i<ns.length:=by omega
 have e:ns.getD i 0=ns[i]:=by rw [ay,am hi'];rfl
 rw [e]
 exact b _ (bq hi')
theorem Yy (h:i<ns.length):ns.getD i 0=ns[i]:=by rw [ay,am h];rfl
variable {j:Nat}
theorem vp.inj (h:vp n ns) (hi:i<n)(hj:j<n)(e:ns.getD i 0=ns.getD j 0):i=j:=by
 obtain ⟨l,d,b⟩:=h
 rw [Yy (by omega),Yy (by omega)] at e
 exact (lV d).mp e
theorem DQ {v:Int}(h:i<ns.length):(ns.set i v).getD j 0=if j=i then v else ns.getD j 0:=by
 rw [ay,cb]
 by_cases e:i=j
 ·subst e;simp [h]
 ·rw [if_neg e,if_neg (Ne.symm e),ay]
noncomputable def K3:V->V->V->Hp->(Hp->Prop)->Prop:=fun o i v H Q=>∃ k,i=.int k/\∃ p,o=.ref p/\∃ xs,H p=some (.lst xs)/\∃ j,ixN xs.length k=some j/\Q (upd H p (.lst (xs.set j v)))
section
variable {X:Cx}
theorem kE:MtR X "list.append" vL:=Zo
theorem ji {k:Nat}{t:TGs}{pos:Pos} (n:Nat)(h:X.K=K)(hc:X.calm=true)(hs:PGs X es t)(hn:(ft es X.env).length=n:=by rfl)(hst:(ft es X.env).findIdx? (·.1)=none:=by rfl):PG X (.Tuple es k pos) (J9 K n t):=h ▸ Iy hc hs hn hst
theorem zJ:W6 X K3:=by
 intro pins s σ H o i v ov iv u Q I ro ri rv h
 obtain ⟨k,e1,p,e2,xs,h1,j,h2,q⟩:=h
 exact WZ pins s σ H o i v ov iv u Q I ro ri rv ⟨p,xs,k,j,e2,e1,h1,h2,q⟩
end
def D5 (os bs:List Int):Prop:=bs.length=os.length/\∀ i,i<os.length->bs.getD (os.getD i 0).toNat 0=(i:Int)
section
variable {X:Cx}
noncomputable def XO (K:ax):R2:=fun x y H Q=>∃ p xs i v,x=.ref p/\y=.int i/\(SqL K H p xs \/ SqT K H p xs)/\atI xs i=some v/\Q v H
theorem zD:IxR X (XO X.K):=by
 intro value slice pins s σ H x y v u Q I rx ry h hs
 obtain ⟨p,xs,i,z,e1,e2,hq | hq,he,q⟩:=h
 ·exact qK value slice pins s σ H x y v u Q I rx ry ⟨p,xs,i,z,e1,e2,hq,he,q⟩ hs
 ·exact Kj value slice pins s σ H x y v u Q I rx ry ⟨p,xs,i,z,e1,e2,hq,he,q⟩ hs
theorem ZU (h:X.K=K):IxR X (XO K):=h ▸ zD
theorem KG:bI "all"=some (.builtin "all"):=by decide +kernel
theorem v9:∀ {bs:List Bool} {us:List aj},zF (bs.map V.bl) us->us=bs.map aj.bool
 | [],_,h=>by cases h;rfl
 | b :: bs,_,h=>by
  cases h with
  | cons r rs=>cases r;rw [v9 rs];rfl
theorem K7 (bs:List Bool):((bW bs.length).all fun i=>(bs[i]?).getD true)=bs.all id:=by
 rw [fh,d7,d7]
 constructor
 ·intro h x hx
  obtain ⟨i,hi,rfl⟩:=List.getElem_of_mem hx
  have:=h i (by simpa using hi)
  simpa [am hi] using this
 ·intro h i hi
  have hi':i<bs.length:=by simpa using hi
  simpa [am hi'] using h bs[i] (bq hi')
theorem va (hc:X.calm=true):jT X (.builtin "all") (fun xs H Q=>∃ p bs,xs=[.ref p]/\SqL X.K H p (cf V.bl bs)/\Q (.bl (bs.all id)) H):=by
  intro pins s σ H xs us Q I r h
  obtain ⟨p,bs,rfl,hq,q⟩:=h
  obtain ⟨u,rfl,rx⟩:=xw r
  cases rx
  obtain ⟨its,rv,pl,hz⟩:=I.list hq
  have hu:=v9 rv
  subst hu
  have hlt:p<s.heap.objs.size:=by obtain ⟨_,e,_⟩:=pl.isList;exact aG e
  refine call_all_walk (wpAny_pyIter_list pl.isList ?_)
  refine ⟨s.heap.objs.size,[s.heap.objs.size,p],[s.heap.objs.size],(bs.map aj.bool).toArray.size,_,_,fun i=>(bs[i]?).getD true,rfl,Walks.list (A:=X.A.in1) (I.ok.hd hc) _ p (bp hlt) (bs.map aj.bool).toArray,
    ⟨⟨_,aW _ rfl,rfl,rfl⟩,pl.isList.push _⟩,fun i v s' Q' E' hP hQ=>?_,fun h' tk hk=>?_⟩
  · have hP':(bs.map aj.bool)[i]?=some v:=by simpa using hP
    rw [aE] at hP'
    cases e:bs[i]? with
    | none=>rw [e] at hP';cases hP'
    | some b=>
      rw [e] at hP'
      cases hP'
      simp only [e,Option.getD_some] at hQ
      exact cP hQ
  · have e : ((bW (bs.map aj.bool).toArray.size).all fun i => (bs[i]?).getD true) = bs.all id := by
      rw [aH,aq];exact K7 bs
    rw [e]
    refine ⟨.bl (bs.all id),H,I.turnedL (ch:=[]) (tk:=tk) (fun b hb=>nomatch hb) (fun b o _ eb=>?_),rfl,q⟩
    exact hk b o (fun hm=>by rw [cI.mp hm] at eb;exact cW _ (aG eb)) (az _ eb)
end
section
variable {P:aS}{w:bo}{A:aZ}{E:aj->aw->Prop}{s:aw}{j t:au}{i:Nat}{its:Array aj}{Q:aj->aw->Prop}
theorem kO {x:aj}(hj:s.heap.IsTupleIter j t i)(ht:s.heap.IsTuple t its)(hx:its[i]?=some x)(hQ:∀ h',h'.IsTupleIter j t (i+1)->bU j s.heap h'->Q x { s with heap:=h' }):aO (aN P w) A (bY (.ref j)) Q E s:=by
 obtain ⟨o,ho,hc,hd⟩:=id hj
 obtain ⟨ot,hot,_,nt,hdt⟩:=ht
 unfold bY
 refine ap (cL (name:=af "__next__") hj.typeIs F.slot_tuple_iterator_next (d6 F.slot_tuple_iterator_next hj.typeIs F.entry_tuple_iterator_next ?_ (F.args_tuple_iterator_next_1 _)))
 refine ap (m:=iS (.ref j) 0) (bS ho hd (x:=.ref t) rfl ?_);show aO _ _ (if (aj.ref t == aj.none)=true then _ else _) _ _ s;rw [if_neg (show ¬ ((aj.ref t == aj.none)=true) from bf)]
 refine ap (m:=iS (.ref j) 1) (bS ho hd (x:=.int i 0) rfl ?_);refine ap (m:=mf (.ref t)) (d8 hot hdt ?_);simp only [bz,hx]
 refine ap (dH ho hd (by simp) (aL ⟨x,rfl,aL (hQ _ ⟨_,bJ _ ho (cD (ci hd _)),(Obj.cls_mapFields ..).trans hc,by rw [ci hd];simp [fA]⟩ (bU.update ..))⟩))
theorem xk (hh:A.handled=none)(hj:s.heap.IsTupleIter j t i)(ht:s.heap.IsTuple t its)(hx:its[i]?=none)(hE:∀ h' e,Heap.ExtBut j s.heap h'->(∃ o,h'.get? e=some o/\o.cls=.type "StopIteration")->E (.ref e) { s with heap:=h' }):aO (aN P w) A (bY (.ref j)) Q E s:=by
 obtain ⟨o,ho,hc,hd⟩:=id hj
 obtain ⟨ot,hot,_,nt,hdt⟩:=ht
 unfold bY
 refine ap (cL (name:=af "__next__") hj.typeIs F.slot_tuple_iterator_next (d6 F.slot_tuple_iterator_next hj.typeIs F.entry_tuple_iterator_next ?_ (F.args_tuple_iterator_next_1 _)))
 refine ap (m:=iS (.ref j) 0) (bS ho hd (x:=.ref t) rfl ?_);show aO _ _ (if (aj.ref t == aj.none)=true then _ else _) _ _ s;rw [if_neg (show ¬ ((aj.ref t == aj.none)=true) from bf)]
 refine ap (m:=iS (.ref j) 1) (bS ho hd (x:=.int i 0) rfl ?_);refine ap (m:=mf (.ref t)) (d8 hot hdt ?_);simp only [bz,hx]
 refine ap (lq (ap (dH ho hd (by simp) ?_)));refine ap (m:=newExc (.type "StopIteration") []) ?_;simp only [newExc,newTuple];refine ap (cQ ?_ (by size_fits));refine ap (m:=firstArgMember _ _) (wpAny_of_eq (a:=aj.none) (by first | rfl | (simp only [firstArgMember];rfl)) ?_);refine cQ ?_ (by size_fits);simp only [raiseNew];refine ap (wpAny_handled ?_)
 (first | rw [show A.in1.handled=none from hh] | rw [hh]);refine ap (aL (wpAny_throw ?_));exact hE _ _ (((bU.update ..).extBut.push _).push _) ⟨_,aW _ rfl,rfl⟩
end
theorem Vv (hh:A.handled=none)(j t:au)(hne:t ≠ j)(its:Array aj) :
  Draws P w A j [j,t] its.size (fun i v=>its[i]?=some v) (fun i h=>h.IsTupleIter j t i/\h.IsTuple t its) where
 live:=fun _ _ st=>let ⟨o,ho,_⟩:=st.1;⟨o,ho⟩
 frame:=fun _ _ _ st hk=>⟨st.1.at fun o e=>hk j (by simp) o e,let ⟨o,ho,r⟩:=st.2;⟨o,hk t (by simp) o ho,r⟩⟩
 item:=fun i s Q E hi st hQ=>by
  refine kO st.1 st.2 (x:=its[i]) (by simp [hi]) fun h' hit' hs'=>?_
  exact hQ _ h' s.toks (by simp [hi]) ⟨hit',let ⟨o,ho,r⟩:=st.2;⟨o,(hs'.2 t hne).trans ho,r⟩⟩ hs'
 done:=fun s Q E st hE=>xk hh st.1 st.2 (by simp) hE
open AutoSeq1 (wpAny_loadPart') in
theorem VZ (l:au)(its:Array aj)(n:Nat)(dct:Option au)(sl:Array (Option aj)) :
  Meets (Builtin.«enumerate.__new__» ⟨[.type "enumerate",.ref l],[]⟩) (fun _ R s=>s.heap.get? l=some { cls:=.type "tuple",dict:=dct,data:=.seq its n,slots:=sl }/\R (.ok (.ret (.ref (s.heap.push { cls:=.type "tuple_iterator",data:=.fields #[.ref l,.int 0 0] }).objs.size))) { s with heap:=(s.heap.push { cls:=.type "tuple_iterator",data:=.fields #[.ref l,.int 0 0] }).push { cls:=.type "enumerate",data:=.fields #[.none,.bool false,.ref s.heap.objs.size,fA 0,.none,.none] } }):=
 .of_wp fun prog w A R s h=>by
  obtain ⟨hp,g,d,tk,os⟩:=s
  obtain ⟨hl,h⟩:=h
  have hsub:=sub_enumerate
  have hT:lN (aw.heap ⟨hp,g,d,tk,os⟩) l its:=⟨_,hl,rfl,n,rfl⟩
  wp_walk using cG hl
  refine wpAny_stack_any fun st=>aL ?_
  split
  ·rename_i c _ _ _ _ _
   cases (c == aj.type "enumerate")
   ·wp_walk using cG hl,dI hT;exact ⟨_,rfl,h⟩
   ·wp_walk using cG hl,dI hT;exact ⟨_,rfl,h⟩
  ·wp_walk using cG hl,dI hT;exact ⟨_,rfl,h⟩
variable {its:Array aj}
theorem K8 {E:aj->aw->Prop} {l:au} {Q:aj->aw->Prop}(hT:s.heap.IsTuple l its)
  (h:∀ h',IsEnum h' (s.heap.objs.size+1) s.heap.objs.size 0 .none->h'.IsTupleIter s.heap.objs.size l 0->(∀ b o,s.heap.get? b=some o->h'.get? b=some o)->Q (.ref (s.heap.objs.size+1)) { s with heap:=h' }) :
  aO (aN P w) A (call (.type "enumerate") [.ref l]) Q E s:=by
 obtain ⟨⟨c,dct,dt,sl⟩,hl,hc,n,hd⟩:=hT
 replace hc:c=.type "tuple":=hc
 replace hd:dt=.seq its n:=hd
 subst hc hd
 refine callType_new F.called_enumerate (by decide) (F.typeCall_enumerate_1 _) (F.newCall_enumerate_1 _) (fun obj=>F.args_object_init_2 obj _) F.entry_enumerate_new (VZ l its n dct sl) ⟨hl,?_⟩
 have hz:(s.heap.push { cls:=.type "tuple_iterator",data:=.fields #[.ref l,.int 0 0] }).objs.size=s.heap.objs.size+1:=dh ..
 show _/\_
 rw [hz]
 have he:IsEnum ((s.heap.push { cls:=.type "tuple_iterator",data:=.fields #[.ref l,.int 0 0] }).push { cls:=.type "enumerate",data:=.fields #[.none,.bool false,.ref s.heap.objs.size,fA 0,.none,.none] }) (s.heap.objs.size+1) s.heap.objs.size 0 .none:=by
  have hg:=aW (s.heap.push { cls:=.type "tuple_iterator",data:=.fields #[.ref l,.int 0 0] }) (o:={ cls:=.type "enumerate",data:=.fields #[.none,.bool false,.ref s.heap.objs.size,fA 0,.none,.none] }) rfl
  rw [hz] at hg;exact hg
 exact ⟨⟨_,he,rfl⟩,h _ he ⟨_,az _ (aW _ rfl),rfl,rfl⟩ fun b o x=>az _ (az _ x)⟩
theorem Va {E:aj->aw->Prop} {e j t:au} {old:aj}{Q:Option aj->aw->Prop}(hh:A.handled=none)
  (he:IsEnum s.heap e j i old) (hj:s.heap.IsTupleIter j t i) (ht:s.heap.IsTuple t its) (hx:its[i]?=none) (hQ:∀ h',Heap.ExtBut j s.heap h'->Q none { s with heap:=h' }):aO (aN P w) A (iI (.ref e)) Q E s:=by
 have hT:s.TypeIs (.ref e) "enumerate":=⟨_,he,rfl⟩
 unfold iI
 refine ap (lg (cL (name:=af "__next__") hT F.slot_enumerate_next (d6 F.slot_enumerate_next hT F.entry_enumerate_next ?_ (F.args_enumerate_next_1 _))))
 refine ap (m:=iS (.ref e) 2) (bS he rfl (x:=.ref j) rfl ?_);refine ap (xk hh hj ht hx fun h' x he' hx'=>?_)
 obtain ⟨o,ho,hc⟩:=hx'
 refine ap (wpAny_isInstance (T:="StopIteration") (b:=true) ⟨o,ho,hc⟩ isSubtype_stop ?_);exact aL (hQ _ he')
noncomputable def LA (K:ax)(a:au):It:=
 ⟨fun i H=>∃ xs x,SqT K H a xs/\xs[i]?=some x,fun i H y H'=>∃ p x,H p=none/\y=.ref p/\(∀ xs,SqT K H a xs->xs[i]?=some x)/\H'=upd H p (.tup [.int i,x]),fun i H=>∃ xs,SqT K H a xs/\xs.length<=i⟩
theorem Xg (a e it:au)(hei:e ≠ it)(hea:e ≠ a)(hai:a ≠ it):Q3 P w K (.Tuple es kt tp) (LA K a) [e,it] e (fun i h=>(∃ old,IsEnum h e it (i:Nat) old)/\h.IsTupleIter it a i) where
 mem:=by simp
 obj:=fun i h st b hb=>by
  obtain ⟨⟨old,he⟩,⟨o,e1,c,d⟩⟩:=st
  rcases aA.mp hb with rfl | hb
  ·exact ⟨_,he,fun v z=>by have z':dB _=fu v:=z;cases z'⟩
  ·have e2:b=it:=by simpa using hb
   subst e2
   exact ⟨o,e1,fun v z=>by rw [d] at z;cases z⟩
 keep:=fun i h h' st k=>by
  obtain ⟨⟨old,he⟩,st⟩:=st
  exact ⟨⟨old,k e (by simp) _ he⟩,st.at fun o e=>k it (by simp) o e⟩
 item:=by
  intro X hP hw hK hc i pins s σ H E I hf st hg
  subst hP hw hK
  obtain ⟨⟨old,he⟩,st⟩:=st
  obtain ⟨xs,x,hq,hx⟩:=hg
  obtain ⟨its,rv,p,hz⟩:=I.tuple hq
  obtain ⟨u,hu,ru⟩:=rv.get hx
  have hlt:i<its.toArray.size:=by
   have:=(aD.mp hu).1
   simpa using this
  refine wpAny_pyNext_enum_itemD (Vv (A:=X.A.in1) (I.ok.hd hc) it a hai its.toArray) he ⟨st,p⟩ hlt hei (by simp [hei,hea]) fun x' h1 tk hP heo hit1 ht1 hz1 hk1=>?_
  have hxu:x'=u:=by
   have h1':its[i]?=some x':=by simpa using hP
   rw [hu] at h1';cases h1';rfl
  subst hxu
  refine ⟨.ref s.heap.objs.size,rfl,gD heo fun h2 he2 hs2=>?_⟩
  replace hs2:bU e h1 h2:=hs2
  have elt:e<s.heap.objs.size:=aG he
  have ht2:=(hs2.2 _ (dP elt)).trans ht1
  have I2:Inv X pins σ (upd H s.heap.objs.size (.tup [.int i,x])) { s with heap:=h2,toks:=tk+1 }:=by
   refine I.yieldTup (us:=[.int i tk,x']) hf (fun b o hb q=>?_) (aJ _) ht2 (.cons ⟨_,rfl⟩ (.cons ru .nil)) (by show 2<=aM;decide)
   have n1:b ≠ e:=fun z=>hb (by simp [z])
   have n2:b ≠ it:=fun z=>hb (by simp [z])
   exact (hs2.2 b n1).trans (hk1 b o n1 n2 q)
  refine ⟨.ref s.heap.objs.size,_,I2,rfl,⟨s.heap.objs.size,x,I.hok.fresh (aJ _),rfl,fun ys hy=>by rw [I.tuple_inj hy hq];exact hx,rfl⟩,⟨⟨_,by simpa using he2⟩,hit1.1.extBut hs2.extBut (Ne.symm hei)⟩,fun b hb=>?_⟩
  have hlt:b<s.heap.objs.size:=by
   rcases aA.mp hb with rfl | hb
   ·exact elt
   ·have e2:b=it:=by simpa using hb
    subst e2
    obtain ⟨o,e1,_⟩:=st
    exact aG e1
  rw [zk (bp hlt)]
  exact (hf b hb).1
 done:=by
  intro X hP hw hK hc i pins s σ H E I hf st hg
  subst hP hw hK
  obtain ⟨⟨old,he⟩,st⟩:=st
  obtain ⟨xs,hq,hx⟩:=hg
  obtain ⟨its,rv,p,hz⟩:=I.tuple hq
  obtain ⟨f0,f1,f2,f3,f4,f5⟩:=hf it (by simp)
  have hl:=rv.length
  exact Va (I.ok.hd hc) he st p (by simp;omega) fun h' eb=>⟨rfl,I.turned (t':=s.toks) (fun b o hb e=>eb b o hb e) f0 f1 f3 f4 f5⟩
 self:=fun _ _ _ _ _ st h=>by
  obtain ⟨⟨old,he⟩,_⟩:=st
  exact eE he h
section
variable {X:Cx}{es:List Expr}{kt:Nat}{tp:Pos}
noncomputable def yr (K:ax)(ta:TA):TI:=fun σ H R=>ta σ H fun vs H1=>∃ a,vs=[.ref a]/\(((∃ xs,SqL K H1 a xs)/\R (Ite K a) H1) \/ ((∃ xs,SqT K H1 a xs)/\R (LA K a) H1))
theorem yW {e:Expr}{ta:TA}{p pos:Pos}(hg:Gl X "enumerate")(hm:X.mg "enumerate"=none)(ha:PA X [e] ta)(hs:aQ [e] X.env=[(false,eval e X.env)]:=by rfl) :
  PI X (.Tuple es kt tp) (.Call (.Name "enumerate" p) [e] [] pos) (yr X.K ta):=by
 intro pins s σ H R I h
 refine Call_ (yh I hg hm (wN) (cO (thn (ha pos pins s σ H _ I h) fun us s1 ⟨vs,H1,I1,r1,q1⟩=>?_) hs rfl))
 obtain ⟨a,e,q⟩:=q1
 subst e
 obtain ⟨u,rfl,ru⟩:=xw r1
 cases ru
 have hb':∀ b ∈ [s1.heap.objs.size+1,s1.heap.objs.size],s1.heap.objs.size<=b:=by
  intro b hb
  simp only [aA,aK,or_false] at hb
  omega
 rcases q with ⟨⟨xs,hq⟩,q⟩ | ⟨⟨xs,hq⟩,q⟩
 ·obtain ⟨its,rv,pl,hz⟩:=I1.list hq
  refine call_enumerate_list pl.isList fun h' he hit hsz hk=>eE he ?_
  have I2:Inv X pins σ H1 { s1 with heap:=h' }:=I1.kept (t':=s1.toks) hk
  exact ⟨s1.heap.objs.size+1,[s1.heap.objs.size+1,s1.heap.objs.size],_,_,H1,rfl,I2,Zh a _ _ (hR _),⟨⟨_,he⟩,hit⟩,fun b hb=>I1.fpOk (hb' b hb) (I1.hok.fresh (hb' b hb)),q⟩
 ·obtain ⟨its,rv,pl,hz⟩:=I1.tuple hq
  have alt:a<s1.heap.objs.size:=by obtain ⟨o,e,_⟩:=pl;exact aG e
  refine K8 pl fun h' he hit hk=>eE he ?_
  have I2:Inv X pins σ H1 { s1 with heap:=h' }:=I1.kept (t':=s1.toks) hk
  exact ⟨s1.heap.objs.size+1,[s1.heap.objs.size+1,s1.heap.objs.size],_,_,H1,rfl,I2,Xg a (s1.heap.objs.size+1) s1.heap.objs.size (hR _) (dP (lM alt)) (bp alt),⟨⟨_,he⟩,hit⟩,fun b hb=>I1.fpOk (hb' b hb) (I1.hok.fresh (hb' b hb)),q⟩
end
def MR (r:R2):Prop:=∀ x y H Q Q',(∀ z H1,Q z H1->Q' z H1)->r x y H Q->r x y H Q'
noncomputable def iLT (K:ax)(tl:TE):TI:=fun σ H R=>tl σ H fun x H1=>∃ a,x=.ref a/\(((∃ xs,SqL K H1 a xs)/\R (Itl K a) H1) \/ ((∃ xs,SqT K H1 a xs)/\R (Itt K a) H1))
theorem wL {tg:Expr}{l:Expr}{tl:TE}(hl:PE X l tl):PI X tg l (iLT X.K tl):=by
 intro pins s σ H R I h
 refine thn (hl pins s σ H _ I h) fun v s1 ⟨x,H1,I1,r1,q1⟩=>?_
 obtain ⟨a,e,q⟩:=q1
 subst e
 cases r1
 have fo:∀ b ∈ [s1.heap.objs.size],vI X pins H1 b:=fun b hb=>by
  have e:b=s1.heap.objs.size:=by simpa using hb
  subst e
  exact I1.fpOk (aJ _) (I1.hok.fresh (aJ _))
 rcases q with ⟨⟨xs,hq⟩,q⟩ | ⟨⟨xs,hq⟩,q⟩
 ·obtain ⟨its,rv,p,hz⟩:=I1.list hq
  refine wpAny_pyIter_list p.isList ?_
  exact ⟨s1.heap.objs.size,[s1.heap.objs.size],_,_,H1,rfl,I1.kept (t':=s1.toks) fun b o e=>az _ e,Vb a _,⟨_,aW _ rfl,rfl,rfl⟩,fo,q⟩
 ·obtain ⟨its,rv,p,hz⟩:=I1.tuple hq
  refine dI (show s1.heap.IsTuple a its.toArray from p) ?_
  exact ⟨s1.heap.objs.size,[s1.heap.objs.size],_,_,H1,rfl,I1.kept (t':=s1.toks) fun b o e=>az _ e,J1 a _,⟨_,aW _ rfl,rfl,rfl⟩,fo,q⟩
section
variable {X:Cx}
end
section
variable {X:Cx}
end
section
variable {prog:aS}{w:bo}{A:aZ}{R:lW->aw->Prop}{s:aw}
end
def CL (J:It)(g:TG)(tt:TT)(tr:St->Hp->(St->Hp->Prop)->Prop)(N:St->Hp->Prop)(σ:St)(H:Hp):Prop:=∃ W:Nat->Nat->St->Hp->Prop,(∃ m,W 0 m σ H)/\∀ i m τ H2,W i m τ H2 ->
 (J.stop i H2/\N τ H2) \/ (J.go i H2/\∃ N1:St->Hp->Prop,(∀ τ' H',N1 τ' H'->∃ m',m'<m/\W (i+1) m' τ' H')/\∀ x H',J.yld i H2 x H'->g x τ H' fun τ2 H3=>tt τ2 H3 fun b H4=>
  if b=true then tr τ2 H4 N1 else N1 τ2 H4)
abbrev TR:=St->Hp->(St->Hp->Prop)->Prop
noncomputable def Ks (te:TE)(D:au):TR:=fun σ H N=>te σ H fun v H5=>∃ ys,H5 D=some (.lst ys)/\ys.length<aM/\N σ (upd H5 D (.lst (ys ++ [v])))
noncomputable def LG (wi:TI)(g:TG)(tt:TT)(tr:au->TR)(D:au):TR:=fun σ H N=>wi σ H fun J H1=>CL J g tt (tr D) N σ H1
section
variable {C:Cx}{elt tg iter:Expr}{ifs:List Expr}{gens:List fY}{scope:Scope}{pos:Pos}{d:Nat}{D:au}{g:TG}{tt:TT}{te:TE}{tr:TR}
end
noncomputable def AM (ts:List Nat)(wi:TI)(g:TG)(tt:TT)(tr:au->TR):TE:=fun σ H Q=>wi σ H fun J H1=>∀ D,H1 D=none->CL J g tt (tr D) (fun _ H2=>Q (.ref D) H2) (clr ts σ) (upd H1 D (.lst []))
section
variable {X:Cx}{ts:List Nat}{scope:Scope}{tg iter elt:Expr}{ifs:List Expr}{qM:List fY}{wi:TI}{g:TG}{tt:TT}{tr:au->TR}{pos:Pos}
end
theorem V8 {tr:au->TR}:
  AM ts wi g tt tr σ H Q=wi σ H (fun J H1=>∀ D,H1 D=none->CL J g tt (tr D) (fun _ H2=>Q (.ref D) H2) (clr ts σ) (upd H1 D (.lst []))):=rfl
theorem YU {tr:au->TR}{D:au} {N:St->Hp->Prop}:LG wi g tt tr D σ H N=wi σ H (fun J H1=>CL J g tt (tr D) N σ H1):=rfl
theorem YW {D:au} {N:St->Hp->Prop}:Ks te D σ H N=te σ H (fun v H5=>∃ ys,H5 D=some (.lst ys)/\ys.length<aM/\N σ (upd H5 D (.lst (ys ++ [v])))):=rfl
section
variable {P:aS}{w:bo}{A:aZ}{E:aj->aw->Prop}{it l:au}{items:Array aj}
end
section
variable {X:Cx}{pos:Pos}
end
noncomputable def rep (o:Nat)(G:List Int):List Int:=(bW (o * G.length)).map fun (i:Nat)=>((i / G.length * G.length:Nat):Int)+G.getD (i % G.length) 0
section
variable {P:aS}{w:bo}{A:aZ}{E:aj->aw->Prop}{s:aw}{z TI TO i1 i2 l1 l2:au}{k:Nat}{xs ys:Array aj}{x y a b:aj}{Q:Option aj->aw->Prop}
theorem YY (D:ZipApart z TI TO i1 i2 l1 l2)(hz:IsZip s.heap z TI TO .none)(hTI:fK s.heap TI (.ref i1) (.ref i2))(hTO:fK s.heap TO a b)(h1:s.heap.IsTupleIter i1 l1 k)(h2:s.heap.IsTupleIter i2 l2 k)(p1:s.heap.IsTuple l1 xs)(p2:s.heap.IsTuple l2 ys)(hx:xs[k]?=some x)(hy:ys[k]?=some y)
  (hQ:∀ h',IsZip h' z TI TO (fA s.heap.objs.size)->fK h' TO x y->h'.IsTupleIter i1 l1 (k+1)->h'.IsTupleIter i2 l2 (k+1)->fK h' s.heap.objs.size x y->h'.objs.size=s.heap.objs.size+1->(∀ c o,c ≠ z->c ≠ TO->c ≠ i1->c ≠ i2->s.heap.get? c=some o->h'.get? c=some o)->Q (some (.ref s.heap.objs.size)) { s with heap:=h' }) :
  aO (aN P w) A (iI (.ref z)) Q E s:=by
 have hT:s.TypeIs (.ref z) "zip":=⟨_,hz,rfl⟩
 unfold iI
 refine ap (lg (cL (name:=af "__next__") hT F.slot_zip_next (d6 F.slot_zip_next hT F.entry_zip_next ?_ (F.args_zip_next_1 _))))
 refine ap (m:=iS (.ref z) 2) (bS hz rfl (x:=.bool false) rfl ?_)
 refine ap (m:=iS (.ref z) 3) (bS hz rfl (x:=.ref TI) rfl ?_)
 refine ap (m:=mf (.ref TI)) (d8 hTI rfl ?_)
 refine ap (m:=cF (.ref z)) ?_
 unfold cF
 refine ap (bS hz rfl (x:=.none) rfl (aL ?_))
 refine ap (m:=rule "zip.__next__.owned-tuple-again") (lq ?_)
 refine ap (m:=iS (.ref z) 4) (bS hz rfl (x:=.ref TO) rfl ?_)
 refine ap (m:=setField (.ref z) 0 .ellipsis) (dH hz rfl (by simp) ?_)
 have sb1:=bU.update s.heap z (bC fun x_1=>x_1.setIfInBounds 0 aj.ellipsis)
 have g1:(s.heap.update z (bC fun x_1=>x_1.setIfInBounds 0 aj.ellipsis)).get? z=some { cls:=aj.type "zip",data:=dB #[.ellipsis,aj.bool false,aj.bool false,aj.ref TI,aj.ref TO] }:=bJ _ hz (cD (ci rfl _))
 generalize s.heap.update z (bC fun x_1=>x_1.setIfInBounds 0 aj.ellipsis)=h1' at *
 refine ap ?_
 rw [show (#[aj.ref i1,aj.ref i2].toList.zipIdx:List (aj × Nat))=[(.ref i1,0),(.ref i2,1)] from rfl,gk]
 dsimp only
 have it1:h1'.IsTupleIter i1 l1 k:=by obtain ⟨o,ho,r⟩:=h1;exact ⟨o,(sb1.2 i1 D.i1z).trans ho,r⟩
 have tp1:h1'.IsTuple l1 xs:=by obtain ⟨o,ho,r⟩:=p1;exact ⟨o,(sb1.2 l1 D.l1z).trans ho,r⟩
 refine ap (ap (lh ?_))
 show aO _ _ (bY (.ref i1) >>= fun v=>pure (some v)) _ _ _
 refine ap (kO it1 tp1 hx fun h2' it2 sb2=>aL ?_)
 dsimp only
 have gTO2:fK h2' TO a b:=((sb2.2 TO D.TOi1).trans (sb1.2 TO D.TOz)).trans hTO
 refine ap (d8 gTO2 rfl ?_)
 dsimp only
 refine ap (wpAny_updateSeq_pair gTO2 fun h3' g3 sb3=>?_)
 refine ap (wpAny_letGo (aL ?_))
 dsimp only
 have g3':fK h3' TO x b:=g3
 have it3:h3'.IsTupleIter i2 l2 k:=by obtain ⟨o,ho,r⟩:=h2;exact ⟨o,(((sb3.2 i2 (Ne.symm D.TOi2)).trans (sb2.2 i2 (Ne.symm D.i12))).trans (sb1.2 i2 D.i2z)).trans ho,r⟩
 have tp3:h3'.IsTuple l2 ys:=by obtain ⟨o,ho,r⟩:=p2;exact ⟨o,(((sb3.2 l2 D.l2TO).trans (sb2.2 l2 D.l2i1)).trans (sb1.2 l2 D.l2z)).trans ho,r⟩
 rw [gk]
 refine ap (ap (lh ?_))
 show aO _ _ (bY (.ref i2) >>= fun v=>pure (some v)) _ _ _
 refine ap (kO it3 tp3 hy fun h4' it4 sb4=>aL ?_)
 dsimp only
 have gTO4:fK h4' TO x b:=(sb4.2 TO D.TOi2).trans g3'
 refine ap (d8 gTO4 rfl ?_)
 dsimp only
 refine ap (wpAny_updateSeq_pair gTO4 fun h5' g5 sb5=>?_)
 refine ap (wpAny_letGo (aL ?_))
 dsimp only
 have g5':fK h5' TO x y:=g5
 rw [List.forIn_nil]
 refine aL ?_
 dsimp only
 refine ap (d8 g5' rfl ?_)
 dsimp only
 have sz5:h5'.objs.size=s.heap.objs.size:=((((sb5.1).trans sb4.1).trans sb3.1).trans sb2.1).trans sb1.1
 refine ap (wpAny_newTuple ?_ (by show 2<=aM;decide))
 have gz5:h5'.get? z=some { cls:=aj.type "zip",data:=dB #[.ellipsis,aj.bool false,aj.bool false,aj.ref TI,aj.ref TO] }:=((((sb5.2 z (Ne.symm D.TOz)).trans (sb4.2 z (Ne.symm D.i2z))).trans (sb3.2 z (Ne.symm D.TOz))).trans (sb2.2 z (Ne.symm D.i1z))).trans g1
 have zlt:z<h5'.objs.size:=aG gz5
 have g6:(h5'.push { cls:=aj.type "tuple",data:=eM #[x,y] }).get? z=_:=az _ gz5
 have n6:(h5'.push { cls:=aj.type "tuple",data:=eM #[x,y] }).get? h5'.objs.size=some { cls:=aj.type "tuple",data:=eM #[x,y] }:=aW _ rfl
 have ex6:∀ c o,h5'.get? c=some o->(h5'.push { cls:=aj.type "tuple",data:=eM #[x,y] }).get? c=some o:=fun c o e=>az _ e
 have sz6:(h5'.push { cls:=aj.type "tuple",data:=eM #[x,y] }).objs.size=h5'.objs.size+1:=dh ..
 show aO _ _ (e8 (.ref z) (.ref h5'.objs.size) >>= _) _ _ { s with heap:=h5'.push { cls:=aj.type "tuple",data:=eM #[x,y] } }
 generalize h5'.push { cls:=aj.type "tuple",data:=eM #[x,y] }=h6' at *
 unfold e8
 refine ap (ap (dH g6 rfl (by simp) (dH (bJ _ g6 (cD (ci rfl _))) rfl (by simp) ?_)))
 have sb7:=bU.update h6' z (bC fun x_1=>x_1.setIfInBounds 0 (fA h5'.objs.size))
 have g7:(h6'.update z (bC fun x_1=>x_1.setIfInBounds 0 (fA h5'.objs.size))).get? z=some { cls:=aj.type "zip",data:=dB #[fA h5'.objs.size,aj.bool false,aj.bool false,aj.ref TI,aj.ref TO] }:=bJ _ g6 (cD (ci rfl _))
 dsimp only
 generalize h6'.update z (bC fun x_1=>x_1.setIfInBounds 0 (fA h5'.objs.size))=h7' at *
 have sb8:=bU.update h7' z (bC fun x_1=>x_1.setIfInBounds 1 (aj.bool false))
 have g8:(h7'.update z (bC fun x_1=>x_1.setIfInBounds 1 (aj.bool false))).get? z=some { cls:=aj.type "zip",data:=dB #[fA h5'.objs.size,aj.bool false,aj.bool false,aj.ref TI,aj.ref TO] }:=bJ _ g7 (cD (ci rfl _))
 generalize h7'.update z (bC fun x_1=>x_1.setIfInBounds 1 (aj.bool false))=h8' at *
 have far:∀ c o,c ≠ z->h6'.get? c=some o->h8'.get? c=some o:=fun c o hc e=>((sb8.2 c hc).trans (sb7.2 c hc)).trans e
 refine aL ⟨_,rfl,aL ?_⟩
 rw [sz5] at g8 n6 sz6 zlt ⊢
 refine hQ h8' g8 (far _ _ D.TOz (ex6 _ _ g5')) ?_ ?_ (far _ _ (dP zlt) n6) (by rw [sb8.1,sb7.1,sz6]) fun c o c1 c2 c3 c4 e=>?_
 ·obtain ⟨o,ho,r⟩:=it2
  exact ⟨o,far _ _ D.i1z (ex6 _ _ (((sb5.2 i1 (Ne.symm D.TOi1)).trans (sb4.2 i1 D.i12)).trans ((sb3.2 i1 (Ne.symm D.TOi1)).trans ho))),r⟩
 ·obtain ⟨o,ho,r⟩:=it4
  exact ⟨o,far _ _ D.i2z (ex6 _ _ ((sb5.2 i2 (Ne.symm D.TOi2)).trans ho)),r⟩
 ·exact far _ _ c1 (ex6 _ _ ((sb5.2 c c2).trans ((sb4.2 c c4).trans ((sb3.2 c c2).trans ((sb2.2 c c3).trans ((sb1.2 c c1).trans e))))))
theorem BJ (hh:A.handled=none)(D:ZipApart z TI TO i1 i2 l1 l2)(hz:IsZip s.heap z TI TO .none)(hTI:fK s.heap TI (.ref i1) (.ref i2))(h1:s.heap.IsTupleIter i1 l1 k)(p1:s.heap.IsTuple l1 xs)(hx:xs[k]?=none)
  (hQ:∀ h',(∀ c o,c ≠ z->c ≠ TO->c ≠ i1->c ≠ i2->s.heap.get? c=some o->h'.get? c=some o)->Q none { s with heap:=h' }):aO (aN P w) A (iI (.ref z)) Q E s:=by
 have hT:s.TypeIs (.ref z) "zip":=⟨_,hz,rfl⟩
 unfold iI
 refine ap (lg (cL (name:=af "__next__") hT F.slot_zip_next (d6 F.slot_zip_next hT F.entry_zip_next ?_ (F.args_zip_next_1 _))))
 refine ap (m:=iS (.ref z) 2) (bS hz rfl (x:=.bool false) rfl ?_)
 refine ap (m:=iS (.ref z) 3) (bS hz rfl (x:=.ref TI) rfl ?_)
 refine ap (m:=mf (.ref TI)) (d8 hTI rfl ?_)
 refine ap (m:=cF (.ref z)) ?_
 unfold cF
 refine ap (bS hz rfl (x:=.none) rfl (aL ?_))
 refine ap (m:=rule "zip.__next__.owned-tuple-again") (lq ?_)
 refine ap (m:=iS (.ref z) 4) (bS hz rfl (x:=.ref TO) rfl ?_)
 refine ap (m:=setField (.ref z) 0 .ellipsis) (dH hz rfl (by simp) ?_)
 have sb1:=bU.update s.heap z (bC fun x_1=>x_1.setIfInBounds 0 aj.ellipsis)
 have g1:(s.heap.update z (bC fun x_1=>x_1.setIfInBounds 0 aj.ellipsis)).get? z=some { cls:=aj.type "zip",data:=dB #[.ellipsis,aj.bool false,aj.bool false,aj.ref TI,aj.ref TO] }:=bJ _ hz (cD (ci rfl _))
 generalize s.heap.update z (bC fun x_1=>x_1.setIfInBounds 0 aj.ellipsis)=h1' at *
 refine ap ?_
 rw [show (#[aj.ref i1,aj.ref i2].toList.zipIdx:List (aj × Nat))=[(.ref i1,0),(.ref i2,1)] from rfl,gk]
 dsimp only
 have it1:h1'.IsTupleIter i1 l1 k:=by obtain ⟨o,ho,r⟩:=h1;exact ⟨o,(sb1.2 i1 D.i1z).trans ho,r⟩
 have tp1:h1'.IsTuple l1 xs:=by obtain ⟨o,ho,r⟩:=p1;exact ⟨o,(sb1.2 l1 D.l1z).trans ho,r⟩
 refine ap (ap (lh ?_))
 show aO _ _ (bY (.ref i1) >>= fun v=>pure (some v)) _ _ _
 refine ap (xk (by first | exact hh | (show A.in1.handled=none;exact hh)) it1 tp1 hx fun h2' e ex2 ⟨oe,hoe,hce⟩=>?_)
 have gz2:h2'.get? z=some { cls:=aj.type "zip",data:=dB #[.ellipsis,aj.bool false,aj.bool false,aj.ref TI,aj.ref TO] }:=ex2 z _ (Ne.symm D.i1z) g1
 have hez:e ≠ z:=by
  intro h
  subst h
  have hoe':h2'.get? e=some oe:=hoe
  rw [gz2] at hoe'
  cases hoe'
  exact absurd (show aj.type "zip"=aj.type "StopIteration" from hce) (by decide)
 refine dH gz2 rfl (by simp) ?_
 have sb3:=bU.update h2' z (bC fun x_1=>x_1.setIfInBounds 0 aj.none)
 dsimp only
 generalize h2'.update z (bC fun x_1=>x_1.setIfInBounds 0 aj.none)=h3' at *
 refine ap (wpAny_isInstance (T:="StopIteration") (b:=true) ⟨oe,(sb3.2 e hez).trans hoe,hce⟩ isSubtype_stop ?_)
 refine aL (hQ h3' fun c o c1 c2 c3 c4 ec=>?_)
 exact (sb3.2 c c1).trans (ex2 c o c3 ((sb1.2 c c1).trans ec))
end
open AutoSeq1 (wpAny_loadPart') in
theorem D9 (l1 l2:au)(xs ys:Array aj)(n1 n2:Nat)(d1 d2:Option au)(s1 s2:Array (Option aj)) :
  Meets (Builtin.«zip.__new__» ⟨[.type "zip",.ref l1,.ref l2],[]⟩) (fun _ R s=>s.heap.get? l1=some { cls:=.type "tuple",dict:=d1,data:=.seq xs n1,slots:=s1 }/\s.heap.get? l2=some { cls:=.type "tuple",dict:=d2,data:=.seq ys n2,slots:=s2 } /\
   ∀ g1 g2 g3 g4 g5,g1=s.heap.push { cls:=.type "tuple_iterator",data:=.fields #[.ref l1,.int 0 0] }->g2=g1.push { cls:=.type "tuple_iterator",data:=.fields #[.ref l2,.int 0 0] }->g3=g2.push { cls:=.type "tuple",data:=.seq #[.ref s.heap.objs.size,.ref g1.objs.size] }->g4=g3.push { cls:=.type "tuple",data:=.seq #[.none,.none] }->g5=g4.push { cls:=.type "zip",data:=.fields #[.none,.bool false,.bool false,.ref g2.objs.size,.ref g3.objs.size] }->R (.ok (.ret (.ref g4.objs.size))) { s with heap:=g5 }):=
 .of_wp fun prog w A R s h=>by
  obtain ⟨hp,g,d,tk,os⟩:=s
  obtain ⟨hl1,hl2,h⟩:=h
  have hT1:lN (aw.heap ⟨hp,g,d,tk,os⟩) l1 xs:=⟨_,hl1,rfl,n1,rfl⟩
  have hT2:lN (hp.push { cls:=.type "tuple_iterator",data:=.fields #[.ref l1,.int 0 0] }) l2 ys:=⟨_,az _ hl2,rfl,n2,rfl⟩
  have hsub:isSubtype (aj.type "zip") (aj.type "zip")=pure true:=by first | exact sub_zip | rfl
  wp_walk using cG hl1,dI hT1,dI hT2
  exact ⟨_,rfl,h _ _ _ _ _ rfl rfl rfl rfl rfl⟩
theorem Y8 {E:aj->aw->Prop} {l1 l2:au}{xs ys:Array aj}{Q:aj->aw->Prop}(hT1:s.heap.IsTuple l1 xs)(hT2:s.heap.IsTuple l2 ys)
  (h:∀ h',IsZip h' (s.heap.objs.size+4) (s.heap.objs.size+2) (s.heap.objs.size+3) .none->fK h' (s.heap.objs.size+2) (.ref s.heap.objs.size) (.ref (s.heap.objs.size+1))->fK h' (s.heap.objs.size+3) .none .none->h'.IsTupleIter s.heap.objs.size l1 0->h'.IsTupleIter (s.heap.objs.size+1) l2 0->(∀ b o,s.heap.get? b=some o->h'.get? b=some o)->Q (.ref (s.heap.objs.size+4)) { s with heap:=h' }) :
  aO (aN P w) A (call (.type "zip") [.ref l1,.ref l2]) Q E s:=by
 obtain ⟨⟨c1,d1,dt1,sl1⟩,hl1,hc1,n1,hd1⟩:=hT1
 replace hc1:c1=.type "tuple":=hc1
 replace hd1:dt1=.seq xs n1:=hd1
 subst hc1 hd1
 obtain ⟨⟨c2,d2,dt2,sl2⟩,hl2,hc2,n2,hd2⟩:=hT2
 replace hc2:c2=.type "tuple":=hc2
 replace hd2:dt2=.seq ys n2:=hd2
 subst hc2 hd2
 refine callType_new F.called_zip (by decide) (F.typeCall_zip_2 _ _) (F.newCall_zip_2 _ _) (fun obj=>F.args_object_init_3 obj _ _) F.entry_zip_new (D9 l1 l2 xs ys n1 n2 d1 d2 sl1 sl2) ⟨hl1,hl2,?_⟩
 intro g1 g2 g3 g4 g5 e1 e2 e3 e4 e5
 have z1:g1.objs.size=s.heap.objs.size+1:=by rw [e1,dh]
 have z2:g2.objs.size=s.heap.objs.size+2:=by rw [e2,dh,z1]
 have z3:g3.objs.size=s.heap.objs.size+3:=by rw [e3,dh,z2]
 have z4:g4.objs.size=s.heap.objs.size+4:=by rw [e4,dh,z3]
 have k1:∀ b o,s.heap.get? b=some o->g1.get? b=some o:=fun b o x=>by rw [e1];exact az _ x
 have k2:∀ b o,g1.get? b=some o->g2.get? b=some o:=fun b o x=>by rw [e2];exact az _ x
 have k3:∀ b o,g2.get? b=some o->g3.get? b=some o:=fun b o x=>by rw [e3];exact az _ x
 have k4:∀ b o,g3.get? b=some o->g4.get? b=some o:=fun b o x=>by rw [e4];exact az _ x
 have k5:∀ b o,g4.get? b=some o->g5.get? b=some o:=fun b o x=>by rw [e5];exact az _ x
 have p1:g1.get? s.heap.objs.size=some { cls:=.type "tuple_iterator",data:=.fields #[.ref l1,.int 0 0] }:=by rw [e1];exact aW _ rfl
 have p2:g2.get? (s.heap.objs.size+1)=some { cls:=.type "tuple_iterator",data:=.fields #[.ref l2,.int 0 0] }:=by
  have:=aW g1 (o:={ cls:=.type "tuple_iterator",data:=.fields #[.ref l2,.int 0 0] }) rfl
  rw [z1] at this;rw [e2];exact this
 have p3:g3.get? (s.heap.objs.size+2)=some { cls:=.type "tuple",data:=.seq #[.ref s.heap.objs.size,.ref (s.heap.objs.size+1)] }:=by
  have:=aW g2 (o:={ cls:=.type "tuple",data:=.seq #[.ref s.heap.objs.size,.ref g1.objs.size] }) rfl
  rw [z2] at this;rw [e3,this,z1]
 have p4:g4.get? (s.heap.objs.size+3)=some { cls:=.type "tuple",data:=.seq #[.none,.none] }:=by
  have:=aW g3 (o:={ cls:=.type "tuple",data:=.seq #[.none,.none] }) rfl
  rw [z3] at this;rw [e4,this]
 have p5:g5.get? (s.heap.objs.size+4)=some { cls:=.type "zip",data:=.fields #[.none,.bool false,.bool false,.ref (s.heap.objs.size+2),.ref (s.heap.objs.size+3)] }:=by
  have:=aW g4 (o:={ cls:=.type "zip",data:=.fields #[.none,.bool false,.bool false,.ref g2.objs.size,.ref g3.objs.size] }) rfl
  rw [z4] at this;rw [e5,this,z2,z3]
 show _/\_
 rw [z4]
 exact ⟨⟨_,p5,rfl⟩,h _ p5 (k5 _ _ (k4 _ _ p3)) (k5 _ _ p4) ⟨_,k5 _ _ (k4 _ _ (k3 _ _ (k2 _ _ p1))),rfl,rfl⟩ ⟨_,k5 _ _ (k4 _ _ (k3 _ _ p2)),rfl,rfl⟩ fun b o x=>k5 _ _ (k4 _ _ (k3 _ _ (k2 _ _ (k1 _ _ x))))⟩
noncomputable def IH (K:ax)(a b:au):It:=
 ⟨fun i H=>∃ xs ys x y,SqT K H a xs/\SqT K H b ys/\xs[i]?=some x/\ys[i]?=some y,fun i H z H'=>∃ p x y,H p=none/\z=.ref p/\(∀ xs,SqT K H a xs->xs[i]?=some x)/\(∀ ys,SqT K H b ys->ys[i]?=some y)/\H'=upd H p (.tup [x,y]),
  fun i H=>∃ xs,SqT K H a xs/\xs.length<=i⟩
theorem VI (l1 l2 z TI TO i1 i2:au)(D:ZipApart z TI TO i1 i2 l1 l2) :
  Q3 P w K (.Tuple es kt tp) (IH K l1 l2) [z,TI,TO,i1,i2] z (fun i h=>IsZip h z TI TO .none/\fK h TI (.ref i1) (.ref i2)/\(∃ a b,fK h TO a b)/\h.IsTupleIter i1 l1 i/\h.IsTupleIter i2 l2 i) where
 mem:=by simp
 obj:=fun i h st b hb=>by
  obtain ⟨hz,hTI,⟨a,c,hTO⟩,⟨o1,e1,c1,d1⟩,⟨o2,e2,c2,d2⟩⟩:=st
  simp only [aA,aK,or_false] at hb
  rcases hb with rfl | rfl | rfl | rfl | rfl
  ·exact ⟨_,hz,fun v q=>by have q':dB _=fu v:=q;cases q'⟩
  ·exact ⟨_,hTI,fun v q=>by have q':eM _ _=fu v:=q;cases q'⟩
  ·exact ⟨_,hTO,fun v q=>by have q':eM _ _=fu v:=q;cases q'⟩
  ·exact ⟨o1,e1,fun v q=>by rw [d1] at q;cases q⟩
  ·exact ⟨o2,e2,fun v q=>by rw [d2] at q;cases q⟩
 keep:=fun i h h' st k=>by
  obtain ⟨hz,hTI,⟨a,c,hTO⟩,h1,h2⟩:=st
  exact ⟨k _ (by simp) _ hz,k _ (by simp) _ hTI,⟨a,c,k _ (by simp) _ hTO⟩,h1.at fun o e=>k _ (by simp) o e,h2.at fun o e=>k _ (by simp) o e⟩
 item:=by
  intro X hP hw hK hc i pins s σ H E I hf st hg
  subst hP hw hK
  obtain ⟨hz,hTI,⟨a,c,hTO⟩,h1,h2⟩:=st
  obtain ⟨xs,ys,x,y,hq1,hq2,hx,hy⟩:=hg
  obtain ⟨its1,rv1,p1,hz1⟩:=I.tuple hq1
  obtain ⟨its2,rv2,p2,hz2⟩:=I.tuple hq2
  obtain ⟨u,hu,ru⟩:=rv1.get hx
  obtain ⟨v,hv,rvv⟩:=rv2.get hy
  refine YY D hz hTI hTO h1 h2 p1 p2 (x:=u) (y:=v) (by simpa using hu) (by simpa using hv) fun g1 b1 b2 b3 b4 b5 b6 hk=>?_
  refine ⟨.ref s.heap.objs.size,rfl,gI b1 fun g2 hz2' hs2=>?_⟩
  replace hs2:bU z g1 g2:=hs2
  have zlt:z<s.heap.objs.size:=aG hz
  have I2:Inv X pins σ (upd H s.heap.objs.size (.tup [x,y])) { s with heap:=g2,toks:=s.toks }:=by
   refine I.yieldTup (us:=[u,v]) hf (fun b o hb e=>?_) (aJ _) ((hs2.2 _ (dP zlt)).trans b5) (.cons ru (.cons rvv .nil)) (by show 2<=aM;decide)
   simp only [aA,aK,or_false,not_or] at hb
   exact (hs2.2 b hb.1).trans (hk b o hb.1 hb.2.2.1 hb.2.2.2.1 hb.2.2.2.2 e)
  refine ⟨.ref s.heap.objs.size,_,I2,rfl,⟨s.heap.objs.size,x,y,I.hok.fresh (aJ _),rfl,fun xs' h'=>by rw [I.tuple_inj h' hq1];exact hx,fun ys' h'=>by rw [I.tuple_inj h' hq2];exact hy,rfl⟩,
   ⟨hz2',(hs2.2 _ D.TIz).trans (hk _ _ D.TIz D.TITO D.TIi1 D.TIi2 hTI),⟨_,_,(hs2.2 _ D.TOz).trans b2⟩,b3.extBut hs2.extBut D.i1z,b4.extBut hs2.extBut D.i2z⟩,fun b hb=>?_⟩
  have hlt:b<s.heap.objs.size:=by
   simp only [aA,aK,or_false] at hb
   rcases hb with rfl | rfl | rfl | rfl | rfl
   ·exact zlt
   ·exact aG hTI
   ·exact aG hTO
   ·obtain ⟨o,e,_⟩:=h1;exact aG e
   ·obtain ⟨o,e,_⟩:=h2;exact aG e
  rw [zk (bp hlt)]
  exact (hf b hb).1
 done:=by
  intro X hP hw hK hc i pins s σ H E I hf st hg
  subst hP hw hK
  obtain ⟨hz,hTI,⟨a,c,hTO⟩,h1,h2⟩:=st
  obtain ⟨xs,hq1,hend⟩:=hg
  obtain ⟨its1,rv1,p1,hz1⟩:=I.tuple hq1
  have l1:=rv1.length
  refine BJ (I.ok.hd hc) D hz hTI h1 p1 (by simp;omega) fun h' hk=>⟨rfl,I.turnedL (tk:=s.toks) hf fun b o hb e=>?_⟩
  simp only [aA,aK,or_false,not_or] at hb
  exact hk b o hb.1 hb.2.2.1 hb.2.2.2.1 hb.2.2.2.2 e
 self:=fun _ _ _ _ _ st h=>fQ st.1 h
section
variable {X:Cx}{es:List Expr}{kt:Nat}{tp:Pos}
noncomputable def KB (K:ax)(ta:TA):TI:=fun σ H R=>ta σ H fun vs H1=>∃ a b,vs=[.ref a,.ref b]/\(((∃ xs,SqL K H1 a xs)/\(∃ ys,SqL K H1 b ys)/\R (Itz K a b) H1) \/ ((∃ xs,SqT K H1 a xs)/\(∃ ys,SqT K H1 b ys)/\R (IH K a b) H1))
theorem Dk {e1 e2:Expr}{ta:TA}{p pos:Pos}(hg:Gl X "zip")(hm:X.mg "zip"=none)(ha:PA X [e1,e2] ta)(hs:aQ [e1,e2] X.env=[(false,eval e1 X.env),(false,eval e2 X.env)]:=by rfl)(hs2:aQ [e2] X.env=[(false,eval e2 X.env)]:=by rfl) :
  PI X (.Tuple es kt tp) (.Call (.Name "zip" p) [e1,e2] [] pos) (KB X.K ta):=by
 intro pins s σ H R I h
 refine Call_ (yh I hg hm V4 (cO (thn (ha pos pins s σ H _ I h) fun us s1 ⟨vs,H1,I1,r1,q1⟩=>?_) (by rw [hs,hs2]) (by rw [hs2];rfl)))
 obtain ⟨a,b,e,q1⟩:=q1
 subst e
 obtain ⟨u,v,rfl,ru,rv⟩:=QT r1
 cases ru
 cases rv
 rcases q1 with ⟨⟨xs,hq1⟩,⟨ys,hq2⟩,q⟩ | ⟨⟨xs,hq1⟩,⟨ys,hq2⟩,q⟩
 ·obtain ⟨its1,rv1,p1,hz1⟩:=I1.list hq1
  obtain ⟨its2,rv2,p2,hz2⟩:=I1.list hq2
  have la:a<s1.heap.objs.size:=by obtain ⟨o,e,_⟩:=p1.isList;exact aG e
  have lb:b<s1.heap.objs.size:=by obtain ⟨o,e,_⟩:=p2.isList;exact aG e
  refine call_zip_2 p1.isList p2.isList fun h' b1 b2 b3 b4 b5 hsz hk=>fQ b1 ?_
  have I2:Inv X pins σ H1 { s1 with heap:=h' }:=I1.kept (t':=s1.toks) hk
  refine ⟨s1.heap.objs.size+4,[s1.heap.objs.size+4,s1.heap.objs.size+2,s1.heap.objs.size+3,s1.heap.objs.size,s1.heap.objs.size+1],_,_,H1,rfl,I2,A4 a b _ _ _ _ _ (zipApart_new la lb),⟨b1,b2,⟨_,_,b3⟩,b4,b5⟩,fun c hb=>?_,q⟩
  have hb':s1.heap.objs.size<=c:=by
   simp only [aA,aK,or_false] at hb
   rcases hb with rfl | rfl | rfl | rfl | rfl <;> first | exact aJ _ | exact mh _ _
  exact I1.fpOk hb' (I1.hok.fresh hb')
 ·obtain ⟨its1,rv1,p1,hz1⟩:=I1.tuple hq1
  obtain ⟨its2,rv2,p2,hz2⟩:=I1.tuple hq2
  have la:a<s1.heap.objs.size:=by obtain ⟨o,e,_⟩:=p1;exact aG e
  have lb:b<s1.heap.objs.size:=by obtain ⟨o,e,_⟩:=p2;exact aG e
  refine Y8 p1 p2 fun h' b1 b2 b3 b4 b5 hk=>fQ b1 ?_
  have I2:Inv X pins σ H1 { s1 with heap:=h' }:=I1.kept (t':=s1.toks) hk
  refine ⟨s1.heap.objs.size+4,[s1.heap.objs.size+4,s1.heap.objs.size+2,s1.heap.objs.size+3,s1.heap.objs.size,s1.heap.objs.size+1],_,_,H1,rfl,I2,VI a b _ _ _ _ _ (zipApart_new la lb),⟨b1,b2,⟨_,_,b3⟩,b4,b5⟩,fun c hb=>?_,q⟩
  have hb':s1.heap.objs.size<=c:=by
   simp only [aA,aK,or_false] at hb
   rcases hb with rfl | rfl | rfl | rfl | rfl <;> first | exact aJ _ | exact mh _ _
  exact I1.fpOk hb' (I1.hok.fresh hb')
end
section
variable {X:Cx}{e st:Expr}{te:TE}{lo hi:Option Expr}{tl th ts:TO}{p2 pos:Pos}
end
noncomputable def KS:V->List V->Hp->VK->Prop:=fun x vs H Q=>∃ l ns i j,x=.ref l/\vs=[.int i]/\H l=some (il ns)/\j<ns.length/\ns.getD j 0=i/\(∀ m,m<j->ns.getD m 0 ≠ i)/\Q (.int (j:Nat)) H
section
variable {X:Cx}
theorem Wd:MtR X "list.index" KS:=by
 intro pins s σ H x vs v us Q I rx rv h
 obtain ⟨l,ns,i,j,rfl,rfl,hH,hj,hji,hm,q⟩:=h
 cases rx
 obtain ⟨u,rfl,⟨t,rfl⟩⟩:=rv.one
 obtain ⟨z,its,n,r,hl,e⟩:=I.lstM hH
 have hlen:=r.length
 rw [aq] at hlen
 have hsz:aM<2 ^ 62:=by rw [cg];decide
 have item:∀ m (hmm:m<its.length),∃ tm,its[m]=aj.int (ns.getD m 0) tm:=fun m hmm=>by
  have e1:(ns.map V.int)[m]?=some (.int (ns.getD m 0)):=by
   rw [aE,ay,am (by omega)];rfl
  obtain ⟨u,hu,⟨tm,ru⟩⟩:=r.get e1
  have:=(aD.mp hu).2
  exact ⟨tm,by rw [this];exact ru⟩
 have fl:(ns.map V.int).all xL=true:=by
  rw [d7]
  intro x hx
  obtain ⟨k,_,rfl⟩:=br.mp hx
  rfl
 refine ik F.slot_list_index ⟨_,e,rfl⟩ F.entry_list_index (F.args_list_index_2 _ _) (SeqAt.list_indexAt l its.toArray n none _ (.int i t) (eqU (.int i)) j (by rw [aH];omega) (by omega) ?_ ?_) ⟨e,?_,?_⟩
 ·obtain ⟨tm,em⟩:=item j (by omega)
  rw [iT,em,hji]
  show (i == i)=true
  simp
 ·intro m hmm hmj
  obtain ⟨tm,em⟩:=item m (by rw [aH] at hmm;exact hmm)
  rw [iT,em]
  show (ns.getD m 0 == i)=false
  simpa using hm m hmj
 ·intro y hy
  exact kz (x:=.int i) ⟨t,rfl⟩ rfl r fl y (by simpa using hy)
 ·exact ⟨.int (j:Nat),H,I.kept (t':=s.toks+1) fun b o e=>e,⟨_,rfl⟩,q⟩
variable {o e:Expr}{es:List Expr}{to:TE}{t:TA}{name:Str}{apos cpos:Pos}{T id:String}{r:V->List V->Hp->VK->Prop}{K:ax}
theorem IT (hK:X.K=K)(pa:PlainAttrs T)(slot:Slot T name id)(hty:typeOf (.builtin id)=pure (.type "method_descriptor"))(hm:MtR X id r)(ho:PE X o to)(ha:PA X (e :: es) t)
  (h1:dS o name X.env (eval o X.env)=eval o X.env:=by rfl)
  (h2:((ca cpos (aQ (e :: es) X.env)).all (fun x=>!x.1) && (fc cpos (dC [] X.env)).all (fun x=>x.1.isSome) && decide ((e :: es).length+([]:List gQ).length+(if ([]:List gQ).isEmpty then 0 else 1)<30))=true:=by rfl)
  (h3:(apos.endLine == cpos.line)=true:=by rfl) (h4:aQ (e :: es) X.env=(false,eval e X.env) :: aQ es X.env:=by rfl) (h5:(ca cpos (aQ es X.env)).any (·.1)=false:=by rfl) :
  PE X (.Call (.Attribute o name apos) (e :: es) [] cpos) (tBM K T r to t):=by
 subst hK
 exact vZ pa slot hty hm ho ha h1 h2 h3 h4 h5
end
section
variable {X:Cx}{tg:Expr}
end
inductive Dd where
 | take (p:Nat) | move (p g:Nat) | lay (g:Nat)
abbrev RS:=List (Option Int) × Option Int × List Int
noncomputable def inc (mv:List Int)(x:Int):List Int:=mv.set x.toNat (mv.getD x.toNat 0+1)
inductive Do:Dd->RS->RS->Prop
 | take {p:Nat} {row:List (Option Int)} {mv:List Int} {x:Int}:row[p]?=some (some x)->Do (.take p) (row,none,mv) (row.set p none,some x,inc mv x)
 | move {p g:Nat} {row:List (Option Int)} {h:Option Int} {mv:List Int} {x:Int}:row[p]?=some (some x)->row[g]?=some none->Do (.move p g) (row,h,mv) ((row.set p none).set g (some x),h,inc mv x)
 | lay {g:Nat} {row:List (Option Int)} {mv:List Int} {x:Int}:row[g]?=some none->Do (.lay g) (row,some x,mv) (row.set g (some x),none,inc mv x)
inductive Dos:List Dd->RS->RS->Prop
 | nil {s:RS}:Dos [] s s
 | cons {d:Dd} {l:List Dd} {s t u:RS}:Do d s t->Dos l t u->Dos (d :: l) s u
section
variable {X:Cx}{K:ax}
end
section
variable {X:Cx}
end
section
variable {X:Cx}
end
section
variable {X:Cx}{e st:Expr}{te:TE}{ts:TO}{p2 pos:Pos}
end
section
variable {X:Cx}
end
def AtM (K:ax)(C:au)(m qual:Str)(st:cw):Prop:=∃ f fd,Fun K m qual st f fd/\Xh K C m f
def Dm (P:aS)(w:bo)(K:ax)(mg:Str->Option aj)(base:Heap)(C:au)(m:Str)(ps:List Str)(k:Nat)(sp:Sp):Prop:=
 ∃ f fd,jA P w K mg base CX0 k f fd ps sp/\jv K fd ps []/\Xh K C m f
variable {C:au} {m:Str}
theorem Dm.mono {j k:Nat} (D:Dm P w K mg base C m ps j sp)(h:j<=k):Dm P w K mg base C m ps k sp:=
 let ⟨f,fd,F,r⟩:=D
 ⟨f,fd,F.mono h,r⟩
theorem Iw {k:Nat} (a:AtM K C m qual st)(S:zu N ps (zg st))
  (hb:∀ (kV doc pm:aj) (an:Option au) (cdv ct:aj) (us:List aj),us.length=ps.length->eJ (bO m qual (qv st) (zM st) (zg st) .none kV doc pm an cdv ct) ⟨us,[]⟩=pure (ps.zip us))
  (len:∀ vs H Q E,sp vs H Q E->vs.length=ps.length)
  (hbody:∀ (f:au) (cdv:aj) (A:aZ) (outer:List Env) (s:aw) (H:Hp) (vs:List V) (Q:VK) (E:XK),qt k (A.deeper (eZ qual (zg st) s.heap.objs.size f cdv))->sp vs H Q E ->
   ∃ t,PSs (jM CX0 P w K mg base N qual (zg st) f cdv A outer s H E).nox (zM st) t/\t { nx:=fun _ H'=>Q .non H',rt:=Q } (qJ N vs) H):Dm P w K mg base C m ps (k+1) sp:=by
 obtain ⟨f,fd,F,mt⟩:=a
 exact ⟨f,fd,F.ok S len fun cdv A outer s H vs Q E=>hbody f cdv A outer s H vs Q E,F.binds hb,mt⟩
section
variable {X:Cx}{k:Nat}{C:au}{m x:Str}{ps:List Str}{sp:Sp}{p pos apos:Pos}{o e:Expr}{es:List Expr}{t:TA}{to:TE}
variable {pl:Sem Bool}
theorem Nl (c:Cls X.K C)(D:Dm X.prog X.w X.K X.mg X.base C m ps k sp)(hr:qt k X.A)(ho:PE X o to)(ha:PA X (e :: es) t)
  (hst:aQ (e :: es) X.env=(false,eval e X.env) :: aQ es X.env:=by rfl) (hpl:(ca pos (aQ es X.env)).any (·.1)=false:=by rfl)
  (ht:eval (.Call (.Attribute o m apos) (e :: es) [] pos) X.env=(do
   let ov <- eval o X.env
   h8 apos.atName
   let (f,first) <- holding [ov] (getMethod ov m pl)
   gc pos f first (ca pos (aQ (e :: es) X.env)) (fc pos (dC [] X.env))):=by rfl) :
  PE X (.Call (.Attribute o m apos) (e :: es) [] pos) (Zz C m sp [] E0 to t):=by
 obtain ⟨f,fd,F,b,mt⟩:=D
 exact Fz ho c mt F hr b .nil Yb ha hst hpl ht
theorem jV (c:Cls X.K C)(D:Dm X.prog X.w X.K X.mg X.base C m ps k sp)(hr:qt k X.A)(ho:PE X o to)
  (ht:eval (.Call (.Attribute o m apos) [] [] pos) X.env=(do
   let ov <- eval o X.env
   h8 apos.atName
   let (f,first) <- holding [ov] (getMethod ov m pl)
   gc pos f first (ca pos (aQ [] X.env)) (fc pos (dC [] X.env))):=by rfl) :
  PE X (.Call (.Attribute o m apos) [] [] pos) (Zz C m sp [] E0 to VX):=by
 obtain ⟨f,fd,F,b,mt⟩:=D
 exact WI ho c mt F hr b .nil Yb ht
def Mkr (P:aS)(w:bo)(K:ax)(mg:Str->Option aj)(base:Heap)(x:Str)(C:au)(ps:List Str)(k:Nat)(sp:Sp):Prop:=
 ∃ f fd,jA P w K mg base CX0 k f fd ps sp/\jv K fd ps []/\Mk K C f/\mg x=some (.ref C)
theorem DD (D:Mkr X.prog X.w X.K X.mg X.base x C ps k sp)(hr:qt (k+1) X.A)(hg:Gl X x)(ha:PA X (e :: es) t)(hdb:(x == ("__debug__":Str))=false:=by decide)
  (he:aQ (e :: es) X.env=(false,eval e X.env) :: aQ es X.env:=by rfl) (hpl:(ca pos (aQ es X.env)).any (·.1)=false:=by rfl):PE X (.Call (.Name x p) (e :: es) [] pos) (Yq C sp [] E0 t):=by
 obtain ⟨f,fd,F,b,M,hm⟩:=D
 exact EE M F hr hg hm b .nil Yb ha hdb he hpl
end
structure KD (K:ax)(w:bo)(a:au)(kvs:List (Key × V)):Prop where
 ex:∃ es ep,K.lookup a=some ⟨.type "dict",none,.dict es ep,#[]⟩/\∀ P:aS,PySem.KeysOf (qk P w) es/\∃ vs,KV kvs vs/\Pairs (qk P w) es.toList vs/\(vs.map (·.1)).Nodup
 ns:(a == dq)=false
variable {pins:List (au × Obj)}
theorem KD.at {kvs:List (Key × V)}(d:KD X.K X.w a kvs)(I:Inv X pins σ H s):∃ vs,KV kvs vs/\s.heap.DictOf (qk X.prog X.w) a vs:=by
 obtain ⟨es,ep,hl,h⟩:=d.ex
 obtain ⟨h1,vs,r,h2,h3⟩:=h X.prog
 exact ⟨vs,r,_,es,ep,I.kIn a _ hl,⟨rfl,rfl,rfl⟩,rfl,h1,h2,h3⟩
noncomputable def Bk (kvs:List (Key × V))(ty:TE):TE:=fun σ H Q=>ty σ H fun y H2=>∃ k,y=kV k/\Q ((xu kvs k).getD .non) H2
section
variable {X:Cx}{e:Expr}{ty:TE}{p apos cpos:Pos}{x:Str}{a:au}{kvs:List (Key × V)}
theorem EX (d:KD X.K X.w a kvs)(hg:Gl X x)(hm:X.mg x=some (.ref a))(he:PE X e ty)(m:M1 X (.Name x p) "get" apos e cpos)(hdb:(x == ("__debug__":Str))=false:=by decide):PE X (.Call (.Attribute (.Name x p) "get" apos) [e] [] cpos) (Bk kvs ty):=by
 intro pins s σ H Q I h
 refine wpAny_Call_method m.base m.few m.line hU iF PySem.F.type_dict_get (j4 I hg hm ?_ hdb)
 obtain ⟨vs0,_,dd0⟩:=d.at I
 refine ⟨dd0.typeIs,fun b q=>?_,?_⟩
 ·cases q
  obtain ⟨ob,_,_,h1,h2,_⟩:=dd0
  exact ⟨ob,h1,h2.2.1⟩
 rw [m.trees]
 refine ii rfl (eL (Calls.spliced_cons (thn (he pins s σ H _ I h) fun iv s2 ⟨y,H2,I2,ry,k,ey,q2⟩=>Calls.spliced_nil ?_)))
 subst ey
 obtain ⟨vs,rel,dd⟩:=d.at I2
 refine call_meetsIn iF dd.typeIs PySem.F.entry_dict_get (PySem.F.args_dict_get_2 _ _) (meets_dict_get (qk X.prog X.w) a (Q0 ry) d.ns) ⟨_,dd.mapOf,?_⟩
 refine ⟨(xu kvs k).getD .non,H2,I2.tok _,?_,q2⟩
 exact (rel.val k).getD rfl
end
section
variable {X:Cx}
theorem xT:LM X (FU X.K):=by
  intro pins s σ H x y v u Q I rx ry h
  obtain ⟨p,xs,i,z,rfl,rfl,hq,he,q⟩:=h
  cases rx
  obtain ⟨t,rfl⟩:=ry
  obtain ⟨its,r,pl,hz⟩:=I.list hq
  obtain ⟨j,h1,h2,h3,h4,h5⟩:=ZL he
  obtain ⟨w,ew,rw'⟩:=r.get h2
  have hl:=r.length
  have hn:=wU
  have fin:EP X pins σ Q w s:=⟨z,H,I,rw',q⟩
  by_cases h0:0<=i
  · have hj : i.toNat = j := by
      rw [iP h0 h5] at h1
      exact bP h1
    exact wpAny_getItem_list pl.isList h0 (by omega) (by rw [hj];simpa using ew) fin
  · have hj : (i + (its.toArray.size : Int)).toNat = j := by
      rw [ic (by omega) h4] at h1
      rw [aH,<- hl]
      exact bP h1
    exact ie pl.isList (by omega) (by rw [aH] <;> omega) (by omega) (by rw [hj];simpa using ew) fin
end
theorem atm_mk {oc kV dc pm cd ct:aj} {sl:Array (Option aj)}(a1:bt K (.ref C) m=some (some (.ref f)))(i1:cZ K (.ref f)=true)
  (l1:K.lookup f=some ⟨oc,od,.func (bO m qual (qv st) (zM st) (zg st) .none kV dc pm an cd ct),sl⟩) (c1:eK K cd qual=true) (k1:cR K (.ref f)=true):AtM K C m qual st:=⟨f,_,fun_mk l1 c1 k1,⟨a1,i1,k1⟩⟩
section
variable {X:Cx}
end
structure ScG (X:Cx)(ts:List Nat)(scope:Scope):Prop where
 kind:scope.kind=.function
 cell:∀ y ∈ scope.names,y.2=.cell->scope.names.lookup y.1=some .cell
 loc:∀ y ∈ scope.names,y.2=.local->scope.names.lookup y.1=some .local
 free:∀ y ∈ scope.names,y.2=.free->X.env.kindOf y.1=some .cell \/ X.env.kindOf y.1=some .free
 ts:∀ (i:Nat) x,X.N[i]?=some x->scope.names.lookup x=some .local \/ scope.names.lookup x=some .cell->i ∈ ts
section
variable {X:Cx}{ts:List Nat}{scope:Scope}{pins:List (au × Obj)}{σ:St}{H:Hp}{s:aw}{fp:List au}
end
section
variable {X:Cx}{ts:List Nat}{scope:Scope}{tg iter elt:Expr}{ifs:List Expr}{wi:TI}{g:TG}{tt:TT}{te:TE}{pos:Pos}
end
section
variable {X:Cx}
end
inductive Dat where
 | non | bl (b:Bool) | int (i:Int) | str (x:Str) | ty (n:String) | lst (l:List Dat) | tup (l:List Dat) | rng (lo hi c:Int) | scr (K:ax) (l:List Int)
inductive AV where
 | d (x:Dat) | ref (a:au)
  | tp (l:List (Dat ⊕ au))
noncomputable def tiA:Dat ⊕ au->AV
 | .inl d=>.d d
 | .inr a=>.ref a
noncomputable def AV.Has (r:au):AV->Prop
 | .d _=>False
 | .ref a=>a=r
 | .tp l=>bG r ∈ l
abbrev NK:=List (Option Int) × Option Int
noncomputable def Bt:Int:=0xFCA86420
noncomputable def GT:Option Int->Int
 | none=>Bt
 | some i=>hashInt i
noncomputable def MI (k:NK):Int:=reduceHash (gJ [reduceHash (gJ (k.1.map GT)),GT k.2])
noncomputable def cN:Option Int->V
 | none=>.non
 | some i=>.int i
noncomputable abbrev PN:List (NK × au × V)->List (NK × au × aj)->Prop:=eV fun p q=>p.1=q.1/\p.2.1=q.2.1/\zA p.2.2 q.2.2
noncomputable def DN (a:au)(xs:List (NK × au × V)):HO:=.ext fun h=>xs.length<=aM/\(a == dq)=false/\∃ ys:List (NK × au × aj),PN xs ys /\
 ∃ o es ep,h.get? a=some o/\o.ExactDict/\o.data=.dict es ep/\es.toList=ys.map (fun y=>(⟨MI y.1,.ref y.2.1,y.2.2⟩:DictEntry))/\(ys.map (·.1)).Nodup
def Ym (H:Hp)(O:au->Prop)(b:au)(k:NK):Prop:=¬ O b/\∃ c,¬ O c/\H b=some (.tup [.ref c,cN k.2])/\H c=some (.tup (k.1.map cN))
inductive MO where
 | lst (l:List AV) | dK (kvs:List (Key × AV)) | ins (C:au) (fs:List (Str × AV)) | exc (C:au) (fs:List (Str × V)) | tb (R:Array aj->au->Obj->Prop) | dT (kvs:List (List Key × AV)) | dN (kvs:List (NK × AV))
noncomputable def KM (a C:au)(d:Option au):HO:=.ext fun h=>∃ o,h.get? a=some o/\o.cls=.ref C/\o.dict=d/\∃ vs,o.data=.fields vs
abbrev MH:=au->Option MO
abbrev ASt:=List (Option AV)
noncomputable def mup (M:MH)(a:au)(o:MO):MH:=fun b=>if b=a then some o else M b
noncomputable def K2 (M:MH)(a:au):MH:=fun b=>if b=a then none else M b
variable {M:MH}
theorem ze {o:MO}:mup M a o a=some o:=if_pos rfl
theorem zd {o:MO}(h:b ≠ a):mup M a o b=M b:=if_neg h
theorem Zm:K2 M a a=none:=if_pos rfl
theorem kZ (h:b ≠ a):K2 M a b=M b:=if_neg h
theorem vW {o u:MO}:mup (mup M a o) a u=mup M a u:=by
 funext b;unfold mup;split <;> rfl
abbrev Own:=au->Prop
inductive Rep (H:Hp) (O:Own):V->Dat->Prop
 | non:Rep H O .non .non
 | bl {b:Bool}:Rep H O (.bl b) (.bl b)
 | int {i:Int}:Rep H O (.int i) (.int i)
 | str {x:Str}:Rep H O (.str x) (.str x)
 | ty {n:String}:Rep H O (.ty n) (.ty n)
 | lst {a:au} {xs:List V} {l:List Dat}:¬ O a->H a=some (.lst xs)->xs.length=l.length->(∀ (i:Nat) x d,xs[i]?=some x->l[i]?=some d->Rep H O x d)->Rep H O (.ref a) (.lst l)
 | tup {a:au} {xs:List V} {l:List Dat}:¬ O a->H a=some (.tup xs)->xs.length=l.length->(∀ (i:Nat) x d,xs[i]?=some x->l[i]?=some d->Rep H O x d)->Rep H O (.ref a) (.tup l)
 | rng {a:au} {lo hi c:Int}:¬ O a->H a=some (Jh a lo hi c)->Rep H O (.ref a) (.rng lo hi c)
 | scr {a:au} {K:ax} {l:List Int}:¬ O a->Rd H a (.lst (l.map V.int))->Rep H O (.ref a) (.scr K l)
 | scrK {a:au} {K:ax} {l:List Int}:SqL K (fun _=>none) a (l.map V.int)->Rep H O (.ref a) (.scr K l)
def Y3 (H:Hp)(O:Own)(xs:List V)(l:List Dat):Prop:=xs.length=l.length/\∀ (i:Nat) x d,xs[i]?=some x->l[i]?=some d->Rep H O x d
noncomputable def LU (H:Hp)(O:Own)(M:MH)(v:V):Dat ⊕ au->Prop
 | .inl d=>Rep H O v d
 | .inr a=>v=.ref a/\M a ≠ none
def Dn (H:Hp)(O:Own)(M:MH)(xs:List V)(l:List (Dat ⊕ au)):Prop:=xs.length=l.length/\∀ (i:Nat) x d,xs[i]?=some x->l[i]?=some d->LU H O M x d
noncomputable def zq (H:Hp)(O:Own)(M:MH)(v:V):AV->Prop
 | .d x=>Rep H O v x
 | .ref a=>v=.ref a/\M a ≠ none
 | .tp l=>∃ a xs,v=.ref a/\¬ O a/\H a=some (.tup xs)/\Dn H O M xs l
theorem zq.has {H:Hp}{O:Own}{M:MH}{v:V}{x:AV}{r:au}(h:zq H O M v x)(k:x.Has r):M r ≠ none:=by
 cases x with
 | d x=>exact k.elim
 | ref a=>cases k;exact h.2
 | tp l=>
  obtain ⟨a,xs,_,_,_,h⟩:=h
  obtain ⟨i,hi⟩:=bA k
  obtain ⟨y,hy⟩:∃ y,xs[i]?=some y:=⟨_,am (by rw [h.1];exact (aD.mp hi).1)⟩
  exact (h.2 i y _ hy hi).2
def zl (H:Hp)(O:Own)(M:MH)(xs:List V)(l:List AV):Prop:=xs.length=l.length/\∀ (i:Nat) x d,xs[i]?=some x->l[i]?=some d->zq H O M x d
def jh {κ:Type}(H:Hp)(O:Own)(M:MH)(xs:List (κ × V))(l:List (κ × AV)):Prop:=xs.map (·.1)=l.map (·.1)/\zl H O M (xs.map (·.2)) (l.map (·.2))
noncomputable def jf (H:Hp)(O:Own)(M:MH)(a:au):MO->Prop
 | .lst l=>∃ xs,H a=some (.lst xs)/\zl H O M xs l
 | .dK kvs=>∃ xs,H a=some (.dK xs)/\jh H O M xs kvs
 | .dT kvs=>∃ xs,H a=some (.dT xs)/\jh H O M xs kvs
 | .dN kvs=>∃ xs,H a=some (DN a xs)/\jh H O M (xs.map fun x=>(x.1,x.2.2)) kvs/\∀ x ∈ xs,Ym H O x.2.1 x.1
 | .ins C fs=>∃ dx xs,H a=some (.ins C dx xs)/\jh H O M xs fs/\O dx/\M dx=none/\H dx=some (.own a)
 | .exc C fs=>∃ d,H a=some (KM a C d)/\(d=none/\fs=[] \/ ∃ dx,d=some dx/\H dx=some (.xd fs)/\O dx/\M dx=none)
 | .tb R=>∃ ps,H a=some (.tbl ps)/\(ps=#[] \/ ∃ c oc u,R ps c oc/\¬ O c/\H c=some (.frz oc u))
structure Wf (H:Hp)(O:Own)(M:MH):Prop where
 mo:∀ a o,M a=some o->jf H O M a o
 own:∀ a,M a ≠ none->O a
 al:∀ a,O a->∃ o,H a=some o/\∀ xs,o ≠ .tup xs
variable {O:Own}
theorem Wf.ne (w:Wf H O M)(a:au)(h:O a):H a ≠ none:=by obtain ⟨o,e,_⟩:=w.al a h;rw [e];exact fun z=>nomatch z
structure Ext (H:Hp)(O:Own)(M:MH)(H':Hp)(O':Own)(M':MH):Prop where
 fix:∀ a o,¬ O a->H a=some o->H' a=some o/\¬ O' a
 prv:∀ a,O a->M a=none->H' a=H a/\O' a/\M' a=none
 mst:∀ a,M a ≠ none->M' a ≠ none
theorem Ext.refl:Ext H O M H O M:=⟨fun _ _ h e=>⟨e,h⟩,fun _ h e=>⟨rfl,h,e⟩,fun _ h=>h⟩
variable {O1 O2:Own}
theorem Ext.trans {M M1 M2:MH}(a:Ext H O M H1 O1 M1)(b:Ext H1 O1 M1 H2 O2 M2):Ext H O M H2 O2 M2:=
 ⟨fun x o h e=>let ⟨e1,h1⟩:=a.fix x o h e;b.fix x o h1 e1,fun x h e=>by
  obtain ⟨e1,h1,n1⟩:=a.prv x h e
  obtain ⟨e2,h2,n2⟩:=b.prv x h1 n1
  exact ⟨e2.trans e1,h2,n2⟩,fun x h=>b.mst x (a.mst x h)⟩
theorem Rep.imp {H H':Hp}{O O':Own}(k:∀ a o,¬ O a->H a=some o->H' a=some o/\¬ O' a){v:V}{d:Dat}(r:Rep H O v d):Rep H' O' v d:=by
 induction r with
 | non=>exact .non
 | bl=>exact .bl
 | int=>exact .int
 | str=>exact .str
 | ty=>exact .ty
 | lst h e l _ ih=>exact .lst (k _ _ h e).2 (k _ _ h e).1 l ih
 | tup h e l _ ih=>exact .tup (k _ _ h e).2 (k _ _ h e).1 l ih
 | rng h e=>exact .rng (k _ _ h e).2 (k _ _ h e).1
 | scr h e=>
  rcases e with e | ⟨o,e⟩
  ·exact .scr (k _ _ h e).2 (.inl (k _ _ h e).1)
  ·exact .scr (k _ _ h e).2 (.inr ⟨o,(k _ _ h e).1⟩)
 | scrK h=>exact .scrK h
theorem FO {H:Hp}{O:Own}{K:ax}{v:V}{l:List Int}(r:Rep H O v (.scr K l)):∃ a,v=.ref a/\SqL K H a (l.map V.int):=by
 cases r with
 | @scr a _ _ _ h=>exact ⟨a,rfl,.inl h⟩
 | @scrK a _ _ h=>
  rcases h with (h | ⟨o,h⟩) | h
  ·cases h
  ·cases h
  ·exact ⟨a,rfl,.inr h⟩
theorem EF {l:List Int}(ho:∀ a,¬ O a)(h:SqL K H a (l.map V.int)):Rep H O (.ref a) (.scr K l):=by
 rcases h with h | h
 ·exact .scr (ho a) h
 ·exact .scrK (.inr h)
variable {H':Hp}
theorem Ym.imp {O O':au->Prop}(k:∀ a o,¬ O a->H a=some o->H' a=some o/\¬ O' a) {x:NK}(r:Ym H O b x):Ym H' O' b x:=by
 obtain ⟨h1,c,h2,e1,e2⟩:=r
 exact ⟨(k _ _ h1 e1).2,c,(k _ _ h2 e2).2,(k _ _ h1 e1).1,(k _ _ h2 e2).1⟩
variable {O':Own} {M':MH} {v:V} {d:Dat}
theorem Rep.ext (k:Ext H O M H' O' M') (r:Rep H O v d):Rep H' O' v d:=r.imp k.fix
theorem zq.impT {H H':Hp}{O O':Own}{M M':MH}(k:∀ a o,¬ O a->H a=some o->H' a=some o/\¬ O' a){l:List (Dat ⊕ au)}(hm:∀ a,M a ≠ none->M' a ≠ none){v:V}(r:zq H O M v (.tp l)):zq H' O' M' v (.tp l):=by
 obtain ⟨a,xs,h1,h2,h3,h4,h5⟩:=r
 refine ⟨a,xs,h1,(k _ _ h2 h3).2,(k _ _ h2 h3).1,h4,fun i x d e1 e2=>?_⟩
 have:=h5 i x d e1 e2
 cases d with
 | inl d=>exact Rep.imp k this
 | inr q=>exact ⟨this.1,hm q this.2⟩
theorem zq.ext {H H':Hp}{O O':Own}{M M':MH}(k:Ext H O M H' O' M'){v:V}{x:AV}(r:zq H O M v x):zq H' O' M' v x:=by
 cases x with
 | d x=>exact Rep.ext k r
 | ref a=>exact ⟨r.1,k.mst a r.2⟩
 | tp l=>exact r.impT k.fix k.mst
variable {l:List AV}
theorem zl.ext (k:Ext H O M H' O' M') (r:zl H O M xs l):zl H' O' M' xs l:=⟨r.1,fun i x d e1 e2=>(r.2 i x d e1 e2).ext k⟩
theorem jh.ext {κ:Type} (k:Ext H O M H' O' M'){xs:List (κ × V)}{l:List (κ × AV)}(r:jh H O M xs l):jh H' O' M' xs l:=⟨r.1,r.2.ext k⟩
theorem zl.nil:zl H O M [] []:=⟨rfl,fun i x d e=>by simp at e⟩
theorem zl.cons {x:V}{d:AV} (h:zq H O M x d)(r:zl H O M xs l):zl H O M (x :: xs) (d :: l):=
 ⟨by simp [r.1],fun i y e h1 h2=>by
  cases i with
  | zero=>simp at h1 h2;subst h1 h2;exact h
  | succ i=>simp at h1 h2;exact r.2 i y e h1 h2⟩
theorem zl.head {x:V}{d:AV} (r:zl H O M (x :: xs) (d :: l)):zq H O M x d/\zl H O M xs l:=
 ⟨r.2 0 x d rfl rfl,by have:=r.1;simpa using this,fun i y e h1 h2=>r.2 (i+1) y e (by simpa using h1) (by simpa using h2)⟩
theorem zl.nil_inv (r:zl H O M xs []):xs=[]:=hV.mp r.1
theorem zl.cons_inv {H:Hp}{O:Own}{M:MH}{xs:List V}{d:AV}{l:List AV}(r:zl H O M xs (d :: l)):∃ x r',xs=x :: r'/\zq H O M x d/\zl H O M r' l:=by
 cases xs with
 | nil=>have:=r.1;simp at this
 | cons x r'=>exact ⟨x,r',rfl,r.head⟩
variable {ys:List V}
theorem zl.append {l m:List AV}(a:zl H O M xs l)(b:zl H O M ys m):zl H O M (xs ++ ys) (l ++ m):=
 ⟨by rw [bE,bE,a.1,b.1],fun i x d h1 h2=>by
  by_cases c:i<xs.length
  ·rw [cv c] at h1
   rw [cv (by rw [<- a.1];exact c)] at h2
   exact a.2 i x d h1 h2
  ·rw [cS (by omega)] at h1
   rw [cS (by rw [<- a.1];omega),<- a.1] at h2
   exact b.2 _ x d h1 h2⟩
theorem zl.snoc {x:V}{d:AV}(a:zl H O M xs l)(b:zq H O M x d):zl H O M (xs ++ [x]) (l ++ [d]):=a.append (.cons b .nil)
theorem zl.set {x:V}{d:AV}(a:zl H O M xs l)(b:zq H O M x d)(j:Nat):zl H O M (xs.set j x) (l.set j d):=
 ⟨by rw [bN,bN,a.1],fun i y e h1 h2=>by
  rw [cb] at h1 h2
  by_cases c:j=i
  ·rw [if_pos c] at h1 h2
   split at h1
   ·split at h2
    ·cases h1;cases h2;exact b
    ·cases h2
   ·cases h1
  ·rw [if_neg c] at h1 h2
   exact a.2 i y e h1 h2⟩
theorem zl.get (a:zl H O M xs l) {d:AV}(h:l[i]?=some d):∃ x,xs[i]?=some x/\zq H O M x d:=by
 have hi:=(aD.mp h).1
 have hx:i<xs.length:=by rw [a.1];exact hi
 exact ⟨xs[i],by simp [hx],a.2 i _ _ (by simp [hx]) h⟩
theorem zl.drop (a:zl H O M xs l)(k:Nat):zl H O M (xs.drop k) (l.drop k):=
 ⟨by rw [dE,dE,a.1],fun i x d h1 h2=>by rw [List.getElem?_drop] at h1 h2;exact a.2 _ x d h1 h2⟩
theorem zl.take (a:zl H O M xs l)(k:Nat):zl H O M (xs.take k) (l.take k):=
 ⟨by rw [b8,b8,a.1],fun i x d h1 h2=>by
  rw [List.getElem?_take] at h1 h2
  by_cases c:i<k
  ·rw [if_pos c] at h1 h2
   exact a.2 _ x d h1 h2
  ·rw [if_neg c] at h1
   cases h1⟩
theorem Y3.av {l:List Dat}(r:Y3 H O xs l):zl H O M xs (l.map .d):=
 ⟨by rw [aq];exact r.1,fun i x d h1 h2=>by
  rw [aE] at h2
  cases e:l[i]? with
  | none=>rw [e] at h2;cases h2
  | some y=>rw [e] at h2;cases h2;exact r.2 i x y h1 e⟩
theorem zl.pure {l:List Dat}(r:zl H O M xs (l.map .d)):Y3 H O xs l:=
 ⟨by have:=r.1;rwa [aq] at this,fun i x d h1 h2=>r.2 i x (.d d) h1 (by rw [aE,h2];rfl)⟩
theorem Wf.fresh (w:Wf H O M) (h:H p=none):¬ O p/\M p=none:=by
 have:¬ O p:=fun z=>w.ne p z h
 exact ⟨this,by
  cases e:M p with
  | none=>rfl
  | some o=>exact absurd (w.own p (by rw [e];exact fun z=>nomatch z)) this⟩
theorem jf.ext {H H':Hp}{O O':Own}{M M':MH}(k:Ext H O M H' O' M'){a:au}{o:MO}(e:H' a=H a)(r:jf H O M a o):jf H' O' M' a o:=by
 cases o with
 | lst l=>obtain ⟨xs,h,r⟩:=r;exact ⟨xs,e.trans h,r.ext k⟩
 | dK l=>obtain ⟨xs,h,r⟩:=r;exact ⟨xs,e.trans h,r.ext k⟩
 | dT l=>obtain ⟨xs,h,r⟩:=r;exact ⟨xs,e.trans h,r.ext k⟩
 | dN l=>obtain ⟨xs,h,r,p⟩:=r;exact ⟨xs,e.trans h,r.ext k,fun x hx=>(p x hx).imp k.fix⟩
 | ins C fs=>obtain ⟨dx,xs,h,r,q1,q2,q3⟩:=r;obtain ⟨x1,x2,x3⟩:=k.prv dx q1 q2;exact ⟨dx,xs,e.trans h,r.ext k,x2,x3,x1.trans q3⟩
 | exc C fs=>
  obtain ⟨d,h,r⟩:=r
  refine ⟨d,e.trans h,?_⟩
  rcases r with r | ⟨dx,e1,h1,h2,h3⟩
  ·exact .inl r
  ·obtain ⟨x1,x2,x3⟩:=k.prv dx h2 h3;exact .inr ⟨dx,e1,x1.trans h1,x2,x3⟩
 | tb R=>obtain ⟨ps,h,r⟩:=r;exact ⟨ps,e.trans h,r.imp id fun ⟨c,oc,u,h1,h2,h3⟩=>⟨c,oc,u,h1,(k.fix c _ h2 h3).2,(k.fix c _ h2 h3).1⟩⟩
theorem qz (w:Wf H O M) (h:H p=none)(o:HO):Ext H O M (upd H p o) O M:=
 ⟨fun a u ha e=>⟨by rw [zk (zo e h)];exact e,ha⟩,fun a ha e=>⟨zk (fun z=>w.ne a ha (by rw [z];exact h)),ha,e⟩,fun _ h=>h⟩
theorem xh (w:Wf H O M) (h:H p=none)(o:HO):Wf (upd H p o) O M:=
 ⟨fun a mo e=>jf.ext (qz w h o) (zk (fun z=>by rw [z,(w.fresh h).2] at e;cases e)) (w.mo a mo e),w.own,fun a ha=>by
  have:a ≠ p:=fun z=>w.ne a ha (by rw [z];exact h)
  rw [zk this];exact w.al a ha⟩
noncomputable def yf (O:Own)(p:au):Own:=fun a=>a=p \/ O a
noncomputable def Z4 (O:Own)(p:au):Own:=fun a=>a ≠ p/\O a
theorem vU (w:Wf H O M) (h:H p=none)(o:HO)(mo:MO):Ext H O M (upd H p o) (yf O p) (mup M p mo):=
 ⟨fun a u ha e=>⟨by rw [zk (zo e h)];exact e,fun z=>z.elim (zo e h) ha⟩,fun a ha e=>by
  have hne:a ≠ p:=fun z=>w.ne a ha (by rw [z];exact h)
  exact ⟨zk hne,.inr ha,by rw [zd hne];exact e⟩,fun a ha=>by
  by_cases e:a=p
  ·rw [e,ze];exact fun z=>nomatch z
  ·rw [zd e];exact ha⟩
variable {mo:MO}
theorem KC (w:Wf H O M) (h:H p=none) (ho:∀ xs,o ≠ .tup xs)(r:jf (upd H p o) (yf O p) (mup M p mo) p mo):Wf (upd H p o) (yf O p) (mup M p mo):=by
 refine ⟨fun a u e=>?_,fun a ha=>?_,fun a ha=>?_⟩
 ·by_cases c:a=p
  ·subst c;rw [ze] at e;cases e;exact r
  ·rw [zd c] at e
   exact jf.ext (vU w h o mo) (zk c) (w.mo a u e)
 ·by_cases c:a=p
  ·exact .inl c
  ·rw [zd c] at ha;exact .inr (w.own a ha)
 ·by_cases c:a=p
  ·rw [c,zm];exact ⟨o,rfl,ho⟩
  ·rw [zk c];exact w.al a (ha.resolve_left c)
theorem j5 (w:Wf H O M) (h:M p ≠ none)(o:HO)(mo:MO):Ext H O M (upd H p o) O (mup M p mo):=
 ⟨fun a u ha e=>⟨by rw [zk (fun z=>ha (by rw [z];exact w.own p h))];exact e,ha⟩,fun a ha e=>by
  have hne:a ≠ p:=fun z=>h (by rw [<- z];exact e)
  exact ⟨zk hne,ha,by rw [zd hne];exact e⟩,fun a ha=>by
  by_cases e:a=p
  ·rw [e,ze];exact fun z=>nomatch z
  ·rw [zd e];exact ha⟩
theorem Qi (w:Wf H O M) (h:M p ≠ none) (ho:∀ xs,o ≠ .tup xs)(r:jf (upd H p o) O (mup M p mo) p mo):Wf (upd H p o) O (mup M p mo):=by
 refine ⟨fun a u e=>?_,fun a ha=>?_,fun a ha=>?_⟩
 ·by_cases c:a=p
  ·subst c;rw [ze] at e;cases e;exact r
  ·rw [zd c] at e
   exact jf.ext (j5 w h o mo) (zk c) (w.mo a u e)
 ·by_cases c:a=p
  ·subst c;exact w.own a h
  ·rw [zd c] at ha;exact w.own a ha
 ·by_cases c:a=p
  ·rw [c,zm];exact ⟨o,rfl,ho⟩
  ·rw [zk c];exact w.al a ha
theorem jb (w:Wf H O M) (h:H p=none)(o:HO):Ext H O M (upd H p o) (yf O p) M:=
 ⟨fun a u ha e=>⟨by rw [zk (zo e h)];exact e,fun z=>z.elim (zo e h) ha⟩,fun a ha e=>by
  have hne:a ≠ p:=fun z=>w.ne a ha (by rw [z];exact h)
  exact ⟨zk hne,.inr ha,e⟩,fun _ h=>h⟩
theorem xI (w:Wf H O M) (h:H p=none)(o:HO)(ho:∀ xs,o ≠ .tup xs):Wf (upd H p o) (yf O p) M:=
 ⟨fun a mo e=>jf.ext (jb w h o) (zk (fun z=>by rw [z,(w.fresh h).2] at e;cases e)) (w.mo a mo e),fun a ha=>.inr (w.own a ha),fun a ha=>by
  by_cases c:a=p
  ·rw [c,zm];exact ⟨o,rfl,ho⟩
  ·rw [zk c];exact w.al a (ha.resolve_left c)⟩
theorem vJ (hO:O p)(o:HO):∀ a u,¬ O a->H a=some u->upd H p o a=some u/\¬ O a:=fun a u ha e=>⟨by rw [zk (fun z=>ha (by rw [z];exact hO))];exact e,ha⟩
theorem zq.imp {H H':Hp}{O O':Own}{M M':MH}(k:∀ a o,¬ O a->H a=some o->H' a=some o/\¬ O' a)(hm:∀ a,M a ≠ none->M' a ≠ none){v:V}{x:AV}(r:zq H O M v x):zq H' O' M' v x:=by
 cases x with
 | d x=>exact Rep.imp k r
 | ref a=>exact ⟨r.1,hm a r.2⟩
 | tp l=>exact r.impT k hm
theorem zl.imp (k:∀ a o,¬ O a->H a=some o->H' a=some o/\¬ O' a)(hm:∀ a,M a ≠ none->M' a ≠ none) (r:zl H O M xs l):zl H' O' M' xs l:=⟨r.1,fun i x d e1 e2=>(r.2 i x d e1 e2).imp k hm⟩
theorem jf.imp {H H':Hp}{O O':Own}{M:MH}(k:∀ a o,¬ O a->H a=some o->H' a=some o/\¬ O' a){a:au}{o:MO}(e:H' a=H a)(hd:∀ dx x,O dx->M dx=none->H dx=some x->((∃ b,x=.own b) \/ ∃ fs,x=.xd fs)->H' dx=some x/\O' dx)(r:jf H O M a o):jf H' O' M a o:=by
 cases o with
 | lst l=>obtain ⟨xs,h,r⟩:=r;exact ⟨xs,e.trans h,r.imp k fun _ z=>z⟩
 | dK l=>obtain ⟨xs,h,r⟩:=r;exact ⟨xs,e.trans h,r.1,r.2.imp k fun _ z=>z⟩
 | dT l=>obtain ⟨xs,h,r⟩:=r;exact ⟨xs,e.trans h,r.1,r.2.imp k fun _ z=>z⟩
 | dN l=>obtain ⟨xs,h,r,p⟩:=r;exact ⟨xs,e.trans h,⟨r.1,r.2.imp k fun _ z=>z⟩,fun x hx=>(p x hx).imp k⟩
 | ins C fs=>obtain ⟨dx,xs,h,r,q1,q2,q3⟩:=r;exact ⟨dx,xs,e.trans h,⟨r.1,r.2.imp k fun _ z=>z⟩,(hd dx _ q1 q2 q3 (.inl ⟨_,rfl⟩)).2,q2,(hd dx _ q1 q2 q3 (.inl ⟨_,rfl⟩)).1⟩
 | exc C fs=>
  obtain ⟨d,h,r⟩:=r
  refine ⟨d,e.trans h,?_⟩
  rcases r with r | ⟨dx,e1,h1,h2,h3⟩
  ·exact .inl r
  ·obtain ⟨x1,x2⟩:=hd dx _ h2 h3 h1 (.inr ⟨_,rfl⟩);exact .inr ⟨dx,e1,x1,x2,h3⟩
 | tb R=>obtain ⟨ps,h,r⟩:=r;exact ⟨ps,e.trans h,r.imp id fun ⟨c,oc,u,h1,h2,h3⟩=>⟨c,oc,u,h1,(k c _ h2 h3).2,(k c _ h2 h3).1⟩⟩
theorem Xd (w:Wf H O M) (hO:O p)(hM:M p=none) (hp:H p=some (.lst xs))(o:HO)(ho:∀ xs,o ≠ .tup xs):Wf (upd H p o) O M:=
 ⟨fun a mo e=>jf.imp (vJ hO o) (zk (fun z=>by rw [z,hM] at e;cases e)) (fun dx x h1 _ h3 h4=>⟨by rw [zk (Ze h3 hp (by rcases h4 with ⟨_,rfl⟩ | ⟨_,rfl⟩ <;> exact fun z=>nomatch z))];exact h3,h1⟩) (w.mo a mo e),w.own,fun a ha=>by
  by_cases c:a=p
  ·rw [c,zm];exact ⟨o,rfl,ho⟩
  ·rw [zk c];exact w.al a ha⟩
theorem xS (p:au):∀ a u,¬ O a->H a=some u->H a=some u/\¬ Z4 O p a:=fun a u ha e=>⟨e,fun z=>ha z.2⟩
theorem Bj (w:Wf H O M) (hM:M p=none) (hp:H p=some (.lst xs)):Wf H (Z4 O p) M:=
 ⟨fun a mo e=>jf.imp (xS p) rfl (fun dx x h1 _ h3 h4=>⟨h3,⟨Ze h3 hp (by rcases h4 with ⟨_,rfl⟩ | ⟨_,rfl⟩ <;> exact fun z=>nomatch z),h1⟩⟩) (w.mo a mo e),fun a ha=>⟨fun z=>ha (by rw [z];exact hM),w.own a ha⟩,fun a ha=>w.al a ha.2⟩
abbrev AK:=AV->MH->Prop
abbrev AE:=ASt->MH->AK->Prop
abbrev AT:=ASt->MH->(Bool->MH->Prop)->Prop
abbrev AA:=ASt->MH->(List AV->MH->Prop)->Prop
structure jw where
 nx:ASt->MH->Prop
 rt:AK
 bk:ASt->MH->Prop:=fun _ _=>False
 ct:ASt->MH->Prop:=fun _ _=>False
abbrev AS:=MH->jw->ASt->MH->Prop
abbrev AG:=AV->ASt->MH->(ASt->MH->Prop)->Prop
abbrev AGs:=List AV->ASt->MH->(ASt->MH->Prop)->Prop
abbrev AI:=ASt->MH->(List AV->(MH->Prop)->MH->Prop)->Prop
structure Er (H:Hp)(O:Own)(M:MH)(σ:St)(ρ:ASt):Prop where
 len:σ.length=ρ.length
 get:∀ (i:Nat) x,ρ[i]?=some (some x)->∃ v,σ[i]?=some (some v)/\zq H O M v x
variable {ρ:ASt}
theorem Er.ext (e:Er H O M σ ρ)(k:Ext H O M H' O' M'):Er H' O' M' σ ρ:=⟨e.len,fun i x h=>let ⟨v,h1,h2⟩:=e.get i x h;⟨v,h1,h2.ext k⟩⟩
theorem Er.set (e:Er H O M σ ρ) {x:AV}(r:zq H O M v x)(j:Nat):Er H O M (σ.set j (some v)) (ρ.set j (some x)):=
 ⟨by rw [bN,bN,e.len],fun i y h=>by
  rw [cb] at h ⊢
  by_cases c:j=i
  ·rw [if_pos c] at h ⊢
   by_cases c2:j<ρ.length
   ·rw [if_pos c2] at h;rw [if_pos (by rw [e.len];exact c2)];cases h;exact ⟨v,rfl,r⟩
   ·rw [if_neg c2] at h;cases h
  ·rw [if_neg c] at h ⊢;exact e.get i y h⟩
noncomputable def EI:List Nat->ASt->ASt
 | [],σ=>σ
 | j :: r,σ=>EI r (σ.set j none)
theorem Er.clr {H:Hp}{O:Own}{M:MH}:∀ (ts:List Nat) {σ:St} {ρ:ASt},Er H O M σ ρ->Er H O M (clr ts σ) (EI ts ρ)
  | [],_,_,e=>e
  | j :: r, σ, ρ, e => Er.clr r ⟨by rw [bN, bN, e.len], fun i y h => by
      rw [cb] at h ⊢
      by_cases c:j=i
      · rw [if_pos c] at h
        split at h <;> cases h
      · rw [if_neg c] at h ⊢;exact e.get i y h⟩
structure zH (t:TE)(a:AE):Prop where
 go:∀ {σ:St} {H:Hp} {O:Own} {ρ:ASt} {M:MH} {Q:VK} {Q':AK},Wf H O M->Er H O M σ ρ->a ρ M Q'->(∀ x M' v H' O',Q' x M'->Ext H O M H' O' M'->Wf H' O' M'->zq H' O' M' v x->Q v H')->t σ H Q
structure xp (t:TT)(a:AT):Prop where
 go:∀ {σ:St} {H:Hp} {O:Own} {ρ:ASt} {M:MH} {Q:Bool->Hp->Prop} {Q':Bool->MH->Prop},Wf H O M->Er H O M σ ρ->a ρ M Q'->(∀ b M' H' O',Q' b M'->Ext H O M H' O' M'->Wf H' O' M'->Q b H')->t σ H Q
structure jo (t:TA)(a:AA):Prop where
 go:∀ {σ:St} {H:Hp} {O:Own} {ρ:ASt} {M:MH} {Q:List V->Hp->Prop} {Q':List AV->MH->Prop},Wf H O M->Er H O M σ ρ->a ρ M Q'->(∀ x M' v H' O',Q' x M'->Ext H O M H' O' M'->Wf H' O' M'->zl H' O' M' v x->Q v H')->t σ H Q
structure Kk (t:TE)(a:ASt->MH->(List AV->MH->Prop)->Prop):Prop where
 go:∀ {σ:St} {H:Hp} {O:Own} {ρ:ASt} {M:MH} {Q:VK} {Q':List AV->MH->Prop},Wf H O M->Er H O M σ ρ->a ρ M Q' ->
  (∀ l M' p xs H' O',Q' l M'->Ext H O M H' O' M'->Wf H' O' M'->O' p->M' p=none->H p=none->H' p=some (.lst xs)->zl H' O' M' xs l->Q (.ref p) H')->t σ H Q
abbrev AR2:=AV->AV->MH->AK->Prop
structure yt (r:R2)(a:AR2):Prop where
 go:∀ {x y:V} {dx dy:AV} {H:Hp} {O:Own} {M:MH} {Q:VK} {Q':AK},Wf H O M->zq H O M x dx->zq H O M y dy->a dx dy M Q'->(∀ x M' v H' O',Q' x M'->Ext H O M H' O' M'->Wf H' O' M'->zq H' O' M' v x->Q v H')->r x y H Q
structure MJ (r:V->Hp->VK->Prop)(a:AV->MH->AK->Prop):Prop where
 go:∀ {x:V} {dx:AV} {H:Hp} {O:Own} {M:MH} {Q:VK} {Q':AK},Wf H O M->zq H O M x dx->a dx M Q'->(∀ x M' v H' O',Q' x M'->Ext H O M H' O' M'->Wf H' O' M'->zq H' O' M' v x->Q v H')->r x H Q
structure QF (r:List V->Hp->VK->Prop)(a:List AV->MH->AK->Prop):Prop where
 go:∀ {vs:List V} {xs:List AV} {H:Hp} {O:Own} {M:MH} {Q:VK} {Q':AK},Wf H O M->zl H O M vs xs->a xs M Q'->(∀ x M' v H' O',Q' x M'->Ext H O M H' O' M'->Wf H' O' M'->zq H' O' M' v x->Q v H')->r vs H Q
noncomputable def qp (i:Nat):AE:=fun ρ M Q=>∃ x,ρ[i]?=some (some x)/\Q x M
noncomputable def aC (d:Dat):AE:=fun _ M Q=>Q (.d d) M
theorem FS:zH (wY i) (qp i):=⟨fun w e ⟨x,h,q⟩ k=>let ⟨v,h1,h2⟩:=e.get i x h;⟨v,h1,k _ _ _ _ _ q .refl w h2⟩⟩
theorem La {i:Int}:zH (tC (.int i)) (aC (.int i)):=⟨fun w _ q k=>k _ _ _ _ _ q .refl w .int⟩
theorem HU {i:Bool}:zH (tC (.bl i)) (aC (.bl i)):=⟨fun w _ q k=>k _ _ _ _ _ q .refl w .bl⟩
theorem Hc:zH (tC .non) (aC .non):=⟨fun w _ q k=>k _ _ _ _ _ q .refl w .non⟩
theorem Hq {i:Str}:zH (tC (.str i)) (aC (.str i)):=⟨fun w _ q k=>k _ _ _ _ _ q .refl w .str⟩
theorem IX {i:String}:zH (tC (.ty i)) (aC (.ty i)):=⟨fun w _ q k=>k _ _ _ _ _ q .refl w .ty⟩
noncomputable def aOp (r:AR2)(a b:AE):AE:=fun ρ M Q=>a ρ M fun x M1=>b ρ M1 fun y M2=>r x y M2 Q
variable {r:R2}
theorem HA {ra:AR2}{t u:TE}{a b:AE}(hr:yt r ra)(h1:zH t a)(h2:zH u b):zH (tOp r t u) (aOp ra a b):=
 ⟨fun w e q k=>h1.go w e q fun x M1 v H1 O1 q1 k1 w1 r1=>h2.go w1 (e.ext k1) q1 fun y M2 u H2 O2 q2 k2 w2 r2=>hr.go w2 (r1.ext k2) r2 q2 fun z M3 v3 H3 O3 q3 k3 w3 r3=>k z M3 v3 H3 O3 q3 ((k1.trans k2).trans k3) w3 r3⟩
noncomputable def aUn (r:AV->MH->AK->Prop)(a:AE):AE:=fun ρ M Q=>a ρ M fun x M1=>r x M1 Q
theorem HJ {r:V->Hp->VK->Prop}{ra:AV->MH->AK->Prop}{t:TE}{a:AE}(hr:MJ r ra)(h1:zH t a):zH (tUn r t) (aUn ra a):=
 ⟨fun w e q k=>h1.go w e q fun x M1 v H1 O1 q1 k1 w1 r1=>hr.go w1 r1 q1 fun z M3 v3 H3 O3 q3 k3 w3 r3=>k z M3 v3 H3 O3 q3 (k1.trans k3) w3 r3⟩
noncomputable def jz:AA:=fun _ M Q=>Q [] M
noncomputable def zT (a:AE)(b:AA):AA:=fun ρ M Q=>a ρ M fun x M1=>b ρ M1 fun xs M2=>Q (x :: xs) M2
theorem Ez:jo VX jz:=⟨fun w _ q k=>k _ _ _ _ _ q .refl w .nil⟩
variable {u:TA}
theorem Dc {t:TE} {a:AE}{b:AA}(h1:zH t a)(h2:jo u b):jo (Jl t u) (zT a b):=
 ⟨fun w e q k=>h1.go w e q fun x M1 v H1 O1 q1 k1 w1 r1=>h2.go w1 (e.ext k1) q1 fun y M2 u H2 O2 q2 k2 w2 r2=>k _ _ _ _ _ q2 (k1.trans k2) w2 (.cons (r1.ext k2) r2)⟩
theorem Km {H:Hp}{O:Own}{M:MH}(is:List Int):zl H O M (is.map V.int) (is.map fun i=>.d (.int i)):=by
 induction is with
 | nil=>exact .nil
 | cons i r ih=>exact .cons .int ih
noncomputable def aCB (r:List AV->MH->AK->Prop)(b:AA):AE:=fun ρ M Q=>b ρ M fun xs M1=>r xs M1 Q
theorem Iu {r:List V->Hp->VK->Prop}{ra:List AV->MH->AK->Prop} {b:AA}(hr:QF r ra)(h2:jo u b):zH (tCB r u) (aCB ra b):=
 ⟨fun w e q k=>h2.go w e q fun x M1 v H1 O1 q1 k1 w1 r1=>hr.go w1 r1 q1 fun z M3 v3 H3 O3 q3 k3 w3 r3=>k z M3 v3 H3 O3 q3 (k1.trans k3) w3 r3⟩
abbrev ASp:=List AV->MH->AK->Prop
noncomputable def cSp (a:ASp):Sp:=fun vs H Q _=>∃ xs M O Q',Wf H O M/\zl H O M vs xs/\a xs M Q'/\∀ x M' v H' O',Q' x M'->Ext H O M H' O' M'->Wf H' O' M'->zq H' O' M' v x->Q v H'
noncomputable def QQ (sp:ASp)(b:AA):AE:=fun ρ M Q=>b ρ M fun xs M1=>sp xs M1 Q
theorem Dt {sp:ASp} {b:AA}(h:jo u b):zH (YG (cSp sp) [] E0 u) (QQ sp b):=
 ⟨fun w e q k=>h.go w e q fun x M1 v H1 O1 q1 k1 w1 r1=>⟨x,M1,O1,_,w1,by rw [bQ];exact r1,q1,fun z M3 v3 H3 O3 q3 k3 w3 r3=>k z M3 v3 H3 O3 q3 (k1.trans k3) w3 r3⟩⟩
noncomputable def pur:List AV->Option (List Dat)
 | []=>some []
 | .d x :: r=>match pur r with | some l=>some (x :: l) | none=>none
 | .ref _ :: _=>none
 | .tp _ :: _=>none
theorem EK:pur []=some []:=rfl
theorem DM {x:Dat}{r:List AV}{l:List Dat}(h:pur r=some l):pur (.d x :: r)=some (x :: l):=by unfold pur;rw [h]
theorem qc (l:List Dat):pur (l.map .d)=some l:=by
 induction l with
 | nil=>rfl
 | cons x r ih=>exact DM ih
theorem kf:∀ {xs:List AV} {l:List Dat},pur xs=some l->xs=l.map .d
 | [],l,h=>by cases h;rfl
 | .d x :: r,l,h=>by
  unfold pur at h
  cases e:pur r with
  | none=>rw [e] at h;cases h
  | some m=>rw [e] at h;cases h;rw [kf e];rfl
 | .ref _ :: _,_,h=>by cases h
 | .tp _ :: _,_,h=>by cases h
theorem Ext.shown (w:Wf H O M)(k:Ext H O M H' O' M')(h:H p=none):Ext H O M H' (Z4 O' p) M':=
 ⟨fun a o ha e=>⟨(k.fix a o ha e).1,fun z=>(k.fix a o ha e).2 z.2⟩,fun a ha e=>⟨(k.prv a ha e).1,⟨fun z=>w.ne a ha (by rw [z];exact h),(k.prv a ha e).2.1⟩,(k.prv a ha e).2.2⟩,k.mst⟩
theorem Ext.owned (w:Wf H O M)(k:Ext H O M H' O' M')(h:H p=none)(mo:MO):Ext H O M H' O' (mup M' p mo):=
 ⟨k.fix,fun a ha e=>⟨(k.prv a ha e).1,(k.prv a ha e).2.1,by rw [zd (fun z=>w.ne a ha (by rw [z];exact h))];exact (k.prv a ha e).2.2⟩,fun a ha=>by
  by_cases e:a=p
  ·rw [e,ze];exact fun z=>nomatch z
  ·rw [zd e];exact k.mst a ha⟩
theorem QX (w:Wf H O M)(hO:O p)(hM:M p=none) (hp:H p=some (.lst xs))(r:zl H O M xs l):Wf H O (mup M p (.lst l)):=by
 have km:∀ a,M a ≠ none->mup M p (.lst l) a ≠ none:=fun a ha=>by
  by_cases e:a=p
  ·rw [e,ze];exact fun z=>nomatch z
  ·rw [zd e];exact ha
 refine ⟨fun a u e=>?_,fun a ha=>?_,w.al⟩
 ·by_cases c:a=p
  ·subst c;rw [ze] at e;cases e;exact ⟨xs,hp,r.imp (fun _ _ z h=>⟨h,z⟩) km⟩
  ·rw [zd c] at e
   have:=w.mo a u e
   cases u with
   | lst m=>obtain ⟨ys,h1,h2⟩:=this;exact ⟨ys,h1,h2.imp (fun _ _ z h=>⟨h,z⟩) km⟩
   | dK m=>obtain ⟨ys,h1,h2⟩:=this;exact ⟨ys,h1,h2.1,h2.2.imp (fun _ _ z h=>⟨h,z⟩) km⟩
   | dT m=>obtain ⟨ys,h1,h2⟩:=this;exact ⟨ys,h1,h2.1,h2.2.imp (fun _ _ z h=>⟨h,z⟩) km⟩
   | dN m=>obtain ⟨ys,h1,h2,h3⟩:=this;exact ⟨ys,h1,⟨h2.1,h2.2.imp (fun _ _ z h=>⟨h,z⟩) km⟩,h3⟩
   | ins C fs=>
    obtain ⟨dx,ys,h1,h2,h3,h4,h5⟩:=this
    exact ⟨dx,ys,h1,⟨h2.1,h2.2.imp (fun _ _ z h=>⟨h,z⟩) km⟩,h3,by rw [zd (Ze h5 hp (fun z=>nomatch z))];exact h4,h5⟩
   | exc C fs=>
    obtain ⟨d,h1,h2⟩:=this
    refine ⟨d,h1,?_⟩
    rcases h2 with h2 | ⟨dx,e1,h2,h3,h4⟩
    ·exact .inl h2
    ·exact .inr ⟨dx,e1,h2,h3,by rw [zd (Ze h2 hp (fun z=>nomatch z))];exact h4⟩
   | tb R=>exact this
 ·by_cases c:a=p
  ·rw [c];exact hO
  ·rw [zd c] at ha;exact w.own a ha
abbrev AF:=ASt->MH->(List AV->MH->Prop)->Prop
noncomputable def aFz (a:AF):AE:=fun ρ M Q=>a ρ M fun l M'=>∃ ds,pur l=some ds/\Q (.d (.lst ds)) M'
noncomputable def aOw (a:AF):AE:=fun ρ M Q=>a ρ M fun l M'=>∀ p,M p=none->M' p=none->Q (.ref p) (mup M' p (.lst l))
noncomputable def ML (t:TE):TE:=t
theorem jq {e:Expr}{t:TE}(h:PE X e t):PE X e (ML t):=h
theorem yA {t:TE}{a:AF}(h:Kk t a):zH t (aFz a):=
 ⟨fun w e q k=>h.go w e q fun l M' p xs H' O' q1 k1 w1 o1 m1 hp hx r1=>by
  obtain ⟨ds,e1,q2⟩:=q1
  rw [kf e1] at r1
  have r2:=r1.pure
  exact k _ _ _ _ _ q2 (k1.shown w hp) (Bj w1 m1 hx) (Rep.lst (fun z=>z.1 rfl) hx r2.1 fun i x d e1 e2=>(r2.2 i x d e1 e2).imp (xS p))⟩
theorem EV {t:TE}{a:AF}(h:Kk t a):zH (ML t) (aOw a):=
 ⟨fun w e q k=>h.go w e q fun l M' p xs H' O' q1 k1 w1 o1 m1 hp hx r1=>k _ _ _ _ _ (q1 p (w.fresh hp).2 m1) (k1.owned w hp _) (QX w1 o1 m1 hx r1) ⟨rfl,by rw [ze];exact fun z=>nomatch z⟩⟩
noncomputable def Lr (b:AA):AF:=fun ρ M Q=>b ρ M fun xs M1=>xs.length<=aM/\Q xs M1
theorem BG {b:AA}(h:jo u b):Kk (Ld u) (Lr b):=
 ⟨fun w e q k=>h.go w e q fun x M1 v H1 O1 q1 k1 w1 r1=>⟨by rw [r1.1];exact q1.1,fun p hp=>
  k x M1 p v _ _ q1.2 (k1.trans (jb w1 hp _)) (xI w1 hp _ (fun _ z=>nomatch z)) (.inl rfl) (w1.fresh hp).2 (by
   cases e0:(_:Hp) p with
   | none=>exact e0
   | some o=>
    exfalso
    rename_i H0 O0 _ M0 _ _
    by_cases c:O0 p
    ·by_cases c2:M0 p=none
     ·exact w1.ne p (k1.prv p c c2).2.1 hp
     ·exact w1.ne p (w1.own p (k1.mst p c2)) hp
    ·rw [(k1.fix p o c e0).1] at hp;cases hp) zm (r1.ext (jb w1 hp _))⟩⟩
noncomputable def Dz (b:AA):AE:=fun ρ M Q=>b ρ M fun xs M1=>xs.length<=aM/\∃ ds,pur xs=some ds/\Q (.d (.tup ds)) M1
theorem Ft {b:AA}(h:jo u b):zH (Ar u) (Dz b):=
 ⟨fun w e q k=>h.go w e q fun x M1 v H1 O1 q1 k1 w1 r1=>⟨by rw [r1.1];exact q1.1,fun p hp=>by
  obtain ⟨_,ds,e1,q2⟩:=q1
  rw [kf e1] at r1
  have r2:=r1.pure
  exact k _ _ _ _ _ q2 (k1.trans (qz w1 hp _)) (xh w1 hp _) (Rep.tup (w1.fresh hp).1 zm r2.1 fun i x d e1 e2=>(r2.2 i x d e1 e2).ext (qz w1 hp _))⟩⟩
noncomputable def aB (a:AE):AT:=fun ρ M Q=>a ρ M fun x M1=>∃ b,x=.d (.bl b)/\Q b M1
theorem xo {b:Bool}(r:Rep H O v (.bl b)):v=.bl b:=by cases r;rfl
theorem zO {b:Int}(r:Rep H O v (.int b)):v=.int b:=by cases r;rfl
theorem yu {b:Str}(r:Rep H O v (.str b)):v=.str b:=by cases r;rfl
theorem Bw {b:String}(r:Rep H O v (.ty b)):v=.ty b:=by cases r;rfl
theorem vO (r:Rep H O v .non):v=.non:=by cases r;rfl
theorem Ml {t:TE}{a:AE}(h:zH t a):xp (tB t) (aB a):=⟨fun w e q k=>h.go w e q fun x M1 v H1 O1 ⟨b,e1,q1⟩ k1 w1 r1=>by
 subst e1;exact ⟨b,xo r1,k _ _ _ _ q1 k1 w1⟩⟩
theorem WT {t:TE}{a:AE}(h:zH t a):xp (Yk t) (aB a):=⟨fun w e q k=>h.go w e q fun x M1 v H1 O1 ⟨b,e1,q1⟩ k1 w1 r1=>by
 subst e1;exact ⟨b,xo r1,k _ _ _ _ q1 k1 w1⟩⟩
noncomputable def vj:AT:=fun _ M Q=>Q true M
theorem DI:xp Ah vj:=⟨fun w _ q k=>k _ _ _ _ q .refl w⟩
noncomputable def Gf (a b:AT):AT:=fun ρ M Q=>a ρ M fun c M1=>if c=true then b ρ M1 Q else Q false M1
noncomputable def aOr (a b:AT):AT:=fun ρ M Q=>a ρ M fun c M1=>if c=true then Q true M1 else b ρ M1 Q
noncomputable def QS (a:AT):AT:=fun ρ M Q=>a ρ M fun c M1=>Q (!c) M1
theorem Gb {t u:TT}{a b:AT}(h1:xp t a)(h2:xp u b):xp (Im t u) (Gf a b):=⟨fun w e q k=>h1.go w e q fun c M1 H1 O1 q1 k1 w1=>by
 cases c with
 | true=>exact h2.go w1 (e.ext k1) q1 fun c M2 H2 O2 q2 k2 w2=>k _ _ _ _ q2 (k1.trans k2) w2
 | false=>exact k _ _ _ _ q1 k1 w1⟩
theorem HN {t u:TT}{a b:AT}(h1:xp t a)(h2:xp u b):xp (tOr t u) (aOr a b):=⟨fun w e q k=>h1.go w e q fun c M1 H1 O1 q1 k1 w1=>by
 cases c with
 | false=>exact h2.go w1 (e.ext k1) q1 fun c M2 H2 O2 q2 k2 w2=>k _ _ _ _ q2 (k1.trans k2) w2
 | true=>exact k _ _ _ _ q1 k1 w1⟩
theorem FE {a:AT}(h1:xp t a):xp (IJ t) (QS a):=⟨fun w e q k=>h1.go w e q fun c M1 H1 O1 q1 k1 w1=>k _ _ _ _ q1 k1 w1⟩
noncomputable def WB (a b:AE):AE:=fun ρ M Q=>a ρ M fun x M1=>∃ c,x=.d (.bl c)/\if c=true then b ρ M1 Q else Q (.d (.bl false)) M1
theorem BH {t u:TE}{a b:AE}(h1:zH t a)(h2:zH u b):zH (DG t u) (WB a b):=⟨fun w e q k=>h1.go w e q fun x M1 v H1 O1 ⟨c,e1,q1⟩ k1 w1 r1=>by
 subst e1
 refine ⟨c,xo r1,?_⟩
 cases c with
 | true=>exact h2.go w1 (e.ext k1) q1 fun c M2 v2 H2 O2 q2 k2 w2 r2=>k _ _ _ _ _ q2 (k1.trans k2) w2 r2
 | false=>exact k _ _ _ _ _ q1 k1 w1 .bl⟩
noncomputable def aIf (c:AT)(a b:AE):AE:=fun ρ M Q=>c ρ M fun c M1=>if c=true then a ρ M1 Q else b ρ M1 Q
theorem HF {c:TT}{t u:TE}{ac:AT}{a b:AE}(hc:xp c ac)(h1:zH t a)(h2:zH u b):zH (tIf c t u) (aIf ac a b):=⟨fun w e q k=>hc.go w e q fun c M1 H1 O1 q1 k1 w1=>by
 cases c with
 | true=>exact h1.go w1 (e.ext k1) q1 fun c M2 v2 H2 O2 q2 k2 w2 r2=>k _ _ _ _ _ q2 (k1.trans k2) w2 r2
 | false=>exact h2.go w1 (e.ext k1) q1 fun c M2 v2 H2 O2 q2 k2 w2 r2=>k _ _ _ _ _ q2 (k1.trans k2) w2 r2⟩
noncomputable def Xs (r r':AR2)(a b c:AE):AE:=fun ρ M Q=>a ρ M fun x M1=>b ρ M1 fun y M2=>r x y M2 fun z M3=>∃ k,z=.d (.bl k)/\if k=true then c ρ M3 fun u M4=>r' y u M4 Q else Q (.d (.bl false)) M3
theorem VL {r r':R2}{ar ar':AR2}{t u v:TE}{a b c:AE}(hr:yt r ar)(hr':yt r' ar')(h1:zH t a)(h2:zH u b)(h3:zH v c):zH (Xq r r' t u v) (Xs ar ar' a b c):=
 ⟨fun w e q k=>h1.go w e q fun x M1 v H1 O1 q1 k1 w1 r1=>h2.go w1 (e.ext k1) q1 fun y M2 u H2 O2 q2 k2 w2 r2=>hr.go w2 (r1.ext k2) r2 q2 fun z M3 v3 H3 O3 ⟨c,e3,q3⟩ k3 w3 r3=>by
  subst e3
  refine ⟨c,xo r3,?_⟩
  have k13:=(k1.trans k2).trans k3
  cases c with
  | false=>exact k _ _ _ _ _ q3 k13 w3 .bl
  | true=>exact h3.go w3 (e.ext k13) q3 fun z4 M4 v4 H4 O4 q4 k4 w4 r4=>hr'.go w4 ((r2.ext k3).ext k4) r4 q4 fun z5 M5 v5 H5 O5 q5 k5 w5 r5=>k _ _ _ _ _ q5 ((k13.trans k4).trans k5) w5 r5⟩
structure ED (H0:Hp)(O0:Own)(M0:MH)(D:yb)(D':jw):Prop where
 nx:∀ σ H O ρ M,Wf H O M->Er H O M σ ρ->Ext H0 O0 M0 H O M->D'.nx ρ M->D.nx σ H
 rt:∀ v x H O M,Wf H O M->Ext H0 O0 M0 H O M->zq H O M v x->D'.rt x M->D.rt v H
 bk:∀ σ H O ρ M,Wf H O M->Er H O M σ ρ->Ext H0 O0 M0 H O M->D'.bk ρ M->D.bk σ H
 ct:∀ σ H O ρ M,Wf H O M->Er H O M σ ρ->Ext H0 O0 M0 H O M->D'.ct ρ M->D.ct σ H
variable {H0:Hp} {O0:Own}
theorem ED.tr {M0 M1:MH} {D':jw}(E:ED H0 O0 M0 D D')(k:Ext H0 O0 M0 H1 O1 M1):ED H1 O1 M1 D D':=
 ⟨fun σ H O ρ M w e x q=>E.nx σ H O ρ M w e (k.trans x) q,fun v y H O M w x r q=>E.rt v y H O M w (k.trans x) r q,fun σ H O ρ M w e x q=>E.bk σ H O ρ M w e (k.trans x) q,fun σ H O ρ M w e x q=>E.ct σ H O ρ M w e (k.trans x) q⟩
structure jy (t:TS)(a:AS):Prop where
 go:∀ {H0:Hp} {O0:Own} {M0:MH} {D:yb} {D':jw} {σ:St} {H:Hp} {O:Own} {ρ:ASt} {M:MH},Wf H0 O0 M0->Wf H O M->Er H O M σ ρ->Ext H0 O0 M0 H O M->a M0 D' ρ M->ED H0 O0 M0 D D'->t D σ H
noncomputable def kK:AS:=fun _ D ρ M=>D.nx ρ M
theorem WS:jy DA kK:=⟨fun _ w e x q E=>E.nx _ _ _ _ _ w e x q⟩
noncomputable def yN (a b:AS):AS:=fun B D ρ M=>a B { D with nx:=b B D } ρ M
theorem Ef {t u:TS}{a b:AS}(h1:jy t a)(h2:jy u b):jy (Aa t u) (yN a b):=
 ⟨fun w0 w e x q E=>h1.go w0 w e x q ⟨fun σ H O ρ M w e x q=>h2.go w0 w e x q E,E.rt,E.bk,E.ct⟩⟩
noncomputable def AZ (a:AE):AS:=fun _ D ρ M=>a ρ M fun _ M1=>D.nx ρ M1
theorem Wg {t:TE}{a:AE}(h:zH t a):jy (Xz t) (AZ a):=⟨fun _ w e x q E=>h.go w e q fun y M1 v H1 O1 q1 k1 w1 r1=>E.nx _ _ _ _ _ w1 (e.ext k1) (x.trans k1) q1⟩
noncomputable def VT (a:AE):AS:=fun _ D ρ M=>a ρ M D.rt
theorem Gm {t:TE}{a:AE}(h:zH t a):jy (Lu t) (VT a):=⟨fun _ w e x q E=>h.go w e q fun y M1 v H1 O1 q1 k1 w1 r1=>E.rt _ _ _ _ _ w1 (x.trans k1) r1 q1⟩
noncomputable def vE (c:AT)(a b:AS):AS:=fun B D ρ M=>c ρ M fun k M1=>if k=true then a B D ρ M1 else b B D ρ M1
variable {c:TT} {ac:AT}
theorem Gh {t u:TS} {a b:AS}(hc:xp c ac)(h1:jy t a)(h2:jy u b):jy (Ey c t u) (vE ac a b):=
 ⟨fun w0 w e x q E=>hc.go w e q fun k M1 H1 O1 q1 k1 w1=>by
  cases k with
  | true=>exact h1.go w0 w1 (e.ext k1) (x.trans k1) q1 E
  | false=>exact h2.go w0 w1 (e.ext k1) (x.trans k1) q1 E⟩
structure vb (g:TG)(a:AG):Prop where
 go:∀ {v:V} {x:AV} {σ:St} {H:Hp} {O:Own} {ρ:ASt} {M:MH} {Q:St->Hp->Prop} {Q':ASt->MH->Prop},Wf H O M->Er H O M σ ρ->zq H O M v x->a x ρ M Q' ->
  (∀ σ' H' O' ρ' M',Q' ρ' M'->Ext H O M H' O' M'->Wf H' O' M'->Er H' O' M' σ' ρ'->Q σ' H')->g v σ H Q
structure ZD (g:TGs)(a:AGs):Prop where
 go:∀ {v:List V} {x:List AV} {σ:St} {H:Hp} {O:Own} {ρ:ASt} {M:MH} {Q:St->Hp->Prop} {Q':ASt->MH->Prop},Wf H O M->Er H O M σ ρ->zl H O M v x->a x ρ M Q' ->
  (∀ σ' H' O' ρ' M',Q' ρ' M'->Ext H O M H' O' M'->Wf H' O' M'->Er H' O' M' σ' ρ'->Q σ' H')->g v σ H Q
noncomputable def kh (i:Nat):AG:=fun x ρ M Q=>Q (ρ.set i (some x)) M
theorem Ve:vb (QY i) (kh i):=⟨fun w e r q k=>k _ _ _ _ _ q .refl w (e.set r i)⟩
noncomputable def X0:AGs:=fun xs ρ M Q=>xs=[]/\Q ρ M
noncomputable def y8 (a:AG)(b:AGs):AGs:=fun xs ρ M Q=>∃ x r,xs=x :: r/\a x ρ M fun ρ' M'=>b r ρ' M' Q
theorem Du:ZD IG X0:=⟨fun w e r q k=>by obtain ⟨e1,q⟩:=q;subst e1;exact ⟨r.nil_inv,k _ _ _ _ _ q .refl w e⟩⟩
theorem YV {u:TGs}{a:AG}{b:AGs}(h1:vb g a)(h2:ZD u b):ZD (AC g u) (y8 a b):=⟨fun w e r q k=>by
 obtain ⟨x,r',e1,q⟩:=q;subst e1
 obtain ⟨v,vr,e2,rv,rr⟩:=r.cons_inv
 subst e2
 exact ⟨v,vr,rfl,h1.go w e rv q fun σ' H' O' ρ' M' q1 k1 w1 e1=>h2.go w1 e1 (rr.ext k1) q1 fun σ2 H2 O2 ρ2 M2 q2 k2 w2 e2=>k _ _ _ _ _ q2 (k1.trans k2) w2 e2⟩⟩
noncomputable def YN (n:Nat)(b:AGs):AG:=fun x ρ M Q=>∃ l,x=.d (.tup l)/\l.length=n/\b (l.map .d) ρ M Q
theorem A5 {K:ax}{n:Nat}{u:TGs}{b:AGs}(h:ZD u b):vb (J9 K n u) (YN n b):=⟨fun {v x σ H O ρ M Q Q'} w e r q k=>by
 obtain ⟨l,e1,ln,q⟩:=q;subst e1
 cases (show Rep H O v (.tup l) from r) with
 | @tup a xs _ o1 h1 l1 r1=>exact ⟨a,xs,rfl,SqT.of h1,l1.trans ln,h.go w e (Y3.av ⟨l1,r1⟩) q k⟩⟩
noncomputable def qo (x:AV)(M:MH):Option (List AV):=match x with
 | .d (.lst l)=>some (l.map .d)
 | .ref a=>match M a with
  | some (.lst l)=>some l
  | _=>none
 | _=>none
noncomputable def Ek (x:AV):Option (List AV):=match x with
 | .d (.tup l)=>some (l.map .d)
 | .tp l=>some (l.map tiA)
 | _=>none
noncomputable def qO (x:AV)(M:MH):Option (List AV):=match x with
 | .d (.lst l)=>some (l.map .d)
 | .d (.tup l)=>some (l.map .d)
 | .ref a=>match M a with
  | some (.lst l)=>some l
  | _=>none
 | _=>none
theorem Wj (l:List Dat)(M:MH):qo (.d (.lst l)) M=some (l.map .d):=rfl
theorem Hd (l:List Dat):Ek (.d (.tup l))=some (l.map .d):=rfl
theorem K5 (l:List Dat)(M:MH):qO (.d (.lst l)) M=some (l.map .d):=rfl
theorem Ig (l:List Dat)(M:MH):qO (.d (.tup l)) M=some (l.map .d):=rfl
theorem jx (h:M a=some (.lst l)):qo (.ref a) M=some l:=by unfold qo;dsimp only;rw [h]
theorem zz (h:M a=some (.lst l)):qO (.ref a) M=some l:=by unfold qO;dsimp only;rw [h]
theorem BM {x:AV}{M:MH}{l:List AV}(h:qo x M=some l):(∃ m,x=.d (.lst m)/\l=m.map .d) \/ ∃ a,x=.ref a/\M a=some (.lst l):=by
 cases x with
 | d x=>
  cases x with
  | lst m=>cases h;exact .inl ⟨m,rfl,rfl⟩
  | _=>cases h
 | ref a=>
  unfold qo at h
  dsimp only at h
  cases e:M a with
  | none=>rw [e] at h;cases h
  | some o=>
   rw [e] at h
   cases o with
   | lst m=>cases h;exact .inr ⟨a,rfl,e⟩
   | _=>cases h
 | tp l=>cases h
theorem kB {x:AV}{M:MH}{l:List AV}(h:qO x M=some l):qo x M=some l \/ ∃ m,x=.d (.tup m)/\l=m.map .d:=by
 cases x with
 | d x=>
  cases x with
  | lst m=>cases h;exact .inl rfl
  | tup m=>cases h;exact .inr ⟨m,rfl,rfl⟩
  | _=>cases h
 | ref a=>exact .inl h
 | tp l=>cases h
theorem qx {x:AV} (w:Wf H O M)(r:zq H O M v x)(h:qo x M=some l):∃ a xs,v=.ref a/\H a=some (.lst xs)/\zl H O M xs l:=by
 rcases BM h with ⟨m,rfl,rfl⟩ | ⟨a,rfl,e⟩
 ·cases (show Rep H O v (.lst m) from r) with
  | @lst a xs _ o1 h1 l1 r1=>exact ⟨a,xs,rfl,h1,Y3.av ⟨l1,r1⟩⟩
 ·obtain ⟨xs,h1,r1⟩:=w.mo a _ e
  exact ⟨a,xs,r.1,h1,r1⟩
theorem Dn.av {m:List (Dat ⊕ au)}(r:Dn H O M xs m):zl H O M xs (m.map tiA):=⟨by rw [aq];exact r.1,fun i x d e1 e2=>by
 rw [aE] at e2
 obtain ⟨t,e3,rfl⟩:=dA.mp e2
 have:=r.2 i x t e1 e3
 cases t <;> exact this⟩
theorem jk {H:Hp}{O:Own}{M:MH}{v:V}{x:AV}{l:List AV}(r:zq H O M v x)(h:Ek x=some l):∃ a xs,v=.ref a/\H a=some (.tup xs)/\zl H O M xs l:=by
 cases x with
 | ref a=>cases h
 | tp m=>
  cases h
  obtain ⟨a,xs,e,_,h1,r1⟩:=r
  exact ⟨a,xs,e,h1,r1.av⟩
 | d x=>
  cases x with
  | tup m=>
   cases h
   cases (show Rep H O v (.tup m) from r) with
   | @tup a xs _ o1 h1 l1 r1=>exact ⟨a,xs,rfl,h1,Y3.av ⟨l1,r1⟩⟩
  | _=>cases h
theorem Qp {x:AV} (w:Wf H O M)(r:zq H O M v x)(h:qO x M=some l):∃ a xs,v=.ref a/\(H a=some (.lst xs) \/ H a=some (.tup xs))/\zl H O M xs l:=by
 rcases kB h with e | ⟨m,rfl,rfl⟩
 ·obtain ⟨a,xs,h1,h2,h3⟩:=qx w r e;exact ⟨a,xs,h1,.inl h2,h3⟩
 ·obtain ⟨a,xs,h1,h2,h3⟩:=jk (l:=m.map .d) r rfl;exact ⟨a,xs,h1,.inr h2,h3⟩
structure QI (t:Q6)(a:AV->AV->AV->MH->(MH->Prop)->Prop):Prop where
 go:∀ {o i v:V} {ao ai av:AV} {H:Hp} {O:Own} {M:MH} {Q:Hp->Prop} {Q':MH->Prop},Wf H O M->zq H O M o ao->zq H O M i ai->zq H O M v av->a ao ai av M Q'->(∀ M' H' O',Q' M'->Ext H O M H' O' M'->Wf H' O' M'->Q H')->t o i v H Q
noncomputable def GP (a b:AE)(s:AV->AV->AV->MH->(MH->Prop)->Prop):AG:=fun x ρ M Q=>a ρ M fun o M1=>b ρ M1 fun i M2=>s o i x M2 fun M3=>Q ρ M3
theorem AH {to ti:TE}{t:Q6}{a b:AE}{s:AV->AV->AV->MH->(MH->Prop)->Prop}(h1:zH to a)(h2:zH ti b)(h3:QI t s):vb (Ls to ti t) (GP a b s):=⟨fun w e r q k=>
 h1.go w e q fun x M1 v H1 O1 q1 k1 w1 r1=>h2.go w1 (e.ext k1) q1 fun y M2 u H2 O2 q2 k2 w2 r2=>h3.go w2 (r1.ext k2) r2 (r.ext (k1.trans k2)) q2 fun M3 H3 O3 q3 k3 w3=>k _ _ _ _ _ q3 ((k1.trans k2).trans k3) w3 (e.ext ((k1.trans k2).trans k3))⟩
theorem zW {o:MO}(h:M p=some o):M p ≠ none:=by rw [h];exact fun z=>nomatch z
noncomputable def asL:AV->AV->AV->MH->(MH->Prop)->Prop:=fun o i v M Q=>∃ p l k j,o=.ref p/\i=.d (.int k)/\M p=some (.lst l)/\ixN l.length k=some j/\Q (mup M p (.lst (l.set j v)))
theorem Aj:QI K3 asL:=⟨fun w ro ri rv q k=>by
 obtain ⟨p,l,n,j,rfl,rfl,hm,hj,q⟩:=q
 obtain ⟨xs,hx,rx⟩:=w.mo p _ hm
 have np:=zW hm
 refine ⟨n,zO ri,p,ro.1,xs,hx,j,by rw [rx.1];exact hj,k _ _ _ q (j5 w np _ _) (Qi w np (fun _ z=>nomatch z) ⟨_,zm,(rx.set rv j).ext (j5 w np _ _)⟩)⟩⟩
noncomputable def EU (a:AE)(g:AG):AS:=fun _ D ρ M=>a ρ M fun x M1=>g x ρ M1 D.nx
variable {ag:AG}
theorem Gj {t:TE} {a:AE} (h:zH t a)(hg:vb g ag):jy (JS t g) (EU a ag):=⟨fun _ w e x q E=>h.go w e q fun y M1 v H1 O1 q1 k1 w1 r1=>hg.go w1 (e.ext k1) r1 q1 fun σ2 H2 O2 ρ2 M2 q2 k2 w2 e2=>E.nx _ _ _ _ _ w2 e2 ((x.trans k1).trans k2) q2⟩
noncomputable def LX (i j:Nat)(a:AA):AS:=fun _ D ρ M=>a ρ M fun xs M1=>∃ x y,xs=[x,y]/\D.nx ((ρ.set i (some x)).set j (some y)) M1
theorem Gk {t:TA}{a:AA}(h:jo t a):jy (IB i j t) (LX i j a):=⟨fun _ w e x q E=>h.go w e q fun ys M1 vs H1 O1 q1 k1 w1 r1=>by
 obtain ⟨y,z,rfl,q2⟩:=q1
 obtain ⟨v1,r',rfl,a1,r2⟩:=r1.cons_inv
 obtain ⟨v2,r',rfl,a2,r3⟩:=r2.cons_inv
 rw [r3.nil_inv]
 exact ⟨v1,v2,rfl,E.nx _ _ _ _ _ w1 (((e.ext k1).set a1 i).set a2 j) (x.trans k1) q2⟩⟩
structure Gy (t:TIp)(a:AR2):Prop where
 go:∀ {x y:V} {dx dy:AV} {H:Hp} {O:Own} {M:MH} {Q:VK} {Q':AK},Wf H O M->zq H O M x dx->zq H O M y dy->a dx dy M Q'->(∀ x M' v H' O',Q' x M'->Ext H O M H' O' M'->Wf H' O' M'->zq H' O' M' v x->Q v H')->t x y H Q
noncomputable def G0 (ao ai ae:AE)(gt ip:AR2)(st:AV->AV->AV->MH->(MH->Prop)->Prop):AS:=fun _ D ρ M=>ao ρ M fun o M1=>ai ρ M1 fun i M2=>gt o i M2 fun x M3=>ae ρ M3 fun y M4=>ip x y M4 fun z M5=>st o i z M5 fun M6=>D.nx ρ M6
theorem W2 {to ti te:TE}{tg:V->V->Hp->VK->Prop}{tip:TIp}{ts:Q6}{ao ai ae:AE}{gt ip:AR2}{st:AV->AV->AV->MH->(MH->Prop)->Prop}(h1:zH to ao)(h2:zH ti ai)(h3:yt tg gt)(h4:zH te ae)(h5:Gy tip ip)(h6:QI ts st) :
  jy (BS to ti te tg tip ts) (G0 ao ai ae gt ip st):=⟨fun _ w e x q E=>h1.go w e q fun o M1 v1 H1 O1 q1 k1 w1 r1=>h2.go w1 (e.ext k1) q1 fun i M2 v2 H2 O2 q2 k2 w2 r2=>h3.go w2 (r1.ext k2) r2 q2 fun y M3 v3 H3 O3 q3 k3 w3 r3=>
  h4.go w3 (e.ext ((k1.trans k2).trans k3)) q3 fun z M4 v4 H4 O4 q4 k4 w4 r4=>h5.go w4 (r3.ext k4) r4 q4 fun z5 M5 v5 H5 O5 q5 k5 w5 r5=>h6.go w5 (r1.ext (((k2.trans k3).trans k4).trans k5)) (r2.ext ((k3.trans k4).trans k5)) r5 q5 fun M6 H6 O6 q6 k6 w6=>
   E.nx _ _ _ _ _ w6 (e.ext (((((k1.trans k2).trans k3).trans k4).trans k5).trans k6)) (x.trans (((((k1.trans k2).trans k3).trans k4).trans k5).trans k6)) q6⟩
def ym (J:It)(H:Hp)(O:Own)(M:MH)(l:List AV)(G:MH->Prop):Prop:=
 ∀ (H':Hp) (O':Own) (M':MH),(∀ a o,¬ O a->H a=some o->H' a=some o/\¬ O' a)->(∀ a,M a ≠ none->M' a ≠ none)->Wf H' O' M'->G M'->∀ i:Nat,(i=l.length->J.stop i H') /\
  ∀ y,l[i]?=some y->J.go i H'/\∀ x H'',J.yld i H' x H''->Ext H' O' M' H'' O' M'/\Wf H'' O' M'/\zq H'' O' M' x y
structure ZZ (wi:TI)(ai:AI):Prop where
 go:∀ {σ:St} {H:Hp} {O:Own} {ρ:ASt} {M:MH} {R:It->Hp->Prop} {R':List AV->(MH->Prop)->MH->Prop},Wf H O M->Er H O M σ ρ->ai ρ M R'->(∀ l G M' J H' O',R' l G M'->Ext H O M H' O' M'->Wf H' O' M'->ym J H' O' M' l G->R J H')->wi σ H R
def MB (ag:AG)(ab:AS)(B:MH)(D:jw)(G:MH->Prop)(l:List AV)(ρ:ASt)(M:MH):Prop:=
 ∃ Pv:Nat->ASt->MH->Prop,Pv 0 ρ M/\(∀ i x ρ M,l[i]?=some x->Pv i ρ M->G M/\ag x ρ M fun ρ' M'=>ab B { D with nx:=Pv (i+1),ct:=Pv (i+1),bk:=D.nx } ρ' M')/\∀ ρ M,Pv l.length ρ M->G M/\D.nx ρ M
noncomputable def LB (ai:AI)(ag:AG)(ab:AS):AS:=fun _ D ρ M=>ai ρ M fun l G M1=>MB ag ab M1 D G l ρ M1
variable {ai:AI}
theorem EW {t:TS} {ab:AS}(hi:ZZ wi ai)(hg:vb g ag)(hb:jy t ab):jy (EJ wi g t) (LB ai ag ab):=⟨fun {H0 O0 M0 D D' σ H O ρ M} w0 w e x q E=>by
 rw [Z3]
 refine hi.go w e q fun l G M1 J H1 O1 q1 k1 w1 hj=>?_
 have E1:=E.tr (x.trans k1)
 obtain ⟨Pv,p0,ps,pd⟩:=q1
 refine ⟨fun i m σ H=>m=l.length - i/\i<=l.length/\∃ O ρ M,Wf H O M/\Er H O M σ ρ/\Ext H1 O1 M1 H O M/\Pv i ρ M,⟨l.length,by simp,cK _,O1,ρ,M1,w1,e.ext k1,.refl,p0⟩,?_⟩
 rintro i m σ H ⟨rfl,hi,O,ρ,M,w,e,x,hf⟩
 by_cases hil:i<l.length
 ·have hy:l[i]?=some l[i]:=am hil
  obtain ⟨hG,q2⟩:=ps i l[i] ρ M hy hf
  obtain ⟨j1,j2⟩:=(hj H O M x.fix x.mst w hG i).2 l[i] hy
  refine .inr ⟨j1,fun σ' H'=>∃ O ρ M,Wf H' O M/\Er H' O M σ' ρ/\Ext H1 O1 M1 H' O M/\Pv (i+1) ρ M,fun σ' H' z=>⟨l.length - (i+1),by omega,rfl,hil,z⟩,fun v H' hv=>?_⟩
  obtain ⟨k2,w2,r2⟩:=j2 v H' hv
  refine hg.go w2 (e.ext k2) r2 q2 fun σ3 H3 O3 ρ3 M3 q3 k3 w3 e3=>?_
  exact hb.go w1 w3 e3 ((x.trans k2).trans k3) q3 ⟨fun σ H O ρ M w e x q=>⟨O,ρ,M,w,e,x,q⟩,E1.rt,E1.nx,fun σ H O ρ M w e x q=>⟨O,ρ,M,w,e,x,q⟩⟩
 ·have e0:i=l.length:=by omega
  subst e0
  obtain ⟨hG,q2⟩:=pd ρ M hf
  exact .inl ⟨(hj H O M x.fix x.mst w hG l.length).1 rfl,E1.nx _ _ _ _ _ w e x q2⟩⟩
theorem wV {H H1:Hp}{O O1:Own}{M M1:MH}(w1:Wf H1 O1 M1)(k1:Ext H O M H1 O1 M1){p:au}(hp:H1 p=none):H p=none:=by
 cases e0:H p with
 | none=>rfl
 | some o=>
  exfalso
  by_cases c:O p
  ·by_cases c2:M p=none
   ·exact w1.ne p (k1.prv p c c2).2.1 hp
   ·exact w1.ne p (w1.own p (k1.mst p c2)) hp
  ·rw [(k1.fix p o c e0).1] at hp;cases hp
theorem Vl {x:AV} (r:zq H O M (.ref a) x)(h:qo x M=some l):ym (Itl K a) H O M l (fun M'=>qo x M'=some l):=by
 intro H' O' M' fix mst w' hG i
 obtain ⟨a',xs,e,h1,r1⟩:=qx w' (r.imp fix mst) hG
 cases e
 refine ⟨fun e=>⟨xs,SqL.of h1,by rw [r1.1];omega⟩,fun y hy=>?_⟩
 obtain ⟨v,hv,rv⟩:=r1.get hy
 refine ⟨⟨xs,v,SqL.of h1,hv⟩,fun z H'' hz=>?_⟩
 obtain ⟨e1,e2⟩:=hz
 subst e1
 have:=e2 xs (SqL.of h1)
 rw [hv] at this;cases this
 exact ⟨.refl,w',rv⟩
theorem Wh {x:AV} (r:zq H O M (.ref a) x)(h:Ek x=some l):ym (Itt K a) H O M l (fun _=>True):=by
 intro H' O' M' fix mst w' hG i
 obtain ⟨a',xs,e,h1,r1⟩:=jk (r.imp fix mst) h
 cases e
 refine ⟨fun e=>⟨xs,SqT.of h1,by rw [r1.1];omega⟩,fun y hy=>?_⟩
 obtain ⟨v,hv,rv⟩:=r1.get hy
 refine ⟨⟨xs,v,SqT.of h1,hv⟩,fun z H'' hz=>?_⟩
 obtain ⟨e1,e2⟩:=hz
 subst e1
 have:=e2 xs (SqT.of h1)
 rw [hv] at this;cases this
 exact ⟨.refl,w',rv⟩
noncomputable def aiS (a:AE):AI:=fun ρ M R=>a ρ M fun x M1=>∃ l,qO x M1=some l/\R l (fun M'=>qO x M'=some l) M1
variable {J:It}
theorem ym.mono {G G':MH->Prop}(h:ym J H O M l G)(k:∀ M,G' M->G M):ym J H O M l G':=fun H' O' M' fix mst w' hG=>h H' O' M' fix mst w' (k _ hG)
theorem Hg {t:TE}{a:AE}(h:zH t a):ZZ (iLT K t) (aiS a):=⟨fun w e q k=>h.go w e q fun x M1 v H1 O1 ⟨l,hl,q1⟩ k1 w1 r1=>by
 rcases kB hl with hl' | ⟨m,rfl,rfl⟩
 ·obtain ⟨a,xs,rfl,h1,_⟩:=qx w1 r1 hl'
  refine ⟨a,rfl,.inl ⟨⟨xs,SqL.of h1⟩,k _ _ _ _ _ _ q1 k1 w1 ((Vl r1 hl').mono fun M hM=>?_)⟩⟩
  rcases kB hM with z | ⟨m,rfl,rfl⟩
  ·exact z
  ·cases hl'
 ·obtain ⟨a,xs,rfl,h1,_⟩:=jk (l:=m.map .d) r1 rfl
  exact ⟨a,rfl,.inr ⟨⟨xs,SqT.of h1⟩,k _ _ _ _ _ _ q1 k1 w1 ((Wh r1 rfl).mono fun _ _=>trivial)⟩⟩⟩
noncomputable def w8 (lo c:Int)(n:Nat):List AV:=(bW n).map fun (k:Nat)=>.d (.int (lo+(k:Int) * c))
theorem jU (lo c:Int)(n:Nat):(w8 lo c n).length=n:=by simp [w8]
variable {y:AV}
theorem xq {lo c:Int} (h:(w8 lo c n)[i]?=some y):i<n/\y=.d (.int (lo+(i:Int) * c)):=by
 have hi:=(aD.mp h).1
 rw [jU] at hi
 unfold w8 at h
 rw [aE,fb hi] at h
 cases h
 exact ⟨hi,rfl⟩
theorem W9 (lo:Int)(n:Nat):ym (Itr lo n) H O M (w8 lo 1 n) (fun _=>True):=by
 intro H' O' M' fix mst w' hG i
 refine ⟨fun e=>by rw [jU] at e;exact lG e.symm,fun y hy=>?_⟩
 obtain ⟨hi,rfl⟩:=xq hy
 refine ⟨hi,fun z H'' hz=>?_⟩
 obtain ⟨rfl,rfl⟩:=hz
 rw [iJ]
 exact ⟨.refl,w',.int⟩
noncomputable def LS (a:AA):AI:=fun ρ M R=>a ρ M fun xs M1=>∃ j:Int,xs=[.d (.int j)]/\-(2 ^ 62)<=j/\j<2 ^ 62/\R (w8 0 1 j.toNat) (fun _=>True) M1
theorem EC {t:TA}{a:AA}(h:jo t a):ZZ (WC t) (LS a):=⟨fun w e q k=>h.go w e q fun x M1 v H1 O1 ⟨j,e1,j1,j2,q1⟩ k1 w1 r1=>by
 subst e1
 obtain ⟨v1,r',rfl,a1,r2⟩:=r1.cons_inv
 rw [r2.nil_inv,zO a1]
 exact ⟨j,rfl,j1,j2,k _ _ _ _ _ _ q1 k1 w1 (W9 _ _)⟩⟩
noncomputable def wq (m:List Dat):List AV:=(bW m.length).map fun (i:Nat)=>.d (.tup [.int (i:Int),m.getD i .non])
theorem kC (m:List Dat):(wq m).length=m.length:=by simp [wq]
theorem xR {m:List Dat} (h:(wq m)[i]?=some y):∃ d,m[i]?=some d/\y=.d (.tup [.int (i:Int),d]):=by
 have hi:=(aD.mp h).1
 rw [kC] at hi
 unfold wq at h
 rw [aE,fb hi] at h
 cases h
 exact ⟨m[i],am hi,by dsimp only;rw [ay,am hi];rfl⟩
theorem yL (w:Wf H O M) (hp:H p=none){x y:V}{d e:Dat}(r1:Rep H O x d)(r2:Rep H O y e):Ext H O M (upd H p (.tup [x,y])) O M/\Wf (upd H p (.tup [x,y])) O M/\zq (upd H p (.tup [x,y])) O M (.ref p) (.d (.tup [d,e])):=
 ⟨qz w hp _,xh w hp _,Rep.tup (w.fresh hp).1 zm rfl fun i z f h1 h2=>by
  match i,h1,h2 with
  | 0,h1,h2=>cases h1;cases h2;exact r1.ext (qz w hp _)
  | 1,h1,h2=>cases h1;cases h2;exact r2.ext (qz w hp _)
  | (i+2),h1,_=>cases h1⟩
theorem YT {x:AV}{m:List Dat}(r:zq H O M (.ref a) x)(h:qo x M=some (m.map .d)):ym (Ite K a) H O M (wq m) (fun M'=>qo x M'=some (m.map .d)):=by
 intro H' O' M' fix mst w' hG i
 obtain ⟨a',xs,e,h1,r1⟩:=qx w' (r.imp fix mst) hG
 cases e
 have l1:=r1.1
 rw [aq] at l1
 refine ⟨fun e=>⟨xs,SqL.of h1,by rw [kC] at e;omega⟩,fun y hy=>?_⟩
 obtain ⟨d,hd,rfl⟩:=xR hy
 obtain ⟨v,hv,rv⟩:=r1.get (i:=i) (d:=.d d) (by rw [aE,hd];rfl)
 refine ⟨⟨xs,v,SqL.of h1,hv⟩,fun z H'' hz=>?_⟩
 obtain ⟨p,x',hp,rfl,e2,rfl⟩:=hz
 have:=e2 xs (SqL.of h1)
 rw [hv] at this;cases this
 exact yL w' hp .int rv
theorem KW {m:List Dat}(r:zq H O M (.ref a) (.d (.tup m))):ym (LA K a) H O M (wq m) (fun _=>True):=by
 intro H' O' M' fix mst w' hG i
 obtain ⟨a',xs,e,h1,r1⟩:=jk (l:=m.map .d) (r.imp fix mst) rfl
 cases e
 have l1:=r1.1
 rw [aq] at l1
 refine ⟨fun e=>⟨xs,SqT.of h1,by rw [kC] at e;omega⟩,fun y hy=>?_⟩
 obtain ⟨d,hd,rfl⟩:=xR hy
 obtain ⟨v,hv,rv⟩:=r1.get (i:=i) (d:=.d d) (by rw [aE,hd];rfl)
 refine ⟨⟨xs,v,SqT.of h1,hv⟩,fun z H'' hz=>?_⟩
 obtain ⟨p,x',hp,rfl,e2,rfl⟩:=hz
 have:=e2 xs (SqT.of h1)
 rw [hv] at this;cases this
 exact yL w' hp .int rv
noncomputable def aiE (a:AA):AI:=fun ρ M R=>a ρ M fun xs M1=>∃ x l m,xs=[x]/\qO x M1=some l/\pur l=some m/\R (wq m) (fun M'=>qO x M'=some l) M1
variable {l':List AV}
theorem Xn {x:AV} (h:qo x M=some l)(h':qO x M'=some l'):qo x M'=some l':=by
 rcases kB h' with z | ⟨m,rfl,rfl⟩
 ·exact z
 ·cases h
theorem IR {t:TA}{a:AA}(h:jo t a):ZZ (yr K t) (aiE a):=⟨fun w e q k=>h.go w e q fun xs M1 v H1 O1 ⟨x,l,m,e1,hl,hm,q1⟩ k1 w1 r1=>by
 subst e1
 obtain ⟨v1,r',rfl,a1,r2⟩:=r1.cons_inv
 rw [r2.nil_inv]
 rw [kf hm] at hl q1
 rcases kB hl with hl' | ⟨m',rfl,e2⟩
 ·obtain ⟨a,xs,rfl,h1,_⟩:=qx w1 a1 hl'
  exact ⟨a,rfl,.inl ⟨⟨xs,SqL.of h1⟩,k _ _ _ _ _ _ q1 k1 w1 ((YT a1 hl').mono fun M hM=>Xn hl' hM)⟩⟩
 ·obtain rfl:m=m':=by have:=congrArg pur e2;rw [qc,qc] at this;cases this;rfl
  obtain ⟨a,xs,rfl,h1,_⟩:=jk (l:=m.map .d) a1 rfl
  exact ⟨a,rfl,.inr ⟨⟨xs,SqT.of h1⟩,k _ _ _ _ _ _ q1 k1 w1 ((KW a1).mono fun _ _=>trivial)⟩⟩⟩
noncomputable def ZM (m n:List Dat):List AV:=(bW (min m.length n.length)).map fun (i:Nat)=>.d (.tup [m.getD i .non,n.getD i .non])
theorem xE (m n:List Dat):(ZM m n).length=min m.length n.length:=by simp [ZM]
theorem wv {m n:List Dat} (h:(ZM m n)[i]?=some y):∃ d e,m[i]?=some d/\n[i]?=some e/\y=.d (.tup [d,e]):=by
 have hi:=(aD.mp h).1
 rw [xE] at hi
 unfold ZM at h
 rw [aE,fb hi] at h
 cases h
 have h1:i<m.length:=by omega
 have h2:i<n.length:=by omega
 exact ⟨m[i],n[i],am h1,am h2,by dsimp only;rw [ay,am h1,ay,am h2];rfl⟩
theorem A6 {x y:AV}{m n:List Dat}(r:zq H O M (.ref a) x)(h:qo x M=some (m.map .d))(r':zq H O M (.ref b) y)(h':qo y M=some (n.map .d)):ym (Itz K a b) H O M (ZM m n) (fun M'=>qo x M'=some (m.map .d)/\qo y M'=some (n.map .d)):=by
 intro H' O' M' fix mst w' hG i
 obtain ⟨a',xs,e,h1,r1⟩:=qx w' (r.imp fix mst) hG.1
 cases e
 obtain ⟨b',ys,e,h2,r2⟩:=qx w' (r'.imp fix mst) hG.2
 cases e
 have l1:=r1.1
 have l2:=r2.1
 rw [aq] at l1 l2
 refine ⟨fun e=>⟨xs,ys,SqL.of h1,SqL.of h2,by rw [xE] at e;omega⟩,fun z hz=>?_⟩
 obtain ⟨d,f,hd,hf,rfl⟩:=wv hz
 obtain ⟨v,hv,rv⟩:=r1.get (i:=i) (d:=.d d) (by rw [aE,hd];rfl)
 obtain ⟨u,hu,ru⟩:=r2.get (i:=i) (d:=.d f) (by rw [aE,hf];rfl)
 refine ⟨⟨xs,ys,v,u,SqL.of h1,SqL.of h2,hv,hu⟩,fun z H'' hz=>?_⟩
 obtain ⟨p,x',y',hp,rfl,e2,e3,rfl⟩:=hz
 have:=e2 xs (SqL.of h1)
 rw [hv] at this;cases this
 have:=e3 ys (SqL.of h2)
 rw [hu] at this;cases this
 exact yL w' hp rv ru
theorem Vn {m n:List Dat}(hmn:m.length<=n.length)(r:zq H O M (.ref a) (.d (.tup m)))(r':zq H O M (.ref b) (.d (.tup n))):ym (IH K a b) H O M (ZM m n) (fun _=>True):=by
 intro H' O' M' fix mst w' hG i
 obtain ⟨a',xs,e,h1,r1⟩:=jk (l:=m.map .d) (r.imp fix mst) rfl
 cases e
 obtain ⟨b',ys,e,h2,r2⟩:=jk (l:=n.map .d) (r'.imp fix mst) rfl
 cases e
 have l1:=r1.1
 have l2:=r2.1
 rw [aq] at l1 l2
 refine ⟨fun e=>⟨xs,SqT.of h1,by rw [xE] at e;omega⟩,fun z hz=>?_⟩
 obtain ⟨d,f,hd,hf,rfl⟩:=wv hz
 obtain ⟨v,hv,rv⟩:=r1.get (i:=i) (d:=.d d) (by rw [aE,hd];rfl)
 obtain ⟨u,hu,ru⟩:=r2.get (i:=i) (d:=.d f) (by rw [aE,hf];rfl)
 refine ⟨⟨xs,ys,v,u,SqT.of h1,SqT.of h2,hv,hu⟩,fun z H'' hz=>?_⟩
 obtain ⟨p,x',y',hp,rfl,e2,e3,rfl⟩:=hz
 have:=e2 xs (SqT.of h1)
 rw [hv] at this;cases this
 have:=e3 ys (SqT.of h2)
 rw [hu] at this;cases this
 exact yL w' hp rv ru
noncomputable def Hu (a:AA):AI:=fun ρ M R=>a ρ M fun xs M1=>∃ x y m n,xs=[x,y]/\((qo x M1=some (cf AV.d m)/\qo y M1=some (cf AV.d n)) \/ (x=.d (.tup m)/\y=.d (.tup n)/\m.length<=n.length))/\R (ZM m n) (fun M'=>qo x M'=qo x M1/\qo y M'=qo y M1) M1
theorem FN {t:TA}{a:AA}(h:jo t a):ZZ (KB K t) (Hu a):=⟨fun w e q k=>h.go w e q fun xs M1 v H1 O1 ⟨x,y,m,n,e1,hxy,q1⟩ k1 w1 r1=>by
 subst e1
 obtain ⟨v1,r',rfl,a1,r2⟩:=r1.cons_inv
 obtain ⟨v2,r',rfl,a2,r3⟩:=r2.cons_inv
 rw [r3.nil_inv]
 rcases hxy with ⟨hx,hy⟩ | ⟨rfl,rfl,hmn⟩
 ·obtain ⟨a,xs,rfl,h1,_⟩:=qx w1 a1 hx
  obtain ⟨b,ys,rfl,h2,_⟩:=qx w1 a2 hy
  exact ⟨a,b,rfl,.inl ⟨⟨xs,SqL.of h1⟩,⟨ys,SqL.of h2⟩,k _ _ _ _ _ _ q1 k1 w1 ((A6 a1 hx a2 hy).mono fun _ z=>⟨z.1.trans hx,z.2.trans hy⟩)⟩⟩
 ·obtain ⟨a,xs,rfl,h1,_⟩:=jk (l:=m.map .d) a1 rfl
  obtain ⟨b,ys,rfl,h2,_⟩:=jk (l:=n.map .d) a2 rfl
  exact ⟨a,b,rfl,.inr ⟨⟨xs,SqT.of h1⟩,⟨ys,SqT.of h2⟩,k _ _ _ _ _ _ q1 k1 w1 ((Vn hmn a1 a2).mono fun _ _=>trivial)⟩⟩⟩
structure vG (D:au)(H:Hp)(O:Own)(M:MH)(H':Hp)(O':Own)(M':MH):Prop where
 fix:∀ a o,¬ O a->H a=some o->H' a=some o/\¬ O' a
 prv:∀ a,a ≠ D->O a->M a=none->H' a=H a/\O' a/\M' a=none
 mst:∀ a,M a ≠ none->M' a ≠ none
theorem Ext.x {D:au} (k:Ext H O M H' O' M'):vG D H O M H' O' M':=⟨k.fix,fun a _=>k.prv a,k.mst⟩
theorem vG.trans {D:au} {M M1 M2:MH}(a:vG D H O M H1 O1 M1)(b:vG D H1 O1 M1 H2 O2 M2):vG D H O M H2 O2 M2:=
 ⟨fun x o h e=>let ⟨e1,h1⟩:=a.fix x o h e;b.fix x o h1 e1,fun x hx h e=>by
  obtain ⟨e1,h1,n1⟩:=a.prv x hx h e
  obtain ⟨e2,h2,n2⟩:=b.prv x hx h1 n1
  exact ⟨e2.trans e1,h2,n2⟩,fun x h=>b.mst x (a.mst x h)⟩
theorem vG.set {D:au} (hO:O D)(o:HO):vG D H O M (upd H D o) O M:=⟨vJ hO o,fun a ha h e=>⟨zk ha,h,e⟩,fun _ h=>h⟩
theorem Er.imp (e:Er H O M σ ρ)(k:∀ a o,¬ O a->H a=some o->H' a=some o/\¬ O' a)(hm:∀ a,M a ≠ none->M' a ≠ none):Er H' O' M' σ ρ:=⟨e.len,fun i x h=>let ⟨v,h1,h2⟩:=e.get i x h;⟨v,h1,h2.imp k hm⟩⟩
abbrev ATR:=List AV->ASt->MH->(List AV->ASt->MH->Prop)->Prop
structure XX (D:au)(tr:TR)(a:ATR):Prop where
 go:∀ {σ:St} {H:Hp} {O:Own} {ρ:ASt} {M:MH} {acc:List AV} {ys:List V} {N:St->Hp->Prop} {N':List AV->ASt->MH->Prop},Wf H O M->Er H O M σ ρ->O D->M D=none->H D=some (.lst ys)->zl H O M ys acc->a acc ρ M N' ->
  (∀ acc' ρ' M' σ' H' O' ys',N' acc' ρ' M'->vG D H O M H' O' M'->Wf H' O' M'->Er H' O' M' σ' ρ'->O' D->M' D=none->H' D=some (.lst ys')->zl H' O' M' ys' acc'->N σ' H')->tr σ H N
noncomputable def xy (a:AE):ATR:=fun acc ρ M N=>a ρ M fun x M1=>acc.length<aM/\N (acc ++ [x]) ρ M1
theorem JI {D:au}{t:TE}{a:AE}(h:zH t a):XX D (Ks t D) (xy a):=⟨fun {σ H O ρ M acc ys N N'} w e o m hd r q k=>h.go w e q fun x M1 v H1 O1 ⟨q0,q1⟩ k1 w1 r1=>by
 obtain ⟨e1,o1,m1⟩:=k1.prv D o m
 have r':=r.ext k1
 refine ⟨ys,e1.trans hd,by rw [r.1];exact q0,k _ _ _ _ _ _ (ys ++ [v]) q1 (k1.x.trans (vG.set o1 _)) (Xd w1 o1 m1 (e1.trans hd) _ (fun _ z=>nomatch z)) ((e.ext k1).imp (vJ o1 _) (fun _ z=>z)) o1 m1 zm ((r'.snoc r1).imp (vJ o1 _) (fun _ z=>z))⟩⟩
def Je (ag:AG)(at_:AT)(tr:ATR)(G:MH->Prop)(N:List AV->ASt->MH->Prop)(l acc:List AV)(ρ:ASt)(M:MH):Prop:=
 ∃ Pv:Nat->List AV->ASt->MH->Prop,Pv 0 acc ρ M/\(∀ i x acc ρ M,l[i]?=some x->Pv i acc ρ M->G M/\ag x ρ M fun ρ2 M2=>at_ ρ2 M2 fun b M3=>if b=true then tr acc ρ2 M3 (Pv (i+1)) else Pv (i+1) acc ρ2 M3)/\∀ acc ρ M,Pv l.length acc ρ M->G M/\N acc ρ M
variable {at_:AT} {atr:ATR} {G:MH->Prop}
theorem Lc {D:au} {tr:TR} (hg:vb g ag)(ht:xp tt at_)(hr:XX D tr atr) {M1:MH} (hj:ym J H1 O1 M1 l G){N':List AV->ASt->MH->Prop}{N:St->Hp->Prop}
 {acc:List AV} (w:Wf H1 O1 M1) (e:Er H1 O1 M1 σ ρ) (o:O1 D) (m:M1 D=none) (hd:H1 D=some (.lst ys)) (r:zl H1 O1 M1 ys acc) (q:Je ag at_ atr G N' l acc ρ M1)
  (k:∀ acc' ρ' M' σ' H' O' ys',N' acc' ρ' M'->vG D H1 O1 M1 H' O' M'->Wf H' O' M'->Er H' O' M' σ' ρ'->O' D->M' D=none->H' D=some (.lst ys')->zl H' O' M' ys' acc'->N σ' H'):CL J g tt tr N σ H1:=by
 obtain ⟨Pv,p0,ps,pd⟩:=q
 refine ⟨fun i n σ H=>n=l.length - i/\i<=l.length/\∃ O ρ M acc ys,Wf H O M/\Er H O M σ ρ/\vG D H1 O1 M1 H O M/\O D/\M D=none/\H D=some (.lst ys)/\zl H O M ys acc/\Pv i acc ρ M,
  ⟨l.length,by simp,cK _,O1,ρ,M1,acc,ys,w,e,Ext.refl.x,o,m,hd,r,p0⟩,?_⟩
 rintro i n σ H ⟨rfl,hi,O,ρ,M,acc,ys,w,e,x,o,m,hd,r,hf⟩
 by_cases hil:i<l.length
 ·have hy:l[i]?=some l[i]:=am hil
  obtain ⟨hG,q2⟩:=ps i l[i] acc ρ M hy hf
  obtain ⟨j1,j2⟩:=(hj H O M x.fix x.mst w hG i).2 l[i] hy
  refine .inr ⟨j1,fun σ' H'=>∃ O ρ M acc ys,Wf H' O M/\Er H' O M σ' ρ/\vG D H1 O1 M1 H' O M/\O D/\M D=none/\H' D=some (.lst ys)/\zl H' O M ys acc/\Pv (i+1) acc ρ M,fun σ' H' z=>⟨l.length - (i+1),by omega,rfl,hil,z⟩,fun v H' hv=>?_⟩
  obtain ⟨k2,w2,r2⟩:=j2 v H' hv
  refine hg.go w2 (e.ext k2) r2 q2 fun σ3 H3 O3 ρ3 M3 q3 k3 w3 e3=>?_
  refine ht.go w3 e3 q3 fun b M4 H4 O4 q4 k4 w4=>?_
  have k24:=(k2.trans k3).trans k4
  obtain ⟨d4,o4,m4⟩:=k24.prv D o m
  have r4:=r.ext k24
  cases b with
  | true=>
   exact hr.go w4 (e3.ext k4) o4 m4 (d4.trans hd) r4 q4 fun acc' ρ' M' σ' H' O' ys' q5 k5 w5 e5 o5 m5 d5 r5=>⟨O',ρ',M',acc',ys',w5,e5,(x.trans k24.x).trans k5,o5,m5,d5,r5,q5⟩
  | false=>
   exact ⟨O4,ρ3,M4,acc,ys,w4,e3.ext k4,x.trans k24.x,o4,m4,d4.trans hd,r4,q4⟩
 ·have e0:i=l.length:=by omega
  subst e0
  obtain ⟨hG,q2⟩:=pd acc ρ M hf
  exact .inl ⟨(hj H O M x.fix x.mst w hG l.length).1 rfl,k _ _ _ _ _ _ _ q2 x w e o m hd r⟩
noncomputable def Jk (ts:List Nat)(ai:AI)(ag:AG)(at_:AT)(atr:ATR):AF:=fun ρ M Q=>ai ρ M fun l G M1=>Je ag at_ atr G (fun acc _ M'=>Q acc M') l [] (EI ts ρ) M1
theorem KJ {tr:au->TR} (hi:ZZ wi ai)(hg:vb g ag)(ht:xp tt at_)(hr:∀ D,XX D (tr D) atr):Kk (AM ts wi g tt tr) (Jk ts ai ag at_ atr):=⟨fun {σ H O ρ M Q Q'} w e q k=>by
 refine hi.go w e q fun l G M1 J H1 O1 q1 k1 w1 hj D hD=>?_
 have kp:=jb w1 hD (.lst [])
 have hj':ym J (upd H1 D (.lst [])) (yf O1 D) M1 l G:=fun H' O' M' fix mst w' hG=>hj H' O' M' (fun a o ha ho=>fix a o (kp.fix a o ha ho).2 (kp.fix a o ha ho).1) mst w' hG
 refine Lc hg ht (hr D) hj' (xI w1 hD _ (fun _ z=>nomatch z)) (((e.ext k1).clr ts).ext kp) (.inl rfl) (w1.fresh hD).2 zm .nil q1 fun acc' ρ' M' σ' H' O' ys' q5 k5 w5 e5 o5 m5 d5 r5=>?_
 have hH:=wV w1 k1 hD
 refine k _ _ _ _ _ _ q5 ⟨fun a o ha ho=>?_,fun a ha hm=>?_,fun a hm=>k5.mst a (k1.mst a hm)⟩ w5 o5 m5 hH d5 r5
 ·obtain ⟨x1,x2⟩:=(k1.trans kp).fix a o ha ho
  exact k5.fix a o x2 x1
 ·obtain ⟨x1,x2,x3⟩:=(k1.trans kp).prv a ha hm
  obtain ⟨y1,y2,y3⟩:=k5.prv a (fun z=>w.ne a ha (by rw [z];exact hH)) x2 x3
  exact ⟨y1.trans x1,y2,y3⟩⟩
variable {ae:AE}
theorem Vd (hi:ZZ wi ai)(hg:vb g ag)(ht:xp tt at_)(he:zH te ae):Kk (JV ts wi g tt te) (Jk ts ai ag at_ (xy ae)):=
 ⟨fun w e q k=>(KJ (ts:=ts) (tr:=Ks te) hi hg ht fun D=>JI he).go w e q k⟩
noncomputable def aI (C:Int->Int->Prop)(g:Int->Int->Dat):AR2:=fun x y M Q=>∃ i j,x=.d (.int i)/\y=.d (.int j)/\C i j/\Q (.d (g i j)) M
noncomputable def aI0 (g:Int->Int->Dat):AR2:=fun x y M Q=>∃ i j,x=.d (.int i)/\y=.d (.int j)/\Q (.d (g i j)) M
theorem Lz {C:Int->Int->Prop}{f:Int->Int->Int}:yt (rI C fun i j=>.int (f i j)) (aI C fun i j=>.int (f i j)):=⟨fun w r1 r2 ⟨i,j,e1,e2,c,q⟩ k=>by
 subst e1 e2;exact ⟨i,j,zO r1,zO r2,c,k _ _ _ _ _ q .refl w .int⟩⟩
theorem E2 {f:Int->Int->Int}:yt (rI0 fun i j=>.int (f i j)) (aI0 fun i j=>.int (f i j)):=⟨fun w r1 r2 ⟨i,j,e1,e2,q⟩ k=>by
 subst e1 e2;exact ⟨i,j,zO r1,zO r2,k _ _ _ _ _ q .refl w .int⟩⟩
theorem WJ {f:Int->Int->Bool}:yt (rI0 fun i j=>.bl (f i j)) (aI0 fun i j=>.bl (f i j)):=⟨fun w r1 r2 ⟨i,j,e1,e2,q⟩ k=>by
 subst e1 e2;exact ⟨i,j,zO r1,zO r2,k _ _ _ _ _ q .refl w .bl⟩⟩
theorem Ga {f:Int->Int->Int}:Gy (ipI f) (aI0 fun i j=>.int (f i j)):=⟨fun w r1 r2 ⟨i,j,e1,e2,q⟩ k=>by
 subst e1 e2;exact ⟨i,j,zO r1,zO r2,k _ _ _ _ _ q .refl w .int⟩⟩
noncomputable def aU (g:Int->Dat):AV->MH->AK->Prop:=fun x M Q=>∃ i,x=.d (.int i)/\Q (.d (g i)) M
theorem IQ {f:Int->Int}:MJ (rU fun i=>.int (f i)) (aU fun i=>.int (f i)):=⟨fun w r1 ⟨i,e1,q⟩ k=>by
 subst e1;exact ⟨i,zO r1,k _ _ _ _ _ q .refl w .int⟩⟩
noncomputable def eqS:Dat->Dat->Option Bool
 | .non,.non=>some true | .non,.int _=>some false | .int _,.non=>some false | .non,.bl _=>some false | .bl _,.non=>some false | .non,.str _=>some false | .str _,.non=>some false
 | .int i,.int j=>some (decide (i=j)) | .bl a,.bl b=>some (decide (a=b)) | .str a,.str b=>some (decide (a=b))
 | .int _,.str _=>some false | .str _,.int _=>some false | .bl _,.str _=>some false | .str _,.bl _=>some false
 | _,_=>none
noncomputable def jP:AV->Bool
 | .d .non=>true
 | _=>false
theorem JK {H:Hp}{O:Own}{M:MH}{v:V}{x:AV}(r:zq H O M v x):decide (v=V.non)=jP x:=by
 cases x with
 | ref a=>rw [r.1];rfl
 | tp l=>obtain ⟨_,_,e,_⟩:=r;rw [e];rfl
 | d x=>cases (show Rep H O v x from r) <;> rfl
noncomputable def Vs (f:Bool->Bool):AR2:=fun x y M Q=>y=.d .non/\Q (.d (.bl (f (jP x)))) M
theorem Em:yt (fun x y H Q=>y=V.non/\Q (V.bl (decide (x=V.non))) H) (Vs id):=⟨fun w r1 r2 ⟨e,q⟩ k=>by
 subst e;exact ⟨vO r2,by rw [JK r1];exact k _ _ _ _ _ q .refl w .bl⟩⟩
theorem Al:yt (fun x y H Q=>y=V.non/\Q (V.bl (!decide (x=V.non))) H) (Vs not):=⟨fun w r1 r2 ⟨e,q⟩ k=>by
 subst e;exact ⟨vO r2,by rw [JK r1];exact k _ _ _ _ _ q .refl w .bl⟩⟩
theorem Z0 {H:Hp}{O:Own}{M:MH}{xs:List V}{l:List AV}(r:zl H O M xs l){i:Int}{x:AV}(h:atI l i=some x):∃ v,atI xs i=some v/\zq H O M v x:=by
 unfold atI at h ⊢
 rw [r.1]
 cases e:ixN l.length i with
 | none=>rw [e] at h;cases h
 | some j=>rw [e] at h;exact r.get h
noncomputable def aIx (s:AV->MH->Option (List AV)):AR2:=fun x y M Q=>∃ l i z,s x M=some l/\y=.d (.int i)/\atI l i=some z/\Q z M
theorem Ej:yt (FU K) (aIx qo):=⟨fun w r1 r2 ⟨l,i,z,h,e,hz,q⟩ k=>by
 subst e
 obtain ⟨a,xs,rfl,h1,r⟩:=qx w r1 h
 obtain ⟨v,hv,rv⟩:=Z0 r hz
 exact ⟨a,xs,i,v,rfl,zO r2,SqL.of h1,hv,k _ _ _ _ _ q .refl w rv⟩⟩
theorem FA:yt (IS K) (aIx fun x _=>Ek x):=⟨fun w r1 r2 ⟨l,i,z,h,e,hz,q⟩ k=>by
 subst e
 obtain ⟨a,xs,rfl,h1,r⟩:=jk r1 h
 obtain ⟨v,hv,rv⟩:=Z0 r hz
 exact ⟨a,xs,i,v,rfl,zO r2,SqT.of h1,hv,k _ _ _ _ _ q .refl w rv⟩⟩
theorem W1:yt (XO K) (aIx qO):=⟨fun w r1 r2 ⟨l,i,z,h,e,hz,q⟩ k=>by
 subst e
 obtain ⟨a,xs,rfl,h1,r⟩:=Qp w r1 h
 obtain ⟨v,hv,rv⟩:=Z0 r hz
 exact ⟨a,xs,i,v,rfl,zO r2,h1.elim (fun h=>.inl (SqL.of h)) (fun h=>.inr (SqT.of h)),hv,k _ _ _ _ _ q .refl w rv⟩⟩
structure Wr (r:R2)(a:AV->AV->MH->(List AV->Prop)->Prop):Prop where
 go:∀ {x y:V} {dx dy:AV} {H:Hp} {O:Own} {M:MH} {Q:VK} {Q':List AV->Prop},Wf H O M->zq H O M x dx->zq H O M y dy->a dx dy M Q'->(∀ l ys,Q' l->zl H O M ys l->∀ p,H p=none->Q (.ref p) (upd H p (.lst ys)))->r x y H Q
noncomputable def fOp (r:AV->AV->MH->(List AV->Prop)->Prop)(a b:AE):AF:=fun ρ M Q=>a ρ M fun x M1=>b ρ M1 fun y M2=>r x y M2 fun l=>Q l M2
theorem Qm {ra:AV->AV->MH->(List AV->Prop)->Prop}{t u:TE}{a b:AE}(hr:Wr r ra)(h1:zH t a)(h2:zH u b):Kk (tOp r t u) (fOp ra a b):=
 ⟨fun w e q k=>h1.go w e q fun x M1 v H1 O1 q1 k1 w1 r1=>h2.go w1 (e.ext k1) q1 fun y M2 u H2 O2 q2 k2 w2 r2=>hr.go w2 (r1.ext k2) r2 q2 fun l ys q3 r3 p hp=>
  k l M2 p ys _ _ q3 ((k1.trans k2).trans (jb w2 hp _)) (xI w2 hp _ (fun _ z=>nomatch z)) (.inl rfl) (w2.fresh hp).2 (wV w2 (k1.trans k2) hp) zm (r3.ext (jb w2 hp _))⟩
noncomputable def Hw:AV->AV->MH->(List AV->Prop)->Prop:=fun x y M Q=>∃ l m,qo x M=some l/\qo y M=some m/\l.length+m.length<=aM/\Q (l ++ m)
theorem Q1:Wr Ed Hw:=⟨fun w r1 r2 ⟨l,m,h1,h2,hs,q⟩ k=>by
 obtain ⟨a,xs,rfl,e1,p1⟩:=qx w r1 h1
 obtain ⟨b,ys,rfl,e2,p2⟩:=qx w r2 h2
 exact ⟨a,b,xs,ys,rfl,rfl,e1,e2,by rw [p1.1,p2.1];exact hs,k _ _ q (p1.append p2)⟩⟩
theorem zl.rep {H:Hp}{O:Own}{M:MH}{xs:List V}{l:List AV}(a:zl H O M xs l):∀ k:Nat,zl H O M (aF k xs).flatten (aF k l).flatten
 | 0=>.nil
 | k+1=>by rw [cT,cT,dR,dR];exact a.append (zl.rep a k)
noncomputable def Lw:AV->AV->MH->(List AV->Prop)->Prop:=fun x y M Q=>∃ l k,qo x M=some l/\y=.d (.int k)/\-(2 ^ 63)<=k/\k<2 ^ 63/\l.length * k.toNat<=aM/\Q (aF k.toNat l).flatten
theorem JL:Wr EQ Lw:=⟨fun w r1 r2 ⟨l,n,h1,e,b1,b2,hs,q⟩ k=>by
 subst e
 obtain ⟨a,xs,rfl,e1,p1⟩:=qx w r1 h1
 exact ⟨a,n,xs,rfl,zO r2,e1,b1,b2,by rw [p1.1];exact hs,k _ _ q (p1.rep _)⟩⟩
abbrev AO:=ASt->MH->(Option Int->MH->Prop)->Prop
structure Ex (t:TO)(a:AO):Prop where
 go:∀ {σ:St} {H:Hp} {O:Own} {ρ:ASt} {M:MH} {Q:Option Int->Hp->Prop} {Q':Option Int->MH->Prop},Wf H O M->Er H O M σ ρ->a ρ M Q'->(∀ x M' H' O',Q' x M'->Ext H O M H' O' M'->Wf H' O' M'->Q x H')->t σ H Q
noncomputable def LQ:AO:=fun _ M Q=>Q none M
noncomputable def GJ (a:AE):AO:=fun ρ M Q=>a ρ M fun x M1=>∃ i,x=.d (.int i)/\Q (some i) M1
theorem EG:Ex Qv LQ:=⟨fun w _ q k=>k _ _ _ _ q .refl w⟩
theorem B4 {t:TE}{a:AE}(h:zH t a):Ex (WO t) (GJ a):=⟨fun w e q k=>h.go w e q fun x M1 v H1 O1 ⟨i,e1,q1⟩ k1 w1 r1=>by
 subst e1;exact ⟨i,zO r1,k _ _ _ _ q1 k1 w1⟩⟩
noncomputable def wr {α:Type}(xs:List α)(lo hi:Option Int):List α:=(xs.drop (HT.sIx xs.length 0 lo)).take (HT.sIx xs.length xs.length hi - HT.sIx xs.length 0 lo)
theorem zl.cut (a:zl H O M xs l)(lo hi:Option Int):zl H O M (wW xs lo hi) (wr l lo hi):=by
 unfold wW wr
 rw [a.1]
 exact (a.drop _).take _
theorem AW {α β:Type}(f:α->β)(l:List α)(lo hi:Option Int):wr (l.map f) lo hi=(wr l lo hi).map f:=by
 unfold wr
 rw [aq,<- List.map_drop,<- List.map_take]
theorem X5 (w:Wf H O M) (hp:H p=none) {l:List Dat}(r:zl H O M xs (l.map .d)):zq (upd H p (.tup xs)) O M (.ref p) (.d (.tup l)):=
 have r2:=r.pure
 Rep.tup (w.fresh hp).1 zm r2.1 fun i x d e1 e2=>(r2.2 i x d e1 e2).ext (qz w hp _)
noncomputable def MF (a:AE)(lo hi:AO):AE:=fun ρ M Q=>a ρ M fun x M1=>lo ρ M1 fun i M2=>hi ρ M2 fun j M3=>∃ l,x=.d (.tup l)/\¬ (HT.sIx l.length 0 i=0/\HT.sIx l.length l.length j=l.length)/\Q (.d (.tup (wr l i j))) M3
theorem EM {t:TE}{tl th:TO}{a:AE}{lo hi:AO}(h1:zH t a)(h2:Ex tl lo)(h3:Ex th hi):zH (tSl (MA K) t tl th) (MF a lo hi):=
 ⟨fun w e q k=>h1.go w e q fun x M1 v H1 O1 q1 k1 w1 r1=>h2.go w1 (e.ext k1) q1 fun i M2 H2 O2 q2 k2 w2=>h3.go w2 (e.ext (k1.trans k2)) q2 fun j M3 H3 O3 ⟨l,hl,hn,q3⟩ k3 w3=>by
  subst hl
  obtain ⟨a,xs,rfl,e1,p1⟩:=jk (l:=l.map .d) (r1.ext (k2.trans k3)) rfl
  have l1:=p1.1
  rw [aq] at l1
  refine ⟨a,xs,rfl,SqT.of e1,by rw [l1];exact hn,fun p hp=>?_⟩
  have p2:=p1.cut i j
  rw [AW] at p2
  exact k _ _ _ _ _ q3 (((k1.trans k2).trans k3).trans (qz w3 hp _)) (xh w3 hp _) (X5 w3 hp p2)⟩
mutual
noncomputable def eqD:Dat->Dat->Bool
 | .non,.non=>true
 | .bl a,.bl b=>a == b
 | .bl a,.int b=>(if a then 1 else 0) == b
 | .int a,.bl b=>a == (if b then 1 else 0)
 | .int a,.int b=>a == b
 | .str a,.str b=>a == b
 | .lst a,.lst b=>vF a b
 | .tup a,.tup b=>vF a b
 | _,_=>false
noncomputable def vF:List Dat->List Dat->Bool
 | [],[]=>true
 | a :: r,b :: r'=>eqD a b && vF r r'
 | _,_=>false
end
mutual
noncomputable def dp:Dat->Nat
 | .lst l=>dps l+1
 | .tup l=>dps l+1
 | .rng _ _ _=>1000
 | .scr _ _=>1000
 | .ty _=>1000
 | _=>0
noncomputable def dps:List Dat->Nat
 | []=>0
 | a :: r=>max (dp a) (dps r)
end
theorem jY {l:List Dat}{n:Nat}(h:∀ d ∈ l,dp d<=n):dps l<=n:=by
 induction l with
 | nil=>exact cK _
 | cons a r ih=>rw [dps];exact eN.mpr ⟨h a (by simp),ih fun d hd=>h d (by simp [hd])⟩
theorem qG {l:List Dat}{d:Dat}(h:d ∈ l):dp d<=dps l:=by
 induction l with
 | nil=>cases h
 | cons a r ih=>
  rw [dps]
  rcases aA.mp h with rfl | h
  ·exact iE _ _
  ·exact bb (ih h) (hW _ _)
theorem xr:∀ (l m:List Dat),l.length=m.length->vF l m=(bW l.length).all fun j=>eqD (l.getD j .non) (m.getD j .non)
 | [],[],_=>rfl
 | a :: r,b :: r',h=>by
  rw [vF,xr r r' (by simpa using h),aT,List.range_succ_eq_map,dX,lO];rfl
 | [],_ :: _,h=>by simp at h
 | _ :: _,[],h=>by simp at h
theorem xG:∀ (l m:List Dat),l.length ≠ m.length->vF l m=false
 | [],[],h=>absurd rfl h
 | a :: r,b :: r',h=>by rw [vF,xG r r' (fun z=>h (by simp [z])),fJ]
 | [],_ :: _,h=>by simp [vF]
 | _ :: _,[],h=>by simp [vF]
theorem DU (l m:List Dat):eqD (.lst l) (.tup m)=false:=by simp [eqD]
theorem B5 (l m:List Dat):eqD (.tup l) (.lst m)=false:=by simp [eqD]
theorem F7 {p:Dat->Prop}(h:∀ a,(∀ b,dp b<dp a->p b)->p a)(a:Dat):p a:=by
 have:∀ n a,dp a<=n->p a:=fun n=>by
  induction n with
  | zero=>intro a ha;exact h a fun b hb=>absurd hb (by omega)
  | succ n ih=>intro a ha;exact h a fun b hb=>ih b (by omega)
 exact this (dp a) a (aJ _)
theorem Zp {l:List Dat}(h:∀ d ∈ l,eqD d d=true):vF l l=true:=by
 induction l with
 | nil=>rfl
 | cons a r ih=>rw [vF,h a (by simp),ih fun d hd=>h d (by simp [hd])];rfl
theorem yp {a:Dat}:dp a<1000->eqD a a=true:=by
 refine F7 (p:=fun a=>dp a<1000->eqD a a=true) (fun a ih ha=>?_) a
 cases a with
 | non=>rfl
 | bl b=>rw [eqD];simp
 | int i=>rw [eqD];simp
 | str x=>rw [eqD];simp
 | lst l=>
  rw [eqD]
  rw [dp] at ha ih
  exact Zp fun d hd=>ih d (by have:=qG hd;omega) (by have:=qG hd;omega)
 | tup l=>
  rw [eqD]
  rw [dp] at ha ih
  exact Zp fun d hd=>ih d (by have:=qG hd;omega) (by have:=qG hd;omega)
 | rng a b c=>rw [dp] at ha;omega
 | scr _ l=>rw [dp] at ha;omega
 | ty l=>rw [dp] at ha;omega
theorem Rep.fn {H:Hp}{O O':Own}{v:V}{a b:Dat}(r:Rep H O v a):Rep H O' v b->dp a<1000->dp b<1000->a=b:=by
 induction r generalizing b with
 | non=>intro r' _ _;cases r';rfl
 | bl=>intro r' _ _;cases r';rfl
 | int=>intro r' _ _;cases r';rfl
 | str=>intro r' _ _;cases r';rfl
 | ty=>intro r' h _;rw [dp] at h;omega
 | rng _ _=>intro r' h _;rw [dp] at h;omega
 | scr _ _=>intro r' h _;rw [dp] at h;omega
 | scrK _=>intro r' h _;rw [dp] at h;omega
 | @lst a xs l o1 h1 l1 r1 ih=>
  intro r' ha hb
  cases r' with
  | @lst _ ys m o2 h2 l2 r2=>
   rw [h1] at h2;cases h2
   congr 1
   refine fR (l1.symm.trans l2) fun i i1 i2=>?_
   have i0:i<xs.length:=by omega
   rw [dp] at ha hb
   refine ih i xs[i] l[i] (by simp [i0]) (by simp [i1]) (r2 i xs[i] m[i] (by simp [i0]) (by simp [i2])) ?_ ?_
   ·have:=qG (bq i1);omega
   ·have:=qG (bq i2);omega
  | @tup _ ys m o2 h2=>rw [h1] at h2;cases h2
  | rng o2 h2=>rw [dp] at hb;omega
  | scr o2 h2=>rw [dp] at hb;omega
  | scrK _=>rw [dp] at hb;omega
 | @tup a xs l o1 h1 l1 r1 ih=>
  intro r' ha hb
  cases r' with
  | @tup _ ys m o2 h2 l2 r2=>
   rw [h1] at h2;cases h2
   congr 1
   refine fR (l1.symm.trans l2) fun i i1 i2=>?_
   have i0:i<xs.length:=by omega
   rw [dp] at ha hb
   refine ih i xs[i] l[i] (by simp [i0]) (by simp [i1]) (r2 i xs[i] m[i] (by simp [i0]) (by simp [i2])) ?_ ?_
   ·have:=qG (bq i1);omega
   ·have:=qG (bq i2);omega
  | @lst _ ys m o2 h2=>rw [h1] at h2;cases h2
  | rng o2 h2=>rw [dp] at hb;omega
  | scr o2 h2=>rw [dp] at hb;omega
  | scrK _=>rw [dp] at hb;omega
section
variable {X:Cx}{pins:List (au × Obj)}{s:aw}{σ:St}{H:Hp}
theorem xA {us:List aj}(r:zF xs us) (h:j<us.toArray.size):∃ x,xs[j]?=some x/\zA x us.toArray[j]:=by
 have h':j<us.length:=by simpa using h
 have hx:j<xs.length:=by rw [r.length];exact h'
 obtain ⟨u,hu,ru⟩:=r.get (i:=j) (am hx)
 have e:us.toArray[j]=u:=by
  have:=(aD.mp hu).2
  simpa using this
 exact ⟨xs[j],am hx,by rw [e];exact ru⟩
theorem A2 (I : Inv X pins σ H s){A : aZ}{p q : au}{O O' : Own}{a b : Dat}(ih : ∀ (c d : Dat) (v u : V) (v' u' : aj), dp c < dp a -> Rep H O v c -> Rep H O' u d -> dp d < 1000 -> zA v v' -> zA u u' -> bH A.in1 s v' u' (eqD c d))
    (ra:Rep H O (.ref p) a) (rb:Rep H O' (.ref q) b) (ha:dp a<1000) (hb:dp b<1000) (hu:A.units<gf):fS A s (.ref p) (.ref q) (eqD a b):=by
  cases ra with
  | @lst _ xs l o1 h1 l1 r1=>
    obtain ⟨us,u1,p1,z1⟩:=I.list (SqL.of h1)
    cases rb with
    | @lst _ ys m o2 h2 l2 r2=>
      obtain ⟨ws,u2,p2,z2⟩:=I.list (SqL.of h2)
      have s1:us.toArray.size=l.length:=by rw [aH,<- u1.length,l1]
      have s2:ws.toArray.size=m.length:=by rw [aH,<- u2.length,l2]
      by_cases e:l.length=m.length
      · have h := fS.lists (A := A) (e := fun j => eqD (l.getD j .non) (m.getD j .non)) p1.isList p2.isList (by rw [s1, s2, e]) hu (fun j j1 j2 => by
          obtain ⟨x,hx,rx⟩:=xA u1 j1
          obtain ⟨y,hy,ry⟩:=xA u2 j2
          have k1:j<l.length:=by rw [<- s1];exact j1
          have k2:j<m.length:=by rw [<- s2];exact j2
          rw [dp] at ha hb ih
          refine ih _ _ x y _ _ ?_ (r1 j x _ hx ?_) (r2 j y _ hy ?_) ?_ rx ry
          · rw [ay,am k1]
            have:=qG (bq k1);show dp l[j]<_;omega
          · rw [ay,am k1];rfl
          · rw [ay,am k2];rfl
          · rw [ay,am k2]
            have:=qG (bq k2);show dp m[j]<_;omega)
        rw [s1,<- xr l m e] at h
        rw [eqD];exact h
      · rw [eqD,xG l m e]
        exact fS.lists_lengths p1.isList p2.isList (by rw [s1,s2];simpa using e) hu
    | @tup _ ys m o2 h2 l2 r2=>
      obtain ⟨ws,u2,p2,z2⟩:=I.tuple (SqT.of h2)
      rw [DU]
      exact fS.list_tuple p1.isList p2 hu
    | rng o2 h2=>rw [dp] at hb;omega
    | scr o2 h2=>rw [dp] at hb;omega
    | scrK _=>rw [dp] at hb;omega
  | @tup _ xs l o1 h1 l1 r1=>
    obtain ⟨us,u1,p1,z1⟩:=I.tuple (SqT.of h1)
    cases rb with
    | @tup _ ys m o2 h2 l2 r2=>
      obtain ⟨ws,u2,p2,z2⟩:=I.tuple (SqT.of h2)
      have s1:us.toArray.size=l.length:=by rw [aH,<- u1.length,l1]
      have s2:ws.toArray.size=m.length:=by rw [aH,<- u2.length,l2]
      have h := fS.tuples (A := A) (e := fun j => eqD (l.getD j .non) (m.getD j .non)) (show s.heap.IsTuple p us.toArray from p1) (show s.heap.IsTuple q ws.toArray from p2) hu (fun j j1 j2 => by
          obtain ⟨x,hx,rx⟩:=xA u1 j1
          obtain ⟨y,hy,ry⟩:=xA u2 j2
          have k1:j<l.length:=by rw [<- s1];exact j1
          have k2:j<m.length:=by rw [<- s2];exact j2
          rw [dp] at ha hb ih
          refine ih _ _ x y _ _ ?_ (r1 j x _ hx ?_) (r2 j y _ hy ?_) ?_ rx ry
          · rw [ay,am k1]
            have:=qG (bq k1);show dp l[j]<_;omega
          · rw [ay,am k1];rfl
          · rw [ay,am k2];rfl
          · rw [ay,am k2]
            have:=qG (bq k2);show dp m[j]<_;omega)
      rw [s1,s2] at h
      rw [eqD]
      by_cases e:l.length=m.length
      · rw [<- e,io,beq_self_eq_true,Bool.and_true,<- xr l m e] at h
        exact h
      · rw [xG l m e]
        rw [show (l.length == m.length)=false by simpa using e,fJ] at h
        exact h
    | @lst _ ys m o2 h2 l2 r2=>
      obtain ⟨ws,u2,p2,z2⟩:=I.list (SqL.of h2)
      rw [B5]
      exact fS.tuple_list p1 p2.isList hu
    | rng o2 h2=>rw [dp] at hb;omega
    | scr o2 h2=>rw [dp] at hb;omega
    | scrK _=>rw [dp] at hb;omega
  | rng o2 h2=>rw [dp] at ha;omega
  | scr o2 h2=>rw [dp] at ha;omega
  | scrK _=>rw [dp] at ha;omega
theorem Ng (I:Inv X pins σ H s) (h:H a=some (.lst xs)):∃ us,s.heap.IsList a us:=let ⟨_,_,p,_⟩:=I.list (SqL.of h);⟨_,p.isList⟩
theorem Nb (I:Inv X pins σ H s) (h:H a=some (.tup xs)):∃ us,s.heap.IsTuple a us:=let ⟨_,_,p,_⟩:=I.tuple (SqT.of h);⟨_,p⟩
local macro_rules | `(tactic| walk_at "sc")=>`(tactic| first
 | with_reducible exact .same _ | with_reducible exact .none_none | with_reducible exact .none_bool _ | with_reducible exact .none_int _ _ | with_reducible exact .none_str _ _ | with_reducible exact .bool_none _ | with_reducible exact .bool_bool _ _ | with_reducible exact .bool_int _ _ _ | with_reducible exact .bool_str _ _ _ | with_reducible exact .int_none _ _ | with_reducible exact .int_bool _ _ _ | with_reducible exact .int_int _ _ _ _ | with_reducible exact .int_str _ _ _ _ | with_reducible exact .str_none _ _ | with_reducible exact .str_bool _ _ _ | with_reducible exact .str_int _ _ _ _ | with_reducible exact .str_str _ _ _ _)
theorem ls_ (I:Inv X pins σ H s) (h:H a=some (.lst xs)):s.heap.IsList a (mj (Ng I h)):=iG _
theorem ts_ (I:Inv X pins σ H s) (h:H a=some (.tup xs)):s.heap.IsTuple a (mj (Nb I h)):=iG _
local macro_rules | `(tactic| walk_at "sq")=>`(tactic| first
 | with_reducible exact .none_list (ls_ (by assumption) (by assumption)) (by assumption) | with_reducible exact .bool_list _ (ls_ (by assumption) (by assumption)) (by assumption) | with_reducible exact .int_list _ _ (ls_ (by assumption) (by assumption)) (by assumption) | with_reducible exact .str_list _ _ (ls_ (by assumption) (by assumption)) (by assumption) | with_reducible exact .list_none (ls_ (by assumption) (by assumption)) (by assumption) | with_reducible exact .list_bool _ (ls_ (by assumption) (by assumption)) (by assumption) | with_reducible exact .list_int _ _ (ls_ (by assumption) (by assumption)) (by assumption) | with_reducible exact .list_str _ _ (ls_ (by assumption) (by assumption)) (by assumption)
 | with_reducible exact .none_tuple (ts_ (by assumption) (by assumption)) (by assumption) | with_reducible exact .bool_tuple _ (ts_ (by assumption) (by assumption)) (by assumption) | with_reducible exact .int_tuple _ _ (ts_ (by assumption) (by assumption)) (by assumption) | with_reducible exact .str_tuple _ _ (ts_ (by assumption) (by assumption)) (by assumption) | with_reducible exact .tuple_none (ts_ (by assumption) (by assumption)) (by assumption) | with_reducible exact .tuple_bool _ (ts_ (by assumption) (by assumption)) (by assumption) | with_reducible exact .tuple_int _ _ (ts_ (by assumption) (by assumption)) (by assumption) | with_reducible exact .tuple_str _ _ (ts_ (by assumption) (by assumption)) (by assumption))
theorem YA (I : Inv X pins σ H s){O O' : Own}(A : aZ)(hu : A.units < gf)(a b : Dat)(v u : V)(v' u' : aj)(ha : dp a < 1000)(ra : Rep H O v a)(rb : Rep H O' u b)(hb : dp b < 1000)(rv : zA v v')(ru : zA u u')
    (ih:∀ (c d:Dat) (v u:V) (v' u':aj),dp c<dp a->Rep H O v c->Rep H O' u d->dp d<1000->zA v v'->zA u u'->bH A.in1 s v' u' (eqD c d)):bH A s v' u' (eqD a b):=by
  by_cases hr:∃ p q,v=.ref p/\u=.ref q
  · obtain ⟨p,q,rfl,rfl⟩:=hr
    cases rv
    cases ru
    by_cases e:p=q
    · subst e
      rw [<- ra.fn rb ha hb,yp ha]
      exact .same _
    · exact .of_refs e (A2 I ih ra rb ha hb hu)
  · cases ra <;> cases rb <;> first
      | with_reducible exact absurd ⟨_,_,rfl,rfl⟩ hr
      | (rw [dp] at ha;omega)
      | (rw [dp] at hb;omega)
      | ((first | (obtain ⟨t0,rfl⟩:=rv) | cases rv);(first | (obtain ⟨t1,rfl⟩:=ru) | cases ru);simp only [eqD,iU,gU];first | walk_at "sc" | walk_at "sq")
theorem DB (I:Inv X pins σ H s){O O':Own}:∀ (n:Nat) (A:aZ),A.units+n<gf->∀ (a b:Dat) (v u:V) (v' u':aj),dp a<=n->n<1000->Rep H O v a->Rep H O' u b->dp b<1000->zA v v'->zA u u'->bH A s v' u' (eqD a b):=by
 intro n
 induction n with
 | zero=>
  intro A hu a b v u v' u' ha _ ra rb hb rv ru
  exact YA I A (by omega) a b v u v' u' (by omega) ra rb hb rv ru fun _ _ _ _ _ _ h=>absurd h (by omega)
 | succ n ih=>
  intro A hu a b v u v' u' ha hn ra rb hb rv ru
  exact YA I A (by omega) a b v u v' u' (by omega) ra rb hb rv ru fun c d x y x' y' hc rc rd hd rx ry=>ih A.in1 (by show A.units+1+n<_;omega) c d x y x' y' (by omega) (by omega) rc rd hd rx ry
noncomputable def HD (f:Bool->Bool):R2:=fun x y H Q=>∃ O O' a b,Rep H O x a/\Rep H O' y b/\dp a<=40/\dp b<=40/\Q (.bl (f (eqD a b))) H
theorem HQ (I:Inv X pins σ H s) (A:aZ)(hu:A.units+41<gf)(a b:Dat)(v u:V)(v' u':aj)(ha:dp a<=40)(ra:Rep H O v a)(rb:Rep H O' u b)(hb:dp b<=40)(rv:zA v v')(ru:zA u u'):fS A s v' u' (eqD a b):=by
  have ih:∀ (c d:Dat) (v u:V) (v' u':aj),dp c<dp a->Rep H O v c->Rep H O' u d->dp d<1000->zA v v'->zA u u'->bH A.in1 s v' u' (eqD c d):=fun c d v u v' u' hc rc rd hd rv ru=>DB I 40 A.in1 (by show A.units+1+40<_;omega) c d v u v' u' (by omega) (by omega) rc rd hd rv ru
  replace hu:A.units<gf:=by omega
  by_cases hr:∃ p q,v=.ref p/\u=.ref q
  · obtain ⟨p,q,rfl,rfl⟩:=hr
    cases rv
    cases ru
    exact A2 I ih ra rb (by omega) (by omega) hu
  · cases ra <;> cases rb <;> first
      | with_reducible exact absurd ⟨_,_,rfl,rfl⟩ hr
      | (rw [dp] at ha;omega)
      | (rw [dp] at hb;omega)
      | ((first | (obtain ⟨t0,rfl⟩:=rv) | cases rv);(first | (obtain ⟨t1,rfl⟩:=ru) | cases ru);simp only [eqD,iU,gU];first | walk_at "sc" | walk_at "sq")
theorem Bl (I : Inv X pins σ H s){A : aZ}{p q : au}{O O' : Own}{a b : Dat}(ih : ∀ (c d : Dat) (v u : V) (v' u' : aj), dp c < dp a -> Rep H O v c -> Rep H O' u d -> dp d < 1000 -> zA v v' -> zA u u' -> bH A.in1 s v' u' (eqD c d))
    (ra:Rep H O (.ref p) a) (rb:Rep H O' (.ref q) b) (ha:dp a<1000) (hb:dp b<1000) (hu:A.units<gf):eR A s (.ref p) (.ref q) (!(eqD a b)):=by
  cases ra with
  | @lst _ xs l o1 h1 l1 r1=>
    obtain ⟨us,u1,p1,z1⟩:=I.list (SqL.of h1)
    cases rb with
    | @lst _ ys m o2 h2 l2 r2=>
      obtain ⟨ws,u2,p2,z2⟩:=I.list (SqL.of h2)
      have s1:us.toArray.size=l.length:=by rw [aH,<- u1.length,l1]
      have s2:ws.toArray.size=m.length:=by rw [aH,<- u2.length,l2]
      by_cases e:l.length=m.length
      · have h := eR.lists (A := A) (e := fun j => eqD (l.getD j .non) (m.getD j .non)) p1.isList p2.isList (by rw [s1, s2, e]) hu (fun j j1 j2 => by
          obtain ⟨x,hx,rx⟩:=xA u1 j1
          obtain ⟨y,hy,ry⟩:=xA u2 j2
          have k1:j<l.length:=by rw [<- s1];exact j1
          have k2:j<m.length:=by rw [<- s2];exact j2
          rw [dp] at ha hb ih
          refine ih _ _ x y _ _ ?_ (r1 j x _ hx ?_) (r2 j y _ hy ?_) ?_ rx ry
          · rw [ay,am k1]
            have:=qG (bq k1);show dp l[j]<_;omega
          · rw [ay,am k1];rfl
          · rw [ay,am k2];rfl
          · rw [ay,am k2]
            have:=qG (bq k2);show dp m[j]<_;omega)
        rw [s1,<- xr l m e] at h
        rw [eqD];exact h
      · rw [eqD,xG l m e]
        exact eR.lists_lengths p1.isList p2.isList (by rw [s1,s2];simpa using e) hu
    | @tup _ ys m o2 h2 l2 r2=>
      obtain ⟨ws,u2,p2,z2⟩:=I.tuple (SqT.of h2)
      rw [DU]
      exact eR.list_tuple p1.isList p2 hu
    | rng o2 h2=>rw [dp] at hb;omega
    | scr o2 h2=>rw [dp] at hb;omega
    | scrK _=>rw [dp] at hb;omega
  | @tup _ xs l o1 h1 l1 r1=>
    obtain ⟨us,u1,p1,z1⟩:=I.tuple (SqT.of h1)
    cases rb with
    | @tup _ ys m o2 h2 l2 r2=>
      obtain ⟨ws,u2,p2,z2⟩:=I.tuple (SqT.of h2)
      have s1:us.toArray.size=l.length:=by rw [aH,<- u1.length,l1]
      have s2:ws.toArray.size=m.length:=by rw [aH,<- u2.length,l2]
      have h := eR.tuples (A := A) (e := fun j => eqD (l.getD j .non) (m.getD j .non)) (show s.heap.IsTuple p us.toArray from p1) (show s.heap.IsTuple q ws.toArray from p2) hu (fun j j1 j2 => by
          obtain ⟨x,hx,rx⟩:=xA u1 j1
          obtain ⟨y,hy,ry⟩:=xA u2 j2
          have k1:j<l.length:=by rw [<- s1];exact j1
          have k2:j<m.length:=by rw [<- s2];exact j2
          rw [dp] at ha hb ih
          refine ih _ _ x y _ _ ?_ (r1 j x _ hx ?_) (r2 j y _ hy ?_) ?_ rx ry
          · rw [ay,am k1]
            have:=qG (bq k1);show dp l[j]<_;omega
          · rw [ay,am k1];rfl
          · rw [ay,am k2];rfl
          · rw [ay,am k2]
            have:=qG (bq k2);show dp m[j]<_;omega)
      rw [s1,s2] at h
      rw [eqD]
      by_cases e:l.length=m.length
      · rw [<- e,io,beq_self_eq_true,Bool.and_true,<- xr l m e] at h
        exact h
      · rw [xG l m e]
        rw [show (l.length == m.length)=false by simpa using e,fJ] at h
        exact h
    | @lst _ ys m o2 h2 l2 r2=>
      obtain ⟨ws,u2,p2,z2⟩:=I.list (SqL.of h2)
      rw [B5]
      exact eR.tuple_list p1 p2.isList hu
    | rng o2 h2=>rw [dp] at hb;omega
    | scr o2 h2=>rw [dp] at hb;omega
    | scrK _=>rw [dp] at hb;omega
  | rng o2 h2=>rw [dp] at ha;omega
  | scr o2 h2=>rw [dp] at ha;omega
  | scrK _=>rw [dp] at ha;omega
theorem BL (I:Inv X pins σ H s) (A:aZ)(hu:A.units+41<gf)(a b:Dat)(v u:V)(v' u':aj)(ha:dp a<=40)(ra:Rep H O v a)(rb:Rep H O' u b)(hb:dp b<=40)(rv:zA v v')(ru:zA u u'):eR A s v' u' (!(eqD a b)):=by
  have ih:∀ (c d:Dat) (v u:V) (v' u':aj),dp c<dp a->Rep H O v c->Rep H O' u d->dp d<1000->zA v v'->zA u u'->bH A.in1 s v' u' (eqD c d):=fun c d v u v' u' hc rc rd hd rv ru=>DB I 40 A.in1 (by show A.units+1+40<_;omega) c d v u v' u' (by omega) (by omega) rc rd hd rv ru
  replace hu:A.units<gf:=by omega
  by_cases hr:∃ p q,v=.ref p/\u=.ref q
  · obtain ⟨p,q,rfl,rfl⟩:=hr
    cases rv
    cases ru
    exact Bl I ih ra rb (by omega) (by omega) hu
  · cases ra <;> cases rb <;> first
      | with_reducible exact absurd ⟨_,_,rfl,rfl⟩ hr
      | (rw [dp] at ha;omega)
      | (rw [dp] at hb;omega)
      | ((first | (obtain ⟨t0,rfl⟩:=rv) | cases rv);(first | (obtain ⟨t1,rfl⟩:=ru) | cases ru);simp only [eqD,iU,gU];first | walk_at "sc" | walk_at "sq")
theorem zV (hu:X.A.units+64<gf):OpR X (cJ .Eq) (HD id):=by
 intro pins s σ H x y v u Q I rx ry h
 obtain ⟨O,O',a,b,ra,rb,ha,hb,k⟩:=h
 exact HQ I X.A (by omega) a b x y v u ha ra rb hb rx ry _ _ _ _ ⟨.bl _,H,I,rfl,k⟩
theorem jB (hu:X.A.units+64<gf):OpR X (cJ .NotEq) (HD not):=by
 intro pins s σ H x y v u Q I rx ry h
 obtain ⟨O,O',a,b,ra,rb,ha,hb,k⟩:=h
 exact BL I X.A (by omega) a b x y v u ha ra rb hb rx ry _ _ _ _ ⟨.bl _,H,I,rfl,k⟩
end
noncomputable def xf (x:AV)(M:MH):Option Dat:=match x with
 | .d x=>some x
 | .ref a=>match M a with
  | some (.lst l)=>(pur l).map .lst
  | _=>none
 | .tp _=>none
theorem Ir (x:Dat)(M:MH):xf (.d x) M=some x:=rfl
variable {ds:List Dat}
theorem WX (h:M a=some (.lst l))(hp:pur l=some ds):xf (.ref a) M=some (.lst ds):=by unfold xf;dsimp only;rw [h];dsimp only;rw [hp];rfl
theorem JB {H:Hp}{O:Own}{M:MH}{v:V}{x:AV}{d:Dat}(w:Wf H O M)(r:zq H O M v x)(h:xf x M=some d):∃ O',Rep H O' v d:=by
 cases x with
 | tp l=>cases h
 | d x=>cases h;exact ⟨O,r⟩
 | ref a=>
  unfold xf at h
  dsimp only at h
  cases e:M a with
  | none=>rw [e] at h;cases h
  | some o=>
   rw [e] at h
   cases o with
   | lst l=>
    dsimp only at h
    cases ep:pur l with
    | none=>rw [ep] at h;cases h
    | some ds=>
     rw [ep] at h
     cases h
     obtain ⟨xs,hx,rx⟩:=w.mo a _ e
     rw [kf ep] at rx
     have rp:=rx.pure
     refine ⟨Z4 O a,?_⟩
     rw [r.1]
     exact Rep.lst (fun z=>z.1 rfl) hx rp.1 fun i x d e1 e2=>(rp.2 i x d e1 e2).imp (xS a)
   | _=>cases h
noncomputable def y6 (f:Bool->Bool):AR2:=fun x y M Q=>∃ a b,xf x M=some a/\xf y M=some b/\dp a<=40/\dp b<=40/\Q (.d (.bl (f (eqD a b)))) M
theorem FW {f:Bool->Bool}:yt (HD f) (y6 f):=⟨fun w r1 r2 ⟨a,b,e1,e2,h1,h2,q⟩ k=>by
 obtain ⟨O1,p1⟩:=JB w r1 e1
 obtain ⟨O2,p2⟩:=JB w r2 e2
 exact ⟨O1,O2,a,b,p1,p2,h1,h2,k _ _ _ _ _ q .refl w .bl⟩⟩
theorem jc (i:Int):dp (.int i)=0:=by simp [dp]
theorem ET (ns:List Int):dp (.lst (ns.map .int))<=1:=by
 rw [dp]
 have:dps (ns.map Dat.int)<=0:=jY fun d hd=>by
  obtain ⟨i,_,rfl⟩:=br.mp hd
  rw [jc];exact aJ _
 omega
variable {vs:List V}
theorem j3 {x:AV}(r:zl H O M vs [x]):∃ v,vs=[v]/\zq H O M v x:=by
 obtain ⟨v1,r',rfl,a1,r2⟩:=r.cons_inv
 rw [r2.nil_inv];exact ⟨v1,rfl,a1⟩
theorem yj {x y:AV}(r:zl H O M vs [x,y]):∃ v u,vs=[v,u]/\zq H O M v x/\zq H O M u y:=by
 obtain ⟨v1,r',rfl,a1,r2⟩:=r.cons_inv
 obtain ⟨v2,rfl,a2⟩:=j3 r2
 exact ⟨v1,v2,rfl,a1,a2⟩
noncomputable def Jy:List AV->MH->AK->Prop:=fun xs M Q=>∃ x l,xs=[x]/\qO x M=some l/\Q (.d (.int (l.length:Nat))) M
theorem Gn:QF (fun xs H Q=>∃ p ys,xs=[V.ref p]/\(SqL K H p ys \/ SqT K H p ys)/\Q (V.int ys.length) H) Jy:=⟨fun w r ⟨x,l,e,h,q⟩ k=>by
 subst e
 obtain ⟨v,rfl,rv⟩:=j3 r
 obtain ⟨a,xs,rfl,h1,r1⟩:=Qp w rv h
 exact ⟨a,xs,rfl,h1.elim (fun h=>.inl (SqL.of h)) (fun h=>.inr (SqT.of h)),by rw [r1.1];exact k _ _ _ _ _ q .refl w .int⟩⟩
noncomputable def bI2 (f:Int->Int->Int):List AV->MH->AK->Prop:=fun xs M Q=>∃ i j,xs=[.d (.int i),.d (.int j)]/\Q (.d (.int (f i j))) M
theorem Hz {f:Int->Int->Int}:QF (fun xs H Q=>∃ i j,xs=[V.int i,V.int j]/\Q (V.int (f i j)) H) (bI2 f):=⟨fun w r ⟨i,j,e,q⟩ k=>by
 subst e
 obtain ⟨v,u,rfl,rv,ru⟩:=yj r
 exact ⟨i,j,by rw [zO rv,zO ru],k _ _ _ _ _ q .refl w .int⟩⟩
noncomputable def G4:List AV->MH->AK->Prop:=fun xs M Q=>∃ c,xs=[.d (.bl c)]/\Q (.d (.int (if c=true then 1 else 0))) M
theorem BA:QF (fun xs H Q=>∃ k,xs=[V.bl k]/\Q (V.int (if k=true then 1 else 0)) H) G4:=⟨fun w r ⟨c,e,q⟩ k=>by
 subst e
 obtain ⟨v,rfl,rv⟩:=j3 r
 exact ⟨c,by rw [xo rv],k _ _ _ _ _ q .refl w .int⟩⟩
noncomputable def BD:List AV->MH->AK->Prop:=fun xs M Q=>∃ x l ds,xs=[x]/\qO x M=some l/\pur l=some ds/\Q (.d (.tup ds)) M
theorem Y0:QF (fun xs H Q=>∃ p ys,xs=[V.ref p]/\((SqL K H p ys/\∀ l,H l=none->Q (V.ref l) (upd H l (HO.tup ys))) \/ SqT K H p ys/\Q (V.ref p) H)) BD:=⟨fun w r ⟨x,l,ds,e,h,hp,q⟩ k=>by
 subst e
 obtain ⟨v,rfl,rv⟩:=j3 r
 rw [kf hp] at h
 rcases kB h with h' | ⟨m,rfl,e2⟩
 ·obtain ⟨a,xs,rfl,h1,r1⟩:=qx w rv h'
  exact ⟨a,xs,rfl,.inl ⟨SqL.of h1,fun p hp=>k _ _ _ _ _ q (qz w hp _) (xh w hp _) (X5 w hp r1)⟩⟩
 ·obtain rfl:ds=m:=by have:=congrArg pur e2;rw [qc,qc] at this;cases this;rfl
  obtain ⟨a,xs,rfl,h1,r1⟩:=jk (l:=ds.map .d) rv rfl
  exact ⟨a,xs,rfl,.inr ⟨SqT.of h1,k _ _ _ _ _ q .refl w rv⟩⟩⟩
structure D4 (r:List V->Hp->VK->Prop)(a:List AV->MH->(List AV->Prop)->Prop):Prop where
 go:∀ {vs:List V} {xs:List AV} {H:Hp} {O:Own} {M:MH} {Q:VK} {Q':List AV->Prop},Wf H O M->zl H O M vs xs->a xs M Q'->(∀ l ys,Q' l->zl H O M ys l->∀ p,H p=none->Q (.ref p) (upd H p (.lst ys)))->r vs H Q
noncomputable def fCB (r:List AV->MH->(List AV->Prop)->Prop)(b:AA):AF:=fun ρ M Q=>b ρ M fun xs M1=>r xs M1 fun l=>Q l M1
theorem Qj {r:List V->Hp->VK->Prop}{ra:List AV->MH->(List AV->Prop)->Prop} {b:AA}(hr:D4 r ra)(h:jo u b):Kk (tCB r u) (fCB ra b):=
 ⟨fun w e q k=>h.go w e q fun x M1 v H1 O1 q1 k1 w1 r1=>hr.go w1 r1 q1 fun l ys q3 r3 p hp=>
  k l M1 p ys _ _ q3 (k1.trans (jb w1 hp _)) (xI w1 hp _ (fun _ z=>nomatch z)) (.inl rfl) (w1.fresh hp).2 (wV w1 k1 hp) zm (r3.ext (jb w1 hp _))⟩
noncomputable def Wz:List AV->MH->(List AV->Prop)->Prop:=fun xs M Q=>∃ x l,xs=[x]/\qO x M=some l/\Q l
theorem Zf:D4 (fun xs H Q=>∃ p ys,xs=[V.ref p]/\(SqL K H p ys \/ SqT K H p ys)/\∀ l,H l=none->Q (V.ref l) (upd H l (HO.lst ys))) Wz:=⟨fun w r ⟨x,l,e,h,q⟩ k=>by
 subst e
 obtain ⟨v,rfl,rv⟩:=j3 r
 obtain ⟨a,xs,rfl,h1,r1⟩:=Qp w rv h
 exact ⟨a,xs,rfl,h1.elim (fun h=>.inl (SqL.of h)) (fun h=>.inr (SqT.of h)),k _ _ q r1⟩⟩
theorem yH {H:Hp}{O:Own}{M:MH}:∀ {ns:List Int} {xs:List V},zl H O M xs (ns.map fun i=>AV.d (.int i))->xs=ns.map V.int
 | [],xs,r=>r.nil_inv
 | i :: ns,xs,r=>by
  obtain ⟨v,r',rfl,a1,r2⟩:=r.cons_inv
  rw [zO a1,yH r2];rfl
noncomputable def tyA (x:AV)(M:MH):Option String:=match x with
 | .d .non=>some "NoneType"
 | .d (.bl _)=>some "bool"
 | .d (.int _)=>some "int"
 | .d (.str _)=>some "str"
 | .d (.lst _)=>some "list"
 | .d (.tup _)=>some "tuple"
 | .tp _=>some "tuple"
 | .ref a=>match M a with
  | some (.lst _)=>some "list"
  | some (.dK _)=>some "dict"
  | some (.dT _)=>some "dict"
  | _=>none
 | _=>none
theorem Am {K:ax}{H:Hp}{O:Own}{M:MH}{v:V}{x:AV}{t:String}(w:Wf H O M)(r:zq H O M v x)(h:tyA x M=some t):xD K H v (.type t):=by
 cases x with
 | tp l=>obtain ⟨a,xs,e,_,h1,_⟩:=r;rw [e];cases h;exact .tup h1
 | d x=>
  cases (show Rep H O v x from r) with
  | non=>cases h;exact .non
  | bl=>cases h;exact .bl _
  | int=>cases h;exact .int _
  | str=>cases h;exact .str _
  | lst o e=>cases h;exact .lst e
  | tup o e=>cases h;exact .tup e
  | ty=>cases h
  | rng _ _=>cases h
  | scr _ _=>cases h
  | scrK _=>cases h
 | ref a=>
  unfold tyA at h
  dsimp only at h
  rw [r.1]
  cases e:M a with
  | none=>rw [e] at h;cases h
  | some o=>
   rw [e] at h
   have:=w.mo a o e
   cases o with
   | lst l=>cases h;obtain ⟨xs,hx,_⟩:=this;exact .lst hx
   | dK l=>cases h;obtain ⟨xs,hx,_⟩:=this;exact .dK hx
   | dT l=>cases h;obtain ⟨xs,hx,_⟩:=this;exact .dT hx
   | dN l=>cases h
   | ins C fs=>cases h
   | exc C fs=>cases h
   | tb R=>cases h
noncomputable def wX:List AV->MH->AK->Prop:=fun xs M Q=>∃ x t c b,xs=[x,.d (.ty c)]/\tyA x M=some t/\isT t c=some b/\Q (.d (.bl b)) M
theorem FV:QF (fun xs H Q=>∃ x t c b,xs=[x,V.ty c]/\xD K H x (aj.type t)/\isT t c=some b/\Q (V.bl b) H) wX:=⟨fun w r ⟨x,t,c,b,e,h,hb,q⟩ k=>by
 subst e
 obtain ⟨v,u,rfl,rv,ru⟩:=yj r
 exact ⟨v,t,c,b,by rw [Bw ru],Am w rv h,hb,k _ _ _ _ _ q .refl w .bl⟩⟩
theorem YR {H:Hp}{O:Own}{M:MH}:∀ {ns:List String} {xs:List V},zl H O M xs ((ns.map Dat.ty).map .d)->xs=ns.map V.ty
 | [],xs,r=>r.nil_inv
 | i :: ns,xs,r=>by
  obtain ⟨v,r',rfl,a1,r2⟩:=r.cons_inv
  rw [Bw a1,YR r2];rfl
noncomputable def JO:List Dat->Option (List String)
 | []=>some []
 | .ty n :: r=>(JO r).map (n :: ·)
 | _=>none
theorem YO:∀ {l:List Dat} {cs:List String},JO l=some cs->l=cs.map Dat.ty
 | [],cs,h=>by cases h;rfl
 | .ty n :: r,cs,h=>by
  unfold JO at h
  cases e:JO r with
  | none=>rw [e] at h;cases h
  | some m=>rw [e] at h;cases h;rw [YO e];rfl
 | .non :: _,_,h=>by cases h
 | .bl _ :: _,_,h=>by cases h
 | .int _ :: _,_,h=>by cases h
 | .str _ :: _,_,h=>by cases h
 | .lst _ :: _,_,h=>by cases h
 | .tup _ :: _,_,h=>by cases h
 | .rng _ _ _ :: _,_,h=>by cases h
 | .scr _ _ :: _,_,h=>by cases h
noncomputable def We:List AV->MH->AK->Prop:=fun xs M Q=>∃ x t l cs b,xs=[x,.d (.tup l)]/\JO l=some cs/\tyA x M=some t/\vD t cs=some b/\Q (.d (.bl b)) M
theorem DR:QF (fun xs H Q=>∃ x t p cs b,xs=[x,V.ref p]/\H p=some (HO.tup (cf V.ty cs))/\xD K H x (aj.type t)/\vD t cs=some b/\Q (V.bl b) H) We:=⟨fun w r ⟨x,t,l,cs,b,e,hc,h,hb,q⟩ k=>by
 subst e
 obtain ⟨v,u,rfl,rv,ru⟩:=yj r
 rw [YO hc] at ru
 obtain ⟨a,xs,rfl,h1,r1⟩:=jk (l:=(cs.map Dat.ty).map .d) ru rfl
 rw [YR r1] at h1
 exact ⟨v,t,a,cs,b,rfl,h1,Am w rv h,hb,k _ _ _ _ _ q .refl w .bl⟩⟩
theorem XM {H:Hp}{O:Own}{M:MH}:∀ {ns:List Bool} {xs:List V},zl H O M xs (ns.map fun i=>AV.d (.bl i))->xs=ns.map V.bl
 | [],xs,r=>r.nil_inv
 | i :: ns,xs,r=>by
  obtain ⟨v,r',rfl,a1,r2⟩:=r.cons_inv
  rw [xo a1,XM r2];rfl
noncomputable def Ht (f:List Bool->Bool):List AV->MH->AK->Prop:=fun xs M Q=>∃ x bs,xs=[x]/\qo x M=some (cf (fun b=>AV.d (.bl b)) bs)/\Q (.d (.bl (f bs))) M
theorem Ew {f:List Bool->Bool}:QF (fun xs H Q=>∃ p bs,xs=[V.ref p]/\SqL K H p (cf V.bl bs)/\Q (V.bl (f bs)) H) (Ht f):=⟨fun w r ⟨x,bs,e,h,q⟩ k=>by
 subst e
 obtain ⟨v,rfl,rv⟩:=j3 r
 obtain ⟨a,xs,rfl,h1,r1⟩:=qx w rv h
 rw [XM r1] at h1
 exact ⟨a,bs,rfl,SqL.of h1,k _ _ _ _ _ q .refl w .bl⟩⟩
noncomputable def GY:List AV->MH->AK->Prop:=fun xs M Q=>∃ b,xs=[.d (.int b)]/\Q (.d (.rng 0 b 1)) M
theorem B3:QF (fun xs H Q=>∃ b,xs=[V.int b]/\∀ (p:au),H p=none->Q (V.ref p) (upd H p (Jh p 0 b 1))) GY:=⟨fun w r ⟨b,e,q⟩ k=>by
 subst e
 obtain ⟨v,rfl,rv⟩:=j3 r
 exact ⟨b,by rw [zO rv],fun p hp=>k _ _ _ _ _ q (qz w hp _) (xh w hp _) (Rep.rng (w.fresh hp).1 zm)⟩⟩
noncomputable def A1:List AV->MH->(List AV->Prop)->Prop:=fun xs M Q=>∃ a b c n,xs=[.d (.rng a b c)]/\e7 a b c=true/\dj a b c=((n:Nat):Int)/\n<=100000/\Q ((qj a c n).map fun i=>AV.d (.int i))
theorem Zv:D4 (fun xs H Q=>∃ p a b c n,xs=[.ref p]/\H p=some (Jh p a b c)/\e7 a b c=true/\dj a b c=((n:Nat):Int)/\n<=100000/\∀ l,H l=none->Q (.ref l) (upd H l (.lst ((qj a c n).map V.int)))) A1:=⟨fun {vs xs H O M Q Q'} w r ⟨a,b,c,n,e,h1,h2,h3,q⟩ k=>by
 subst e
 obtain ⟨v,rfl,rv⟩:=j3 r
 cases (show Rep H O v (.rng a b c) from rv) with
 | rng o h=>exact ⟨_,a,b,c,n,rfl,h,h1,h2,h3,k _ _ q (Km _)⟩⟩
noncomputable def flD:Dat->Option V
 | .non=>some .non
 | .bl b=>some (.bl b)
 | .int i=>some (.int i)
 | .str s=>some (.str s)
 | _=>none
noncomputable def Xm:List AV->Option (List V)
 | []=>some []
 | .d x :: r=>match flD x,Xm r with
  | some v,some l=>some (v :: l)
  | _,_=>none
 | _=>none
theorem Da {v x:V} (r:Rep H O v d)(h:flD d=some x):v=x/\xL v=true:=by
 cases r <;> cases h <;> exact ⟨rfl,rfl⟩
theorem Yj {H:Hp}{O:Own}{M:MH}:∀ {l:List AV} {xs vs:List V},zl H O M xs l->Xm l=some vs->xs=vs/\xs.all xL=true
 | [],xs,vs,r,h=>by cases h;rw [r.nil_inv];exact ⟨rfl,rfl⟩
 | .d d :: l,xs,vs,r,h=>by
  obtain ⟨v,r',rfl,a1,r2⟩:=r.cons_inv
  unfold Xm at h
  cases e1:flD d with
  | none=>rw [e1] at h;cases h
  | some z=>
   cases e2:Xm l with
   | none=>rw [e1,e2] at h;cases h
   | some zs=>
    rw [e1,e2] at h
    cases h
    obtain ⟨h1,h2⟩:=Da a1 e1
    obtain ⟨h3,h4⟩:=Yj r2 e2
    subst h1 h3
    exact ⟨rfl,by rw [dX,h2,h4];rfl⟩
 | .ref a :: l,xs,vs,r,h=>by cases h
noncomputable def aIn (neg:Bool):AR2:=fun x y M Q=>∃ d v l vs,x=.d d/\flD d=some v/\qO y M=some l/\Xm l=some vs/\Q (.d (.bl (if neg then !inV v vs else inV v vs))) M
theorem LH {neg:Bool}:yt (rIn K neg) (aIn neg):=⟨fun w r1 r2 ⟨d,v,l,vs,e,hv,hl,hs,q⟩ k=>by
 subst e
 obtain ⟨a,xs,rfl,h1,p1⟩:=Qp w r2 hl
 obtain ⟨rfl,f1⟩:=Da r1 hv
 obtain ⟨rfl,f2⟩:=Yj p1 hs
 exact ⟨a,xs,rfl,h1.elim (fun h=>.inl (SqL.of h)) (fun h=>.inr (SqT.of h)),f1,f2,k _ _ _ _ _ q .refl w .bl⟩⟩
structure Aw (r:V->List V->Hp->VK->Prop)(a:AV->List AV->MH->AK->Prop):Prop where
 go:∀ {x:V} {dx:AV} {vs:List V} {xs:List AV} {H:Hp} {O:Own} {M:MH} {Q:VK} {Q':AK},Wf H O M->zq H O M x dx->zl H O M vs xs->a dx xs M Q'->(∀ x M' v H' O',Q' x M'->Ext H O M H' O' M'->Wf H' O' M'->zq H' O' M' v x->Q v H')->r x vs H Q
noncomputable def aBM (r:AV->List AV->MH->AK->Prop)(a:AE)(b:AA):AE:=fun ρ M Q=>a ρ M fun x M1=>(∃ l,qo x M1=some l)/\b ρ M1 fun xs M2=>r x xs M2 Q
theorem Ik {r:V->List V->Hp->VK->Prop}{ra:AV->List AV->MH->AK->Prop}{t:TE} {a:AE}{b:AA}(hr:Aw r ra)(h1:zH t a)(h2:jo u b):zH (tBM K "list" r t u) (aBM ra a b):=
 ⟨fun w e q k=>h1.go w e q fun x M1 v H1 O1 ⟨⟨l,hl⟩,q1⟩ k1 w1 r1=>⟨by
  obtain ⟨a,xs,rfl,hx,_⟩:=qx w1 r1 hl
  exact .inl ⟨rfl,xs,SqL.of hx⟩,h2.go w1 (e.ext k1) q1 fun y M2 u H2 O2 q2 k2 w2 r2=>hr.go w2 (r1.ext k2) r2 q2 fun z M3 v3 H3 O3 q3 k3 w3 r3=>k z M3 v3 H3 O3 q3 ((k1.trans k2).trans k3) w3 r3⟩⟩
theorem WK {xs':List V}(w:Wf H O M)(hm:M p=some (.lst l))(r:zl H O M xs' l'):Ext H O M (upd H p (.lst xs')) O (mup M p (.lst l'))/\Wf (upd H p (.lst xs')) O (mup M p (.lst l')):=
 have np:=zW hm
 ⟨j5 w np _ _,Qi w np (fun _ z=>nomatch z) ⟨_,zm,r.ext (j5 w np _ _)⟩⟩
noncomputable def Yn:AV->List AV->MH->AK->Prop:=fun x xs M Q=>∃ p l y,x=.ref p/\xs=[y]/\M p=some (.lst l)/\l.length<aM/\Q (.d .non) (mup M p (.lst (l ++ [y])))
theorem Kf:Aw vL Yn:=⟨fun w r1 r2 ⟨p,l,y,e1,e2,hm,hs,q⟩ k=>by
 subst e1 e2
 obtain ⟨v,rfl,rv⟩:=j3 r2
 obtain ⟨xs,hx,rx⟩:=w.mo p _ hm
 obtain ⟨k1,w1⟩:=WK w hm (rx.snoc rv)
 exact ⟨p,xs,v,r1.1,rfl,hx,by rw [rx.1];exact hs,k _ _ _ _ _ q k1 w1 .non⟩⟩
noncomputable def An:AV->List AV->MH->AK->Prop:=fun x xs M Q=>∃ ns i j,qo x M=some (cf (fun i=>AV.d (.int i)) ns)/\xs=[.d (.int i)]/\j<ns.length/\ns.getD j 0=i/\(∀ m,m<j->ns.getD m 0 ≠ i)/\Q (.d (.int (j:Nat))) M
theorem Y7:Aw KS An:=⟨fun w r1 r2 ⟨ns,i,j,hl,e,h1,h2,h3,q⟩ k=>by
 subst e
 obtain ⟨u,rfl,ru⟩:=j3 r2
 obtain ⟨a,xs,rfl,hx,p1⟩:=qx w r1 hl
 rw [yH p1] at hx
 exact ⟨a,ns,i,j,rfl,by rw [zO ru],hx,h1,h2,h3,k _ _ _ _ _ q .refl w .int⟩⟩
noncomputable def Zx (r:au):MO->Prop
 | .lst l=>∃ x ∈ l,x.Has r
 | .dK kvs=>∃ x ∈ kvs.map (·.2),x.Has r
 | .dT kvs=>∃ x ∈ kvs.map (·.2),x.Has r
 | .dN kvs=>∃ x ∈ kvs.map (·.2),x.Has r
 | .ins _ fs=>∃ x ∈ fs.map (·.2),x.Has r
 | .exc _ _=>False
 | .tb _=>False
inductive Dee (M M2:MH):AV->Dat->Prop
 | d {x:Dat}:Dee M M2 (.d x) x
 | lst {p:au} {l:List AV} {ds:List Dat}:M p=some (.lst l)->M2 p=none->l.length=ds.length->(∀ (i:Nat) a b,l[i]?=some a->ds[i]?=some b->Dee M M2 a b)->Dee M M2 (.ref p) (.lst ds)
structure yd (M0 M':MH)(x x':AV)(M'':MH):Prop where
 sub:∀ q,M'' q=M' q \/ (M0 q=none/\M'' q=none)
 cl:∀ q o,M'' q=some o->M0 q=some o \/ ∀ r,Zx r o->M'' r ≠ none
 res:(x'=x/\∀ p,x.Has p->M'' p ≠ none) \/ (∃ p l ds,x=.ref p/\M' p=some (.lst l)/\pur l=some ds/\M'' p=none/\x'=.d (.lst ds)) \/ ∃ d,Dee M' M'' x d/\x'=.d d
theorem Dee.rep {H:Hp}{O:Own}{M M2:MH}(w:Wf H O M){x:AV}{d:Dat}(h:Dee M M2 x d):∀ {v:V},zq H O M v x->Rep H (fun a=>O a/\¬ (M a ≠ none/\M2 a=none)) v d:=by
 induction h with
 | d=>exact fun r=>Rep.imp (fun a u h e=>⟨e,fun z=>h z.1⟩) r
 | @lst p l ds hm hn hl _ ih=>
  intro v r
  obtain ⟨xs,hx,rx⟩:=w.mo p _ hm
  rw [r.1]
  refine Rep.lst (fun z=>z.2 ⟨zW hm,hn⟩) hx (rx.1.trans hl) fun i x d e1 e2=>?_
  have hi:=(aD.mp e2).1
  have ha:l[i]?=some (l[i]'(by omega)):=am (by omega)
  exact ih i _ d ha e2 (rx.2 i x _ e1 ha)
theorem QH {H0 H : Hp}{O0 O : Own}{M0 M' M'' : MH}{x x' : AV}{v : V}(w0 : Wf H0 O0 M0)(w : Wf H O M')(k : Ext H0 O0 M0 H O M')(r : zq H O M' v x)(f : yd M0 M' x x' M'') :
    ∃ O'',Wf H O'' M''/\Ext H0 O0 M0 H O'' M''/\zq H O'' M'' v x'/\∀ a,O a->M' a=none->O'' a/\M'' a=none:=by
  have ks:∀ a u,¬ O a->H a=some u->H a=some u/\¬ (O a/\¬ (M' a ≠ none/\M'' a=none)):=fun a u h e=>⟨e,fun z=>h z.1⟩
  have k0:∀ a,M0 a ≠ none->M'' a=M' a:=fun a h=>(f.sub a).elim (fun z=>z) (fun z=>absurd z.1 h)
  have m0:∀ a,M0 a ≠ none->M'' a ≠ none:=fun a h=>by rw [k0 a h];exact k.mst a h
  have tpk:∀ {v:V} {m:List (Dat ⊕ au)},zq H O M' v (.tp m)->(∀ r,bG r ∈ m->M'' r ≠ none)->zq H (fun a=>O a/\¬ (M' a ≠ none/\M'' a=none)) M'' v (.tp m):=fun {v m} ⟨a,xs,h1,h2,h3,h4,h5⟩ hr=>⟨a,xs,h1,fun z=>h2 z.1,h3,h4,fun i y d e1 e2=>by
    have:=h5 i y d e1 e2
    cases d with
    | inl d=>exact Rep.imp ks this
    | inr q=>exact ⟨this.1,hr q (aR e2)⟩⟩
  have avs:∀ {xs:List V} {l:List AV},zl H O M' xs l->(∀ r,(∃ x ∈ l,x.Has r)->M'' r ≠ none)->zl H (fun a=>O a/\¬ (M' a ≠ none/\M'' a=none)) M'' xs l:=fun {xs l} rr hr=>⟨rr.1,fun i y d e1 e2=>by
    have:=rr.2 i y d e1 e2
    cases d with
    | d d=>exact Rep.imp ks this
    | ref a=>exact ⟨this.1,hr a ⟨_,aR e2,rfl⟩⟩
    | tp m=>exact tpk this fun r h=>hr r ⟨_,aR e2,h⟩⟩
  have refs0:∀ q o,M0 q=some o->∀ r,Zx r o->M0 r ≠ none:=fun q o e r hr=>by
    have:=w0.mo q o e
    cases o with
    | lst l=>
      obtain ⟨xs,_,rr⟩:=this
      obtain ⟨x,hx,hh⟩:=hr
      obtain ⟨i,hi⟩:=bA hx
      obtain ⟨y,_,ry⟩:=rr.get hi
      exact ry.has hh
    | dK l=>
      obtain ⟨xs,_,rr⟩:=this
      obtain ⟨x,hx,hh⟩:=hr
      obtain ⟨i,hi⟩:=bA hx
      obtain ⟨y,_,ry⟩:=rr.2.get hi
      exact ry.has hh
    | dN l=>
      obtain ⟨xs,_,rr,_⟩:=this
      obtain ⟨x,hx,hh⟩:=hr
      obtain ⟨i,hi⟩:=bA hx
      obtain ⟨y,_,ry⟩:=rr.2.get hi
      exact ry.has hh
    | dT l=>
      obtain ⟨xs,_,rr⟩:=this
      obtain ⟨x,hx,hh⟩:=hr
      obtain ⟨i,hi⟩:=bA hx
      obtain ⟨y,_,ry⟩:=rr.2.get hi
      exact ry.has hh
    | ins C l=>
      obtain ⟨dx,xs,_,rr,_⟩:=this
      obtain ⟨x,hx,hh⟩:=hr
      obtain ⟨i,hi⟩:=bA hx
      obtain ⟨y,_,ry⟩:=rr.2.get hi
      exact ry.has hh
    | exc C l=>exact hr.elim
    | tb R=>exact hr.elim
  refine ⟨fun a=>O a/\¬ (M' a ≠ none/\M'' a=none),⟨fun q o e=>?_,fun a h=>?_,fun a h=>w.al a h.1⟩,⟨fun a u h e=>?_,fun a h e=>?_,m0⟩,?_,fun a h e=>⟨⟨h,fun z=>z.1 e⟩,(f.sub a).elim (fun z=>z.trans e) (fun z=>z.2)⟩⟩
  · have e' : M' q = some o := by
      rcases f.sub q with z | z
      · rw [<- z];exact e
      · rw [z.2] at e;cases e
    have hr:∀ r,Zx r o->M'' r ≠ none:=by
      rcases f.cl q o e with z | z
      · exact fun r hr=>m0 r (refs0 q o z r hr)
      · exact z
    have:=w.mo q o e'
    cases o with
    | lst l=>obtain ⟨xs,h1,rr⟩:=this;exact ⟨xs,h1,avs rr hr⟩
    | dK l=>obtain ⟨xs,h1,rr⟩:=this;exact ⟨xs,h1,rr.1,avs rr.2 hr⟩
    | dT l=>obtain ⟨xs,h1,rr⟩:=this;exact ⟨xs,h1,rr.1,avs rr.2 hr⟩
    | dN l=>obtain ⟨xs,h1,rr,hp⟩:=this;exact ⟨xs,h1,⟨rr.1,avs rr.2 hr⟩,fun x hx=>(hp x hx).imp ks⟩
    | ins C l=>
      obtain ⟨dx,xs,h1,rr,h2,h3,h4⟩:=this
      refine ⟨dx,xs,h1,⟨rr.1,avs rr.2 hr⟩,⟨h2,fun z=>z.1 h3⟩,?_,h4⟩
      rcases f.sub dx with z | z
      · rw [z];exact h3
      · exact z.2
    | exc C l=>
      obtain ⟨d,h1,h2⟩:=this
      refine ⟨d,h1,?_⟩
      rcases h2 with h2 | ⟨dx,e1,h2,h3,h4⟩
      · exact .inl h2
      · refine .inr ⟨dx,e1,h2,⟨h3,fun z=>z.1 h4⟩,?_⟩
        rcases f.sub dx with z | z
        · rw [z];exact h4
        · exact z.2
    | tb R=>obtain ⟨ps,h1,h2⟩:=this;exact ⟨ps,h1,h2.imp id fun ⟨c,oc,u,a1,a2,a3⟩=>⟨c,oc,u,a1,fun z=>a2 z.1,a3⟩⟩
  · refine ⟨w.own a ?_,fun z=>h z.2⟩
    rcases f.sub a with z | z
    · rw [<- z];exact h
    · exact absurd z.2 h
  · obtain ⟨x1,x2⟩:=k.fix a u h e
    exact ⟨x1,fun z=>x2 z.1⟩
  · obtain ⟨x1,x2,x3⟩:=k.prv a h e
    refine ⟨x1,⟨x2,fun z=>z.1 x3⟩,?_⟩
    rcases f.sub a with z | z
    · rw [z];exact x3
    · exact z.2
  · rcases f.res with ⟨rfl,hp⟩ | ⟨p,l,ds,rfl,hm,hp,hn,rfl⟩ | ⟨d,hd,rfl⟩
    · cases x' with
      | d d=>exact Rep.imp ks r
      | ref a=>exact ⟨r.1,hp a rfl⟩
      | tp m=>exact tpk r hp
    · obtain ⟨xs,hx,rx⟩:=w.mo p _ hm
      rw [kf hp] at rx
      have rp:=rx.pure
      rw [r.1]
      exact Rep.lst (fun z=>z.2 ⟨zW hm,hn⟩) hx rp.1 fun i x d e1 e2=>(rp.2 i x d e1 e2).imp ks
    · exact hd.rep w r
theorem xi {M0 M' M'':MH}{x x':AV} (w0:Wf H0 O0 M0)(w:Wf H O M')(k:Ext H0 O0 M0 H O M')(r:zq H O M' v x)(f:yd M0 M' x x' M'') :
  ∃ O'',Wf H O'' M''/\Ext H0 O0 M0 H O'' M''/\zq H O'' M'' v x':=let ⟨O2,a,b,c,_⟩:=QH w0 w k r f;⟨O2,a,b,c⟩
def Fr (M0 M:MH):Prop:=∀ q,M0 q ≠ none->M q=M0 q
theorem Fr.refl:Fr M M:=fun _ _=>rfl
theorem Fr.mup {M0 M:MH}(f:Fr M0 M){p:au}(h:M0 p=none)(o:MO):Fr M0 (mup M p o):=fun q hq=>by rw [zd (fun z=>hq (by rw [z];exact h))];exact f q hq
theorem Fr.sub {M0 M:MH}(f:Fr M0 M)(q:au):M0 q=M q \/ (M0 q=none/\M0 q=none):=by
 cases e:M0 q with
 | none=>exact .inr ⟨rfl,rfl⟩
 | some o=>exact .inl (by rw [f q (by rw [e];exact fun z=>nomatch z),e])
variable {M0:MH}
theorem qH (f:Fr M0 M)(d:Dat):yd M0 M (.d d) (.d d) M0:=⟨f.sub,fun q o e=>.inl e,.inl ⟨rfl,fun p z=>nomatch z⟩⟩
theorem j8 (h:pur l=some ds)(r:au):¬ ∃ x ∈ l,x.Has r:=by
 rw [kf h];rintro ⟨x,z,k⟩
 obtain ⟨d,_,e⟩:=br.mp z
 subst e;exact k
theorem Yp (f:Fr M0 M) (h0:M0 p=none)(h:M p=some (.lst l))(hp:pur l=some ds):yd M0 M (.ref p) (.ref p) (mup M0 p (.lst l)):=by
 refine ⟨fun q=>?_,fun q o e=>?_,.inl ⟨rfl,fun q z=>by cases z;rw [ze];exact fun z=>nomatch z⟩⟩
 ·by_cases c:q=p
  ·rw [c,ze,h];exact .inl rfl
  ·rw [zd c];exact f.sub q
 ·by_cases c:q=p
  ·rw [c,ze] at e
   cases e
   exact .inr fun r hr=>absurd hr (j8 hp r)
  ·rw [zd c] at e;exact .inl e
noncomputable def zN (N:List Str)(xs:List AV):ASt:=xs.map some ++ aF (N.length - xs.length) none
theorem yJ {xs:List AV}(r:zl H O M vs xs)(N:List Str):Er H O M (qJ N vs) (zN N xs):=by
 unfold qJ zN
 refine ⟨by simp [r.1],fun i x h=>?_⟩
 by_cases c:i<xs.length
 ·rw [cv (by simpa using c),aE] at h
  cases e:xs[i]? with
  | none=>rw [e] at h;cases h
  | some y=>
   rw [e] at h
   cases h
   obtain ⟨v,hv,rv⟩:=r.get e
   exact ⟨v,by rw [cv (by rw [aq,r.1];exact c),aE,hv];rfl,rv⟩
 ·rw [cS (by simp;omega),g0] at h
  split at h <;> cases h
noncomputable def rtA (M0:MH)(Q:AK):AK:=fun x M'=>∃ x' M'',yd M0 M' x x' M''/\Q x' M''
theorem dfA {x:Str} {k:Nat}{a:ASp}(at_:At K mg x st)(S:zu N ps (zg st))
  (hb:∀ (kV doc pm:aj) (an:Option au) (cdv ct:aj) (us:List aj),us.length=ps.length->eJ (bO x x (qv st) (zM st) (zg st) .none kV doc pm an cdv ct) ⟨us,[]⟩=pure (ps.zip us))
  (len:∀ xs M Q,a xs M Q->xs.length=ps.length)
  (hbody:∀ (f:au) (cdv:aj) (A:aZ) (outer:List Env) (s:aw) (H:Hp) (E:XK),qt k (A.deeper (eZ x (zg st) s.heap.objs.size f cdv)) ->
   ∃ t,PSs (jM CX0 P w K mg base N x (zg st) f cdv A outer s H E).nox (zM st) t/\∃ b,jy t b/\∀ xs M Q,a xs M Q->b M { nx:=fun _ M'=>rtA M Q (.d .non) M',rt:=rtA M Q } (zN N xs) M):Df P w K mg base x ps (k+1) (cSp a):=by
 refine Zk at_ S hb (fun vs H Q E h=>?_) (fun f cdv A outer s H vs Q E hr h=>?_)
 ·obtain ⟨xs,M,O,Q',w,r,q,_⟩:=h
  rw [r.1];exact len xs M Q' q
 ·obtain ⟨t,ht,b,hb,hq⟩:=hbody f cdv A outer s H E hr
  refine ⟨t,ht,?_⟩
  obtain ⟨xs,M,O,Q',w,r,q,kk⟩:=h
  refine hb.go w w (yJ r N) .refl (hq xs M Q' q) ⟨fun σ H' O' ρ M' w' e' x' q'=>?_,fun v y H' O' M' w' x' r' q'=>?_,fun _ _ _ _ _ _ _ _ z=>z.elim,fun _ _ _ _ _ _ _ _ z=>z.elim⟩
  ·obtain ⟨y',M'',f,q2⟩:=q'
   obtain ⟨O'',w2,k2,r2⟩:=xi w w' x' (show zq H' O' M' .non (.d .non) from .non) f
   exact kk _ _ _ _ _ q2 k2 w2 r2
  ·obtain ⟨y',M'',f,q2⟩:=q'
   obtain ⟨O'',w2,k2,r2⟩:=xi w w' x' r' f
   exact kk _ _ _ _ _ q2 k2 w2 r2
structure Na (tr:au->TR)(a:ATR):Prop where
 go:∀ D,XX D (tr D) a
theorem WE {t u:TE}{a b:AE}(h1:zH t a)(h2:zH u b):zH (tOp Ed t u) (aFz (fOp Hw a b)):=yA (Qm Q1 h1 h2)
theorem BI {t u:TE}{a b:AE}(h1:zH t a)(h2:zH u b):zH (tOp EQ t u) (aFz (fOp Lw a b)):=yA (Qm JL h1 h2)
theorem Y2 {b:AA}(h:jo u b):zH (tCB (fun xs H Q=>∃ p ys,xs=[V.ref p]/\(SqL K H p ys \/ SqT K H p ys)/\∀ l,H l=none->Q (V.ref l) (upd H l (HO.lst ys))) u) (aFz (fCB Wz b)):=yA (Qj Zf h)
theorem Vz {b:AA}(h:jo u b):zH (tCB (fun xs H Q=>∃ p a b c n,xs=[.ref p]/\H p=some (Jh p a b c)/\e7 a b c=true/\dj a b c=((n:Nat):Int)/\n<=100000/\∀ l,H l=none->Q (.ref l) (upd H l (.lst ((qj a c n).map V.int)))) u) (aFz (fCB A1 b)):=yA (Qj Zv h)
variable {q:AS->Prop}
theorem ex2 {t:TS} {b:AS}(h:jy t b)(k:q b):∃ b,jy t b/\q b:=⟨b,h,k⟩
section
variable {X:Cx}{K:ax}
end
theorem Z1 {τ:Type}(R:τ->ASt)(f:AV->AV) {N:List AV->ASt->MH->Prop} (h0:∃ o,ρ=R o)(hG:G M)(hl:l.length<=100000)
  (hs:∀ (o:τ) (x:AV) (Q:AV->ASt->MH->Prop),x ∈ l->(∀ o',Q (f x) (R o') M)->ag x (R o) M fun ρ2 M2=>ae ρ2 M2 fun y M3=>Q y ρ2 M3) (hN:∀ o,N (l.map f) (R o) M):Je ag vj (xy ae) G N l [] ρ M:=by
 have hsl:100000<aM:=by rw [cg];decide
 refine ⟨fun i acc ρ' M'=>i<=l.length/\acc=(l.take i).map f/\M'=M/\∃ o,ρ'=R o,⟨cK _,rfl,rfl,h0⟩,?_,?_⟩
 ·rintro i x acc ρ' M' hx ⟨hi,rfl,rfl,o,rfl⟩
  have hil:=(aD.mp hx).1
  refine ⟨hG,?_⟩
  refine hs o x (fun y ρ2 M3=>((l.take i).map f).length<aM/\(i+1<=l.length/\(l.take i).map f ++ [y]=(l.take (i+1)).map f/\M3=M'/\∃ o,ρ2=R o)) (aR hx) fun o'=>⟨by rw [aq,b8];omega,hil,?_,rfl,o',rfl⟩
  rw [gR,hx,bB];rfl
 ·rintro acc ρ' M' ⟨_,rfl,rfl,o,rfl⟩
  rw [eS]
  exact ⟨hG,hN o⟩
theorem Fl {τ:Type}(R:τ->ASt)(f:Nat->AV) {N:List AV->ASt->MH->Prop} (h0:∃ o,ρ=R o)(hG:G M)(hl:l.length<=100000)
  (hs:∀ (o:τ) (i:Nat) (x:AV) (Q:AV->ASt->MH->Prop),l[i]?=some x->(∀ o',Q (f i) (R o') M)->ag x (R o) M fun ρ2 M2=>ae ρ2 M2 fun y M3=>Q y ρ2 M3) (hN:∀ o,N ((bW l.length).map f) (R o) M):Je ag vj (xy ae) G N l [] ρ M:=by
 have hsl:100000<aM:=by rw [cg];decide
 refine ⟨fun i acc ρ' M'=>i<=l.length/\acc=(bW i).map f/\M'=M/\∃ o,ρ'=R o,⟨cK _,rfl,rfl,h0⟩,?_,?_⟩
 ·rintro i x acc ρ' M' hx ⟨hi,rfl,rfl,o,rfl⟩
  have hil:=(aD.mp hx).1
  refine ⟨hG,?_⟩
  refine hs o i x (fun y ρ2 M3=>((bW i).map f).length<aM/\(i+1<=l.length/\(bW i).map f ++ [y]=(bW (i+1)).map f/\M3=M'/\∃ o,ρ2=R o)) hx fun o'=>⟨by rw [aq,fL];omega,hil,?_,rfl,o',rfl⟩
  rw [List.range_succ,bB];rfl
 ·rintro acc ρ' M' ⟨_,rfl,rfl,o,rfl⟩
  exact ⟨hG,hN o⟩
theorem Jv {α:Type}(F:α->Dat)(l:List α):pur (l.map fun a=>AV.d (F a))=some (l.map F):=by
 have:(l.map fun a=>AV.d (F a))=(l.map F).map .d:=by rw [aY];rfl
 rw [this,qc]
theorem Vj {τ:Type}(R:τ->ASt)(p:AV->Bool)(f:AV->AV) {N:List AV->ASt->MH->Prop} (h0:∃ o,ρ=R o)(hG:G M)(hl:l.length<=100000)
  (hs:∀ (o:τ) (x:AV) (Q:Option AV->ASt->MH->Prop),x ∈ l->(∀ o',Q (if p x then some (f x) else none) (R o') M)->ag x (R o) M fun ρ2 M2=>at_ ρ2 M2 fun b M3=>if b=true then ae ρ2 M3 fun y M4=>Q (some y) ρ2 M4 else Q none ρ2 M3)
  (hN:∀ o,N ((l.filter p).map f) (R o) M):Je ag at_ (xy ae) G N l [] ρ M:=by
 have hsl:100000<aM:=by rw [cg];decide
 refine ⟨fun i acc ρ' M'=>i<=l.length/\acc=((l.take i).filter p).map f/\M'=M/\∃ o,ρ'=R o,⟨cK _,rfl,rfl,h0⟩,?_,?_⟩
 ·rintro i x acc ρ' M' hx ⟨hi,rfl,rfl,o,rfl⟩
  have hil:=(aD.mp hx).1
  have tk:l.take (i+1)=l.take i ++ [x]:=by rw [gR,hx];rfl
  have hlen:(((l.take i).filter p).map f).length<=i:=by
   rw [aq]
   exact bb (fO _ _) (by rw [b8];omega)
  refine ⟨hG,?_⟩
  refine hs o x (fun y ρ2 M3=>match y with | some y=>(((l.take i).filter p).map f).length<aM/\(i+1<=l.length/\((l.take i).filter p).map f ++ [y]=((l.take (i+1)).filter p).map f/\M3=M'/\∃ o,ρ2=R o) | none=>i+1<=l.length/\((l.take i).filter p).map f=((l.take (i+1)).filter p).map f/\M3=M'/\∃ o,ρ2=R o) (aR hx) fun o'=>?_
  rw [tk,List.filter_append]
  cases e:p x with
  | true=>rw [if_pos rfl];exact ⟨by omega,hil,by rw [List.filter_cons_of_pos e,bB];rfl,rfl,o',rfl⟩
  | false=>rw [if_neg (by decide)];exact ⟨hil,by rw [List.filter_cons_of_neg (by rw [e];decide),List.filter_nil,bQ],rfl,o',rfl⟩
 ·rintro acc ρ' M' ⟨_,rfl,rfl,o,rfl⟩
  rw [eS]
  exact ⟨hG,hN o⟩
theorem KY:isT "int" "int"=some true:=by decide +kernel
theorem ZX:isT "int" "bool"=some false:=by decide +kernel
theorem KZ:isT "int" "str"=some false:=by decide +kernel
theorem Hn:isT "int" "list"=some false:=by decide +kernel
theorem D6:isT "int" "tuple"=some false:=by decide +kernel
theorem K6:isT "bool" "int"=some true:=by decide +kernel
theorem ZS:isT "bool" "bool"=some true:=by decide +kernel
theorem Ke:isT "bool" "str"=some false:=by decide +kernel
theorem IP:isT "bool" "list"=some false:=by decide +kernel
theorem Ak:isT "bool" "tuple"=some false:=by decide +kernel
theorem Dg:isT "str" "int"=some false:=by decide +kernel
theorem IF:isT "str" "bool"=some false:=by decide +kernel
theorem v6:isT "str" "str"=some true:=by decide +kernel
theorem Ii:isT "str" "list"=some false:=by decide +kernel
theorem Wx:isT "str" "tuple"=some false:=by decide +kernel
theorem W4:isT "NoneType" "int"=some false:=by decide +kernel
theorem Lk:isT "NoneType" "bool"=some false:=by decide +kernel
theorem Z8:isT "NoneType" "str"=some false:=by decide +kernel
theorem IE:isT "NoneType" "list"=some false:=by decide +kernel
theorem Ww:isT "NoneType" "tuple"=some false:=by decide +kernel
theorem Dj:isT "list" "int"=some false:=by decide +kernel
theorem HW:isT "list" "bool"=some false:=by decide +kernel
theorem AL:isT "list" "str"=some false:=by decide +kernel
theorem KO:isT "list" "list"=some true:=by decide +kernel
theorem Z9:isT "list" "tuple"=some false:=by decide +kernel
theorem Wn:isT "tuple" "int"=some false:=by decide +kernel
theorem IL:isT "tuple" "bool"=some false:=by decide +kernel
theorem Wv:isT "tuple" "str"=some false:=by decide +kernel
theorem Ko:isT "tuple" "list"=some false:=by decide +kernel
theorem ZY:isT "tuple" "tuple"=some true:=by decide +kernel
theorem BZ:vD "int" ["list","tuple"]=some false:=by decide +kernel
theorem B8:vD "bool" ["list","tuple"]=some false:=by decide +kernel
theorem BU:vD "str" ["list","tuple"]=some false:=by decide +kernel
theorem Ai:vD "NoneType" ["list","tuple"]=some false:=by decide +kernel
theorem B7:vD "list" ["list","tuple"]=some true:=by decide +kernel
theorem Dh:vD "tuple" ["list","tuple"]=some true:=by decide +kernel
theorem Dx:JO []=some []:=rfl
theorem Y9 {n:String}{r:List Dat}:JO (.ty n :: r)=(JO r).map (n :: ·):=rfl
theorem Mr (M:MH):tyA (.d .non) M=some "NoneType":=rfl
theorem L5 (b:Bool)(M:MH):tyA (.d (.bl b)) M=some "bool":=rfl
theorem Ma (i:Int)(M:MH):tyA (.d (.int i)) M=some "int":=rfl
theorem Mb (s:Str)(M:MH):tyA (.d (.str s)) M=some "str":=rfl
theorem MN (l:List Dat)(M:MH):tyA (.d (.lst l)) M=some "list":=rfl
theorem MK (l:List Dat)(M:MH):tyA (.d (.tup l)) M=some "tuple":=rfl
theorem VW (x:Dat)(r:List AV):pur (.d x :: r)=match pur r with | some l=>some (x :: l) | none=>none:=rfl
theorem Hx (i j:Int):eqS (.int i) (.int j)=some (decide (i=j)):=rfl
theorem Ij (i j:Bool):eqS (.bl i) (.bl j)=some (decide (i=j)):=rfl
theorem Ib (i j:Str):eqS (.str i) (.str j)=some (decide (i=j)):=rfl
theorem Ff:jP (.d .non)=true:=rfl
theorem Fb (i:Int):jP (.d (.int i))=false:=rfl
theorem FI (i:List Dat):jP (.d (.lst i))=false:=rfl
theorem Fd (i:List Dat):jP (.d (.tup i))=false:=rfl
theorem FC (i:au):jP (.ref i)=false:=rfl
theorem FF (i:Str):jP (.d (.str i))=false:=rfl
theorem EB (i:Bool):jP (.d (.bl i))=false:=rfl
theorem DC (w:Wf H O M)(k:Kp [] H H'):Ext H O M H' O M/\Wf H' O M:=by
 have e:Ext H O M H' O M:=⟨fun a o h e=>⟨k a o (by simp) e,h⟩,fun a h e=>⟨by
  obtain ⟨o,ho,_⟩:=w.al a h
  rw [ho];exact k a o (by simp) ho,h,e⟩,fun _ h=>h⟩
 refine ⟨e,⟨fun a o h=>jf.ext e ?_ (w.mo a o h),w.own,fun a h=>?_⟩⟩
 ·obtain ⟨u,hu,_⟩:=w.al a (w.own a (by rw [h];exact fun z=>nomatch z))
  rw [hu];exact k a u (by simp) hu
 ·obtain ⟨o,ho,hn⟩:=w.al a h
  exact ⟨o,k a o (by simp) ho,hn⟩
theorem Hi (w:Wf H O M) (hb:M b=some (.lst l))(k:Kp [b] H H') (h:H' b=some (.lst (ns.map V.int))) :
  Ext H O M H' O (mup M b (.lst (ns.map fun i=>.d (.int i))))/\Wf H' O (mup M b (.lst (ns.map fun i=>.d (.int i)))):=by
 have hOb:=w.own b (zW hb)
 have kk:∀ a o,a ≠ b->H a=some o->H' a=some o:=fun a o ha e=>k a o (by simpa using ha) e
 have e:Ext H O M H' O (mup M b (.lst (ns.map fun i=>.d (.int i)))):=⟨fun a o h e=>⟨kk a o (fun z=>h (by rw [z];exact hOb)) e,h⟩,fun a ha e=>by
  have hne:a ≠ b:=fun z=>by rw [z,hb] at e;cases e
  obtain ⟨o,ho,_⟩:=w.al a ha
  exact ⟨by rw [ho];exact kk a o hne ho,ha,by rw [zd hne];exact e⟩,fun a ha=>by
  by_cases c:a=b
  ·rw [c,ze];exact fun z=>nomatch z
  ·rw [zd c];exact ha⟩
 refine ⟨e,⟨fun a o ho=>?_,fun a ha=>?_,fun a ha=>?_⟩⟩
 ·by_cases c:a=b
  ·subst c;rw [ze] at ho;cases ho;exact ⟨_,h,Km ns⟩
  ·rw [zd c] at ho
   refine jf.ext e ?_ (w.mo a o ho)
   obtain ⟨u,hu,_⟩:=w.al a (w.own a (zW ho))
   rw [hu];exact kk a u c hu
 ·by_cases c:a=b
  ·rw [c];exact hOb
  ·rw [zd c] at ha;exact w.own a ha
 ·by_cases c:a=b
  ·rw [c];exact ⟨_,h,fun xs z=>nomatch z⟩
  ·obtain ⟨o,ho,hn⟩:=w.al a ha
   exact ⟨o,kk a o c ho,hn⟩
theorem BP (ho:¬ O p)(h:H p=some (.lst (ns.map V.int))):Rep H O (.ref p) (.lst (ns.map .int)):=
 Rep.lst ho h (by simp) fun i x d e1 e2=>by
  rw [aE] at e1 e2
  cases e:ns[i]? with
  | none=>rw [e] at e1;cases e1
  | some n=>rw [e] at e1 e2;cases e1;cases e2;exact .int
theorem Ec {x:AV} (w:Wf H O M)(r:zq H O M v x)(h:qo x M=some (ns.map fun i=>.d (.int i))):∃ a,v=.ref a/\H a=some (.lst (ns.map V.int)):=by
 obtain ⟨a,xs,rfl,h1,r1⟩:=qx w r h
 rw [yH r1] at h1
 exact ⟨a,rfl,h1⟩
theorem Df.imp' {x:Str} {sp sp':Sp}{k:Nat}(D:Df P w K mg base x ps k sp)(h:∀ vs H Q E,sp' vs H Q E->sp vs H Q E):Df P w K mg base x ps k sp':=
 let ⟨f,fd,F,r⟩:=D
 ⟨f,fd,F.imp h,r⟩
mutual
noncomputable def wdt:Dat->Nat
 | .lst l=>max l.length (KH l)
 | .tup l=>max l.length (KH l)
 | _=>0
noncomputable def KH:List Dat->Nat
 | []=>0
 | a :: r=>max (wdt a) (KH r)
end
theorem XU {l:List Dat}{n:Nat}(h:∀ d ∈ l,wdt d<=n):KH l<=n:=by
 induction l with
 | nil=>exact cK _
 | cons a r ih=>rw [KH];exact eN.mpr ⟨h a (by simp),ih fun d hd=>h d (by simp [hd])⟩
theorem Yz {l:List Dat}{d:Dat}(h:d ∈ l):wdt d<=KH l:=by
 induction l with
 | nil=>cases h
 | cons a r ih=>
  rw [KH]
  rcases aA.mp h with rfl | h
  ·exact iE _ _
  ·exact bb (ih h) (hW _ _)
def jL (n:Nat)(d:Dat):Prop:=dp d<=n/\wdt d<=100000
theorem jL.mono {n m:Nat} (h:jL n d)(k:n<=m):jL m d:=⟨bb h.1 k,h.2⟩
theorem WP {l:List Dat}(hl:l.length<=100000)(h:∀ d ∈ l,jL n d):jL (n+1) (.lst l):=⟨by rw [dp];exact b9 (jY fun d hd=>(h d hd).1),by rw [wdt];exact eN.mpr ⟨hl,XU fun d hd=>(h d hd).2⟩⟩
theorem Q9 {l:List Dat}(hl:l.length<=100000)(h:∀ d ∈ l,jL n d):jL (n+1) (.tup l):=⟨by rw [dp];exact b9 (jY fun d hd=>(h d hd).1),by rw [wdt];exact eN.mpr ⟨hl,XU fun d hd=>(h d hd).2⟩⟩
theorem QO (n:Nat)(i:Int):jL n (.int i):=⟨by simp [dp],by simp [wdt]⟩
theorem BC (n:Nat):jL n .non:=⟨by simp [dp],by simp [wdt]⟩
theorem Xj (h:ns.length<=100000):jL 1 (.tup (ns.map .int)):=Q9 (by simpa using h) fun d hd=>by obtain ⟨i,_,rfl⟩:=br.mp hd;exact QO 0 i
theorem jL.lst {l:List Dat}(h:jL (n+1) (.lst l)):l.length<=100000/\∀ d ∈ l,jL n d:=by
 obtain ⟨h1,h2⟩:=h
 rw [dp] at h1
 rw [wdt] at h2
 exact ⟨(eN.mp h2).1,fun d hd=>⟨by have:=qG hd;omega,bb (Yz hd) (eN.mp h2).2⟩⟩
theorem jL.tup {l:List Dat}(h:jL (n+1) (.tup l)):l.length<=100000/\∀ d ∈ l,jL n d:=by
 obtain ⟨h1,h2⟩:=h
 rw [dp] at h1
 rw [wdt] at h2
 exact ⟨(eN.mp h2).1,fun d hd=>⟨by have:=qG hd;omega,bb (Yz hd) (eN.mp h2).2⟩⟩
theorem jL.no_l {l:List Dat}(h:jL 0 (.lst l)):False:=by have:=h.1;rw [dp] at this;omega
theorem jL.no_t {l:List Dat}(h:jL 0 (.tup l)):False:=by have:=h.1;rw [dp] at this;omega
theorem QM {x:AV}{M:MH}{l:List Dat}(h:xf x M=some (.lst l)):qo x M=some (l.map .d)/\qO x M=some (l.map .d)/\tyA x M=some "list"/\jP x=false:=by
 cases x with
 | tp l=>cases h
 | d x=>cases h;exact ⟨rfl,rfl,rfl,rfl⟩
 | ref a=>
  unfold xf at h
  dsimp only at h
  cases e:M a with
  | none=>rw [e] at h;cases h
  | some o=>
   rw [e] at h
   cases o with
   | lst m=>
    dsimp only at h
    cases ep:pur m with
    | none=>rw [ep] at h;cases h
    | some ds=>
     rw [ep] at h
     cases h
     rw [kf ep] at e
     exact ⟨jx e,zz e,by unfold tyA;dsimp only;rw [e],rfl⟩
   | _=>cases h
theorem qF {x:AV}{M:MH}{d:Dat}(h:xf x M=some d)(hd:∀ l,d ≠ .lst l):x=.d d:=by
 cases x with
 | tp l=>cases h
 | d x=>cases h;rfl
 | ref a=>
  unfold xf at h
  dsimp only at h
  cases e:M a with
  | none=>rw [e] at h;cases h
  | some o=>
   rw [e] at h
   cases o with
   | lst m=>
    dsimp only at h
    cases ep:pur m with
    | none=>rw [ep] at h;cases h
    | some ds=>rw [ep] at h;cases h;exact absurd rfl (hd ds)
   | _=>cases h
theorem Jd (b:Bool):dp (.bl b)=0:=by simp [dp]
theorem ju (b:Str):dp (.str b)=0:=by simp [dp]
theorem Kc:dp .non=0:=by simp [dp]
theorem K4 (a b:Bool):eqD (.bl a) (.bl b)=decide (a=b):=by rw [eqD];cases a <;> cases b <;> rfl
theorem xB (a b:Int):eqD (.int a) (.int b)=decide (a=b):=by rw [eqD];by_cases h:a=b <;> simp [h]
theorem xa (a b:Str):eqD (.str a) (.str b)=decide (a=b):=by rw [eqD];by_cases h:a=b <;> simp [h]
theorem Ae:eqD .non .non=true:=by simp [eqD]
theorem WY (i:Int):eqD .non (.int i)=false:=by simp [eqD]
theorem HE (i:Int):eqD (.int i) .non=false:=by simp [eqD]
theorem Iz (i:Int)(s:Str):eqD (.int i) (.str s)=false:=by simp [eqD]
theorem Hf (i:Int)(s:Str):eqD (.str s) (.int i)=false:=by simp [eqD]
theorem II (s:Str):eqD (.str s) .non=false:=by simp [eqD]
theorem HS (s:Str):eqD .non (.str s)=false:=by simp [eqD]
theorem YH (ns:List Int):cf AV.d (cf Dat.int ns)=cf (fun i=>AV.d (.int i)) ns:=by rw [aY];rfl
theorem GX (ns:List Bool):cf AV.d (cf Dat.bl ns)=cf (fun i=>AV.d (.bl i)) ns:=by rw [aY];rfl
theorem qw (ns:List Int):pur (cf (fun i=>AV.d (.int i)) ns)=some (ns.map Dat.int):=by rw [<- YH,qc]
theorem Fm (ns:List Bool):pur (cf (fun i=>AV.d (.bl i)) ns)=some (ns.map Dat.bl):=by rw [<- GX,qc]
theorem EO {α β:Type}(f:α->β)(l:List α)(i:Int):atI (l.map f) i=(atI l i).map f:=by
 unfold atI
 rw [aq]
 cases ixN l.length i with
 | none=>rfl
 | some j=>exact aE ..
theorem qQ {i:Int}(h0:0<=i)(h1:i<n):ixN n i=some i.toNat:=by unfold ixN;rw [if_pos h0,if_pos h1]
theorem HZ {α:Type}{l:List α}{i:Int}(h0:0<=i)(h1:i<l.length)(d:α):atI l i=some (l.getD i.toNat d):=by
 unfold atI
 rw [qQ h0 h1]
 show l[i.toNat]?=_
 rw [ay,am (by omega)];rfl
theorem yQ {α:Type}(xs:List α)(k:Nat):wr xs (some (k:Int)) none=xs.drop k:=by
 unfold wr
 rw [HT.sIx_nat,HT.sIx_none,List.take_of_length_le (by rw [dE];omega)]
 by_cases h:k<=xs.length
 ·rw [Nat.min_eq_left h]
 ·rw [Nat.min_eq_right (by omega),List.drop_length,iq (by omega)]
theorem zh {a qM:AS}{B:MH}{D:jw} (h:∀ r,r=qM->yN a r B D ρ M):yN a qM B D ρ M:=h qM rfl
theorem Fr.non {M M':MH}(f:Fr M M'){p:au}(h:M' p=none):M p=none:=by
 cases e:M p with
 | none=>rfl
 | some o=>rw [f p (by rw [e];exact fun z=>nomatch z),e] at h;cases h
noncomputable abbrev ilD (os:List Int):Dat:=.lst (os.map .int)
theorem F3 (ns:List Int)(M:MH):qo (.d (ilD ns)) M=some (ns.map fun i=>.d (.int i)):=by rw [Wj,YH]
def BxM (M:MH)(b:au)(N:Nat):Prop:=∃ x y z:Int,M b=some (.lst [.d (.int x),.d (.int y),.d (.int z)])/\0<=x/\0<=y/\y<2147483648/\0<=z/\z<=N
theorem BxM.mono {N N':Nat}(h:BxM M b N)(hn:N<=N'):BxM M b N':=by
 obtain ⟨x,y,z,h1,h2,h3,h4,h5,h6⟩:=h
 exact ⟨x,y,z,h1,h2,h3,h4,h5,by omega⟩
theorem BxM.ne {N:Nat}(h:BxM M b N):M b ≠ none:=by obtain ⟨x,y,z,h1,_⟩:=h;exact zW h1
theorem BxM.bx {N:Nat}(w:Wf H O M)(h:BxM M b N):Bx H b N:=by
 obtain ⟨x,y,z,h1,h2⟩:=h
 obtain ⟨xs,hx,rx⟩:=w.mo b _ h1
 rw [yH (ns:=[x,y,z]) rx] at hx
 exact ⟨x,y,z,hx,h2⟩
def BxS (M M':MH)(b:au)(N:Nat):Prop:=BxM M' b N/\∃ o,M'=mup M b o
theorem BxS.at {N:Nat}(h:BxS M M' b N){q:au}(hq:q ≠ b):M' q=M q:=by
 obtain ⟨_,o,rfl⟩:=h
 exact zd hq
theorem Fr.bx (f:Fr M0 M) {N:Nat}(h:BxS M M' b N)(hb:M0 b=none):Fr M0 M':=fun q hq=>by rw [h.at (fun z=>hq (by rw [z];exact hb))];exact f q hq
theorem DY (w:Wf H O M) {N N':Nat}(hb:BxM M b N)(k:Kp [b] H H')(h:Bx H' b N'):∃ M',BxS M M' b N'/\Ext H O M H' O M'/\Wf H' O M':=by
 obtain ⟨x,y,z,h1,_⟩:=hb
 obtain ⟨x',y',z',g1,g2⟩:=h
 obtain ⟨e1,e2⟩:=Hi w h1 k (ns:=[x',y',z']) g1
 exact ⟨_,⟨⟨x',y',z',ze,g2⟩,_,rfl⟩,e1,e2⟩
mutual
noncomputable def pdD:Dat->bX
 | .bl b=>.bool b
 | .int i=>.int i
 | .str x=>.str x
 | .lst l=>.list (xb l)
 | .tup l=>.tuple (xb l)
 | _=>.none
noncomputable def xb:List Dat->List bX
 | []=>[]
 | a :: r=>pdD a :: xb r
end
section
variable {X:Cx}{pins:List (au × Obj)}{s:aw}{σ:St}{H:Hp}{O:Own}
mutual
theorem LC:∀ d:Dat,(pdD d).hasDict=false
 | .non=>by simp [pdD,bX.hasDict]
 | .bl _=>by simp [pdD,bX.hasDict]
 | .int _=>by simp [pdD,bX.hasDict]
 | .str _=>by simp [pdD,bX.hasDict]
 | .ty _=>by simp [pdD,bX.hasDict]
 | .rng _ _ _=>by simp [pdD,bX.hasDict]
 | .scr _ _=>by simp [pdD,bX.hasDict]
 | .lst l=>by rw [pdD,bX.hasDict];exact Z6 l
 | .tup l=>by rw [pdD,bX.hasDict];exact Z6 l
theorem Z6:∀ l:List Dat,bX.hasDictAll (xb l)=false
 | []=>by simp [xb,bX.hasDictAll]
 | a :: r=>by rw [xb,bX.hasDictAll,LC a,Z6 r];rfl
end
mutual
theorem By:∀ d:Dat,(pdD d).depth<=dp d
 | .non=>by simp [pdD,bX.depth]
 | .bl _=>by simp [pdD,bX.depth]
 | .int _=>by simp [pdD,bX.depth]
 | .str _=>by simp [pdD,bX.depth]
 | .ty _=>by simp [pdD,bX.depth]
 | .rng _ _ _=>by simp [pdD,bX.depth]
 | .scr _ _=>by simp [pdD,bX.depth]
 | .lst l=>by rw [pdD,bX.depth,dp];exact b9 (y9 l)
 | .tup l=>by rw [pdD,bX.depth,dp];exact b9 (y9 l)
theorem y9:∀ l:List Dat,bX.depthAll (xb l)<=dps l
 | []=>by simp [xb,bX.depthAll]
 | a :: r=>by rw [xb,bX.depthAll,dps];exact eN.mpr ⟨bb (By a) (iE _ _),bb (y9 r) (hW _ _)⟩
end
end
section
variable {X:Cx}
end
structure Sh (b:Nat)(d:Dat):Prop where
 s:(pdD d).showable=true
 l:(pdD d).shown.length<=b
theorem Sh.mono {b c:Nat} (h:Sh b d)(k:b<=c):Sh c d:=⟨h.s,bb h.l k⟩
theorem QB {i:Int}(h:i.natAbs<10 ^ 20):Sh 22 (.int i):=by
 have h1:i.natAbs.log2<1920:=by
  by_cases z:i.natAbs=0
  ·rw [z];decide
  ·exact (Nat.log2_lt z).mpr (Nat.lt_trans h (by decide +kernel))
 refine ⟨by rw [pdD,bX.showable];exact decide_eq_true h1,?_⟩
 rw [pdD,bX.shown]
 have:=int_text_length_le10 (a:=i) (k:=20) (by decide) h
 have e:(af (toString i)).length=(toString i).length:=PySem.ofString_length _
 show (af (toString i)).length<=22
 omega
theorem YK {l:List Dat}(h:∀ d ∈ l,(pdD d).showable=true):bX.showableAll (xb l)=true:=by
 induction l with
 | nil=>simp [xb,bX.showableAll]
 | cons a r ih=>rw [xb,bX.showableAll,h a (by simp),ih fun d hd=>h d (by simp [hd])];rfl
theorem yD {b:Nat}{l:List Dat}(h:∀ d ∈ l,(pdD d).shown.length<=b):((bX.shownAll (xb l)).map (·.length)).sum<=l.length * b/\(bX.shownAll (xb l)).length=l.length:=by
 induction l with
 | nil=>simp [xb,bX.shownAll]
 | cons a r ih=>
  obtain ⟨h1,h2⟩:=ih fun d hd=>h d (by simp [hd])
  have h3:=h a (by simp)
  rw [xb,bX.shownAll]
  simp only [aV,List.sum_cons,aT]
  refine ⟨?_,by rw [h2]⟩
  rw [Nat.add_mul,Nat.one_mul]
  omega
theorem WM {b n:Nat}{l:List Dat}(hn:l.length<=n)(h:∀ d ∈ l,Sh b d):Sh (n * b+2 * n+3) (.lst l):=by
 obtain ⟨h1,h2⟩:=yD (fun d hd=>(h d hd).l)
 refine ⟨by rw [pdD,bX.showable];exact YK fun d hd=>(h d hd).s,?_⟩
 rw [pdD,bX.shown]
 have:=listText_len_le (bX.shownAll (xb l))
 have hm:l.length * b<=n * b:=iV b hn
 omega
theorem HK {b n:Nat}{l:List Dat}(hn:l.length<=n)(h:∀ d ∈ l,Sh b d):Sh (n * b+2 * n+3) (.tup l):=by
 obtain ⟨h1,h2⟩:=yD (fun d hd=>(h d hd).l)
 refine ⟨by rw [pdD,bX.showable];exact YK fun d hd=>(h d hd).s,?_⟩
 rw [pdD,bX.shown]
 have:=tupleText_len_le (bX.shownAll (xb l))
 have hm:l.length * b<=n * b:=iV b hn
 omega
def Yi (ρ:ASt)(j:Nat)(p:au):Prop:=match ρ[j]? with
 | some (some y)=>y.Has p
 | _=>False
noncomputable def LN (i:Nat)(t:TS):TS:=t
theorem Fu {ss:List cw}{t:TS}(i:Nat)(h:PSs X ss t):PSs X ss (LN i t):=h
noncomputable def Hy (i:Nat)(a:AS):AS:=fun B D ρ M=>∃ p l ds,ρ[i]?=some (some (.ref p))/\M p=some (.lst l)/\pur l=some ds/\B p=none/\(∀ j:Nat,j ≠ i->¬ Yi ρ j p)/\(∀ q o,q ≠ p->M q=some o->B q=some o \/ ¬ Zx p o)/\a B D (ρ.set i (some (.d (.lst ds)))) (K2 M p)
theorem Ay {t:TS}{a:AS}(h:jy t a):jy (LN i t) (Hy i a):=⟨fun {H0 O0 M0 D D' σ H O ρ M} w0 w e x q E=>by
 obtain ⟨p,l,ds,hi,hm,hp,hb,ho,hr,q⟩:=q
 obtain ⟨xs,hx,rx⟩:=w.mo p _ hm
 have rx0:=rx
 rw [kf hp] at rx
 have rp:=rx.pure
 have ks:=xS (H:=H) (O:=O) p
 have refs0:∀ q o,M0 q=some o->¬ Zx p o:=fun q o eq hr'=>by
  have:=w0.mo q o eq
  cases o with
  | lst l=>obtain ⟨xs,_,rr⟩:=this;obtain ⟨x,hx',hh⟩:=hr';obtain ⟨i,hi⟩:=bA hx';obtain ⟨y,_,ry⟩:=rr.get hi;exact ry.has hh hb
  | dK l=>obtain ⟨xs,_,rr⟩:=this;obtain ⟨x,hx',hh⟩:=hr';obtain ⟨i,hi⟩:=bA hx';obtain ⟨y,_,ry⟩:=rr.2.get hi;exact ry.has hh hb
  | dT l=>obtain ⟨xs,_,rr⟩:=this;obtain ⟨x,hx',hh⟩:=hr';obtain ⟨i,hi⟩:=bA hx';obtain ⟨y,_,ry⟩:=rr.2.get hi;exact ry.has hh hb
  | dN l=>obtain ⟨xs,_,rr,_⟩:=this;obtain ⟨x,hx',hh⟩:=hr';obtain ⟨i,hi⟩:=bA hx';obtain ⟨y,_,ry⟩:=rr.2.get hi;exact ry.has hh hb
  | ins C l=>obtain ⟨dx,xs,_,rr,_⟩:=this;obtain ⟨x,hx',hh⟩:=hr';obtain ⟨i,hi⟩:=bA hx';obtain ⟨y,_,ry⟩:=rr.2.get hi;exact ry.has hh hb
  | exc C l=>exact hr'.elim
  | tb R=>exact hr'.elim
 have av:∀ {v:V} {y:AV},zq H O M v y->¬ y.Has p->zq H (Z4 O p) (K2 M p) v y:=fun {v y} r hy=>by
  cases y with
  | d y=>exact Rep.imp ks r
  | ref a=>exact ⟨r.1,by rw [kZ (fun z=>hy (show a=p from z))];exact r.2⟩
  | tp m=>
   obtain ⟨a,xs,h1,h2,h3,h4,h5⟩:=r
   refine ⟨a,xs,h1,fun z=>h2 z.2,h3,h4,fun i x d e1 e2=>?_⟩
   have:=h5 i x d e1 e2
   cases d with
   | inl d=>exact Rep.imp ks this
   | inr q=>exact ⟨this.1,by rw [kZ (fun z=>hy (by rw [<- z];exact aR e2))];exact this.2⟩
 have avs:∀ {vs:List V} {ys:List AV},zl H O M vs ys->(¬ ∃ x ∈ ys,x.Has p)->zl H (Z4 O p) (K2 M p) vs ys:=fun r hy=>⟨r.1,fun i v y e1 e2=>av (r.2 i v y e1 e2) fun z=>hy ⟨_,aR e2,z⟩⟩
 have hOd:∀ dx b,O dx->M dx=none->H dx=some b->(∀ xs,b ≠ .lst xs)->Z4 O p dx/\K2 M p dx=none:=fun dx b h1 h2 h3 h4=>⟨⟨Ze h3 hx (h4 _),h1⟩,by unfold K2;split;rfl;exact h2⟩
 refine h.go w0 ⟨fun q o eq=>?_,fun a ha=>?_,fun a (ha:Z4 O p a)=>w.al a ha.2⟩ ⟨?_,fun j y hj=>?_⟩ ⟨fun a o ha eo=>⟨(x.fix a o ha eo).1,fun (z:Z4 O p a)=>(x.fix a o ha eo).2 z.2⟩,fun a ha eo=>?_,fun a ha=>?_⟩ q E
 ·have hq:q ≠ p:=fun z=>by rw [z,Zm] at eq;cases eq
  rw [kZ hq] at eq
  have hno:¬ Zx p o:=(hr q o hq eq).elim (fun z=>refs0 q o z) (fun z=>z)
  have:=w.mo q o eq
  cases o with
  | lst l=>obtain ⟨xs,h1,rr⟩:=this;exact ⟨xs,h1,avs rr hno⟩
  | dK l=>obtain ⟨xs,h1,rr⟩:=this;exact ⟨xs,h1,rr.1,avs rr.2 hno⟩
  | dT l=>obtain ⟨xs,h1,rr⟩:=this;exact ⟨xs,h1,rr.1,avs rr.2 hno⟩
  | dN l=>obtain ⟨xs,h1,rr,hp⟩:=this;exact ⟨xs,h1,⟨rr.1,avs rr.2 hno⟩,fun x hx=>(hp x hx).imp ks⟩
  | ins C l=>obtain ⟨dx,xs,h1,rr,h2,h3,h4⟩:=this;exact ⟨dx,xs,h1,⟨rr.1,avs rr.2 hno⟩,(hOd dx _ h2 h3 h4 (fun _ z=>nomatch z)).1,(hOd dx _ h2 h3 h4 (fun _ z=>nomatch z)).2,h4⟩
  | exc C l=>
   obtain ⟨d,h1,h2⟩:=this
   refine ⟨d,h1,?_⟩
   rcases h2 with h2 | ⟨dx,e1,h2,h3,h4⟩
   ·exact .inl h2
   ·exact .inr ⟨dx,e1,h2,(hOd dx _ h3 h4 h2 (fun _ z=>nomatch z)).1,(hOd dx _ h3 h4 h2 (fun _ z=>nomatch z)).2⟩
  | tb R=>obtain ⟨ps,h1,h2⟩:=this;exact ⟨ps,h1,h2.imp id fun ⟨c,oc,u,a1,a2,a3⟩=>⟨c,oc,u,a1,fun z=>a2 z.2,a3⟩⟩
 ·have hq:a ≠ p:=fun z=>ha (by rw [z,Zm])
  rw [kZ hq] at ha
  exact ⟨hq,w.own a ha⟩
 ·rw [bN];exact e.len
 ·rw [cb] at hj
  by_cases c:i=j
  ·rw [if_pos c] at hj
   split at hj
   ·cases hj
    obtain ⟨v,hv,rv⟩:=e.get i _ hi
    rw [<- c]
    exact ⟨v,hv,by rw [rv.1];exact Rep.lst (fun z=>z.1 rfl) hx rp.1 fun i x d e1 e2=>(rp.2 i x d e1 e2).imp ks⟩
   ·cases hj
  ·rw [if_neg c] at hj
   obtain ⟨v,hv,rv⟩:=e.get j y hj
   exact ⟨v,hv,av rv (fun z=>ho j (fun z'=>c z'.symm) (by unfold Yi;rw [hj];exact z))⟩
 ·obtain ⟨x1,x2,x3⟩:=x.prv a ha eo
  have hne:a ≠ p:=fun z=>by rw [z,hm] at x3;cases x3
  exact ⟨x1,⟨hne,x2⟩,by rw [kZ hne];exact x3⟩
 ·have hq:a ≠ p:=fun z=>ha (by rw [z];exact hb)
  rw [kZ hq];exact x.mst a ha⟩
structure SB (M0 M:MH)(b:au)(N:Nat):Prop where
 bx:BxM M b N
 fr:∀ q,M0 q ≠ none->q ≠ b->M q=M0 q
 b0:M0 b ≠ none
theorem SB.refl {N:Nat}(h:BxM M b N):SB M M b N:=⟨h,fun _ _ _=>rfl,h.ne⟩
theorem SB.go {N N':Nat}(s:SB M0 M b N)(t:BxS M M' b N'):SB M0 M' b N':=⟨t.1,fun q hq hb=>(t.at hb).trans (s.fr q hq hb),s.b0⟩
theorem SB.mono {N N':Nat}(s:SB M0 M b N)(h:N<=N'):SB M0 M b N':=⟨s.bx.mono h,s.fr,s.b0⟩
theorem BxM.put {N:Nat}(h:BxM M b N)(n:b ≠ p)(o:MO):BxM (mup M p o) b N:=by
 obtain ⟨x,y,z,h1,h2⟩:=h
 exact ⟨x,y,z,by rw [zd n];exact h1,h2⟩
theorem SB.new {M0 M:MH}{b p:au}{N:Nat}(s:SB M0 M b N)(hp:M p=none):M0 p=none/\p ≠ b:=by
 have hb:p ≠ b:=fun z=>s.bx.ne (by rw [<- z];exact hp)
 refine ⟨?_,hb⟩
 cases e:M0 p with
 | none=>rfl
 | some o=>rw [s.fr p (by rw [e];exact fun z=>nomatch z) hb,e] at hp;cases hp
theorem SB.put {N:Nat}(s:SB M0 M b N)(h0:M0 p=none)(hb:p ≠ b)(o:MO):SB M0 (mup M p o) b N:=
 ⟨s.bx.put (Ne.symm hb) o,fun q hq hqb=>by rw [zd (fun z=>hq (by rw [z];exact h0))];exact s.fr q hq hqb,s.b0⟩
theorem SB.fin {N:Nat}(s:SB M0 M b N)(d:Dat):∃ M'',yd M0 M (.d d) (.d d) M''/\BxS M0 M'' b N:=by
 obtain ⟨x,y,z,h1,h2⟩:=s.bx
 refine ⟨mup M0 b (.lst [.d (.int x),.d (.int y),.d (.int z)]),⟨fun q=>?_,fun q o e=>?_,.inl ⟨rfl,fun p z=>nomatch z⟩⟩,⟨x,y,z,ze,h2⟩,_,rfl⟩
 ·by_cases c:q=b
  ·rw [c,ze,h1];exact .inl rfl
  ·rw [zd c]
   cases e:M0 q with
   | none=>exact .inr ⟨rfl,rfl⟩
   | some o=>exact .inl (by rw [s.fr q (by rw [e];exact fun z=>nomatch z) c,e])
 ·by_cases c:q=b
  ·rw [c,ze] at e
   cases e
   exact .inr fun r hr=>absurd hr (j8 (ds:=[.int x,.int y,.int z]) rfl r)
  ·rw [zd c] at e;exact .inl e
theorem SB.rt {N:Nat}{Q:AK} (s:SB M0 M b N)(q:∀ M',BxS M0 M' b N->Q (.d d) M'):rtA M0 Q (.d d) M:=by
 obtain ⟨M'',f,t⟩:=s.fin d
 exact ⟨_,_,f,q M'' t⟩
theorem VY {Q:AK} (f:Fr M0 M)(q:Q (.d d) M0):rtA M0 Q (.d d) M:=⟨_,_,qH f d,q⟩
theorem MZ {l:List Dat}{i:Int}(h0:0<=i)(h1:i<l.length):∃ d ∈ l,atI (l.map AV.d) i=some (.d d):=by
 have h2:i.toNat<l.length:=by omega
 refine ⟨l[i.toNat],bq h2,?_⟩
 rw [EO,HZ h0 h1 .non,ay,am h2];rfl
section
variable {X:Cx}
end
section
open PySem.SeqAt
open PySem.AutoSeq1 (wpAny_loadPart')
open PySem.MeetsSeq PySem.MeetsSeq2 PySem.MeetsSeq3 PySem.SeqRoads2
end
section
variable {X:Cx}
end
section
variable {X:Cx}{pins:List (au × Obj)}{σ:St}{H:Hp}{s:aw}{a b:au}{kvs:List (List Key × V)}{k:List Key}{v:V}{r:aj}{A:aZ}{E:aj->aw->Prop}
end
section
variable {prog:aS}{w:bo}{A:aZ}{E:aj->aw->Prop}{s:aw}
end
section
variable {X:Cx}
end
theorem Yg {α τ:Type}(R:τ->ASt)(g f:α->AV)(xs:List α) {N:List AV->ASt->MH->Prop} (h0:∃ o,ρ=R o)(hG:G M)(hl:xs.length<=100000)
  (hs:∀ (o:τ) (x:α) (Q:AV->ASt->MH->Prop),x ∈ xs->(∀ o',Q (f x) (R o') M)->ag (g x) (R o) M fun ρ2 M2=>ae ρ2 M2 fun y M3=>Q y ρ2 M3) (hN:∀ o,N (xs.map f) (R o) M):Je ag vj (xy ae) G N (xs.map g) [] ρ M:=by
 have hsl:100000<aM:=by rw [cg];decide
 refine ⟨fun i acc ρ' M'=>i<=xs.length/\acc=(xs.take i).map f/\M'=M/\∃ o,ρ'=R o,⟨cK _,rfl,rfl,h0⟩,?_,?_⟩
 ·rintro i x acc ρ' M' hx ⟨hi,rfl,rfl,o,rfl⟩
  rw [aE] at hx
  cases e:xs[i]? with
  | none=>rw [e] at hx;cases hx
  | some y=>
   rw [e] at hx
   cases hx
   have hil:=(aD.mp e).1
   refine ⟨hG,?_⟩
   refine hs o y (fun z ρ2 M3=>((xs.take i).map f).length<aM/\(i+1<=xs.length/\(xs.take i).map f ++ [z]=(xs.take (i+1)).map f/\M3=M'/\∃ o,ρ2=R o)) (aR e) fun o'=>⟨by rw [aq,b8];omega,hil,?_,rfl,o',rfl⟩
   rw [gR,e,bB];rfl
 ·rintro acc ρ' M' ⟨_,rfl,rfl,o,rfl⟩
  rw [aq,eS]
  exact ⟨hG,hN o⟩
noncomputable def fl2 (o:Obj):Option aj:=match o.data with
 | .fields vs=>vs[2]?
 | _=>none
def SmD (h h':Heap):Prop:=∀ b o,h.get? b=some o->∃ o',h'.get? b=some o'/\o'.dict=o.dict/\fl2 o'=fl2 o
theorem SmD.refl (h:Heap):SmD h h:=fun _ o e=>⟨o,e,rfl,rfl⟩
theorem SmD.trans {h h1 h2:Heap}(a:SmD h h1)(b:SmD h1 h2):SmD h h2:=fun c o e=>
 let ⟨_,e1,d1,f1⟩:=a c o e
 let ⟨o2,e2,d2,f2⟩:=b c _ e1
 ⟨o2,e2,d2.trans d1,f2.trans f1⟩
theorem SmD.push (h:Heap)(o:Obj):SmD h (h.push o):=fun _ u e=>⟨u,az _ e,rfl,rfl⟩
theorem SmD.up {h:Heap} {f:Obj->Obj}(k:∀ o,(f o).dict=o.dict/\fl2 (f o)=fl2 o/\(o.isFreed=false->(f o).isFreed=false)):SmD h (h.update a f):=fun b o e=>by
 by_cases c:a=b
 ·subst c
  exact ⟨_,bJ f e ((k o).2.2 (Heap.get?_some_iff.mp e).2),(k o).1,(k o).2.1⟩
 ·exact ⟨o,(dv _ _ c).trans e,rfl,rfl⟩
structure Kd {α:Type}(t:Sem α):Prop where
 out:∀ (M:mz) (G:PySem.Ctx) (R:α->Pos->aw->Prop) (Ee:aj->Pos->aw->Prop) (p:Pos) (s:aw),Sem.wp M G t R Ee p s->Sem.wp M G t (fun a p' s'=>R a p' s'/\SmD s.heap s'.heap) Ee p s
section
variable {α β:Type}
theorem Qn (a:α):Kd (Pure.pure a:Sem α):=⟨fun _ _ _ _ _ s h=>⟨h,SmD.refl _⟩⟩
theorem Ho (x:String):Kd (unsupported x:Sem α):=⟨fun _ _ _ _ _ _ h=>h⟩
theorem Yu {m:Sem α}{f:α->Sem β}(hm:Kd m)(hf:∀ a,Kd (f a)):Kd (m >>= f):=⟨fun M G R Ee p s h=>by
 rw [Sem.wp_bind'] at h ⊢
 refine Sem.wp_mono M G m (fun a p1 s1 h1=>?_) (fun _ _ _ z=>z) p s (hm.out M G _ Ee p s h)
 refine Sem.wp_mono M G (f a) (fun b p2 s2 h2=>⟨h2.1,h1.2.trans h2.2⟩) (fun _ _ _ z=>z) p1 s1 ((hf a).out M G R Ee p1 s1 h1.1)⟩
theorem Il {c:Prop}[Decidable c]{t u:Sem α}(ht:Kd t)(hu:Kd u):Kd (if c then t else u):=by split <;> assumption
theorem E6 (a:au):Kd (PySem.load a):=⟨fun _ _ R _ p s h=>by
 unfold PySem.load at h ⊢
 rw [Sem.wp_load] at h ⊢
 obtain ⟨o,e,h⟩:=h
 exact ⟨o,e,h,SmD.refl _⟩⟩
theorem Vp {f:Obj->Obj}(k:∀ o,(f o).dict=o.dict/\fl2 (f o)=fl2 o/\(o.isFreed=false->(f o).isFreed=false)):Kd (PySem.update a f):=⟨fun _ _ R _ p s h=>by
 unfold PySem.update at h ⊢
 rw [Sem.wp_update] at h ⊢
 exact ⟨h.1,h.2,SmD.up k⟩⟩
theorem Wl:Kd PySem.stack:=⟨fun M G R Ee p s h=>by
 unfold PySem.stack at h ⊢
 rw [Sem.wp_stack] at h ⊢
 exact ⟨h,SmD.refl _⟩⟩
theorem AN (o:Obj):Kd (PySem.alloc o):=⟨fun _ _ R _ p s h=>by
 unfold PySem.alloc at h ⊢
 rw [Sem.wp_alloc] at h ⊢
 exact ⟨h,SmD.push _ _⟩⟩
theorem BV (v:aj)(i:Nat):Kd (PySem.field v i):=⟨fun _ G R Ee p s h=>by
 obtain ⟨a,o,vs,x,e1,e2,e3,e4,q⟩:=(wp_field_iff G v i R Ee p s).mp h
 exact (wp_field_iff G v i _ Ee p s).mpr ⟨a,o,vs,x,e1,e2,e3,e4,q,SmD.refl _⟩⟩
theorem VS (hi:i ≠ 2)(x:aj)(o:Obj):(bC (·.setIfInBounds i x) o).dict=o.dict/\fl2 (bC (·.setIfInBounds i x) o)=fl2 o/\(o.isFreed=false->(bC (·.setIfInBounds i x) o).isFreed=false):=by
 obtain ⟨c,d,dt,sl⟩:=o
 cases dt
 case fields vs=>exact ⟨rfl,Array.getElem?_setIfInBounds_ne hi,fun h=>h⟩
 all_goals exact ⟨rfl,rfl,fun h=>h⟩
theorem JU (v:aj)(i:Nat)(x:aj)(hi:i ≠ 2):Kd (PySem.setField v i x):=⟨fun _ G R Ee p s h=>by
 obtain ⟨a,o,vs,e1,e2,e3,e4,q⟩:=(wp_setField_iff G v i x R Ee p s).mp h
 exact (wp_setField_iff G v i x _ Ee p s).mpr ⟨a,o,vs,e1,e2,e3,e4,q,SmD.up (VS hi x)⟩⟩
end
local macro_rules | `(tactic| walk_at "kd")=>`(tactic| repeat' with_reducible first
  | assumption
  | exact Qn _
  | exact Ho _
  | exact BV _ _
  | exact JU _ _ _ (by decide)
  | exact E6 _
  | exact Wl
  | exact AN _
  | apply Il
  | apply Yu
  | intro _
  | split)
theorem Vw (env:Env)(outer:List Env):Kd (behindIsImport env outer):=by
 unfold behindIsImport
 walk_at "kd"
theorem Vi:Kd underTheClaimsCaller:=by
 unfold underTheClaimsCaller
 walk_at "kd"
theorem F6 (env:Env)(i:Bool)(l:List Env):Kd (keptBack env i l):=by
 have:=Vi
 cases l <;> unfold keptBack <;> walk_at "kd"
theorem QN:∀ l:List Env,Kd (readyFrames l)
 | []=>Qn _
 | env :: outer=>by
  have ih:=QN outer
  have h1:=Vw env outer
  have h2:=fun i=>F6 env i outer
  unfold readyFrames
  walk_at "kd"
  all_goals first | exact h2 _ | exact Vp fun o=>⟨rfl,rfl,fun z=>by obtain ⟨c,d,dt,sl⟩:=o;cases dt <;> exact z⟩ | skip
theorem Jz (l:List Env):Kd (frameObject l):=by
 cases l with
 | nil=>exact Qn _
 | cons env outer=>
  have:=QN (env :: outer)
  unfold frameObject
  walk_at "kd"
theorem Qs:Kd frameEnvs:=by
 unfold frameEnvs
 walk_at "kd"
theorem K9 (env:Env):Kd (PySem.frameOf env):=by
 have h1:=Qs
 have h2:=Jz
 unfold PySem.frameOf
 walk_at "kd"
 all_goals first | exact h2 _ | skip
theorem Wi (f:au)(b:Bool):Kd (entryPlaceOf f b):=by
 unfold entryPlaceOf
 walk_at "kd"
theorem B9 (a b c d e:aj)(l:List aj):Kd (EntryCells.newEntry a b c d e l):=by
 unfold EntryCells.newEntry newFields newObj newObjAsIs
 walk_at "kd"
theorem QD (e:aj)(env:Env):Kd (hJ e env):=by
 have h1:=K9 env
 have h2:=Wi
 have h3:=B9
 unfold hJ
 walk_at "kd"
 all_goals first | exact h2 _ _ | exact h3 _ _ _ _ _ _ | skip
theorem xQ (e:aj)(f:Option au):Kd (hX e f):=by
 unfold hX
 walk_at "kd"
theorem wM (env:Env)(e:aj):Kd (leaving env e):=Yu (QD e env) fun _=>xQ e none
theorem Kd.any {α:Type}{t:Sem α}(k:Kd t){M:mz} {Q:α->aw->Prop}{E:aj->aw->Prop} (h:aO M A t Q E s):aO M A t (fun a s'=>Q a s'/\SmD s.heap s'.heap) E s:=
 fun G p hG=>k.out M G _ _ p s (h G p hG)
theorem zQ.here {P:aS}{w:bo}{H:Hp}{h:Heap}{a:au}{o:HO}(x:zQ P w H h a o):∃ u,h.get? a=some u:=by
 cases o with
 | lst xs=>obtain ⟨_,_,_,_,e⟩:=x;exact ⟨_,e⟩
 | tup xs=>obtain ⟨_,_,_,o,e,_⟩:=x;exact ⟨_,e⟩
 | dK kvs=>obtain ⟨_,_,_,_,o,_,_,e,_⟩:=x;exact ⟨_,e⟩
 | dT kvs=>obtain ⟨_,_,_,_,o,_,_,e,_⟩:=x;exact ⟨_,e⟩
 | set S n=>obtain ⟨o,_,_,_,e,_⟩:=x;exact ⟨_,e⟩
 | ins C dx fs=>obtain ⟨_,_,_,e,_⟩:=x;exact ⟨_,e⟩
 | own y=>exact x
 | xd fs=>obtain ⟨_,⟨_,_,_,e,_⟩,_⟩:=x;exact ⟨_,e⟩
 | rng lo hi=>obtain ⟨_,_,_,e⟩:=x;exact ⟨_,e⟩
 | frz ob u=>obtain ⟨e,_⟩:=x;exact ⟨_,e⟩
 | tbl ps=>exact ⟨_,x⟩
 | met f y=>exact ⟨_,x⟩
 | ext φ=>exact x.2.1
structure yk (P:aS)(w:bo)(outer:List Env)(H:Hp)(s:aw)(B:Heap)(H':Hp)(s':aw):Prop where
 os:s'.os=s.os
 bare:gu s'.gens
 stay:B.StaysIn s'.heap
 cov:∀ b o,s.heap.get? b=some o->b ∉ frs outer->∃ o',B.get? b=some o'/\(H b=none->o'=o)
 slot:∀ b o,s.heap.get? b=some o->b ∈ frs outer->∃ sl,s'.heap.get? b=some { o with slots:=sl }
 frf:∀ b ∈ frs outer,H b=none
 free:∀ b o,s.heap.get? b=some o->H b=none->H' b=none
 tups:∀ b xs,H b=some (.tup xs)->H' b=some (.tup xs)
 frzs:∀ b o u,H b=some (.frz o u)->H' b=some (.frz o u)
 tbls:∀ b ps,H b=some (.tbl ps)->∃ more,H' b=some (.tbl (ps ++ more))
 hok:HOk P w H' B
section
variable {P:aS}{w:bo}{outer:List Env}{H H':Hp}{s s':aw}{B h':Heap}
theorem yk.un (a:yk P w outer H s B H' s'):Un (frs outer) [] H H' s.heap s'.heap where
 keep:=fun b o e n hb _=>by
  obtain ⟨o',e1,e2⟩:=a.cov b o e hb
  rw [e2 n] at e1
  exact a.stay b o e1
 slot:=fun b o e _ hb _=>a.slot b o e hb
 free:=fun b o e n _=>a.free b o e n
 there:=fun b o e _=>by
  by_cases hb:b ∈ frs outer
  ·obtain ⟨sl,z⟩:=a.slot b o e hb
   exact ⟨_,z⟩
  ·obtain ⟨o',e1,_⟩:=a.cov b o e hb
   exact ⟨_,a.stay b o' e1⟩
 tups:=a.tups
 frzs:=a.frzs
 tbls:=a.tbls
theorem yk.ok (a:yk P w outer H s B H' s'):HOk P w H' s'.heap:=a.hok.kept a.stay
theorem yk.step (a:yk P w outer H s B H' s'){B0:Heap}(fr:s'.heap.FunFrames B0 outer)(k:B.StaysIn h')(u:s'.heap.UpToSlots h'):yk P w outer H s B H' { s' with heap:=h' }:=
 ⟨a.os,a.bare,k,a.cov,fun b o e hb=>by
  obtain ⟨sl,z⟩:=a.slot b o e hb
  obtain ⟨_,o2,e2,nf⟩:=fr.mem hb
  rw [z] at e2;cases e2
  obtain ⟨sl2,z2⟩:=u b _ z nf
  exact ⟨sl2,z2⟩,a.frf,a.free,a.tups,a.frzs,a.tbls,a.hok⟩
end
section
variable {X:Cx}{pins:List (au × Obj)}{σ:St}{H H':Hp}{s s':aw}{B h':Heap}
theorem Inv.ltS (I:Inv X pins σ H s) {o:Obj}(e:X.s₀.heap.get? b=some o):b ≠ X.env.locals:=fun z=>by
 have h:=bn (aG e) I.ok.above
 rw [z] at h
 exact cW _ h
theorem Inv.notStk (I:Inv X pins σ H s) {o:Obj}(e:X.s₀.heap.get? b=some o)(hb:b ∉ frs X.outer):b ∉ frs X.stack:=fun z=>(aA.mp (I.stkSub b z)).elim (I.ltS e) hb
theorem vf {X:Cx}(hs:X.stack=X.env :: X.outer){b:au}(hb:b ∈ frs X.outer):b ∈ frs X.stack:=by
 rw [hs];unfold frs;rw [eX]
 cases X.env.frame with
 | none=>exact hb
 | some f=>exact aX _ hb
theorem yk.out (I:Inv X pins σ H s)(hs:X.stack=X.env :: X.outer)(hex:X.ex=[])(a:yk X.prog X.w X.stack H s B H' s'):yk X.prog X.w X.outer X.H₀ X.s₀ B H' s':=by
 have nx:∀ b,b ∉ X.ex:=fun b=>by rw [hex];simp
 refine ⟨a.os.trans I.os,a.bare,a.stay,fun b o e hb=>?_,fun b o e hb=>?_,I.ok.frf,fun b o e n=>?_,fun b xs e=>a.tups b xs (I.base.tups b xs e),fun b o u e=>a.frzs b o u (I.base.frzs b o u e),fun b ps e=>?_,a.hok⟩
 ·obtain ⟨o1,e1⟩:=I.base.there b o e (nx b)
  obtain ⟨o',e2,e3⟩:=a.cov b o1 e1 (I.notStk e hb)
  refine ⟨o',e2,fun n=>?_⟩
  have:=I.base.keep b o e n hb (nx b)
  rw [e1] at this;cases this
  exact e3 (I.base.free b o e n (nx b))
 ·obtain ⟨sl,e1⟩:=I.base.slot b o e (I.ok.frf b hb) hb (nx b)
  obtain ⟨sl2,e2⟩:=a.slot b _ e1 (vf hs hb)
  exact ⟨sl2,e2⟩
 ·obtain ⟨o1,e1⟩:=I.base.there b o e (nx b)
  exact a.free b o1 e1 (I.base.free b o e n (nx b))
 ·obtain ⟨m1,e1⟩:=I.base.tbls b ps e
  obtain ⟨m2,e2⟩:=a.tbls b _ e1
  exact ⟨m1 ++ m2,by rw [e2,lj]⟩
noncomputable def jt (X:Cx)(s:aw)(x:au):Heap:=PySem.W.hideAll s.heap (x :: frs X.stack)
theorem Yt (I:Inv X pins σ H s){x:au}(hx:H x=none):HOk X.prog X.w H (jt X s x):=fun a o e=>by
 refine (I.hok a o e).stay (fun b u hb q=>eW _ q fun z=>?_) (fun _ q=>q) fun _ _ q=>q
 have:H b=none:=by
  rcases aA.mp z with rfl | z
  ·exact hx
  ·exact I.stkFree b z
 rcases hb with rfl | hb
 ·rw [e] at this;cases this
 ·rw [hb] at this;cases this
theorem Kh (I:Inv X pins σ H s)(hs:X.stack=X.env :: X.outer)(hex:X.ex=[]){x:au}(hx0:X.s₀.heap.get? x=none)(hx:H x=none)(st:(jt X s x).StaysIn h')(us:s.heap.UpToSlots h') :
  yk X.prog X.w X.outer X.H₀ X.s₀ (jt X s x) H { s with heap:=h' }:=by
 have nx:∀ b,b ∉ X.ex:=fun b=>by rw [hex];simp
 have hid:∀ b o o',X.s₀.heap.get? b=some o->b ∉ frs X.outer->s.heap.get? b=some o'->(jt X s x).get? b=some o':=fun b o o' e hb e1=>eW _ e1 fun z=>by
  rcases aA.mp z with rfl | z
  ·rw [hx0] at e;cases e
  ·exact I.notStk e hb z
 refine ⟨I.os,I.bare,st,fun b o e hb=>?_,fun b o e hb=>?_,I.ok.frf,fun b o e n=>I.base.free b o e n (nx b),I.base.tups,I.base.frzs,I.base.tbls,Yt I hx⟩
 ·obtain ⟨o1,e1⟩:=I.base.there b o e (nx b)
  refine ⟨o1,hid b o o1 e hb e1,fun n=>?_⟩
  have:=I.base.keep b o e n hb (nx b)
  rw [e1] at this;cases this;rfl
 ·obtain ⟨sl,e1⟩:=I.base.slot b o e (I.ok.frf b hb) hb (nx b)
  obtain ⟨_,o2,e2,nf⟩:=I.stack.mem (vf hs hb)
  rw [e1] at e2;cases e2
  obtain ⟨sl2,e3⟩:=us b _ e1 nf
  exact ⟨sl2,e3⟩
end
def Two (d:Option au)(H:Hp):Prop:=∃ dx fs,d=some dx/\H dx=some (.xd fs)/\2<=fs.length
structure Air (P:aS)(w:bo)(outer:List Env)(H:Hp)(s:aw)(x C:au)(d:Option au)(H':Hp)(s':aw):Prop where
 ex:∃ B a0,yk P w outer H s B H' s'/\eT B outer x (.ref C) a0 s'.heap
 dct:∃ o,s'.heap.get? x=some o/\o.dict=d/\(fl2 o=some .none \/ Two d H')
noncomputable def CX1 (P:aS)(w:bo):CXT:=fun outer H s E e s'=>∃ x C d H',e=.ref x/\Air P w outer H s x C d H' s'/\E (.ref C) d H'
theorem CX1.imp {s s':aw}{E E':XK}{e:aj}(h:CX1 P w outer H s E e s')(k:∀ c d H',E c d H'->E' c d H'):CX1 P w outer H s E' e s':=
 let ⟨x,C,d,H',e1,a,q⟩:=h
 ⟨x,C,d,H',e1,a,k _ _ _ q⟩
structure DX (X:Cx)(E:XK):Prop where
 stk:X.stack=X.env :: X.outer
 ex:X.ex=[]
 fr:X.env.frame=some X.env.locals
 xe:X.xe=fun e s'=>aO (aN X.prog X.w) X.A (leaving X.env e) (fun _ s''=>CX1 X.prog X.w X.outer X.H₀ X.s₀ E e s'') (fun e' s''=>CX1 X.prog X.w X.outer X.H₀ X.s₀ E e' s'') s'
section
variable {X:Cx}{E:XK}{pins:List (au × Obj)}{σ:St}{H H':Hp}{s s':aw}
theorem DX.pass (D:DX X E):xv (CX1 X.prog X.w) X E:=by
 intro pins σ H s e s' I h
 obtain ⟨x,C,d,H',rfl,⟨⟨B,a0,a,fl⟩,o,ho,hd,h2⟩,q⟩:=h
 rw [D.xe]
 have hs:=D.stk
 rw [hs] at fl
 refine ba ((wM X.env (.ref x)).any (wpAny_leaves_onW (E:=fun _ _=>False) (Q:=fun _ s2=>∃ h',s2={ s' with heap:=h' }/\eT B X.outer x (.ref C) a0 h'/\s'.heap.UpToSlots h') (by rw [<- hs];exact I.ok.frames) D.fr fl fun h' f1 us=>⟨h',rfl,f1,us⟩)) (fun _ s2 h2=>?_) fun _ _ z=>z.elim
 obtain ⟨⟨h',rfl,f1,us⟩,sd⟩:=h2
 obtain ⟨o',ho',hd',hf'⟩:=sd x o ho
 exact ⟨x,C,d,H',rfl,⟨⟨B,a0,(a.out I hs D.ex).step (B0:=B) (by
  obtain ⟨_,_,f3,_⟩:=fl
  exact f3.2.2) f1.1 us,f1⟩,o',ho',hd'.trans hd,h2.imp (fun z=>hf'.trans z) id⟩,q⟩
theorem DX.raise (D:DX X E)(I:Inv X pins σ H s){x C:au}{d:Option au}{oe:Obj}{vs:Array aj}{a0:aj}{h1:Heap}(k:∀ b o,b ≠ x->s.heap.get? b=some o->h1.get? b=some o)(kx:∀ o,s.heap.get? x=some o->∃ vs,o.data=.fields vs)
  (he:h1.get? x=some oe) (hc:oe.cls=.ref C) (hd:oe.dict=d) (hf:oe.data=.fields vs) (hv1:vs[1]?=some .none) (hv0:vs[0]?=some a0) (hv2:vs[2]?=some .none \/ Two d H) (hx0:X.s₀.heap.get? x=none) (hx:H x=none) (q:E (.ref C) d H):X.xe (.ref x) { s with heap:=h1 }:=by
 rw [D.xe]
 have hs:=D.stk
 have st1:(jt X s x).StaysIn h1:=fun b o e=>k b o (fun z=>by rw [z,jt,df _ (bD)] at e;cases e) (gw _ e)
 have us1:s.heap.UpToSlots h1:=fun b o e nf=>by
  by_cases c:b=x
  ·rw [c] at e
   obtain ⟨vs,z⟩:=kx o e
   exact absurd z (nf vs)
  ·exact ⟨o.slots,k b o c e⟩
 have fr0:s.heap.FunFrames (jt X s x) (X.env :: X.outer):=by
  have:=I.stack
  rw [hs] at this
  exact ir this fun env he b hb=>aX _ (by rw [hs];exact ef.mpr ⟨env,he,hb⟩)
 have fr1:h1.FunFrames (jt X s x) (X.env :: X.outer):=fr0.of_keeps fun b o e nf=>by
  obtain ⟨sl,z⟩:=us1 b o e nf
  exact ⟨_,z,rfl⟩
 have xn:(jt X s x).get? x=none:=df _ bD
 refine ba ((wM X.env (.ref x)).any (wpAny_leaving_firstW (s:={ s with heap:=h1 }) (E:=fun _ _=>False) (base:=jt X s x) (Q:=fun _ s2=>∃ h',s2={ s with heap:=h' }/\Heap.LeftW (jt X s x) (X.env :: X.outer) x oe.cls a0 h1 h') (by rw [<- hs];exact I.ok.frames) fr1 D.fr he st1 xn hf hv1 hv0 fun h' hl=>⟨h',rfl,hl⟩)) (fun _ s2 h2=>?_) fun _ _ z=>z.elim
 obtain ⟨⟨h',rfl,l1,l2,l3,l4⟩,sd⟩:=h2
 obtain ⟨o',ho',hd',hf'⟩:=sd x oe he
 have hff:fl2 oe=vs[2]?:=by unfold fl2;rw [hf]
 rw [hc] at l3
 exact ⟨x,C,d,H,rfl,⟨⟨jt X s x,a0,Kh I hs D.ex hx0 hx l1 (us1.trans l4),l1,xn,l2.2.2,l3⟩,o',ho',hd'.trans hd,hv2.imp (fun z=>(hf'.trans hff).trans z) id⟩,q⟩
end
def yv (CX:CXT)(X:Cx)(E:St->XK):Prop:=∀ (pins:List (au × Obj)) (σ:St) (H:Hp) (s:aw) (e:aj) (s':aw),Inv X pins σ H s->CX X.stack H s (E σ) e s'->X.xe e s'
noncomputable def Qr (sp:Sp)(E:St->XK)(t:TA):TE:=fun σ H Q=>t σ H fun vs H1=>sp vs H1 Q (E σ)
def DfX (P:aS)(w:bo)(K:ax)(mg:Str->Option aj)(base:Heap)(x:Str)(ps:List Str)(k:Nat)(sp:Sp):Prop:=
 ∃ f fd,jA P w K mg base (CX1 P w) k f fd ps sp/\jv K fd ps []/\cR K (.ref f)=true/\mg x=some (.ref f)
theorem DfX.mono {x:Str} {j k:Nat} (D:DfX P w K mg base x ps j sp)(h:j<=k):DfX P w K mg base x ps k sp:=
 let ⟨f,fd,F,r⟩:=D
 ⟨f,fd,F.mono h,r⟩
section
variable {X:Cx}{k:Nat}{x:Str}{ps:List Str}{sp:Sp}{E:St->XK}{p pos:Pos}{e:Expr}{es:List Expr}{t:TA}
theorem YL {CX:CXT}{f:au}{fd:cV}{pins:List (au × Obj)}{σ:St}{H:Hp}{s:aw}{Q:VK}{us:List aj}{vs:List V}(F:jA X.prog X.w X.K X.mg X.base CX k f fd ps sp)(hr:qt k X.A)(hb:jv X.K fd ps [])(hx:yv CX X E)
  (I:Inv X pins σ H s) (r:zF vs us) (h:sp vs H Q (E σ)):aO (aN X.prog X.w) X.A (call (.ref f) us) (EP X pins σ Q) X.xe s:=by
 have hl:(us ++ []).length=ps.length:=by rw [bQ,<- r.length];exact F.len _ _ _ _ h
 have b1:=hb s us I.kIn hl
 rw [bQ] at b1
 refine gB (eQ (F.run X.A X.stack s H ⟨us,[]⟩ us vs Q (E σ) hr I.env0 b1 r h) fun r s' hq=>?_)
 cases r with
 | error e=>exact hx pins σ H s e s' I hq
 | ok fl=>
  cases fl with
  | ret u=>exact I.after hq
  | next=>exact bM hq
  | brk=>exact bM hq
  | cont=>exact bM hq
theorem GC (D:DfX X.prog X.w X.K X.mg X.base x ps k sp)(hr:qt k X.A)(hg:Gl X x)(hx:yv (CX1 X.prog X.w) X E)(ha:PA X (e :: es) t)(hdb:(x == ("__debug__":Str))=false:=by decide)
  (he:aQ (e :: es) X.env=(false,eval e X.env) :: aQ es X.env:=by rfl) (hpl:(ca pos (aQ es X.env)).any (·.1)=false:=by rfl):PE X (.Call (.Name x p) (e :: es) [] pos) (Qr sp E t):=by
 obtain ⟨f,fd,F,b,kp,m⟩:=D
 intro pins s σ H Q I h
 refine eg (j4 I hg m ?_ hdb)
 refine eh (h₀:=X.base) I.ok.mod.kin kp (thn (ha pos pins s σ H _ I h) fun us s1 ⟨vs,H1,I1,r,q⟩=>⟨I1.kIn,?_⟩) he hpl
 exact YL F hr b hx I1 r q
theorem DX.passX {E0:XK}(D:DX X E0):yv (CX1 X.prog X.w) X fun _=>E0:=fun pins σ H s e s' I h=>D.pass pins σ H s e s' I h
end
theorem Lm {x:Str} {k:Nat} (a:At K mg x st)(S:zu N ps (zg st))
  (hb:∀ (kV doc pm:aj) (an:Option au) (cdv ct:aj) (us:List aj),us.length=ps.length->eJ (bO x x (qv st) (zM st) (zg st) .none kV doc pm an cdv ct) ⟨us,[]⟩=pure (ps.zip us))
  (len:∀ vs H Q E,sp vs H Q E->vs.length=ps.length)
  (hbody:∀ (f:au) (cdv:aj) (A:aZ) (outer:List Env) (s:aw) (H:Hp) (vs:List V) (Q:VK) (E:XK),qt k (A.deeper (eZ x (zg st) s.heap.objs.size f cdv))->sp vs H Q E ->
   ∃ t,(DX (jM (CX1 P w) P w K mg base N x (zg st) f cdv A outer s H E) E->PSs (jM (CX1 P w) P w K mg base N x (zg st) f cdv A outer s H E) (zM st) t)/\t { nx:=fun _ H'=>Q .non H',rt:=Q } (qJ N vs) H):DfX P w K mg base x ps (k+1) sp:=by
 obtain ⟨f,fd,F,m⟩:=a
 refine ⟨f,fd,?_,F.binds hb,F.kp,m⟩
 obtain ⟨oc,od,kV,doc,pm,an,cdv,ct,osl,rfl,lk,hcd⟩:=F.ex
 refine DZ lk hcd S len fun A outer s H vs Q E hr hsp=>?_
 obtain ⟨t,ht,q⟩:=hbody f cdv A outer s H vs Q E hr hsp
 exact ⟨t,ht ⟨rfl,rfl,rfl,rfl⟩,q⟩
abbrev wH:List aj:=[.type "ValueError",.type "Exception",.type "BaseException",.type "object"]
section
variable {X:Cx}{E:XK}{C:au}{x:Str}{np cpos pos:Pos}{e:Expr}{es:List Expr}{t:TA}
end
theorem Eu {h:Heap} {d:Option au}{o:Obj}{vs:Array aj}(e:h.get? a=some o)(hc:o.cls=.ref C)(hd:o.dict=d)(hf:o.data=.fields vs):zQ P w H h a (KM a C d):=
 ⟨⟨o,e,hc,hd,vs,hf⟩,⟨o,e⟩,fun _ _ ⟨o,e,r⟩ k=>⟨o,k o e,r⟩⟩
section
variable {X:Cx}{pins:List (au × Obj)}{σ:St}{H H':Hp}{s s':aw}
theorem Inv.track (I:Inv X pins σ H s){x:au} (hx:H x=none)(h0:X.s₀.heap.get? x=none)(hl:x ≠ X.env.locals)(hc:∀ y c,X.env.cells.lookup y=some c->c ≠ x)(hp:∀ p ∈ X.pn ++ pins,p.1 ≠ x)(ok:zQ X.prog X.w (upd H x o) s.heap x o):Inv X pins σ (upd H x o) s:=by
 refine ⟨I.ok,I.os,I.bare,⟨I.base.keep,I.base.slot,fun b u e n hb=>?_,I.base.there,fun b xs e=>?_,fun b u v e=>?_,fun b ps e=>?_⟩,I.loc,I.cell,?_,fun y c e=>?_,fun p hp'=>?_,fun b u e=>?_,I.len⟩
 ·rw [zk (fun z=>by rw [z,h0] at e;cases e)];exact I.base.free b u e n hb
 ·have:=I.base.tups b xs e;rw [zk (zo this hx)];exact this
 ·have:=I.base.frzs b u v e;rw [zk (zo this hx)];exact this
 ·obtain ⟨m,this⟩:=I.base.tbls b ps e;exact ⟨m,by rw [zk (zo this hx)];exact this⟩
 ·rw [zk (Ne.symm hl)];exact I.free
 ·rw [zk (hc y c e)];exact I.freeC y c e
 ·obtain ⟨e1,e2,e3⟩:=I.pin p hp'
  exact ⟨e1,by rw [zk (hp p hp')];exact e2,e3⟩
 ·by_cases c:b=x
  ·subst c;rw [zm] at e;cases e;exact ok
  ·rw [zk c] at e
   exact (I.hok b u e).stay (fun _ _ _ q=>q) (fun d q=>by rw [zk (zo q hx)];exact q) fun d xs q=>by rw [zk (zo q hx)];exact q
end
noncomputable abbrev Cx.tried (X:Cx)(pins:List (au × Obj))(xe:aj->aw->Prop):Cx:={ X with pn:=X.pn ++ pins,xe:=xe }
noncomputable abbrev Cx.inside (X:Cx)(x:au):Cx:={ X with A:=X.A.mark (some (.ref x)),calm:=false,xe:=fun _ _=>False }
theorem Cx.Ok.tried (ok:X.Ok)(pins:List (au × Obj))(xe:aj->aw->Prop):(X.tried pins xe).Ok:=
 ⟨ok.mod,ok.kind,ok.glob,ok.blt,ok.above,ok.inj,ok.has,ok.cab,ok.hd,ok.frames,ok.stk,ok.exf,ok.bs,ok.bsz,ok.noex,ok.exfs,ok.funs,ok.frf⟩
variable {xe:aj->aw->Prop}
theorem Cx.Ok.untried (ok:(X.tried pins xe).Ok):X.Ok:=
 ⟨ok.mod,ok.kind,ok.glob,ok.blt,ok.above,ok.inj,ok.has,ok.cab,ok.hd,ok.frames,ok.stk,ok.exf,ok.bs,ok.bsz,ok.noex,ok.exfs,ok.funs,ok.frf⟩
theorem Cx.Ok.inside (ok:X.Ok)(x:au):(X.inside x).Ok:=
 ⟨ok.mod,ok.kind,ok.glob,ok.blt,ok.above,ok.inj,ok.has,ok.cab,(fun z=>nomatch z),ok.frames,ok.stk,ok.exf,ok.bs,ok.bsz,ok.noex,ok.exfs,ok.funs,ok.frf⟩
section
variable {X:Cx}{pins pins':List (au × Obj)}{σ:St}{H:Hp}{s s':aw}{xe:aj->aw->Prop}
theorem Inv.tried (I:Inv X pins σ H s)(xe:aj->aw->Prop):Inv (X.tried pins xe) [] σ H s:=⟨I.ok.tried pins xe,I.os,I.bare,I.base,I.loc,I.cell,I.free,I.freeC,fun p hp=>I.pin p (by rw [bQ] at hp;exact hp),I.hok,I.len⟩
theorem Inv.untried (I:Inv (X.tried pins xe) pins' σ H s):Inv X pins σ H s:=⟨I.ok.untried,I.os,I.bare,I.base,I.loc,I.cell,I.free,I.freeC,fun p hp=>I.pin p (f9 _ hp),I.hok,I.len⟩
theorem Inv.inside (I:Inv X pins σ H s)(x:au):Inv (X.inside x) pins σ H s:=⟨I.ok.inside x,I.os,I.bare,I.base,I.loc,I.cell,I.free,I.freeC,I.pin,I.hok,I.len⟩
theorem Inv.outside {x:au}(ok:X.Ok)(I:Inv (X.inside x) pins σ H s):Inv X pins σ H s:=⟨ok,I.os,I.bare,I.base,I.loc,I.cell,I.free,I.freeC,I.pin,I.hok,I.len⟩
theorem SP.untried {D:yb}{f:Flow}(h:SP (X.tried pins xe) [] D f s'):SP X pins D f s':=by
 cases f with
 | next=>obtain ⟨σ',H',I,q⟩:=h;exact ⟨σ',H',I.untried,q⟩
 | brk=>obtain ⟨σ',H',I,q⟩:=h;exact ⟨σ',H',I.untried,q⟩
 | cont=>obtain ⟨σ',H',I,q⟩:=h;exact ⟨σ',H',I.untried,q⟩
 | ret u=>obtain ⟨v,σ',H',I,r,q⟩:=h;exact ⟨v,σ',H',I.untried,r,q⟩
theorem Air.here (I:Inv X pins σ H s)(hs:X.stack=X.env :: X.outer)(hf:X.env.frame=some X.env.locals)(hex:X.ex=[]){B:Heap}{a0:aj}{x C:au}{d:Option au} (a:yk X.prog X.w X.stack H s B H' s')(fl:eT B X.stack x (.ref C) a0 s'.heap)(hd:∃ o,s'.heap.get? x=some o/\o.dict=d/\(fl2 o=some .none \/ Two d H')) :
  H' x=none/\Inv X pins σ (upd H' x (KM x C d)) s':=by
 obtain ⟨f1,f2,f3,oe,vs,T,oT,ts,he,⟨hc,_⟩,hdt,_⟩:=fl
 obtain ⟨o',ho',hd',_⟩:=hd
 rw [he] at ho';cases ho'
 have hx:H' x=none:=by
  cases z:H' x with
  | none=>rfl
  | some o=>obtain ⟨u,e⟩:=(a.hok x o z).here;rw [f2] at e;cases e
 have I1:Inv X pins σ H' s':=I.call' (ch:=[]) a.os a.un a.ok a.bare (fun b z=>absurd z (by simp))
 have nB:∀ b o,s.heap.get? b=some o->b ∉ frs X.stack->b ≠ x:=fun b o e hb z=>by
  obtain ⟨o',e1,_⟩:=a.cov b o e hb
  rw [z,f2] at e1;cases e1
 refine ⟨hx,I1.track hx ?_ (fun z=>?_) (fun y c e z=>?_) (fun p hp z=>?_) (Eu he hc hd' hdt)⟩
 ·cases z:X.s₀.heap.get? x with
  | none=>rfl
  | some o=>
   obtain ⟨o1,e1⟩:=I.base.there x o z (by rw [hex];simp)
   by_cases hb:x ∈ frs X.stack
   ·obtain ⟨_,o2,e2,nf⟩:=f3.mem hb
    rw [he] at e2;cases e2
    exact absurd hdt (nf vs)
   ·exact absurd rfl (nB x o1 e1 hb)
 ·obtain ⟨m,⟨o,es,ep,ho,hdd,_⟩,_⟩:=I1.loc
  rw [<- z,he] at ho;cases ho
  rw [hdt] at hdd;cases hdd
 ·obtain ⟨v,o,ho,hdd⟩:=I1.cell y c e
  rw [z,he] at ho;cases ho
  rw [hdt] at hdd;cases hdd
 ·obtain ⟨e1,e2,e3,e4,_⟩:=I.pin p hp
  refine nB p.1 p.2 e1 (fun w=>?_) z
  rcases aA.mp (I.stkSub p.1 w) with q | q
  ·exact e3 q
  ·exact e4 q
end
noncomputable def eh2 (K:ax)(T:au)(th:TS)(D:yb):St->XK:=fun σ1 c d H1=>∃ C,c=.ref C/\eO K (.ref C) (.ref T)=some true/\∀ x,H1 x=none->th D σ1 (upd H1 x (KM x C d))
noncomputable def Wt (K:ax)(T:au)(tb:(St->XK)->TS)(th:TS):TS:=fun D σ H=>tb (eh2 K T th D) D σ H
def vt (X:Cx)(H:Hp)(s:aw)(B:Heap)(x C:au)(d:Option au)(a0:aj)(H':Hp)(s':aw):Prop:=
 yk X.prog X.w X.stack H s B H' s'/\eT B X.stack x (.ref C) a0 s'.heap/\∃ o,s'.heap.get? x=some o/\o.dict=d/\(fl2 o=some .none \/ Two d H')
section
variable {X:Cx}{pins:List (au × Obj)}{σ:St}{H H':Hp}{s s':aw}{B:Heap}{x C:au}{d:Option au}{a0:aj}
theorem vt.lands {M:mz}{E:aj->aw->Prop}{Q:Unit->aw->Prop}(h:vt X H s B x C d a0 H' s')(k:∀ s2,vt X H s B x C d a0 H' s2->Q () s2):aO M A (hX (.ref x) none) Q E s':=by
 obtain ⟨a,fl,o,ho,hd,h2f⟩:=h
 refine ba ((xQ (.ref x) none).any (lands_againW (E:=E) (Q:=fun _ s2=>∃ h',s2={ s' with heap:=h' }/\eT B X.stack x (.ref C) a0 h'/\s'.heap.UpToSlots h') fl fun h' f1 us=>⟨h',rfl,f1,us⟩)) (fun _ s2 h2=>?_) fun _ _ z=>z
 obtain ⟨⟨h',rfl,f1,us⟩,sd⟩:=h2
 obtain ⟨o',ho',hd',hf'⟩:=sd x o ho
 exact k _ ⟨a.step fl.2.2.1 f1.1 us,f1,o',ho',hd'.trans hd,h2f.imp (fun z=>hf'.trans z) id⟩
theorem vt.noted {E:aj->aw->Prop}{Q:Unit->aw->Prop}(ok:X.Ok)(hs:X.stack=X.env :: X.outer)(hf:X.env.frame=some X.env.locals)(h:vt X H s B x C d a0 H' s')(k:∀ s2,vt X H s B x C d a0 H' s2->Q () s2) :
  aO (aN X.prog X.w) X.A (hJ (.ref x) X.env) (fun _ s2=>aO (aN X.prog X.w) X.A (hX (.ref x) none) Q E s2) E s':=by
 obtain ⟨a,fl,o,ho,hd,h2f⟩:=h
 have fl':=fl
 rw [hs] at fl'
 refine ba ((QD (.ref x) X.env).any (wpAny_looks_onW (E:=E) (Q:=fun _ s2=>∃ h',s2={ s' with heap:=h' }/\Heap.HeldW B (X.env :: X.outer) x (.ref C) a0 X.env.locals h'/\s'.heap.UpToSlots h') (by rw [<- hs];exact ok.frames) hf fl' fun h' f1 us=>⟨h',rfl,f1,us⟩)) (fun _ s2 h2=>?_) fun _ _ z=>z
 obtain ⟨⟨h',rfl,f1,us⟩,sd⟩:=h2
 obtain ⟨o',ho',hd',hf'⟩:=sd x o ho
 have a2:=a.step fl.2.2.1 f1.1 us
 refine ba ((xQ (.ref x) none).any (wpAny_landsW (E:=E) (Q:=fun _ s3=>∃ h'',s3={ s' with heap:=h'' }/\eT B (X.env :: X.outer) x (.ref C) a0 h''/\h'.UpToSlots h'') f1 fun h'' f2 us2=>⟨h'',rfl,f2,us2⟩)) (fun _ s3 h3=>?_) fun _ _ z=>z
 obtain ⟨⟨h'',rfl,f2,us2⟩,sd2⟩:=h3
 obtain ⟨o'',ho'',hd'',hf''⟩:=sd2 x o' ho'
 refine k _ ⟨a2.step (s':={ s' with heap:=h' }) (by rw [hs];exact f1.2.2.1) f2.1 us2,by rw [hs];exact f2,o'',ho'',(hd''.trans hd').trans hd,h2f.imp (fun z=>(hf''.trans hf').trans z) id⟩
variable {body suite:List cw}{b₀:cw}{n tx:Str}{i:Nat}{T:au}{np hpos pos:Pos}{tb:(St->XK)->TS}{th:TS}
theorem FT (hs:X.stack=X.env :: X.outer)(hf:X.env.frame=some X.env.locals)(hex:X.ex=[])(hg:Gl X tx)(hm:X.mg tx=some (.ref T))
  (hb:∀ (pins:List (au × Obj)) (xe:aj->aw->Prop) (Eh:St->XK),yv (CX1 X.prog X.w) (X.tried pins xe) Eh->PSs (X.tried pins xe) body (tb Eh)) (hh:∀ x,PSs (X.inside x) (b₀ :: suite) th)
  (hdb:(tx == ("__debug__":Str))=false:=by decide):PS X (.Try body [.ExceptHandler (some (.Name tx np)) none (b₀ :: suite) hpos] [] [] pos) (Wt X.K T tb th):=by
 intro pins s σ H D I h
 refine wpAny_Try_except (ba (hb pins (fun e s'=>∃ σ1 H1 s1,Inv X pins σ1 H1 s1/\CX1 X.prog X.w X.stack H1 s1 (eh2 X.K T th D σ1) e s') (eh2 X.K T th D) (fun pins' σ1 H1 s1 e s' I1 c=>⟨σ1,H1,s1,I1.untried,c⟩) [] s σ H D (I.tried _) h) (fun f s1 q=>?_) fun e s1 q=>?_)
 ·have q:=q.untried
  cases f with
  | next=>exact ff q
  | brk=>exact q
  | cont=>exact q
  | ret u=>exact q
 ·obtain ⟨σ1,H1,s1',I1,x,C,d,H',rfl,⟨⟨B,a0,a,fl⟩,hd⟩,C',eC,hx,q⟩:=q
  cases eC
  refine vt.noted I.ok hs hf ⟨a,fl,hd⟩ fun s3 h3=>?_
  obtain ⟨hx0,I3⟩:=Air.here I1 hs hf hex h3.1 h3.2.1 h3.2.2
  refine wpAny_handleBy_cons (codeAny_handlers_test (j4 (I3.inside x) hg hm ?_ hdb)) (by intro z;cases z)
  obtain ⟨oe,vs,he,hc,_⟩:=h3.2.1.first
  have LT:eu (aN X.prog X.w) s3.heap (typeOf (.ref x)) (.ref C):=hc ▸ (eu.ld he).andThen .now
  refine (PySem.W.exm_one I3.kIn LT hx).here ?_
  refine codeAny_handlers_suite (h3.lands fun s4 h4=>?_)
  obtain ⟨_,I4⟩:=Air.here I1 hs hf hex h4.1 h4.2.1 h4.2.2
  refine ba (hh x pins s4 _ _ _ (I4.inside x) (q x hx0)) (fun f s6 h6=>?_) fun _ _ z=>z.elim
  cases f with
  | next=>obtain ⟨σ',H',J,z⟩:=h6;exact ⟨σ',H',J.outside I.ok,z⟩
  | brk=>obtain ⟨σ',H',J,z⟩:=h6;exact ⟨σ',H',J.outside I.ok,z⟩
  | cont=>obtain ⟨σ',H',J,z⟩:=h6;exact ⟨σ',H',J.outside I.ok,z⟩
  | ret u=>obtain ⟨v,σ',H',J,r,z⟩:=h6;exact ⟨v,σ',H',J.outside I.ok,r,z⟩
end
open PySem.W (Looks InstAt findIn findObj subIn mroIn)
section
variable {prog:aS}{w:bo}{A:aZ}{E:aj->aw->Prop}{h:Heap}{g:Array GenState}{d:Drawn}{t:Nat}{os:OsState}{K:ax}{x C:au}{ox:Obj}{od:Option Obj}{name:Str}
theorem FX {tk : Tok}{R : lW -> aw -> Prop}(X : K.In h)(I : InstAt h x ox C od)(hb : li K (.ref C) (.type "BaseException") = some true)(k : aO (aN prog w) A.in1 (Builtin.«object.__getattribute__» ⟨[.ref x, .str name tk], []⟩)
      (fun fin s'=>match fin with | .done (.ret v)=>R (.ok (.ret v)) s' | _=>False) (fun _ _=>False) ⟨h,g,d,t,os⟩) :
    fk (aN prog w) A (.call (.builtin "BaseException.__getattribute__") ⟨[.ref x,.str name tk],[]⟩) R ⟨h,g,d,t,os⟩:=by
  have L0:=I.type (M:=aN prog w)
  have L1:=PySem.W.looks_subIn (M:=aN prog w) X hb
  have hk:builtinKind "BaseException.__getattribute__"=some .slot:=by decide +kernel
  have hsplit:splitId "BaseException.__getattribute__"=some ("BaseException","__getattribute__"):=by decide +kernel
  have ha:=F.args_bexc_ga (.ref x) (.str name tk)
  refine codeAny_call_builtin F.excAttr_ValueError.ga.plain F.entry_bexc_ga ?_
  simp only [checkBuiltinCall,hk,hsplit]
  have LI:gE (aN prog w) h (isInstance (.ref x) (.type "BaseException")) true:=L0.andThen L1
  refine ap (LI.at ?_)
  simp only [gU,lz,if_false]
  have fin:aO (aN prog w) A.in1 (Builtin.«object.__getattribute__» ⟨[.ref x,.str name tk],[]⟩) (fun fin s'=>match fin with | .done f=>R (.ok f) s' | .again c'=>c'.quiet=true/\fk (aN prog w) A c' R s') (fun e s'=>R (.error e) s') ⟨h,g,d,t,os⟩:=
    ba k (fun fin s' z=>by rcases fin with (_ | _ | _ | _) | _ <;> first | exact z | exact z.elim) fun _ _ z=>z.elim
  clear k L0 L1 LI
  repeat (any_goals (first | assumption | wp_step))
theorem ME {tk:Tok}{fill expr:Bool}{Q:aj->aw->Prop}(X:K.In h)(I:InstAt h x ox C od)(hb:li K (.ref C) (.type "BaseException")=some true)
  (h1:eD K (.ref C) "__getattribute__"=some (some (.builtin "BaseException.__getattribute__"))) (h2:eD K (.ref C) "__getattr__"=some none)
  (k:aO (aN prog w) A.in1 (Builtin.«object.__getattribute__» ⟨[.ref x,.str name tk],[]⟩)
   (fun fin s'=>match fin with | .done (.ret v)=>aO (aN prog w) A (handedOut v) Q E s' | _=>False) (fun _ _=>False) ⟨h,g,d,t,os⟩) :
  aO (aN prog w) A (getAttrBy (.ref x) (.str name tk) fill expr) Q E ⟨h,g,d,t,os⟩:=by
 have L0:=I.type (M:=aN prog w)
 have L1:=eI (M:=aN prog w) X h1
 have L2:=eI (M:=aN prog w) X h2
 have f3:=F.excAttr_ValueError.ga.bind (.ref x)
 have hx0:(expr && onTheHeap (aj.builtin "BaseException.__getattribute__"))=false:=by cases expr <;> rfl
 have hx2:(aj.builtin "BaseException.__getattribute__" == aj.builtin "object.__getattribute__")=false:=by decide +kernel
 have hx1:(onTheHeap (aj.ref C) && aj.builtin "BaseException.__getattribute__" == aj.builtin "object.__getattribute__")=false:=by rw [hx2];rfl
 repeat (any_goals (first | assumption | with_reducible refine gE.at L0 ?_ | with_reducible refine gE.at L1 ?_ | with_reducible refine gE.at L2 ?_ | wp_step))
 exact FX X I hb k
structure IZ (K:ax)(C:au):Prop where
 bx:li K (.ref C) (.type "BaseException")=some true
 ga:eD K (.ref C) "__getattribute__"=some (some (.builtin "BaseException.__getattribute__"))
 gt:eD K (.ref C) "__getattr__"=some none
 cl:eD K (.ref C) "__class__"=some (some (.builtin "object.__class__"))
 gs:fD K (.builtin "object.__class__") "__get__"=some (some (.builtin "getset_descriptor.__get__"))
 tk:iD K (.builtin "object.__class__")=some true
 mo:mD K C (.type "object")=some true
 is:(PySem.W.clsIn K C).isSome=true
end
inductive W0 (X:Cx):List Expr->List aj->Prop
 | nil:W0 X [] []
 | own {x:Str} {p:Pos} {C:au} {es:List Expr} {cs:List aj}:Gl X x->X.mg x=some (.ref C)->(x == ("__debug__":Str))=false->W0 X es cs->W0 X (.Name x p :: es) (.ref C :: cs)
 | blt {x:Str} {p:Pos} {T:String} {es:List Expr} {cs:List aj}:Gl X x->X.mg x=none->bI x=some (.type T)->x ≠ "__name__"->(x == ("__debug__":Str))=false->W0 X es cs->W0 X (.Name x p :: es) (.type T :: cs)
section
variable {X:Cx}{e c:Expr}{es:List Expr}{cs:List aj}{t:TE}{p pos tp:Pos}{kk:Nat}
end
abbrev AXK:=au->List (Str × V)->MH->Prop
abbrev xX:=List AV->MH->AK->AXK->Prop
def Kq (H:Hp)(O:Own)(M:MH)(d:Option au)(fs:List (Str × V)):Prop:=d=none/\fs=[] \/ ∃ dx,d=some dx/\H dx=some (.xd fs)/\O dx/\M dx=none
theorem Kq.ext {d:Option au}{fs:List (Str × V)}(k:Ext H O M H' O' M')(x:Kq H O M d fs):Kq H' O' M' d fs:=by
 rcases x with x | ⟨dx,e,h1,h2,h3⟩
 ·exact .inl x
 ·obtain ⟨x1,x2,x3⟩:=k.prv dx h2 h3
  exact .inr ⟨dx,e,x1.trans h1,x2,x3⟩
noncomputable def jr (a:xX):Sp:=fun vs H Q E=>∃ xs M O Q' E',Wf H O M/\zl H O M vs xs/\a xs M Q' E'/\(∀ x M' v H' O',Q' x M'->Ext H O M H' O' M'->Wf H' O' M'->zq H' O' M' v x->Q v H') /\
 ∀ C fs M' H' O' d,E' C fs M'->Ext H O M H' O' M'->Wf H' O' M'->Kq H' O' M' d fs->E (.ref C) d H'
noncomputable def cE (H0:Hp)(O0:Own)(M0:MH)(E':AXK):XK:=fun c d H'=>∃ C fs M' O',c=.ref C/\E' C fs M'/\Ext H0 O0 M0 H' O' M'/\Wf H' O' M'/\Kq H' O' M' d fs
structure EXs (H0:Hp)(O0:Own)(M0:MH)(E:St->XK)(EA:ASt->AXK):Prop where
 go:∀ σ ρ C fs M' H' O' d,EA ρ C fs M'->Ext H0 O0 M0 H' O' M'->Wf H' O' M'->Er H' O' M' σ ρ->Kq H' O' M' d fs->E σ (.ref C) d H'
theorem X4 {E':AXK}:EXs H0 O0 M0 (fun _=>cE H0 O0 M0 E') (fun _=>E'):=⟨fun _ _ C fs M' H' O' d q k w _ x=>⟨C,fs,M',O',rfl,q,k,w,x⟩⟩
structure ku (HX:Hp)(OX:Own)(MX:MH)(t:TS)(a:AS):Prop where
 go:∀ {H0:Hp} {O0:Own} {M0:MH} {D:yb} {D':jw} {σ:St} {H:Hp} {O:Own} {ρ:ASt} {M:MH},Ext HX OX MX H0 O0 M0->Wf H0 O0 M0->Wf H O M->Er H O M σ ρ->Ext H0 O0 M0 H O M->a M0 D' ρ M->ED H0 O0 M0 D D'->t D σ H
section
variable {HX:Hp}{OX:Own}{MX:MH}{t u:TS}{a b:AS}{E:St->XK}{EA:ASt->AXK}{sp:xX}{ta:TA}{aa:AA}
theorem FK (h:jy t a):ku HX OX MX t a:=⟨fun _ w0 w e x q E=>h.go w0 w e x q E⟩
theorem A9 (h1:ku HX OX MX t a)(h2:ku HX OX MX u b):ku HX OX MX (Aa t u) (yN a b):=
 ⟨fun kx w0 w e x q E=>h1.go kx w0 w e x q ⟨fun σ H O ρ M w e x q=>h2.go kx w0 w e x q E,E.rt,E.bk,E.ct⟩⟩
theorem DO (hc:xp c ac)(h1:ku HX OX MX t a)(h2:ku HX OX MX u b):ku HX OX MX (Ey c t u) (vE ac a b):=
 ⟨fun kx w0 w e x q E=>hc.go w e q fun k M1 H1 O1 q1 k1 w1=>by
  cases k with
  | true=>exact h1.go kx w0 w1 (e.ext k1) (x.trans k1) q1 E
  | false=>exact h2.go kx w0 w1 (e.ext k1) (x.trans k1) q1 E⟩
theorem BR (hi:ZZ wi ai)(hg:vb g ag)(hb:ku HX OX MX t a):ku HX OX MX (EJ wi g t) (LB ai ag a):=⟨fun {H0 O0 M0 D D' σ H O ρ M} kx w0 w e x q E=>by
 rw [Z3]
 refine hi.go w e q fun l G M1 J H1 O1 q1 k1 w1 hj=>?_
 have E1:=E.tr (x.trans k1)
 have kx1:=kx.trans (x.trans k1)
 obtain ⟨Pv,p0,ps,pd⟩:=q1
 refine ⟨fun i m σ H=>m=l.length - i/\i<=l.length/\∃ O ρ M,Wf H O M/\Er H O M σ ρ/\Ext H1 O1 M1 H O M/\Pv i ρ M,⟨l.length,by simp,cK _,O1,ρ,M1,w1,e.ext k1,.refl,p0⟩,?_⟩
 rintro i m σ H ⟨rfl,hi,O,ρ,M,w,e,x,hf⟩
 by_cases hil:i<l.length
 ·have hy:l[i]?=some l[i]:=am hil
  obtain ⟨hG,q2⟩:=ps i l[i] ρ M hy hf
  obtain ⟨j1,j2⟩:=(hj H O M x.fix x.mst w hG i).2 l[i] hy
  refine .inr ⟨j1,fun σ' H'=>∃ O ρ M,Wf H' O M/\Er H' O M σ' ρ/\Ext H1 O1 M1 H' O M/\Pv (i+1) ρ M,fun σ' H' z=>⟨l.length - (i+1),by omega,rfl,hil,z⟩,fun v H' hv=>?_⟩
  obtain ⟨k2,w2,r2⟩:=j2 v H' hv
  refine hg.go w2 (e.ext k2) r2 q2 fun σ3 H3 O3 ρ3 M3 q3 k3 w3 e3=>?_
  exact hb.go kx1 w1 w3 e3 ((x.trans k2).trans k3) q3 ⟨fun σ H O ρ M w e x q=>⟨O,ρ,M,w,e,x,q⟩,E1.rt,E1.nx,fun σ H O ρ M w e x q=>⟨O,ρ,M,w,e,x,q⟩⟩
 ·have e0:i=l.length:=by omega
  subst e0
  obtain ⟨hG,q2⟩:=pd ρ M hf
  exact .inl ⟨(hj H O M x.fix x.mst w hG l.length).1 rfl,E1.nx _ _ _ _ _ w e x q2⟩⟩
noncomputable def QA (sp:xX)(EA:ASt->AXK)(b:AA):AE:=fun ρ M Q=>b ρ M fun xs M1=>sp xs M1 Q (EA ρ)
theorem AX (hE:EXs HX OX MX E EA)(hu:jo ta aa) {Q':AK}(kx:Ext HX OX MX H O M)(w:Wf H O M)(e:Er H O M σ ρ)(q:QA sp EA aa ρ M Q')(k:∀ x M' v H' O',Q' x M'->Ext H O M H' O' M'->Wf H' O' M'->zq H' O' M' v x->Q v H'):Qr (jr sp) E ta σ H Q:=
 hu.go w e q fun xs M1 vs H1 O1 q1 k1 w1 r1=>⟨xs,M1,O1,Q',EA ρ,w1,r1,q1,fun x M2 v H2 O2 q2 k2 w2 r2=>k x M2 v H2 O2 q2 (k1.trans k2) w2 r2,fun C fs M' H' O' d q2 k2 w2 xd=>hE.go σ ρ C fs M' H' O' d q2 ((kx.trans k1).trans k2) w2 (e.ext (k1.trans k2)) xd⟩
theorem Wc (hE:EXs HX OX MX E EA)(hu:jo ta aa)(hg:vb g ag):ku HX OX MX (JS (Qr (jr sp) E ta) g) (EU (QA sp EA aa) ag):=
 ⟨fun kx _ w e x q D=>AX hE hu (kx.trans x) w e q fun y M1 v H1 O1 q1 k1 w1 r1=>hg.go w1 (e.ext k1) r1 q1 fun σ2 H2 O2 ρ2 M2 q2 k2 w2 e2=>D.nx _ _ _ _ _ w2 e2 ((x.trans k1).trans k2) q2⟩
end
noncomputable def G7 (K:ax)(T:au)(ab:(ASt->AXK)->AS)(ah:AS):AS:=fun B D ρ M=>
 ab (fun ρ1 C fs M1=>eO K (.ref C) (.ref T)=some true/\∀ x,M1 x=none->ah B D ρ1 (mup M1 x (.exc C fs))) B D ρ M
theorem Fx (w:Wf H O M){x C:au}{d:Option au}{fs:List (Str × V)}(hx:H x=none)(xd:Kq H O M d fs) :
  Wf (upd H x (KM x C d)) (yf O x) (mup M x (.exc C fs))/\Ext H O M (upd H x (KM x C d)) (yf O x) (mup M x (.exc C fs)):=by
 have k:=vU w hx (KM x C d) (.exc C fs)
 exact ⟨KC w hx (fun _ z=>nomatch z) ⟨d,zm,xd.ext k⟩,k⟩
section
variable {K:ax}{i:Nat}{T:au}{tb:(St->XK)->TS}{th:TS}{ab:(ASt->AXK)->AS}{ah:AS}
theorem AR (hb:∀ (H0:Hp) (O0:Own) (M0:MH) (E:St->XK) (EA:ASt->AXK),EXs H0 O0 M0 E EA->ku H0 O0 M0 (tb E) (ab EA))(hh:jy th ah):jy (Wt K T tb th) (G7 K T ab ah):=
 ⟨fun {H0 O0 M0 D D' σ H O ρ M} w0 w e x q E=>(hb H0 O0 M0 _ _ ⟨fun σ1 ρ1 C fs M1 H1 O1 d q1 k1 w1 e1 xd=>⟨C,rfl,q1.1,fun y hy=>by
  obtain ⟨w2,k2⟩:=Fx (C:=C) w1 hy xd
  exact hh.go w0 w2 (e1.ext k2) (k1.trans k2) (q1.2 y (w1.fresh hy).2) E⟩⟩).go .refl w0 w e x q E⟩
end
noncomputable def exA (M0:MH)(E:AXK):AXK:=fun C fs M'=>∃ M'',yd M0 M' (.d .non) (.d .non) M''/\E C fs M''
theorem PSs.wish' {st:List cw}{t:TS}(k:∀ e s,xe e s->X.xe e s)(h:PSs (X.wish xe) st t):PSs X st t:=fun pins s σ H D I hw=>
 ba (h pins s σ H D (I.wish _) hw) (fun _ _ q=>q.unwish) fun e s z=>k e s z
theorem Mo {P : aS}{w : bo}{K : ax}{mg : Str -> Option aj}{base : Heap}{x : Str}{st : cw}{N ps : List Str}{k : Nat}{a : xX}(at_ : At K mg x st)(S : zu N ps (zg st))
    (hb:∀ (kV doc pm:aj) (an:Option au) (cdv ct:aj) (us:List aj),us.length=ps.length->eJ (bO x x (qv st) (zM st) (zg st) .none kV doc pm an cdv ct) ⟨us,[]⟩=pure (ps.zip us))
    (len:∀ xs M Q E,a xs M Q E->xs.length=ps.length)
    (hbody:∀ (f:au) (cdv:aj) (A:aZ) (outer:List Env) (s:aw) (H:Hp) (HX:Hp) (OX:Own) (MX:MH) (E':AXK),qt k (A.deeper (eZ x (zg st) s.heap.objs.size f cdv)) ->
      DX (jM (CX1 P w) P w K mg base N x (zg st) f cdv A outer s H (cE HX OX MX E')) (cE HX OX MX E') ->
      ∃ t,PSs (jM (CX1 P w) P w K mg base N x (zg st) f cdv A outer s H (cE HX OX MX E')) (zM st) t/\∃ b,ku HX OX MX t b/\∀ xs Q E0,E'=exA MX E0->a xs MX Q E0->b MX { nx:=fun _ M'=>rtA MX Q (.d .non) M',rt:=rtA MX Q } (zN N xs) MX):DfX P w K mg base x ps (k+1) (jr a):=by
  refine Lm at_ S hb (fun vs H Q E h=>?_) (fun f cdv A outer s H vs Q E hr h=>?_)
  · obtain ⟨xs,M,O,Q',E',w,r,q,_⟩:=h
    rw [r.1];exact len xs M Q' E' q
  · obtain ⟨xs,M,O,Q',E',w0,r,q,kk,ke⟩:=h
    obtain ⟨t,ht,b,hb,hq⟩:=hbody f cdv A outer s H H O M (exA M E') hr ⟨rfl,rfl,rfl,rfl⟩
    refine ⟨t,fun D=>?_,?_⟩
    · have ce : ∀ c d H', cE H O M (exA M E') c d H' -> E c d H' := fun c d H' ⟨C, fs, M', O', e1, ⟨M'', f, q2⟩, k1, w1, xd⟩ => by
        subst e1
        obtain ⟨O'',w2,k2,-,ko⟩:=QH w0 w1 k1 (show zq H' O' M' .non (.d .non) from .non) f
        refine ke C fs M'' H' O'' d q2 k2 w2 ?_
        rcases xd with xd | ⟨dx,e1,h1,h2,h3⟩
        · exact .inl xd
        · exact .inr ⟨dx,e1,h1,(ko dx h2 h3).1,(ko dx h2 h3).2⟩
      refine PSs.wish' (fun e s' z=>?_) ht
      exact ba z (fun _ s'' y=>y.imp ce) fun e' s'' y=>y.imp ce
    · refine hb.go .refl w0 w0 (yJ r N) .refl (hq xs Q' E' rfl q) ⟨fun σ H' O' ρ M' w' e' x' q'=>?_,fun v y H' O' M' w' x' r' q'=>?_,fun _ _ _ _ _ _ _ _ z=>z.elim,fun _ _ _ _ _ _ _ _ z=>z.elim⟩
      · obtain ⟨y',M'',f,q2⟩:=q'
        obtain ⟨O'',w2,k2,r2⟩:=xi w0 w' x' (show zq H' O' M' .non (.d .non) from .non) f
        exact kk _ _ _ _ _ q2 k2 w2 r2
      · obtain ⟨y',M'',f,q2⟩:=q'
        obtain ⟨O'',w2,k2,r2⟩:=xi w0 w' x' r' f
        exact kk _ _ _ _ _ q2 k2 w2 r2
theorem DX.po (D:DX X E):PassesOwn (aN X.prog X.w) X.A X.env X.xe:=by rw [D.xe];exact PassesOwn.leaving
theorem Hm:yv (CX1 X.prog X.w) X fun _=>E0:=fun _ _ _ _ _ _ _ ⟨_,_,_,_,_,_,z⟩=>z.elim
section
variable {X:Cx}{K:ax}{body suite:List cw}{b₀:cw}{n tx:Str}{i:Nat}{T:au}{np hpos pos tp p:Pos}{tb:(St->XK)->TS}{th:TS}{e c:Expr}{es:List Expr}{cs:List aj}{t:TE}{kk:Nat}
theorem W5 (hk:X.K=K)(hs:X.stack=X.env :: X.outer)(hf:X.env.frame=some X.env.locals)(hex:X.ex=[])(hg:Gl X tx)(hm:X.mg tx=some (.ref T))
  (hb:∀ (pins:List (au × Obj)) (xe:aj->aw->Prop) (Eh:St->XK),yv (CX1 X.prog X.w) (X.tried pins xe) Eh->PSs (X.tried pins xe) body (tb Eh)) (hh:∀ x,PSs (X.inside x) (b₀ :: suite) th)
  (hdb:(tx == ("__debug__":Str))=false:=by decide):PS X (.Try body [.ExceptHandler (some (.Name tx np)) none (b₀ :: suite) hpos] [] [] pos) (Wt K T tb th):=hk ▸ FT hs hf hex hg hm hb hh hdb
end
theorem Kn {sp:xX} {b:AA}(h:jo u b):zH (Qr (jr sp) (fun _=>E0) u) (QA sp (fun _ _ _ _=>False) b):=
 ⟨fun w e q k=>h.go w e q fun xs M1 vs H1 O1 q1 k1 w1 r1=>⟨xs,M1,O1,_,_,w1,r1,q1,fun x M2 v H2 O2 q2 k2 w2 r2=>k x M2 v H2 O2 q2 (k1.trans k2) w2 r2,fun _ _ _ _ _ _ z=>z.elim⟩⟩
theorem exX {HX:Hp}{OX:Own}{MX:MH}{t:TS} {b:AS}(h:ku HX OX MX t b)(k:q b):∃ b,ku HX OX MX t b/\q b:=⟨b,h,k⟩
section
variable {X:Cx}
end
end L2
namespace PySem
open Sem (wp)
section
variable {prog:aS}{w:bo}{A:aZ}{E:aj->aw->Prop}{h:Heap}{g:Array GenState}{d:Drawn}{t:Nat}{os:OsState}
variable {nm q:Str}{C N:au}{bs bm bmB:List aj}{hdct:Bool}{sn:List Str}{sub:List aj}{ab:Bool}{col:Option Bool}{dd:Option au}{k0 k1 k2 k3 k5:Option aj}{B Bn newId nid initId inN:String}{bmN:List aj}
variable {mN:Str->Option aj} {fI:au} {oI:Obj}
theorem Qw (Fn:ei Bn newId inN bmN)(hBn:bmB.contains (.type Bn)=true)(F:ei B nid initId bmB)(T:mF h bmB bm) {qM:List aj} {Q:Fin->aw->Prop}
  (hC:h.get? C=some (d9 nm q C N bs bm hdct sn sub ab col dd k0 k1 k2 k3 k5 newId)) (hn:h.Ns N mN) (hi:mN "__init__"=some (.ref fI)) (hfI:h.get? fI=some oI) (hfc:oI.cls=.type "function")
  (hq:∀ h' e,gF h h' e (.ref C) qM->aO (aN prog w) A (call (.ref fI) (.ref e :: qM)) (fun r s'=>r=.none/\Q (.done (.ret (.ref e))) s') E ⟨h',g,d,t,os⟩) (hrest:qM.length<=aM:=by size_fits) :
  aO (aN prog w) A (Builtin.«type.__call__» ⟨.ref C :: qM,[]⟩) Q E ⟨h,g,d,t,os⟩:=by
 repeat (first | with_reducible refine dk hC ?_ | with_reducible refine wpAny_madeBy_exc hC ?_ | wp_step)
 refine codeAny_call_builtin_code (lJ.quiet_builtin _ Fn.quiet) (wpAny_check_new_subU Fn hBn T hC ?_)
 refine codeAny_exc_new_subU Fn hBn F T hC ?_ hrest
 show aO _ _ _ _ _ _
 have hC₁:=az { cls:=.ref C,data:=.fields #[.ref h.objs.size,.none,.none,.none,.bool false,.none] }
  (az { cls:=.type "tuple",data:=.seq qM.toArray } hC)
 have hfI₁:=az { cls:=.ref C,data:=.fields #[.ref h.objs.size,.none,.none,.none,.bool false,.none] }
  (az { cls:=.type "tuple",data:=.seq qM.toArray } hfI)
 have hn₁:((h.push { cls:=.type "tuple",data:=.seq qM.toArray }).push { cls:=.ref C,data:=.fields #[.ref h.objs.size,.none,.none,.none,.bool false,.none] }).Ns N mN:=
  let ⟨o,es,ep,e,r⟩:=hn;⟨o,es,ep,az _ (az _ e),r⟩
 have hget:((h.push { cls:=.type "tuple",data:=.seq qM.toArray }).push
   { cls:=.ref C,data:=.fields #[.ref h.objs.size,.none,.none,.none,.bool false,.none] }).get? (h.objs.size+1)=some
   { cls:=.ref C,data:=.fields #[.ref h.objs.size,.none,.none,.none,.bool false,.none] }:=by heap_get
 have hcC:(aj.ref C :: bm).contains (.ref C)=true:=by simp
 have T₁:=T.keeps (h':=(h.push { cls:=.type "tuple",data:=.seq qM.toArray }).push { cls:=.ref C,data:=.fields #[.ref h.objs.size,.none,.none,.none,.bool false,.none] })
  fun b o e=>az _ (az _ e)
 unfold isInstance
 repeat (first | with_reducible refine dk hget ?_ | (with_reducible refine gq hC₁ ?_;rw [hcC]) | wp_step)
 show aO _ _ (typeLookup (.ref C) _) _ _ _
 refine wpAny_typeLookup_tail hC₁ hn₁ T₁ F.mroIs F.init.lookup ?_
 rw [hi]
 refine cX (ap ?_)
 unfold bindSpecial
 refine ap (wpAny_typeOf (T:="function") ⟨_,hfI₁,hfc⟩ ?_)
 rw [if_pos (by decide)]
 refine aL (ap (ba (hq _ (h.objs.size+1) ⟨fun b o hb=>az _ (az _ hb),eG (iO _),h.objs.size,hget,eG (aJ _),?_⟩) (fun r s' hr=>?_) fun _ _ x=>x))
 ·exact az _ (Heap.get?_push_at rfl rfl)
 ·obtain ⟨rfl,hQ⟩:=hr
  wp_walk
  exact hQ
theorem YQ (Fn:ei Bn newId inN bmN)(hBn:bmB.contains (.type Bn)=true)(F:ei B nid initId bmB)(T:mF h bmB bm) {qM:List aj} {Q:aj->aw->Prop}
  (hC:h.get? C=some (d9 nm q C N bs bm hdct sn sub ab col dd k0 k1 k2 k3 k5 newId)) (hn:h.Ns N mN) (hi:mN "__init__"=some (.ref fI)) (hfI:h.get? fI=some oI) (hfc:oI.cls=.type "function")
  (hq:∀ h' e,gF h h' e (.ref C) qM->aO (aN prog w) (A.under (.builtin "type.__call__" ⟨.ref C :: qM,[]⟩)) (call (.ref fI) (.ref e :: qM)) (fun r s'=>r=.none/\Q (.ref e) s') E ⟨h',g,d,t,os⟩) (hrest:qM.length<=aM:=by size_fits) :
  aO (aN prog w) A (call (.ref C) qM) Q E ⟨h,g,d,t,os⟩:=by
 have f1:=tc_lookup
 have f2:=tc_bind (.ref C)
 have hT:(⟨h,g,d,t,os⟩:aw).TypeIs (.ref C) "type":=⟨_,hC,rfl⟩
 refine gB (codeAny_of_tree ?_)
 show aO _ _ (callAny (.ref C) _) _ _ _
 repeat (any_goals (first | assumption | with_reducible refine dk hC ?_ | wp_step))
 refine ⟨rfl,?_⟩
 refine codeAny_call_builtin_at (lJ.quiet_builtin _ (by decide +kernel)) entry_typeCall (wpAny_check_type_call_sub hC (Qw (hrest:=hrest) Fn hBn F T hC hn hi hfI hfc fun h' e hm=>?_))
 exact hq h' e hm
end
section
variable {M:mz}{A:aZ}{E:aj->aw->Prop}{env:Env}
variable {nm q:Str}{C N:au}{bs bm:List aj}{hdct:Bool}{sn:List Str}{sub:List aj}{ab:Bool}{col:Option Bool}{dd:Option au}{k0 k1 k2 k3 k5:Option aj}{newId:String}
theorem Qa {s:aw}{x:Sem aj}{Q:Flow->aw->Prop}(hbase:bm.contains (.type "BaseException")=true)(hh:A.handled=none)
  (h:aO M A x (fun v s₁=>∃ e t dx,v=.ref e/\s₁.heap.get? C=some (d9 nm q C N bs bm hdct sn sub ab col dd k0 k1 k2 k3 k5 newId) /\
   s₁.heap.get? e=some { cls:=.ref C,data:=.fields #[.ref t,.none,.none,.none,.bool false,.none],dict:=dx }/\E (.ref e) s₁) E s) :
  aO M A (mq env (some x) none) Q E s:=by
 have hcB:(aj.ref C :: bm).contains (.type "BaseException")=true:=by rw [lA,hbase,Bool.or_true]
 unfold mq
 refine ap (ba h (fun v s₁ h₁=>?_) fun _ _ x=>x)
 obtain ⟨e,t,dx,rfl,hC,he,hE⟩:=h₁
 obtain ⟨hp,g,d,tk,os⟩:=s₁
 repeat (first | with_reducible refine dk he ?_ | with_reducible refine dk hC ?_ | (with_reducible refine gq hC ?_;rw [hcB]) | wp_step)
 exact wpAny_raiseNew_none hh hE
end
section
variable {prog:aS}{w:bo}{A:aZ}{E:aj->aw->Prop}{s:aw}{env:Env}
variable {nm q:Str}{C N:au}{bs bm bmB:List aj}{hdct:Bool}{sn:List Str}{sub:List aj}{ab:Bool}{col:Option Bool}{dd:Option au}{k0 k1 k2 k3 k5:Option aj}{B Bn newId nid initId inN:String}{bmN:List aj}
theorem Wu (Fn:ei Bn newId inN bmN)(hBn:bmB.contains (.type Bn)=true)(F:ei B nid initId bmB){mN:Str->Option aj}{x:Str}{np cpos pos:Pos}{args:List Expr}{Q:Flow->aw->Prop}{fI:au}{oI:Obj}
  (hbase:bm.contains (.type "BaseException")=true) (hh:A.handled=none) (hplain:(ca cpos (aQ args env)).any (·.1)=false) (hi:mN "__init__"=some (.ref fI)) (hfc:oI.cls=.type "function")
  (h:aO (aN prog w) A (eval (.Name x np) env) (fun f s₁=>f=.ref C/\aO (aN prog w) A (evalArgs (.ref C) true (ca cpos (aQ args env)) [])
   (fun a s₂=>a.kw=[]/\a.pos.length<=aM/\s₂.heap.get? C=some (d9 nm q C N bs bm hdct sn sub ab col dd k0 k1 k2 k3 k5 newId)/\s₂.heap.Ns N mN/\mF s₂.heap bmB bm/\s₂.heap.get? fI=some oI /\
    ∀ h' e,gF s₂.heap h' e (.ref C) a.pos->aO (aN prog w) (A.under (.builtin "type.__call__" ⟨.ref C :: a.pos,[]⟩)) (call (.ref fI) (.ref e :: a.pos)) (fun r s'=>r=.none /\
     s'.heap.get? C=some (d9 nm q C N bs bm hdct sn sub ab col dd k0 k1 k2 k3 k5 newId)/\(∃ t dx,s'.heap.get? e=some { cls:=.ref C,data:=.fields #[.ref t,.none,.none,.none,.bool false,.none],dict:=dx })/\E (.ref e) s') E { s₂ with heap:=h' }) E s₁) E s) :
  aO (aN prog w) A (exec (.Raise (some (.Call (.Name x np) args [] cpos)) none pos) env) Q E s:=by
 rw [arm_exec_Raise]
 refine ap (cY (Qa (C:=C) (nm:=nm) (q:=q) (N:=N) (bs:=bs) (bm:=bm) (hdct:=hdct) (sn:=sn) (sub:=sub) (ab:=ab) (col:=col) (dd:=dd) (k0:=k0) (k1:=k1) (k2:=k2) (k3:=k3) (k5:=k5) (newId:=newId) hbase hh (ap (ba (wpAny_Call_ofName (ba h (fun f s₁ h₁=>?_) fun _ _ x=>x)) (fun v s₃ h₃=>ap (cY (aL h₃))) fun _ _ x=>x))))
 obtain ⟨rfl,h₁⟩:=h₁
 unfold gc
 refine ap (cX (ba h₁ (fun a s₂ h₂=>ap (cY ?_)) fun _ _ x=>x))
 obtain ⟨apos,akw⟩:=a
 obtain ⟨hkw,hlen,hC,hn,T,hf,h₂⟩:=h₂
 obtain rfl:akw=[]:=hkw
 obtain ⟨hp,g,d,tk,os⟩:=s₂
 simp only [hplain]
 refine ap (wpAny_keeperOf_exc hC ?_)
 refine ap (YQ (hrest:=hlen) Fn hBn F T hC hn hi hf hfc fun h' e hm=>ba (h₂ h' e hm) (fun r s' hr=>⟨hr.1,ap (cX (wpAny_point (aL ?_)))⟩) fun _ _ x=>x)
 obtain ⟨_,hC',⟨t,dx,he⟩,hE⟩:=hr
 exact ⟨e,t,dx,rfl,hC',he,hE⟩
end
end PySem
namespace L2
open PySem PySem.Spec PyProof.Rows
open PySem.W (Looks InstAt findIn findObj subIn mroIn clsIn takerIn hasDictIn)
noncomputable def BW:aj->Bool
 | .ref _=>true
 | _=>false
noncomputable def WF (l:List aj):Bool:=l.dropWhile BW == wH
theorem Bf {a:aj}(h:BW a=true):∃ c,a=.ref c:=by cases a <;> first | exact ⟨_,rfl⟩ | cases h
theorem vy (self:aj):∀ l:List aj,refuseLoop self "__setattr__" l=refuseLoop self "__setattr__" (l.dropWhile BW)
 | []=>rfl
 | a :: r=>by
  by_cases h:BW a=true
  ·obtain ⟨c,rfl⟩:=Bf h
   rw [refuseLoop_ref,List.dropWhile_cons_of_pos h];exact vy self r
  ·rw [List.dropWhile_cons_of_neg h]
theorem Vo (self:aj){l:List aj}(h:WF l=true):refuseLoop self "__setattr__" l=pure ():=by
 rw [vy,show l.dropWhile BW=wH from eq_of_beq h];exact PySem.F.store_ValueError.passes self
structure yC (K:ax)(C:au)(name:Str):Prop where
 s:eD K (.ref C) "__setattr__"=some (some (.builtin "object.__setattr__"))
 t:i5 K C name=some none
 hd:eA K C=true
 mo:mD K C (.type "object")=some true
 ve:(clsIn K C).any (fun cd=>WF cd.mro)=true
section
variable {prog:aS}{w:bo}{A:aZ}{E:aj->aw->Prop}{s:aw}{K:ax}{x C:au}{ox:Obj}{od:Option Obj}{name:Str}{v:aj}
theorem XC {tk:Tok}{R:lW->aw->Prop}(X:K.In s.heap)(I:InstAt s.heap x ox C od)(S:yC K C name)
  (h:∀ b,aO (aN prog w) A.in1 (Builtin.ObjectAttr.storeInOwnDict (.ref x) (.ref C) (.str name tk) name v b)
   (fun fin s'=>match fin with | .done f=>R (.ok f) s' | .again c'=>c'.quiet=true/\fk (aN prog w) A c' R s') (fun e s'=>R (.error e) s') s) :
  fk (aN prog w) A (.call (.builtin "object.__setattr__") ⟨[.ref x,.str name tk,v],[]⟩) R s:=by
 have SF:=PySem.F.store_object
 obtain ⟨cd,hc,ho⟩:=fP S.ve
 have sub:gE (aN prog w) s.heap (isInstance (.ref x) (.type "object")) true:=I.type.andThen (PySem.W.looks_mroIn X S.mo)
 refine codeAny_call_builtin SF.slot.plain SF.entry (@PySem.W.check_slot (aN prog w) _ _ s "object.__setattr__" "object" "__setattr__" (.ref x) [.str name tk,v] [] _ SF.kind SF.split sub (SF.args (.ref x) (.str name tk) v) ?_)
 obtain ⟨attr,ha,hr⟩:=Option.bind_eq_some_iff.mp S.t
 have hm:gE (aN prog w) s.heap (mroOf (.ref C)) cd.mro:=(eY X hc).andThen .now
 have L3:gE (aN prog w) s.heap (Builtin.ObjectAttr.storeTaker? attr) none:=by
  cases attr with
  | none=>exact .now
  | some a=>
   obtain ⟨b,hb,hb2⟩:=dA.mp hr
   cases b with
   | true=>cases hb2
   | false=>exact (PySem.W.looks_takesIn X hb).andThen .now
 rw [PySem.W.osa_eq,refuse_eq]
 refine ap (ap (I.type.here (ap (hm.here ?_))))
 rw [Vo _ ho]
 refine aL (ap (I.type.here (ap ((eI X ha).here (ap (L3.here ?_))))))
 exact h _
variable {vs:Array aj} {Q:Unit->aw->Prop}
theorem BO (X:K.In s.heap)(hx:s.heap.get? x=some ox)(hc:ox.cls=.ref C)(hf:ox.data=.fields vs)(hd:ox.dict=none)(S:yC K C name)
  (h:∀ h' tk,h'.Ns1 s.heap.objs.size (fun y=>if y=name then some v else none)->h'.get? x=some { ox with dict:=some s.heap.objs.size }->(∀ b o,b ≠ x->s.heap.get? b=some o->h'.get? b=some o)->Q () { s with heap:=h',toks:=tk }) :
  aO (aN prog w) A (setAttr (.ref x) name v) Q E s:=by
 have I:InstAt s.heap x ox C none:=⟨hx,hc,by unfold iW;rw [hf],by rw [hd];trivial⟩
 obtain ⟨cd,hcd,hdd⟩:=fP S.hd
 obtain ⟨oc,odt,oda,osl⟩:=ox
 dsimp only at hc hf hd
 subst hc hf hd
 have hx₁:(s.heap.push { cls:=.type "dict",data:=.dict #[] }).get? x=some ⟨.ref C,none,.fields vs,osl⟩:=az _ hx
 have hxs:x ≠ s.heap.objs.size:=bp (aG hx)
 refine gP X I S.s (XC (s:={ s with toks:=s.toks+1 }) (od:=none) X I S fun b=>?_)
 refine ap (aL (ap (ap (iL hx (ap (eu.here (s:={ s with toks:=s.toks+1 }) (eY X hcd) ?_))))))
 rw [hdd]
 have htd:typeHasDict (aj.ref C)=true:=by simp [typeHasDict]
 dsimp only
 rw [if_neg (by decide),htd,if_neg (by decide)]
 refine ap (wpAny_alloc' ?_)
 refine ap (wpAny_update' hx₁ ?_)
 refine aL ?_
 have hgd:((s.heap.push { cls:=.type "dict",data:=.dict #[] }).update x fun o=>{ cls:=o.cls,dict:=some s.heap.objs.size,data:=o.data,slots:=o.slots }).get? s.heap.objs.size
  =some { cls:=.type "dict",data:=.dict #[] }:=
  (Heap.get?_update_ne _ _ _ _ hxs.symm).trans (Heap.get?_push_at rfl rfl)
 have hnd:((s.heap.push { cls:=.type "dict",data:=.dict #[] }).update x fun o=>{ cls:=o.cls,dict:=some s.heap.objs.size,data:=o.data,slots:=o.slots }).Ns s.heap.objs.size (fun _=>none):=
  ⟨_,#[],_,hgd,rfl,fun e he=>absurd he (by simp),fun _=>rfl⟩
 show aO _ _ (fT s.heap.objs.size (.str name s.toks) name v) _ _ _
 unfold fT Builtin.ObjectAttr.newKeyGuard
 refine ap (aL (ap (lF (Heap.Ns1.of_empty hnd) fun h' hn' hs=>?_)))
 obtain ⟨oD,esD,epD,hoD,hdD,hcD⟩:=hn'.count (Within.cons name v Within.nil)
 refine ap (gY hoD (by rw [hdD];exact gZ (bb hcD (by rw [aT,fj,cg];omega))) ?_)
 refine aL (h h' _ hn' ?_ fun b o hb e=>?_)
 ·refine (hs.2 x hxs).trans (bJ _ hx₁ rfl)
 ·exact (hs.2 b (bp (aG e))).trans ((Heap.get?_update_ne _ _ _ _ hb).trans (az _ e))
theorem Fs {dx:au} {mA:Str->Option aj}{ns:List Str} (X:K.In s.heap)(hx:s.heap.get? x=some ox)(hc:ox.cls=.ref C)(hf:ox.data=.fields vs)(hd:ox.dict=some dx)(hn:s.heap.Ns1 dx mA)(S:yC K C name)(hw:Within mA ns)(hsz:ns.length<=1000)
  (h:∀ h' tk,h'.Ns1 dx (fun y=>if y=name then some v else mA y)->bU dx s.heap h'->Q () { s with heap:=h',toks:=tk }) :
  aO (aN prog w) A (setAttr (.ref x) name v) Q E s:=by
 obtain ⟨u,hu⟩:∃ u,s.heap.get? dx=some u:=let ⟨o,_,_,e,_⟩:=hn;⟨o,e⟩
 have I:InstAt s.heap x ox C (some u):=⟨hx,hc,by unfold iW;rw [hf],by rw [hd];exact hu⟩
 obtain ⟨cd,hcd,hdd⟩:=fP S.hd
 obtain ⟨oc,odt,oda,osl⟩:=ox
 dsimp only at hc hf hd
 subst hc hf hd
 refine gP X I S.s (XC (s:={ s with toks:=s.toks+1 }) (od:=some u) X I S fun b=>?_)
 refine ap (aL (ap (ap (iL hx (ap (eu.here (s:={ s with toks:=s.toks+1 }) (eY X hcd) ?_))))))
 rw [hdd]
 refine aL (a:=some dx) (ap (aL (ap ?_)))
 refine lF (s:={ s with toks:=s.toks+1 }) hn fun h' hn2 hs2=>?_
 obtain ⟨oD,esD,epD,hoD,hdD,hcD⟩:=hn2.count (gr.cons name v hw)
 refine ap (gY hoD (by rw [hdD];exact gZ (bb hcD (by rw [aT,cg];omega))) ?_)
 exact aL (h h' _ hn2 hs2)
end
open PySem.W (Looks InstAt findIn findObj subIn mroIn clsIn takerIn hasDictIn)
noncomputable def YZ (C t:au)(d:Option au):Obj:={ cls:=.ref C,data:=.fields #[.ref t,.none,.none,.none,.bool false,.none],dict:=d }
noncomputable def kq (a C t:au)(d:Option au):HO:=.ext fun h=>h.get? a=some (YZ C t d)
noncomputable def XdE (dx:au)(fs:List (Str × V)):HO:=.ext fun h=>∃ mA,h.Ns1 dx mA/\(∀ f,kF (fs.lookup f) (mA f))/\Within mA (fs.map (·.1))
variable {P:aS} {w:bo} {H:Hp}
theorem ZT {h:Heap}{a C t:au}{d:Option au}(e:h.get? a=some (YZ C t d)):zQ P w H h a (kq a C t d):=⟨e,⟨_,e⟩,fun _ _ e k=>k _ e⟩
theorem B6 {h:Heap}{dx:au}{fs:List (Str × V)}{mA:Str->Option aj}(n:h.Ns1 dx mA)(r:∀ f,kF (fs.lookup f) (mA f))(wi:Within mA (fs.map (·.1))):zQ P w H h dx (XdE dx fs):=by
 refine ⟨⟨mA,n,r,wi⟩,?_,fun h1 h2 ⟨mA,⟨o,es,ep,e,c⟩,r⟩ k=>⟨mA,⟨o,es,ep,k _ e,c⟩,r⟩⟩
 obtain ⟨o,_,_,e,_⟩:=n
 exact ⟨o,e⟩
section
variable {X:Cx}{pins:List (au × Obj)}{σ:St}{H:Hp}{s:aw}
theorem Inv.drop (I:Inv X pins σ H s){x:au}(mu:Mut (H x))(h0:X.s₀.heap.get? x=none):Inv X pins σ (fun b=>if b=x then none else H b) s:=by
 have ne1:∀ {b:au} {y:au},H b=some (.own y)->b ≠ x:=fun e z=>by rw [z] at e;rw [e] at mu;exact mu
 have ne2:∀ {b:au} {xs:List V},H b=some (.tup xs)->b ≠ x:=fun e z=>by rw [z] at e;rw [e] at mu;exact mu
 refine ⟨I.ok,I.os,I.bare,⟨I.base.keep,I.base.slot,fun b u e n hb=>?_,I.base.there,fun b xs e=>?_,fun b u v e=>?_,fun b ps e=>?_⟩,I.loc,I.cell,?_,fun y c e=>?_,fun p hp'=>?_,fun b u e=>?_,I.len⟩
 ·show (if b=x then none else H b)=none
  split
  ·rfl
  ·exact I.base.free b u e n hb
 ·have:=I.base.tups b xs e
  show (if b=x then none else H b)=_
  rw [if_neg (ne2 this)];exact this
 ·have:=I.base.frzs b u v e
  show (if b=x then none else H b)=_
  rw [if_neg (fun z=>by rw [z] at this;rw [this] at mu;exact mu)];exact this
 ·obtain ⟨m,this⟩:=I.base.tbls b ps e
  refine ⟨m,?_⟩
  show (if b=x then none else H b)=_
  rw [if_neg (fun z=>by rw [z] at this;rw [this] at mu;exact mu)];exact this
 ·show (if _=x then none else H _)=none
  split
  ·rfl
  ·exact I.free
 ·show (if _=x then none else H _)=none
  split
  ·rfl
  ·exact I.freeC y c e
 ·obtain ⟨e1,e2,e3⟩:=I.pin p hp'
  refine ⟨e1,?_,e3⟩
  show (if _=x then none else H _)=none
  split
  ·rfl
  ·exact e2
 ·have e:(if b=x then none else H b)=some u:=e
  split at e
  ·cases e
  ·exact (I.hok b u e).stay (fun _ _ _ q=>q) (fun d q=>by show (if _=x then none else H _)=_;rw [if_neg (ne1 q)];exact q) fun d xs q=>by show (if _=x then none else H _)=_;rw [if_neg (ne2 q)];exact q
noncomputable def Jw (K:ax)(ta tv:TE)(f:Str):TS:=fun D σ H=>tv σ H fun y H1=>ta σ H1 fun x H2=>∃ a C t,x=.ref a/\yC K C f /\
 ((H2 a=some (kq a C t none)/\∀ dx,H2 dx=none->dx ≠ a->D.nx σ (upd (upd H2 a (kq a C t (some dx))) dx (XdE dx [(f,y)]))) \/
  ∃ dx fs,H2 a=some (kq a C t (some dx))/\H2 dx=some (XdE dx fs)/\fs.length<1000/\D.nx σ (upd H2 dx (XdE dx (jD f y fs))))
variable {o value:Expr}{f:Str}{ta tv:TE}{pos pos':Pos}
theorem yG (ha:PE X o ta)(hv:PE X value tv)(hs:iZ value (some (.Attribute o f pos')) pos.line X.env=pure false):PS X (.Assign [.Attribute o f pos'] value pos) (Jw X.K ta tv f):=by
 intro pins s σ H D I h
 refine fM (thn (hv pins s σ H _ I h) fun u s1 ⟨y,H1,I1,ry,q⟩=>thn (ha pins s1 σ H1 _ I1 q) fun ov s2 ⟨x,H2,I2,rx,a,C,t,ex,S,q2⟩=>?_) hs
 subst ex
 obtain rfl:ov=aj.ref a:=rx
 rcases q2 with ⟨ea,q2⟩ | ⟨dx,fs,ea,ed,hl,q2⟩
 ·have ho:s2.heap.get? a=some (YZ C t none):=(I2.hok a _ ea).1
  refine BO I2.kIn ho rfl rfl rfl S fun h' tk hn hx k=>?_
  have dn:H2 s2.heap.objs.size=none:=I2.hok.fresh (aJ _)
  have da:s2.heap.objs.size ≠ a:=dP (aG ho)
  have hd:∀ b o,s2.heap.get? b=some o->b ≠ s2.heap.objs.size:=fun b o e=>bp (aG e)
  have na:∀ {b:au} {u:HO},H2 b=some u->(∀ φ,u ≠ .ext φ)->b ≠ a:=fun e n z=>by rw [z,ea] at e;cases e;exact n _ rfl
  have I3:Inv X pins σ (upd (upd H2 a (kq a C t (some s2.heap.objs.size))) s2.heap.objs.size (XdE s2.heap.objs.size [(f,y)])) { s2 with heap:=h',toks:=tk }:=by
   refine I2.un ⟨fun b o e n _ _=>k b o (fun z=>by rw [z,ea] at n;cases n) e,fun b o e n _ _=>⟨o.slots,k b o (fun z=>by rw [z,ea] at n;cases n) e⟩,fun b o e n _=>?_,fun b o e _=>?_,fun b xs e=>?_,fun b o u e=>?_,fun b ps e=>?_⟩ fun b u' e=>?_
   ·rw [zk (hd b o e),zk (fun z=>by rw [z,ea] at n;cases n)];exact n
   ·by_cases c:b=a
    ·exact ⟨_,c ▸ hx⟩
    ·exact ⟨o,k b o c e⟩
   ·rw [zk (zo e dn),zk (na e fun _ z=>nomatch z)];exact e
   ·rw [zk (zo e dn),zk (na e fun _ z=>nomatch z)];exact e
   ·exact ⟨#[],by rw [zk (zo e dn),zk (na e fun _ z=>nomatch z),Array.append_empty];exact e⟩
   ·by_cases c:b=s2.heap.objs.size
    ·subst c
     rw [zm] at e
     cases e
     refine B6 hn (fun g=>?_) fun g hg=>?_
     ·have e1:cU g [(f,y)]=if g=f then some y else none:=j6 f g y []
      rw [e1]
      by_cases q:g=f
      ·rw [if_pos q,if_pos q];exact ry
      ·rw [if_neg q,if_neg q];trivial
     ·by_cases q:g=f
      ·rw [q];simp
      ·exact absurd (if_neg q) hg
    ·rw [zk c] at e
     by_cases c2:b=a
     ·subst c2
      rw [zm] at e
      cases e
      exact ZT hx
     ·rw [zk c2] at e
      refine (I2.hok b u' e).stay (fun d v hd' q=>k d v (fun z=>?_) q) (fun d q=>?_) fun d xs q=>?_
      ·rcases hd' with rfl | hd'
       ·exact c2 z
       ·exact na hd' (fun _ z=>nomatch z) z
      ·rw [zk (zo q dn),zk (na q fun _ z=>nomatch z)];exact q
      ·rw [zk (zo q dn),zk (na q fun _ z=>nomatch z)];exact q
  exact ⟨σ,_,I3,q2 _ dn da⟩
 ·have ho:s2.heap.get? a=some (YZ C t (some dx)):=(I2.hok a _ ea).1
  obtain ⟨⟨mA,hn,r,wi⟩,_,_⟩:=I2.hok dx _ ed
  refine Fs I2.kIn ho rfl rfl rfl hn S wi (by rw [aq];omega) fun h' tk hn' sb=>?_
  have hd:∃ o,h'.get? dx=some o:=let ⟨o,_,_,e',_⟩:=hn';⟨o,e'⟩
  refine ⟨σ,_,I2.write (x:=dx) (e:=dx) (by rw [ed];exact True.intro) (.inl rfl) (fun b q hb z=>(sb.2 b hb).trans z) hd (B6 hn' (fun g=>?_) fun g hg=>?_),q2⟩
  ·rw [j6]
   by_cases q:g=f
   ·rw [if_pos q,if_pos q];exact ry
   ·rw [if_neg q,if_neg q];exact r g
  ·by_cases q:g=f
   ·rw [q];exact (kJ f y fs).1
   ·refine (kJ f y fs).2 g (wi g fun z=>hg ?_)
    show (if g=f then some u else mA g)=none
    rw [if_neg q];exact z
end
variable {K:ax} {mg:Str->Option aj} {v:aj}
theorem Kz {h:Heap}{N:au} {n:Str} (X:K.In h)(G:h.Ns N mg)(e:bF K N n=some (some v)):mg n=some v:=by
 obtain ⟨o,es,ep,ho,hd,_,hf⟩:=G
 unfold bF at e
 split at e
 ·rename_i c d es' n' sl q
  have:=X _ _ q
  rw [ho] at this
  cases this
  cases hd
  split at e
  ·rename_i en he
   cases e
   rw [<- hf]
   unfold nsFind findBy
   rw [<- lr,he]
   rfl
  ·split at e <;> cases e
 ·cases e
noncomputable def jR (K:ax)(C:au)(bmB:List aj)(newId:String)(fI:au):Bool:=match K.lookup C with
 | some ⟨.type "type",_,.cls cd,sl⟩=>(match cd.mro,sl.toList with
  | .ref C' :: bm,[_,_,_,_,some (.builtin n),_]=>C' == C && n == newId && !cd.hasDel && PySem.W.tailIn K bmB bm && PySem.W.nsOkIn K cd.ns && bF K cd.ns "__init__" == some (some (.ref fI))
  | _,_=>false)
 | _=>false
theorem Jt {h:Heap}{C fI:au}{bmB:List aj}{newId:String}(X:K.In h)(q:jR K C bmB newId fI=true) :
  ∃ bm N nm qn bs hdct sn sub ab col dd k0 k1 k2 k3 k5 mN,h.get? C=some (d9 nm qn C N bs bm hdct sn sub ab col dd k0 k1 k2 k3 k5 newId)/\h.Ns N mN/\mN "__init__"=some (.ref fI)/\mF h bmB bm:=by
 unfold jR at q
 split at q
 ·rename_i dd cd sl ho
  split at q
  ·rename_i C' bm k0 k1 k2 k3 n k5 hm hs
   simp only [dF,beq_iff_eq,Bool.not_eq_true'] at q
   obtain ⟨⟨⟨⟨⟨z1,z2⟩,z3⟩,z4⟩,z5⟩,z6⟩:=q
   subst z1 z2
   obtain ⟨c1,c2,c3,c4,c5,c6,c7,c8,c9,c10,c11⟩:=cd
   dsimp only at hm z3 z5 z6
   subst hm z3
   have es:sl=#[k0,k1,k2,k3,some (.builtin n),k5]:=Array.ext' hs
   subst es
   exact ⟨bm,c4,c1,c5,c2,c6,c7,c8,c9,c10,dd,k0,k1,k2,k3,k5,_,X _ _ ho,.of_isNs (lB X z5),Kz X (.of_isNs (lB X z5)) z6,PySem.W.tail_of_in X z4⟩
  ·cases q
 ·cases q
noncomputable def spI (C:au)(n:Nat)(fn:List V->List (Str × V)):Sp:=fun vs H Q E=>∃ a t us,vs=.ref a :: us/\us.length=n/\H a=some (kq a C t none)/\∀ dx,H dx=none->dx ≠ a->Q .non (upd (upd H a (kq a C t (some dx))) dx (XdE dx (fn us)))
def MkX (P:aS)(w:bo)(K:ax)(mg:Str->Option aj)(base:Heap)(C:au)(k n:Nat)(fn:List V->List (Str × V)):Prop:=
 ∃ f fd ps,jR K C wH "ValueError.__new__" f=true/\jA P w K mg base CX0 k f fd ps (spI C n fn)/\jv K fd ps []/\(∃ oI,K.lookup f=some oI/\oI.cls=.type "function")/\ps.length=n+1
noncomputable def XE (C:au)(n:Nat)(fn:List V->List (Str × V))(E:St->XK)(t:TA):TS:=fun _ σ H=>t σ H fun vs H1=>vs.length=n/\n<=1000/\∀ dx,H1 dx=none->E σ (.ref C) (some dx) (upd H1 dx (.xd (fn vs)))
section
variable {X:Cx}{E:XK}{C:au}{x:Str}{np cpos pos:Pos}{e:Expr}{es:List Expr}{t:TA}{k n:Nat}{fn:List V->List (Str × V)}
theorem qD (D:DX X E)(hc:X.calm=true)(m:MkX X.prog X.w X.K X.mg X.base C k n fn)(hr:qt (k+1) X.A)(hg:Gl X x)(hm:X.mg x=some (.ref C))(ha:PA X (e :: es) t)(hdb:(x == ("__debug__":Str))=false:=by decide)
  (he:aQ (e :: es) X.env=(false,eval e X.env) :: aQ es X.env:=by rfl) (hpl:(ca cpos (aQ es X.env)).any (·.1)=false:=by rfl) :
  PS X (.Raise (some (.Call (.Name x np) (e :: es) [] cpos)) none pos) (XE C n fn (fun _=>E) t):=by
 intro pins s σ H De I h
 obtain ⟨fI,fd,ps,q,F,hb,⟨oI,lk,hfc⟩,hps⟩:=m
 obtain ⟨bm,N,nm,qn,bs,hdct,sn,sub,ab,col,dd,k0,k1,k2,k3,k5,mN,hC,hN,hi,T⟩:=Jt I.ok.mod.kin q
 refine Wu (C:=C) (nm:=nm) (q:=qn) (N:=N) (bs:=bs) (bm:=bm) (hdct:=hdct) (sn:=sn) (sub:=sub) (ab:=ab) (col:=col) (dd:=dd) (k0:=k0) (k1:=k1) (k2:=k2) (k3:=k3) (k5:=k5)
  cm (by decide) cm (mN:=mN) (T.hasType cm.hasBase) (I.ok.hd hc) (by rw [he];show (false || (ca cpos (aQ es X.env)).any (·.1))=false;rw [hpl];rfl) hi hfc (j4 I hg hm ⟨rfl,?_⟩ hdb)
 have:=ha cpos pins s σ H _ I h
 rw [he] at this ⊢
 refine eL (ba this (fun us s2 h2=>?_) fun _ _ y=>y)
 obtain ⟨vs,H1,I1,r,hl,hn,q1⟩:=h2
 have hlu:us.length=n:=by rw [<- r.length];exact hl
 refine ⟨rfl,by rw [hlu,cg];omega,I1.bk _ _ hC,hN.keeps I1.bk,T.keeps I1.bk,I1.kIn _ _ lk,fun h' x1 hx=>?_⟩
 obtain ⟨t1,ho,_,_⟩:=hx.there
 have nx:s2.heap.get? x1=none:=hx.new
 have hx0:X.s₀.heap.get? x1=none:=by
  cases z:X.s₀.heap.get? x1 with
  | none=>rfl
  | some o=>
   obtain ⟨o',e'⟩:=I1.base.there x1 o z (by rw [D.ex];simp)
   rw [nx] at e';cases e'
 have hx1:H1 x1=none:=by
  cases z:H1 x1 with
  | none=>rfl
  | some o=>
   obtain ⟨u,e'⟩:=(I1.hok x1 o z).here
   rw [nx] at e';cases e'
 have I2:Inv X pins σ H1 { s2 with heap:=h' }:=I1.kept (t':=s2.toks) hx.keeps
 have I3:Inv X pins σ (upd H1 x1 (kq x1 C t1 none)) { s2 with heap:=h' }:=I2.track hx1 hx0 (fun z=>by
   obtain ⟨mm,⟨o,_,_,e',_⟩,_⟩:=I1.loc
   rw [<- z,nx] at e';cases e') (fun y c e' z=>by
   obtain ⟨v,o,e2,_⟩:=I1.cell y c e'
   rw [z,nx] at e2;cases e2) (fun p hp z=>by
   have:=(I1.pin p hp).1
   rw [z,nx] at this;cases this) (ZT ho)
 have r2:zF (V.ref x1 :: vs) (aj.ref x1 :: us):=.cons rfl r
 have hl2:(aj.ref x1 :: us ++ []).length=ps.length:=by rw [bQ,aT,hlu,hps]
 have b1:=hb { s2 with heap:=h' } (aj.ref x1 :: us) I3.kIn hl2
 rw [bQ] at b1
 refine gB (eQ (F.run _ X.stack _ _ ⟨aj.ref x1 :: us,[]⟩ (aj.ref x1 :: us) (V.ref x1 :: vs) (fun v H2=>v=.non/\∃ dx,H1 dx=none/\dx ≠ x1/\H2=upd (upd H1 x1 (kq x1 C t1 (some dx))) dx (XdE dx (fn vs))) E (hr.make C us []) (I3.env0.make C us []) b1 r2 ⟨x1,t1,vs,rfl,hl,zm,fun dx hd hne=>⟨rfl,dx,?_,hne,by rw [xN]⟩⟩) fun r s' hq'=>?_)
 ·rw [zk hne] at hd;exact hd
 cases r with
 | error e=>exact bM hq'
 | ok fl=>
  cases fl with
  | ret u=>
   obtain ⟨v,H',I4,rv,ev,dx,d1,d2,eH⟩:=I3.after hq'
   subst ev eH
   have hcl:=I4.bk _ _ hC
   have hex:s'.heap.get? x1=some (YZ C t1 (some dx)):=by
    have:=I4.hok x1 (kq x1 C t1 (some dx)) (by rw [zk (Ne.symm d2),zm])
    exact this.1
   refine ⟨rv,hcl,⟨t1,some dx,hex⟩,?_⟩
   have I5:=I4.drop (x:=x1) (by rw [zk (Ne.symm d2),zm];exact True.intro) hx0
   have eH:(fun b=>if b=x1 then none else upd (upd H1 x1 (kq x1 C t1 (some dx))) dx (XdE dx (fn vs)) b)=upd H1 dx (XdE dx (fn vs)):=by
    funext b
    by_cases c:b=x1
    ·rw [if_pos c,c,zk (Ne.symm d2)];exact hx1.symm
    ·rw [if_neg c]
     by_cases c2:b=dx
     ·rw [c2,zm,zm]
     ·rw [zk c2,zk c,zk c2]
   rw [eH] at I5
   obtain ⟨⟨mA,hn1,hr1,_⟩,⟨od,hod⟩,_⟩:=I5.hok dx (XdE dx (fn vs)) zm
   have I6:=I5.write (x:=dx) (e:=dx) (h':=s'.heap) (t':=s'.toks) (o:=.xd (fn vs)) (by rw [zm];exact True.intro) (.inl rfl) (fun _ _ _ z=>z) ⟨od,hod⟩ ⟨mA,hn1,hr1⟩
   rw [xN] at I6
   exact D.raise (C:=C) (d:=some dx) I6 (x:=x1) (h1:=s'.heap) (fun b o _ z=>z) (fun o z=>by rw [hex] at z;cases z;exact ⟨_,rfl⟩) hex rfl rfl rfl rfl rfl (.inl rfl) hx0 (by rw [zk (Ne.symm d2)];exact hx1) (q1 dx d1)
  | next=>exact bM hq'
  | brk=>exact bM hq'
  | cont=>exact bM hq'
end
open PySem.W (Looks InstAt findIn findObj subIn mroIn clsIn takerIn hasDictIn)
def DmX (P:aS)(w:bo)(K:ax)(mg:Str->Option aj)(base:Heap)(C:au)(m:Str)(ps:List Str)(k:Nat)(sp:Sp):Prop:=
 ∃ f fd,jA P w K mg base (CX1 P w) k f fd ps sp/\jv K fd ps []/\Xh K C m f
variable {base:Heap} {C:au} {m:Str} {ps:List Str} {sp:Sp}
theorem DmX.mono {j k:Nat} (D:DmX P w K mg base C m ps j sp)(h:j<=k):DmX P w K mg base C m ps k sp:=
 let ⟨f,fd,F,r⟩:=D
 ⟨f,fd,F.mono h,r⟩
noncomputable def wB (C:au)(m:Str)(sp:Sp)(E:St->XK)(ta:TE)(t:TA):TE:=fun σ H Q=>ta σ H fun x H1=>∃ a dx fs,x=.ref a/\H1 a=some (.ins C dx fs)/\fs.lookup m=none/\t σ H1 fun vs H2=>sp (x :: vs) H2 Q (E σ)
section
variable {X:Cx}{k:Nat}{C:au}{m x:Str}{ps:List Str}{sp:Sp}{E:St->XK}{p pos apos:Pos}{o e:Expr}{es:List Expr}{t:TA}{to:TE}
theorem xm {pl:Sem Bool}(c:Cls X.K C)(D:DmX X.prog X.w X.K X.mg X.base C m ps k sp)(hr:qt k X.A)(hx:yv (CX1 X.prog X.w) X E)(ho:PE X o to)(ha:PA X (e :: es) t)
  (hst:aQ (e :: es) X.env=(false,eval e X.env) :: aQ es X.env:=by rfl) (hpl:(ca pos (aQ es X.env)).any (·.1)=false:=by rfl)
  (ht:eval (.Call (.Attribute o m apos) (e :: es) [] pos) X.env=(do
   let ov <- eval o X.env
   h8 apos.atName
   let (f,first) <- holding [ov] (getMethod ov m pl)
   gc pos f first (ca pos (aQ (e :: es) X.env)) (fc pos (dC [] X.env))):=by rfl) :
  PE X (.Call (.Attribute o m apos) (e :: es) [] pos) (wB C m sp E to t):=by
 obtain ⟨f,fd,F,b,hm⟩:=D
 intro pins s σ H Q I h
 refine eB (pl:=pl) (thn (ho pins s σ H _ I h) fun u s1 ⟨x,H1,I1,rx,a,dx,fs,ex,ea,l,q⟩=>?_) ht
 subst ex
 obtain rfl:u=aj.ref a:=rx
 refine kX I1 ea c hm l ?_
 refine eh (first:=[.ref a]) (h₀:=X.base) I.ok.mod.kin hm.kp (thn (ha pos pins s1 σ H1 _ I1 q) fun us s2 ⟨vs,H2,I2,r,q2⟩=>⟨I2.kIn,?_⟩) hst hpl
 exact YL (us:=.ref a :: us) (vs:=.ref a :: vs) F hr b hx I2 (.cons rfl r) q2
end
variable {qual:Str} {st:cw} {N:List Str}
theorem Hj {k:Nat} (a:AtM K C m qual st)(S:zu N ps (zg st))
  (hb:∀ (kV doc pm:aj) (an:Option au) (cdv ct:aj) (us:List aj),us.length=ps.length->eJ (bO m qual (qv st) (zM st) (zg st) .none kV doc pm an cdv ct) ⟨us,[]⟩=pure (ps.zip us))
  (len:∀ vs H Q E,sp vs H Q E->vs.length=ps.length)
  (hbody:∀ (f:au) (cdv:aj) (A:aZ) (outer:List Env) (s:aw) (H:Hp) (vs:List V) (Q:VK) (E:XK),qt k (A.deeper (eZ qual (zg st) s.heap.objs.size f cdv))->sp vs H Q E ->
   ∃ t,(DX (jM (CX1 P w) P w K mg base N qual (zg st) f cdv A outer s H E) E->PSs (jM (CX1 P w) P w K mg base N qual (zg st) f cdv A outer s H E) (zM st) t)/\t { nx:=fun _ H'=>Q .non H',rt:=Q } (qJ N vs) H):DmX P w K mg base C m ps (k+1) sp:=by
 obtain ⟨f,fd,F,mt⟩:=a
 refine ⟨f,fd,?_,F.binds hb,mt⟩
 obtain ⟨oc,od,kV,doc,pm,an,cdv,ct,osl,rfl,lk,hcd⟩:=F.ex
 refine DZ lk hcd S len fun A outer s H vs Q E hr hsp=>?_
 obtain ⟨t,ht,q⟩:=hbody f cdv A outer s H vs Q E hr hsp
 exact ⟨t,ht ⟨rfl,rfl,rfl,rfl⟩,q⟩
theorem JH {u:Obj}{name:Str} (hh:eA K C=true)(ha:eD K (.ref C) name=some none)(hl:fC name u=some (some v)):gS K C (some u) name=some (.value v):=i6 hh ha rfl hl
section
variable {prog:aS}{w:bo}{A:aZ}{E:aj->aw->Prop}{s:aw}{K:ax}{x C:au}{ox u:Obj}{name:Str}{v:aj}
theorem HH {expr:Bool}{Q:aj->aw->Prop}(X:K.In s.heap)(I:InstAt s.heap x ox C (some u))(hb:li K (.ref C) (.type "BaseException")=some true)
  (h1:eD K (.ref C) "__getattribute__"=some (some (.builtin "BaseException.__getattribute__"))) (h2:eD K (.ref C) "__getattr__"=some none)
  (hf:gS K C (some u) name=some (.value v)) (hh:gX v=true) (q:Q v { s with toks:=s.toks+1 }) :
  aO (aN prog w) A (mE (.ref x) name expr) Q E s:=by
 obtain ⟨h,g,d,t,os⟩:=s
 unfold mE
 refine ap (wpAny_mkText ?_)
 refine ME X I hb h1 h2 ?_
 have L0:=I.type (M:=aN prog w)
 have L1:=PySem.W.looks_find (M:=aN prog w) X I hf
 have fin:aO (aN prog w) A (handedOut v) Q E ⟨h,g,d,t+1,os⟩:=by rw [PySem.W.handedOut_of hh];exact aL q
 unfold Builtin.«object.__getattribute__»
 repeat (any_goals (first | assumption | with_reducible refine gE.at L0 ?_ | with_reducible refine gE.at L1 ?_ | wp_step))
end
section
variable {X:Cx}{e:Expr}{ta:TE}{f:Str}{pos:Pos}
end
theorem AQ {C f:au}{fd:cV} {k n:Nat}{fn:List V->List (Str × V)}(F:Fun K "__init__" qual st f fd)(S:zu N ps (zg st))
  (hb:∀ (kV doc pm:aj) (an:Option au) (cdv ct:aj) (us:List aj),us.length=ps.length->eJ (bO "__init__" qual (qv st) (zM st) (zg st) .none kV doc pm an cdv ct) ⟨us,[]⟩=pure (ps.zip us))
  (q:jR K C wH "ValueError.__new__" f=true) (hf:cZ K (.ref f)=true) (hl:ps.length=n+1)
  (hbody:∀ (cdv:aj) (A:aZ) (outer:List Env) (s:aw) (H:Hp) (E:XK),∃ t,PSs (jM CX0 P w K mg base N qual (zg st) f cdv A outer s H E).nox (zM st) t /\
   ∀ (a t0:au) (us:List V) (Q:VK),us.length=n->H a=some (kq a C t0 none)->(∀ dx,H dx=none->dx ≠ a->Q .non (upd (upd H a (kq a C t0 (some dx))) dx (XdE dx (fn us))))->t { nx:=fun _ H'=>Q .non H',rt:=Q } (qJ N (.ref a :: us)) H):MkX P w K mg base C (k+1) n fn:=by
 have hfc:∃ oI,K.lookup f=some oI/\oI.cls=.type "function":=by
  obtain ⟨oc,od,kV,doc,pm,an,cdv,ct,osl,rfl,lk,hcd⟩:=F.ex
  refine ⟨_,lk,?_⟩
  have hf':=beq_iff_eq.mp hf
  have hf':Option.map (fun x:Obj=>x.cls) (K.lookup f)=some (.type "function"):=hf'
  rw [lk] at hf'
  exact bP hf'
 refine ⟨f,fd,ps,q,F.ok S (fun vs H Q E ⟨a,t,us,e,l,_⟩=>by rw [e,aT,l,hl]) fun cdv A outer s H vs Q E hr ⟨a,t0,us,e,l,ha,hq⟩=>?_,F.binds hb,hfc,hl⟩
 obtain ⟨t,h1,h2⟩:=hbody cdv A outer s H E
 subst e
 exact ⟨t,h1,h2 a t0 us Q l ha hq⟩
open PySem.W (findIn hasDictIn)
theorem vV {H:Hp}{O:Own}{M:MH}:∀ {xs:List (Str × V)} {l:List (Str × AV)},jh H O M xs l->∀ f,(xs.lookup f=none/\l.lookup f=none) \/ ∃ v x,xs.lookup f=some v/\l.lookup f=some x/\zq H O M v x
 | [],[],_,f=>.inl ⟨rfl,rfl⟩
 | [],_ :: _,r,f=>by have:=r.1;simp at this
 | _ :: _,[],r,f=>by have:=r.1;simp at this
 | (g,v) :: xs,(g',x) :: l,r,f=>by
  have h1:=r.1
  rw [aV,aV] at h1
  obtain ⟨e0,h2⟩:=fZ h1
  have e0:g=g':=e0
  subst e0
  have r0:zq H O M v x:=r.2.2 0 v x rfl rfl
  have r1:jh H O M xs l:=⟨h2,by have:=r.2.1;simp at this;simpa using this,fun i a b e1 e2=>r.2.2 (i+1) a b e1 e2⟩
  by_cases c:f=g
  ·subst c
   exact .inr ⟨v,x,by simp [cU],by simp [cU],r0⟩
  ·have e:(f == g)=false:=by simpa using c
   simp only [cU,e]
   exact vV r1 f
noncomputable def jF (f:Str)(v:AV):List (Str × AV)->List (Str × AV)
 | []=>[(f,v)]
 | (g,x) :: r=>if g=f then (g,v) :: r else (g,x) :: jF f v r
theorem Wq {H:Hp}{O:Own}{M:MH}{f:Str}{v:V}{x:AV}(rv:zq H O M v x):∀ {xs:List (Str × V)} {l:List (Str × AV)},jh H O M xs l->jh H O M (jD f v xs) (jF f x l)
  | [], [], _ => ⟨rfl, rfl, fun i a b e1 e2 => by
      cases i with
      | zero=>cases e1;cases e2;exact rv
      | succ i=>cases e1⟩
  | [],_ :: _,r=>by have:=r.1;simp at this
  | _ :: _,[],r=>by have:=r.1;simp at this
  | (g,v') :: xs,(g',x') :: l,r=>by
    have h1:=r.1
    rw [aV,aV] at h1
    obtain ⟨e0,h2⟩:=fZ h1
    have e0:g=g':=e0
    subst e0
    have r0:zq H O M v' x':=r.2.2 0 v' x' rfl rfl
    have ll:xs.length=l.length:=by have:=r.2.1;simp at this;exact this
    have r1:jh H O M xs l:=⟨h2,by simpa using ll,fun i a b e1 e2=>r.2.2 (i+1) a b e1 e2⟩
    unfold jD jF
    by_cases c:g=f
    · rw [if_pos c,if_pos c]
      exact ⟨by rw [aV,aV,h2],by simpa using ll,fun i a b e1 e2=>by
        cases i with
        | zero=>cases e1;cases e2;exact rv
        | succ i=>exact r1.2.2 i a b e1 e2⟩
    · rw [if_neg c,if_neg c]
      have ih:=Wq (f:=f) rv r1
      exact ⟨by rw [aV,aV,ih.1],by have:=ih.2.1;simpa using this,fun i a b e1 e2=>by
        cases i with
        | zero=>cases e1;cases e2;exact r0
        | succ i=>exact ih.2.2 i a b e1 e2⟩
variable {O:Own} {M:MH}
theorem HL {xs:List (Str × V)}{l:List (Str × AV)}(r:jh H O M xs l):xs.length=l.length:=by simpa using r.2.1
theorem Yw (w:Wf H O M){p C:au}{fs:List (Str × AV)}(hp:M p=some (.ins C fs))(f:Str){v:V}{y:AV}(rv:zq H O M v y) :
  ∃ dx xs,H p=some (.ins C dx xs)/\xs.length=fs.length/\Ext H O M (upd H p (.ins C dx (jD f v xs))) O (mup M p (.ins C (jF f y fs)))/\Wf (upd H p (.ins C dx (jD f v xs))) O (mup M p (.ins C (jF f y fs))):=by
 obtain ⟨dx,xs,g1,g2,g3,g4,g5⟩:=w.mo p _ hp
 have np:=zW hp
 have ks:=j5 w np (.ins C dx (jD f v xs)) (.ins C (jF f y fs))
 have kp:=Wq (f:=f) rv g2
 refine ⟨dx,xs,g1,HL g2,ks,Qi w np (fun _ z=>nomatch z) (show jf _ _ _ p (.ins C (jF f y fs)) from ⟨dx,_,zm,⟨kp.1,kp.2.ext ks⟩,g3,(ks.prv dx g3 g4).2.2,?_⟩)⟩
 rw [(ks.prv dx g3 g4).1];exact g5
noncomputable def L8 (K:ax)(a:AE)(f:Str):AE:=fun ρ M Q=>a ρ M fun x M1=>∃ p C fs v,x=.ref p/\M1 p=some (.ins C fs)/\Cls K C/\jX K C f/\fs.lookup f=some v/\Q v M1
variable {t:TE} {a:AE} {f:Str}
theorem Fv (h:zH t a):zH (Hh K t f) (L8 K a f):=⟨fun w e q k=>h.go w e q fun x M1 v H1 O1 q1 k1 w1 r1=>by
 obtain ⟨p,C,fs,y,rfl,hp,c,n,hl,q2⟩:=q1
 obtain ⟨dx,xs,h1,h2,_⟩:=w1.mo p _ hp
 rcases vV h2 f with ⟨_,z⟩ | ⟨u,z,h3,h4,h5⟩
 ·rw [z] at hl;cases hl
 ·rw [hl] at h4;cases h4
  exact ⟨p,C,dx,xs,u,r1.1,h1,c,n,h3,k _ _ _ _ _ q2 k1 w1 h5⟩⟩
noncomputable def DP (K:ax)(a b:AE)(f:Str):AS:=fun _ D ρ M=>b ρ M fun y M1=>a ρ M1 fun x M2=>∃ p C fs,x=.ref p/\M2 p=some (.ins C fs)/\Cls K C/\jX K C f/\fs.length<1000/\D.nx ρ (mup M2 p (.ins C (jF f y fs)))
theorem Wo {t u:TE}{a b:AE} (h1:zH t a)(h2:zH u b):jy (F5 K t u f) (DP K a b f):=⟨fun _ w e x q E=>h2.go w e q fun y M1 v H1 O1 q1 k1 w1 r1=>h1.go w1 (e.ext k1) q1 fun z M2 v2 H2 O2 q2 k2 w2 r2=>by
 obtain ⟨p,C,fs,rfl,hp,c,n,hl,q3⟩:=q2
 obtain ⟨dx,xs,g1,g2,ks,w3⟩:=Yw w2 hp f (r1.ext k2)
 exact ⟨p,C,dx,xs,r2.1,g1,c,n,by rw [g2];exact hl,E.nx _ _ _ _ _ w3 ((e.ext k1).ext (k2.trans ks)) ((x.trans k1).trans (k2.trans ks)) q3⟩⟩
noncomputable def GG (C:au)(m:Str)(sp:ASp)(a:AE)(b:AA):AE:=fun ρ M Q=>a ρ M fun x M1=>∃ p fs,x=.ref p/\M1 p=some (.ins C fs)/\fs.lookup m=none/\b ρ M1 fun xs M2=>sp (.ref p :: xs) M2 Q
theorem Qy {H:Hp}{O:Own}{M:MH}{v:V}{x:AV}{vs:List V}{xs:List AV}(r:zq H O M v x)(rs:zl H O M vs xs):zl H O M (v :: vs) (x :: xs):=⟨by rw [aT,aT,rs.1],fun i a b e1 e2=>by
 cases i with
 | zero=>cases e1;cases e2;exact r
 | succ i=>exact rs.2 i a b e1 e2⟩
variable {u:TA} {b:AA}
theorem Ap {sp:ASp} (h1:zH t a)(h2:jo u b):zH (Zz C m (cSp sp) [] E0 t u) (GG C m sp a b):=⟨fun w e q k=>h1.go w e q fun x M1 v H1 O1 q1 k1 w1 r1=>by
 obtain ⟨p,fs,rfl,hp,hl,q2⟩:=q1
 obtain ⟨dx,xs,g1,g2,_⟩:=w1.mo p _ hp
 have hn:xs.lookup m=none:=by
  rcases vV g2 m with z | ⟨_,_,_,z,_⟩
  ·exact z.1
  ·rw [hl] at z;cases z
 refine ⟨p,dx,xs,r1.1,g1,hn,h2.go w1 (e.ext k1) q2 fun ys M2 vs H2 O2 q3 k2 w2 r2=>?_⟩
 have rp:zq H2 O2 M2 v (.ref p):=r1.ext k2
 exact ⟨.ref p :: ys,M2,O2,_,w2,by rw [bQ];exact Qy rp r2,q3,fun z M3 v3 H3 O3 q4 k3 w3 r3=>k z M3 v3 H3 O3 q4 ((k1.trans k2).trans k3) w3 r3⟩⟩
section
variable {HX:Hp}{OX:Own}{MX:MH}{E:St->XK}{EA:ASt->AXK}{sp:xX}{te:TE}{ae:AE}{ta:TA}{aa:AA}{C:au}{m:Str}
noncomputable def wb (C:au)(m:Str)(sp:xX)(EA:ASt->AXK)(a:AE)(b:AA):AE:=fun ρ M Q=>a ρ M fun x M1=>∃ p fs,x=.ref p/\M1 p=some (.ins C fs)/\fs.lookup m=none/\b ρ M1 fun xs M2=>sp (.ref p :: xs) M2 Q (EA ρ)
theorem wF (hE:EXs HX OX MX E EA)(ho:zH te ae)(hu:jo ta aa){σ:St} {ρ:ASt} {Q:VK}{Q':AK}(kx:Ext HX OX MX H O M)(w:Wf H O M)(e:Er H O M σ ρ)(q:wb C m sp EA ae aa ρ M Q')(k:∀ x M' v H' O',Q' x M'->Ext H O M H' O' M'->Wf H' O' M'->zq H' O' M' v x->Q v H'):wB C m (jr sp) E te ta σ H Q:=
 ho.go w e q fun x M1 v H1 O1 q1 k1 w1 r1=>by
  obtain ⟨p,fs,rfl,hp,hl,q2⟩:=q1
  obtain ⟨dx,xs,g1,g2,_⟩:=w1.mo p _ hp
  have hn:xs.lookup m=none:=by
   rcases vV g2 m with z | ⟨_,_,_,z,_⟩
   ·exact z.1
   ·rw [hl] at z;cases z
  refine ⟨p,dx,xs,r1.1,g1,hn,hu.go w1 (e.ext k1) q2 fun ys M2 vs H2 O2 q3 k2 w2 r2=>?_⟩
  have rp:zq H2 O2 M2 v (.ref p):=r1.ext k2
  exact ⟨.ref p :: ys,M2,O2,Q',EA ρ,w2,Qy rp r2,q3,fun x M3 v3 H3 O3 q4 k3 w3 r3=>k x M3 v3 H3 O3 q4 ((k1.trans k2).trans k3) w3 r3,fun C fs M' H' O' d q4 k3 w3 xd=>hE.go σ ρ C fs M' H' O' d q4 (((kx.trans k1).trans k2).trans k3) w3 (e.ext ((k1.trans k2).trans k3)) xd⟩
theorem Kx (hE:EXs HX OX MX E EA)(ho:zH te ae)(hu:jo ta aa):ku HX OX MX (Xz (wB C m (jr sp) E te ta)) (AZ (wb C m sp EA ae aa)):=
 ⟨fun kx _ w e x q D=>wF hE ho hu (kx.trans x) w e q fun y M1 v H1 O1 q1 k1 w1 r1=>D.nx _ _ _ _ _ w1 (e.ext k1) (x.trans k1) q1⟩
theorem V6 {to:TE}{ao:AE}(hE:EXs HX OX MX E EA)(ho:zH te ae)(hu:jo ta aa)(h1:zH to ao):ku HX OX MX (F5 K to (wB C m (jr sp) E te ta) f) (DP K ao (wb C m sp EA ae aa) f):=
 ⟨fun kx _ w e x q D=>wF hE ho hu (kx.trans x) w e q fun y M1 v H1 O1 q1 k1 w1 r1=>h1.go w1 (e.ext k1) q1 fun z M2 v2 H2 O2 q2 k2 w2 r2=>by
  obtain ⟨p,C,fs,rfl,hp,c,n,hl,q3⟩:=q2
  obtain ⟨dx,xs,g1,g2,ks,w3⟩:=Yw w2 hp f (r1.ext k2)
  exact ⟨p,C,dx,xs,r2.1,g1,c,n,by rw [g2];exact hl,D.nx _ _ _ _ _ w3 ((e.ext k1).ext (k2.trans ks)) ((x.trans k1).trans (k2.trans ks)) q3⟩⟩
theorem VB {g:TG}{ag:AG}(hE:EXs HX OX MX E EA)(ho:zH te ae)(hu:jo ta aa)(hg:vb g ag):ku HX OX MX (JS (wB C m (jr sp) E te ta) g) (EU (wb C m sp EA ae aa) ag):=
 ⟨fun kx _ w e x q D=>wF hE ho hu (kx.trans x) w e q fun y M1 v H1 O1 q1 k1 w1 r1=>hg.go w1 (e.ext k1) r1 q1 fun σ2 H2 O2 ρ2 M2 q2 k2 w2 e2=>D.nx _ _ _ _ _ w2 e2 ((x.trans k1).trans k2) q2⟩
noncomputable def Bh:AV->Option V
 | .d (.int i)=>some (.int i)
 | .d (.str s)=>some (.str s)
 | .d .non=>some .non
 | .d (.bl b)=>some (.bl b)
 | _=>none
theorem Af {H:Hp}{O:Own}{M:MH}{v u:V}{x:AV}(r:zq H O M v x)(h:Bh x=some u):v=u:=by
 cases x with
 | ref a=>cases h
 | tp l=>cases h
 | d d=>
  have r:Rep H O v d:=r
  cases d <;> first | (cases h;first | exact zO r | exact yu r | exact vO r | exact xo r) | cases h
theorem VH {vs us:List V}{xs:List AV}(r:zl H O M vs xs)(h:xs.map Bh=us.map some):vs=us:=by
 have ll:xs.length=us.length:=by simpa using congrArg gg h
 refine fR (r.1.trans ll) fun i h1 h2=>?_
 have hi:i<xs.length:=by rw [<- r.1];exact h1
 have e:Bh xs[i]=some us[i]:=by
  have:=congrArg (fun z:List (Option V)=>z[i]?) h
  simpa [aE,am hi,am h2] using this
 exact Af (r.2 i vs[i] xs[i] (am h1) (am hi)) e
noncomputable def Xy (C:au)(n:Nat)(fn:List V->List (Str × V))(EA:ASt->AXK)(b:AA):AS:=fun _ _ ρ M=>b ρ M fun xs M1=>∃ vs,xs.map Bh=vs.map some/\vs.length=n/\n<=1000/\EA ρ C (fn vs) M1
theorem QV {n:Nat}{fn:List V->List (Str × V)}(hE:EXs HX OX MX E EA)(hu:jo ta aa):ku HX OX MX (XE C n fn E ta) (Xy C n fn EA aa):=
 ⟨fun kx _ w e x q D=>hu.go w e q fun xs M1 vs H1 O1 q1 k1 w1 r1=>by
  obtain ⟨us,h1,h2,h3,h4⟩:=q1
  obtain rfl:=VH r1 h1
  refine ⟨h2,h3,fun dx hd=>?_⟩
  have k2:=jb w1 hd (.xd (fn vs))
  exact hE.go _ _ C (fn vs) M1 _ (yf O1 dx) (some dx) h4 (((kx.trans x).trans k1).trans k2) (xI w1 hd _ (fun _ z=>nomatch z)) (e.ext (k1.trans k2)) (.inr ⟨dx,rfl,zm,.inl rfl,(w1.fresh hd).2⟩)⟩
end
noncomputable def A3:V->Option Dat
 | .int i=>some (.int i)
 | .str s=>some (.str s)
 | .non=>some .non
 | .bl b=>some (.bl b)
 | _=>none
theorem Vm {v:V}{d:Dat}(h:A3 v=some d):Rep H O v d:=by
 cases v <;> first | (cases h;constructor) | cases h
theorem dmA {k:Nat}{a:ASp}(at_:AtM K C m qual st)(S:zu N ps (zg st))
  (hb:∀ (kV doc pm:aj) (an:Option au) (cdv ct:aj) (us:List aj),us.length=ps.length->eJ (bO m qual (qv st) (zM st) (zg st) .none kV doc pm an cdv ct) ⟨us,[]⟩=pure (ps.zip us))
  (len:∀ xs M Q,a xs M Q->xs.length=ps.length)
  (hbody:∀ (f:au) (cdv:aj) (A:aZ) (outer:List Env) (s:aw) (H:Hp) (E:XK),qt k (A.deeper (eZ qual (zg st) s.heap.objs.size f cdv)) ->
   ∃ t,PSs (jM CX0 P w K mg base N qual (zg st) f cdv A outer s H E).nox (zM st) t/\∃ b,jy t b/\∀ xs M Q,a xs M Q->b M { nx:=fun _ M'=>rtA M Q (.d .non) M',rt:=rtA M Q } (zN N xs) M):Dm P w K mg base C m ps (k+1) (cSp a):=by
 refine Iw at_ S hb (fun vs H Q E h=>?_) (fun f cdv A outer s H vs Q E hr h=>?_)
 ·obtain ⟨xs,M,O,Q',w,r,q,_⟩:=h
  rw [r.1];exact len xs M Q' q
 ·obtain ⟨t,ht,b,hb,hq⟩:=hbody f cdv A outer s H E hr
  refine ⟨t,ht,?_⟩
  obtain ⟨xs,M,O,Q',w,r,q,kk⟩:=h
  refine hb.go w w (yJ r N) .refl (hq xs M Q' q) ⟨fun σ H' O' ρ M' w' e' x' q'=>?_,fun v y H' O' M' w' x' r' q'=>?_,fun _ _ _ _ _ _ _ _ z=>z.elim,fun _ _ _ _ _ _ _ _ z=>z.elim⟩
  ·obtain ⟨y',M'',f,q2⟩:=q'
   obtain ⟨O'',w2,k2,r2⟩:=xi w w' x' (show zq H' O' M' .non (.d .non) from .non) f
   exact kk _ _ _ _ _ q2 k2 w2 r2
  ·obtain ⟨y',M'',f,q2⟩:=q'
   obtain ⟨O'',w2,k2,r2⟩:=xi w w' x' r' f
   exact kk _ _ _ _ _ q2 k2 w2 r2
theorem VA {P : aS}{w : bo}{K : ax}{mg : Str -> Option aj}{base : Heap}{C : au}{m qual : Str}{st : cw}{N ps : List Str}{k : Nat}{a : xX}(at_ : AtM K C m qual st)(S : zu N ps (zg st))
    (hb:∀ (kV doc pm:aj) (an:Option au) (cdv ct:aj) (us:List aj),us.length=ps.length->eJ (bO m qual (qv st) (zM st) (zg st) .none kV doc pm an cdv ct) ⟨us,[]⟩=pure (ps.zip us))
    (len:∀ xs M Q E,a xs M Q E->xs.length=ps.length)
    (hbody:∀ (f:au) (cdv:aj) (A:aZ) (outer:List Env) (s:aw) (H:Hp) (HX:Hp) (OX:Own) (MX:MH) (E':AXK),qt k (A.deeper (eZ qual (zg st) s.heap.objs.size f cdv)) ->
      DX (jM (CX1 P w) P w K mg base N qual (zg st) f cdv A outer s H (cE HX OX MX E')) (cE HX OX MX E') ->
      ∃ t,PSs (jM (CX1 P w) P w K mg base N qual (zg st) f cdv A outer s H (cE HX OX MX E')) (zM st) t/\∃ b,ku HX OX MX t b/\∀ xs Q E0,E'=exA MX E0->a xs MX Q E0->b MX { nx:=fun _ M'=>rtA MX Q (.d .non) M',rt:=rtA MX Q } (zN N xs) MX):DmX P w K mg base C m ps (k+1) (jr a):=by
  refine Hj at_ S hb (fun vs H Q E h=>?_) (fun f cdv A outer s H vs Q E hr h=>?_)
  · obtain ⟨xs,M,O,Q',E',w,r,q,_⟩:=h
    rw [r.1];exact len xs M Q' E' q
  · obtain ⟨xs,M,O,Q',E',w0,r,q,kk,ke⟩:=h
    obtain ⟨t,ht,b,hb,hq⟩:=hbody f cdv A outer s H H O M (exA M E') hr ⟨rfl,rfl,rfl,rfl⟩
    refine ⟨t,fun D=>?_,?_⟩
    · have ce : ∀ c d H', cE H O M (exA M E') c d H' -> E c d H' := fun c d H' ⟨C, fs, M', O', e1, ⟨M'', f, q2⟩, k1, w1, xd⟩ => by
        subst e1
        obtain ⟨O'',w2,k2,-,ko⟩:=QH w0 w1 k1 (show zq H' O' M' .non (.d .non) from .non) f
        refine ke C fs M'' H' O'' d q2 k2 w2 ?_
        rcases xd with xd | ⟨dx,e1,h1,h2,h3⟩
        · exact .inl xd
        · exact .inr ⟨dx,e1,h1,(ko dx h2 h3).1,(ko dx h2 h3).2⟩
      refine PSs.wish' (fun e s' z=>?_) ht
      exact ba z (fun _ s'' y=>y.imp ce) fun e' s'' y=>y.imp ce
    · refine hb.go .refl w0 w0 (yJ r N) .refl (hq xs Q' E' rfl q) ⟨fun σ H' O' ρ M' w' e' x' q'=>?_,fun v y H' O' M' w' x' r' q'=>?_,fun _ _ _ _ _ _ _ _ z=>z.elim,fun _ _ _ _ _ _ _ _ z=>z.elim⟩
      · obtain ⟨y',M'',f,q2⟩:=q'
        obtain ⟨O'',w2,k2,r2⟩:=xi w0 w' x' (show zq H' O' M' .non (.d .non) from .non) f
        exact kk _ _ _ _ _ q2 k2 w2 r2
      · obtain ⟨y',M'',f,q2⟩:=q'
        obtain ⟨O'',w2,k2,r2⟩:=xi w0 w' x' r' f
        exact kk _ _ _ _ _ q2 k2 w2 r2
noncomputable def GL (C:au)(sp:ASp)(b:AA):AE:=fun ρ M Q=>b ρ M fun xs M1=>∀ p,M1 p=none->sp (.ref p :: xs) (mup M1 p (.ins C [])) fun v M2=>v=.d .non/\Q (.ref p) M2
theorem DJ {sp:ASp} (h:jo u b):zH (Yq C (cSp sp) [] E0 u) (GL C sp b):=⟨fun w e q k=>h.go w e q fun ys M1 vs H1 O1 q1 k1 w1 r1=>by
 intro x dx hx hd hne
 have k2:=jb w1 hd (.own x)
 have w2:=xI w1 hd (.own x) (fun _ z=>nomatch z)
 have hx2:upd H1 dx (.own x) x=none:=by rw [zk (Ne.symm hne)];exact hx
 have k3:=vU w2 hx2 (.ins C dx []) (.ins C [])
 have w3:Wf (upd (upd H1 dx (.own x)) x (.ins C dx [])) (yf (yf O1 dx) x) (mup M1 x (.ins C [])):=KC w2 hx2 (fun _ z=>nomatch z) (show jf _ _ _ x (.ins C []) from ⟨dx,[],zm,⟨rfl,rfl,fun i a b e1 _=>nomatch e1⟩,.inr (.inl rfl),by rw [zd hne];exact (w1.fresh hd).2,by rw [zk hne,zm]⟩)
 have mx:mup M1 x (.ins C []) x ≠ none:=by rw [ze];exact fun z=>nomatch z
 refine ⟨.ref x :: ys,mup M1 x (.ins C []),_,_,w3,?_,q1 x (w1.fresh hx).2,fun z M4 v4 H4 O4 q4 k4 w4 r4=>?_⟩
 ·rw [bQ];exact Qy ⟨rfl,mx⟩ (r1.ext (k2.trans k3))
 ·obtain ⟨rfl,q5⟩:=q4
  exact ⟨vO r4,k _ _ _ _ _ q5 (((k1.trans k2).trans k3).trans k4) w4 ⟨rfl,k4.mst x mx⟩⟩⟩
noncomputable def G2 (kvs:List (Key × V))(a:AE):AE:=fun ρ M Q=>a ρ M fun x M1=>∃ s d,x=.d (.str s)/\A3 ((xu kvs (bG s)).getD .non)=some d/\Q (.d d) M1
theorem Di {kvs:List (Key × V)} (h:zH t a):zH (Bk kvs t) (G2 kvs a):=⟨fun w e q k=>h.go w e q fun x M1 v H1 O1 q1 k1 w1 r1=>by
 obtain ⟨s,d,rfl,hd,q2⟩:=q1
 exact ⟨bG s,yu r1,k _ _ _ _ _ q2 k1 w1 (show Rep _ _ _ _ from Vm hd)⟩⟩
end L2
namespace PySem
open Sem (wp)
theorem wZ:entryFor table "proto.unchain"=some Builtin.«proto.unchain»:=entryFor_of_fast (by kernel_rfl)
section
variable {prog:aS}{w:bo}{A:aZ}{E:aj->aw->Prop}{s:aw}
theorem V5 {α:Type}{e x:au}{oe ox:Obj}{vs vx:Array aj}{Q:α->aw->Prop}(hh:A.handled=some (.ref x))(hne:x ≠ e)(hx:s.heap.get? x=some ox)(hxd:ox.data=.fields vx)(hx2:vx[2]?=some .none)(he:s.heap.get? e=some oe)(hed:oe.data=.fields vs)(h2:2<vs.size)
  (h:E (.ref e) { s with heap:=s.heap.update e (bC (·.setIfInBounds 2 (.ref x))) }):aO (aN prog w) A (raiseNew (.ref e):Sem α) Q E s:=by
 unfold raiseNew
 refine ap (wpAny_handled ?_)
 rw [hh]
 dsimp only
 rw [if_pos (by simpa using hne)]
 refine ap (cX (wpAny_runValue (codeAny_builtin wZ ?_)))
 unfold Builtin.«proto.unchain»
 dsimp only
 refine ap (bS hx hxd hx2 ?_)
 rw [if_pos (show (aj.none == aj.none)=true from by decide)]
 refine aL ?_
 dsimp only
 refine ap ?_
 obtain ⟨c,d,dt,sl⟩:=oe
 simp only at hed
 subst hed
 unfold updateField
 refine ap (wpAny_load he ?_)
 dsimp only
 rw [if_pos h2]
 exact wpAny_update he (wpAny_throw h)
end
section
variable {prog:aS}{w:bo}{A:aZ}{E:aj->aw->Prop}{env:Env}
variable {nm q:Str}{C N:au}{bs bm bmB:List aj}{hdct:Bool}{sn:List Str}{sub:List aj}{ab:Bool}{col:Option Bool}{dd:Option au}{k0 k1 k2 k3 k5:Option aj}{B Bn newId nid initId inN:String}{bmN:List aj}
variable {s:aw} {Q:Flow->aw->Prop}
theorem Xk {xx:Sem aj}{x:au} (hbase:bm.contains (.type "BaseException")=true)(hh:A.handled=some (.ref x))
  (h:aO (aN prog w) A xx (fun v s₁=>∃ e t dx ox vx,v=.ref e/\x ≠ e/\s₁.heap.get? C=some (d9 nm q C N bs bm hdct sn sub ab col dd k0 k1 k2 k3 k5 newId) /\
   s₁.heap.get? e=some { cls:=.ref C,data:=.fields #[.ref t,.none,.none,.none,.bool false,.none],dict:=dx }/\s₁.heap.get? x=some ox/\ox.data=.fields vx/\vx[2]?=some .none /\
   E (.ref e) { s₁ with heap:=s₁.heap.update e (bC (·.setIfInBounds 2 (.ref x))) }) E s) :
  aO (aN prog w) A (mq env (some xx) none) Q E s:=by
 have hcB:(aj.ref C :: bm).contains (.type "BaseException")=true:=by rw [lA,hbase,Bool.or_true]
 unfold mq
 refine ap (ba h (fun v s₁ h₁=>?_) fun _ _ x=>x)
 obtain ⟨e,t,dx,ox,vx,rfl,hne,hC,he,hx,hxd,hx2,hE⟩:=h₁
 obtain ⟨hp,g,d,tk,os⟩:=s₁
 repeat (first | with_reducible refine dk he ?_ | with_reducible refine dk hC ?_ | (with_reducible refine gq hC ?_;rw [hcB]) | wp_step)
 exact V5 hh hne hx hxd hx2 he rfl (by simp) hE
theorem He (Fn:ei Bn newId inN bmN)(hBn:bmB.contains (.type Bn)=true)(F:ei B nid initId bmB) {mN:Str->Option aj}{cx:Str}{x:au}{np cpos pos:Pos}{args:List Expr} {fI:au}{oI:Obj}
  (hbase:bm.contains (.type "BaseException")=true) (hh:A.handled=some (.ref x)) (hplain:(ca cpos (aQ args env)).any (·.1)=false) (hi:mN "__init__"=some (.ref fI)) (hfc:oI.cls=.type "function")
  (h:aO (aN prog w) A (eval (.Name cx np) env) (fun f s₁=>f=.ref C/\aO (aN prog w) A (evalArgs (.ref C) true (ca cpos (aQ args env)) [])
   (fun a s₂=>a.kw=[]/\a.pos.length<=aM/\s₂.heap.get? C=some (d9 nm q C N bs bm hdct sn sub ab col dd k0 k1 k2 k3 k5 newId)/\s₂.heap.Ns N mN/\mF s₂.heap bmB bm/\s₂.heap.get? fI=some oI /\
    ∀ h' e,gF s₂.heap h' e (.ref C) a.pos->aO (aN prog w) (A.under (.builtin "type.__call__" ⟨.ref C :: a.pos,[]⟩)) (call (.ref fI) (.ref e :: a.pos)) (fun r s'=>r=.none/\x ≠ e /\
     s'.heap.get? C=some (d9 nm q C N bs bm hdct sn sub ab col dd k0 k1 k2 k3 k5 newId)/\(∃ t dx,s'.heap.get? e=some { cls:=.ref C,data:=.fields #[.ref t,.none,.none,.none,.bool false,.none],dict:=dx }) /\
     (∃ ox vx,s'.heap.get? x=some ox/\ox.data=.fields vx/\vx[2]?=some .none)/\E (.ref e) { s' with heap:=s'.heap.update e (bC (·.setIfInBounds 2 (.ref x))) }) E { s₂ with heap:=h' }) E s₁) E s) :
  aO (aN prog w) A (exec (.Raise (some (.Call (.Name cx np) args [] cpos)) none pos) env) Q E s:=by
 rw [arm_exec_Raise]
 refine ap (cY (Xk (C:=C) (nm:=nm) (q:=q) (N:=N) (bs:=bs) (bm:=bm) (hdct:=hdct) (sn:=sn) (sub:=sub) (ab:=ab) (col:=col) (dd:=dd) (k0:=k0) (k1:=k1) (k2:=k2) (k3:=k3) (k5:=k5) (newId:=newId) hbase hh (ap (ba (wpAny_Call_ofName (ba h (fun f s₁ h₁=>?_) fun _ _ x=>x)) (fun v s₃ h₃=>ap (cY (aL h₃))) fun _ _ x=>x))))
 obtain ⟨rfl,h₁⟩:=h₁
 unfold gc
 refine ap (cX (ba h₁ (fun a s₂ h₂=>ap (cY ?_)) fun _ _ x=>x))
 obtain ⟨apos,akw⟩:=a
 obtain ⟨hkw,hlen,hC,hn,T,hf,h₂⟩:=h₂
 obtain rfl:akw=[]:=hkw
 obtain ⟨hp,g,d,tk,os⟩:=s₂
 simp only [hplain]
 refine ap (wpAny_keeperOf_exc hC ?_)
 refine ap (YQ (hrest:=hlen) Fn hBn F T hC hn hi hf hfc fun h' e hm=>ba (h₂ h' e hm) (fun r s' hr=>⟨hr.1,ap (cX (wpAny_point (aL ?_)))⟩) fun _ _ x=>x)
 obtain ⟨_,hne,hC',⟨t,dx,he⟩,⟨ox,vx,hx,hxd,hx2⟩,hE⟩:=hr
 exact ⟨e,t,dx,ox,vx,rfl,hne,hC',he,hx,hxd,hx2,hE⟩
end
end PySem
namespace L2
open PySem PySem.Spec PyProof.Rows
theorem yn {h h' base:Heap}(k:∀ b o,h.get? b=some o->(∀ vs,o.data ≠ .fields vs)->∃ o',h'.get? b=some o'/\∀ vs,o'.data ≠ .fields vs):∀ {l:List Env},h.FunFrames base l->h'.FunFrames base l
 | [],_=>trivial
 | _ :: _,⟨hk,⟨L,o,hf,hn,ho,hd⟩,hr⟩=>let ⟨o',e,d⟩:=k L o ho hd;⟨hk,⟨L,o',hf,hn,e,d⟩,yn k hr⟩
section
variable {M:mz}{A:aZ}{E:aj->aw->Prop}{s:aw}
variable {base:Heap} {cls a0 fl:aj}
theorem Ys {l:List Env}{e L:au} {Q:Unit->aw->Prop}(hkb:base.StaysIn s.heap)(hl:s.heap.FunFrames base l)(ht:s.heap.TracedAtW base e cls a0 fl)
  (h:∀ h',base.StaysIn h'->h'.FunFrames base l->h'.TracedAtW base e cls a0 (fA L)->(∀ b o,s.heap.get? b=some o->(∀ vs,o.data ≠ .fields vs)->h'.get? b=some o)->h'.get? e=s.heap.get? e->Q () { s with heap:=h' }) :
  aO M A (hX (.ref e) (some L)) Q E s:=by
 obtain ⟨oe,vs,T,oT,ts,he,hcls,hd,h1,hnT,hTe,hT,hdT,h3⟩:=ht
 have hsz:3<ts.size:=(gG.mp h3).1
 have other:∀ b,b ≠ T->(s.heap.update T (bC (·.setIfInBounds 3 ((some L:Option au).elim aj.none fun f=>fA f)))).get? b=s.heap.get? b:=fun b hb=>dv _ _ (Ne.symm hb)
 have noR:∀ b o,s.heap.get? b=some o->(∀ vs,o.data ≠ .fields vs)->b ≠ T:=fun b o hb hnf q=>by
  rw [q,hT] at hb;injection hb with hb;subst hb;exact hnf ts hdT
 unfold hX
 refine ap (bS he hd h1 ?_)
 rw [if_pos (show (aj.ref T != aj.none)=true from by simp)]
 refine dH hT hdT hsz (h _ (fun b o hbo=>(other b fun q=>by rw [q,hnT] at hbo;cases hbo).trans (hkb b o hbo)) (hl.of_keeps fun b o hb hnf=>⟨o,(other b (noR b o hb hnf)).trans hb,rfl⟩) ?_ (fun b o hb hnf=>(other b (noR b o hb hnf)).trans hb) (other e (Ne.symm hTe)))
 exact ⟨oe,vs,T,_,_,(other e (Ne.symm hTe)).trans he,hcls,hd,h1,hnT,hTe,bJ _ hT (cD (ci hdT _)),ci hdT _,by simp [hsz]⟩
theorem yF {e:au} {Q:aj->aw->Prop}(ht:s.heap.TracedAtW base e cls a0 fl)(h:∀ T,Q (.ref T) s):aO M A (iS (.ref e) 1) Q E s:=by
 obtain ⟨oe,vs,T,oT,ts,he,hcls,hd,h1,_⟩:=ht
 exact bS he hd h1 (h T)
end
section
variable {X:Cx}{E:XK}{pins:List (au × Obj)}{σ:St}{H:Hp}{s:aw}
theorem Bs (I:Inv X pins σ H s)(hex:X.ex=[]){x:au}{s':aw}(hx0:X.s₀.heap.get? x=none)(hx:H x=none)(ho:s'.os=s.os)(hg:s'.gens=s.gens)(st:(jt X s x).StaysIn s'.heap)
  (us:∀ b o,b ≠ X.env.locals->s.heap.get? b=some o->(∀ vs,o.data ≠ .fields vs)->∃ sl,s'.heap.get? b=some { o with slots:=sl }) (hs:X.stack=X.env :: X.outer):yk X.prog X.w X.outer X.H₀ X.s₀ (jt X s x) H s':=by
 have nx:∀ b,b ∉ X.ex:=fun b=>by rw [hex];simp
 have hid:∀ b o o',X.s₀.heap.get? b=some o->b ∉ frs X.outer->s.heap.get? b=some o'->(jt X s x).get? b=some o':=fun b o o' e hb e1=>eW _ e1 fun z=>by
  rcases aA.mp z with rfl | z
  ·rw [hx0] at e;cases e
  ·exact I.notStk e hb z
 refine ⟨ho.trans I.os,by rw [hg];exact I.bare,st,fun b o e hb=>?_,fun b o e hb=>?_,I.ok.frf,fun b o e n=>I.base.free b o e n (nx b),I.base.tups,I.base.frzs,I.base.tbls,Yt I hx⟩
 ·obtain ⟨o1,e1⟩:=I.base.there b o e (nx b)
  refine ⟨o1,hid b o o1 e hb e1,fun n=>?_⟩
  have:=I.base.keep b o e n hb (nx b)
  rw [e1] at this;cases this;rfl
 ·obtain ⟨sl,e1⟩:=I.base.slot b o e (I.ok.frf b hb) hb (nx b)
  obtain ⟨_,o2,e2,nf⟩:=I.stack.mem (vf hs hb)
  rw [e1] at e2;cases e2
  obtain ⟨sl2,e3⟩:=us b _ (I.ltS e) e1 nf
  exact ⟨sl2,e3⟩
theorem Xf (D:DX X E)(I:Inv X pins σ H s){x x1 C:au}{d:Option au}{oe:Obj}{vs:Array aj}{a0:aj}{h1:Heap}{n:Str}{hpos:Pos}(hl:X.env.kindOf n=some .local)
  (k:∀ b o,b ≠ x1->s.heap.get? b=some o->h1.get? b=some o) (kx:∀ o,s.heap.get? x1=some o->∃ vs,o.data=.fields vs) (he:h1.get? x1=some oe) (hc:oe.cls=.ref C) (hd:oe.dict=d) (hf:oe.data=.fields vs) (hv1:vs[1]?=some .none) (hv0:vs[0]?=some a0)
  (hx0:X.s₀.heap.get? x1=none) (hx:H x1=none) (two:Two d H) (q:E (.ref C) d H) :
  AsSuiteRaised (aN X.prog X.w) (X.A.mark (some (.ref x))) X.env n hpos (notedBy (aN X.prog X.w) (X.A.mark (some (.ref x))) X.env (cameBackBy (aN X.prog X.w) X.A X.env X.xe)) (.ref x1) { s with heap:=h1 }:=by
 have hs:=D.stk
 have hp:(X.env.scope.kind == .class || (X.env.scope.kind == .module && X.env.locals != X.env.globals))=false:=by rw [I.ok.kind];rfl
 have st1:(jt X s x1).StaysIn h1:=fun b o e=>k b o (fun z=>by rw [z,jt,df _ (bD)] at e;cases e) (gw _ e)
 have us1:s.heap.UpToSlots h1:=fun b o e nf=>by
  by_cases c:b=x1
  ·rw [c] at e
   obtain ⟨vs,z⟩:=kx o e
   exact absurd z (nf vs)
  ·exact ⟨o.slots,k b o c e⟩
 have fr0:s.heap.FunFrames (jt X s x1) (X.env :: X.outer):=by
  have:=I.stack
  rw [hs] at this
  exact ir this fun env he b hb=>aX _ (by rw [hs];exact ef.mpr ⟨env,he,hb⟩)
 have fr1:h1.FunFrames (jt X s x1) (X.env :: X.outer):=fr0.of_keeps fun b o e nf=>by
  obtain ⟨sl,z⟩:=us1 b o e nf
  exact ⟨_,z,rfl⟩
 have xn:(jt X s x1).get? x1=none:=df _ bD
 have ln:(jt X s x1).get? X.env.locals=none:=df _ (aX _ (by rw [hs];exact ef.mpr ⟨X.env,bD,D.fr⟩))
 have hfr:(X.A.mark (some (.ref x))).frames=some (X.env :: X.outer):=by rw [<- hs];exact I.ok.frames
 have hfr':X.A.frames=some (X.env :: X.outer):=hfr
 have note1:aO (aN X.prog X.w) (X.A.mark (some (.ref x))) (hJ (.ref x1) X.env) (fun _ s2=>∃ h',s2={ s with heap:=h' }/\Heap.NotedW (jt X s x1) (X.env :: X.outer) x1 oe.cls a0 (fA X.env.locals) h1 h') (fun _ _=>False) { s with heap:=h1 }:=by
  unfold hJ
  simp only [D.fr]
  refine ap (bS he hf hv1 ?_)
  rw [if_neg (by decide)]
  exact wpAny_entryW hfr fr1 D.fr he st1 xn hf (gG.mp hv1).1 hv0 fun h' hN=>⟨h',rfl,hN⟩
 refine ba ((QD (.ref x1) X.env).any note1) (fun _ s2 h2=>?_) fun _ _ z=>z.elim
 obtain ⟨⟨h2,rfl,l1,l2,l3,l4⟩,sd⟩:=h2
 obtain ⟨o2,ho2,hd2,_⟩:=sd x1 oe he
 obtain ⟨m,⟨ol,es,ep,hol,hdl,rl⟩,_⟩:=id I.loc
 have lx:X.env.locals ≠ x1:=fun z=>by
  obtain ⟨vs,q⟩:=kx ol (z ▸ hol)
  rw [hdl] at q;cases q
 obtain ⟨sl,hol2⟩:=l4 _ ol (k _ ol lx hol) (fun vs q=>by rw [hdl] at q;cases q)
 refine wpAny_nameGoes_keeps hl ⟨_,es,ep,hol2,hdl,rl⟩ hp fun h3 v hn3 sb3=>?_
 have k3:∀ b,b ≠ X.env.locals->h3.get? b=h2.get? b:=fun b hb=>sb3.2 b hb
 have st3:(jt X s x1).StaysIn h3:=fun b o e=>(k3 b (fun z=>by rw [z,ln] at e;cases e)).trans (l1 b o e)
 have fr3:h3.FunFrames (jt X s x1) (X.env :: X.outer):=yn (fun b o e nf=>by
  by_cases c:b=X.env.locals
  ·obtain ⟨o',_,_,ho',hd',_⟩:=hn3
   exact ⟨o',c ▸ ho',fun vs q=>by rw [hd'] at q;cases q⟩
  ·exact ⟨o,(k3 b c).trans e,nf⟩) l2
 have tr3:h3.TracedAtW (jt X s x1) x1 oe.cls a0 (fA X.env.locals):=by
  obtain ⟨oe',vs',T,oT,ts,g1,g2,g3,g4,g5,g6,g7,g8,g9⟩:=l3
  have lT:T ≠ X.env.locals:=fun z=>by
   rw [z,hol2] at g7;cases g7
   have g8:ol.data=.fields ts:=g8
   rw [hdl] at g8;cases g8
  exact ⟨oe',vs',T,oT,ts,(k3 _ (Ne.symm lx)).trans g1,g2,g3,g4,g5,g6,(k3 _ lT).trans g7,g8,g9⟩
 have us3:∀ b o,b ≠ X.env.locals->s.heap.get? b=some o->(∀ vs,o.data ≠ .fields vs)->∃ sl,h3.get? b=some { o with slots:=sl }:=fun b o hb e nf=>by
  obtain ⟨sl,e1⟩:=us1 b o e nf
  obtain ⟨sl2,e2⟩:=l4 b _ e1 nf
  exact ⟨sl2,(k3 b hb).trans e2⟩
 have ho3:h3.get? x1=some o2:=(k3 _ (Ne.symm lx)).trans ho2
 have hd3:o2.dict=d:=hd2.trans hd
 clear note1 sd l1 l2 l3 l4 hn3
 unfold PySem.passOn
 refine ap (yF (s:=⟨h3,_,_,_,_⟩) tr3 fun T=>?_)
 rw [if_neg (show ¬ (aj.ref T == aj.none)=true from by simp)]
 rw [D.fr]
 refine ap ?_
 refine Ys (s:=⟨h3,_,_,_,_⟩) st3 fr3 tr3 fun h4 st4 fr4 tr4 us4 e4=>wpAny_throw ?_
 have us4':∀ b o,b ≠ X.env.locals->s.heap.get? b=some o->(∀ vs,o.data ≠ .fields vs)->∃ sl,h4.get? b=some { o with slots:=sl }:=fun b o hb e nf=>by
  obtain ⟨sl,e1⟩:=us3 b o hb e nf
  exact ⟨sl,us4 b _ e1 nf⟩
 have ho4:h4.get? x1=some o2:=e4.trans ho3
 unfold notedBy
 refine iu D.fr tr4 ?_
 unfold cameBackBy
 refine ap (yF (s:=⟨h4,_,_,_,_⟩) tr4 fun T=>?_)
 rw [if_neg (show ¬ (aj.ref T == aj.none)=true from by simp)]
 rw [D.fr]
 refine Ys (s:=⟨h4,_,_,_,_⟩) st4 fr4 tr4 fun h5 st5 fr5 tr5 us5 e5=>?_
 have us5':∀ b o,b ≠ X.env.locals->s.heap.get? b=some o->(∀ vs,o.data ≠ .fields vs)->∃ sl,h5.get? b=some { o with slots:=sl }:=fun b o hb e nf=>by
  obtain ⟨sl,e1⟩:=us4' b o hb e nf
  exact ⟨sl,us5 b _ e1 nf⟩
 have ho5:h5.get? x1=some o2:=e5.trans ho4
 rw [D.xe]
 unfold leaving
 refine ap (iu D.fr tr5 ?_)
 refine ba ((xQ (.ref x1) none).any (wpAny_landsW (s:=⟨h5,_,_,_,_⟩) (E:=fun _ _=>False) (Q:=fun _ s6=>∃ h6,s6=⟨h6,_,_,_,_⟩/\eT (jt X s x1) (X.env :: X.outer) x1 oe.cls a0 h6/\h5.UpToSlots h6) ⟨st5,xn,fr5,tr5⟩ fun h6 f6 u6=>⟨h6,rfl,f6,u6⟩)) (fun _ s6 h6=>?_) fun _ _ z=>z.elim
 obtain ⟨⟨h6,rfl,f6,u6⟩,sd6⟩:=h6
 obtain ⟨o6,ho6,hd6,_⟩:=sd6 x1 o2 ho5
 rw [hc] at f6
 refine ⟨x1,C,d,H,rfl,⟨⟨jt X s x1,a0,Bs I D.ex (s':=⟨h6,_,_,_,_⟩) hx0 hx rfl rfl f6.1 (fun b o hb e nf=>?_) hs,f6.1,xn,f6.2.2.1.2.2,f6.2.2.2⟩,o6,ho6,hd6.trans hd3,.inr two⟩,q⟩
 obtain ⟨sl,e1⟩:=us5' b o hb e nf
 obtain ⟨sl2,e2⟩:=u6 b _ e1 nf
 exact ⟨sl2,e2⟩
end
open PySem.W (Looks InstAt findIn findObj subIn mroIn clsIn takerIn hasDictIn)
structure vi (k:Nat)(A:aZ):Prop where
 gd:A.guards=some []
 dp:A.depth+3 * k+5<fG
 un:A.units+16 * k+200<gf
theorem qt.h {k:Nat}{A:aZ}(r:qt k A)(h:Option aj):vi k (A.mark h):=⟨r.gd,r.dp,r.un⟩
variable {A:aZ}
theorem vi.mono {j k:Nat} (r:vi k A)(h:j<=k):vi j A:=⟨r.gd,by have:=r.dp;omega,by have:=r.un;omega⟩
theorem vi.make {k:Nat} (r:vi (k+1) A)(C:au)(us:List aj)(kw:List (Str × aj)):vi k (A.under (.builtin "type.__call__" ⟨.ref C :: us,kw⟩)):=
 ⟨(vv).trans r.gd,by have:=r.dp;rw [wK];omega,by have:=r.un;rw [wf];omega⟩
def FnH (P:aS)(w:bo)(K:ax)(mg:Str->Option aj)(base:Heap)(k:Nat)(f:au)(fd:cV)(ps:List Str)(sp:Sp):Prop:=
 ∀ (A:aZ) (x:au) (outer:List Env) (s:aw) (H:Hp) (args:Args) (us:List aj) (vs:List V) (Q:VK) (E:XK),A.handled=some (.ref x)->vi k A->QE P w K mg base A outer s H->ib s fd args (ps.zip us)->zF vs us->sp vs H Q E ->
  fk (aN P w) A (.call (.ref f) args) (CR CX0 outer P w H s Q E) s
variable {P:aS} {w:bo} {K:ax} {mg:Str->Option aj} {base:Heap} {f:au} {fd:cV} {ps:List Str}
theorem FnH.mono {j k:Nat} {sp:Sp}(F:FnH P w K mg base j f fd ps sp)(h:j<=k):FnH P w K mg base k f fd ps sp:=
 fun A x outer s H args us vs Q E hh hr=>F A x outer s H args us vs Q E hh (hr.mono h)
theorem LF {P:aS}{w:bo}{K:ax}{mg:Str->Option aj}{base:Heap}{k:Nat}{f:au}{name qual:Str}{params:Arguments}{body:List cw}{scope:Scope}{dV kV doc pm cdv ct oc:aj}{an od:Option au}
  {osl:Array (Option aj)} {N ps:List Str} {sp:Sp} (lk:K.lookup f=some ⟨oc,od,.func (bO name qual params body scope dV kV doc pm an cdv ct),osl⟩) (hcd:eK K cdv qual=true) (S:zu N ps scope)
  (len:∀ vs H Q E,sp vs H Q E->vs.length=ps.length)
  (hbody:∀ (A:aZ) (outer:List Env) (s:aw) (H:Hp) (vs:List V) (Q:VK) (E:XK) (x:au),sp vs H Q E ->
   ∃ t,PSs ((jM CX0 P w K mg base N qual scope f cdv A outer s H E).inside x) body t/\t { nx:=fun _ H'=>Q .non H',rt:=Q } (qJ N vs) H) :
  FnH P w K mg base k f (bO name qual params body scope dV kV doc pm an cdv ct) ps sp:=by
 intro A x outer s H args us vs Q E hh hr e0 hb r hsp
 have hl:=len _ _ _ _ hsp
 obtain ⟨h0,dp,fr,gd,un⟩:=A
 obtain rfl:h0=some (.ref x):=hh
 have KX:K.In s.heap:=e0.mod.kin.keeps fun b o e=>(e0.bs b o e).1
 have lim:s.heap.NoLimit:=e0.mod.nolimit.keeps fun b o e=>(e0.bs b o e).1
 have hkind:∀ y ∈ ps.zip us,scope.names.lookup y.1=some .local \/ (scope.names.lookup y.1=some .cell/\((ma (s.heap.objs.size+1) scope.names []).lookup y.1).isSome=true):=fun ⟨n,v⟩ hy=>by
  rcases S.par n (gi hy).1 with q | q
  ·exact .inl q
  ·exact .inr ⟨q,fH _ _ _ (.inl q)⟩
 have hdp:dp<fG:=by have:dp+3 * k+5<fG:=hr.dp;omega
 refine codeAny_call_function hdp (KX _ _ lk) rfl S.co S.gen rfl (lv KX hcd) (hb _ _ _ _ ?_)
 refine wpAny_newFunctionEnv_cells S.kind hkind fun env he s1 xx=>?_
 subst he
 refine ⟨lim.keeps xx.toInCall.keep,codeAny_func ?_⟩
 obtain ⟨t,ht,hq⟩:=hbody ⟨none,dp,fr,gd,un⟩ outer s H vs Q E x hsp
 have e0':QE P w K mg base ⟨none,dp,fr,gd,un⟩ outer s H:=⟨e0.frames,e0.mod,e0.bs,e0.bsz,e0.funs,e0.frf,e0.hok,e0.bare⟩
 have I:Inv ((jM CX0 P w K mg base N qual scope f cdv ⟨none,dp,fr,gd,un⟩ outer s H E).inside x) [] (qJ N vs) H s1:=(Zu S rfl e0' hl r xx).inside x
 refine ba (ht [] s1 (qJ N vs) H _ I hq) (fun fl s' hs=>?_) fun e s' hs=>hs.elim
 have fin:∀ {σ':St} {H':Hp} {v:V} {u:aj},Inv ((jM CX0 P w K mg base N qual scope f cdv ⟨none,dp,fr,gd,un⟩ outer s H E).inside x) [] σ' H' s'->zA v u->Q v H'->CE outer P w H s Q u s':=
  fun {σ' H' v u} J rv q=>⟨v,H',J.os,J.bare,J.base,J.hok,rv,q⟩
 cases fl with
 | ret u=>
  obtain ⟨v,σ',H',J,rv,q⟩:=hs
  exact fin J rv q
 | next=>
  obtain ⟨σ',H',J,q⟩:=hs
  exact fin (v:=V.non) (u:=aj.none) J rfl q
 | brk=>
  obtain ⟨_,_,_,q⟩:=hs
  exact bM q
 | cont=>
  obtain ⟨_,_,_,q⟩:=hs
  exact bM q
def Qc (P:aS)(w:bo)(K:ax)(mg:Str->Option aj)(base:Heap)(C:au)(k n:Nat)(fn:List V->List (Str × V)):Prop:=
 ∃ f fd ps,jR K C wH "ValueError.__new__" f=true/\FnH P w K mg base k f fd ps (spI C n fn)/\jv K fd ps []/\(∃ oI,K.lookup f=some oI/\oI.cls=.type "function")/\ps.length=n+1
variable {C:au}
theorem Qc.mono {j k n:Nat}{fn:List V->List (Str × V)}(m:Qc P w K mg base C j n fn)(h:j<=k):Qc P w K mg base C k n fn:=
 let ⟨f,fd,ps,q,F,r⟩:=m
 ⟨f,fd,ps,q,F.mono h,r⟩
theorem Fw {qual:Str}{st:cw}{N ps:List Str}{k n:Nat}{fn:List V->List (Str × V)}(F:Fun K "__init__" qual st f fd)(S:zu N ps (zg st))
  (hb:∀ (kV doc pm:aj) (an:Option au) (cdv ct:aj) (us:List aj),us.length=ps.length->eJ (bO "__init__" qual (qv st) (zM st) (zg st) .none kV doc pm an cdv ct) ⟨us,[]⟩=pure (ps.zip us))
  (q:jR K C wH "ValueError.__new__" f=true) (hf:cZ K (.ref f)=true) (hl:ps.length=n+1)
  (hbody:∀ (cdv:aj) (A:aZ) (outer:List Env) (s:aw) (H:Hp) (E:XK) (x:au),∃ t,PSs ((jM CX0 P w K mg base N qual (zg st) f cdv A outer s H E).inside x) (zM st) t /\
   ∀ (a t0:au) (us:List V) (Q:VK),us.length=n->H a=some (kq a C t0 none)->(∀ dx,H dx=none->dx ≠ a->Q .non (upd (upd H a (kq a C t0 (some dx))) dx (XdE dx (fn us))))->t { nx:=fun _ H'=>Q .non H',rt:=Q } (qJ N (.ref a :: us)) H):Qc P w K mg base C k n fn:=by
 have bd:=F.binds hb
 obtain ⟨oc,od,kV,doc,pm,an,cdv,ct,osl,rfl,lk,hcd⟩:=F.ex
 have hfc:∃ oI,K.lookup f=some oI/\oI.cls=.type "function":=by
  refine ⟨_,lk,?_⟩
  have hf':=beq_iff_eq.mp hf
  have hf':Option.map (fun x:Obj=>x.cls) (K.lookup f)=some (.type "function"):=hf'
  rw [lk] at hf'
  exact bP hf'
 refine ⟨f,_,ps,q,LF lk hcd S (fun vs H Q E ⟨a,t,us,e,l,_⟩=>by rw [e,aT,l,hl]) fun A outer s H vs Q E x ⟨a,t0,us,e,l,ha,hq⟩=>?_,bd,hfc,hl⟩
 obtain ⟨t,h1,h2⟩:=hbody cdv A outer s H E x
 subst e
 exact ⟨t,h1,h2 a t0 us Q l ha hq⟩
open PySem.W (Looks InstAt findIn findObj subIn mroIn clsIn takerIn hasDictIn)
noncomputable def Qz (a C:au)(d:Option au):HO:=.ext fun h=>∃ o,h.get? a=some o/\o.cls=.ref C/\o.dict=d/\∃ vs,o.data=.fields vs/\vs[2]?=some .none
theorem F0 {H:Hp}{h:Heap}{a C:au}{d:Option au}{o:Obj}{vs:Array aj}(e:h.get? a=some o)(hc:o.cls=.ref C)(hd:o.dict=d)(hf:o.data=.fields vs)(h2:vs[2]?=some .none):zQ P w H h a (Qz a C d):=
 ⟨⟨o,e,hc,hd,vs,hf,h2⟩,⟨o,e⟩,fun _ _ ⟨o,e,r⟩ k=>⟨o,k o e,r⟩⟩
noncomputable def ehR (K:ax)(i:Nat)(T C2:au)(n:Nat)(fn:List V->List (Str × V))(E:XK)(ta:TA):St->XK:=fun σ1 c d H1=>∃ C,c=.ref C/\eO K (.ref C) (.ref T)=some true/\¬ Two d H1 /\
 ∀ x,H1 x=none->ta (σ1.set i (some (.ref x))) (upd H1 x (Qz x C d)) fun vs H2=>vs.length=n/\n<=1000/\H2 x=some (Qz x C d)/\∀ dx,H2 dx=none->E (.ref C2) (some dx) (upd H2 dx (.xd (fn vs)))
noncomputable def Ag (K:ax)(i:Nat)(T C2:au)(n:Nat)(fn:List V->List (Str × V))(E:XK)(tb:(St->XK)->TS)(ta:TA):TS:=fun D σ H=>tb (ehR K i T C2 n fn E ta) D σ H
section
variable {X:Cx}{E:XK}{body:List cw}{n tx cx:Str}{i k nn:Nat}{T C2:au}{np cp cpos rpos hpos pos:Pos}{tb:(St->XK)->TS}{ta:TA}{e1:Expr}{es:List Expr}{fn:List V->List (Str × V)}
theorem E4 (D:DX X E)(nd:X.N.Nodup)(hi:X.N[i]?=some n)(hl:X.env.kindOf n=some .local)(hg:Gl X tx)(hm:X.mg tx=some (.ref T))(m:Qc X.prog X.w X.K X.mg X.base C2 k nn fn)(hr:qt (k+1) X.A)(hgc:Gl X cx)(hmc:X.mg cx=some (.ref C2))
  (hf2:∀ vs,2<=(fn vs).length) (hb:∀ (pins:List (au × Obj)) (xe:aj->aw->Prop) (Eh:St->XK),yv (CX1 X.prog X.w) (X.tried pins xe) Eh->PSs (X.tried pins xe) body (tb Eh)) (ha:∀ x,PA (X.inside x) (e1 :: es) ta)
  (hdb:(tx == ("__debug__":Str))=false:=by decide) (hdc:(cx == ("__debug__":Str))=false:=by decide) (he:aQ (e1 :: es) X.env=(false,eval e1 X.env) :: aQ es X.env:=by rfl) (hpl:(ca cpos (aQ es X.env)).any (·.1)=false:=by rfl) :
  PS X (.Try body [.ExceptHandler (some (.Name tx np)) (some n) [.Raise (some (.Call (.Name cx cp) (e1 :: es) [] cpos)) none rpos] hpos] [] [] pos) (Ag X.K i T C2 nn fn E tb ta):=by
 intro pins s σ H De I h
 have hs:=D.stk
 have hf:=D.fr
 have hex:=D.ex
 refine wpAny_Try_except (ba (hb pins (fun e s'=>∃ σ1 H1 s1,Inv X pins σ1 H1 s1/\CX1 X.prog X.w X.stack H1 s1 (ehR X.K i T C2 nn fn E ta σ1) e s') (ehR X.K i T C2 nn fn E ta) (fun pins' σ1 H1 s1 e s' I1 c=>⟨σ1,H1,s1,I1.untried,c⟩) [] s σ H De (I.tried _) h) (fun f s1 q=>?_) fun e s1 q=>?_)
 ·have q:=q.untried
  cases f with
  | next=>exact ff q
  | brk=>exact q
  | cont=>exact q
  | ret u=>exact q
 ·obtain ⟨σ1,H1,s1',I1,x,C,d,H',rfl,⟨⟨B,a0,a,fl⟩,hd⟩,C',eC,hx,ntw,q⟩:=q
  cases eC
  refine vt.noted I.ok hs hf ⟨a,fl,hd⟩ fun s3 h3=>?_
  obtain ⟨hx0,I3⟩:=Air.here I1 hs hf hex h3.1 h3.2.1 h3.2.2
  refine wpAny_handleBy_cons (codeAny_handlers_test (j4 (I3.inside x) hg hm ?_ hdb)) (by intro z;cases z)
  obtain ⟨oe,vs,he1,hc,_⟩:=h3.2.1.first
  have LT:eu (aN X.prog X.w) s3.heap (typeOf (.ref x)) (.ref C):=hc ▸ (eu.ld he1).andThen .now
  refine (PySem.W.exm_one I3.kIn LT hx).here ?_
  refine codeAny_handlers_suite_as (h3.lands fun s4 h4=>?_)
  obtain ⟨_,I4⟩:=Air.here I1 hs hf hex h4.1 h4.2.1 h4.2.2
  have I4:Inv X pins σ1 (upd H' x (Qz x C d)) s4:=by
   obtain ⟨o,ho,hdo,h2o⟩:=h4.2.2
   obtain ⟨o',vs',ho',hc',hd',_⟩:=h4.2.1.first
   rw [ho] at ho';cases ho'
   have h2o:fl2 o=some .none:=h2o.resolve_right ntw
   have h2v:vs'[2]?=some .none:=by unfold fl2 at h2o;rw [hd'] at h2o;exact h2o
   have:=I4.write (x:=x) (e:=x) (h':=s4.heap) (t':=s4.toks) (o:=Qz x C d) (by rw [zm];exact True.intro) (.inl rfl) (fun _ _ _ z=>z) ⟨o,ho⟩ (F0 ho hc' hdo hd' h2v)
   rw [xN] at this
   exact this
  refine xt I4 nd hi (bh hl) (show zA (.ref x) (.ref x) from rfl) (fun s5 I5=>?_) (.inr hl)
  obtain ⟨fI,fd,ps,qI,F,hbI,⟨oI,lk,hfc⟩,hps⟩:=m
  obtain ⟨bm,N,nm,qn,bs,hdct,sn,sub,ab,col,dd,k0,k1,k2,k3,k5,mN,hC,hN,hii,TT⟩:=Jt I.ok.mod.kin qI
  refine gW ?_
  refine He (C:=C2) (nm:=nm) (q:=qn) (N:=N) (bs:=bs) (bm:=bm) (hdct:=hdct) (sn:=sn) (sub:=sub) (ab:=ab) (col:=col) (dd:=dd) (k0:=k0) (k1:=k1) (k2:=k2) (k3:=k3) (k5:=k5)
   cm (by decide) cm (mN:=mN) (TT.hasType cm.hasBase) rfl (by rw [he];show (false || (ca cpos (aQ es X.env)).any (·.1))=false;rw [hpl];rfl) hii hfc (j4 (I5.inside x) hgc hmc ⟨rfl,?_⟩ hdc)
  have this:=ha x cpos pins s5 _ _ _ (I5.inside x) (q x hx0)
  have this:aO (aN X.prog X.w) (X.A.mark (some (.ref x))) (spliced (ca cpos (aQ (e1 :: es) X.env))) _ (fun _ _=>False) s5:=this
  rw [he] at this ⊢
  refine eL (ba this (fun us s2 h2=>?_) fun _ _ y=>y.elim)
  obtain ⟨vs2,H2,I6,r,hlv,hnn,hxq,q1⟩:=h2
  have hlu:us.length=nn:=by rw [<- r.length];exact hlv
  refine ⟨rfl,by rw [hlu,cg];omega,I6.bk _ _ hC,hN.keeps I6.bk,TT.keeps I6.bk,I6.kIn _ _ lk,fun h' x1 hx1=>?_⟩
  obtain ⟨t1,ho,_,_⟩:=hx1.there
  have nx:s2.heap.get? x1=none:=hx1.new
  have hx10:X.s₀.heap.get? x1=none:=by
   cases z:X.s₀.heap.get? x1 with
   | none=>rfl
   | some o=>
    obtain ⟨o',e'⟩:=I6.base.there x1 o z (by show x1 ∉ X.ex;rw [D.ex];simp)
    rw [nx] at e';cases e'
  have hx11:H2 x1=none:=by
   cases z:H2 x1 with
   | none=>rfl
   | some o=>
    obtain ⟨u,e'⟩:=(I6.hok x1 o z).here
    rw [nx] at e';cases e'
  have J2:Inv (X.inside x) pins _ H2 { s2 with heap:=h' }:=I6.kept (t':=s2.toks) hx1.keeps
  have J3:Inv (X.inside x) pins _ (upd H2 x1 (kq x1 C2 t1 none)) { s2 with heap:=h' }:=J2.track hx11 hx10 (fun z=>by
    obtain ⟨mm,⟨o,_,_,e',_⟩,_⟩:=I6.loc
    rw [<- z,nx] at e';cases e') (fun y c e' z=>by
    obtain ⟨v,o,e2,_⟩:=I6.cell y c e'
    rw [z,nx] at e2;cases e2) (fun p hp z=>by
    have:=(I6.pin p hp).1
    rw [z,nx] at this;cases this) (ZT ho)
  have r2:zF (V.ref x1 :: vs2) (aj.ref x1 :: us):=.cons rfl r
  have hl2:(aj.ref x1 :: us ++ []).length=ps.length:=by rw [bQ,aT,hlu,hps]
  have b1:=hbI { s2 with heap:=h' } (aj.ref x1 :: us) J3.kIn hl2
  rw [bQ] at b1
  refine gB (eQ (F _ x X.stack _ _ ⟨aj.ref x1 :: us,[]⟩ (aj.ref x1 :: us) (V.ref x1 :: vs2) (fun v H3=>v=.non/\∃ dx,H2 dx=none/\dx ≠ x1/\H3=upd (upd H2 x1 (kq x1 C2 t1 (some dx))) dx (XdE dx (fn vs2))) E rfl ((hr.h _).make C2 us []) (J3.env0.make C2 us []) b1 r2 ⟨x1,t1,vs2,rfl,hlv,zm,fun dx hd hne=>⟨rfl,dx,?_,hne,by rw [xN]⟩⟩) fun r s' hq'=>?_)
  ·rw [zk hne] at hd;exact hd
  cases r with
  | error e=>exact bM hq'
  | ok fl=>
   cases fl with
   | ret u=>
    obtain ⟨v,H3,J4,rv,ev,dx,d1,d2,eH⟩:=J3.after hq'
    subst ev eH
    have hcl:=J4.bk _ _ hC
    have hexo:s'.heap.get? x1=some (YZ C2 t1 (some dx)):=by
     have:=J4.hok x1 (kq x1 C2 t1 (some dx)) (by rw [zk (Ne.symm d2),zm])
     exact this.1
    have xx1:x ≠ x1:=fun z=>by rw [z,hx11] at hxq;cases hxq
    have xdx:x ≠ dx:=fun z=>by rw [z,d1] at hxq;cases hxq
    have hxo:∃ ox vx,s'.heap.get? x=some ox/\ox.data=.fields vx/\vx[2]?=some .none:=by
     obtain ⟨⟨o,g1,_,_,vx,g2,g3⟩,_⟩:=J4.hok x (Qz x C d) (by rw [zk xdx,zk xx1];exact hxq)
     exact ⟨o,vx,g1,g2,g3⟩
    refine ⟨rv,xx1,hcl,⟨t1,some dx,hexo⟩,hxo,?_⟩
    have J5:=J4.drop (x:=x1) (by rw [zk (Ne.symm d2),zm];exact True.intro) hx10
    have eH:(fun b=>if b=x1 then none else upd (upd H2 x1 (kq x1 C2 t1 (some dx))) dx (XdE dx (fn vs2)) b)=upd H2 dx (XdE dx (fn vs2)):=by
     funext b
     by_cases c:b=x1
     ·rw [if_pos c,c,zk (Ne.symm d2)];exact hx11.symm
     ·rw [if_neg c]
      by_cases c2:b=dx
      ·rw [c2,zm,zm]
      ·rw [zk c2,zk c,zk c2]
    rw [eH] at J5
    obtain ⟨⟨mA,hn1,hr1,_⟩,⟨od,hod⟩,_⟩:=J5.hok dx (XdE dx (fn vs2)) zm
    have J6:=J5.write (x:=dx) (e:=dx) (h':=s'.heap) (t':=s'.toks) (o:=.xd (fn vs2)) (by rw [zm];exact True.intro) (.inl rfl) (fun _ _ _ z=>z) ⟨od,hod⟩ ⟨mA,hn1,hr1⟩
    rw [xN] at J6
    have J7:Inv X pins _ (upd H2 dx (.xd (fn vs2))) s':=J6.outside I.ok
    have hup:=bJ (bC (·.setIfInBounds 2 (.ref x))) hexo rfl
    exact Xf D J7 hl (fun b o hb e'=>(dv _ _ (Ne.symm hb)).trans e') (fun o z=>by rw [hexo] at z;cases z;exact ⟨_,rfl⟩) hup rfl rfl rfl rfl rfl hx10 (by rw [zk (Ne.symm d2)];exact hx11) ⟨dx,_,rfl,zm,hf2 _⟩ (q1 dx d1)
   | next=>exact bM hq'
   | brk=>exact bM hq'
   | cont=>exact bM hq'
end
open PySem.W (Looks InstAt findIn findObj subIn mroIn clsIn takerIn hasDictIn)
noncomputable def Xr (K:ax)(ta:TE)(f:Str):TE:=fun σ H Q=>ta σ H fun x H1=>∃ a C dx fs v,x=.ref a/\H1 a=some (Qz a C (some dx))/\H1 dx=some (.xd fs)/\IZ K C/\eA K C=true/\eD K (.ref C) f=some none/\fs.lookup f=some v/\Q v H1
section
variable {X:Cx}{e:Expr}{ta:TE}{f:Str}{pos:Pos}{K:ax}
theorem Ab (he:PE X e ta)(hb:dS e f X.env (eval e X.env)=eval e X.env):PE X (.Attribute e f pos) (Xr X.K ta f):=by
 intro pins s σ H Q I h
 refine YS hb (thn (he pins s σ H _ I h) fun u s1 ⟨x,H1,I1,rx,a,C,dx,fs,v,ex,ea,ed,c,hh,hn,l,q⟩=>?_)
 subst ex
 obtain rfl:u=aj.ref a:=rx
 obtain ⟨⟨oa,g1,g2,g3,vs,g4,_⟩,_,_⟩:=I1.hok a _ ea
 obtain ⟨mA,hns,hr⟩:=I1.hok dx _ ed
 obtain ⟨od,ho,hl⟩:=Zs hns
 have hv:=hr f
 rw [l] at hv
 cases z:mA f with
 | none=>rw [z] at hv;exact hv.elim
 | some u'=>
  rw [z] at hv
  have J:InstAt s1.heap a oa C (some od):=⟨g1,g2,by unfold iW;rw [g4],by rw [g3];exact ho⟩
  refine HH I1.kIn J c.bx c.ga c.gt (JH hh hn (by rw [hl,z])) (Zi hv) ⟨v,H1,I1.tok _,hv,q⟩
theorem Vu (h:X.K=K)(he:PE X e ta)(hb:dS e f X.env (eval e X.env)=eval e X.env):PE X (.Attribute e f pos) (Xr K ta f):=h ▸ Ab he hb
end
noncomputable def G1 (K:ax)(i j:Nat)(T C2:au)(f:Str)(fn:List V->List (Str × V))(EA:ASt->AXK)(ab:(ASt->AXK)->AS):AS:=fun B D ρ M=>
 ab (fun ρ1 C fs M1=>eO K (.ref C) (.ref T)=some true/\∃ (a:Int) (v:V),ρ1[j]?=some (some (.d (.int a)))/\fs=[(f,v)]/\IZ K C/\eA K C=true/\eD K (.ref C) f=some none/\i ≠ j/\i<ρ1.length/\EA ρ1 C2 (fn [.int a,v]) M1) B D ρ M
section
variable {HX:Hp}{OX:Own}{MX:MH}{K:ax}{i j:Nat}{T C2:au}{f:Str}{fn:List V->List (Str × V)}{E:XK}{EA:ASt->AXK}{tb:(St->XK)->TS}{ab:(ASt->AXK)->AS}
theorem Vf (hE:EXs HX OX MX (fun _=>E) EA)(hb:∀ (H0:Hp) (O0:Own) (M0:MH) (E:St->XK) (EA:ASt->AXK),EXs H0 O0 M0 E EA->ku H0 O0 M0 (tb E) (ab EA)) :
  ku HX OX MX (Ag K i T C2 2 fn E tb (Jl (wY j) (Jl (Xr K (wY i) f) VX))) (G1 K i j T C2 f fn EA ab):=
 ⟨fun {H0 O0 M0 D D' σ H O ρ M} kx w0 w e x q Dd=>(hb H0 O0 M0 _ _ ⟨fun σ1 ρ1 C fs M1 H1 O1 d q1 k1 w1 e1 xd=>by
  obtain ⟨hx,a,v,hj,rfl,xc,hh,hn,ij,il,q2⟩:=q1
  obtain ⟨dx,rfl,h1,h2,h3⟩:∃ dx,d=some dx/\H1 dx=some (.xd [(f,v)])/\O1 dx/\M1 dx=none:=by
   rcases xd with ⟨_,z⟩ | xd
   ·cases z
   ·exact xd
  refine ⟨C,rfl,hx,fun ⟨dx',fs',z1,z2,z3⟩=>?_,fun y hy=>?_⟩
  ·cases z1
   rw [h1] at z2;cases z2
   simp at z3
  obtain ⟨u,g1,g2⟩:=e1.get j _ hj
  obtain rfl:=zO g2
  have ydx:dx ≠ y:=fun z=>by rw [z,hy] at h1;cases h1
  refine ⟨.int a,by rw [dg ij];exact g1,?_⟩
  refine ⟨.ref y,by rw [fz (by rw [e1.len];exact il)],y,C,dx,[(f,v)],v,rfl,zm,by rw [zk ydx];exact h1,xc,hh,hn,by simp,?_⟩
  refine ⟨rfl,by decide,zm,fun dx2 hd2=>?_⟩
  have k2:=jb w1 hy (Qz y C (some dx))
  have w2:=xI w1 hy (Qz y C (some dx)) (fun _ z=>nomatch z)
  have k3:=jb w2 hd2 (.xd (fn [.int a,v]))
  have w3:=xI w2 hd2 (.xd (fn [.int a,v])) (fun _ z=>nomatch z)
  exact hE.go _ _ C2 (fn [.int a,v]) M1 _ _ (some dx2) q2 (((kx.trans k1).trans k2).trans k3) w3 (e1.ext (k2.trans k3)) (.inr ⟨dx2,rfl,zm,.inl rfl,(w2.fresh hd2).2⟩)⟩).go .refl w0 w e x q Dd⟩
end
section
variable {X:Cx}{K:ax}{E:XK}{body:List cw}{n tx cx:Str}{i k nn:Nat}{T C2:au}{np cp cpos rpos hpos pos:Pos}{tb:(St->XK)->TS}{ta:TA}{e1:Expr}{es:List Expr}{fn:List V->List (Str × V)}
theorem WV (h:X.K=K)(D:DX X E)(nd:X.N.Nodup)(hi:X.N[i]?=some n)(hl:X.env.kindOf n=some .local)(hg:Gl X tx)(hm:X.mg tx=some (.ref T))(m:Qc X.prog X.w X.K X.mg X.base C2 k nn fn)(hr:qt (k+1) X.A)(hgc:Gl X cx)(hmc:X.mg cx=some (.ref C2))
  (hf2:∀ vs,2<=(fn vs).length) (hb:∀ (pins:List (au × Obj)) (xe:aj->aw->Prop) (Eh:St->XK),yv (CX1 X.prog X.w) (X.tried pins xe) Eh->PSs (X.tried pins xe) body (tb Eh)) (ha:∀ x,PA (X.inside x) (e1 :: es) ta)
  (hdb:(tx == ("__debug__":Str))=false:=by decide) (hdc:(cx == ("__debug__":Str))=false:=by decide) (he:aQ (e1 :: es) X.env=(false,eval e1 X.env) :: aQ es X.env:=by rfl) (hpl:(ca cpos (aQ es X.env)).any (·.1)=false:=by rfl) :
  PS X (.Try body [.ExceptHandler (some (.Name tx np)) (some n) [.Raise (some (.Call (.Name cx cp) (e1 :: es) [] cpos)) none rpos] hpos] [] [] pos) (Ag K i T C2 nn fn E tb ta):=h ▸ E4 D nd hi hl hg hm m hr hgc hmc hf2 hb ha hdb hdc he hpl
end
noncomputable def GQ (b:AA)(n:Nat)(ag:AGs):AS:=fun _ D ρ M=>b ρ M fun xs M1=>xs.length=n/\n<=aM/\ag xs ρ M1 fun ρ2 M3=>D.nx ρ2 M3
theorem D7 {u:TA}{b:AA}{n:Nat}{gs:TGs}{ag:AGs}(h:jo u b)(hg:ZD gs ag):jy (JS (Ar u) (J9 K n gs)) (GQ b n ag):=⟨fun _ w e x q E=>h.go w e q fun xs M1 vs H1 O1 q1 k1 w1 r1=>
 ⟨by rw [r1.1,q1.1];exact q1.2.1,fun p hp=>
  have k2:=qz w1 hp (.tup vs)
  ⟨p,vs,rfl,SqT.of zm,r1.1.trans q1.1,hg.go (xh w1 hp _) (e.ext (k1.trans k2)) (r1.ext k2) q1.2.2 fun σ3 H3 O3 ρ3 M3 q3 k3 w3 e3=>E.nx _ _ _ _ _ w3 e3 (((x.trans k1).trans k2).trans k3) q3⟩⟩⟩
section
variable {X:Cx}
end
structure B2 where
 nx:ASt->MH->Prop
 rt:List AV->MH->Prop
abbrev AST:=MH->B2->ASt->MH->Prop
structure Nm (t:TS)(a:AST):Prop where
 go:∀ {H0:Hp} {O0:Own} {M0:MH} {Q:VK} {D':B2} {σ:St} {H:Hp} {O:Own} {ρ:ASt} {M:MH} {nx:St->Hp->Prop},Wf H0 O0 M0->Wf H O M->Er H O M σ ρ->Ext H0 O0 M0 H O M->a M0 D' ρ M ->
  (∀ ys M' us H' O' p,D'.rt ys M'->Ext H0 O0 M0 H' O' M'->Wf H' O' M'->H' p=some (.tup us)->zl H' O' M' us ys->Q (.ref p) H')->t { nx:=nx,rt:=Q } σ H
end L2
namespace L2
open PySem PyProof.Rows
noncomputable def kn (p:cn):Int:=numOf p.1
def LEr (rk:cn->Int)(p q:cn):Prop:=kn p<kn q \/ (kn p=kn q/\rk p<=rk q)
section
variable {rk:cn->Int}{p q r:cn}
end
def IsI (p:cn):Prop:=∃ n t,p.1=aj.int n t
section
variable {prog:aS}{w:bo}{A:aZ}{E:aj->aw->Prop}{s:aw}
end
noncomputable def byd (left:Bool)(key x:cn):Bool:=if left then decide (kn x<kn key) else !decide (kn key<kn x)
structure Cut (left:Bool)(key:cn)(f:Nat->cn)(n k:Nat):Prop where
 le:k<=n
 lo:∀ i,i<k->byd left key (f i)=true
 hi:∀ i,k<=i->i<n->byd left key (f i)=false
section
variable {prog:aS}{w:bo}{A:aZ}{E:aj->aw->Prop}{s:aw}
end
end L2
namespace L2
open PySem PyProof.Rows
section
variable {rk:cn->Int}
structure MLo (rk:cn->Int)(X Y:List cn)(a b:Nat)(o:List cn):Prop where
 la:a<=X.length
 lb:b<=Y.length
 perm:o.Perm (X.take a ++ Y.take b)
 pw:o.Pairwise (LEr rk)
 lx:∀ x ∈ o,∀ y ∈ X.drop a,LEr rk x y
 ly:∀ x ∈ o,∀ y ∈ Y.drop b,LEr rk x y
structure Np (rk:cn->Int)(X Y:List cn):Prop where
 px:X.Pairwise (LEr rk)
 py:Y.Pairwise (LEr rk)
 bel:∀ x ∈ X,∀ y ∈ Y,rk x<=rk y
 ix:∀ x ∈ X,IsI x
 iy:∀ y ∈ Y,IsI y
variable {X Y o:List cn}{a b:Nat}
end
section
variable {prog:aS}{w:bo}{A:aZ}{E:aj->aw->Prop}{s:aw}{rk:cn->Int}
end
end L2
namespace L2
open PySem PyProof.Rows
section
variable {prog:aS}{w:bo}{A:aZ}{E:aj->aw->Prop}{s:aw}{rk:cn->Int}
end
end L2
namespace L2
open PySem PyProof.Rows
section
variable {rk:cn->Int}{X Y o:List cn}{a b:Nat}
structure MHi (rk:cn->Int)(X Y:List cn)(a b:Nat)(o:List cn):Prop where
 la:a<=X.length
 lb:b<=Y.length
 perm:o.Perm (X.drop a ++ Y.drop b)
 pw:o.Pairwise fun p q=>LEr rk q p
 lx:∀ x ∈ o,∀ y ∈ X.take a,LEr rk y x
 ly:∀ x ∈ o,∀ y ∈ Y.take b,LEr rk y x
end
section
variable {prog:aS}{w:bo}{A:aZ}{E:aj->aw->Prop}{s:aw}{rk:cn->Int}
end
end L2
namespace L2
open PySem PyProof.Rows
noncomputable def gK (xs:Array cn)(i:Nat):cn:=xs[i]?.getD (.none,.none)
structure Sg (xs ys:Array cn)(lo hi:Nat):Prop where
 perm:ys.Perm xs
 out:∀ i,i<lo \/ hi<=i->ys[i]?=xs[i]?
 inn:∀ i,lo<=i->i<hi->∃ j,lo<=j/\j<hi/\ys[i]?=xs[j]?
structure SoB (a₀:Array cn)(st:SortSt):Prop where
 perm:(arrOf st).Perm a₀
 kind:kindOf st=oneType'
 failed:failedOf st=none
section
variable {prog:aS}{w:bo}{A:aZ}{E:aj->aw->Prop}{s:aw}{a₀:Array cn}{rk:cn->Int}
end
end L2
namespace L2
open PySem PyProof.Rows
section
variable {prog:aS}{w:bo}{A:aZ}{E:aj->aw->Prop}{s:aw}{a₀:Array cn}{rk:cn->Int}
def Fal (rk:cn->Int)(xs:Array cn)(lo hi:Nat):Prop:=∀ i j,lo<=i->i<=j->j<hi->LEr rk (gK xs j) (gK xs i)
structure Dsc (rk:cn->Int)(xs:Array cn)(lo T hi:Nat):Prop where
 l:lo<=T
 t:T<hi
 a:Fal rk xs lo T
 b:∀ i,lo<=i->i<T->kn (gK xs (hi - 1))<kn (gK xs i)
 c:∀ i j,T<=i->i<=j->j<hi->kn (gK xs i)=kn (gK xs (hi - 1))/\rk (gK xs i)<=rk (gK xs j)
end
end L2
namespace L2
open PySem PyProof.Rows
section
variable {prog:aS}{w:bo}{A:aZ}{E:aj->aw->Prop}{s:aw}{rk:cn->Int}
end
end L2
namespace L2
open PySem PyProof.Rows
noncomputable def Pnd:Nat->List (Nat × Nat × Nat)->List (List cn)->Prop
 | _,[],[]=>True
 | o,p :: ps,r :: rs=>p.1=o/\p.2.1=r.length/\Pnd (o+r.length) ps rs
 | _,_,_=>False
section
variable {prog:aS}{w:bo}{A:aZ}{E:aj->aw->Prop}{s:aw}{a₀:Array cn}{rk:cn->Int}
structure Rns (rk:cn->Int)(a₀:Array cn)(rs:List (List cn))(qM:List cn)(st:SortSt):Prop where
 b:SoB a₀ st
 e:(arrOf st).toList=rs.flatten ++ qM
 ne:∀ r ∈ rs,0<r.length
 so:∀ r ∈ rs,r.Pairwise (LEr rk)
 bel:rs.Pairwise fun X Y=>∀ x ∈ X,∀ y ∈ Y,rk x<=rk y
 be:∀ x ∈ rs.flatten,∀ y ∈ qM,rk x<=rk y
 pn:Pnd 0 (pendingOf st).toList rs
end
end L2
namespace L2
open PySem PyProof.Rows
section
variable {prog:aS}{w:bo}{A:aZ}{E:aj->aw->Prop}{s:aw}{a₀:Array cn}{rk:cn->Int}
end
end L2
namespace L2
open PySem PyProof.Rows
section
variable {prog:aS}{w:bo}{A:aZ}{E:aj->aw->Prop}{s:aw}{a₀:Array cn}{rk:cn->Int}
end
end L2
namespace L2
open PySem PyProof.Rows
section
variable {prog:aS}{w:bo}{A:aZ}{E:aj->aw->Prop}{s:aw}
end
section
variable {prog:aS}{w:bo}{A:aZ}{E:aj->aw->Prop}{s:aw}
end
section
variable {X:Cx}
end
section
variable {X:Cx}
variable {o e:Expr}{es:List Expr}{to:TE}{t:TA}{name:Str}{apos cpos:Pos}{T1 id1 T2 id2:String}{r1 r2:V->List V->Hp->VK->Prop}{K:ax}
end
section
variable {prog:aS}{w:bo}{A:aZ}{R:lW->aw->Prop}{s:aw}
end
section
variable {C:Cx}{kx vx tg iter:Expr}{ifs:List Expr}{gens:List fY}{scope:Scope}{pos:Pos}{d:Nat}{D:au}{g:TG}{tt:TT}{te:TE}{tr:TR}
end
section
variable {X:Cx}{ts:List Nat}{scope:Scope}{tg iter kx vx:Expr}{ifs:List Expr}{qM:List fY}{wi:TI}{g:TG}{tt:TT}{tr:au->TR}{pos:Pos}
end
section
variable {P:aS}{w:bo}{A:aZ}{E:aj->aw->Prop}{s:aw}{n l1 l2 l3:Nat}{k:Nat}{xs ys zs:Array aj}{x y u a b c:aj}{Q:Option aj->aw->Prop}
end
section
variable {X:Cx}{es:List Expr}{kt:Nat}{tp:Pos}
end
section
variable {X:Cx}{o i:Expr}{pos:Pos}{td ty:TE}
end
section
variable {X:Cx}{es:List Expr}{kt:Nat}{tp gp:Pos}{body:List cw}{pos:Pos}{tb:TS}{g:Str}{a:au}{is:List Nat}
end
noncomputable def VO (v:V):Option AV->Prop
 | none=>True
 | some (.d (.int i))=>v=.int i
 | some _=>False
inductive VOs:List V->List (Option AV)->Prop
 | nil:VOs [] []
 | cons {v:V} {x:Option AV} {vs:List V} {xs:List (Option AV)}:VO v x->VOs vs xs->VOs (v :: vs) (x :: xs)
inductive Ws (b:List V->TS):List (List V)->List (List (Option AV) × AS)->Prop
 | nil:Ws b [] []
 | cons {vs:List V} {vss:List (List V)} {xs:List (Option AV)} {ab:AS} {r:List (List (Option AV) × AS)}:VOs vs xs->jy (b vs) ab->Ws b vss r->Ws b (vs :: vss) ((xs,ab) :: r)
abbrev ATD:=ASt->MH->(ASt->MH->Prop)->Prop
structure Nn (tr:TR)(a:ATD):Prop where
 go:∀ {σ:St} {H:Hp} {O:Own} {ρ:ASt} {M:MH} {N:St->Hp->Prop} {N':ASt->MH->Prop},Wf H O M->Er H O M σ ρ->a ρ M N'->(∀ σ' H' O' ρ' M',N' ρ' M'->Ext H O M H' O' M'->Wf H' O' M'->Er H' O' M' σ' ρ'->N σ' H')->tr σ H N
section
variable {X:Cx}{ts:List Nat}{scope:Scope}{tg iter kx vx:Expr}{ifs:List Expr}{qM:List fY}{wi:TI}{g:TG}{tt:TT}{tr:au->TR}{pos:Pos}
end
section
variable {X:Cx}{es:List Expr}{kt:Nat}{tp gp:Pos}{elt:Expr}{scope:Scope}{pos:Pos}{te:TE}{g:Str}{a:au}{is ts:List Nat}
end
inductive HP:List (List V)->List (List (Option AV))->Prop
 | nil:HP [] []
 | cons {vs:List V} {xs:List (Option AV)} {vss:List (List V)} {xss:List (List (Option AV))}:VOs vs xs->HP vss xss->HP (vs :: vss) (xs :: xss)
section
variable {X:Cx}{e hi st:Expr}{te:TE}{th ts:TO}{p2 pos:Pos}{K:ax}
end
section
variable {prog:aS}{w:bo}{K:Type}[DecidableEq K]{knd:KeyKind prog w K}{A:aZ}{E:aj->aw->Prop}{s:aw}{a b:au}
end
noncomputable def jH (kvs:List (Key × AV))(k:Key):Option AV:=(kvs.find? fun kv=>decide (kv.1=k)).map (·.2)
noncomputable def Q5 (kvs:List (Key × AV))(k:Key)(v:AV):List (Key × AV):=
 if (kvs.any fun kv=>decide (kv.1=k))=true then kvs.map (fun kv=>if kv.1=k then (kv.1,v) else kv) else kvs ++ [(k,v)]
theorem QP {H:Hp}{O:Own}{M:MH}(k:Key):∀ {xs:List (Key × V)} {kvs:List (Key × AV)} {v:AV},xs.map (·.1)=kvs.map (·.1)->zl H O M (xs.map (·.2)) (kvs.map (·.2))->jH kvs k=some v->∃ u,xu xs k=some u/\zq H O M u v
 | [],[],v,_,_,h=>by cases h
 | [],_ :: _,v,e,_,h=>by cases e
 | _ :: _,[],v,e,_,h=>by cases e
 | (a,x) :: xs,(b,y) :: kvs,v,e,r,h=>by
  obtain ⟨e1,e2⟩:=fZ e
  have e1:a=b:=e1
  subst e1
  obtain ⟨r1,r2⟩:=zl.head r
  by_cases c:a=k
  ·have:jH ((a,y) :: kvs) k=some y:=by unfold jH;rw [bV,show decide (a=k)=true from decide_eq_true c];rfl
   rw [this] at h;cases h
   exact ⟨x,yI c,r1⟩
  ·have:jH ((a,y) :: kvs) k=jH kvs k:=by unfold jH;rw [bV,show decide (a=k)=false from decide_eq_false c]
   rw [this] at h
   obtain ⟨u,hu,ru⟩:=QP k (xs:=xs) e2 r2 h
   exact ⟨u,by rw [yl c];exact hu,ru⟩
theorem JZ {α β:Type}(k:Key):∀ {xs:List (Key × α)} {ys:List (Key × β)},xs.map (·.1)=ys.map (·.1)->(xs.any fun kv=>decide (kv.1=k))=(ys.any fun kv=>decide (kv.1=k))
 | [],[],_=>rfl
 | [],_ :: _,e=>by cases e
 | _ :: _,[],e=>by cases e
 | x :: xs,y :: ys,e=>by
  obtain ⟨e1,e2⟩:=fZ e
  have e1:x.1=y.1:=e1
  rw [ez,ez,e1,JZ k e2]
variable {H:Hp} {O:Own} {M:MH}
theorem EL {k:Key}{u:V}{v:AV}{xs:List (Key × V)}{kvs:List (Key × AV)}(h:jh H O M xs kvs)(r:zq H O M u v):jh H O M (kD xs k u) (Q5 kvs k v):=by
  unfold kD Q5
  rw [JZ k h.1]
  split
  · have go : ∀ {xs : List (Key × V)} {kvs : List (Key × AV)}, xs.map (·.1) = kvs.map (·.1) -> zl H O M (xs.map (·.2)) (kvs.map (·.2)) -> jh H O M (xs.map fun kv => if kv.1 = k then (kv.1, u) else kv) (kvs.map fun kv => if kv.1 = k then (kv.1, v) else kv) := by
      intro xs
      induction xs with
      | nil=>intro kvs e q;cases kvs with | nil=>exact ⟨rfl,.nil⟩ | cons _ _=>cases e
      | cons x xs ih=>
        intro kvs e q
        cases kvs with
        | nil=>cases e
        | cons y kvs=>
          obtain ⟨e1,e2⟩:=fZ e
          have e1:x.1=y.1:=e1
          obtain ⟨r1,r2⟩:=zl.head q
          obtain ⟨i1,i2⟩:=ih e2 r2
          by_cases c:y.1=k
          · refine ⟨?_,?_⟩
            · rw [aV,aV,aV,aV,if_pos c,if_pos (e1.trans c)];exact lQ.mpr ⟨e1,i1⟩
            · rw [aV,aV,aV,aV,if_pos c,if_pos (e1.trans c)];exact .cons r i2
          · refine ⟨?_,?_⟩
            · rw [aV,aV,aV,aV,if_neg c,if_neg (fun z=>c (e1.symm.trans z))];exact lQ.mpr ⟨e1,i1⟩
            · rw [aV,aV,aV,aV,if_neg c,if_neg (fun z=>c (e1.symm.trans z))];exact .cons r1 i2
    exact go h.1 h.2
  · exact ⟨by rw [bB,bB,h.1];rfl,by rw [bB,bB];exact h.2.append (.cons r .nil)⟩
variable {p:au}
theorem yU {l l':List (Key × AV)}{xs':List (Key × V)}(w:Wf H O M)(hm:M p=some (.dK l))(r:jh H O M xs' l'):Ext H O M (upd H p (.dK xs')) O (mup M p (.dK l'))/\Wf (upd H p (.dK xs')) O (mup M p (.dK l')):=
 have np:=zW hm
 ⟨j5 w np _ _,Qi w np (fun _ z=>nomatch z) ⟨_,zm,r.ext (j5 w np _ _)⟩⟩
noncomputable def Qk:List (AE × AE)->ASt->MH->(List (AV × AV)->MH->Prop)->Prop
 | [],_,M,Q=>Q [] M
 | (ak,av) :: r,ρ,M,Q=>ak ρ M fun x M1=>av ρ M1 fun y M2=>Qk r ρ M2 fun ps M3=>Q ((x,y) :: ps) M3
inductive wj:List (TE × TE)->List (AE × AE)->Prop
 | nil:wj [] []
 | cons {tk tv:TE} {ak av:AE} {ts:List (TE × TE)} {as:List (AE × AE)}:zH tk ak->zH tv av->wj ts as->wj ((tk,tv) :: ts) ((ak,av) :: as)
def Mf (H:Hp)(O:Own)(M:MH)(vs:List (V × V))(xs:List (AV × AV)):Prop:=zl H O M (vs.map (·.1)) (xs.map (·.1))/\zl H O M (vs.map (·.2)) (xs.map (·.2))
theorem VM {ts:List (TE × TE)}{as:List (AE × AE)}(h:wj ts as):∀ {σ:St} {H:Hp} {O:Own} {ρ:ASt} {M:MH} {Q:List (V × V)->Hp->Prop} {Q':List (AV × AV)->MH->Prop},Wf H O M->Er H O M σ ρ->Qk as ρ M Q' ->
  (∀ xs M' vs H' O',Q' xs M'->Ext H O M H' O' M'->Wf H' O' M'->Mf H' O' M' vs xs->Q vs H')->wQ ts σ H Q:=by
 induction h with
 | nil=>intro σ H O ρ M Q Q' w e q k;exact k [] M [] H O q .refl w ⟨.nil,.nil⟩
 | cons h1 h2 h3 ih=>
  intro σ H O ρ M Q Q' w e q k
  exact h1.go w e q fun x M1 v H1 O1 q1 k1 w1 r1=>h2.go w1 (e.ext k1) q1 fun y M2 u H2 O2 q2 k2 w2 r2=>ih w2 ((e.ext k1).ext k2) q2 fun xs M3 vs H3 O3 q3 k3 w3 r3=>
   k _ _ _ _ _ q3 ((k1.trans k2).trans k3) w3 ⟨.cons ((r1.ext k2).ext k3) r3.1,.cons (r2.ext k3) r3.2⟩
noncomputable def D3 (as:List (AE × AE)):AE:=fun ρ M Q=>∀ D,M D=none->Qk as ρ (mup M D (.dK [])) fun ps M2=>∃ kvs:List (Str × AV),ps=kvs.map (fun kv=>(AV.d (.str kv.1),kv.2))/\kvs.length<=15/\(kvs.map (·.1)).Nodup/\M2 D=some (.dK [])/\Q (.ref D) (mup M2 D (.dK (kvs.map fun kv=>(bG kv.1,kv.2))))
theorem vc:∀ (more acc:List (Key × V)),(more.map (·.1)).Nodup->(∀ k ∈ more.map (·.1),k ∉ acc.map (·.1))->kl acc more=acc ++ more
 | [],acc,_,_=>(bQ _).symm
 | kv :: r,acc,hn,ha=>by
  have hn':=b7.mp hn
  have e:kD acc kv.1 kv.2=acc ++ [kv]:=by
   unfold kD
   rw [if_neg]
   intro z
   obtain ⟨q,h1,h2⟩:=List.any_eq_true.mp z
   exact ha kv.1 bD (br.mpr ⟨q,h1,of_decide_eq_true h2⟩)
  show kl (kD acc kv.1 kv.2) r=_
  rw [e,vc r _ hn'.2 fun k hk z=>?_,lK];rfl
  rw [bB] at z
  rcases cq.mp z with z | z
  ·exact ha k (aX _ hk) z
  ·have:k=kv.1:=by simpa using z
   exact hn'.1 (by subst this;exact hk)
theorem JW {H:Hp}{O:Own}{M:MH}:∀ {vs:List (V × V)} {kvs:List (Str × AV)},zl H O M (vs.map (·.1)) ((kvs.map fun kv=>(AV.d (.str kv.1),kv.2)).map (·.1))->vs.length=kvs.length->∃ xs:List (Key × V),vs=xs.map (fun kv=>(kV kv.1,kv.2))/\xs.map (·.1)=kvs.map (fun kv=>(bG kv.1:Key))
 | [],[],_,_=>⟨[],rfl,rfl⟩
 | [],_ :: _,_,e=>by cases e
 | _ :: _,[],_,e=>by cases e
 | (a,b) :: vs,(x,y) :: kvs,r,e=>by
  obtain ⟨r1,r2⟩:=zl.head r
  obtain ⟨xs,h1,h2⟩:=JW (vs:=vs) (kvs:=kvs) r2 (Nat.succ.inj e)
  have:a=V.str x:=yu r1
  subst this
  exact ⟨(bG x,b) :: xs,by rw [h1];rfl,by rw [aV,h2];rfl⟩
theorem VE {ts:List (TE × TE)}{as:List (AE × AE)}(h:wj ts as):zH (A8 ts) (D3 as):=⟨fun {σ H O ρ M Q Q'} w e q k p hp=>by
 have kx:=vU w hp (.dK []) (.dK [])
 have wx:Wf (upd H p (.dK [])) (yf O p) (mup M p (.dK [])):=KC w hp (fun _ z=>nomatch z) ⟨[],zm,rfl,.nil⟩
 refine VM h wx (e.ext kx) (q p (w.fresh hp).2) fun ps M2 vs H2 O2 q2 k2 w2 r2=>?_
 obtain ⟨kvs,rfl,hl,hn,hm,q3⟩:=q2
 have hlen:vs.length=kvs.length:=by
  have:=r2.2.1
  simpa using this
 obtain ⟨xs,rfl,hk⟩:=JW r2.1 hlen
 obtain ⟨ys,hy,kr⟩:=w2.mo p _ hm
 have h0:ys=[]:=by
  have:=congrArg gg kr.1
  exact List.eq_nil_of_length_eq_zero (by simpa using this)
 subst h0
 have hnd:(xs.map (·.1)).Nodup:=by
  rw [hk,show kvs.map (fun kv=>(bG kv.1:Key))=(kvs.map (·.1)).map bG by rw [aY];rfl]
  exact lf.map bG (fun a b h z=>h (bG.inj z)) hn
 have rr:jh H2 O2 M2 xs (kvs.map fun kv=>((bG kv.1:Key),kv.2)):=by
  refine ⟨by rw [hk,aY];rfl,?_⟩
  have:=r2.2
  rw [aY,aY] at this
  rw [aY]
  exact this
 obtain ⟨k4,w4⟩:=yU w2 hm rr
 refine ⟨hy,xs,rfl,by rw [<- aq (f:=fun kv:Key × V=>(kV kv.1,kv.2)),hlen];exact hl,?_⟩
 rw [vc xs [] hnd fun _ _ z=>by cases z]
 refine k _ _ _ _ _ q3 ((kx.trans k2).trans k4) w4 ⟨rfl,?_⟩
 rw [ze];exact fun z=>nomatch z⟩
noncomputable def Ds (ad ai:AE):AE:=fun ρ M Q=>ad ρ M fun x M1=>ai ρ M1 fun y M2=>∃ (p:au) (kvs:List (Key × AV)) (s:Str) (v:AV),x=.ref p/\M2 p=some (.dK kvs)/\y=.d (.str s)/\jH kvs (.inr s)=some v/\Q v M2
theorem VU {td ty:TE}{ad ai:AE}(h1:zH td ad)(h2:zH ty ai):zH (WA td ty) (Ds ad ai):=
 ⟨fun w e q k=>h1.go w e q fun x M1 v H1 O1 q1 k1 w1 r1=>h2.go w1 (e.ext k1) q1 fun y M2 u H2 O2 q2 k2 w2 r2=>by
  obtain ⟨p,kvs,s,v,rfl,hm,rfl,hv,q⟩:=q2
  cases r1.1
  cases (show u=V.str s from yu r2)
  obtain ⟨xs,hx,kr⟩:=w2.mo p _ hm
  obtain ⟨u,hu,ru⟩:=QP (.inr s) kr.1 kr.2 hv
  exact ⟨p,u,rfl,by have:=VR.k (k:=bG s) hx;rw [hu] at this;exact this,k _ _ _ _ _ q (k1.trans k2) w2 ru⟩⟩
noncomputable def G9 (t:TE):TE:=t
variable {X:Cx} {e:Expr} {t:TE}
theorem E5 (h:PE X e t):PE X e (G9 t):=h
noncomputable def Gw (b:AA):AE:=fun ρ M Q=>b ρ M fun xs M1=>xs.length<=aM/\∃ l,xs=l.map tiA/\Q (.tp l) M1
variable {u:TA} {b:AA}
theorem DW (h:jo u b):zH (G9 (Ar u)) (Gw b):=
 ⟨fun w e q k=>h.go w e q fun x M1 v H1 O1 q1 k1 w1 r1=>⟨by rw [r1.1];exact q1.1,fun p hp=>by
  obtain ⟨_,l,e1,q2⟩:=q1
  subst e1
  have r2:=r1.ext (qz w1 hp (.tup v))
  refine k _ _ _ _ _ q2 (k1.trans (qz w1 hp _)) (xh w1 hp _) ⟨p,v,rfl,(w1.fresh hp).1,zm,by have:=r2.1;rw [aq] at this;exact this,fun i x d e1 e2=>?_⟩
  have:=r2.2 i x (tiA d) e1 (by rw [aE,e2];rfl)
  cases d <;> exact this⟩⟩
theorem IV {M0 M:MH}(f:Fr M0 M) {l:List AV}{ds:List Dat}(h0:M0 p=none)(h:M p=some (.lst l))(hp:pur l=some ds){m:List (Dat ⊕ au)}(hm:∀ r,bG r ∈ m->r=p):yd M0 M (.tp m) (.tp m) (mup M0 p (.lst l)):=by
 obtain ⟨h1,h2,h3⟩:=Yp f h0 h hp
 exact ⟨h1,h2,.inl ⟨rfl,fun q z=>by rw [hm q z,ze];exact fun z=>nomatch z⟩⟩
inductive JN (M:MH):AV->Dat->Prop
 | d {x:Dat}:JN M (.d x) x
 | lst {p:au} {l:List AV} {ds:List Dat}:M p=some (.lst l)->l.length=ds.length->(∀ (i:Nat) a b,l[i]?=some a->ds[i]?=some b->JN M a b)->JN M (.ref p) (.lst ds)
 | tp {l:List (Dat ⊕ au)} {ds:List Dat}:l.length=ds.length->(∀ (i:Nat) a b,l[i]?=some a->ds[i]?=some b->JN M (tiA a) b)->JN M (.tp l) (.tup ds)
open AutoSeq1 (wpAny_loadPart')
section
variable {prog:aS}{w:bo}{A:aZ}{E:aj->aw->Prop}{s:aw}
end
section
variable {X:Cx}
end
noncomputable def Gv:V->List V->Hp->VK->Prop:=fun x vs H Q=>∃ d o kvs more,x=.ref d/\vs=[.ref o]/\d ≠ o/\H d=some (.dK kvs)/\H o=some (.dK more)/\kvs.length+more.length<=1000/\Q .non (upd H d (.dK (kl kvs more)))
noncomputable def GS:V->V->V->Hp->(Hp->Prop)->Prop:=fun o i v H Q=>∃ a H',o=.ref a/\Ax H a i v H'/\Q H'
section
variable {X:Cx}
theorem FR:MtR X "dict.update" Gv:=by
 intro pins s σ H x vs v us Q I rx rv h
 obtain ⟨d,o,kvs,more,rfl,rfl,hne,hd,ho,hl,q⟩:=h
 cases rx
 obtain ⟨u,rfl,ru⟩:=rv.one
 cases ru
 obtain ⟨z1,hs1,vs1,r1,dd1⟩:=YC I.hok hd
 obtain ⟨z2,hs2,vs2,r2,dd2⟩:=YC I.hok ho
 have hz:vs1.length+vs2.length<=aM:=by rw [<- r1.length,<- r2.length,cg];omega
 refine call_meetsIn F.slot_dict_update dd1.typeIs F.entry_dict_update (F.args_dict_update_2 _ _) (meets_dict_update (qk X.prog X.w) d o hne hs2) ⟨vs1,vs2,dd1,dd2,hz,fun h' dd' _ hs=>?_⟩
 refine ⟨.non,_,?_,rfl,q⟩
 have hm:=ki more kvs
 have hq:(kl kvs more).length<=aM:=by rw [cg];omega
 have he:∃ q,h'.get? d=some q:=let ⟨q,_,_,hq,_⟩:=dd';⟨q,hq⟩
 exact vK (t':=s.toks) I (by rw [hd];exact True.intro) hs he (J8 hq hs1 (r2.merge r1) dd')
theorem Jj (hu:X.A.units+1<gf):W6 X GS:=by
 intro pins s σ H o i v ov iv u Q I ro ri rv ⟨a,H',e,g,q⟩
 subst e
 obtain rfl:ov=aj.ref a:=ro
 exact Vy hu I g ri rv fun s4 I4=>⟨H',I4,q⟩
end
noncomputable def G3:AV->List AV->MH->AK->Prop:=fun x xs M Q=>∃ d o kvs more,x=.ref d/\xs=[.ref o]/\d ≠ o/\M d=some (.dK kvs)/\M o=some (.dK more)/\kvs.length+more.length<=1000/\(more.map (·.1)).Nodup/\(∀ k ∈ more.map (·.1),k ∉ kvs.map (·.1))/\Q (.d .non) (mup M d (.dK (kvs ++ more)))
theorem Bq:Aw Gv G3:=⟨fun {x dx vs xs H O M Q Q'} w r1 r2 ⟨d,o,kvs,more,e1,e2,hne,hd,ho,hl,hn,ha,q⟩ k=>by
 subst e1 e2
 obtain ⟨v,rfl,rv⟩:=j3 r2
 obtain ⟨xs,hx,kr⟩:=w.mo d _ hd
 obtain ⟨ys,hy,kr2⟩:=w.mo o _ ho
 have l1:xs.length=kvs.length:=by
  have:=congrArg gg kr.1
  simpa using this
 have l2:ys.length=more.length:=by
  have:=congrArg gg kr2.1
  simpa using this
 have hm:kl xs ys=xs ++ ys:=vc ys xs (by rw [kr2.1];exact hn) (by rw [kr2.1,kr.1];exact ha)
 have rr:jh H O M (xs ++ ys) (kvs ++ more):=⟨by rw [bB,bB,kr.1,kr2.1],by rw [bB,bB];exact kr.2.append kr2.2⟩
 obtain ⟨k1,w1⟩:=yU w hd rr
 exact ⟨d,o,xs,ys,r1.1,by rw [rv.1],hne,hx,hy,by omega,by rw [hm];exact k _ _ _ _ _ q k1 w1 .non⟩⟩
noncomputable def LP (r:AV->List AV->MH->AK->Prop)(a:AE)(b:AA):AE:=fun ρ M Q=>a ρ M fun x M1=>(∃ p kvs,x=.ref p/\M1 p=some (.dK kvs))/\b ρ M1 fun xs M2=>r x xs M2 Q
variable {K:ax}
theorem Gs {r:V->List V->Hp->VK->Prop}{ra:AV->List AV->MH->AK->Prop} {a:AE} (hr:Aw r ra)(h1:zH t a)(h2:jo u b):zH (tBM K "dict" r t u) (LP ra a b):=
 ⟨fun w e q k=>h1.go w e q fun x M1 v H1 O1 ⟨⟨p,kvs,hp,hm⟩,q1⟩ k1 w1 r1=>⟨by
  subst hp
  obtain ⟨xs,hx,_⟩:=w1.mo p _ hm
  rw [r1.1]
  exact .inr (.inr (.inl ⟨rfl,.inl ⟨xs,hx⟩⟩)),h2.go w1 (e.ext k1) q1 fun y M2 u H2 O2 q2 k2 w2 r2=>hr.go w2 (r1.ext k2) r2 q2 fun z M3 v3 H3 O3 q3 k3 w3 r3=>k z M3 v3 H3 O3 q3 ((k1.trans k2).trans k3) w3 r3⟩⟩
noncomputable def asD:AV->AV->AV->MH->(MH->Prop)->Prop:=fun o i v M Q=>∃ p kvs s,o=.ref p/\i=.d (.str s)/\M p=some (.dK kvs)/\kvs.length<1000000/\Q (mup M p (.dK (Q5 kvs (.inr s) v)))
theorem Eb:QI GS asD:=⟨fun w ro ri rv q k=>by
 obtain ⟨p,kvs,s,rfl,rfl,hm,hl,q⟩:=q
 obtain ⟨xs,hx,kr⟩:=w.mo p _ hm
 have hxl:xs.length=kvs.length:=by
  have:=congrArg gg kr.1
  simpa using this
 obtain ⟨k4,w4⟩:=yU w hm (EL (k:=bG s) kr rv)
 refine ⟨p,_,ro.1,?_,k _ _ _ q k4 w4⟩
 rw [show _=V.str s from yu ri]
 exact Ax.k (k:=bG s) hx (by rw [hxl];exact bn hl (by decide))⟩
noncomputable def Dy (K:ax)(t:TA):TI:=yr K t
theorem BX {tg e:Expr}{t:TA} (h:PI X tg e (yr K t)):PI X tg e (Dy K t):=h
noncomputable def GE (K:ax)(n:Nat)(u:TGs):TG:=J9 K n u
variable {n:Nat}
theorem Gc {u:TGs}(h:PG X e (J9 K n u)):PG X e (GE K n u):=h
noncomputable def ZF (ps:List au):List AV:=(bW ps.length).map fun (i:Nat)=>.tp [.inl (.int (i:Int)),.inr (ps.getD i 0)]
theorem Zw (ps:List au):(ZF ps).length=ps.length:=by simp [ZF]
theorem ZC {ps:List au}{i:Nat}{y:AV}(h:(ZF ps)[i]?=some y):∃ a,ps[i]?=some a/\y=.tp [.inl (.int (i:Int)),.inr a]:=by
 have hi:=(aD.mp h).1
 rw [Zw] at hi
 unfold ZF at h
 rw [aE,fb hi] at h
 cases h
 exact ⟨ps[i],am hi,by dsimp only;rw [ay,am hi];rfl⟩
theorem Kb {K:ax}{H:Hp}{O:Own}{M:MH}{a:au}{x:AV}{ps:List au}(r:zq H O M (.ref a) x):ym (Ite K a) H O M (ZF ps) (fun M'=>qo x M'=some (ps.map .ref)):=by
 intro H' O' M' fix mst w' hG i
 obtain ⟨a',xs,e,h1,r1⟩:=qx w' (r.imp fix mst) hG
 cases e
 have l1:=r1.1
 rw [aq] at l1
 refine ⟨fun e=>⟨xs,SqL.of h1,by rw [Zw] at e;omega⟩,fun y hy=>?_⟩
 obtain ⟨d,hd,rfl⟩:=ZC hy
 obtain ⟨v,hv,rv⟩:=r1.get (i:=i) (d:=.ref d) (by rw [aE,hd];rfl)
 refine ⟨⟨xs,v,SqL.of h1,hv⟩,fun z H'' hz=>?_⟩
 obtain ⟨p,x',hp,rfl,e2,rfl⟩:=hz
 have:=e2 xs (SqL.of h1)
 rw [hv] at this;cases this
 have rv':=rv.ext (qz w' hp (.tup [.int i,v]))
 refine ⟨qz w' hp _,xh w' hp _,p,_,rfl,(w'.fresh hp).1,zm,rfl,fun j z f h1 h2=>?_⟩
 match j,h1,h2 with
 | 0,h1,h2=>cases h1;cases h2;exact Rep.int
 | 1,h1,h2=>cases h1;cases h2;exact rv'
 | (j+2),h1,_=>cases h1
noncomputable def Mh (a:AA):AI:=fun ρ M R=>a ρ M fun xs M1=>∃ x ps,xs=[x]/\qo x M1=some (ps.map .ref)/\R (ZF ps) (fun M'=>qo x M'=some (ps.map .ref)) M1
theorem Fo {t:TA}{a:AA}(h:jo t a):ZZ (Dy K t) (Mh a):=⟨fun w e q k=>h.go w e q fun xs M1 v H1 O1 ⟨x,ps,e1,hl,q1⟩ k1 w1 r1=>by
 subst e1
 obtain ⟨v1,r',rfl,a1,r2⟩:=r1.cons_inv
 rw [r2.nil_inv]
 obtain ⟨a,xs,rfl,h1,_⟩:=qx w1 a1 hl
 exact ⟨a,rfl,.inl ⟨⟨xs,SqL.of h1⟩,k _ _ _ _ _ _ q1 k1 w1 (Kb a1)⟩⟩⟩
noncomputable def W7 (n:Nat)(b:AGs):AG:=fun x ρ M Q=>∃ l,x=.tp l/\l.length=n/\b (l.map tiA) ρ M Q
theorem V0 {u:TGs}{b:AGs}(h:ZD u b):vb (GE K n u) (W7 n b):=⟨fun {v x σ H O ρ M Q Q'} w e r q k=>by
 obtain ⟨l,e1,ln,q⟩:=q
 subst e1
 obtain ⟨a,xs,rfl,h1,rx⟩:=jk (l:=l.map tiA) r rfl
 exact ⟨a,xs,rfl,SqT.of h1,by rw [rx.1,aq];exact ln,h.go w e rx q k⟩⟩
end L2
namespace Ot
open PySem PySem.Spec PyProof.Rows L2
noncomputable def top (i:Nat):cw:=PySem.Challenge.pw_ownturn_k13_whole_rooms_apart.main.body.getD i (.Pass ⟨0,0,0,0⟩)
section
variable {P:aS}{w:bo}{K:ax}{mg:Str->Option aj}{base:Heap}{k:Nat}
local macro_rules | `(tactic| walk_at "rd")=>do
 let t:=("Ah Aa Ey Yk tOp tUn rU wY tC tB FU IS XO rI0 rI JS QY Lu Xz DA J9 AC IG Ls tCB Jl VX GW YG GO K3 Ed EQ rEq Ld Ar tBM vL XJ V8 KB KS WA Zz Yq Hh F5 Bk BS ipI A8 wQ YU YW tIf tOr Im IJ DG IB Z3 WU cxK WC iLT GR yr tSl WO Qv Mg List.append_nil List.getElem?_cons_zero List.getElem?_cons_succ Option.some.injEq exists_eq_left' exists_eq_left V.int.injEq V.ref.injEq V.bl.injEq List.cons.injEq and_true true_and and_assoc decide_eq_true_eq Bool.not_eq_true' decide_eq_false_iff_not Bool.false_eq_true if_false if_true reduceIte exists_and_left exists_and_right List.set_cons_zero List.set_cons_succ List.nil_append List.cons_append".splitOn " ").toArray.map fun s=>(iw s.toName:Lean.Ident)
 `(tactic| try simp only [$[$t:ident],*])
variable {H:Hp} {a b:au}
theorem xH {o:HO}(h':H b=none)(h:H a=some o):a ≠ b:=zo h h'
variable {H':Hp}
theorem Jo {l:au}(h:H' l=none)(e:Kp [] H H'):H l=none:=e.free h
theorem Xv {xs:List V}(h:SqL K H a xs)(e:Kp [] H H'):SqL K H' a xs:=by
 rcases h with (h | ⟨o,h⟩) | h
 ·exact .inl (.inl (e _ _ (by simp) h))
 ·exact .inl (.inr ⟨o,e _ _ (by simp) h⟩)
 ·exact .inr h
theorem hsl:100000<aM:=by rw [cg];decide
theorem Az {α:Type}(k:Nat)(v:α):(aF k [v]).flatten=aF k v:=by simp
variable {j:Int}
theorem kY (i:Int) (h:0<j):0<=i % j/\i % j<j:=⟨Int.emod_nonneg _ (by omega),Int.emod_lt_of_pos _ h⟩
variable {i:Int}
theorem Lb (h1:0<=i)(h2:i<18446744073709551616):Ao i j:=.inl ⟨by omega,by omega⟩
theorem WL (h1:0<=j)(h2:j<18446744073709551616):Ao i j:=.inr ⟨by omega,by omega⟩
theorem b01 (c:Prop)[Decidable c]:0<=(if c then (1:Int) else 0):=by split <;> decide
theorem Gp (h1:0<j)(h2:j<1073741824):HY i j:=⟨h1,h2⟩
local macro_rules | `(tactic| walk_at "ne")=>`(tactic| first | (with_reducible assumption) | exact Ne.symm (by with_reducible assumption) | exact xH (by with_reducible assumption) (by walk_at "hp") | exact Ne.symm (xH (by with_reducible assumption) (by walk_at "hp")))
local macro_rules | `(tactic| walk_at "hp")=>`(tactic| first | (with_reducible assumption) | (with_reducible exact zm) | ((with_reducible refine Eq.trans (zk ?ne) ?_);(case ne=>walk_at "ne");walk_at "hp"))
local macro_rules | `(tactic| walk_at "kp")=>`(tactic| first | (with_reducible assumption) | (with_reducible exact Kp.refl) | ((with_reducible refine Kp.trans ?_ (Kp.new _ ?h));(case h=>with_reducible assumption);walk_at "kp") | ((with_reducible refine Kp.trans ?_ (Kp.set _ ?h));(case h=>(simp;done));walk_at "kp"))
local macro_rules | `(tactic| walk_at "fr")=>`(tactic| first | (with_reducible assumption) | exact Jo (by with_reducible assumption) (by walk_at "kp"))
local macro_rules | `(tactic| walk_at "sz")=>`(tactic| (simp only [aT,fj,aq,bE,cC,b8,dE,je,Az,Nat.zero_add,Nat.one_mul];omega))
local macro_rules | `(tactic| walk_at "fact")=>`(tactic| first | (with_reducible assumption) | exact rfl | exact SqL.of (by walk_at "hp") | exact SqT.of (by walk_at "hp") | exact bh (SqL.of (by walk_at "hp")) | exact bj (SqT.of (by walk_at "hp")) | exact bh (by with_reducible assumption) | exact Xv (by with_reducible assumption) (by walk_at "kp") | exact bh (Xv (by with_reducible assumption) (by walk_at "kp")) | exact Exists.intro _ (SqL.of (by walk_at "hp")) | exact Exists.intro _ (Xv (by with_reducible assumption) (by walk_at "kp")) | (walk_at "hp") | decide | omega | exact Lb (by omega) (by omega) | exact WL (by omega) (by omega) | exact Gp (by omega) (by omega) | exact ⟨by omega,by omega⟩ | (walk_at "sz") | exact ⟨by decide,by decide,by decide⟩ | exact WL (b01 _) (b01' _) | (walk_at "fr"))
local macro_rules | `(tactic| walk_at "x1")=>`(tactic| first
 | ((with_reducible refine Exists.intro ?w (And.intro ?h ?_));(case h=>walk_at "fact"))
 | ((with_reducible refine And.intro ?h ?_);(case h=>walk_at "fact"))
 | ((with_reducible refine Exists.intro ?w (Exists.intro ?w2 (And.intro ?h ?_)));(case h=>walk_at "fact")))
local macro_rules | `(tactic| walk_at "xs")=>`(tactic| repeat walk_at "x1")
local macro_rules | `(tactic| walk_at "sim1")=>do
 let a←("A9 DO BR Wc QV Kx V6 VB Wo Fv Ap DJ Di FK X4 Kn".splitOn " ").toArray.mapM fun s=>`(gl| apply $(iw s.toName))
 let b←("Dc FS La Hq Hc HU IX Ez DI Ve Du EG WS FW Lz E2 WJ W1 Ej FA Em Al LH IQ Ga Aj Gn Hz BA Y0 FV DR Ew B3 Kf Y7 Q1 JL Zf Zv DW Eb Fo V0 Bq Gs VE wj.cons wj.nil VU D7 Ef Gh Gj Gm Wg EW Gk W2 A5 YV AH WT Ml Gb HN FE Hg EC IR FN Dt Ft HF VL BH B4 EM Ik HJ JI BG Qm Qj Vd EV Ay WE BI HA Y2 Vz Iu yA".splitOn " ").toArray.mapM fun s=>`(gl| apply $(iw s.toName))
 `(tactic| first | ((with_reducible apply Vf X4);intro HX_ OX_ MX_ E_ EA_ hE_) | (with_reducible first $[| $a]*) | ((with_reducible apply sim_try);intro HX_ OX_ MX_ E_ EA_ hE_) | ((with_reducible apply AR);intro HX_ OX_ MX_ E_ EA_ hE_) | (with_reducible assumption) | (with_reducible first $[| $b]*))
local macro_rules | `(tactic| walk_at "sim")=>`(tactic| repeat' walk_at "sim1")
local macro_rules | `(tactic| walk_at "ra")=>do
 let t:=("LP G3 asD Mh W7 Gw D3 Qk Ds GQ G1 L8 DP GG wb Xy GL G2 jF QA G7 qp aC aOp aUn jz zT aCB QQ aFz aOw Lr Dz aB vj Gf aOr QS WB aIf Xs kK yN AZ VT vE kh X0 y8 YN GP asL EU LX G0 LB aiS LS aiE Hu xy Jk aI aI0 aU Vs aIx fOp Hw Lw LQ GJ MF y6 aIn Jy bI2 G4 BD fCB Wz wX We Hy Ht GY A1 aBM Yn An EI Ir Wj Hd K5 Ig Mr L5 Ma Mb MN MK Dx Y9 Option.map_some BZ B8 BU Ai B7 Dh KY ZX KZ Hn D6 K6 ZS Ke IP Ak Dg IF v6 Ii Wx W4 Lk Z8 IE Ww Dj HW AL KO Z9 Wn IL Wv Ko ZY EK VW qc qw Fm YH GX Hx Ij Ib Ff Fb FI Fd FC FF EB jc Jd ju Kc K4 xB xa Ae WY HE Iz Hf II HS id decide_true decide_false Bool.decide_eq_true not_true_eq_false not_false_eq_true vW List.getElem?_cons_zero List.getElem?_cons_succ Option.some.injEq exists_eq_left' exists_eq_left AV.d.injEq AV.ref.injEq Dat.int.injEq Dat.bl.injEq Dat.str.injEq Dat.lst.injEq Dat.tup.injEq Dat.ty.injEq List.cons.injEq and_true true_and and_assoc decide_eq_true_eq Bool.not_eq_true' decide_eq_false_iff_not Bool.false_eq_true if_false if_true reduceIte exists_and_left exists_and_right List.set_cons_zero List.set_cons_succ List.nil_append List.cons_append List.length_map List.map_cons List.map_nil Nat.zero_le Bool.not_true Bool.not_false Bool.true_eq_false eq_self List.length_cons List.length_nil".splitOn " ").toArray.map fun s=>(iw s.toName:Lean.Ident)
 `(tactic| try simp only [$[$t:ident],*])
local macro_rules | `(tactic| walk_at "sk")=>`(tactic| (refine zh fun r9 hr9=>?_;walk_at "ra";refine ⟨_,rfl,_,rfl,by rw [ju];omega,?_⟩;rw [xa,if_neg (by decide +kernel)];subst hr9))
theorem QU (ns:List Int)(lo hi:Option Int):wW (ns.map V.int) lo hi=cf V.int ((ns.drop (HT.sIx ns.length 0 lo)).take (HT.sIx ns.length ns.length hi - HT.sIx ns.length 0 lo)):=by
 unfold wW
 rw [aq,<- List.map_drop,<- List.map_take]
theorem ZK (cs:List Int)(j:Nat)(v:Int):(cs.map V.int).set j (.int v)=(cs.set j v).map V.int:=by rw [ej]
variable {cs:List Int}
theorem vn {k:Int}(h0:0<=k)(h1:k<cs.length):ixN (cs.map V.int).length k=some k.toNat/\atI (cs.map V.int) k=some (.int (cs.getD k.toNat 0)):=by
 have hk:k.toNat<cs.length:=by omega
 have e1:ixN (cs.map V.int).length k=some k.toNat:=by unfold ixN;rw [aq,if_pos h0,if_pos h1]
 refine ⟨e1,?_⟩
 unfold atI
 rw [e1]
 show (cs.map V.int)[k.toNat]?=_
 rw [aE,ay,am hk];rfl
theorem ZV {ns:List Int}{i:Nat}{x:V}(h:(ns.map V.int)[i]?=some x):x=.int (ns.getD i 0)/\i<ns.length:=by
 rw [aE] at h
 cases e:ns[i]? with
 | none=>rw [e] at h;cases h
 | some v=>
  rw [e] at h
  cases h
  exact ⟨by rw [ay,e];rfl,(aD.mp e).1⟩
noncomputable abbrev K1:cw:=top 16
theorem YJ:zu ["_law_box_here","_law_many","_law_once","_law_found"] ["_law_box_here","_law_many"] (zg K1):=⟨rfl,rfl,rfl,by decide +kernel,rfl,by decide +kernel,by decide +kernel⟩
noncomputable def KU:Sp:=fun vs H Q _=>∃ (b:au) (many:Int) (N:Nat),vs=[.ref b,.int many]/\Bx H b N/\N<1000000000/\0<many/\many<1073741824/\∀ r H',Kp [b] H H'->Bx H' b (N+1)->0<=r->r<many->Q (.int r) H'
theorem Eo (a:At K mg "_law_take" K1)(B:Blt mg):Df P w K mg base "_law_take" ["_law_box_here","_law_many"] 1 KU:=by
 refine Zk (k:=0) a YJ (fun _ _ _ _ _ _=>Pn2_ fun _ _=>rfl) (fun vs H Q E h=>?_) (fun f cdv A outer s H vs Q E hr h=>?_)
 ·obtain ⟨b,m,N,rfl,_⟩:=h;rfl
 obtain ⟨b,m,N,rfl,⟨x,y,z,hb,hx,hy,hy',hz,hz'⟩,hN,hm,hm',q⟩:=h
 have sc:=YJ
 refine ⟨_,(zc (zL (zp GK (zv qK (pv 0) zf (fun _ _=>rfl)) zf (zr _)) (zc (qW (zn JF rfl B.divmod Vh (za (zv qK (pv 0) zf (fun _ _=>rfl)) (za (pv 1) zb))) (ji (K:=K) 2 rfl rfl (zP (qB (pv 0) zf zJ) (zP (zR (i:=3) sc.nd rfl (by first | exact bh rfl | exact bj rfl)) jl))))
  (zi (zC (pv 3)))) zx)
  (zc (qW (zE qV (zv qK (pv 0) zf (fun _ _=>rfl)) zf) (qB (pv 0) zf zJ))
  (zc (zG (i:=2) sc.nd rfl (by first | exact bh rfl | exact bj rfl) (zE kj (zE xl (zE qV (zv qK (pv 0) zf (fun _ _=>rfl)) (zE xl zf (zv qK (pv 0) zf (fun _ _=>rfl)))) (zE qV zf (zv qK (pv 0) zf (fun _ _=>rfl)))) zf))
  (zc (qW (zE kj (zE qV (zE xl (pv 2) (zE qV (zE kj (pv 2) zf) zf)) (zv qK (pv 0) zf (fun _ _=>rfl))) zf) (qB (pv 0) zf zJ))
  (zi (zC (zE kj (zE X7 (zE kj (zE xl (zv qK (pv 0) zf (fun _ _=>rfl)) (zE qV (zE kj (zv qK (pv 0) zf (fun _ _=>rfl)) zf) zf)) zf) zf) (pv 1)))))))),?_⟩
 rw [show qJ ["_law_box_here","_law_many","_law_once","_law_found"] [V.ref b,V.int m]=[some (.ref b),some (.int m),none,none] from rfl]
 walk_at "rd"
 walk_at "xs"
 refine Mv (fun c=>?_) (fun c=>?_)
 ·walk_at "xs"
  refine fun p hp=>?_
  walk_at "xs"
  refine q _ _ ((Kp.new _ hp).trans (Kp.set _ (by simp))) ⟨_,_,_,zm,Int.ediv_nonneg hx (by omega),hy,hy',hz,by omega⟩ (kY x hm).1 (kY x hm).2
 ·walk_at "xs"
  refine q _ _ ((Kp.set _ (by simp)).trans (Kp.set _ (by simp))) ⟨_,_,_,zm,hx,?_,?_,?_,?_⟩ (kY _ hm).1 (kY _ hm).2
  ·exact (kY _ (by decide)).1
  ·exact Int.lt_trans (kY _ (by decide)).2 (by decide)
  ·omega
  ·omega
noncomputable abbrev Be:cw:=top 15
theorem Wy:zu ["_law_script","_law_k","_law_cell"] ["_law_script","_law_k"] (zg Be):=⟨rfl,rfl,rfl,by decide +kernel,rfl,by decide +kernel,by decide +kernel⟩
noncomputable def Ha:Sp:=fun vs H Q _=>∃ (a:au) (k:Int) (cs:List Int),vs=[.ref a,.int k]/\H a=some (il cs)/\0<=k/\k<=1000/\cs.length<=1000/\∀ p H',Kp [] H H'->H p=none->Bx H' p 0->Q (.ref p) H'
theorem Fg {k:Int}(h0:0<=k):∃ c:Int,atI (cs.map V.int ++ aF (k+1).toNat (V.int 0)) k=some (.int c):=by
 have e:cs.map V.int ++ aF (k+1).toNat (V.int 0)=(cs ++ aF (k+1).toNat 0).map V.int:=by simp
 have ek:k=((k.toNat:Nat):Int):=by omega
 have hk:k.toNat<(cs ++ aF (k+1).toNat (0:Int)).length:=by rw [bE,cC];omega
 refine ⟨(cs ++ aF (k+1).toNat 0)[k.toNat],?_⟩
 rw [e]
 have q:atI ((cs ++ aF (k+1).toNat (0:Int)).map V.int) ((k.toNat:Nat):Int)=some (.int (cs ++ aF (k+1).toNat 0)[k.toNat]):=EY (by rw [aE,am hk] <;> rfl)
 rw [<- ek] at q
 exact q
theorem HC (a:At K mg "_law_box" Be)(B:Blt mg):Df P w K mg base "_law_box" ["_law_script","_law_k"] 1 Ha:=by
 refine Zk (k:=0) a Wy (fun _ _ _ _ _ _=>Pn2_ fun _ _=>rfl) (fun vs H Q E h=>?_) (fun f cdv A outer s H vs Q E hr h=>?_)
 ·obtain ⟨a,k,cs,rfl,_⟩:=h;rfl
 obtain ⟨a,k,cs,rfl,ha,hk,hk',hcs,q⟩:=h
 have sc:=Wy
 have hsl:=hsl
 refine ⟨_,(zc (zG (i:=2) sc.nd rfl (by first | exact bh rfl | exact bj rfl) (zv qK (zE yT (pv 0) (zE wR (zU (za zf zb)) (zE qV (pv 1) zf))) (pv 1) (fun _ _=>rfl)))
  (zi (zC (zU (za (zE xl (zn Q4 rfl B.abs D0 (za (pv 2) zb)) (zK yS rfl B.int yV (za (qU MQ (zn Q4 rfl B.abs D0 (za (pv 2) zb)) (zE AD zf zf) (zr _)) zb))) (za (zE kj (zE xl (zE qV (zE qV (zE kj (pv 2) zf) (zE xl zf (pv 1))) zf) zf) zf) (za zf zb))))))),?_⟩
 rw [show qJ ["_law_script","_law_k","_law_cell"] [V.ref a,V.int k]=[some (.ref a),some (.int k),none] from rfl]
 walk_at "rd"
 walk_at "xs"
 intro p1 hp1
 walk_at "xs"
 intro p2 hp2
 walk_at "xs"
 intro p3 hp3
 simp only [Az] at hp3 ⊢
 obtain ⟨c,hc⟩:=Fg (cs:=cs) hk
 walk_at "xs"
 intro p4 hp4
 refine q _ _ (by walk_at "kp") (by walk_at "fr") ⟨_,_,_,zm,?_,?_,?_,?_,?_⟩
 ·exact Int.mul_nonneg (by split <;> omega) (b01 _)
 ·exact (kY _ (by decide)).1
 ·exact Int.lt_trans (kY _ (by decide)).2 (by decide)
 ·decide
 ·decide
noncomputable abbrev wD:cw:=top 17
theorem ZI:zu ["_law_script","_law_many","_law_cells","_law_k","_law_cell"] ["_law_script","_law_many"] (zg wD):=⟨rfl,rfl,rfl,by decide +kernel,rfl,by decide +kernel,by decide +kernel⟩
noncomputable def JD (K:ax):Sp:=fun vs H Q _=>∃ (a:au) (m:Int) (ns:List Int),vs=[.ref a,.int m]/\SqL K H a (ns.map V.int)/\0<m/\m<=60/\ns.length<=63/\∀ p H' cs,Kp [] H H'->H p=none->H' p=some (il cs)->cs.length<=1000->Q (.ref p) H'
theorem Vk (a:At K mg "_law_folded" wD)(B:Blt mg):Df P w K mg base "_law_folded" ["_law_script","_law_many"] 1 (JD K):=by
 refine Zk (k:=0) a ZI (fun _ _ _ _ _ _=>Pn2_ fun _ _=>rfl) (fun vs H Q E h=>?_) (fun f cdv A outer s H vs Q E hr h=>?_)
 ·obtain ⟨a,k,cs,rfl,_⟩:=h;rfl
 obtain ⟨a,m,ns,rfl,ha,hm,hm',hns,q⟩:=h
 obtain ⟨M,rfl⟩:∃ M:Nat,m=M:=⟨m.toNat,by omega⟩
 have sc:=ZI
 have hsl:=hsl
 refine ⟨_,(zc (zG (i:=2) sc.nd rfl (by first | exact bh rfl | exact bj rfl) (zK qA rfl B.list qT (za (jS XG (pv 0) yq (jN (pv 1))) zb)))
  (zc (xK dO rfl (F8 rfl B.enumerate (za (jS XG (pv 0) (jN (pv 1)) (jN zf)) zb)) (ji (K:=K) 2 rfl rfl (zP (zR (i:=3) sc.nd rfl (by first | exact bh rfl | exact bj rfl)) (zP (zR (i:=4) sc.nd rfl (by first | exact bh rfl | exact bj rfl)) jl))) (zi (qW (zE qV (zv qK (pv 2) (zE kj (pv 3) (pv 1)) (fun _ _=>rfl)) (zE xl (pv 4) (zE qV (pv 3) zf))) (qB (pv 2) (zE kj (pv 3) (pv 1)) zJ))))
  (zi (zC (pv 2))))),?_⟩
 rw [show qJ ["_law_script","_law_many","_law_cells","_law_k","_law_cell"] [V.ref a,V.int M]=[some (.ref a),some (.int M),none,none,none] from rfl]
 walk_at "rd"
 walk_at "xs"
 intro p1 hp1
 rw [QU]
 walk_at "xs"
 intro p2 hp2
 walk_at "xs"
 intro p3 hp3
 rw [QU]
 have e63:(63:Int)=((63:Nat):Int):=rfl
 simp only [HT.sIx_none,HT.sIx_nat,e63,List.drop_zero,Nat.sub_zero] at hp2 hp3 ⊢
 walk_at "xs"
 generalize hc0:ns.take (min M ns.length)=c0 at hp2 hp3 ⊢
 generalize hd0:(ns.drop (min M ns.length)).take (min 63 ns.length - min M ns.length)=d0 at hp2 hp3 ⊢
 have lc:c0.length=min M ns.length:=by rw [<- hc0,b8];omega
 have ld:d0.length<=ns.length - M:=by rw [<- hd0,b8,dE];omega
 have n23:p2 ≠ p3:=by walk_at "ne"
 refine FQ (xs:=d0.map V.int) (fun i τ H'=>∃ u v cs,τ=[some (.ref a),some (.int M),some (.ref p2),u,v]/\Kp [p2] (upd (upd (upd H p1 (HO.lst (cf V.int c0))) p2 (HO.lst (cf V.int c0))) p3 (HO.lst (cf V.int d0))) H'/\H' p2=some (il cs)/\cs.length=c0.length) ?_ ?_ ?_ ?_
 ·exact ⟨none,none,c0,rfl,Kp.refl,by walk_at "hp",rfl⟩
 ·rintro i τ H' _ ⟨u,v,cs,rfl,kp,_⟩
  exact SqL.of (kp _ _ (by simp [Ne.symm n23]) (by walk_at "hp"))
 ·rintro i x pp τ H' hx hpp ⟨u,v,cs,rfl,kp,hcs,hl⟩
  obtain ⟨rfl,hi⟩:=ZV hx
  have b1:=kY (i:Int) hm
  obtain ⟨g1,g2⟩:=vn (cs:=cs) (k:=(i:Int) % (M:Int)) b1.1 (by omega)
  have hcs':upd H' pp (HO.tup [V.int i,V.int (d0.getD i 0)]) p2=some (il cs):=by walk_at "hp"
  walk_at "rd"
  walk_at "xs"
  refine ⟨(kp.trans (Kp.new _ hpp)).trans (Kp.set _ (by simp)),_,zm.trans (congrArg some (congrArg HO.lst (ZK _ _ _))),by rw [bN];exact hl⟩
 ·rintro τ H' ⟨u,v,cs,rfl,kp,hcs,hl⟩
  walk_at "rd"
  refine q _ _ cs (fun c o hc hh=>kp c o ?_ ((((Kp.new _ hp1).trans (Kp.new _ hp2)).trans (Kp.new _ hp3)) c o hc hh)) (by walk_at "fr") hcs (by omega)
  have:c ≠ p2:=xH (Jo hp2 (Kp.new _ hp1)) hh
  simpa using this
noncomputable abbrev Jc:List Int:=[0,1,2,3,4,5,6,7,4,5,6,7]
noncomputable abbrev wC:cw:=top 18
theorem Zq:zu ["_law_box_here","_law_most","_law_few"] ["_law_box_here","_law_most"] (zg wC):=⟨rfl,rfl,rfl,by decide +kernel,rfl,by decide +kernel,by decide +kernel⟩
noncomputable def JJ:Sp:=fun vs H Q _=>∃ (b:au) (m:Int) (N:Nat),vs=[.ref b,.int m]/\Bx H b N/\N<100000000/\24<=m/\m<=1000/\∀ r H',Kp [b] H H'->Bx H' b (N+10)->0<=r->r<=m->Q (.int r) H'
theorem V2 (a:At K mg "_law_length" wC)(B:Blt mg)(D_law_take:Df P w K mg base "_law_take" ["_law_box_here","_law_many"] 1 KU):Df P w K mg base "_law_length" ["_law_box_here","_law_most"] 2 JJ:=by
 refine Zk (k:=1) a Zq (fun _ _ _ _ _ _=>Pn2_ fun _ _=>rfl) (fun vs H Q E h=>?_) (fun f cdv A outer s H vs Q E hr h=>?_)
 ·obtain ⟨a,k,cs,rfl,_⟩:=h;rfl
 obtain ⟨b,m,N,rfl,hb,hN,hm,hm',q⟩:=h
 have sc:=Zq
 have hsl:=hsl
 refine' ⟨_,zc (zL (zp GF (zX D_law_take hr rfl (za (pv 0) (za zf zb))) zf (zr _)) (zi (zC (zE ya (pv 1) (zX D_law_take hr rfl (za (pv 0) (za (zn (Zy rfl) rfl B.max DS (za zf (za (zE X7 (pv 1) zf) zb))) zb)))))) zx) (zc _ _),?_⟩
 rotate_left 2
 ·refine' zG (i:=2) _ _ _ _ _ _
  rotate_left 1
  ·exact sc.nd
  ·rfl
  ·first | exact bh rfl | exact bj rfl
  ·refine' zv _ _ _ _
   rotate_left 3
   ·exact qK
   ·refine' zU _
    rotate_left 1
    refine' Ye (is:=[0,1,2,3,4,5,6,7,4,5,6,7]) _
    rfl
   ·exact (zX D_law_take hr rfl (za (pv 0) (za zf zb)))
   ·exact (fun _ _=>rfl)
  ·rfl
  ·first | exact .inl rfl | exact .inr rfl | assumption
 ·refine' zi _
  rotate_left 1
  refine' zC _
  rotate_left 1
  refine' zv _ _ _ _
  rotate_left 3
  ·exact qK
  ·refine' zU _
   rotate_left 1
   refine' za _ _ _
   rotate_left 2
   ·exact pv 2
   ·exact (za (zE qV zf (zX D_law_take hr rfl (za (pv 0) (za zf zb)))) zb)
   ·rfl
  ·exact (zK yS rfl B.int yV (za (qU GF (zX D_law_take hr rfl (za (pv 0) (za zf zb))) zf (zr _)) zb))
  ·exact (fun _ _=>rfl)
 rw [show qJ ["_law_box_here","_law_most","_law_few"] [V.ref b,V.int m]=[some (.ref b),some (.int m),none] from rfl]
 walk_at "rd"
 refine ⟨b,16,N,rfl,hb,by omega,by decide,by decide,fun r1 H1 k1 b1 l1 u1=>⟨rfl,?_⟩⟩
 walk_at "rd"
 refine Mv (fun c=>?_) (fun c=>?_)
 ·walk_at "xs"
  refine ⟨b,_,_,rfl,b1,by omega,by split <;> omega,by split <;> omega,fun r2 H2 k2 b2 l2 u2=>⟨_,rfl,?_⟩⟩
  refine q _ _ (k1.trans k2) (b2.mono (by omega)) ?_ ?_
  ·split at u2 <;> omega
  ·omega
 ·walk_at "xs"
  intro p1 hp1
  refine ⟨b,12,_,rfl,b1.new hp1,by omega,by decide,by decide,fun r2 H2 k2 b2 l2 u2=>?_⟩
  have hne:p1 ≠ b:=by obtain ⟨_,_,_,h,_⟩:=b1;exact Ne.symm (zo h hp1)
  have h2:=k2 p1 _ (by simpa using hne) zm
  obtain ⟨e1,e2⟩:=vn (cs:=Jc) (k:=r2) l2 (by simpa using u2)
  refine ⟨_,_,rfl,SqL.of h2,_,e2,b,17,_,rfl,b2,by omega,by decide,by decide,fun r3 H3 k3 b3 l3 u3=>?_⟩
  have hv:0<=Jc.getD r2.toNat 0/\Jc.getD r2.toNat 0<=(24:Int):=by
   have:∀ j:Nat,0<=Jc.getD j 0/\Jc.getD j 0<=(24:Int):=by
    intro j
    by_cases hj:j<12
    ·have hd:∀ j:Nat,j<12->0<=Jc.getD j 0/\Jc.getD j 0<=(24:Int):=by decide
     exact hd j hj
    ·have e:Jc.getD j (0:Int)=0:=by rw [ay,iH (by simpa using hj)];rfl
     rw [e];decide
   exact this _
  refine ⟨_,rfl,by show 2<=aM;decide,fun p2 hp2=>?_⟩
  refine ⟨b,6,_,rfl,b3.new hp2,by omega,by decide,by decide,fun r4 H4 k4 b4 l4 u4=>⟨rfl,?_⟩⟩
  have hne2:p2 ≠ b:=by obtain ⟨_,_,_,h,_⟩:=b3;exact Ne.symm (zo h hp2)
  have h4:=k4 p2 _ (by simpa using hne2) zm
  have fin:∀ r,0<=r->r<=24->Q (.int r) H4:=fun r g1 g2=>by
   refine q r H4 ?_ (b4.mono (by omega)) g1 (by omega)
   exact (((k1.trans (Kp.new _ hp1)).trans k2).trans k3).trans ((Kp.new _ hp2).trans k4)
  by_cases c4:r4=0
  ·subst c4
   exact ⟨_,SqL.of h4,_,rfl,fin _ (by omega) (by omega)⟩
  ·rw [if_neg (fun z=>c4 (V.int.inj z))]
   exact ⟨_,SqL.of h4,_,rfl,fin _ hv.1 hv.2⟩
noncomputable def cE:Option Int->V
 | none=>.non
 | some x=>.int x
inductive De where
 | swap (a b:Nat) | take (p:Nat) | move (p g:Nat) | lay (g:Nat)
abbrev ES:=List (Option Int) × Option Int
inductive DoE:De->ES->ES->Prop
 | swap {a b:Nat} {row:List (Option Int)} {h:Option Int} {x y:Int}:a ≠ b->row[a]?=some (some x)->row[b]?=some (some y)->DoE (.swap a b) (row,h) ((row.set a (some y)).set b (some x),h)
 | take {p:Nat} {row:List (Option Int)} {x:Int}:row[p]?=some (some x)->DoE (.take p) (row,none) (row.set p none,some x)
 | move {p g:Nat} {row:List (Option Int)} {h:Option Int} {x:Int}:row[p]?=some (some x)->row[g]?=some none->DoE (.move p g) (row,h) ((row.set p none).set g (some x),h)
 | lay {g:Nat} {row:List (Option Int)} {x:Int}:row[g]?=some none->DoE (.lay g) (row,some x) (row.set g (some x),none)
inductive Ic:List De->ES->ES->Prop
 | nil {s:ES}:Ic [] s s
 | cons {d:De} {l:List De} {s t u:ES}:DoE d s t->Ic l t u->Ic (d :: l) s u
variable {d:De} {s t:ES}
theorem DoE.len (h:DoE d s t):t.1.length=s.1.length:=by
 cases h <;> simp
abbrev Tst (c:AT)(ρ:ASt)(M:MH)(b:Bool):Prop:=∀ Q,Q b M->c ρ M Q
variable {c:AT} {ρ:ASt} {M:MH}
theorem zy {b b':Bool}(h:Tst c ρ M b)(e:b=b'):Tst c ρ M b':=e ▸ h
theorem jC {c d:AT} (h:Tst c ρ M false):Tst (Gf c d) ρ M false:=fun Q q=>h _ (by rw [if_neg (fun z=>nomatch z)];exact q)
theorem qX {c d:AT} {b:Bool}(h:Tst c ρ M true)(h':Tst d ρ M b):Tst (Gf c d) ρ M b:=fun Q q=>h _ (by rw [if_pos rfl];exact h' _ q)
theorem qP {c d:AT} {b:Bool}(h:Tst c ρ M false)(h':Tst d ρ M b):Tst (aOr c d) ρ M b:=fun Q q=>h _ (by rw [if_neg (fun z=>nomatch z)];exact h' _ q)
theorem wI {c d:AT} (h:Tst c ρ M true):Tst (aOr c d) ρ M true:=fun Q q=>h _ (by rw [if_pos rfl];exact q)
variable {B:MH} {D:jw}
theorem qg {t r:AS} (h:Tst c ρ M false)(k:r B D ρ M):yN (vE c t kK) r B D ρ M:=h _ (by rw [if_neg (fun z=>nomatch z)];exact k)
variable {e:AE} {r:AS}
theorem kg (h:Tst c ρ M true)(k:e ρ M D.rt):yN (vE c (VT e) kK) r B D ρ M:=h _ (by rw [if_pos rfl];exact k)
theorem HM {t:AS} (h:Tst c ρ M false)(k:D.nx ρ M):vE c t kK B D ρ M:=h _ (by rw [if_neg (fun z=>nomatch z)];exact k)
theorem Iv (h:Tst c ρ M true)(k:e ρ M D.rt):vE c (VT e) kK B D ρ M:=h _ (by rw [if_pos rfl];exact k)
variable {f:AE} {Q:AK}
theorem Lv (h:Tst c ρ M true)(k:e ρ M Q):aIf c e f ρ M Q:=h _ (by rw [if_pos rfl];exact k)
theorem Gr (h:Tst c ρ M false)(k:f ρ M Q):aIf c e f ρ M Q:=h _ (by rw [if_neg (fun z=>nomatch z)];exact k)
variable {ps:List Dat}
theorem vT {w:Dat}:atI (AV.d w :: ps.map AV.d) 0=some (.d w):=by
 unfold atI
 rw [qQ (by omega) (by rw [aT];omega)]
 rfl
theorem tW {i:Nat}{w w':Str} (hρ:ρ[i]?=some (some (.d (.tup (.str w :: ps))))):Tst (aB (aOp (y6 id) (aOp (aIx qO) (qp i) (aC (.int 0))) (aC (.str w')))) ρ M (decide (w=w')):=fun Q q=>by
 refine ⟨_,hρ,_,0,.d (.str w),rfl,rfl,vT,_,_,rfl,rfl,by rw [ju];omega,by rw [ju];omega,_,rfl,?_⟩
 rw [xa]
 exact q
theorem tNN {i:Nat}{x:AV} (hρ:ρ[i]?=some (some x)):Tst (aB (aOp (Vs not) (qp i) (aC .non))) ρ M (!jP x):=fun Q q=>⟨_,hρ,rfl,_,rfl,q⟩
theorem tIN {i:Nat}{x:AV} (hρ:ρ[i]?=some (some x)):Tst (aB (aOp (Vs id) (qp i) (aC .non))) ρ M (jP x):=fun Q q=>⟨_,hρ,rfl,_,rfl,q⟩
theorem tNt {b:Bool}(h:Tst c ρ M b):Tst (QS c) ρ M (!b):=fun Q q=>h _ q
theorem Qe {i:Nat}{x:AV}{t c:String}{b:Bool} (h:ρ[i]?=some (some x))(ht:tyA x M=some t)(hb:isT t c=some b):Tst (aB (aCB wX (zT (qp i) (zT (aC (.ty c)) jz)))) ρ M b:=fun Q q=>⟨_,h,_,_,_,_,rfl,ht,hb,_,rfl,q⟩
theorem V1 {i:Nat}{w:Dat} {t c:String}{b:Bool} (h:ρ[i]?=some (some (.d (.tup (w :: ps)))))(ht:tyA (.d w) M=some t)(hb:isT t c=some b):Tst (aB (aCB wX (zT (aOp (aIx qO) (qp i) (aC (.int 0))) (zT (aC (.ty c)) jz)))) ρ M b:=fun Q q=>⟨_,h,_,_,_,rfl,rfl,vT,_,_,_,_,rfl,ht,hb,_,rfl,q⟩
theorem tNo {i:Nat}{x:AV}{t c:String}{d:AT} (h:ρ[i]?=some (some x))(ht:tyA x M=some t)(hb:isT t c=some false):Tst (aOr (QS (aB (aCB wX (zT (qp i) (zT (aC (.ty c)) jz))))) d) ρ M true:=wI (tNt (Qe h ht hb))
theorem Jf {t r:AS} (h:Tst c ρ M true)(k:t B { D with nx:=r B D } ρ M):yN (vE c t kK) r B D ρ M:=h _ (by rw [if_pos rfl];exact k)
abbrev Val (e:AE)(ρ:ASt)(M:MH)(v:AV):Prop:=∀ Q:AK,Q v M->e ρ M Q
theorem vB {b:Bool}(h:Val e ρ M (.d (.bl b))):Tst (aB e) ρ M b:=fun Q q=>h _ ⟨_,rfl,q⟩
theorem xg {i:Nat}{x:AV}{t c:String}{b:Bool} (h:ρ[i]?=some (some x))(ht:tyA x M=some t)(hb:isT t c=some b):Val (aCB wX (zT (qp i) (zT (aC (.ty c)) jz))) ρ M (.d (.bl b)):=fun Q q=>⟨_,h,_,_,_,_,rfl,ht,hb,q⟩
theorem QW {a e:AE}{f:Bool->Bool} {b c:Bool}(h:Val a ρ M (.d (.bl b)))(h':Val e ρ M (.d (.bl c))):Val (aOp (y6 f) a e) ρ M (.d (.bl (f (decide (b=c))))):=fun Q q=>h _ (h' _ ⟨_,_,rfl,rfl,by rw [Jd];omega,by rw [Jd];omega,by rw [K4];exact q⟩)
theorem MM {a e:AE}{f:Bool->Bool} {b c:Int}(h:Val a ρ M (.d (.int b)))(h':Val e ρ M (.d (.int c))):Val (aOp (y6 f) a e) ρ M (.d (.bl (f (decide (b=c))))):=fun Q q=>h _ (h' _ ⟨_,_,rfl,rfl,by rw [jc];omega,by rw [jc];omega,by rw [xB];exact q⟩)
theorem Ei {i j:Nat}{f:Bool->Bool} {x y:AV}{d d':Dat}{b:Bool}(hi:ρ[i]?=some (some x))(hj:ρ[j]?=some (some y))(hx:xf x M=some d)(hy:xf y M=some d')(h1:dp d<=40)(h2:dp d'<=40)(e:f (eqD d d')=b):Val (aOp (y6 f) (qp i) (qp j)) ρ M (.d (.bl b)):=fun Q q=>⟨_,hi,_,hj,_,_,hx,hy,h1,h2,by rw [e];exact q⟩
variable {l:List AV}
theorem Fk {i:Nat} {x:AV} (hi:ρ[i]?=some (some x))(hx:qO x M=some l):Val (aCB Jy (zT (qp i) jz)) ρ M (.d (.int (l.length:Nat))):=fun Q q=>⟨_,hi,_,_,rfl,hx,q⟩
theorem xC {a e:AE} (h:Val a ρ M (.d (.bl true)))(k:e ρ M Q):WB a e ρ M Q:=h _ ⟨_,rfl,by rw [if_pos rfl];exact k⟩
theorem vz {b b':Bool}(h:Val e ρ M (.d (.bl b)))(q:b=b'):Val e ρ M (.d (.bl b')):=q ▸ h
theorem Vr {i:Nat}{x:AV}{t c c':String}{b:Bool} (h:ρ[i]?=some (some x))(ht:tyA x M=some t)(hb:vD t [c,c']=some b)(hs:2<=aM):Tst (aB (aCB We (zT (qp i) (zT (Dz (zT (aC (.ty c)) (zT (aC (.ty c')) jz))) jz)))) ρ M b:=fun Q q=>⟨_,h,hs,_,rfl,_,_,_,_,_,rfl,rfl,ht,hb,_,rfl,q⟩
noncomputable def ky (ms:List Int)(x:Int):List Int:=ms.set x.toNat (ms.getD x.toNat 0+1)
theorem Q7 (ms:List Int)(x:Int):(ky ms x).length=ms.length:=by unfold ky;rw [bN]
def OkM (s:ES)(n:Nat):Prop:=(∀ x,some x ∈ s.1->0<=x/\x<(n:Int))/\∀ x,s.2=some x->0<=x/\x<(n:Int)
noncomputable def cA:Option Int->AV
 | none=>.d .non
 | some x=>.d (.int x)
noncomputable abbrev Y1 (row:List (Option Int)):MO:=.lst (row.map cA)
noncomputable abbrev msA (ms:List Int):MO:=.lst (ms.map fun i=>AV.d (.int i))
noncomputable abbrev DK (C rw_ mv:au)(h:Option Int):MO:=.ins C [("row",.ref rw_),("hand",cA h),("moved",.ref mv)]
structure qi (C:au)(M:MH)(p rw_ mv:au)(s:ES)(ms:List Int):Prop where
 ins:M p=some (DK C rw_ mv s.2)
 row:M rw_=some (Y1 s.1)
 mvd:M mv=some (msA ms)
 ne:rw_ ≠ mv
noncomputable def rmP (C:au)(M:MH)(p rw_ mv:au)(s:ES)(ms:List Int):MH:=mup (mup (mup M p (DK C rw_ mv s.2)) rw_ (Y1 s.1)) mv (msA ms)
variable {C p rw_ mv:au} {ms:List Int}
theorem qi.pr (r:qi C M p rw_ mv s ms):p ≠ rw_/\p ≠ mv:=
 ⟨fun z=>(by have:=r.ins;rw [z,r.row] at this;cases this),fun z=>(by have:=r.ins;rw [z,r.mvd] at this;cases this)⟩
theorem qi.same (r:qi C M p rw_ mv s ms):rmP C M p rw_ mv s ms=M:=by
 funext b
 unfold rmP mup
 by_cases c1:b=mv
 ·rw [if_pos c1,c1,r.mvd]
 ·rw [if_neg c1]
  by_cases c2:b=rw_
  ·rw [if_pos c2,c2,r.row]
  ·rw [if_neg c2]
   by_cases c3:b=p
   ·rw [if_pos c3,c3,r.ins]
   ·rw [if_neg c3]
theorem qi.to (r:qi C M p rw_ mv s ms)(s':ES)(ms':List Int):qi C (rmP C M p rw_ mv s' ms') p rw_ mv s' ms':=by
 obtain ⟨n1,n2⟩:=r.pr
 have n3:=r.ne
 unfold rmP
 exact ⟨by rw [zd n2,zd n1,ze],by rw [zd n3,ze],ze,n3⟩
theorem qi.again (r:qi C M p rw_ mv s ms)(s' s2:ES)(ms' ms2:List Int):rmP C (rmP C M p rw_ mv s' ms') p rw_ mv s2 ms2=rmP C M p rw_ mv s2 ms2:=by
 funext b
 unfold rmP mup
 by_cases c1:b=mv <;> by_cases c2:b=rw_ <;> by_cases c3:b=p <;> simp [c1,c2,c3]
theorem qi.setRow (r:qi C M p rw_ mv s ms)(row:List (Option Int)):mup M rw_ (Y1 row)=rmP C M p rw_ mv (row,s.2) ms:=by
 obtain ⟨n1,n2⟩:=r.pr
 funext b
 unfold rmP mup
 by_cases c1:b=mv
 ·rw [if_pos c1,if_neg (fun z=>r.ne (z.symm.trans c1)),c1,r.mvd]
 ·rw [if_neg c1]
  by_cases c2:b=rw_
  ·rw [if_pos c2,if_pos c2]
  ·rw [if_neg c2,if_neg c2]
   by_cases c3:b=p
   ·rw [if_pos c3,c3,r.ins]
   ·rw [if_neg c3]
theorem qi.setMv (r:qi C M p rw_ mv s ms)(ms':List Int):mup M mv (msA ms')=rmP C M p rw_ mv s ms':=by
 have:=r.same
 calc mup M mv (msA ms')=mup (rmP C M p rw_ mv s ms) mv (msA ms'):=by rw [this]
  _=_:=by unfold rmP;rw [vW]
theorem qi.setHand (r:qi C M p rw_ mv s ms)(h:Option Int):mup M p (DK C rw_ mv h)=rmP C M p rw_ mv (s.1,h) ms:=by
 obtain ⟨n1,n2⟩:=r.pr
 funext b
 unfold rmP mup
 by_cases c1:b=mv
 ·rw [if_pos c1,if_neg (fun z=>n2 (z.symm.trans c1)),c1,r.mvd]
 ·rw [if_neg c1]
  by_cases c2:b=rw_
  ·rw [if_pos c2,if_neg (fun z=>n1 (z.symm.trans c2)),c2,r.row]
  ·rw [if_neg c2]
theorem qi.fin (r:qi C M p rw_ mv s ms)(s':ES)(ms':List Int)(d:Dat):yd M (rmP C M p rw_ mv s' ms') (.d d) (.d d) (rmP C M p rw_ mv s' ms'):=by
 have t:=r.to s' ms'
 refine ⟨fun q=>.inl rfl,fun q o e=>?_,.inl ⟨rfl,fun p z=>nomatch z⟩⟩
 by_cases c1:q=mv
 ·rw [c1,t.mvd] at e
  cases e
  exact .inr fun z hz=>absurd hz (j8 (ds:=ms'.map .int) (qw _) z)
 ·by_cases c2:q=rw_
  ·rw [c2,t.row] at e
   cases e
   refine .inr fun z hz=>?_
   obtain ⟨y,hy,hz⟩:=(show ∃ x ∈ s'.1.map cA,x.Has z from hz)
   obtain ⟨x,_,rfl⟩:=br.mp hy
   cases x <;> exact (show False from hz).elim
  ·by_cases c3:q=p
   ·rw [c3,t.ins] at e
    cases e
    refine .inr fun z hz=>?_
    obtain ⟨y,hy,hz⟩:=(show ∃ x ∈ [AV.ref rw_,cA s'.2,AV.ref mv],x.Has z from hz)
    simp only [aA,aK,or_false] at hy
    rcases hy with rfl | rfl | rfl
    ·obtain rfl:rw_=z:=hz
     rw [t.row];exact fun z=>nomatch z
    ·cases h:s'.2 <;> rw [h] at hz <;> exact (show False from hz).elim
    ·obtain rfl:mv=z:=hz
     rw [t.mvd];exact fun z=>nomatch z
   ·refine .inl ?_
    unfold rmP at e
    rw [zd c1,zd c2,zd c3] at e
    exact e
structure RTx (K:ax)(C:au):Prop where
 cl:Cls K C
 nr:jX K C "row"
 nh:jX K C "hand"
 nm:jX K C "moved"
noncomputable abbrev wrd (x:String):List (Str × V):=[("word",.str (af x))]
noncomputable def fnW (vs:List V):List (Str × V):=[("word",vs.getD 0 .non)]
variable {row:List (Option Int)}
theorem yy {a:Nat}(h:a<row.length):atI (row.map cA) (a:Int)=some (cA (row.getD a none))/\ixN (row.map cA).length (a:Int)=some a:=by
 have e:ixN (row.map cA).length (a:Int)=some a:=by rw [aq,qQ (by omega) (by omega),bz]
 refine ⟨?_,e⟩
 unfold atI
 rw [e]
 show (row.map cA)[a]?=_
 rw [aE,am h,ay,am h];rfl
theorem Jb {x:Int}(h0:0<=x)(h1:x<(ms.length:Int)):atI (ms.map fun i=>AV.d (.int i)) x=some (.d (.int (ms.getD x.toNat 0)))/\ixN (ms.map fun i=>AV.d (Dat.int i)).length x=some x.toNat:=by
 have hx:x.toNat<ms.length:=by omega
 have e:ixN (ms.map fun i=>AV.d (Dat.int i)).length x=some x.toNat:=by rw [aq,qQ h0 (by omega)]
 refine ⟨?_,e⟩
 unfold atI
 rw [e]
 show (ms.map fun i=>AV.d (Dat.int i))[x.toNat]?=_
 rw [aE,am hx,ay,am hx];rfl
theorem Bo (x:Int):(ms.map fun i=>AV.d (.int i)).set x.toNat (.d (.int (ms.getD x.toNat 0+1)))=(ky ms x).map fun i=>AV.d (.int i):=by unfold ky;rw [ej]
theorem Ad (row:List (Option Int))(a:Nat)(c:Option Int):(row.map cA).set a (cA c)=(row.set a c).map cA:=ej.symm
theorem rz {M0 M' M'':MH}{E0:AXK}{cB:au}{w:Str}(f:yd M0 M' (.d .non) (.d .non) M'')(q:E0 cB [("word",.str w)] M''):∃ vs,[Bh (.d (.str w))]=cf some vs/\vs.length=1/\1<=1000/\exA M0 E0 cB (fnW vs) M':=⟨[.str w],rfl,rfl,by decide,M'',f,q⟩
theorem qL (c:Option Int):jP (cA c)=c.isNone:=by cases c <;> rfl
noncomputable def Ea (C cB:au):xX:=fun xs M Q E=>∃ (p rw_ mv:au) (s:ES) (ms:List Int) (a:Nat),xs=[.ref p,.d (.int a)]/\qi C M p rw_ mv s ms/\a<s.1.length/\OkM s ms.length /\
 (∀ x,s.1.getD a none=some x->Q (.d (.int x)) (rmP C M p rw_ mv (s.1.set a none,s.2) (ky ms x)))/\(s.1.getD a none=none->E cB (wrd "empty") M)
noncomputable abbrev KI:cw:=(qS (top 10) 6)
theorem XI:zu ["self","a","thing"] ["self","a"] (zg KI):=⟨rfl,rfl,rfl,by decide +kernel,rfl,by decide +kernel,by decide +kernel⟩
theorem DF {C:au}(a:AtM K C "lift" "Room.lift" KI)(R:RTx K C)(B:Blt mg){cBadDeed:au}(MX_BadDeed:MkX P w K mg base cBadDeed 1 1 fnW)(XG_BadDeed:mg "BadDeed"=some (.ref cBadDeed)):DmX P w K mg base C "lift" ["self","a"] 3 (jr (Ea C cBadDeed)):=by
 refine VA (k:=2) a XI (fun _ _ _ _ _ _=>Pn2_ fun _ _=>rfl) (fun xs M Q E h=>?_) (fun f cdv A outer s H HX OX MX E1 hr hD=>?_)
 ·obtain ⟨_,_,_,_,_,_,rfl,_⟩:=h;rfl
 have sc:=XI
 have hsl:=hsl
 have CL:=R.cl
 refine ⟨_,(zc (zG (i:=2) sc.nd rfl (by first | exact bh rfl | exact bj rfl) (zv zD (qh (pv 0) rfl) (pv 1) (fun _ _=>rfl)))
  (zc (zL (zp ka (pv 2) zS (zr _)) (zi (qD hD rfl MX_BadDeed hr rfl XG_BadDeed (za zj zb))) zx)
  (zc (qW zS (qB (qh (pv 0) rfl) (pv 1) zJ))
  (zc (vN (qh (pv 0) rfl) (pv 2) xT zf Z7 zJ)
  (zi (zC (pv 2))))))),?_⟩
 refine exX (by walk_at "sim") ?_
 rintro xs Q E0 rfl ⟨p,rw_,mv,⟨row,hd⟩,ms,a,rfl,r,ha,ok,q,qe⟩
 rw [show zN ["self","a","thing"] [.ref p,.d (.int a)]=[some (.ref p),some (.d (.int a)),none] from rfl]
 refine zh fun r1 hr1=>?_
 walk_at "ra"
 obtain ⟨c1,c2⟩:=yy ha
 refine ⟨_,_,r.ins,R.cl,R.nr,_,rfl,_,zz r.row,_,c1,?_⟩
 subst hr1
 refine zh fun r1 hr1=>?_
 walk_at "ra"
 cases hx:row.getD a none with
 | none=>
  rw [if_pos (by rw [qL];rfl)]
  exact rz (qH Fr.refl .non) (qe hx)
 | some x=>
  rw [if_neg (by rw [qL];exact fun z=>nomatch z)]
  subst hr1
  obtain ⟨x0,x1⟩:=ok.1 x (by rw [ay,am ha] at hx;rw [<- hx];exact bq ha)
  obtain ⟨m1,m2⟩:=Jb x0 x1
  show yN _ _ _ _ _ _
  rw [show cA (some x)=.d (.int x) from rfl]
  refine zh fun r1 hr1=>?_
  walk_at "ra"
  refine ⟨_,_,r.ins,R.cl,R.nr,_,rfl,_,rfl,_,r.row,_,c2,?_⟩
  rw [show (row.map cA).set a (.d .non)=(row.set a none).map cA from Ad row a none,r.setRow]
  have r2:=r.to (row.set a none,hd) ms
  subst hr1
  walk_at "ra"
  refine ⟨_,_,r2.ins,R.cl,R.nm,_,rfl,_,jx r2.mvd,_,m1,_,rfl,_,rfl,_,r2.mvd,_,m2,?_⟩
  rw [Bo,r2.setMv,r.again]
  exact ⟨_,_,r.fin _ _ (.int x),q x hx⟩
variable {n:Nat}
theorem Ya (ok:OkM s n){a:Nat}{x:Int}(ha:a<s.1.length)(h:s.1.getD a none=some x):0<=x/\x<(n:Int):=ok.1 x (by rw [ay,am ha] at h;rw [<- h];exact bq ha)
noncomputable def Gx (C cB:au):xX:=fun xs M Q E=>∃ (p rw_ mv:au) (s:ES) (ms:List Int) (a b:Nat),xs=[.ref p,.d (.int a),.d (.int b)]/\qi C M p rw_ mv s ms/\a<s.1.length/\b<s.1.length/\OkM s ms.length /\
 (a=b->E cB (wrd "same") M)/\(a ≠ b->s.1.getD a none=none \/ s.1.getD b none=none->E cB (wrd "empty") M) /\
 (a ≠ b->∀ x y,s.1.getD a none=some x->s.1.getD b none=some y->Q (.d .non) (rmP C M p rw_ mv ((s.1.set a (some y)).set b (some x),s.2) (ky (ky ms x) y)))
noncomputable abbrev Xa:cw:=(qS (top 10) 2)
theorem YE:zu ["self","a","b","one","other"] ["self","a","b"] (zg Xa):=⟨rfl,rfl,rfl,by decide +kernel,rfl,by decide +kernel,by decide +kernel⟩
theorem A0 {C:au}(a:AtM K C "swap" "Room.swap" Xa)(R:RTx K C)(B:Blt mg){cBadDeed:au}(MX_BadDeed:MkX P w K mg base cBadDeed 1 1 fnW)(XG_BadDeed:mg "BadDeed"=some (.ref cBadDeed)):DmX P w K mg base C "swap" ["self","a","b"] 3 (jr (Gx C cBadDeed)):=by
 refine VA (k:=2) a YE (fun _ _ _ _ _ _=>Pn3_ fun _ _ _=>rfl) (fun xs M Q E h=>?_) (fun f cdv A outer s H HX OX MX E1 hr hD=>?_)
 ·obtain ⟨_,_,_,_,_,_,_,rfl,_⟩:=h;rfl
 have sc:=YE
 have hsl:=hsl
 have CL:=R.cl
 refine ⟨_,(zc (zL (zp (zV hr.units) (pv 1) (pv 2) (zr _)) (zi (qD hD rfl MX_BadDeed hr rfl XG_BadDeed (za zj zb))) zx)
  (zc (zG (i:=3) sc.nd rfl (by first | exact bh rfl | exact bj rfl) (zv zD (qh (pv 0) rfl) (pv 1) (fun _ _=>rfl)))
  (zc (zG (i:=4) sc.nd rfl (by first | exact bh rfl | exact bj rfl) (zv zD (qh (pv 0) rfl) (pv 2) (fun _ _=>rfl)))
  (zc (zL (PW.pt (kA (zp ka (pv 3) zS (zr _)) (jW (zp ka (pv 4) zS (zr _))))) (zi (qD hD rfl MX_BadDeed hr rfl XG_BadDeed (za zj zb))) zx)
  (zc (qW (pv 4) (qB (qh (pv 0) rfl) (pv 1) zJ))
  (zc (qW (pv 3) (qB (qh (pv 0) rfl) (pv 2) zJ))
  (zc (vN (qh (pv 0) rfl) (pv 3) xT zf Z7 zJ)
  (zi (vN (qh (pv 0) rfl) (pv 4) xT zf Z7 zJ))))))))),?_⟩
 refine exX (by walk_at "sim") ?_
 rintro xs Q E0 rfl ⟨p,rw_,mv,⟨row,hd⟩,ms,a,b,rfl,r,ha,hb,ok,qs,qe,q⟩
 rw [show zN ["self","a","b","one","other"] [.ref p,.d (.int a),.d (.int b)]=[some (.ref p),some (.d (.int a)),some (.d (.int b)),none,none] from rfl]
 refine zh fun r1 hr1=>?_
 walk_at "ra"
 by_cases hab:a=b
 ·rw [if_pos (by rw [hab])]
  exact rz (qH Fr.refl .non) (qs hab)
 rw [if_neg (by omega)]
 subst hr1
 obtain ⟨c1,c2⟩:=yy ha
 obtain ⟨d1,d2⟩:=yy hb
 refine zh fun r1 hr1=>?_
 walk_at "ra"
 refine ⟨_,_,r.ins,R.cl,R.nr,_,rfl,_,zz r.row,_,c1,?_⟩
 subst hr1
 refine zh fun r1 hr1=>?_
 walk_at "ra"
 refine ⟨_,_,r.ins,R.cl,R.nr,_,rfl,_,zz r.row,_,d1,?_⟩
 subst hr1
 refine zh fun r1 hr1=>?_
 walk_at "ra"
 cases hx:row.getD a none with
 | none=>
  rw [if_pos (by rw [qL];rfl)]
  exact rz (qH Fr.refl .non) (qe hab (.inl hx))
 | some x=>
  rw [if_neg (by rw [qL];exact fun z=>nomatch z)]
  cases hy:row.getD b none with
  | none=>
   rw [if_pos (by rw [qL];rfl)]
   exact rz (qH Fr.refl .non) (qe hab (.inr hy))
  | some y=>
   rw [if_neg (by rw [qL];exact fun z=>nomatch z)]
   obtain ⟨x0,x1⟩:=Ya ok ha hx
   obtain ⟨y0,y1⟩:=Ya ok hb hy
   obtain ⟨m1,m2⟩:=Jb x0 x1
   obtain ⟨n1,n2⟩:=Jb (ms:=ky ms x) y0 (by rw [Q7];exact y1)
   subst hr1
   rw [show cA (some x)=.d (.int x) from rfl,show cA (some y)=.d (.int y) from rfl]
   refine zh fun r1 hr1=>?_
   walk_at "ra"
   refine ⟨_,_,r.ins,R.cl,R.nr,_,rfl,_,rfl,_,r.row,_,c2,?_⟩
   rw [show (row.map cA).set a (.d (.int y))=(row.set a (some y)).map cA from Ad row a (some y),r.setRow]
   have r2:=r.to (row.set a (some y),hd) ms
   subst hr1
   refine zh fun r1 hr1=>?_
   walk_at "ra"
   refine ⟨_,_,r2.ins,R.cl,R.nr,_,rfl,_,rfl,_,r2.row,b,by rw [aq,bN,qQ (by omega) (by show (b:Int)<row.length;have:b<row.length:=hb;omega),bz],?_⟩
   rw [show ((row.set a (some y)).map cA).set b (.d (.int x))=((row.set a (some y)).set b (some x)).map cA from Ad _ b (some x),r2.setRow,r.again]
   have r3:=r.to ((row.set a (some y)).set b (some x),hd) ms
   subst hr1
   refine zh fun r1 hr1=>?_
   walk_at "ra"
   refine ⟨_,_,r3.ins,R.cl,R.nm,_,rfl,_,jx r3.mvd,_,m1,_,rfl,_,rfl,_,r3.mvd,_,m2,?_⟩
   rw [Bo,r3.setMv,r.again]
   have r4:=r.to ((row.set a (some y)).set b (some x),hd) (ky ms x)
   subst hr1
   walk_at "ra"
   refine ⟨_,_,r4.ins,R.cl,R.nm,_,rfl,_,jx r4.mvd,_,n1,_,rfl,_,rfl,_,r4.mvd,_,n2,?_⟩
   rw [Bo,r4.setMv,r.again]
   exact ⟨_,_,r.fin _ _ .non,q hab x y hx hy⟩
theorem JY {a b c y:AV}:jF (af "hand") y [(af "row",a),(af "hand",b),(af "moved",c)]=[(af "row",a),(af "hand",y),(af "moved",c)]:=by
 unfold jF;rw [if_neg (by decide +kernel)];unfold jF;rw [if_pos rfl]
noncomputable def WG (C cB:au):xX:=fun xs M Q E=>∃ (p rw_ mv:au) (s:ES) (ms:List Int) (a:Nat),xs=[.ref p,.d (.int a)]/\qi C M p rw_ mv s ms/\a<s.1.length/\OkM s ms.length /\
 (s.2 ≠ none->E cB (wrd "full") M)/\(s.2=none->s.1.getD a none=none->E cB (wrd "empty") M) /\
 (s.2=none->∀ x,s.1.getD a none=some x->Q (.d .non) (rmP C M p rw_ mv (s.1.set a none,some x) (ky ms x)))
noncomputable abbrev Qx:cw:=(qS (top 10) 3)
theorem Jq:zu ["self","a"] ["self","a"] (zg Qx):=⟨rfl,rfl,rfl,by decide +kernel,rfl,by decide +kernel,by decide +kernel⟩
theorem Vq {C:au}(a:AtM K C "take" "Room.take" Qx)(R:RTx K C)(B:Blt mg){cBadDeed:au}(MX_BadDeed:MkX P w K mg base cBadDeed 2 1 fnW)(XG_BadDeed:mg "BadDeed"=some (.ref cBadDeed))(DM_lift:DmX P w K mg base C "lift" ["self","a"] 3 (jr (Ea C cBadDeed))):DmX P w K mg base C "take" ["self","a"] 4 (jr (WG C cBadDeed)):=by
 refine VA (k:=3) a Jq (fun _ _ _ _ _ _=>Pn2_ fun _ _=>rfl) (fun xs M Q E h=>?_) (fun f cdv A outer s H HX OX MX E1 hr hD=>?_)
 ·obtain ⟨_,_,_,_,_,_,rfl,_⟩:=h;rfl
 have sc:=Jq
 have hsl:=hsl
 have CL:=R.cl
 refine ⟨_,(zc (zL (zp jJ (qh (pv 0) rfl) zS (zr _)) (zi (qD hD rfl MX_BadDeed hr rfl XG_BadDeed (za zj zb))) zx)
  (zi (xJ (pv 0) (xm CL DM_lift hr hD.passX (pv 0) (za (pv 1) zb)) rfl))),?_⟩
 refine exX (by walk_at "sim") ?_
 rintro xs Q E0 rfl ⟨p,rw_,mv,⟨row,hd⟩,ms,a,rfl,r,ha,ok,qf,qe,q⟩
 rw [show zN ["self","a"] [.ref p,.d (.int a)]=[some (.ref p),some (.d (.int a))] from rfl]
 refine zh fun r1 hr1=>?_
 walk_at "ra"
 refine ⟨_,_,r.ins,R.cl,R.nh,_,rfl,?_⟩
 cases hd with
 | some x=>
  rw [if_pos (by rw [qL];rfl)]
  exact rz (qH Fr.refl .non) (qf (fun z=>nomatch z))
 | none=>
  rw [if_neg (by rw [qL];exact fun z=>nomatch z)]
  subst hr1
  walk_at "ra"
  refine ⟨_,r.ins,rfl,p,rw_,mv,(row,none),ms,a,rfl,r,ha,ok,fun x hx=>?_,fun hx=>⟨_,qH Fr.refl .non,qe rfl hx⟩⟩
  have r2:=r.to (row.set a none,none) (ky ms x)
  refine ⟨_,_,r2.ins,R.cl,R.nh,dJ rfl,?_⟩
  rw [JY,show AV.d (.int x)=cA (some x) from rfl,r2.setHand,r.again]
  exact ⟨_,_,r.fin _ _ .non,q rfl x hx⟩
noncomputable def GU (C cB:au):xX:=fun xs M Q E=>∃ (p rw_ mv:au) (s:ES) (ms:List Int) (a b:Nat),xs=[.ref p,.d (.int a),.d (.int b)]/\qi C M p rw_ mv s ms/\a<s.1.length/\b<s.1.length/\OkM s ms.length /\
 (a=b->E cB (wrd "same") M)/\(a ≠ b->s.1.getD b none ≠ none->E cB (wrd "full") M)/\(a ≠ b->s.1.getD b none=none->s.1.getD a none=none->E cB (wrd "empty") M) /\
 (a ≠ b->s.1.getD b none=none->∀ x,s.1.getD a none=some x->Q (.d .non) (rmP C M p rw_ mv ((s.1.set a none).set b (some x),s.2) (ky ms x)))
noncomputable abbrev Ku:cw:=(qS (top 10) 4)
theorem XA:zu ["self","a","b"] ["self","a","b"] (zg Ku):=⟨rfl,rfl,rfl,by decide +kernel,rfl,by decide +kernel,by decide +kernel⟩
theorem Bb {C:au}(a:AtM K C "move" "Room.move" Ku)(R:RTx K C)(B:Blt mg){cBadDeed:au}(MX_BadDeed:MkX P w K mg base cBadDeed 2 1 fnW)(XG_BadDeed:mg "BadDeed"=some (.ref cBadDeed))(DM_lift:DmX P w K mg base C "lift" ["self","a"] 3 (jr (Ea C cBadDeed))):DmX P w K mg base C "move" ["self","a","b"] 4 (jr (GU C cBadDeed)):=by
 refine VA (k:=3) a XA (fun _ _ _ _ _ _=>Pn3_ fun _ _ _=>rfl) (fun xs M Q E h=>?_) (fun f cdv A outer s H HX OX MX E1 hr hD=>?_)
 ·obtain ⟨_,_,_,_,_,_,_,rfl,_⟩:=h;rfl
 have sc:=XA
 have hsl:=hsl
 have CL:=R.cl
 refine ⟨_,(zc (zL (zp (zV hr.units) (pv 1) (pv 2) (zr _)) (zi (qD hD rfl MX_BadDeed hr rfl XG_BadDeed (za zj zb))) zx)
  (zc (zL (zp jJ (zv zD (qh (pv 0) rfl) (pv 2) (fun _ _=>rfl)) zS (zr _)) (zi (qD hD rfl MX_BadDeed hr rfl XG_BadDeed (za zj zb))) zx)
  (zi (qW (xm CL DM_lift hr hD.passX (pv 0) (za (pv 1) zb)) (qB (qh (pv 0) rfl) (pv 2) zJ))))),?_⟩
 refine exX (by walk_at "sim") ?_
 rintro xs Q E0 rfl ⟨p,rw_,mv,⟨row,hd⟩,ms,a,b,rfl,r,ha,hb,ok,qs,qf,qe,q⟩
 rw [show zN ["self","a","b"] [.ref p,.d (.int a),.d (.int b)]=[some (.ref p),some (.d (.int a)),some (.d (.int b))] from rfl]
 refine zh fun r1 hr1=>?_
 walk_at "ra"
 by_cases hab:a=b
 ·rw [if_pos (by rw [hab])]
  exact rz (qH Fr.refl .non) (qs hab)
 rw [if_neg (by omega)]
 subst hr1
 obtain ⟨d1,d2⟩:=yy hb
 refine zh fun r1 hr1=>?_
 walk_at "ra"
 refine ⟨_,_,r.ins,R.cl,R.nr,_,rfl,_,zz r.row,_,d1,?_⟩
 cases hy:row.getD b none with
 | some y=>
  rw [if_pos (by rw [qL];rfl)]
  exact rz (qH Fr.refl .non) (qf hab (by rw [hy];exact fun z=>nomatch z))
 | none=>
  rw [if_neg (by rw [qL];exact fun z=>nomatch z)]
  subst hr1
  walk_at "ra"
  refine ⟨_,r.ins,rfl,p,rw_,mv,(row,hd),ms,a,rfl,r,ha,ok,fun x hx=>?_,fun hx=>⟨_,qH Fr.refl .non,qe hab hy hx⟩⟩
  have r2:=r.to (row.set a none,hd) (ky ms x)
  refine ⟨_,_,r2.ins,R.cl,R.nr,_,rfl,_,rfl,_,r2.row,b,by rw [aq,bN,qQ (by omega) (by show (b:Int)<row.length;have:b<row.length:=hb;omega),bz],?_⟩
  rw [show ((row.set a none).map cA).set b (.d (.int x))=((row.set a none).set b (some x)).map cA from Ad _ b (some x),r2.setRow,r.again]
  exact ⟨_,_,r.fin _ _ .non,q hab hy x hx⟩
noncomputable def Mj (C cB:au):xX:=fun xs M Q E=>∃ (p rw_ mv:au) (s:ES) (ms:List Int) (b:Nat),xs=[.ref p,.d (.int b)]/\qi C M p rw_ mv s ms/\b<s.1.length/\OkM s ms.length /\
 (s.1.getD b none ≠ none->E cB (wrd "full") M)/\(s.1.getD b none=none->s.2=none->E cB (wrd "empty") M) /\
 (s.1.getD b none=none->∀ x,s.2=some x->Q (.d .non) (rmP C M p rw_ mv (s.1.set b (some x),none) (ky ms x)))
noncomputable abbrev BB:cw:=(qS (top 10) 5)
theorem W8:zu ["self","b"] ["self","b"] (zg BB):=⟨rfl,rfl,rfl,by decide +kernel,rfl,by decide +kernel,by decide +kernel⟩
theorem F9 {C:au}(a:AtM K C "lay" "Room.lay" BB)(R:RTx K C)(B:Blt mg){cBadDeed:au}(MX_BadDeed:MkX P w K mg base cBadDeed 1 1 fnW)(XG_BadDeed:mg "BadDeed"=some (.ref cBadDeed)):DmX P w K mg base C "lay" ["self","b"] 3 (jr (Mj C cBadDeed)):=by
 refine VA (k:=2) a W8 (fun _ _ _ _ _ _=>Pn2_ fun _ _=>rfl) (fun xs M Q E h=>?_) (fun f cdv A outer s H HX OX MX E1 hr hD=>?_)
 ·obtain ⟨_,_,_,_,_,_,rfl,_⟩:=h;rfl
 have sc:=W8
 have hsl:=hsl
 have CL:=R.cl
 refine ⟨_,(zc (zL (zp jJ (zv zD (qh (pv 0) rfl) (pv 1) (fun _ _=>rfl)) zS (zr _)) (zi (qD hD rfl MX_BadDeed hr rfl XG_BadDeed (za zj zb))) zx)
  (zc (zL (zp ka (qh (pv 0) rfl) zS (zr _)) (zi (qD hD rfl MX_BadDeed hr rfl XG_BadDeed (za zj zb))) zx)
  (zc (qW (qh (pv 0) rfl) (qB (qh (pv 0) rfl) (pv 1) zJ))
  (zc (vN (qh (pv 0) rfl) (qh (pv 0) rfl) xT zf Z7 zJ)
  (zi (xJ (pv 0) zS rfl)))))),?_⟩
 refine exX (by walk_at "sim") ?_
 rintro xs Q E0 rfl ⟨p,rw_,mv,⟨row,hd⟩,ms,b,rfl,r,hb,ok,qf,qe,q⟩
 rw [show zN ["self","b"] [.ref p,.d (.int b)]=[some (.ref p),some (.d (.int b))] from rfl]
 obtain ⟨d1,d2⟩:=yy hb
 refine zh fun r1 hr1=>?_
 walk_at "ra"
 refine ⟨_,_,r.ins,R.cl,R.nr,_,rfl,_,zz r.row,_,d1,?_⟩
 cases hy:row.getD b none with
 | some y=>
  rw [if_pos (by rw [qL];rfl)]
  exact rz (qH Fr.refl .non) (qf (by rw [hy];exact fun z=>nomatch z))
 | none=>
  rw [if_neg (by rw [qL];exact fun z=>nomatch z)]
  subst hr1
  refine zh fun r1 hr1=>?_
  walk_at "ra"
  refine ⟨_,_,r.ins,R.cl,R.nh,_,rfl,?_⟩
  cases hd with
  | none=>
   rw [if_pos (by rw [qL];rfl)]
   exact rz (qH Fr.refl .non) (qe hy rfl)
  | some x=>
   rw [if_neg (by rw [qL];exact fun z=>nomatch z)]
   obtain ⟨x0,x1⟩:=ok.2 x rfl
   obtain ⟨m1,m2⟩:=Jb x0 x1
   subst hr1
   refine zh fun r1 hr1=>?_
   walk_at "ra"
   refine ⟨_,_,r.ins,R.cl,R.nh,_,rfl,_,_,r.ins,R.cl,R.nr,_,rfl,_,rfl,_,r.row,_,d2,?_⟩
   rw [show (row.map cA).set b (cA (some x))=(row.set b (some x)).map cA from Ad row b (some x),r.setRow]
   have r2:=r.to (row.set b (some x),some x) ms
   subst hr1
   refine zh fun r1 hr1=>?_
   walk_at "ra"
   refine ⟨_,_,r2.ins,R.cl,R.nm,_,rfl,_,_,r2.ins,R.cl,R.nh,_,rfl,_,jx r2.mvd,_,rfl,_,m1,_,rfl,_,rfl,_,_,rfl,r2.mvd,_,m2,?_⟩
   rw [Bo,r2.setMv,r.again]
   have r3:=r.to (row.set b (some x),some x) (ky ms x)
   subst hr1
   walk_at "ra"
   refine ⟨_,_,r3.ins,R.cl,R.nh,dJ rfl,?_⟩
   rw [JY,show AV.d .non=cA none from rfl,r3.setHand,r.again]
   exact ⟨_,_,r.fin _ _ .non,q hy x rfl⟩
noncomputable abbrev yi:cw:=top 5
theorem vq:zu ["thing","n"] ["thing","n"] (zg yi):=⟨rfl,rfl,rfl,by decide +kernel,rfl,by decide +kernel,by decide +kernel⟩
noncomputable def zZ (d:Dat)(n:Int):Bool:=match d with
 | .int i=>decide (0<=i/\i<n)
 | _=>false
noncomputable def JG:ASp:=fun xs M Q=>∃ (d:Dat) (n:Int),xs=[.d d,.d (.int n)]/\dp d<=100/\Q (.d (.bl (zZ d n))) M
theorem Js (a:At K mg "is_place" yi)(B:Blt mg):Df P w K mg base "is_place" ["thing","n"] 1 (cSp JG):=by
 refine dfA (k:=0) a vq (fun _ _ _ _ _ _=>Pn2_ fun _ _=>rfl) (fun xs M Q h=>?_) (fun f cdv A outer s H E hr=>?_)
 ·obtain ⟨_,_,rfl,_⟩:=h;rfl
 have sc:=vq
 have hsl:=hsl
 refine ⟨_,(zc (zL (PW.pt (kA (jd (zn qa rfl B.isinstance zw (za (pv 0) (za (zY (v:=.ty "bool") rfl B.bool vP rfl) zb))) (fun _=>rfl)) (jW (jG (jd (zn qa rfl B.isinstance zw (za (pv 0) (za (zY (v:=.ty "int") rfl B.int yV rfl) zb))) (fun _=>rfl)))))) (zi (zC j9)) zx)
  (zi (zC (Bu GH G8 zf (pv 0) (pv 1))))),?_⟩
 refine ex2 (by walk_at "sim") ?_
 rintro xs M Q ⟨d,n,rfl,hd,q⟩
 rw [show zN ["thing","n"] [.d d,.d (.int n)]=[some (.d d),some (.d (.int n))] from rfl]
 have fin:=fun b=>qH (M0:=M) Fr.refl (.bl b)
 cases d with
 | non=>walk_at "ra";exact ⟨_,_,fin _,q⟩
 | bl b=>walk_at "ra";exact ⟨_,_,fin _,q⟩
 | str b=>walk_at "ra";exact ⟨_,_,fin _,q⟩
 | lst b=>walk_at "ra";exact ⟨_,_,fin _,q⟩
 | tup b=>walk_at "ra";exact ⟨_,_,fin _,q⟩
 | int i=>
  walk_at "ra"
  have q:Q (.d (.bl (decide (0<=i/\i<n)))) M:=q
  by_cases c:0<=i
  ·rw [if_pos c]
   rw [show decide (0<=i/\i<n)=decide (i<n) by simp [c]] at q
   walk_at "ra"
   exact ⟨_,_,fin _,q⟩
  ·rw [if_neg c]
   rw [show decide (0<=i/\i<n)=false by simp [c]] at q
   walk_at "ra"
   exact ⟨_,_,fin _,q⟩
 | ty _=>rw [dp] at hd;omega
 | rng _ _ _=>rw [dp] at hd;omega
 | scr _ _=>rw [dp] at hd;omega
noncomputable abbrev Fy:List (Key × V):=[(bG (af "swap"),.int 2),(bG (af "take"),.int 1),(bG (af "move"),.int 2),(bG (af "lay"),.int 1)]
noncomputable def jj (w:Str):Option Int:=if w=af "swap" then some 2 else if w=af "take" then some 1 else if w=af "move" then some 2 else if w=af "lay" then some 1 else none
noncomputable def oD:Option Int->Dat
 | none=>.non
 | some x=>.int x
theorem Hr (w:Str):A3 ((xu Fy (bG w)).getD .non)=some (oD (jj w)):=by
 unfold jj xu
 by_cases c1:w=af "swap"
 ·subst c1;rfl
 rw [if_neg c1]
 by_cases c2:w=af "take"
 ·subst c2;rfl
 rw [if_neg c2]
 by_cases c3:w=af "move"
 ·subst c3;rfl
 rw [if_neg c3]
 by_cases c4:w=af "lay"
 ·subst c4;rfl
 rw [if_neg c4]
 have n:∀ x:Str,w ≠ x->¬ decide ((bG x:Key)=bG w)=true:=fun x h z=>h (bG.inj (of_decide_eq_true z)).symm
 simp only [bV,n _ c1,n _ c2,n _ c3,n _ c4,List.find?_nil]
 rfl
theorem yE:∀ {l:List Dat} {n:Nat},dps l<=n->∀ d ∈ l,dp d<=n
 | a :: r,n,h,d,hd=>by
  rw [dps] at h
  rcases aA.mp hd with rfl | hd
  ·omega
  ·exact yE (by omega) d hd
noncomputable def qd (x:Dat)(n:Int):Bool:=match x with
 | .tup (.str w :: ps)=>jj w == some (ps.length:Int) && ps.all (zZ · n)
 | _=>false
noncomputable def XZ:ASp:=fun xs M Q=>∃ (x:Dat) (n:Int),xs=[.d x,.d (.int n)]/\dp x<=40/\(∀ l,x=.tup l->l.length<=1000)/\Q (.d (.bl (qd x n))) M
noncomputable abbrev v8:cw:=top 9
theorem ZG:zu ["thing","n","word","part"] ["thing","n"] (zg v8):=⟨rfl,rfl,rfl,by decide +kernel,rfl,by decide +kernel,by decide +kernel⟩
theorem Vt (a:At K mg "is_deed" v8)(B:Blt mg)(Ball:mg "all"=none)(D_is_place:Df P w K mg base "is_place" ["thing","n"] 1 (cSp JG)){pa:au}(KP:KD K w pa Fy)(MP:mg "PLACES_OF"=some (.ref pa)):Df P w K mg base "is_deed" ["thing","n"] 2 (cSp XZ):=by
 refine dfA (k:=1) a ZG (fun _ _ _ _ _ _=>Pn2_ fun _ _=>rfl) (fun xs M Q h=>?_) (fun f cdv A outer s H E hr=>?_)
 ·obtain ⟨_,_,rfl,_⟩:=h;rfl
 have sc:=ZG
 have hsl:=hsl
 refine ⟨_,(zc (zL (PW.pt (kA (jG (jd (zn qa rfl B.isinstance zw (za (pv 0) (za (zY (v:=.ty "tuple") rfl B.tuple qC rfl) zb))) (fun _=>rfl))) (jW (zp (zV hr.units) (zn zt rfl B.len ql (za (pv 0) zb)) zf (zr _))))) (zi (zC j9)) zx)
  (zc (zG (i:=2) sc.nd rfl (by first | exact bh rfl | exact bj rfl) (zv zD (pv 0) zf (fun _ _=>rfl)))
  (zc (zL (PW.pt (kA (jG (jd (zn qa rfl B.isinstance zw (za (pv 2) (za (zY (v:=.ty "str") rfl B.str vY rfl) zb))) (fun _=>rfl))) (jW (zp (jB hr.units) (EX KP rfl MP (pv 2) ⟨rfl,rfl,rfl,rfl⟩) (zE ya (zn zt rfl B.len ql (za (pv 0) zb)) zf) (zr _))))) (zi (zC j9)) zx)
  (zi (zC (zn (va rfl) rfl Ball KG (za (yM (ts:=[3]) rfl rfl (wL (jS vX (pv 0) (jN zf) yq)) (fun _ _ _ _=>(zR (i:=3) sc.nd rfl (by first | exact bh rfl | exact bj rfl))) (fun _ _ _ _=>kU) (fun _ _ _ _=>(zX D_is_place hr rfl (za (pv 3) (za (pv 1) zb))))) zb))))))),?_⟩
 refine ex2 (by walk_at "sim") ?_
 rintro xs M Q ⟨x,n,rfl,hd,hl,q⟩
 rw [show zN ["thing","n","word","part"] [.d x,.d (.int n)]=[some (.d x),some (.d (.int n)),none,none] from rfl]
 have fin:=fun b=>qH (M0:=M) Fr.refl (.bl b)
 refine zh fun r1 hr1=>?_
 cases x with
 | non=>walk_at "ra";exact ⟨_,_,fin _,q⟩
 | bl b=>walk_at "ra";exact ⟨_,_,fin _,q⟩
 | str b=>walk_at "ra";exact ⟨_,_,fin _,q⟩
 | lst b=>walk_at "ra";exact ⟨_,_,fin _,q⟩
 | int i=>walk_at "ra";exact ⟨_,_,fin _,q⟩
 | ty _=>rw [dp] at hd;omega
 | rng _ _ _=>rw [dp] at hd;omega
 | scr _ _=>rw [dp] at hd;omega
 | tup l=>
  have hl:=hl l rfl
  walk_at "ra"
  cases l with
  | nil=>walk_at "ra";exact ⟨_,_,fin _,q⟩
  | cons w ps=>
   rw [if_neg (by rw [aT];omega)]
   subst hr1
   refine zh fun r1 hr1=>?_
   walk_at "ra"
   have a0:atI (AV.d w :: ps.map AV.d) 0=some (.d w):=by
    unfold atI
    rw [qQ (by omega) (by rw [aT];omega)]
    rfl
   refine ⟨_,a0,?_⟩
   have dw:dps (w :: ps)<=39:=by rw [dp] at hd;omega
   have dwi:∀ d ∈ w :: ps,dp d<=39:=yE dw
   subst hr1
   refine zh fun r1 hr1=>?_
   have no:(∀ t,w ≠ .str t)->Q (.d (.bl false)) M:=fun h=>by
    have e:qd (.tup (w :: ps)) n=false:=by
     unfold qd
     split
     ·rename_i w' ps' z
      cases z
      exact absurd rfl (h _)
     ·rfl
    rw [e] at q;exact q
   have dpw:=dwi w bD
   cases w with
   | non=>walk_at "ra";exact ⟨_,_,fin _,no fun _ z=>nomatch z⟩
   | bl b=>walk_at "ra";exact ⟨_,_,fin _,no fun _ z=>nomatch z⟩
   | lst b=>walk_at "ra";exact ⟨_,_,fin _,no fun _ z=>nomatch z⟩
   | tup b=>walk_at "ra";exact ⟨_,_,fin _,no fun _ z=>nomatch z⟩
   | int i=>walk_at "ra";exact ⟨_,_,fin _,no fun _ z=>nomatch z⟩
   | ty _=>rw [dp] at dpw;omega
   | rng _ _ _=>rw [dp] at dpw;omega
   | scr _ _=>rw [dp] at dpw;omega
   | str t=>
    walk_at "ra"
    refine ⟨_,Hr t,?_,?_⟩
    ·cases jj t <;> simp [oD,dp]
    have ee:eqD (oD (jj t)) (.int (((ps.length+1:Nat):Int) - 1))=(jj t == some (ps.length:Int)):=by
     cases jj t with
     | none=>show eqD .non (.int _)=_;rw [WY];rfl
     | some k=>
      show eqD (.int k) (.int _)=_
      rw [xB,show ((ps.length+1:Nat):Int) - 1=ps.length by omega]
      by_cases c:k=(ps.length:Int)
      ·simp [c]
      ·simp [c]
    rw [ee]
    have q:Q (.d (.bl (jj t == some (ps.length:Int) && ps.all (zZ · n)))) M:=q
    cases hp:jj t == some (ps.length:Int) with
    | false=>
     rw [if_pos rfl]
     rw [hp,Bool.false_and] at q
     exact ⟨_,_,fin _,q⟩
    | true=>
     rw [if_neg (fun z=>nomatch z)]
     rw [hp,Bool.true_and] at q
     subst hr1
     walk_at "ra"
     have ec:wr (Dat.str t :: ps) (some 1) none=ps:=by
      rw [show (some 1:Option Int)=some ((1:Nat):Int) from rfl,yQ];rfl
     rw [ec]
     refine ⟨?_,?_⟩
     ·rintro ⟨z,_⟩
      unfold HT.sIx at z
      simp at z
      try omega
     refine Z1 (fun (o:Option AV)=>[some (.d (.tup (.str t :: ps))),some (.d (.int n)),some (.d (.str t)),o]) (fun x=>match x with | .d d=>.d (.bl (zZ d n)) | x=>x) ⟨_,rfl⟩ trivial (by rw [aq];rw [aT] at hl;omega) (fun o x Q hx q=>?_) fun o=>?_
     ·obtain ⟨d,hd,rfl⟩:=br.mp hx
      walk_at "ra"
      exact ⟨d,n,rfl,by have:=dwi d (aX _ hd);omega,q (some (.d d))⟩
     ·refine ⟨ps.map fun d=>.bl (zZ d n),by rw [aY,<- qc (ps.map fun d=>.bl (zZ d n)),aY];rfl,ps.map (zZ · n),by rw [aY,aY];rfl,?_⟩
      rw [lO]
      exact ⟨_,_,fin _,q⟩
theorem Vx {pa:au}{t1 t2 t3 t4 u1 u2 u3 u4:Tok}{ep:Nat}(lP:K.lookup pa=some ⟨.type "dict",none,.dict #[⟨gL w "swap",.str "swap" t1,.int 2 u1⟩,⟨gL w "take",.str "take" t2,.int 1 u2⟩,⟨gL w "move",.str "move" t3,.int 2 u3⟩,⟨gL w "lay",.str "lay" t4,.int 1 u4⟩] ep,#[]⟩)(nP:(pa == dq)=false):KD K w pa Fy:=by
 refine ⟨⟨_,_,lP,fun P=>?_⟩,nP⟩
 refine ⟨fun e he=>?_,[(bG "swap",.int 2 u1),(bG "take",.int 1 u2),(bG "move",.int 2 u3),(bG "lay",.int 1 u4)],?_,?_,by show ([bG (af "swap"),bG (af "take"),bG (af "move"),bG (af "lay")]:List Key).Nodup;decide +kernel⟩
 ·have he:e ∈ [_,_,_,_]:=iK.mpr he
  rcases aA.mp he with z | he
  ·exact ⟨bG "swap",by rw [z];rfl,by rw [z];rfl⟩
  rcases aA.mp he with z | he
  ·exact ⟨bG "take",by rw [z];rfl,by rw [z];rfl⟩
  rcases aA.mp he with z | he
  ·exact ⟨bG "move",by rw [z];rfl,by rw [z];rfl⟩
  rw [cI.mp he]
  exact ⟨bG "lay",rfl,rfl⟩
 ·exact .cons ⟨rfl,_,rfl⟩ (.cons ⟨rfl,_,rfl⟩ (.cons ⟨rfl,_,rfl⟩ (.cons ⟨rfl,_,rfl⟩ .nil)))
 ·exact .cons rfl rfl (.cons rfl rfl (.cons rfl rfl (.cons rfl rfl .nil)))
abbrev RS:=ES × List Int
noncomputable def jg (s:ES)(ms:List Int)(a b:Nat):Except String RS:=if a=b then .error "same" else match s.1.getD a none,s.1.getD b none with
 | some x,some y=>.ok (((s.1.set a (some y)).set b (some x),s.2),ky (ky ms x) y)
 | _,_=>.error "empty"
noncomputable def qZ (s:ES)(ms:List Int)(a b:Nat):Except String RS:=if a=b then .error "same" else match s.1.getD b none with
 | some _=>.error "full"
 | none=>match s.1.getD a none with
  | some x=>.ok (((s.1.set a none).set b (some x),s.2),ky ms x)
  | none=>.error "empty"
noncomputable def jm (s:ES)(ms:List Int)(a:Nat):Except String RS:=match s.2 with
 | some _=>.error "full"
 | none=>match s.1.getD a none with
  | some x=>.ok ((s.1.set a none,some x),ky ms x)
  | none=>.error "empty"
noncomputable def kL (s:ES)(ms:List Int)(b:Nat):Except String RS:=match s.1.getD b none with
 | some _=>.error "full"
 | none=>match s.2 with
  | some x=>.ok ((s.1.set b (some x),none),ky ms x)
  | none=>.error "empty"
noncomputable def iN:Dat->Nat
 | .int i=>i.toNat
 | _=>0
noncomputable def doR (s:ES)(ms:List Int)(x:Dat):Except String RS:=if qd x s.1.length=true then (match x with
  | .tup (.str w :: ps)=>if w=af "swap" then jg s ms (iN (ps.getD 0 .non)) (iN (ps.getD 1 .non)) else if w=af "take" then jm s ms (iN (ps.getD 0 .non)) else if w=af "move" then qZ s ms (iN (ps.getD 0 .non)) (iN (ps.getD 1 .non)) else kL s ms (iN (ps.getD 0 .non))
  | _=>.error "form") else .error "form"
theorem xP {x:Dat} (h:qd x n=true):∃ (w:Str) (ps:List Dat),x=.tup (.str w :: ps)/\jj w=some (ps.length:Int)/\∀ d ∈ ps,∃ k:Nat,d=.int k/\k<n:=by
 unfold qd at h
 split at h
 ·rename_i w ps
  rw [dF] at h
  refine ⟨w,ps,rfl,eq_of_beq h.1,fun d hd=>?_⟩
  have:=d7.mp h.2 d hd
  cases d with
  | int i=>
   have:decide (0<=i/\i<(n:Int))=true:=this
   have:=of_decide_eq_true this
   exact ⟨i.toNat,by rw [Int.toNat_of_nonneg this.1],by omega⟩
  | _=>cases this
 ·cases h
theorem vd {w:Str}{ps:List Dat}{n:Nat}(h:jj w=some (ps.length:Int))(hp:∀ d ∈ ps,∃ k:Nat,d=.int k/\k<n)(hw:w=af "swap" \/ w=af "move"):∃ a b:Nat,ps=[.int a,.int b]/\a<n/\b<n:=by
 have e:jj w=some 2:=by rcases hw with rfl | rfl <;> rfl
 rw [e] at h
 have hl:ps.length=2:=by injection h with h;omega
 match ps,hl with
 | [x,y],_=>
  obtain ⟨a,rfl,ha⟩:=hp x (by simp)
  obtain ⟨b,rfl,hb⟩:=hp y (by simp)
  exact ⟨a,b,rfl,ha,hb⟩
theorem yP {w:Str} (h:jj w=some (ps.length:Int))(hp:∀ d ∈ ps,∃ k:Nat,d=.int k/\k<n)(h1:w ≠ af "swap")(h2:w ≠ af "move"):∃ a:Nat,ps=[.int a]/\a<n:=by
 have e:jj w=some 1 \/ jj w=none:=by
  unfold jj
  rw [if_neg h1]
  by_cases c:w=af "take"
  ·rw [if_pos c];exact .inl rfl
  rw [if_neg c,if_neg h2]
  by_cases c:w=af "lay"
  ·rw [if_pos c];exact .inl rfl
  rw [if_neg c];exact .inr rfl
 rcases e with e | e <;> rw [e] at h
 ·have hl:ps.length=1:=by injection h with h;omega
  match ps,hl with
  | [x],_=>
   obtain ⟨a,rfl,ha⟩:=hp x (by simp)
   exact ⟨a,rfl,ha⟩
 ·cases h
noncomputable def aDo (C cB:au):xX:=fun xs M Q E=>∃ (p rw_ mv:au) (s:ES) (ms:List Int) (x:Dat),xs=[.ref p,.d x]/\qi C M p rw_ mv s ms/\OkM s ms.length/\dp x<=40/\(∀ l,x=.tup l->l.length<=1000) /\
 (∀ w,doR s ms x=.error w->E cB (wrd w) M)/\(∀ t,doR s ms x=.ok t->Q (.d .non) (rmP C M p rw_ mv t.1 t.2))
noncomputable abbrev Li:cw:=(qS (top 10) 1)
theorem Gz:zu ["self","thing","word"] ["self","thing"] (zg Li):=⟨rfl,rfl,rfl,by decide +kernel,rfl,by decide +kernel,by decide +kernel⟩
theorem IA {C:au}(a:AtM K C "do" "Room.do" Li)(R:RTx K C)(B:Blt mg){cBadDeed:au}(MX_BadDeed:MkX P w K mg base cBadDeed 3 1 fnW)(XG_BadDeed:mg "BadDeed"=some (.ref cBadDeed))(D_is_deed:Df P w K mg base "is_deed" ["thing","n"] 4 (cSp XZ))(DM_swap:DmX P w K mg base C "swap" ["self","a","b"] 4 (jr (Gx C cBadDeed)))(DM_take:DmX P w K mg base C "take" ["self","a"] 4 (jr (WG C cBadDeed)))(DM_move:DmX P w K mg base C "move" ["self","a","b"] 4 (jr (GU C cBadDeed)))(DM_lay:DmX P w K mg base C "lay" ["self","b"] 4 (jr (Mj C cBadDeed))):DmX P w K mg base C "do" ["self","thing"] 5 (jr (aDo C cBadDeed)):=by
 refine VA (k:=4) a Gz (fun _ _ _ _ _ _=>Pn2_ fun _ _=>rfl) (fun xs M Q E h=>?_) (fun f cdv A outer s H HX OX MX E1 hr hD=>?_)
 ·obtain ⟨_,_,_,_,_,_,rfl,_⟩:=h;rfl
 have sc:=Gz
 have hsl:=hsl
 have CL:=R.cl
 refine ⟨_,(zc (zL (jG (jd (zX D_is_deed hr rfl (za (pv 1) (za (zn zt rfl B.len ql (za (qh (pv 0) rfl) zb)) zb))) (fun _=>rfl))) (zi (qD hD rfl MX_BadDeed hr rfl XG_BadDeed (za zj zb))) zx)
  (zc (zG (i:=2) sc.nd rfl (by first | exact bh rfl | exact bj rfl) (zv zD (pv 1) zf (fun _ _=>rfl)))
  (zi (zL (zp (zV hr.units) (pv 2) zj (zr _)) (zi (qR (xm CL DM_swap hr hD.passX (pv 0) (za (zv zD (pv 1) zf (fun _ _=>rfl)) (za (zv zD (pv 1) zf (fun _ _=>rfl)) zb))))) (zi (zL (zp (zV hr.units) (pv 2) zj (zr _)) (zi (qR (xm CL DM_take hr hD.passX (pv 0) (za (zv zD (pv 1) zf (fun _ _=>rfl)) zb)))) (zi (zL (zp (zV hr.units) (pv 2) zj (zr _)) (zi (qR (xm CL DM_move hr hD.passX (pv 0) (za (zv zD (pv 1) zf (fun _ _=>rfl)) (za (zv zD (pv 1) zf (fun _ _=>rfl)) zb))))) (zi (qR (xm CL DM_lay hr hD.passX (pv 0) (za (zv zD (pv 1) zf (fun _ _=>rfl)) zb)))))))))))),?_⟩
 refine exX (by walk_at "sim") ?_
 rintro xs Q E0 rfl ⟨p,rw_,mv,⟨row,hd⟩,ms,x,rfl,r,ok,hdp,hl,qe,q⟩
 rw [show zN ["self","thing","word"] [.ref p,.d x]=[some (.ref p),some (.d x),none] from rfl]
 refine zh fun r1 hr1=>?_
 walk_at "ra"
 refine ⟨_,_,r.ins,R.cl,R.nr,_,rfl,_,zz r.row,x,row.length,by rw [aq],hdp,hl,_,rfl,?_⟩
 cases hf:qd x row.length with
 | false=>
  rw [if_pos rfl]
  exact rz (qH Fr.refl .non) (qe "form" (by unfold doR;rw [if_neg (by show ¬ qd x row.length=true;rw [hf];exact fun z=>nomatch z)]))
 | true=>
  rw [if_neg (fun z=>nomatch z)]
  obtain ⟨w,ps,rfl,hpl,hps⟩:=xP hf
  have ed:doR (row,hd) ms (.tup (.str w :: ps))=if w=af "swap" then jg (row,hd) ms (iN (ps.getD 0 .non)) (iN (ps.getD 1 .non)) else if w=af "take" then jm (row,hd) ms (iN (ps.getD 0 .non)) else if w=af "move" then qZ (row,hd) ms (iN (ps.getD 0 .non)) (iN (ps.getD 1 .non)) else kL (row,hd) ms (iN (ps.getD 0 .non)):=by
   unfold doR;rw [if_pos (show qd (.tup (.str w :: ps)) row.length=true from hf)]
  rw [ed] at qe q
  subst hr1
  refine zh fun r1 hr1=>?_
  walk_at "ra"
  have a0:atI (AV.d (.str w) :: ps.map AV.d) 0=some (.d (.str w)):=by
   unfold atI
   rw [qQ (by omega) (by rw [aT];omega)]
   rfl
  refine ⟨_,a0,?_⟩
  subst hr1
  walk_at "ra"
  have f0:=qH (M0:=MX) Fr.refl .non
  by_cases w1:w=af "swap"
  ·rw [if_pos w1] at qe q ⊢
   obtain ⟨a,b,rfl,ha,hb⟩:=vd hpl hps (.inl w1)
   have qe:∀ w,jg (row,hd) ms a b=.error w->E0 cBadDeed (wrd w) MX:=qe
   have q:∀ t,jg (row,hd) ms a b=.ok t->Q (.d .non) (rmP C MX p rw_ mv t.1 t.2):=q
   refine ⟨_,r.ins,rfl,_,rfl,_,rfl,p,rw_,mv,(row,hd),ms,a,b,rfl,r,ha,hb,ok,fun hab=>⟨_,f0,qe "same" (by unfold jg;rw [if_pos hab])⟩,fun hab hh=>⟨_,f0,qe "empty" ?_⟩,fun hab x y hx hy=>⟨_,_,r.fin _ _ .non,q (_,_) ?_⟩⟩
   ·unfold jg
    rw [if_neg hab]
    dsimp only at hh ⊢
    rcases hh with hh | hh
    ·rw [hh]
    ·rw [hh];cases row.getD a none <;> rfl
   ·unfold jg
    rw [if_neg hab]
    dsimp only at hx hy ⊢
    rw [hx,hy];rfl
  rw [if_neg w1] at qe q ⊢
  by_cases w2:w=af "take"
  ·rw [if_pos w2] at qe q ⊢
   obtain ⟨a,rfl,ha⟩:=yP hpl hps w1 (by rw [w2];decide +kernel)
   have qe:∀ w,jm (row,hd) ms a=.error w->E0 cBadDeed (wrd w) MX:=qe
   have q:∀ t,jm (row,hd) ms a=.ok t->Q (.d .non) (rmP C MX p rw_ mv t.1 t.2):=q
   refine ⟨_,r.ins,rfl,_,rfl,p,rw_,mv,(row,hd),ms,a,rfl,r,ha,ok,fun hh=>⟨_,f0,qe "full" ?_⟩,fun hh hx=>⟨_,f0,qe "empty" ?_⟩,fun hh x hx=>⟨_,_,r.fin _ _ .non,q (_,_) ?_⟩⟩
   ·unfold jm
    cases hd with
    | none=>exact absurd rfl hh
    | some y=>rfl
   ·unfold jm
    dsimp only at hh hx ⊢
    rw [hh];dsimp only;rw [hx]
   ·unfold jm
    dsimp only at hh hx ⊢
    rw [hh];dsimp only;rw [hx];rfl
  rw [if_neg w2] at qe q ⊢
  by_cases w3:w=af "move"
  ·rw [if_pos w3] at qe q ⊢
   obtain ⟨a,b,rfl,ha,hb⟩:=vd hpl hps (.inr w3)
   have qe:∀ w,qZ (row,hd) ms a b=.error w->E0 cBadDeed (wrd w) MX:=qe
   have q:∀ t,qZ (row,hd) ms a b=.ok t->Q (.d .non) (rmP C MX p rw_ mv t.1 t.2):=q
   refine ⟨_,r.ins,rfl,_,rfl,_,rfl,p,rw_,mv,(row,hd),ms,a,b,rfl,r,ha,hb,ok,fun hab=>⟨_,f0,qe "same" (by unfold qZ;rw [if_pos hab])⟩,fun hab hh=>⟨_,f0,qe "full" ?_⟩,fun hab hb' hx=>⟨_,f0,qe "empty" ?_⟩,fun hab hb' x hx=>⟨_,_,r.fin _ _ .non,q (_,_) ?_⟩⟩
   ·unfold qZ
    rw [if_neg hab]
    dsimp only at hh ⊢
    cases z:row.getD b none with
    | none=>exact absurd z hh
    | some y=>rfl
   ·unfold qZ
    rw [if_neg hab]
    dsimp only at hb' hx ⊢
    rw [hb'];dsimp only;rw [hx]
   ·unfold qZ
    rw [if_neg hab]
    dsimp only at hb' hx ⊢
    rw [hb'];dsimp only;rw [hx];rfl
  rw [if_neg w3] at qe q ⊢
  obtain ⟨b,rfl,hb⟩:=yP hpl hps w1 w3
  have qe:∀ w,kL (row,hd) ms b=.error w->E0 cBadDeed (wrd w) MX:=qe
  have q:∀ t,kL (row,hd) ms b=.ok t->Q (.d .non) (rmP C MX p rw_ mv t.1 t.2):=q
  refine ⟨_,r.ins,rfl,_,rfl,p,rw_,mv,(row,hd),ms,b,rfl,r,hb,ok,fun hh=>⟨_,f0,qe "full" ?_⟩,fun hh hx=>⟨_,f0,qe "empty" ?_⟩,fun hh x hx=>⟨_,_,r.fin _ _ .non,q (_,_) ?_⟩⟩
  ·unfold kL
   dsimp only at hh ⊢
   cases z:row.getD b none with
   | none=>exact absurd z hh
   | some y=>rfl
  ·unfold kL
   dsimp only at hh hx ⊢
   rw [hh];dsimp only;rw [hx]
  ·unfold kL
   dsimp only at hh hx ⊢
   rw [hh];dsimp only;rw [hx];rfl
theorem G6 (c:Option Int):cA c=.d (oD c):=by cases c <;> rfl
theorem Es (row:List (Option Int)):pur (row.map cA)=some (row.map oD):=by
 rw [show row.map cA=(row.map oD).map AV.d by rw [aY];exact du fun c _=>G6 c,qc]
noncomputable def YB (C:au):ASp:=fun xs M Q=>∃ (p rw_ mv:au) (s:ES) (ms:List Int),xs=[.ref p]/\qi C M p rw_ mv s ms/\s.1.length<=1000/\Q (.d (.tup (s.1.map oD))) M
noncomputable abbrev Xp:cw:=(qS (top 10) 7)
theorem X6:zu ["self"] ["self"] (zg Xp):=⟨rfl,rfl,rfl,by decide +kernel,rfl,by decide +kernel,by decide +kernel⟩
theorem Eg (a:AtM K C "row_now" "Room.row_now" Xp)(R:RTx K C)(B:Blt mg):Dm P w K mg base C "row_now" ["self"] 1 (cSp (YB C)):=by
 refine dmA (k:=0) a X6 (fun _ _ _ _ _ _=>Pn1_ fun _=>rfl) (fun xs M Q h=>?_) (fun f cdv A outer s H E hr=>?_)
 ·obtain ⟨_,_,_,_,_,rfl,_⟩:=h;rfl
 have sc:=X6
 have hsl:=hsl
 have CL:=R.cl
 refine ⟨_,(zi (zC (zK qE rfl B.tuple qC (za (qh (pv 0) rfl) zb)))),?_⟩
 refine ex2 (by walk_at "sim") ?_
 rintro xs M Q ⟨p,rw_,mv,⟨row,hd⟩,ms,rfl,r,hl,q⟩
 rw [show zN ["self"] [.ref p]=[some (.ref p)] from rfl]
 walk_at "ra"
 refine ⟨_,_,r.ins,R.cl,R.nr,_,rfl,_,zz r.row,_,Es _,?_⟩
 exact ⟨_,_,qH Fr.refl _,q⟩
noncomputable def XY (C:au):ASp:=fun xs M Q=>∃ (p rw_ mv:au) (s:ES) (ms:List Int),xs=[.ref p]/\qi C M p rw_ mv s ms/\ms.length<=1000/\Q (.d (.tup (ms.map .int))) M
noncomputable abbrev J0:cw:=(qS (top 10) 9)
theorem X3:zu ["self"] ["self"] (zg J0):=⟨rfl,rfl,rfl,by decide +kernel,rfl,by decide +kernel,by decide +kernel⟩
theorem F1 (a:AtM K C "moved_now" "Room.moved_now" J0)(R:RTx K C)(B:Blt mg):Dm P w K mg base C "moved_now" ["self"] 1 (cSp (XY C)):=by
 refine dmA (k:=0) a X3 (fun _ _ _ _ _ _=>Pn1_ fun _=>rfl) (fun xs M Q h=>?_) (fun f cdv A outer s H E hr=>?_)
 ·obtain ⟨_,_,_,_,_,rfl,_⟩:=h;rfl
 have sc:=X3
 have hsl:=hsl
 have CL:=R.cl
 refine ⟨_,(zi (zC (zK qE rfl B.tuple qC (za (qh (pv 0) rfl) zb)))),?_⟩
 refine ex2 (by walk_at "sim") ?_
 rintro xs M Q ⟨p,rw_,mv,⟨row,hd⟩,ms,rfl,r,hl,q⟩
 rw [show zN ["self"] [.ref p]=[some (.ref p)] from rfl]
 walk_at "ra"
 refine ⟨_,_,r.ins,R.cl,R.nm,_,rfl,_,zz r.mvd,_,qw _,?_⟩
 exact ⟨_,_,qH Fr.refl _,q⟩
noncomputable def Wm (C:au):ASp:=fun xs M Q=>∃ (p rw_ mv:au) (s:ES) (ms:List Int),xs=[.ref p]/\qi C M p rw_ mv s ms/\Q (.d (oD s.2)) M
noncomputable abbrev KQ:cw:=(qS (top 10) 8)
theorem Yc:zu ["self"] ["self"] (zg KQ):=⟨rfl,rfl,rfl,by decide +kernel,rfl,by decide +kernel,by decide +kernel⟩
theorem Gg (a:AtM K C "hand_now" "Room.hand_now" KQ)(R:RTx K C)(B:Blt mg):Dm P w K mg base C "hand_now" ["self"] 1 (cSp (Wm C)):=by
 refine dmA (k:=0) a Yc (fun _ _ _ _ _ _=>Pn1_ fun _=>rfl) (fun xs M Q h=>?_) (fun f cdv A outer s H E hr=>?_)
 ·obtain ⟨_,_,_,_,_,rfl,_⟩:=h;rfl
 have sc:=Yc
 have hsl:=hsl
 have CL:=R.cl
 refine ⟨_,(zi (zC (qh (pv 0) rfl))),?_⟩
 refine ex2 (by walk_at "sim") ?_
 rintro xs M Q ⟨p,rw_,mv,⟨row,hd⟩,ms,rfl,r,q⟩
 rw [show zN ["self"] [.ref p]=[some (.ref p)] from rfl]
 walk_at "ra"
 refine ⟨_,_,r.ins,R.cl,R.nh,_,rfl,?_⟩
 rw [G6]
 exact ⟨_,_,qH Fr.refl _,q⟩
theorem QZ {s':ES}{ms':List Int}(t:qi C (rmP C M p rw_ mv s' ms') p rw_ mv s' ms')(d:Dat):yd M (rmP C M p rw_ mv s' ms') (.d d) (.d d) (rmP C M p rw_ mv s' ms'):=by
 refine ⟨fun q=>.inl rfl,fun q o e=>?_,.inl ⟨rfl,fun p z=>nomatch z⟩⟩
 by_cases c1:q=mv
 ·rw [c1,t.mvd] at e
  cases e
  exact .inr fun z hz=>absurd hz (j8 (ds:=ms'.map .int) (qw _) z)
 ·by_cases c2:q=rw_
  ·rw [c2,t.row] at e
   cases e
   refine .inr fun z hz=>?_
   obtain ⟨y,hy,hz⟩:=(show ∃ x ∈ s'.1.map cA,x.Has z from hz)
   obtain ⟨x,_,rfl⟩:=br.mp hy
   cases x <;> exact (show False from hz).elim
  ·by_cases c3:q=p
   ·rw [c3,t.ins] at e
    cases e
    refine .inr fun z hz=>?_
    obtain ⟨y,hy,hz⟩:=(show ∃ x ∈ [AV.ref rw_,cA s'.2,AV.ref mv],x.Has z from hz)
    simp only [aA,aK,or_false] at hy
    rcases hy with rfl | rfl | rfl
    ·obtain rfl:rw_=z:=hz
     rw [t.row];exact fun z=>nomatch z
    ·cases h:s'.2 <;> rw [h] at hz <;> exact (show False from hz).elim
    ·obtain rfl:mv=z:=hz
     rw [t.mvd];exact fun z=>nomatch z
   ·refine .inl ?_
    unfold rmP at e
    rw [zd c1,zd c2,zd c3] at e
    exact e
theorem VP {a b y:AV}:jF (af "moved") y [(af "row",a),(af "hand",b)]=[(af "row",a),(af "hand",b),(af "moved",y)]:=by
 unfold jF;rw [if_neg (by decide +kernel)];unfold jF;rw [if_neg (by decide +kernel)];unfold jF;rfl
noncomputable def Jn (C:au):ASp:=fun xs M Q=>∃ (p:au) (n:Nat),xs=[.ref p,.d (.int n)]/\M p=some (.ins C [])/\n<=1000 /\
 ∀ rw_ mv,M rw_=none->M mv=none->rw_ ≠ mv->rw_ ≠ p->mv ≠ p->Q (.d .non) (rmP C M p rw_ mv ((qj 0 1 n).map some,none) (aF n 0))
noncomputable abbrev Qd:cw:=(qS (top 10) 0)
theorem QK:zu ["self","n"] ["self","n"] (zg Qd):=⟨rfl,rfl,rfl,by decide +kernel,rfl,by decide +kernel,by decide +kernel⟩
theorem Ba (a:AtM K C "__init__" "Room.__init__" Qd)(R:RTx K C)(B:Blt mg):Dm P w K mg base C "__init__" ["self","n"] 1 (cSp (Jn C)):=by
 refine dmA (k:=0) a QK (fun _ _ _ _ _ _=>Pn2_ fun _ _=>rfl) (fun xs M Q h=>?_) (fun f cdv A outer s H E hr=>?_)
 ·obtain ⟨_,_,rfl,_⟩:=h;rfl
 have sc:=QK
 have hsl:=hsl
 have CL:=R.cl
 refine ⟨_,(zc (xJ (pv 0) (jq (zK (xZ rfl) rfl B.list qT (za (zK vk rfl B.range Q2 (za (pv 1) zb)) zb))) rfl)
  (zc (xJ (pv 0) zS rfl)
  (zi (xJ (pv 0) (jq (zE wR (zU (za zf zb)) (pv 1))) rfl)))),?_⟩
 refine ex2 (by walk_at "sim") ?_
 rintro xs M Q ⟨p,n,rfl,hp,hn,q⟩
 rw [show zN ["self","n"] [.ref p,.d (.int n)]=[some (.ref p),some (.d (.int n))] from rfl]
 refine zh fun r1 hr1=>?_
 walk_at "ra"
 refine ⟨_,_,_,rfl,small_one (by omega) (by omega) (by omega) (by omega),n,by rw [i9];split <;> omega,by omega,fun rw_ hrw _=>?_⟩
 have np:p ≠ rw_:=fun z=>by rw [z,hrw] at hp;cases hp
 refine ⟨C,[],by rw [zd np];exact hp,R.cl,R.nr,dJ rfl,?_⟩
 subst hr1
 refine zh fun r1 hr1=>?_
 walk_at "ra"
 refine ⟨_,_,ze,R.cl,R.nh,dJ rfl,?_⟩
 subst hr1
 walk_at "ra"
 rw [if_neg (show ¬ af "row"=af "hand" by decide +kernel)]
 refine ⟨by omega,by omega,by omega,by omega,fun mv hmv _=>?_⟩
 have n1:mv ≠ p:=fun z=>by rw [z,ze] at hmv;cases hmv
 rw [zd n1] at hmv
 have n2:mv ≠ rw_:=fun z=>by rw [z,ze] at hmv;cases hmv
 rw [zd n2] at hmv
 refine ⟨C,_,by rw [zd (Ne.symm n1),ze],R.cl,R.nm,dJ rfl,?_⟩
 rw [VP,Az,bz]
 have e1:(MO.lst ((qj 0 1 n).map fun i=>AV.d (.int i)))=Y1 ((qj 0 1 n).map some):=by show MO.lst _=MO.lst _;rw [aY];rfl
 have e2:MO.lst (aF n (AV.d (.int 0)))=msA (aF n 0):=by show MO.lst _=MO.lst _;rw [gH]
 rw [e1,e2]
 have em:∀ (x y:MO),mup (mup (mup (mup M rw_ (Y1 ((qj 0 1 n).map some))) p x) mv (msA (aF n 0))) p (DK C rw_ mv none)=rmP C M p rw_ mv ((qj 0 1 n).map some,none) (aF n 0):=fun x _=>by
  funext b
  unfold rmP mup
  by_cases c1:b=mv
  ·have:¬ b=p:=fun z=>n1 (c1.symm.trans z)
   simp [c1,n1]
  ·by_cases c2:b=rw_
   ·have:¬ b=p:=fun z=>np (z.symm.trans c2)
    simp [c1,c2,Ne.symm np,Ne.symm n2]
   ·by_cases c3:b=p <;> simp [c1,c2,c3,np,Ne.symm n1]
 show rtA M Q (.d .non) (mup (mup (mup (mup M rw_ (Y1 ((qj 0 1 n).map some))) p _) mv (msA (aF n 0))) p (DK C rw_ mv none))
 rw [em _ (.lst [])]
 have t:qi C (rmP C M p rw_ mv ((qj 0 1 n).map some,none) (aF n 0)) p rw_ mv ((qj 0 1 n).map some,none) (aF n 0):=by
  unfold rmP
  exact ⟨by rw [zd (Ne.symm n1),zd np,ze],by rw [zd (Ne.symm n2),ze],ze,Ne.symm n2⟩
 exact ⟨_,_,QZ t .non,q rw_ mv hrw hmv (Ne.symm n2) (Ne.symm np) n1⟩
theorem MkX.mono {j k n:Nat}{fn:List V->List (Str × V)}(m:MkX P w K mg base C j n fn)(h:j<=k):MkX P w K mg base C k n fn:=
 let ⟨f,fd,ps,q,F,r⟩:=m
 ⟨f,fd,ps,q,F.mono h,r⟩
noncomputable abbrev wl:cw:=(qS (top 2) 0)
theorem ZA:zu ["self","word"] ["self","word"] (zg wl):=⟨rfl,rfl,rfl,by decide +kernel,rfl,by decide +kernel,by decide +kernel⟩
theorem ID {C f:au}{fd:cV}(F:Fun K "__init__" "BadDeed.__init__" wl f fd)(q:jR K C wH "ValueError.__new__" f=true)(hf:cZ K (.ref f)=true)(S:yC K C "word"):MkX P w K mg base C 1 1 fnW:=by
 refine AQ (k:=0) F ZA (fun _ _ _ _ _ _=>Pn2_ fun _ _=>rfl) q hf rfl (fun cdv A outer s H E=>?_)
 have sc:=ZA
 refine ⟨_,(zi (yG (pv 0) (pv 1) rfl)),?_⟩
 intro a t0 us Q hl ha hq
 match us,hl with
 | [v],_=>
  show Jw _ _ _ _ _ _ _
  refine ⟨v,rfl,.ref a,rfl,a,C,t0,rfl,S,.inl ⟨ha,fun dx hd hne=>hq dx hd hne⟩⟩
noncomputable def Xc (s:ES)(x:Dat):String:=match doR s [] x with
 | .error w=>w
 | .ok _=>""
theorem VJ {x:Dat}(h:qd x s.1.length=false):Xc s x="form":=by
 unfold Xc doR
 rw [if_neg (by rw [h];exact fun z=>nomatch z)]
theorem Qb (t:Str)(l:List Str):inV (.str t) (l.map V.str)=decide (t ∈ l):=by
 induction l with
 | nil=>rfl
 | cons a l ih=>
  show (eqV (.str a) (.str t) || inV (.str t) (l.map V.str))=_
  rw [ih]
  show ((a == t) || decide (t ∈ l))=_
  by_cases c:a=t
  ·subst c;simp
  ·have:(a == t)=false:=by simpa using c
   rw [this,Bool.false_or]
   have na:t ≠ a:=fun z=>c z.symm
   simp [na]
theorem in4 (t:Str):inV (.str t) [.str (af "swap"),.str (af "take"),.str (af "move"),.str (af "lay")]=(jj t).isSome:=by
 rw [show [V.str (af "swap"),.str (af "take"),.str (af "move"),.str (af "lay")]=[af "swap",af "take",af "move",af "lay"].map V.str from rfl,Qb]
 unfold jj
 by_cases c1:t=af "swap"
 ·simp [c1]
 by_cases c2:t=af "take"
 ·simp [c2];split <;> rfl
 by_cases c3:t=af "move"
 ·simp [c3];repeat' split <;> try rfl
 by_cases c4:t=af "lay"
 ·simp [c4];repeat' split <;> try rfl
 simp [c1,c2,c3,c4]
theorem in2 (t:Str):inV (.str t) [.str (af "swap"),.str (af "move")]=decide (t=af "swap" \/ t=af "move"):=by
 rw [show [V.str (af "swap"),.str (af "move")]=[af "swap",af "move"].map V.str from rfl,Qb]
 simp
theorem xj {a:Nat}(h:a<row.length):atI ((row.map oD).map AV.d) (a:Int)=some (.d (oD (row.getD a none))):=by
 unfold atI
 rw [aq,aq,qQ (by omega) (by omega),bz]
 show ((row.map oD).map AV.d)[a]?=_
 rw [aE,aE,am h,ay,am h];rfl
noncomputable def vC:Option Int->V
 | none=>.non
 | some x=>.int x
theorem Mm (c:Option Int):flD (oD c)=some (vC c):=by cases c <;> rfl
theorem Hv (cs:List (Option Int)):Xm (cs.map fun c=>AV.d (oD c))=some (cs.map vC):=by
 induction cs with
 | nil=>rfl
 | cons c cs ih=>
  show (match flD (oD c),Xm (cs.map fun c=>AV.d (oD c)) with | some v,some l=>some (v :: l) | _,_=>none)=_
  rw [Mm,ih];rfl
theorem MG (cs:List (Option Int)):inV .non (cs.map vC)=cs.any (·.isNone):=by
 induction cs with
 | nil=>rfl
 | cons c cs ih=>
  show (eqV (vC c) .non || inV .non (cs.map vC))=_
  rw [ih]
  cases c <;> rfl
theorem wJ {row : List (Option Int)}{h x u : Option AV}{M : MH}{Q : AK}{ks : List Nat}{nx : ASt -> MH -> Prop}(hk : ∀ k ∈ ks, k < row.length)(hl : ks.length <= 1000)(q : Q (.d (.str (af (if (ks.map fun k => row.getD k none).any (·.isNone) = true then "empty" else "")))) M) :
    VT (aIf (aB (aOp (aIn false) (aC Dat.non) (aFz (Jk [3] (aiS (qp 4)) (kh 3) vj (xy (aOp (aIx qO) (qp 0) (qp 3))))))) (aC (Dat.str (af "empty"))) (aC (Dat.str (af ""))))
      M { nx:=nx,rt:=rtA M Q } [some (.d (.lst (row.map oD))),h,x,u,some (.d (.tup (ks.map fun k:Nat=>Dat.int k)))] M:=by
  walk_at "ra"
  refine Z1 (fun (o:Option AV)=>[some (.d (.lst (row.map oD))),h,x,o,some (.d (.tup (ks.map fun k:Nat=>Dat.int k)))]) (fun y=>match y with | .d (.int k)=>.d (oD (row.getD k.toNat none)) | y=>y) ⟨_,rfl⟩ trivial (by rw [aq,aq];omega) (fun o y Q hy q=>?_) fun o=>?_
  · obtain ⟨d,hd,rfl⟩:=br.mp hy
    obtain ⟨k,hk',rfl⟩:=br.mp hd
    walk_at "ra"
    exact ⟨_,xj (hk k hk'),q (some (.d (.int k)))⟩
  · have e : ((ks.map fun k : Nat => Dat.int k).map AV.d).map (fun y => match y with | .d (.int k) => AV.d (oD (row.getD k.toNat none)) | y => y) = (ks.map fun k => row.getD k none).map fun c => AV.d (oD c) := by
      simp only [aY];exact du fun _ _=>rfl
    rw [e]
    generalize (ks.map fun k=>row.getD k none)=cs at *
    have e2:(cs.map fun c=>AV.d (oD c))=(cs.map oD).map AV.d:=by rw [aY];rfl
    refine ⟨cs.map oD,by rw [e2];exact qc _,?_⟩
    refine ⟨_,rfl,_,by rw [<- e2];exact Hv cs,?_⟩
    rw [MG]
    by_cases c:cs.any (·.isNone)=true
    · rw [if_pos c] at q ⊢;exact ⟨_,_,qH Fr.refl _,q⟩
    · rw [if_neg c] at q ⊢;exact ⟨_,_,qH Fr.refl _,q⟩
theorem Lg {t:Str}{k:Int}(h:jj t=some k):k=1+if t=af "swap" \/ t=af "move" then 1 else 0:=by
 unfold jj at h
 by_cases c1:t=af "swap"
 ·rw [if_pos c1] at h;cases h;rw [if_pos (.inl c1)];rfl
 rw [if_neg c1] at h
 by_cases c2:t=af "take"
 ·rw [if_pos c2] at h;cases h;rw [if_neg (by rw [c2];decide +kernel)];rfl
 rw [if_neg c2] at h
 by_cases c3:t=af "move"
 ·rw [if_pos c3] at h;cases h;rw [if_pos (.inr c3)];rfl
 rw [if_neg c3] at h
 by_cases c4:t=af "lay"
 ·rw [if_pos c4] at h;cases h;rw [if_neg (by rw [c4];decide +kernel)];rfl
 rw [if_neg c4] at h;cases h
theorem tIn {i:Nat}{w a b:Str} (hρ:ρ[i]?=some (some (.d (.tup (.str w :: ps))))):Tst (aB (aOp (aIn false) (aOp (aIx qO) (qp i) (aC (.int 0))) (Dz (zT (aC (.str a)) (zT (aC (.str b)) jz))))) ρ M (decide (w=a \/ w=b)):=fun Q q=>by
 refine ⟨_,hρ,_,0,.d (.str w),rfl,rfl,vT,bK rfl,_,rfl,_,_,_,_,rfl,rfl,rfl,rfl,_,rfl,?_⟩
 rw [show (if false=true then !inV (.str w) [V.str a,V.str b] else inV (.str w) [V.str a,V.str b])=decide (w=a \/ w=b) by
  rw [if_neg (fun z=>nomatch z),show [V.str a,V.str b]=[a,b].map V.str from rfl,Qb];simp]
 exact q
theorem tL3 {i:Nat}{l:List Dat} (hρ:ρ[i]?=some (some (.d (.tup l)))):Tst (aB (aOp (y6 id) (aCB Jy (zT (qp i) jz)) (aC (.int 3)))) ρ M (decide ((l.length:Int)=3)):=fun Q q=>by
 refine ⟨_,hρ,_,_,rfl,rfl,_,_,rfl,rfl,by rw [jc];omega,by rw [jc];omega,_,rfl,?_⟩
 rw [xB,aq]
 exact q
theorem EH {i:Nat}{t:Str}{a b:Nat} (hρ:ρ[i]?=some (some (.d (.tup [.str t,.int (a:Int),.int (b:Int)])))):Tst (aB (aOp (y6 id) (aOp (aIx qO) (qp i) (aC (.int 1))) (aOp (aIx qO) (qp i) (aC (.int 2))))) ρ M (decide ((a:Int)=(b:Int))):=fun Q q=>by
 refine ⟨_,hρ,_,_,_,rfl,rfl,rfl,_,hρ,_,_,_,rfl,rfl,rfl,_,_,rfl,rfl,by rw [jc];omega,by rw [jc];omega,_,rfl,?_⟩
 rw [xB]
 exact q
theorem Fh {l:List Dat}{b:Nat} (h0:ρ[0]?=some (some (.d (.lst (row.map oD)))))(hρ:ρ[2]?=some (some (.d (.tup l))))(hz:atI (l.map AV.d) (-1)=some (.d (.int (b:Int))))(hb:b<row.length):Tst (aB (aOp (Vs not) (aOp (aIx qO) (qp 0) (aOp (aIx qO) (qp 2) (aUn (aU fun i=>.int (-i)) (aC (.int 1))))) (aC .non))) ρ M (!jP (.d (oD (row.getD b none)))):=fun Q q=>
 ⟨_,h0,_,hρ,_,rfl,_,_,_,rfl,rfl,hz,_,_,_,rfl,rfl,xj hb,rfl,_,rfl,q⟩
theorem tL0 {i:Nat}{l:List Dat} (hρ:ρ[i]?=some (some (.d (.tup l)))):Tst (aB (aOp (y6 id) (aCB Jy (zT (qp i) jz)) (aC (.int 0)))) ρ M (decide ((l.length:Int)=0)):=fun Q q=>by
 refine ⟨_,hρ,_,_,rfl,rfl,_,_,rfl,rfl,by rw [jc];omega,by rw [jc];omega,_,rfl,?_⟩
 rw [xB,aq]
 exact q
noncomputable def Wk:Dat->Bool
 | .tup (.str _ :: _)=>true
 | _=>false
theorem tFm {i:Nat}{x:Dat}{ρ:ASt}{M:MH}(h2:ρ[i]?=some (some (.d x)))(hx:dp x<=40):Tst (aOr (QS (aB (aCB wX (zT (qp i) (zT (aC (.ty "tuple")) jz))))) (aOr (aB (aOp (y6 id) (aCB Jy (zT (qp i) jz)) (aC (.int 0)))) (QS (aB (aCB wX (zT (aOp (aIx qO) (qp i) (aC (.int 0))) (zT (aC (.ty "str")) jz))))))) ρ M (!Wk x):=by
 cases x with
 | ty _=>rw [dp] at hx;omega
 | rng _ _ _=>rw [dp] at hx;omega
 | scr _ _=>rw [dp] at hx;omega
 | tup l=>
  have yes:=tNt (Qe (c:="tuple") (M:=M) h2 rfl (ZY))
  cases l with
  | nil=>exact qP yes (wI (zy (tL0 h2) rfl))
  | cons w ps=>
   have l0:decide (((w :: ps).length:Int)=0)=false:=decide_eq_false (by rw [aT];omega)
   have dw:dp w<=39:=by
    have e:dps (w :: ps)<=39:=by rw [dp] at hx;omega
    exact yE e w bD
   refine qP yes (qP (zy (tL0 h2) l0) ?_)
   cases w with
   | ty _=>rw [dp] at dw;omega
   | rng _ _ _=>rw [dp] at dw;omega
   | scr _ _=>rw [dp] at dw;omega
   | str _=>exact tNt (V1 h2 rfl v6)
   | non=>exact tNt (V1 h2 rfl Z8)
   | bl _=>exact tNt (V1 h2 rfl Ke)
   | lst _=>exact tNt (V1 h2 rfl AL)
   | tup _=>exact tNt (V1 h2 rfl Wv)
   | int _=>exact tNt (V1 h2 rfl KZ)
 | non=>exact tNo h2 rfl Ww
 | bl _=>exact tNo h2 rfl Ak
 | str _=>exact tNo h2 rfl Wx
 | lst _=>exact tNo h2 rfl Z9
 | int _=>exact tNo h2 rfl D6
theorem Mn {x:Dat}(h:Wk x=true):∃ t ps,x=.tup (.str t :: ps):=by
 unfold Wk at h
 split at h
 ·exact ⟨_,_,rfl⟩
 ·cases h
theorem L9 {x:Dat}{n:Nat}(h:Wk x=false):qd x n=false:=by
 cases e:qd x n with
 | false=>rfl
 | true=>
  obtain ⟨w,ps,rfl,_⟩:=xP e
  cases h
theorem tPl {row:List (Option Int)}{d:Dat}{ρ:ASt}{M:MH}(h0:ρ[0]?=some (some (.d (.lst (row.map oD)))))(h3:ρ[3]?=some (some (.d d)))(hd:dp d<=40):Tst (aOr (QS (aB (aCB wX (zT (qp 3) (zT (aC (.ty "int")) jz))))) (aOr (aB (aCB wX (zT (qp 3) (zT (aC (.ty "bool")) jz)))) (QS (aB (Xs (aI0 fun i j=>.bl (decide (i<=j))) (aI0 fun i j=>.bl (decide (i<j))) (aC (.int 0)) (qp 3) (aCB Jy (zT (qp 0) jz))))))) ρ M (!zZ d row.length):=by
 cases d with
 | ty _=>rw [dp] at hd;omega
 | rng _ _ _=>rw [dp] at hd;omega
 | scr _ _=>rw [dp] at hd;omega
 | non=>exact tNo h3 rfl W4
 | bl _=>exact qP (tNt (Qe h3 rfl K6)) (wI (Qe h3 rfl ZS))
 | str _=>exact tNo h3 rfl Dg
 | lst _=>exact tNo h3 rfl Dj
 | tup _=>exact tNo h3 rfl Wn
 | int j=>
  refine qP (tNt (Qe h3 rfl KY)) (qP (Qe h3 rfl ZX) (tNt fun Q q=>?_))
  by_cases c1:0<=j
  ·refine ⟨_,h3,_,_,rfl,rfl,_,rfl,?_⟩
   rw [if_pos (decide_eq_true c1)]
   refine ⟨_,h0,_,_,rfl,rfl,_,_,rfl,rfl,_,rfl,?_⟩
   rw [aq,aq]
   rw [show zZ (.int j) row.length=decide (j<(row.length:Int)) from decide_eq_decide.mpr ⟨And.right,fun z=>⟨c1,z⟩⟩] at q
   exact q
  ·refine ⟨_,h3,_,_,rfl,rfl,_,rfl,?_⟩
   rw [if_neg (fun z=>c1 (of_decide_eq_true z))]
   rw [show zZ (.int j) row.length=false from decide_eq_false fun z=>c1 z.1] at q
   exact ⟨_,rfl,q⟩
theorem MU:¬(HT.sIx 3 0 (some 1)=0/\HT.sIx 3 3 none=3):=by decide
theorem Nc:¬(HT.sIx 2 0 (some 1)=0/\HT.sIx 2 2 (some 2)=2):=by decide
theorem Nh:¬(HT.sIx 3 0 (some 1)=0/\HT.sIx 3 3 (some 2)=3):=by decide
theorem LY:decide (af "swap"=af "take")=false:=by decide +kernel
theorem Mz:decide (af "swap"=af "lay")=false:=by decide +kernel
theorem LR:decide (af "swap"=af "move" \/ af "swap"=af "lay")=false:=by decide +kernel
theorem Mx:decide (af "take"=af "move" \/ af "take"=af "lay")=false:=by decide +kernel
theorem Mw:decide (af "take"=af "lay")=false:=by decide +kernel
theorem LZ:decide (af "take"=af "swap")=false:=by decide +kernel
theorem G5:decide (af "move"=af "take")=false:=by decide +kernel
theorem Mu:decide (af "move"=af "lay")=false:=by decide +kernel
theorem L7:decide (af "move"=af "swap")=false:=by decide +kernel
theorem GZ:decide (af "lay"=af "take")=false:=by decide +kernel
theorem yw {t u:Str}:decide (t=t \/ t=u)=true:=decide_eq_true (.inl rfl)
theorem yw' {t u:Str}:decide (u=t \/ u=u)=true:=decide_eq_true (.inr rfl)
noncomputable def L4:ASp:=fun xs M Q=>∃ (s:ES) (x:Dat),xs=[.d (.lst (s.1.map oD)),.d (oD s.2),.d x]/\dp x<=40/\(∀ l,x=.tup l->l.length<=1000)/\s.1.length<=1000/\Q (.d (.str (af (Xc s x)))) M
noncomputable abbrev Kl:cw:=top 24
theorem YI:zu ["_law_row","_law_hand","_law_thing","_law_place","_law_some"] ["_law_row","_law_hand","_law_thing"] (zg Kl):=⟨rfl,rfl,rfl,by decide +kernel,rfl,by decide +kernel,by decide +kernel⟩
theorem F2 (a:At K mg "_law_why" Kl)(B:Blt mg):Df P w K mg base "_law_why" ["_law_row","_law_hand","_law_thing"] 1 (cSp L4):=by
  refine dfA (k:=0) a YI (fun _ _ _ _ _ _=>Pn3_ fun _ _ _=>rfl) (fun xs M Q h=>?_) (fun f cdv A outer s H E hr=>?_)
  · obtain ⟨_,_,rfl,_⟩:=h;rfl
  have sc:=YI
  have hsl:=hsl
  refine ⟨_,(zc (zL (PW.pt (kA (jG (jd (zn qa rfl B.isinstance zw (za (pv 2) (za (zY (v:=.ty "tuple") rfl B.tuple qC rfl) zb))) (fun _=>rfl))) (kA (zp (zV hr.units) (zn zt rfl B.len ql (za (pv 2) zb)) zf (zr _)) (jW (jG (jd (zn qa rfl B.isinstance zw (za (zv zD (pv 2) zf (fun _ _=>rfl)) (za (zY (v:=.ty "str") rfl B.str vY rfl) zb))) (fun _=>rfl))))))) (zi (zC zj)) zx)
    (zc (zL (PW.pt (kA (zp Qh (zv zD (pv 2) zf (fun _ _=>rfl)) (zB (za zj (za zj (za zj (za zj zb))))) rfl) (jW (zp (jB hr.units) (zn zt rfl B.len ql (za (pv 2) zb)) (zE qV zf (zK yS rfl B.int yV (za (qU yR (zv zD (pv 2) zf (fun _ _=>rfl)) (zB (za zj (za zj zb))) rfl) zb))) (zr _))))) (zi (zC zj)) zx)
    (zc (xK dO rfl (wL (jS vX (pv 2) (jN zf) yq)) (zR (i:=3) sc.nd rfl (by first | exact bh rfl | exact bj rfl)) (zi (zL (PW.pt (kA (jG (jd (zn qa rfl B.isinstance zw (za (pv 3) (za (zY (v:=.ty "int") rfl B.int yV rfl) zb))) (fun _=>rfl))) (kA (jd (zn qa rfl B.isinstance zw (za (pv 3) (za (zY (v:=.ty "bool") rfl B.bool vP rfl) zb))) (fun _=>rfl)) (jW (jG (Bg GH G8 zf (pv 3) (zn zt rfl B.len ql (za (pv 0) zb)))))))) (zi (zC zj)) zx)))
    (zc (zL (PW.pt (ye (zp (zV hr.units) (zn zt rfl B.len ql (za (pv 2) zb)) zf (zr _)) (kS (zp (zV hr.units) (zv zD (pv 2) zf (fun _ _=>rfl)) (zv zD (pv 2) zf (fun _ _=>rfl)) (zr _))))) (zi (zC zj)) zx)
    (zc (zL (PW.pt (kA (PW.pt (ye (zp (zV hr.units) (zv zD (pv 2) zf (fun _ _=>rfl)) zj (zr _)) (kS (zp jJ (pv 1) zS (zr _))))) (jW (PW.pt (ye (zp yR (zv zD (pv 2) zf (fun _ _=>rfl)) (zB (za zj (za zj zb))) rfl) (kS (zp jJ (zv zD (pv 0) (zv zD (pv 2) (GB A7 zf) (fun _ _=>rfl)) (fun _ _=>rfl)) zS (zr _)))))))) (zi (zC zj)) zx)
    (zc (zL (zp (zV hr.units) (zv zD (pv 2) zf (fun _ _=>rfl)) zj (zr _)) (zi (zC (yK (zp ka (pv 1) zS (zr _)) zj zj))) zx)
    (zc (zG (i:=4) sc.nd rfl (by first | exact bh rfl | exact bj rfl) (yK (zp (zV hr.units) (zv zD (pv 2) zf (fun _ _=>rfl)) zj (zr _)) (jS vX (pv 2) (jN zf) yq) (jS vX (pv 2) (jN zf) (jN zf))))
    (zi (zC (yK (zp yR zS (yM (ts:=[3]) rfl rfl (wL (pv 4)) (fun _ _ _ _=>(zR (i:=3) sc.nd rfl (by first | exact bh rfl | exact bj rfl))) (fun _ _ _ _=>kU) (fun _ _ _ _=>(zv (ZU (K:=K) rfl) (pv 0) (pv 3) (fun _ _=>rfl)))) rfl) zj zj)))))))))),?_⟩
  refine ex2 (by walk_at "sim") ?_
  rintro xs M Q ⟨⟨row,hd⟩,x,rfl,hdp,hl,hr_,q⟩
  rw [show zN ["_law_row","_law_hand","_law_thing","_law_place","_law_some"] [.d (.lst (row.map oD)),.d (oD hd),.d x]=[some (.d (.lst (row.map oD))),some (.d (oD hd)),some (.d x),none,none] from rfl]
  have fin:=fun b=>qH (M0:=M) Fr.refl (.str b)
  have no:qd x row.length=false->Q (.d (.str (af "form"))) M:=fun h=>by rw [VJ h] at q;exact q
  cases hf0:Wk x with
  | false=>exact kg (zy (tFm rfl hdp) (by rw [hf0];rfl)) ⟨_,_,fin _,no (L9 hf0)⟩
  | true =>
        refine qg (zy (tFm rfl hdp) (by rw [hf0];rfl)) ?_
        obtain ⟨t,ps,rfl⟩:=Mn hf0
        have hl:=hl _ rfl
        have dw:dps (.str t :: ps)<=39:=by rw [dp] at hdp;omega
        have dwi:∀ d ∈ .str t :: ps,dp d<=39:=yE dw
        have dpw:=dwi (.str t) bD
        have a0:atI (AV.d (.str t) :: ps.map AV.d) 0=some (.d (.str t)):=vT
        refine zh fun r1 hr1=>?_
        walk_at "ra"
        refine ⟨_,a0,by omega,_,rfl,_,rfl,_,rfl,?_⟩
        rw [in4]
        have q0:qd (.tup (.str t :: ps)) row.length=(jj t == some (ps.length:Int) && ps.all (zZ · row.length)):=rfl
        cases hp:jj t with
        | none=>
          rw [if_pos (show (none:Option Int).isSome=false from rfl)]
          exact ⟨_,_,fin _,no (by rw [q0,hp];rfl)⟩
        | some k=>
          rw [if_neg (fun z=>nomatch z)]
          refine ⟨_,a0,by omega,_,rfl,_,rfl,_,rfl,?_⟩
          rw [in2]
          have hk:=Lg hp
          have ee:(if decide (t=af "swap" \/ t=af "move")=true then (1:Int) else 0)=k - 1:=by
            by_cases cc:t=af "swap" \/ t=af "move"
            · rw [if_pos cc] at hk;rw [if_pos (decide_eq_true cc)];omega
            · rw [if_neg cc] at hk;rw [if_neg (fun z=>cc (of_decide_eq_true z))];omega
          rw [ee]
          by_cases ck:k=(ps.length:Int)
          case neg=>
            rw [if_pos (by omega)]
            exact ⟨_,_,fin _,no (by rw [q0,hp,show (some k == some (ps.length:Int))=false by simpa using ck];rfl)⟩
          rw [if_neg (by omega)]
          subst hr1
          refine zh fun r1 hr1=>?_
          walk_at "ra"
          have ec:wr (Dat.str t :: ps) (some 1) none=ps:=by
            rw [show (some 1:Option Int)=some ((1:Nat):Int) from rfl,yQ];rfl
          rw [ec]
          have nsl:¬(HT.sIx (ps.length+1) 0 (some 1)=0/\HT.sIx (ps.length+1) (ps.length+1) none=ps.length+1):=by
            rintro ⟨z,_⟩
            unfold HT.sIx at z
            simp at z
            try omega
          refine ⟨nsl,?_⟩
          have hpl:jj t=some (ps.length:Int):=by rw [hp,ck]
          refine ⟨fun i ρ M'=>M=M'/\(∃ u,ρ=[some (.d (.lst (row.map oD))),some (.d (oD hd)),some (.d (.tup (.str t :: ps))),u,none])/\∀ d ∈ ps.take i,zZ d row.length=true,⟨rfl,⟨_,rfl⟩,by simp⟩,?_,?_⟩
          · rintro i y ρ M' hy ⟨rfl,⟨u,rfl⟩,hpr⟩
            refine ⟨trivial,?_⟩
            rw [aE] at hy
            cases e:ps[i]? with
            | none=>rw [e] at hy;cases hy
            | some d=>
              rw [e] at hy
              cases hy
              have hmem:=aR e
              have dd:=dwi d (aX _ hmem)
              have bad:zZ d row.length=false->Q (.d (.str (af "form"))) M:=fun h=>no (by
                rw [q0,hpl]
                have:ps.all (zZ · row.length)=false:=by
                  rw [List.all_eq_false]
                  exact ⟨d,hmem,by rw [h];exact fun z=>nomatch z⟩
                rw [this,fJ])
              have good:zZ d row.length=true->∀ x ∈ ps.take (i+1),zZ x row.length=true:=fun h x hx=>by
                rw [List.take_succ,e] at hx
                rcases cq.mp hx with z | z
                · exact hpr x z
                · rw [cI.mp z];exact h
              cases hpd:zZ d row.length with
              | true=>exact HM (zy (tPl rfl rfl (by omega)) (by rw [hpd];rfl)) ⟨rfl,⟨_,rfl⟩,good hpd⟩
              | false=>exact Iv (zy (tPl rfl rfl (by omega)) (by rw [hpd];rfl)) ⟨_,_,fin _,bad hpd⟩
          · rintro ρ M' ⟨rfl,⟨u,rfl⟩,hpr⟩
            refine ⟨trivial,?_⟩
            rw [aq,eS] at hpr
            dsimp only
            have hf:qd (.tup (.str t :: ps)) row.length=true:=by
              rw [q0,hpl,d7.mpr hpr];simp
            obtain ⟨w',ps',ex,_,hps⟩:=xP hf
            cases ex
            have ed:doR (row,hd) [] (.tup (.str t :: ps))=if t=af "swap" then jg (row,hd) [] (iN (ps.getD 0 .non)) (iN (ps.getD 1 .non)) else if t=af "take" then jm (row,hd) [] (iN (ps.getD 0 .non)) else if t=af "move" then qZ (row,hd) [] (iN (ps.getD 0 .non)) (iN (ps.getD 1 .non)) else kL (row,hd) [] (iN (ps.getD 0 .non)):=by
              unfold doR;rw [if_pos (show qd (.tup (.str t :: ps)) row.length=true from hf)]
            have q:∀ w,(match doR (row,hd) [] (.tup (.str t :: ps)) with | .error w=>w | .ok _=>"")=w->Q (.d (.str (af w))) M:=fun w h=>h ▸ q
            rw [ed] at q
            clear ed no q0 hp ck hk ee
            subst hr1
            by_cases w1:t=af "swap"
            · rw [if_pos w1] at q
              obtain ⟨a,b,rfl,ha,hb⟩:=vd hpl hps (.inl w1)
              have qq:∀ w,(match jg (row,hd) [] a b with | .error w=>w | .ok _=>"")=w->Q (.d (.str (af w))) M:=q
              clear q
              subst w1
              by_cases hab:a=b
              · exact kg (qX (zy (tL3 rfl) rfl) (zy (EH rfl) (by rw [hab];exact decide_eq_true rfl))) ⟨_,_,fin _,qq "same" (by unfold jg;rw [if_pos hab])⟩
              refine qg (qX (zy (tL3 rfl) rfl) (zy (EH rfl) (decide_eq_false fun z=>hab (Int.ofNat.inj z)))) ?_
              refine qg (qP (jC (zy (tW rfl) LY)) (jC (zy (tIn rfl) LR))) ?_
              refine qg (zy (tW rfl) Mz) ?_
              refine Lv (zy (tW rfl) (decide_eq_true rfl)) ⟨_,rfl,_,rfl,_,rfl,MU,?_⟩
              refine wJ (ks:=[a,b]) (by simp [show a<row.length from ha,show b<row.length from hb]) (bK rfl) (qq _ ?_)
              unfold jg
              rw [if_neg hab]
              show (match (match row.getD a none,row.getD b none with | some x,some y=>_ | _,_=>_:Except String RS) with | .error w=>w | .ok _=>"")=if [row.getD a none,row.getD b none].any (·.isNone)=true then "empty" else ""
              cases row.getD a none <;> cases row.getD b none <;> rfl
            rw [if_neg w1] at q
            by_cases w2:t=af "take"
            · rw [if_pos w2] at q
              obtain ⟨a,rfl,ha⟩:=yP hpl hps w1 (by rw [w2];decide +kernel)
              have qq:∀ w,(match jm (row,hd) [] a with | .error w=>w | .ok _=>"")=w->Q (.d (.str (af w))) M:=q
              clear q
              subst w2
              refine qg (jC (zy (tL3 rfl) rfl)) ?_
              cases hd with
              | some y=>exact kg (wI (qX (zy (tW rfl) (decide_eq_true rfl)) (zy (tNN rfl) rfl))) ⟨_,_,fin _,qq "full" rfl⟩
              | none=>
                refine qg (qP (qX (zy (tW rfl) (decide_eq_true rfl)) (zy (tNN rfl) rfl)) (jC (zy (tIn rfl) Mx))) ?_
                refine qg (zy (tW rfl) Mw) ?_
                refine Gr (zy (tW rfl) LZ) ⟨_,rfl,_,rfl,_,rfl,_,rfl,Nc,?_⟩
                refine wJ (ks:=[a]) (by simp [show a<row.length from ha]) (bK rfl) (qq _ ?_)
                unfold jm
                show (match (match row.getD a none with | some x=>_ | none=>_:Except String RS) with | .error w=>w | .ok _=>"")=if [row.getD a none].any (·.isNone)=true then "empty" else ""
                cases row.getD a none <;> rfl
            rw [if_neg w2] at q
            by_cases w3:t=af "move"
            · rw [if_pos w3] at q
              obtain ⟨a,b,rfl,ha,hb⟩:=vd hpl hps (.inr w3)
              have qq:∀ w,(match qZ (row,hd) [] a b with | .error w=>w | .ok _=>"")=w->Q (.d (.str (af w))) M:=q
              clear q
              subst w3
              by_cases hab:a=b
              · exact kg (qX (zy (tL3 rfl) rfl) (zy (EH rfl) (by rw [hab];exact decide_eq_true rfl))) ⟨_,_,fin _,qq "same" (by unfold qZ;rw [if_pos hab])⟩
              refine qg (qX (zy (tL3 rfl) rfl) (zy (EH rfl) (decide_eq_false fun z=>hab (Int.ofNat.inj z)))) ?_
              unfold qZ at qq
              rw [if_neg hab] at qq
              dsimp only at qq
              cases hy:row.getD b none with
              | some y=>
                rw [hy] at qq
                exact kg (qP (jC (zy (tW rfl) G5)) (qX (zy (tIn rfl) yw) (zy (Fh rfl rfl rfl hb) (by rw [hy];rfl)))) ⟨_,_,fin _,qq "full" rfl⟩
              | none=>
                rw [hy] at qq
                refine qg (qP (jC (zy (tW rfl) G5)) (qX (zy (tIn rfl) yw) (zy (Fh rfl rfl rfl hb) (by rw [hy];rfl)))) ?_
                refine qg (zy (tW rfl) Mu) ?_
                refine Gr (zy (tW rfl) L7) ⟨_,rfl,_,rfl,_,rfl,_,rfl,Nh,?_⟩
                refine wJ (ks:=[a]) (by simp [show a<row.length from ha]) (bK rfl) (qq _ ?_)
                show (match (match row.getD a none with | some x=>_ | none=>_:Except String RS) with | .error w=>w | .ok _=>"")=if [row.getD a none].any (·.isNone)=true then "empty" else ""
                cases row.getD a none <;> rfl
            rw [if_neg w3] at q
            obtain ⟨b,rfl,hb⟩:=yP hpl hps w1 w3
            have w4:t=af "lay":=by
              unfold jj at hpl
              rw [if_neg w1,if_neg w2,if_neg w3] at hpl
              by_cases c:t=af "lay"
              · exact c
              · rw [if_neg c] at hpl;cases hpl
            have qq:∀ w,(match kL (row,hd) [] b with | .error w=>w | .ok _=>"")=w->Q (.d (.str (af w))) M:=q
            clear q
            subst w4
            refine qg (jC (zy (tL3 rfl) rfl)) ?_
            unfold kL at qq
            dsimp only at qq
            cases hy:row.getD b none with
            | some y=>
              rw [hy] at qq
              exact kg (qP (jC (zy (tW rfl) GZ)) (qX (zy (tIn rfl) yw') (zy (Fh rfl rfl rfl hb) (by rw [hy];rfl)))) ⟨_,_,fin _,qq "full" rfl⟩
            | none=>
              rw [hy] at qq
              refine qg (qP (jC (zy (tW rfl) GZ)) (qX (zy (tIn rfl) yw') (zy (Fh rfl rfl rfl hb) (by rw [hy];rfl)))) ?_
              cases hd with
              | none=>exact kg (zy (tW rfl) (decide_eq_true rfl)) (Lv (zy (tIN rfl) rfl) ⟨_,_,fin _,qq "empty" rfl⟩)
              | some y=>exact kg (zy (tW rfl) (decide_eq_true rfl)) (Gr (zy (tIN rfl) rfl) ⟨_,_,fin _,qq "" rfl⟩)
theorem XR {ms ns:List Int}{x:Dat}{w:String}(h:doR s ms x=.error w):doR s ns x=.error w:=by
 unfold doR at h ⊢
 split at h
 ·rename_i c
  rw [if_pos c]
  split at h
  ·rename_i t ps
   have g1:∀ a b,jg s ms a b=.error w->jg s ns a b=.error w:=fun a b=>by
    unfold jg
    split
    ·exact id
    ·cases s.1.getD a none <;> cases s.1.getD b none <;> intro h <;> first | exact h | cases h
   have g2:∀ a b,qZ s ms a b=.error w->qZ s ns a b=.error w:=fun a b=>by
    unfold qZ
    split
    ·exact id
    ·cases s.1.getD b none <;> cases s.1.getD a none <;> intro h <;> first | exact h | cases h
   have g3:∀ a,jm s ms a=.error w->jm s ns a=.error w:=fun a=>by
    unfold jm
    cases s.2 <;> cases s.1.getD a none <;> intro h <;> first | exact h | cases h
   have g4:∀ a,kL s ms a=.error w->kL s ns a=.error w:=fun a=>by
    unfold kL
    cases s.1.getD a none <;> cases s.2 <;> intro h <;> first | exact h | cases h
   split at h
   ·rename_i c1;rw [if_pos c1];exact g1 _ _ h
   ·rename_i c1
    rw [if_neg c1]
    split at h
    ·rename_i c2;rw [if_pos c2];exact g3 _ h
    ·rename_i c2
     rw [if_neg c2]
     split at h
     ·rename_i c3;rw [if_pos c3];exact g2 _ _ h
     ·rename_i c3;rw [if_neg c3];exact g4 _ h
  ·exact h
 ·rename_i c
  rw [if_neg c];exact h
theorem Wa {x:Dat}{w:String}(h:doR s ms x=.error w):Xc s x=w:=by
 unfold Xc;rw [XR (ns:=[]) h]
theorem Fj {s:ES}{ms:List Int}{x:Dat}{t:RS}(h:doR s ms x=.ok t):Xc s x="":=by
 unfold Xc
 cases e:doR s [] x with
 | ok _=>rfl
 | error w=>rw [XR (ns:=ms) e] at h;cases h
noncomputable def Ja:ASp:=fun xs M Q=>∃ (b:au) (many:Int) (N:Nat),xs=[.ref b,.d (.int many)]/\BxM M b N/\N<1000000000/\0<many/\many<1073741824/\∀ r M',BxS M M' b (N+1)->0<=r->r<many->Q (.d (.int r)) M'
theorem FH (vs:List V)(H:Hp)(Q:VK)(E:XK)(h:cSp Ja vs H Q E):KU vs H Q E:=by
 obtain ⟨xs,M,O,Q',w,r,⟨b,many,N,rfl,hb,h1,h2,h3,q⟩,k⟩:=h
 obtain ⟨v,u,rfl,rv,ru⟩:=yj r
 rw [zO ru,rv.1]
 refine ⟨b,many,N,rfl,hb.bx w,h1,h2,h3,fun r H' kp hb' r0 r1=>?_⟩
 obtain ⟨M',s,e,w'⟩:=DY w hb kp hb'
 exact k _ _ _ _ _ (q r M' s r0 r1) e w' .int
noncomputable def Md:ASp:=fun xs M Q=>∃ (x:AV) (k:Int) (cs:List Int),xs=[x,.d (.int k)]/\qo x M=some (cs.map fun i=>.d (.int i))/\0<=k/\k<=1000/\cs.length<=1000/\∀ p o,M p=none->BxM (mup M p o) p 0->Q (.ref p) (mup M p o)
theorem IK (vs:List V)(H:Hp)(Q:VK)(E:XK)(h:cSp Md vs H Q E):Ha vs H Q E:=by
 obtain ⟨xs,M,O,Q',w,r,⟨x,n,cs,rfl,hx,h1,h2,h3,q⟩,k⟩:=h
 obtain ⟨v,u,rfl,rv,ru⟩:=yj r
 rw [zO ru]
 obtain ⟨a,rfl,ha⟩:=Ec w rv hx
 refine ⟨a,n,cs,rfl,ha,h1,h2,h3,fun p H' kp hp hb'=>?_⟩
 obtain ⟨x',y',z',g1,g2⟩:=hb'
 obtain ⟨e1,w1⟩:=DC w kp
 have fr:=w.fresh hp
 have e2:=Ext.owned (O':=yf O p) (p:=p) w ⟨fun a o h e=>⟨(e1.fix a o h e).1,fun z=>z.elim (zo e hp) h⟩,fun a h e=>⟨(e1.prv a h e).1,.inr h,e⟩,fun _ h=>h⟩ hp (.lst ([x',y',z'].map fun i=>.d (.int i)))
 refine k _ _ _ _ _ (q p _ fr.2 ⟨x',y',z',ze,g2⟩) e2 (QX (O:=yf O p) (xs:=[V.int x',V.int y',V.int z']) ⟨fun a o h=>?_,fun a h=>.inr (w1.own a h),fun a h=>?_⟩ (.inl rfl) fr.2 g1 (Km [x',y',z'])) ⟨rfl,by rw [ze];exact fun z=>nomatch z⟩
 ·have e3:Ext H O M H' (yf O p) M:=⟨fun a o h e=>⟨(e1.fix a o h e).1,fun z=>z.elim (zo e hp) h⟩,fun a h e=>⟨(e1.prv a h e).1,.inr h,e⟩,fun _ h=>h⟩
  refine jf.ext e3 ?_ (w.mo a o h)
  obtain ⟨u,hu,_⟩:=w.al a (w.own a (zW h))
  rw [hu];exact kp a u (by simp) hu
 ·rcases h with rfl | h
  ·exact ⟨_,g1,fun xs z=>nomatch z⟩
  ·exact w1.al a h
noncomputable def Yv (K:ax):ASp:=fun xs M Q=>∃ (m:Int) (ns:List Int),xs=[.d (.scr K ns),.d (.int m)]/\0<m/\m<=60/\ns.length<=63/\∀ cs:List Int,cs.length<=1000->Q (.d (.lst (cs.map .int))) M
theorem Y5 (vs:List V)(H:Hp)(Q:VK)(E:XK)(h:cSp (Yv K) vs H Q E):JD K vs H Q E:=by
 obtain ⟨xs,M,O,Q',w,r,⟨m,ns,rfl,h1,h2,h3,q⟩,k⟩:=h
 obtain ⟨v,u,rfl,rv,ru⟩:=yj r
 rw [zO ru]
 obtain ⟨a,rfl,ha⟩:=FO rv
 refine ⟨a,m,ns,rfl,ha,h1,h2,h3,fun p H' cs kp hp hc lc=>?_⟩
 obtain ⟨e1,w1⟩:=DC w kp
 exact k _ _ _ _ _ (q cs lc) e1 w1 (BP (w.fresh hp).1 hc)
noncomputable def XS:ASp:=fun xs M Q=>∃ (b:au) (m:Int) (N:Nat),xs=[.ref b,.d (.int m)]/\BxM M b N/\N<100000000/\24<=m/\m<=1000/\∀ r M',BxS M M' b (N+10)->0<=r->r<=m->Q (.d (.int r)) M'
theorem YX (vs:List V)(H:Hp)(Q:VK)(E:XK)(h:cSp XS vs H Q E):JJ vs H Q E:=by
 obtain ⟨xs,M,O,Q',w,r,⟨b,many,N,rfl,hb,h1,h2,h3,q⟩,k⟩:=h
 obtain ⟨v,u,rfl,rv,ru⟩:=yj r
 rw [zO ru,rv.1]
 refine ⟨b,many,N,rfl,hb.bx w,h1,h2,h3,fun r H' kp hb' r0 r1=>?_⟩
 obtain ⟨M',s,e,w'⟩:=DY w hb kp hb'
 exact k _ _ _ _ _ (q r M' s r0 r1) e w' .int
def OkX (x:Dat):Prop:=dp x<=40/\∀ l,x=.tup l->l.length<=1000
def OkP (x:Dat):Prop:=dp x<=41/\∀ l,(x=.tup l \/ x=.lst l)->l.length<=1000/\∀ d ∈ l,OkX d
structure OkS (x:Dat):Prop where
 d:dp x<=5
 s:Sh 500 x
 p:OkP x
theorem Lh {x:Dat}(hd:dp x<=5)(h:∀ l,(x=.tup l \/ x=.lst l)->l.length<=1000/\∀ d ∈ l,∀ l',d=.tup l'->l'.length<=1000):OkP x:=by
 refine ⟨by omega,fun l hl=>⟨(h l hl).1,fun d hd'=>⟨?_,(h l hl).2 d hd'⟩⟩⟩
 have:dps l<=4:=by rcases hl with rfl | rfl <;> (rw [dp] at hd;omega)
 exact bb (yE this d hd') (by decide)
noncomputable abbrev FG (u v:Int):List Dat:=[.tup [.str (af "swap"),.int u,.int v],.tup [.str (af "take"),.int u],.tup [.str (af "move"),.int u,.int v],.tup [.str (af "lay"),.int u],.tup [.str (af "swap"),.int u,.int u],.tup [.str (af "move"),.int u,.int u],.tup [.str (af "swap"),.int u],.tup [.str (af "take"),.int u,.int v],.tup [.str (af "lay")],.tup [.str (af "move"),.int u],.tup [],.lst [],.non,.bl true,.int 0,.str (af "take"),.lst [.str (af "take"),.int u],.tup [.str (af "take"),.bl true],.tup [.str (af "lay"),.non],.tup [.str (af "swap"),.str (af "0"),.int 1],.tup [.int 0,.int 1],.tup [.str (af "Take"),.int u],.tup [.str (af "take"),.int (10 ^ Int.toNat 17)],.tup [.tup [.str (af "take"),.int 0]],.tup [.str (af "move"),.int u,.lst [.int v]],.tup [.str (af "lay"),.int (-1)],.tup [.lst [.str (af "take")],.int u],.tup [.tup [.str (af "swap")],.int u,.int v],.tup [.non,.int u],.tup [.lst [],.int 0],.tup [.bl true,.int u]]
theorem LJ (u v:Int):∀ d ∈ FG u v,OkX d:=by
 intro d hd
 simp only [aA,aK,or_false] at hd
 rcases hd with rfl | rfl | rfl | rfl | rfl | rfl | rfl | rfl | rfl | rfl | rfl | rfl | rfl | rfl | rfl | rfl | rfl | rfl | rfl | rfl | rfl | rfl | rfl | rfl | rfl | rfl | rfl | rfl | rfl | rfl | rfl
 all_goals refine ⟨by simp [dp,dps],fun l e=>?_⟩
 all_goals first | (cases e;exact bK rfl) | cases e
theorem IC (u v:Int):∀ x ∈ FG u v,∀ l,(x=.tup l \/ x=.lst l)->l.length<=1000/\∀ d ∈ l,∀ l',d=.tup l'->l'.length<=1000:=by
 intro x hx
 simp only [aA,aK,or_false] at hx
 rcases hx with rfl | rfl | rfl | rfl | rfl | rfl | rfl | rfl | rfl | rfl | rfl | rfl | rfl | rfl | rfl | rfl | rfl | rfl | rfl | rfl | rfl | rfl | rfl | rfl | rfl | rfl | rfl | rfl | rfl | rfl | rfl
 all_goals (intro l e;rcases e with e | e <;> cases e)
 all_goals refine ⟨bK rfl,fun d hd l' e=>?_⟩
 all_goals simp only [aA,aK,or_false] at hd
 all_goals first
  | exact hd.elim
  | (subst hd;first | (cases e;exact bK rfl) | cases e)
  | (rcases hd with rfl | rfl <;> first | (cases e;exact bK rfl) | cases e)
  | (rcases hd with rfl | rfl | rfl <;> first | (cases e;exact bK rfl) | cases e)
theorem LL {l:List Dat}(h:l.length<=3)(hs:∀ d ∈ l,Sh 100 d)(hd:dp (.tup l)<=5):dp (.tup l)<=5/\Sh 500 (.tup l):=⟨hd,(HK h hs).mono (by decide)⟩
theorem ER {u v:Int}(hu:u.natAbs<10 ^ 20)(hv:v.natAbs<10 ^ 20)(d:Dat)(hin:d ∈ FG u v):OkS d:=by
  suffices h:dp d<=5/\Sh 500 d from ⟨h.1,h.2,Lh h.1 (IC u v d hin)⟩
  have hd:=hin
  have s1:Sh 100 (.int u):=(QB hu).mono (by decide)
  have s2:Sh 100 (.int v):=(QB hv).mono (by decide)
  have s3:Sh 100 (.lst [.int v]):=(WM (b:=22) (n:=1) (by simp) (by simpa using QB hv)).mono (by decide)
  have s4:Sh 200 (.lst [.str (af "take"),.int u]):=(WM (b:=60) (n:=2) (by simp) (by
    intro d hd
    simp only [aA,aK,or_false] at hd
    rcases hd with rfl | rfl
    · exact ⟨by decide +kernel,by decide +kernel⟩
    · exact (QB hu).mono (by decide))).mono (by decide)
  simp only [aA,aK,or_false] at hd
  rcases hd with rfl | rfl | rfl | rfl | rfl | rfl | rfl | rfl | rfl | rfl | rfl | rfl | rfl | rfl | rfl | rfl | rfl | rfl | rfl | rfl | rfl | rfl | rfl | rfl | rfl | rfl | rfl | rfl | rfl | rfl | rfl
  all_goals first
    | exact ⟨by simp [dp,dps],⟨by decide +kernel,by decide +kernel⟩⟩
    | exact ⟨by simp [dp,dps],s4.mono (by decide)⟩
    | (refine LL (by simp) (fun x hx=>?_) (by simp [dp,dps])
       simp only [aA,aK,or_false] at hx
       first
         | (rcases hx with rfl | rfl | rfl <;> first | assumption | exact ⟨by decide +kernel,by decide +kernel⟩)
         | (rcases hx with rfl | rfl <;> first | assumption | exact ⟨by decide +kernel,by decide +kernel⟩)
         | (subst hx;first | assumption | exact ⟨by decide +kernel,by decide +kernel⟩))
noncomputable def IN:ASp:=fun xs M Q=>∃ (b:au) (N n:Nat),xs=[.ref b,.d (.int n)]/\BxM M b N/\N<1000000/\n<=1000/\∀ x M',BxS M M' b (N+5)->OkX x->OkS x->Q (.d x) M'
noncomputable abbrev Wp:cw:=top 25
theorem AU:zu ["_law_box_here","_law_n","_law_some","_law_place","_law_other"] ["_law_box_here","_law_n"] (zg Wp):=⟨rfl,rfl,rfl,by decide +kernel,rfl,by decide +kernel,by decide +kernel⟩
theorem Hl (a:At K mg "_law_odd" Wp)(B:Blt mg)(D_law_take:Df P w K mg base "_law_take" ["_law_box_here","_law_many"] 1 (cSp Ja)):Df P w K mg base "_law_odd" ["_law_box_here","_law_n"] 2 (cSp IN):=by
 refine dfA (k:=1) a AU (fun _ _ _ _ _ _=>Pn2_ fun _ _=>rfl) (fun xs M Q h=>?_) (fun f cdv A outer s H E hr=>?_)
 ·obtain ⟨_,_,_,rfl,_⟩:=h;rfl
 have sc:=AU
 have hsl:=hsl
 refine' ⟨_,?q0,?qr⟩
 (case q0=>
  refine' zc ?q1 ?q2
  (case q1=>exact (WW (i:=3) (j:=4) rfl sc.nd rfl rfl (by decide) rfl rfl (za (zE ya (zX D_law_take hr rfl (za (pv 0) (za (zE qV (pv 1) zf) zb))) zf) (za (zE ya (zX D_law_take hr rfl (za (pv 0) (za (zE qV (pv 1) zf) zb))) zf) zb)) rfl))
  (case q2=>
   refine' zc ?q3 ?q4
   (case q3=>exact (zG (i:=2) sc.nd rfl (by first | exact bh rfl | exact bj rfl) (zU (za (zB (za zj (za (pv 3) (za (pv 4) zb)))) (za (zB (za zj (za (pv 3) zb))) (za (zB (za zj (za (pv 3) (za (pv 4) zb)))) (za (zB (za zj (za (pv 3) zb))) (za (zB (za zj (za (pv 3) (za (pv 3) zb)))) zb))))))))
   (case q4=>
    refine' zc ?q5 ?q6
    (case q5=>
     refine' zG (i:=2) ?q7 ?q8 ?q9 ?q10
     (case q7=>exact sc.nd)
     (case q8=>exact rfl)
     (case q9=>exact (by first | exact bh rfl | exact bj rfl))
     (case q10=>
      refine' zE ?q11 ?q12 ?q13
      (case q11=>exact yT)
      (case q12=>exact (pv 2))
      (case q13=>
       refine' zU ?q14
       (case q14=>
        refine' za ?q15 ?q16
        (case q15=>exact (zB (za zj (za (pv 3) (za (pv 3) zb)))))
        (case q16=>
         refine' za ?q17 ?q18
         (case q17=>exact (zB (za zj (za (pv 3) zb))))
         (case q18=>
          refine' za ?q19 ?q20
          (case q19=>exact (zB (za zj (za (pv 3) (za (pv 4) zb)))))
          (case q20=>
           refine' za ?q21 ?q22
           (case q21=>exact (zB (za zj zb)))
           (case q22=>
            refine' za ?q23 ?q24
            (case q23=>exact (zB (za zj (za (pv 3) zb))))
            (case q24=>
             refine' za ?q25 ?q26
             (case q25=>exact (zB zb))
             (case q26=>
              refine' za ?q27 ?q28
              (case q27=>exact (zU zb))
              (case q28=>exact zb)))))))))))
    (case q6=>
     refine' zc ?q29 ?q30
     (case q29=>
      refine' zG (i:=2) ?q31 ?q32 ?q33 ?q34
      (case q31=>exact sc.nd)
      (case q32=>exact rfl)
      (case q33=>exact (by first | exact bh rfl | exact bj rfl))
      (case q34=>
       refine' zE ?q35 ?q36 ?q37
       (case q35=>exact yT)
       (case q36=>exact (pv 2))
       (case q37=>
        refine' zU ?q38
        (case q38=>
         refine' za ?q39 ?q40
         (case q39=>exact zS)
         (case q40=>
          refine' za ?q41 ?q42
          (case q41=>exact j9)
          (case q42=>
           refine' za ?q43 ?q44
           (case q43=>exact zf)
           (case q44=>
            refine' za ?q45 ?q46
            (case q45=>exact zj)
            (case q46=>
             refine' za ?q47 ?q48
             (case q47=>exact (zU (za zj (za (pv 3) zb))))
             (case q48=>
              refine' za ?q49 ?q50
              (case q49=>exact (zB (za zj (za j9 zb))))
              (case q50=>
               refine' za ?q51 ?q52
               (case q51=>exact (zB (za zj (za zS zb))))
               (case q52=>
                refine' za ?q53 ?q54
                (case q53=>exact (zB (za zj (za zj (za zf zb)))))
                (case q54=>
                 refine' za ?q55 ?q56
                 (case q55=>exact (zB (za zf (za zf zb))))
                 (case q56=>exact zb)))))))))))))
     (case q30=>exact (zc (zG (i:=2) sc.nd rfl (by first | exact bh rfl | exact bj rfl) (zE yT (pv 2) (zU (za (zB (za zj (za (pv 3) zb))) (za (zB (za zj (za (zE AD zf zf) zb))) (za (zB (za (zB (za zj (za zf zb))) zb)) (za (zB (za zj (za (pv 3) (za (zU (za (pv 4) zb)) zb)))) (za (zB (za zj (za (GB A7 zf) zb))) zb)))))))) (zc (zG (i:=2) sc.nd rfl (by first | exact bh rfl | exact bj rfl) (zE yT (pv 2) (zU (za (zB (za (zU (za zj zb)) (za (pv 3) zb))) (za (zB (za (zB (za zj zb)) (za (pv 3) (za (pv 4) zb)))) (za (zB (za zS (za (pv 3) zb))) (za (zB (za (zU zb) (za zf zb))) (za (zB (za j9 (za (pv 3) zb))) zb)))))))) (zi (zC (zv zD (pv 2) (zv zD (zU (za (zX D_law_take hr rfl (za (pv 0) (za zf zb))) (za (zX D_law_take hr rfl (za (pv 0) (za (zn zt rfl B.len ql (za (pv 2) zb)) zb))) zb))) (zX D_law_take hr rfl (za (pv 0) (za zf zb))) (fun _ _=>rfl)) (fun _ _=>rfl)))))))))))
 refine ex2 (by walk_at "sim") ?_
 rintro xs M Q ⟨b,N,n,rfl,hb,hN,hn,q⟩
 rw [show zN ["_law_box_here","_law_n","_law_some","_law_place","_law_other"] [.ref b,.d (.int n)]=[some (.ref b),some (.d (.int n)),none,none,none] from rfl]
 have sb:=SB.refl hb
 refine zh fun r1 hr1=>?_
 walk_at "ra"
 refine ⟨b,(n:Int)+2,_,rfl,sb.bx,by omega,by omega,by omega,fun p M1 s1 p0 p1=>?_⟩
 have sb:=sb.go s1
 refine ⟨_,rfl,b,(n:Int)+2,_,rfl,sb.bx,by omega,by omega,by omega,fun o M2 s2 o0 o1=>⟨_,rfl,?_⟩⟩
 have sb:=sb.go s2
 have bu:(p - 1).natAbs<10 ^ 20:=dG (show _<=1002 by omega) (by decide)
 have bv:(o - 1).natAbs<10 ^ 20:=dG (show _<=1002 by omega) (by decide)
 generalize p - 1=u at *
 generalize o - 1=v at *
 subst hr1
 refine zh fun r1 hr1=>?_
 walk_at "ra"
 repeat (refine And.intro (by omega) ?_)
 subst hr1
 refine zh fun r1 hr1=>?_
 walk_at "ra"
 repeat (refine And.intro (by omega) ?_)
 subst hr1
 refine zh fun r1 hr1=>?_
 walk_at "ra"
 repeat (first | refine And.intro (by omega) ?_ | refine And.intro ⟨by decide,by decide,by decide⟩ ?_)
 subst hr1
 refine zh fun r1 hr1=>?_
 walk_at "ra"
 repeat (first | refine And.intro (by omega) ?_ | refine And.intro ⟨by decide,by decide,by decide⟩ ?_)
 subst hr1
 refine zh fun r1 hr1=>?_
 walk_at "ra"
 repeat (first | refine And.intro (by omega) ?_ | refine And.intro ⟨by decide,by decide,by decide⟩ ?_)
 subst hr1
 walk_at "ra"
 refine ⟨b,4,_,rfl,sb.bx,by omega,by omega,by omega,fun i M3 s3 i0 i1=>?_⟩
 have sb:=sb.go s3
 refine ⟨b,31,_,rfl,sb.bx,by omega,by omega,by omega,fun j M4 s4 j0 j1=>⟨by omega,_,rfl,?_⟩⟩
 have sb:=sb.go s4
 refine ⟨b,2,_,rfl,sb.bx,by omega,by omega,by omega,fun k M5 s5 k0 k1=>?_⟩
 have sb:=sb.go s5
 obtain ⟨w,ew,hw0,hw1⟩:∃ w:Int,atI ([Dat.int i,Dat.int j].map AV.d) k=some (.d (.int w))/\0<=w/\w<31:=by
  obtain rfl | rfl:k=0 \/ k=1:=by omega
  ·exact ⟨i,rfl,by omega,by omega⟩
  ·exact ⟨j,rfl,by omega,by omega⟩
 obtain ⟨d,hd,ed⟩:=MZ (l:=FG u v) (i:=w) hw0 hw1
 refine ⟨_,rfl,_,ew,_,rfl,_,ed,?_⟩
 exact (sb.mono (show _<=N+5 by omega)).rt fun M' s=>q d M' s (LJ u v d hd) (ER bu bv d hd)
noncomputable def dD:De->Dat
 | .swap a b=>.tup [.str (af "swap"),.int (a:Int),.int (b:Int)]
 | .take p=>.tup [.str (af "take"),.int (p:Int)]
 | .move p g=>.tup [.str (af "move"),.int (p:Int),.int (g:Int)]
 | .lay g=>.tup [.str (af "lay"),.int (g:Int)]
noncomputable def GA:ASp:=fun xs M Q=>∃ (d:De) (st st':ES),xs=[.d (.lst (st.1.map oD)),.d (oD st.2),.d (dD d)]/\DoE d st st'/\st.1.length<=1000/\Q (.d (.tup [.lst (st'.1.map oD),oD st'.2])) M
noncomputable abbrev LO (row:List (Option Int)):MO:=.lst ((row.map oD).map AV.d)
theorem kG {a:Nat}{c:Option Int}(h:row[a]?=some c):atI ((row.map oD).map AV.d) (a:Int)=some (.d (oD c))/\ixN ((row.map oD).map AV.d).length (a:Int)=some a:=by
 have hl:a<row.length:=(aD.mp h).1
 have e:ixN ((row.map oD).map AV.d).length (a:Int)=some a:=by rw [aq,aq,qQ (by omega) (by omega),bz]
 refine ⟨?_,e⟩
 unfold atI
 rw [e]
 show ((row.map oD).map AV.d)[a]?=_
 rw [aE,aE,h];rfl
theorem jO (row:List (Option Int))(a:Nat)(c:Option Int):((row.map oD).map AV.d).set a (.d (oD c))=((row.set a c).map oD).map AV.d:=by rw [ej,ej]
theorem Ep {t u:AS} {v:AS}(h:∀ r,r=t->yN (vE c r u) v B D ρ M):yN (vE c t u) v B D ρ M:=h t rfl
theorem xV {t:AS} (h:∀ D',D'=D->t B D' ρ M):t B D ρ M:=h D rfl
theorem jE {i:Nat}{w w':Str} {t r:AS} (hρ:ρ[i]?=some (some (.d (.tup (.str w :: ps)))))(hw:decide (w=w')=false)(h:r B D ρ M):yN (vE (aB (aOp (y6 id) (aOp (aIx qO) (qp i) (aC (.int 0))) (aC (.str w')))) t kK) r B D ρ M:=by
 refine ⟨_,hρ,_,0,.d (.str w),rfl,rfl,?_,?_⟩
 ·unfold atI;rw [qQ (by omega) (by rw [aq,aT];omega)];rfl
 ·refine ⟨_,_,rfl,rfl,by rw [ju];omega,by rw [ju];omega,_,rfl,?_⟩
  show (if id (eqD (.str w) (.str w'))=true then _ else _)
  rw [xa,hw]
  exact h
theorem vQ {i:Nat}{w w':Str} {t r:AS} (hρ:ρ[i]?=some (some (.d (.tup (.str w :: ps)))))(hw:decide (w=w')=true)(h:t B { nx:=fun ρ' M'=>r B D ρ' M',rt:=D.rt,bk:=D.bk,ct:=D.ct } ρ M):yN (vE (aB (aOp (y6 id) (aOp (aIx qO) (qp i) (aC (.int 0))) (aC (.str w')))) t kK) r B D ρ M:=by
 refine ⟨_,hρ,_,0,.d (.str w),rfl,rfl,?_,?_⟩
 ·unfold atI;rw [qQ (by omega) (by rw [aq,aT];omega)];rfl
 ·refine ⟨_,_,rfl,rfl,by rw [ju];omega,by rw [ju];omega,_,rfl,?_⟩
  show (if id (eqD (.str w) (.str w'))=true then _ else _)
  rw [xa,hw]
  exact h
noncomputable abbrev Kg:cw:=top 20
theorem XF:zu ["_law_row","_law_hand","_law_deed_here","_law_one","_law_other"] ["_law_row","_law_hand","_law_deed_here"] (zg Kg):=⟨rfl,rfl,rfl,by decide +kernel,rfl,by decide +kernel,by decide +kernel⟩
theorem EN (a:At K mg "_law_done" Kg)(B:Blt mg):Df P w K mg base "_law_done" ["_law_row","_law_hand","_law_deed_here"] 1 (cSp GA):=by
 refine dfA (k:=0) a XF (fun _ _ _ _ _ _=>Pn3_ fun _ _ _=>rfl) (fun xs M Q h=>?_) (fun f cdv A outer s H E hr=>?_)
 ·obtain ⟨_,_,_,rfl,_⟩:=h;rfl
 have sc:=XF
 have hsl:=hsl
 refine ⟨_,(zc (zG (i:=0) sc.nd rfl (by first | exact bh rfl | exact bj rfl) (jq (zK qA rfl B.list qT (za (pv 0) zb))))
  (zc (zL (zp (zV hr.units) (zv zD (pv 2) zf (fun _ _=>rfl)) zj (zr _)) (zc (WW (i:=3) (j:=4) rfl sc.nd rfl rfl (by decide) rfl rfl (za (zv zD (pv 0) (zv zD (pv 2) zf (fun _ _=>rfl)) (fun _ _=>rfl)) (za (zv zD (pv 0) (zv zD (pv 2) zf (fun _ _=>rfl)) (fun _ _=>rfl)) zb)) rfl)
  (zi (qW (zB (za (pv 4) (za (pv 3) zb))) (ji (K:=K) 2 rfl rfl (zP (qB (pv 0) (zv zD (pv 2) zf (fun _ _=>rfl)) zJ) (zP (qB (pv 0) (zv zD (pv 2) zf (fun _ _=>rfl)) zJ) jl)))))) zx)
  (zc (zL (zp (zV hr.units) (zv zD (pv 2) zf (fun _ _=>rfl)) zj (zr _)) (zi (qW (zB (za zS (za (zv zD (pv 0) (zv zD (pv 2) zf (fun _ _=>rfl)) (fun _ _=>rfl)) zb))) (ji (K:=K) 2 rfl rfl (zP (qB (pv 0) (zv zD (pv 2) zf (fun _ _=>rfl)) zJ) (zP (zR (i:=1) sc.nd rfl (by first | exact bh rfl | exact bj rfl)) jl))))) zx)
  (zc (zL (zp (zV hr.units) (zv zD (pv 2) zf (fun _ _=>rfl)) zj (zr _)) (zi (qW (zB (za zS (za (zv zD (pv 0) (zv zD (pv 2) zf (fun _ _=>rfl)) (fun _ _=>rfl)) zb))) (ji (K:=K) 2 rfl rfl (zP (qB (pv 0) (zv zD (pv 2) zf (fun _ _=>rfl)) zJ) (zP (qB (pv 0) (zv zD (pv 2) zf (fun _ _=>rfl)) zJ) jl))))) zx)
  (zc (zL (zp (zV hr.units) (zv zD (pv 2) zf (fun _ _=>rfl)) zj (zr _)) (zi (qW (zB (za (pv 1) (za zS zb))) (ji (K:=K) 2 rfl rfl (zP (qB (pv 0) (zv zD (pv 2) zf (fun _ _=>rfl)) zJ) (zP (zR (i:=1) sc.nd rfl (by first | exact bh rfl | exact bj rfl)) jl))))) zx)
  (Fu 0 (zi (zC (zB (za (pv 0) (za (pv 1) zb))))))))))),?_⟩
 refine ex2 (by walk_at "sim") ?_
 rintro xs M Q ⟨d,⟨row,hd⟩,st',rfl,hdo,hl,q⟩
 rw [show zN ["_law_row","_law_hand","_law_deed_here","_law_one","_law_other"] [.d (.lst (row.map oD)),.d (oD hd),.d (dD d)]=[some (.d (.lst (row.map oD))),some (.d (oD hd)),some (.d (dD d)),none,none] from rfl]
 refine zh fun r1 hr1=>?_
 walk_at "ra"
 intro p hp _
 have hl:row.length<=1000:=hl
 have frz:∀ (row':List (Option Int)) (hd':Option Int) dd,st'=(row',hd')->∀ u v,¬ Yi [u] 0 p->¬ Yi [v] 0 p->Hy 0 (VT (Dz (zT (qp 0) (zT (qp 1) jz)))) M { nx:=fun x M'=>rtA M Q (.d .non) M',rt:=rtA M Q } [some (.ref p),some (.d (oD hd')),some (.d dd),u,v] (mup M p (LO row')):=fun row' hd' dd e u v hu hv=>by
  subst e
  walk_at "ra"
  refine ⟨_,ze,_,qc _,hp,fun j hj z=>?_,fun q' o hq e=>?_,by omega,VY (fun q' hq'=>?_) q⟩
  ·match j with
   | 0=>exact hj rfl
   | 1=>cases z
   | 2=>cases z
   | 3=>exact hu z
   | 4=>exact hv z
   | n+5=>cases z
  ·rw [zd hq] at e;exact .inl e
  ·have hne:q' ≠ p:=fun z=>hq' (by rw [z];exact hp)
   rw [kZ hne,zd hne]
 subst hr1
 cases hdo with
 | @swap a b row hd x y ne h1 h2=>
  rw [show dD (.swap a b)=.tup [.str (af "swap"),.int (a:Int),.int (b:Int)] from rfl]
  refine vQ rfl (by decide +kernel) ?_
  refine xV fun D hD=>?_
  walk_at "ra"
  obtain ⟨a1,a2⟩:=kG h1
  obtain ⟨b1,b2⟩:=kG h2
  refine ⟨_,rfl,_,zz ze,_,rfl,_,a1,_,rfl,_,zz ze,_,rfl,_,b1,by omega,_,rfl,_,_,rfl,ze,a,a2,_,rfl,_,_,rfl,ze,b,by rw [bN];exact b2,?_⟩
  rw [jO,jO]
  subst hD
  refine jE rfl (by decide +kernel) ?_
  refine jE rfl (by decide +kernel) ?_
  refine jE rfl (by decide +kernel) ?_
  exact frz _ _ _ rfl _ _ (fun z=>by cases x <;> cases z) (fun z=>by cases y <;> cases z)
 | @take a row x h1=>
  rw [show dD (.take a)=.tup [.str (af "take"),.int (a:Int)] from rfl]
  refine jE rfl (by decide +kernel) ?_
  refine vQ rfl (by decide +kernel) ?_
  refine xV fun D hD=>?_
  walk_at "ra"
  obtain ⟨a1,a2⟩:=kG h1
  refine ⟨_,rfl,_,zz ze,_,rfl,_,a1,by omega,_,rfl,_,_,rfl,ze,a,a2,?_⟩
  rw [show ((row.map oD).map AV.d).set a (AV.d .non)=_ from jO row a none]
  subst hD
  refine jE rfl (by decide +kernel) ?_
  refine jE rfl (by decide +kernel) ?_
  exact frz _ (some x) _ rfl _ _ (fun z=>nomatch z) (fun z=>nomatch z)
 | @move a b row hd x h1 h2=>
  rw [show dD (.move a b)=.tup [.str (af "move"),.int (a:Int),.int (b:Int)] from rfl]
  refine jE rfl (by decide +kernel) ?_
  refine jE rfl (by decide +kernel) ?_
  refine vQ rfl (by decide +kernel) ?_
  refine xV fun D hD=>?_
  walk_at "ra"
  obtain ⟨a1,a2⟩:=kG h1
  obtain ⟨b1,b2⟩:=kG h2
  refine ⟨_,rfl,_,zz ze,_,rfl,_,a1,by omega,_,rfl,_,_,rfl,ze,a,a2,_,rfl,_,_,rfl,ze,b,by rw [bN];exact b2,?_⟩
  rw [show ((row.map oD).map AV.d).set a (AV.d .non)=_ from jO row a none,jO]
  subst hD
  refine jE rfl (by decide +kernel) ?_
  exact frz _ _ _ rfl _ _ (fun z=>nomatch z) (fun z=>nomatch z)
 | @lay g row x h1=>
  rw [show dD (.lay g)=.tup [.str (af "lay"),.int (g:Int)] from rfl]
  refine jE rfl (by decide +kernel) ?_
  refine jE rfl (by decide +kernel) ?_
  refine jE rfl (by decide +kernel) ?_
  refine vQ rfl (by decide +kernel) ?_
  refine xV fun D hD=>?_
  walk_at "ra"
  obtain ⟨a1,a2⟩:=kG h1
  refine ⟨by omega,_,rfl,_,_,rfl,ze,g,a2,?_⟩
  rw [jO]
  subst hD
  exact frz _ none _ rfl _ _ (fun z=>nomatch z) (fun z=>nomatch z)
noncomputable def GN:ASp:=fun xs M Q=>∃ (b:au) (row:List (Option Int)) (h:Option Int) (N:Nat),xs=[.ref b,.d (.lst (row.map oD)),.d (oD h)]/\BxM M b N/\N<2000000/\row.length<=1000 /\
 ∀ M',BxS M M' b (N+10)->Q (.d .non) M'/\∀ d t,DoE d (row,h) t->Q (.d (dD d)) M'
noncomputable def vH (p:Option Int->Bool)(row:List (Option Int)):List Nat:=(bW row.length).filter fun k=>p (row.getD k none)
noncomputable abbrev niA (l:List Nat):List AV:=l.map fun k:Nat=>AV.d (.int k)
theorem XQ {p:Option Int->Bool} {k:Nat}(h:k ∈ vH p row):∃ c,row[k]?=some c/\p c=true:=by
 obtain ⟨h1,h2⟩:=iA.mp h
 have hk:=eF.mp h1
 refine ⟨row.getD k none,?_,h2⟩
 rw [ay,am hk];rfl
theorem Lj (p:Option Int->Bool)(row:List (Option Int)):(vH p row).Nodup:=lf.sublist List.filter_sublist mr
theorem Dq {l:List Nat}{r:Int}(h0:0<=r)(h1:r<l.length):∃ k,k ∈ l/\l[r.toNat]?=some k/\atI (niA l) r=some (.d (.int k)):=by
 have hr:r.toNat<l.length:=by omega
 refine ⟨l[r.toNat],bq hr,am hr,?_⟩
 unfold atI
 rw [qQ h0 (by rw [aq];exact h1)]
 show (niA l)[r.toNat]?=_
 rw [aE,am hr];rfl
theorem DV {l:List Nat}{r t:Int}(h0:0<=r)(h1:r<l.length)(t0:0<=t)(t1:t<(l.length:Int) - 1):∃ j k,j ≠ r.toNat/\l[j]?=some k/\atI (niA l) (r - 1 - t)=some (.d (.int k)):=by
 by_cases c:0<=r - 1 - t
 ·obtain ⟨k,_,e1,e2⟩:=Dq (l:=l) c (by omega)
  exact ⟨(r - 1 - t).toNat,k,by omega,e1,e2⟩
 ·have hj:(r - 1 - t+l.length).toNat<l.length:=by omega
  refine ⟨(r - 1 - t+l.length).toNat,l[(r - 1 - t+l.length).toNat],by omega,am hj,?_⟩
  unfold atI ixN
  rw [aq,if_neg c,if_pos (by omega)]
  show (niA l)[(r - 1 - t+(l.length:Int)).toNat]?=_
  rw [aE,am hj];rfl
theorem JQ {p : Option Int -> Bool}{row : List (Option Int)}{at_ : AT}{N : List AV -> ASt -> MH -> Prop}{M : MH}{R : Option AV -> ASt}{u : Option AV}(hl : row.length <= 1000)
    (ht:∀ (o:Option AV) (k:Nat) (Q:Bool->MH->Prop),k<row.length->Q (p (row.getD k none)) M->at_ ((R o).set 7 (some (.d (.int k)))) M Q) (hv:∀ o (y:AV),(R o).set 7 (some y)=R (some y)) (h7:∀ (y:AV),(R (some y))[7]?=some (some y)) (hN:∀ o,N (niA (vH p row)) (R o) M) :
    Je (kh 7) at_ (xy (qp 7)) (fun _=>True) N (w8 0 1 row.length) [] (R u) M:=by
  refine Vj R (fun y=>match y with | .d (.int k)=>p (row.getD k.toNat none) | _=>false) id ⟨_,rfl⟩ trivial (by rw [jU];omega) (fun o y Q hy q=>?_) fun o=>?_
  · obtain ⟨i,hi⟩:=bA hy
    obtain ⟨hk,rfl⟩:=xq hi
    rw [show (0:Int)+(i:Int) * 1=(i:Int) by omega] at q ⊢
    show at_ _ _ _
    refine ht o i _ hk ?_
    have q:Q (if p (row.getD (i:Int).toNat none)=true then some (id (AV.d (.int i))) else none) (R (some (.d (.int i)))) M:=q (some (.d (.int i)))
    rw [bz] at q
    cases hp:p (row.getD i none) with
    | true=>
      rw [if_pos rfl]
      refine ⟨_,by rw [hv];exact h7 _,?_⟩
      rw [hv]
      rw [hp,if_pos rfl] at q;exact q
    | false=>
      rw [if_neg (fun z=>nomatch z),hv]
      rw [hp,if_neg (fun z=>nomatch z)] at q;exact q
  · have e : ((w8 0 1 row.length).filter (fun y => match y with | .d (.int k) => p (row.getD k.toNat none) | _ => false)).map id = niA (vH p row) := by
      rw [List.map_id]
      unfold w8 vH niA
      rw [List.filter_map]
      have:((fun y=>match y with | AV.d (.int k)=>p (row.getD k.toNat none) | _=>false) ∘ fun i:Nat=>AV.d (.int (0+(i:Int) * 1)))=fun k=>p (row.getD k none):=by
        funext k
        show p (row.getD (0+(k:Int) * 1).toNat none)=_
        rw [show (0+(k:Int) * 1).toNat=k by omega]
      rw [this]
      exact du fun k _=>by rw [show (0:Int)+(k:Int) * 1=(k:Int) by omega]
    rw [e];exact hN o
theorem MT (l:List Dat):eqD (.lst l) (.lst [])=l.isEmpty:=by cases l <;> simp [eqD,vF]
theorem tNe {i:Nat}{x:AV}{l:List Dat} (h:ρ[i]?=some (some x))(hx:xf x M=some (.lst l))(hd:dp (.lst l)<=40):Tst (aB (aOp (y6 not) (qp i) (aFz (Lr jz)))) ρ M (!l.isEmpty):=fun Q q=>
 ⟨_,h,cK _,_,rfl,_,_,hx,rfl,hd,by simp [dp,dps],_,rfl,by rw [MT];exact q⟩
theorem yx (l:List Nat):dp (.lst (l.map fun k:Nat=>Dat.int k))<=40:=by
 rw [dp]
 have:=jY (l:=l.map fun k:Nat=>Dat.int k) (n:=0) fun d hd=>by obtain ⟨k,_,rfl⟩:=br.mp hd;rw [jc];omega
 omega
variable {N:Nat}
theorem Yf {i:Nat}{l:List Nat} (h0:ρ[0]?=some (some (.ref b)))(hi:ρ[i]?=some (some (.d (.lst (l.map fun k:Nat=>Dat.int k)))))(hb:BxM M b N)(hN:N<10000000)(hl:l.length<=1000)(h:l ≠ [])(k:∀ k ∈ l,∀ M',BxS M M' b (N+1)->Q (.d (.int (k:Nat))) M') :
  aOp (aIx qO) (qp i) (QQ Ja (zT (qp 0) (zT (aCB Jy (zT (qp i) jz)) jz))) ρ M Q:=by
 have e:(l.map fun k:Nat=>Dat.int k).map AV.d=niA l:=by rw [aY];rfl
 have hp:0<l.length:=List.length_pos_iff.mpr h
 refine ⟨_,hi,_,h0,_,hi,_,_,rfl,rfl,b,_,N,rfl,hb,by omega,by rw [e,aq];omega,by rw [e,aq];omega,fun r M' s r0 r1=>?_⟩
 rw [e,aq] at r1
 obtain ⟨j,hj,_,a⟩:=Dq r0 r1
 exact ⟨_,_,_,rfl,rfl,by rw [e];exact a,k j hj M' s⟩
theorem wc {l:List Nat}(h:l ≠ []):(!(l.map fun k:Nat=>Dat.int k).isEmpty)=true:=by cases l;exact absurd rfl h;rfl
theorem Yo (h:M p=some (.lst l)):qo (.ref p) M=some l:=by unfold qo;dsimp only;rw [h]
structure DIn (M M':MH)(b p:au)(row:List (Option Int))(hd:Option Int)(N j:Nat)(ds:List De):Prop where
 sb:SB M M' b (N+2 * j)
 p0:M p=none
 pb:p ≠ b
 at_:M' p=some (.lst ((ds.map dD).map .d))
 len:ds.length<=2 * j
 ok:∀ d ∈ ds,∃ t,DoE d (row,hd) t
variable {M':MH} {hd:Option Int} {ds:List De}
theorem DIn.mono {N j k:Nat} (I:DIn M M' b p row hd N j ds)(h:j<=k)(_:j<=k):DIn M M' b p row hd N k ds:=⟨I.sb.mono (by omega),I.p0,I.pb,I.at_,by have:=I.len;omega,I.ok⟩
structure V7 (M M':MH)(b p:au)(row:List (Option Int))(hd:Option Int)(N j:Nat)(ds:List De):Prop where
 sb:SB M M' b N
 p0:M p=none
 pb:p ≠ b
 at_:M' p=some (.lst ((ds.map dD).map .d))
 len:ds.length<=2 * j
 ok:∀ d ∈ ds,∃ t,DoE d (row,hd) t
theorem DIn.go {M M' M2:MH} {N j N':Nat} (I:DIn M M' b p row hd N j ds)(s:BxS M' M2 b N'):V7 M M2 b p row hd N' j ds:=⟨I.sb.go s,I.p0,I.pb,by rw [s.at I.pb];exact I.at_,I.len,I.ok⟩
theorem V7.go {M M' M2:MH} {N j N':Nat} (I:V7 M M' b p row hd N j ds)(s:BxS M' M2 b N'):V7 M M2 b p row hd N' j ds:=⟨I.sb.go s,I.p0,I.pb,by rw [s.at I.pb];exact I.at_,I.len,I.ok⟩
theorem V7.add {N N0 j:Nat} (I:V7 M M' b p row hd N j ds) (h:DoE d (row,hd) t)(hn:N<=N0+2 * (j+1)):DIn M (mup M' p (.lst ((ds.map dD).map .d ++ [.d (dD d)]))) b p row hd N0 (j+1) (ds ++ [d]):=by
 refine ⟨(I.sb.put I.p0 I.pb _).mono hn,I.p0,I.pb,?_,by rw [bE];have:=I.len;show _+1<=_;omega,fun e he=>?_⟩
 ·rw [bB,bB];exact ze
 ·rcases cq.mp he with he | he
  ·exact I.ok e he
  ·rw [cI.mp he];exact ⟨t,h⟩
noncomputable abbrev Xb:cw:=top 19
theorem XW:zu ["_law_box_here","_law_row","_law_hand","_law_there","_law_free","_law_some","_law_one","_law_k"] ["_law_box_here","_law_row","_law_hand"] (zg Xb):=⟨rfl,rfl,rfl,by decide +kernel,rfl,by decide +kernel,by decide +kernel⟩
theorem Fp (a:At K mg "_law_deed" Xb)(B:Blt mg)(D_law_take:Df P w K mg base "_law_take" ["_law_box_here","_law_many"] 1 (cSp Ja)):Df P w K mg base "_law_deed" ["_law_box_here","_law_row","_law_hand"] 2 (cSp GN):=by
 refine dfA (k:=1) a XW (fun _ _ _ _ _ _=>Pn3_ fun _ _ _=>rfl) (fun xs M Q h=>?_) (fun f cdv A outer s H E hr=>?_)
 ·obtain ⟨_,_,_,_,rfl,_⟩:=h;rfl
 have sc:=XW
 have hsl:=hsl
 refine ⟨_,(zc (vM (j:=3) rfl sc.nd rfl (by first | exact bh rfl | exact bj rfl) (ts:=[7]) rfl (kI rfl B.range (za (zn zt rfl B.len ql (za (pv 1) zb)) zb)) (fun _ _ _ _=>(zR (i:=7) sc.nd rfl (by first | exact bh rfl | exact bj rfl))) (fun _ _ _ _=>Yd (zp jJ (zv (ZU (K:=K) rfl) (pv 1) (pv 7) (fun _ _=>rfl)) zS (zr _))) (fun _ _ _ _=>(pv 7)))
  (zc (vM (j:=4) rfl sc.nd rfl (by first | exact bh rfl | exact bj rfl) (ts:=[7]) rfl (kI rfl B.range (za (zn zt rfl B.len ql (za (pv 1) zb)) zb)) (fun _ _ _ _=>(zR (i:=7) sc.nd rfl (by first | exact bh rfl | exact bj rfl))) (fun _ _ _ _=>Yd (zp ka (zv (ZU (K:=K) rfl) (pv 1) (pv 7) (fun _ _=>rfl)) zS (zr _))) (fun _ _ _ _=>(pv 7)))
  (zc (zG (i:=5) sc.nd rfl (by first | exact bh rfl | exact bj rfl) (jq (zU zb)))
  (zc (zL (zp GK (zn zt rfl B.len ql (za (pv 3) zb)) zf (zr _)) (zc (zG (i:=6) sc.nd rfl (by first | exact bh rfl | exact bj rfl) (zX D_law_take hr rfl (za (pv 0) (za (zn zt rfl B.len ql (za (pv 3) zb)) zb))))
  (zi (qR (vZ cM db de kE (pv 5) (za (zB (za zj (za (zv zD (pv 3) (pv 6) (fun _ _=>rfl)) (za (zv zD (pv 3) (zE ya (zE ya (pv 6) zf) (zX D_law_take hr rfl (za (pv 0) (za (zE ya (zn zt rfl B.len ql (za (pv 3) zb)) zf) zb)))) (fun _ _=>rfl)) zb)))) zb))))) zx)
  (zc (zL (PW.pt (ye (zp ka (pv 2) zS (zr _)) (kS (zp (jB hr.units) (pv 3) (zU zb) (zr _))))) (zi (qR (vZ cM db de kE (pv 5) (za (zB (za zj (za (zv zD (pv 3) (zX D_law_take hr rfl (za (pv 0) (za (zn zt rfl B.len ql (za (pv 3) zb)) zb))) (fun _ _=>rfl)) zb))) zb)))) zx)
  (zc (zL (PW.pt (ye (zp (jB hr.units) (pv 3) (zU zb) (zr _)) (kS (zp (jB hr.units) (pv 4) (zU zb) (zr _))))) (zi (zG (i:=5) sc.nd rfl (by first | exact bh rfl | exact bj rfl) (jq (zE yT (pv 5) (zE wR (zU (za (zB (za zj (za (zv zD (pv 3) (zX D_law_take hr rfl (za (pv 0) (za (zn zt rfl B.len ql (za (pv 3) zb)) zb))) (fun _ _=>rfl)) (za (zv zD (pv 4) (zX D_law_take hr rfl (za (pv 0) (za (zn zt rfl B.len ql (za (pv 4) zb)) zb))) (fun _ _=>rfl)) zb)))) zb)) zf))))) zx)
  (zc (zL (PW.pt (ye (zp jJ (pv 2) zS (zr _)) (kS (zp (jB hr.units) (pv 4) (zU zb) (zr _))))) (zi (qR (vZ cM db de kE (pv 5) (za (zB (za zj (za (zv zD (pv 4) (zX D_law_take hr rfl (za (pv 0) (za (zn zt rfl B.len ql (za (pv 4) zb)) zb))) (fun _ _=>rfl)) zb))) zb)))) zx)
  (zi (zC (yK (zp (jB hr.units) (pv 5) (zU zb) (zr _)) (zv zD (pv 5) (zX D_law_take hr rfl (za (pv 0) (za (zn zt rfl B.len ql (za (pv 5) zb)) zb))) (fun _ _=>rfl)) zS)))))))))),?_⟩
 refine ex2 (by walk_at "sim") ?_
 rintro xs M Q ⟨b,row,hd,N,rfl,hb,hN,hl,q⟩
 rw [show zN ["_law_box_here","_law_row","_law_hand","_law_there","_law_free","_law_some","_law_one","_law_k"] [.ref b,.d (.lst (row.map oD)),.d (oD hd)]=[some (.ref b),some (.d (.lst (row.map oD))),some (.d (oD hd)),none,none,none,none,none] from rfl]
 have sb:=SB.refl hb
 refine zh fun r1 hr1=>?_
 walk_at "ra"
 refine ⟨by omega,by omega,?_⟩
 rw [bz]
 have pn:∀ l:List Nat,pur (niA l)=some (l.map fun k:Nat=>Dat.int k):=fun l=>by
  unfold niA;rw [show (fun k:Nat=>AV.d (.int k))=AV.d ∘ fun k:Nat=>Dat.int k from rfl,<- aY];exact qc _
 refine JQ (p:=fun c=>c.isSome) (R:=fun o=>[some (.ref b),some (.d (.lst (row.map oD))),some (.d (oD hd)),none,none,none,none,o]) hl (fun o k Q hk q=>?_) (fun _ _=>rfl) (fun _=>rfl) fun o=>⟨_,pn _,?_⟩
 ·refine ⟨_,rfl,_,rfl,_,_,_,rfl,rfl,xj hk,rfl,_,rfl,?_⟩
  cases h:row.getD k none <;> rw [h] at q <;> exact q
 subst hr1
 refine zh fun r1 hr1=>?_
 walk_at "ra"
 refine ⟨by omega,by omega,?_⟩
 rw [bz]
 refine JQ (p:=fun c=>c.isNone) (R:=fun o=>[some (.ref b),some (.d (.lst (row.map oD))),some (.d (oD hd)),some (.d (.lst ((vH (fun c=>c.isSome) row).map fun k:Nat=>Dat.int k))),none,none,none,o]) hl (fun o k Q hk q=>?_) (fun _ _=>rfl) (fun _=>rfl) fun o=>⟨_,pn _,?_⟩
 ·refine ⟨_,rfl,_,rfl,_,_,_,rfl,rfl,xj hk,rfl,_,rfl,?_⟩
  cases h:row.getD k none <;> rw [h] at q <;> exact q
 have hth:∀ k ∈ vH (fun c=>c.isSome) row,∃ x,row[k]?=some (some x):=fun k hk=>by
  obtain ⟨c,h1,h2⟩:=XQ hk
  cases c with
  | none=>cases h2
  | some x=>exact ⟨x,h1⟩
 have hfr:∀ k ∈ vH (fun c=>c.isNone) row,row[k]?=some none:=fun k hk=>by
  obtain ⟨c,h1,h2⟩:=XQ hk
  cases c with
  | none=>exact h1
  | some x=>cases h2
 have ndt:=Lj (fun c=>c.isSome) row
 have lth:(vH (fun c=>c.isSome) row).length<=1000:=bb (fO _ _) (by rw [fL];exact hl)
 have lfr:(vH (fun c=>c.isNone) row).length<=1000:=bb (fO _ _) (by rw [fL];exact hl)
 generalize vH (fun c=>c.isSome) row=th at *
 generalize vH (fun c=>c.isNone) row=fr at *
 subst hr1
 refine zh fun r1 hr1=>?_
 walk_at "ra"
 intro p hp _
 obtain ⟨p0,pb⟩:=sb.new hp
 have I0:DIn M (mup M p (.lst [])) b p row hd N 0 []:=⟨sb.put p0 pb _,p0,pb,ze,aJ 0,by simp⟩
 generalize mup M p (.lst [])=M1 at *
 have mth:(th.map fun k:Nat=>Dat.int k).map AV.d=niA th:=by rw [aY];rfl
 have mfr:(fr.map fun k:Nat=>Dat.int k).map AV.d=niA fr:=by rw [aY];rfl
 subst hr1
 refine zh fun r1 hr1=>?_
 have go1:∀ ds u6 M',DIn M M' b p row hd N 1 ds->r1 M { nx:=fun x M'=>rtA M Q (.d .non) M',rt:=rtA M Q } [some (.ref b),some (.d (.lst (row.map oD))),some (.d (oD hd)),some (.d (.lst (th.map fun k:Nat=>Dat.int k))),some (.d (.lst (fr.map fun k:Nat=>Dat.int k))),some (.ref p),u6,none] M':=fun ds u6 M' I=>by
  subst hr1
  refine zh fun r1 hr1=>?_
  have go2:∀ ds M',DIn M M' b p row hd N 2 ds->r1 M { nx:=fun x M'=>rtA M Q (.d .non) M',rt:=rtA M Q } [some (.ref b),some (.d (.lst (row.map oD))),some (.d (oD hd)),some (.d (.lst (th.map fun k:Nat=>Dat.int k))),some (.d (.lst (fr.map fun k:Nat=>Dat.int k))),some (.ref p),u6,none] M':=fun ds M' I=>by
   subst hr1
   refine zh fun r1 hr1=>?_
   have go3:∀ p ds M',DIn M M' b p row hd N 3 ds->r1 M { nx:=fun x M'=>rtA M Q (.d .non) M',rt:=rtA M Q } [some (.ref b),some (.d (.lst (row.map oD))),some (.d (oD hd)),some (.d (.lst (th.map fun k:Nat=>Dat.int k))),some (.d (.lst (fr.map fun k:Nat=>Dat.int k))),some (.ref p),u6,none] M':=fun p ds M' I=>by
    subst hr1
    refine zh fun r1 hr1=>?_
    have go4:∀ ds M',DIn M M' b p row hd N 4 ds->r1 M { nx:=fun x M'=>rtA M Q (.d .non) M',rt:=rtA M Q } [some (.ref b),some (.d (.lst (row.map oD))),some (.d (oD hd)),some (.d (.lst (th.map fun k:Nat=>Dat.int k))),some (.d (.lst (fr.map fun k:Nat=>Dat.int k))),some (.ref p),u6,none] M':=fun ds M' I=>by
     subst hr1
     have hda:xf (.ref p) M'=some (.lst (ds.map dD)):=by unfold xf;dsimp only;rw [I.at_];dsimp only;rw [qc];rfl
     have hdd:dp (.lst (ds.map dD))<=40:=by
      rw [dp]
      have:=jY (l:=ds.map dD) (n:=1) fun x hx=>by obtain ⟨d,_,rfl⟩:=br.mp hx;cases d <;> simp [dD,dp,dps]
      omega
     cases ds with
     | nil=>exact Gr (zy (tNe rfl hda hdd) rfl) ((I.sb.mono (show _<=N+10 by omega)).rt fun M'' s=>(q M'' s).1)
     | cons d0 ds0=>
      refine Lv (zy (tNe rfl hda hdd) rfl) ?_
      have hsq:∀ {M2},M2 p=M' p->qO (.ref p) M2=some (((d0 :: ds0).map dD).map .d):=fun h=>by unfold qO;dsimp only;rw [h,I.at_]
      have hl8:=I.len
      refine ⟨_,rfl,_,rfl,_,rfl,_,_,rfl,hsq rfl,b,_,_,rfl,I.sb.bx,by omega,by rw [aq,aq,aT];omega,by rw [aq,aq];omega,fun r M2 s2 r0 r1=>?_⟩
      rw [aq,aq] at r1
      have hr:r.toNat<(d0 :: ds0).length:=by omega
      have hm:=bq hr
      obtain ⟨t,ht⟩:=I.ok _ hm
      refine ⟨_,_,.d (dD ((d0 :: ds0)[r.toNat])),hsq (s2.at I.pb),rfl,?_,((I.sb.go s2).mono (show _<=N+10 by omega)).rt fun M'' s=>(q M'' s).2 _ t ht⟩
      unfold atI
      rw [qQ r0 (by rw [aq,aq];exact r1)]
      show (((d0 :: ds0).map dD).map AV.d)[r.toNat]?=_
      rw [aE,aE,am hr];rfl
    cases hd with
    | none=>exact qg (jC (zy (tNN rfl) rfl)) (go4 ds M' (I.mono (by omega) (by omega)))
    | some x=>
     by_cases hf:fr=[]
     ·exact qg (qX (zy (tNN rfl) rfl) (zy (tNe rfl rfl (yx _)) (by rw [hf];rfl))) (go4 ds M' (I.mono (by omega) (by omega)))
     refine Jf (qX (zy (tNN rfl) rfl) (zy (tNe rfl rfl (yx _)) (wc hf))) ?_
     have:=I.len
     refine ⟨_,rfl,⟨_,Yo I.at_⟩,Yf rfl rfl I.sb.bx (by omega) lfr hf fun k hk M2 s2=>⟨by show 2<=_;omega,_,rfl,_,_,_,rfl,rfl,(I.go s2).at_,by rw [aq,aq];omega,go4 _ _ ((I.go s2).add (d:=.lay k) (DoE.lay (hfr k hk)) (by omega))⟩⟩
   by_cases ht:th=[]
   ·exact qg (jC (zy (tNe rfl rfl (yx _)) (by rw [ht];rfl))) (go3 p ds M' (I.mono (by omega) (by omega)))
   by_cases hf:fr=[]
   ·exact qg (qX (zy (tNe rfl rfl (yx _)) (wc ht)) (zy (tNe rfl rfl (yx _)) (by rw [hf];rfl))) (go3 p ds M' (I.mono (by omega) (by omega)))
   refine Jf (qX (zy (tNe rfl rfl (yx _)) (wc ht)) (zy (tNe rfl rfl (yx _)) (wc hf))) ?_
   have:=I.len
   refine ⟨_,rfl,Yf rfl rfl I.sb.bx (by omega) lth ht fun k hk M2 s2=>Yf rfl rfl (I.go s2).sb.bx (by omega) lfr hf fun g hg M3 s3=>?_⟩
   obtain ⟨x,hx⟩:=hth k hk
   have I3:=(I.go s2).go s3
   refine ⟨by show 3<=_;omega,_,rfl,by show 1<=_;omega,_,rfl,_,_,rfl,rfl,by decide,by decide,by show 1 * 2<=_;omega,_,rfl,_,_,Yo I3.at_,rfl,by rw [aq,aq];show _+2<=_;omega,fun p' hp0 hp'=>?_⟩
   obtain ⟨q0,qb⟩:=I3.sb.new hp'
   refine go3 p' (ds ++ [.move k g,.move k g]) _ ⟨(I3.sb.put q0 qb _).mono (by omega),q0,qb,?_,by rw [bE];show _+2<=_;omega,fun e he=>?_⟩
   ·rw [bB,bB];exact ze
   ·rcases cq.mp he with he | he
    ·exact I.ok e he
    ·obtain rfl | rfl:e=.move k g \/ e=.move k g:=by simpa using he
     all_goals exact ⟨_,DoE.move hx (hfr g hg)⟩
  cases hd with
  | some x=>exact qg (jC (zy (tIN rfl) rfl)) (go2 ds M' (I.mono (by omega) (by omega)))
  | none=>
   by_cases ht:th=[]
   ·exact qg (qX (zy (tIN rfl) rfl) (zy (tNe rfl rfl (yx _)) (by rw [ht];rfl))) (go2 ds M' (I.mono (by omega) (by omega)))
   refine Jf (qX (zy (tIN rfl) rfl) (zy (tNe rfl rfl (yx _)) (wc ht))) ?_
   have:=I.len
   refine ⟨_,rfl,⟨_,Yo I.at_⟩,Yf rfl rfl I.sb.bx (by omega) lth ht fun k hk M2 s2=>⟨by show 2<=_;omega,_,rfl,_,_,_,rfl,rfl,(I.go s2).at_,by rw [aq,aq];omega,?_⟩⟩
   obtain ⟨x,hx⟩:=hth k hk
   exact go2 _ _ ((I.go s2).add (d:=.take k) (DoE.take hx) (by omega))
 refine Ep fun r2 hr2=>?_
 walk_at "ra"
 by_cases c:1<(th.length:Int)
 case neg=>rw [if_neg c];exact go1 [] none M1 (I0.mono (by omega) (by omega))
 rw [if_pos c]
 subst hr2
 walk_at "ra"
 refine ⟨b,_,_,rfl,I0.sb.bx,by omega,by omega,by omega,fun one M2 s2 o0 o1=>?_⟩
 have I1:=I0.go s2
 obtain ⟨k1,m1,e1,a1⟩:=Dq o0 o1
 refine ⟨⟨_,Yo I1.at_⟩,_,rfl,_,by rw [mth];exact a1,_,rfl,b,_,_,rfl,I1.sb.bx,by omega,by omega,by omega,fun oth M3 s3 t0 t1=>?_⟩
 have I2:=I1.go s3
 obtain ⟨j,k2,hj,e2,a2⟩:=DV o0 o1 t0 t1
 obtain ⟨x1,hx1⟩:=hth k1 m1
 obtain ⟨x2,hx2⟩:=hth k2 (aR e2)
 refine ⟨_,rfl,_,by rw [mth];exact a2,by omega,_,rfl,_,I2.at_,by show 0<_;omega,?_⟩
 refine go1 _ _ _ (I2.add (d:=.swap k1 k2) (DoE.swap (fun z=>hj ?_) hx1 hx2) (by omega))
 subst z
 exact (List.getElem?_inj (aD.mp e2).1 ndt).mp (e2.trans e1.symm)
theorem xO {a:Nat}{c:Option Int}(h:row[a]?=some c):a<row.length/\row.getD a none=c:=⟨(aD.mp h).1,by rw [ay,h];rfl⟩
theorem Zn {n a:Nat}(h:a<n):zZ (.int (a:Int)) n=true:=decide_eq_true ⟨by omega,by omega⟩
noncomputable def jQ (ms:List Int):Option Int->List Int
 | none=>ms
 | some x=>ky ms x
noncomputable def j7 (s:ES):De->List (Option Int)
 | .swap a b=>[s.1.getD a none,s.1.getD b none]
 | .take p=>[s.1.getD p none]
 | .move p g=>[s.1.getD p none,s.1.getD g none]
 | .lay _=>[s.2]
theorem KR {d:De}{s t:ES}(h:DoE d s t)(ms:List Int):doR s ms (dD d)=.ok (t,(j7 s d).foldl jQ ms):=by
 cases h with
 | @swap a b row hd x y ne h1 h2=>
  obtain ⟨l1,g1⟩:=xO h1
  obtain ⟨l2,g2⟩:=xO h2
  have hf:qd (dD (.swap a b)) row.length=true:=by
   show (jj (af "swap") == some 2 && [Dat.int (a:Int),Dat.int (b:Int)].all (zZ · row.length))=true
   simp only [dX,iz,Zn l1,Zn l2];rfl
  show _=mw (_,[row.getD a none,row.getD b none].foldl jQ ms)
  unfold doR
  rw [if_pos hf]
  show jg (row,hd) ms a b=_
  unfold jg
  rw [if_neg ne]
  dsimp only
  rw [g1,g2];rfl
 | @take p row x h1=>
  obtain ⟨l1,g1⟩:=xO h1
  have hf:qd (dD (.take p)) row.length=true:=by
   show (jj (af "take") == some 1 && [Dat.int (p:Int)].all (zZ · row.length))=true
   simp only [dX,iz,Zn l1];rfl
  show _=mw (_,[row.getD p none].foldl jQ ms)
  unfold doR
  rw [if_pos hf]
  show jm (row,none) ms p=_
  unfold jm
  dsimp only
  rw [g1];rfl
 | @move p g row hd x h1 h2=>
  obtain ⟨l1,g1⟩:=xO h1
  obtain ⟨l2,g2⟩:=xO h2
  have ne:p ≠ g:=fun z=>by rw [z,h2] at h1;cases h1
  have hf:qd (dD (.move p g)) row.length=true:=by
   show (jj (af "move") == some 2 && [Dat.int (p:Int),Dat.int (g:Int)].all (zZ · row.length))=true
   simp only [dX,iz,Zn l1,Zn l2];rfl
  show _=mw (_,[row.getD p none,row.getD g none].foldl jQ ms)
  unfold doR
  rw [if_pos hf]
  show qZ (row,hd) ms p g=_
  unfold qZ
  rw [if_neg ne]
  dsimp only
  rw [g2];dsimp only;rw [g1];rfl
 | @lay g row x h1=>
  obtain ⟨l1,g1⟩:=xO h1
  have hf:qd (dD (.lay g)) row.length=true:=by
   show (jj (af "lay") == some 1 && [Dat.int (g:Int)].all (zZ · row.length))=true
   simp only [dX,iz,Zn l1];rfl
  show _=mw (_,[some x].foldl jQ ms)
  unfold doR
  rw [if_pos hf]
  show kL (row,some x) ms g=_
  unfold kL
  dsimp only
  rw [g1];rfl
theorem xU {a:Nat}{c:Option Int}(h:a<row.length)(g:row.getD a none=c):row[a]?=some c:=by
 rw [ay,am h] at g
 rw [am h]
 exact congrArg some g
theorem ZR {s:ES}{ms:List Int}{x:Dat}{t:RS}(h:doR s ms x=.ok t):∃ d,x=dD d/\DoE d s t.1:=by
 obtain ⟨row,hd⟩:=s
 unfold doR at h
 by_cases hf:qd x row.length=true
 case neg=>rw [if_neg hf] at h;cases h
 rw [if_pos hf] at h
 obtain ⟨w,ps,rfl,hpl,hps⟩:=xP hf
 dsimp only at h
 by_cases w1:w=af "swap"
 ·rw [if_pos w1] at h
  obtain ⟨a,b,rfl,ha,hb⟩:=vd hpl hps (.inl w1)
  have h:jg (row,hd) ms a b=.ok t:=h
  unfold jg at h
  by_cases hab:a=b
  ·rw [if_pos hab] at h;cases h
  rw [if_neg hab] at h
  dsimp only at h
  cases hx:row.getD a none with
  | none=>rw [hx] at h;cases h
  | some x=>
   cases hy:row.getD b none with
   | none=>rw [hx,hy] at h;cases h
   | some y=>
    rw [hx,hy] at h
    cases h
    exact ⟨.swap a b,by rw [w1];rfl,.swap hab (xU ha hx) (xU hb hy)⟩
 rw [if_neg w1] at h
 by_cases w2:w=af "take"
 ·rw [if_pos w2] at h
  obtain ⟨a,rfl,ha⟩:=yP hpl hps w1 (by rw [w2];decide +kernel)
  have h:jm (row,hd) ms a=.ok t:=h
  unfold jm at h
  dsimp only at h
  cases hd with
  | some y=>cases h
  | none=>
   dsimp only at h
   cases hx:row.getD a none with
   | none=>rw [hx] at h;cases h
   | some x=>
    rw [hx] at h
    cases h
    exact ⟨.take a,by rw [w2];rfl,.take (xU ha hx)⟩
 rw [if_neg w2] at h
 by_cases w3:w=af "move"
 ·rw [if_pos w3] at h
  obtain ⟨a,b,rfl,ha,hb⟩:=vd hpl hps (.inr w3)
  have h:qZ (row,hd) ms a b=.ok t:=h
  unfold qZ at h
  by_cases hab:a=b
  ·rw [if_pos hab] at h;cases h
  rw [if_neg hab] at h
  dsimp only at h
  cases hy:row.getD b none with
  | some y=>rw [hy] at h;cases h
  | none=>
   rw [hy] at h
   dsimp only at h
   cases hx:row.getD a none with
   | none=>rw [hx] at h;cases h
   | some x=>
    rw [hx] at h
    cases h
    exact ⟨.move a b,by rw [w3];rfl,.move (xU ha hx) (xU hb hy)⟩
 rw [if_neg w3] at h
 obtain ⟨b,rfl,hb⟩:=yP hpl hps w1 w3
 have w4:w=af "lay":=by
  unfold jj at hpl
  rw [if_neg w1,if_neg w2,if_neg w3] at hpl
  by_cases c:w=af "lay"
  ·exact c
  ·rw [if_neg c] at hpl;cases hpl
 have h:kL (row,hd) ms b=.ok t:=h
 unfold kL at h
 dsimp only at h
 cases hy:row.getD b none with
 | some y=>rw [hy] at h;cases h
 | none=>
  rw [hy] at h
  dsimp only at h
  cases hd with
  | none=>cases h
  | some x=>
   cases h
   exact ⟨.lay b,by rw [w4];rfl,.lay (xU hb hy)⟩
noncomputable def Ji:ASp:=fun xs M Q=>∃ (m:au) (d:De) (s t:ES) (ms:List Int),xs=[.ref m,.d (.lst (s.1.map oD)),.d (oD s.2),.d (dD d)]/\M m=some (msA ms)/\DoE d s t/\OkM s ms.length/\s.1.length<=1000/\Q (.d .non) (mup M m (msA ((j7 s d).foldl jQ ms)))
theorem Vg (ms:List Int)(c:Option Int):(jQ ms c).length=ms.length:=by cases c;rfl;exact Q7 _ _
theorem yX (cs:List (Option Int)):∀ ms,(cs.foldl jQ ms).length=ms.length:=by
 induction cs with
 | nil=>exact fun _=>rfl
 | cons c cs ih=>intro ms;rw [List.foldl_cons,ih,Vg]
theorem Y6 {α:Type}{l:List α}{i:Nat}{x:α}(h:l[i]?=some x):l.take (i+1)=l.take i ++ [x]:=by rw [List.take_succ,h];rfl
theorem HB {o:MO}(h:M p=some o):mup M p o=M:=by
 funext b;unfold mup;by_cases c:b=p
 ·rw [if_pos c,c,h]
 ·rw [if_neg c]
theorem Lx (M:MH)(m:au)(ms:List Int){d:Dat}:yd M (mup M m (msA ms)) (.d d) (.d d) (mup M m (msA ms)):=by
 refine ⟨fun q=>.inl rfl,fun q o e=>?_,.inl ⟨rfl,fun p z=>nomatch z⟩⟩
 by_cases c1:q=m
 ·rw [c1,ze] at e
  cases e
  exact .inr fun z hz=>absurd hz (j8 (ds:=ms.map .int) (qw _) z)
 ·rw [zd c1] at e;exact .inl e
theorem at0 (x:AV)(l:List AV):atI (x :: l) 0=some x:=by
 unfold atI
 rw [qQ (by omega) (by rw [aT];omega)]
 rfl
noncomputable def dW:De->Str
 | .swap _ _=>af "swap"
 | .take _=>af "take"
 | .move _ _=>af "move"
 | .lay _=>af "lay"
noncomputable def dPs:De->List Nat
 | .swap a b=>[a,b]
 | .take a=>[a]
 | .move a b=>[a,b]
 | .lay a=>[a]
theorem Mt (d:De):dD d=.tup (.str (dW d) :: (dPs d).map fun k:Nat=>Dat.int k):=by cases d <;> rfl
theorem EZ (d:De):(dPs d).length<=2:=by cases d <;> simp [dPs]
theorem Nj (w:Str)(ps:List Dat):¬(HT.sIx (Dat.str w :: ps).length 0 (some 1)=0/\HT.sIx (Dat.str w :: ps).length (Dat.str w :: ps).length none=(Dat.str w :: ps).length):=by
 rintro ⟨z,_⟩
 unfold HT.sIx at z
 simp at z
 try omega
theorem Fq (w:Str)(ps:List Dat):wr (Dat.str w :: ps) (some 1) none=ps:=by
 rw [show (some 1:Option Int)=some ((1:Nat):Int) from rfl,yQ];rfl
theorem Me (h:DoE d s t):∀ k ∈ dPs d,k<s.1.length:=by
 have g:∀ {row:List (Option Int)} {a:Nat} {c:Option Int},row[a]?=some c->a<row.length:=fun h=>(aD.mp h).1
 cases h <;> intro k hk <;> simp only [dPs,aA,aK,or_false] at hk
 ·rename_i h1 h2;rcases hk with rfl | rfl;exact g h1;exact g h2
 ·rename_i h1;subst hk;exact g h1
 ·rename_i h1 h2;rcases hk with rfl | rfl;exact g h1;exact g h2
 ·rename_i h1;subst hk;exact g h1
theorem Bp (h:DoE d s t)(ok:OkM s n):∀ x,some x ∈ j7 s d->0<=x/\x<(n:Int):=by
 have g:∀ (k:Nat) x,s.1.getD k none=some x->0<=x/\x<(n:Int):=fun k x e=>by
  by_cases c:k<s.1.length
  ·rw [ay,am c] at e
   exact ok.1 x (by rw [<- show s.1[k]=some x from e];exact bq c)
  ·rw [ay,iH (by omega)] at e;cases e
 intro x hx
 cases d <;> simp only [j7,aA,aK,or_false] at hx
 ·rcases hx with hx | hx <;> exact g _ x hx.symm
 ·exact g _ x hx.symm
 ·rcases hx with hx | hx <;> exact g _ x hx.symm
 ·exact ok.2 x hx.symm
noncomputable abbrev yc:cw:=top 23
theorem vo:zu ["_law_moved","_law_row","_law_hand","_law_deed_here","_law_some","_law_thing","_law_place"] ["_law_moved","_law_row","_law_hand","_law_deed_here"] (zg yc):=⟨rfl,rfl,rfl,by decide +kernel,rfl,by decide +kernel,by decide +kernel⟩
theorem Q8 (a:At K mg "_law_counted" yc)(B:Blt mg):Df P w K mg base "_law_counted" ["_law_moved","_law_row","_law_hand","_law_deed_here"] 1 (cSp Ji):=by
  refine dfA (k:=0) a vo (fun _ _ _ _ _ _=>Pn4_ fun _ _ _ _=>rfl) (fun xs M Q h=>?_) (fun f cdv A outer s H E hr=>?_)
  · obtain ⟨_,_,_,_,_,rfl,_⟩:=h;rfl
  have sc:=vo
  have hsl:=hsl
  refine ⟨_,(zc (vM (j:=4) rfl sc.nd rfl (by first | exact bh rfl | exact bj rfl) (ts:=[6]) rfl (wL (jS vX (pv 3) (jN zf) yq)) (fun _ _ _ _=>(zR (i:=6) sc.nd rfl (by first | exact bh rfl | exact bj rfl))) (fun _ _ _ _=>kU) (fun _ _ _ _=>(zv (ZU (K:=K) rfl) (pv 1) (pv 6) (fun _ _=>rfl))))
    (zc (zL (zp (zV hr.units) (zv zD (pv 3) zf (fun _ _=>rfl)) zj (zr _)) (zi (zG (i:=4) sc.nd rfl (by first | exact bh rfl | exact bj rfl) (zU (za (pv 2) zb)))) zx)
    (zi (xK dO rfl (wL (pv 4)) (zR (i:=5) sc.nd rfl (by first | exact bh rfl | exact bj rfl)) (zi (zL (zp jJ (pv 5) zS (zr _)) (zi (qW (zE qV (zv zD (pv 0) (pv 5) (fun _ _=>rfl)) zf) (qB (pv 0) (pv 5) zJ))) zx)))))),?_⟩
  refine ex2 (by walk_at "sim") ?_
  rintro xs M Q ⟨m,d,⟨row,hd⟩,t,ms,rfl,hm,hd',ok,hl,q⟩
  rw [show zN ["_law_moved","_law_row","_law_hand","_law_deed_here","_law_some","_law_thing","_law_place"] [.ref m,.d (.lst (row.map oD)),.d (oD hd),.d (dD d)]=[some (.ref m),some (.d (.lst (row.map oD))),some (.d (oD hd)),some (.d (dD d)),none,none,none] from rfl]
  refine zh fun r1 hr1=>?_
  walk_at "ra"
  rw [Mt]
  refine ⟨_,rfl,Nj _ _,?_⟩
  rw [Fq]
  have hk:=Me hd'
  refine Z1 (fun (o:Option AV)=>[some (.ref m),some (.d (.lst (row.map oD))),some (.d (oD hd)),some (.d (.tup (.str (dW d) :: (dPs d).map fun k:Nat=>Dat.int k))),none,none,o]) (fun y=>match y with | .d (.int k)=>.d (oD (row.getD k.toNat none)) | y=>y) ⟨_,rfl⟩ trivial (by rw [aq,aq];have:=EZ d;omega) (fun o y Q hy q=>?_) fun o=>?_
  · obtain ⟨x,hx,rfl⟩:=br.mp hy
    obtain ⟨k,hk',rfl⟩:=br.mp hx
    walk_at "ra"
    exact ⟨_,xj (hk k hk'),q (some (.d (.int k)))⟩
  · have e : (((dPs d).map fun k : Nat => Dat.int k).map AV.d).map (fun y => match y with | .d (.int k) => AV.d (oD (row.getD k.toNat none)) | y => y) = (((dPs d).map fun k => row.getD k none).map oD).map AV.d := by
      simp only [aY];exact du fun _ _=>rfl
    rw [e]
    refine ⟨_,qc _,?_⟩
    subst hr1
    refine zh fun r1 hr1=>?_
    walk_at "ra"
    have tail:∀ (cs:List (Option Int)),cs=j7 (row,hd) d->r1 M { nx:=fun x M'=>rtA M Q (.d .non) M',rt:=rtA M Q } [some (.ref m),some (.d (.lst (row.map oD))),some (.d (oD hd)),some (.d (.tup (.str (dW d) :: (dPs d).map fun k:Nat=>Dat.int k))),some (.d (.lst (cs.map oD))),none,none] M:=fun cs hcs=>by
      subst hr1
      walk_at "ra"
      have okc:=Bp hd' ok
      rw [<- hcs] at okc q
      refine ⟨fun i ρ M'=>M'=mup M m (msA ((cs.take i).foldl jQ ms))/\∃ u,ρ=[some (.ref m),some (.d (.lst (row.map oD))),some (.d (oD hd)),some (.d (.tup (.str (dW d) :: (dPs d).map fun k:Nat=>Dat.int k))),some (.d (.lst (cs.map oD))),u,none],⟨by rw [List.take_zero];exact (HB hm).symm,_,rfl⟩,?_,?_⟩
      · rintro i y ρ M' hy ⟨rfl,u,rfl⟩
        refine ⟨trivial,?_⟩
        rw [aE,aE] at hy
        cases e:cs[i]? with
        | none=>rw [e] at hy;cases hy
        | some c=>
          rw [e] at hy
          cases hy
          have ts:(cs.take (i+1)).foldl jQ ms=jQ ((cs.take i).foldl jQ ms) c:=by rw [Y6 e,List.foldl_append];rfl
          cases c with
          | none=>
            rw [show oD none=.non from rfl]
            walk_at "ra";exact ⟨by rw [ts];rfl,_,rfl⟩
          | some x=>
            obtain ⟨x0,x1⟩:=okc x (aR e)
            rw [<- yX (cs.take i)] at x1
            obtain ⟨m1,m2⟩:=Jb x0 x1
            rw [show oD (some x)=.int x from rfl]
            walk_at "ra"
            exact ⟨_,zz ze,_,m1,_,rfl,_,ze,_,m2,by rw [Bo,ts];rfl,_,rfl⟩
      · rintro ρ M' ⟨rfl,u,rfl⟩
        refine ⟨trivial,?_⟩
        walk_at "ra"
        rw [eS]
        exact ⟨_,_,Lx _ _ _,q⟩
    refine ⟨_,at0 _ _,_,rfl,by rw [ju];omega,?_⟩
    rw [xa]
    cases d with
    | lay g=>rw [if_pos (show decide (dW (.lay g)=af "lay")=true from decide_eq_true rfl)];exact ⟨by omega,tail [hd] rfl⟩
    | swap a b=>rw [if_neg (show ¬ decide (dW (.swap a b)=af "lay")=true from (by decide +kernel:¬ decide (af "swap"=af "lay")=true))];exact tail _ rfl
    | take a=>rw [if_neg (show ¬ decide (dW (.take a)=af "lay")=true from (by decide +kernel:¬ decide (af "take"=af "lay")=true))];exact tail _ rfl
    | move a b=>rw [if_neg (show ¬ decide (dW (.move a b)=af "lay")=true from (by decide +kernel:¬ decide (af "move"=af "lay")=true))];exact tail _ rfl
noncomputable abbrev wy:cw:=top 21
theorem ZQ:zu ["_law_found","_law_due","_law_one","_law_other"] ["_law_found","_law_due"] (zg wy):=⟨rfl,rfl,rfl,by decide +kernel,rfl,by decide +kernel,by decide +kernel⟩
noncomputable def we (n:Nat):ASp:=fun xs M Q=>∃ (x y:AV) (d:Dat),xs=[x,y]/\xf x M=some d/\xf y M=some d/\jL n d/\n<=30/\Q (.d (.bl true)) M
noncomputable def aNo:ASp:=fun _ _ _=>False
variable {sp:ASp}
theorem Bd {x y:AV} {l:List Dat} (hsp:∀ xs M Q,we n xs M Q->sp xs M Q){N:List AV->ASt->MH->Prop}(hl:l.length<=100000)(hd:∀ d ∈ l,jL n d)(hn:n<=30){u v:Option AV}(hN:N (l.map fun _=>AV.d (.bl true)) [] M)(hN':∀ acc ρ ρ' M,N acc ρ M->N acc ρ' M) :
  Je (YN 2 (y8 (kh 2) (y8 (kh 3) X0))) vj (xy (QQ sp (zT (qp 2) (zT (qp 3) jz)))) (fun M'=>qo x M'=qo x M/\qo y M'=qo y M) N (ZM l l) [] [some x,some y,u,v] M:=by
 have e:(ZM l l).map (fun _=>AV.d (.bl true))=l.map fun _=>AV.d (.bl true):=by
  rw [List.map_const',List.map_const',xE,io]
 refine Z1 (fun (o:Option AV × Option AV)=>[some x,some y,o.1,o.2]) (fun _=>.d (.bl true)) ⟨(u,v),rfl⟩ ⟨rfl,rfl⟩ (by rw [xE,io];exact hl) (fun o z Q hz q=>?_) fun o=>by rw [e];exact hN' _ _ _ _ hN
 obtain ⟨i,hi⟩:=bA hz
 obtain ⟨d,d',h1,h2,rfl⟩:=wv hi
 rw [h1] at h2;cases h2
 walk_at "ra"
 exact hsp _ _ _ ⟨_,_,d,rfl,rfl,rfl,hd d (aR h1),hn,q (some (.d d),some (.d d))⟩
theorem DL {l:List Dat}:∃ bs:List Bool,(l.map fun _=>Dat.bl true)=bs.map Dat.bl/\(l.map fun _=>AV.d (Dat.bl true))=bs.map (fun b=>AV.d (.bl b))/\bs.all id=true:=⟨l.map fun _=>true,by rw [aY];rfl,by rw [aY];rfl,by simp⟩
theorem Yx {x y:AV} {l:List Dat} (hxy:(qo x M=some (l.map AV.d)/\qo y M=some (l.map AV.d)) \/ (x=.d (.tup l)/\y=.d (.tup l)/\l.length<=l.length))(hsp:∀ xs M Q,we n xs M Q->sp xs M Q)(hl:l.length<=100000)(hd:∀ d ∈ l,jL n d)(hn:n<=30)(q:Q (.d (.bl true)) M) :
  aCB (Ht fun bs=>bs.all id) (zT (aFz (Jk [2,3] (Hu (zT (qp 0) (zT (qp 1) jz))) (YN 2 (y8 (kh 2) (y8 (kh 3) X0))) vj (xy (QQ sp (zT (qp 2) (zT (qp 3) jz)))))) jz) [some x,some y,none,none] M Q:=by
 walk_at "ra"
 refine ⟨l,l,hxy,Bd (n:=n) (sp:=sp) hsp hl hd hn ?_ (fun _ _ _ _ z=>z)⟩
 obtain ⟨bs,b1,b2,b3⟩:=DL (l:=l)
 refine ⟨l.map fun _=>.bl true,?_,bs,by rw [aY];exact b2,?_⟩
 ·rw [<- qc (l.map fun _=>Dat.bl true),aY];rfl
 ·rw [b3];exact q
theorem Mp (a:At K mg "_law_same" wy):Df P w K mg base "_law_same" ["_law_found","_law_due"] 1 (cSp aNo):=
 Zk (k:=0) a ZQ (fun _ _ _ _ _ _=>Pn2_ fun _ _=>rfl) (fun vs H Q E h=>by obtain ⟨_,_,_,_,_,_,h,_⟩:=h;exact h.elim) (fun f cdv A outer s H vs Q E hr h=>by obtain ⟨_,_,_,_,_,_,h,_⟩:=h;exact h.elim)
theorem X1 (a:At K mg "_law_same" wy)(B:Blt mg)(Ball:mg "all"=none){kk:Nat}(n:Nat){sp:ASp}(hsp:∀ xs M Q,1<=n->we (n - 1) xs M Q->sp xs M Q)(D_law_same:Df P w K mg base "_law_same" ["_law_found","_law_due"] kk (cSp sp)):Df P w K mg base "_law_same" ["_law_found","_law_due"] (kk+1) (cSp (we n)):=by
 refine dfA (k:=kk) a ZQ (fun _ _ _ _ _ _=>Pn2_ fun _ _=>rfl) (fun xs M Q h=>?_) (fun f cdv A outer s H E hr=>?_)
 ·obtain ⟨_,_,_,rfl,_⟩:=h;rfl
 have sc:=ZQ
 have hsl:=hsl
 have hs2:2<=aM:=by omega
 refine ⟨_,(zc (zL (jd (zn Zb rfl B.isinstance zw (za (pv 1) (za (zB (za (zY (v:=.ty "list") rfl B.list qT rfl) (za (zY (v:=.ty "tuple") rfl B.tuple qC rfl) zb))) zb))) (fun _=>rfl)) (zc (zL (PW.pt (kA (zp (jB hr.units) (zn qa rfl B.isinstance zw (za (pv 0) (za (zY (v:=.ty "list") rfl B.list qT rfl) zb))) (zn qa rfl B.isinstance zw (za (pv 1) (za (zY (v:=.ty "list") rfl B.list qT rfl) zb))) (zr _)) (jW (zp (jB hr.units) (zn qa rfl B.isinstance zw (za (pv 0) (za (zY (v:=.ty "tuple") rfl B.tuple qC rfl) zb))) (zn qa rfl B.isinstance zw (za (pv 1) (za (zY (v:=.ty "tuple") rfl B.tuple qC rfl) zb))) (zr _))))) (zi (zC j9)) zx)
  (zi (zC (v7 (qU (zV hr.units) (zn zt rfl B.len ql (za (pv 0) zb)) (zn zt rfl B.len ql (za (pv 1) zb)) (zr _)) (Qq (zn (va rfl) rfl Ball KG (za (yM (ts:=[2,3]) rfl rfl (Dk rfl B.zip (za (pv 0) (za (pv 1) zb))) (fun _ _ _ _=>(ji (K:=K) 2 rfl rfl (zP (zR (i:=2) sc.nd rfl (by first | exact bh rfl | exact bj rfl)) (zP (zR (i:=3) sc.nd rfl (by first | exact bh rfl | exact bj rfl)) jl)))) (fun _ _ _ _=>kU) (fun _ _ _ _=>(zX D_law_same hr rfl (za (pv 2) (za (pv 3) zb))))) zb))))))) zx)
  (zc (zL (PW.pt (kA (zp ka (pv 1) zS (zr _)) (jW (jd (zn qa rfl B.isinstance zw (za (pv 1) (za (zY (v:=.ty "str") rfl B.str vY rfl) zb))) (fun _=>rfl))))) (zi (zC (v7 (qU (zV hr.units) (pv 0) (pv 1) (zr _)) (Qq (qU (zV hr.units) (zn qa rfl B.isinstance zw (za (pv 0) (za (zY (v:=.ty "str") rfl B.str vY rfl) zb))) (zn qa rfl B.isinstance zw (za (pv 1) (za (zY (v:=.ty "str") rfl B.str vY rfl) zb))) (zr _)))))) zx)
  (zi (zC (v7 (zn qa rfl B.isinstance zw (za (pv 0) (za (zY (v:=.ty "int") rfl B.int yV rfl) zb))) (v7 (qU (zV hr.units) (zn qa rfl B.isinstance zw (za (pv 0) (za (zY (v:=.ty "bool") rfl B.bool vP rfl) zb))) (zn qa rfl B.isinstance zw (za (pv 1) (za (zY (v:=.ty "bool") rfl B.bool vP rfl) zb))) (zr _)) (Qq (qU (zV hr.units) (pv 0) (pv 1) (zr _))))))))),?_⟩
 refine ex2 (by walk_at "sim") ?_
 rintro xs M Q ⟨x,y,d,rfl,hx,hy,hd,hn,q⟩
 rw [show zN ["_law_found","_law_due","_law_one","_law_other"] [x,y]=[some x,some y,none,none] from rfl]
 have fin:=qH (M0:=M) Fr.refl (.bl true)
 cases d with
 | non=>
  obtain rfl:=qF hx (fun _ z=>nomatch z);obtain rfl:=qF hy (fun _ z=>nomatch z)
  exact qg (Vr rfl rfl Ai hs2) (kg (wI (zy (tIN rfl) rfl)) (xC (Ei rfl rfl rfl rfl (by rw [Kc];omega) (by rw [Kc];omega) Ae) (QW (xg rfl rfl Z8) (xg rfl rfl Z8) _ ⟨_,_,fin,q⟩)))
 | bl b=>
  obtain rfl:=qF hx (fun _ z=>nomatch z);obtain rfl:=qF hy (fun _ z=>nomatch z)
  exact qg (Vr rfl rfl B8 hs2) (qg (qP (zy (tIN rfl) rfl) (Qe rfl rfl Ke)) (xC (xg rfl rfl K6) (xC (vz (QW (xg rfl rfl ZS) (xg rfl rfl ZS)) rfl) (Ei rfl rfl rfl rfl (by rw [Jd];omega) (by rw [Jd];omega) (by rw [K4];exact decide_eq_true rfl) _ ⟨_,_,fin,q⟩))))
 | int i=>
  obtain rfl:=qF hx (fun _ z=>nomatch z);obtain rfl:=qF hy (fun _ z=>nomatch z)
  exact qg (Vr rfl rfl BZ hs2) (qg (qP (zy (tIN rfl) rfl) (Qe rfl rfl KZ)) (xC (xg rfl rfl KY) (xC (vz (QW (xg rfl rfl ZX) (xg rfl rfl ZX)) rfl) (Ei rfl rfl rfl rfl (by rw [jc];omega) (by rw [jc];omega) (by rw [xB];exact decide_eq_true rfl) _ ⟨_,_,fin,q⟩))))
 | str i=>
  obtain rfl:=qF hx (fun _ z=>nomatch z);obtain rfl:=qF hy (fun _ z=>nomatch z)
  exact qg (Vr rfl rfl BU hs2) (kg (qP (zy (tIN rfl) rfl) (Qe rfl rfl v6)) (xC (Ei rfl rfl rfl rfl (by rw [ju];omega) (by rw [ju];omega) (by rw [xa];exact decide_eq_true rfl)) (QW (xg rfl rfl v6) (xg rfl rfl v6) _ ⟨_,_,fin,q⟩)))
 | tup l=>
  obtain rfl:=qF hx (fun _ z=>nomatch z)
  obtain rfl:=qF hy (fun _ z=>nomatch z)
  cases n with
  | zero=>exact hd.no_t.elim
  | succ n=>
   obtain ⟨hl,hd'⟩:=hd.tup
   refine Jf (Vr rfl rfl Dh hs2) (qg (qP (vB (vz (QW (xg rfl rfl Ko) (xg rfl rfl Ko)) rfl)) (vB (vz (QW (xg rfl rfl ZY) (xg rfl rfl ZY)) rfl))) (xC (vz (MM (Fk rfl rfl) (Fk rfl rfl)) (decide_eq_true rfl)) ?_))
   exact Yx (x:=.d (.tup l)) (y:=.d (.tup l)) (.inr ⟨rfl,rfl,aJ _⟩) (fun xs M Q h=>hsp xs M Q (by omega) h) hl hd' (by omega) ⟨_,_,fin,q⟩
 | lst l=>
  obtain ⟨x1,x2,x3,x4⟩:=QM hx
  obtain ⟨y1,y2,y3,y4⟩:=QM hy
  cases n with
  | zero=>exact hd.no_l.elim
  | succ n=>
   obtain ⟨hl,hd'⟩:=hd.lst
   refine Jf (Vr rfl y3 B7 hs2) (qg (qP (vB (vz (QW (xg rfl x3 KO) (xg rfl y3 KO)) rfl)) (vB (vz (QW (xg rfl x3 Z9) (xg rfl y3 Z9)) rfl))) (xC (vz (MM (Fk rfl x2) (Fk rfl y2)) (decide_eq_true rfl)) ?_))
   exact Yx (.inl ⟨x1,y1⟩) (fun xs M Q h=>hsp xs M Q (by omega) h) hl hd' (by omega) ⟨_,_,fin,q⟩
 | ty t=>have:=hd.1;rw [dp] at this;omega
 | rng _ _ _=>have:=hd.1;rw [dp] at this;omega
 | scr _ _=>have:=hd.1;rw [dp] at this;omega
theorem JR (a:At K mg "_law_same" wy)(B:Blt mg)(Ball:mg "all"=none):∀ n,Df P w K mg base "_law_same" ["_law_found","_law_due"] (n+2) (cSp (we n))
 | 0=>X1 a B Ball 0 (sp:=aNo) (fun _ _ _ h=>absurd h (by omega)) (Mp a)
 | n+1=>X1 a B Ball (n+1) (sp:=we n) (fun _ _ _ _ h=>h) (JR a B Ball n)
theorem DoE.okM {d:De}{s t:ES}{n:Nat}(h:DoE d s t)(o:OkM s n):OkM t n:=by
 have g:∀ {row:List (Option Int)} {a:Nat} {c:Option Int},row[a]?=some c->c ∈ row:=fun h=>aR h
 cases h with
 | swap ne h1 h2=>
  refine ⟨fun x hx=>?_,o.2⟩
  rcases bZ hx with hx | hx
  ·rcases bZ hx with hx | hx
   ·exact o.1 x hx
   ·exact o.1 x (hx ▸ g h2)
  ·exact o.1 x (hx ▸ g h1)
 | take h1=>
  refine ⟨fun x hx=>?_,fun x hx=>?_⟩
  ·rcases bZ hx with hx | hx
   ·exact o.1 x hx
   ·cases hx
  ·cases hx;exact o.1 _ (g h1)
 | move h1 h2=>
  refine ⟨fun x hx=>?_,o.2⟩
  rcases bZ hx with hx | hx
  ·rcases bZ hx with hx | hx
   ·exact o.1 x hx
   ·cases hx
  ·exact o.1 x (hx ▸ g h1)
 | lay h1=>
  refine ⟨fun x hx=>?_,fun x hx=>nomatch hx⟩
  rcases bZ hx with hx | hx
  ·exact o.1 x hx
  ·exact o.2 x hx.symm
theorem BE {x:Dat}{w:String}(h:doR s ms x=.error w):w="form" \/ w="same" \/ w="full" \/ w="empty":=by
 have g1:∀ a b,jg s ms a b=.error w->w="form" \/ w="same" \/ w="full" \/ w="empty":=fun a b h=>by
  unfold jg at h
  split at h
  ·cases h;simp
  ·cases hb:s.1.getD a none <;> cases ha:s.1.getD b none <;> rw [hb] at h <;> (try rw [ha] at h) <;> cases h <;> simp
 have g2:∀ a b,qZ s ms a b=.error w->w="form" \/ w="same" \/ w="full" \/ w="empty":=fun a b h=>by
  unfold qZ at h
  split at h
  ·cases h;simp
  ·cases hb:s.1.getD b none <;> cases ha:s.1.getD a none <;> rw [hb] at h <;> (try rw [ha] at h) <;> cases h <;> simp
 have g3:∀ a,jm s ms a=.error w->w="form" \/ w="same" \/ w="full" \/ w="empty":=fun a h=>by
  unfold jm at h
  cases hb:s.2 <;> cases ha:s.1.getD a none <;> rw [hb] at h <;> (try rw [ha] at h) <;> cases h <;> simp
 have g4:∀ a,kL s ms a=.error w->w="form" \/ w="same" \/ w="full" \/ w="empty":=fun a h=>by
  unfold kL at h
  cases ha:s.1.getD a none <;> cases hb:s.2 <;> rw [ha] at h <;> (try rw [hb] at h) <;> cases h <;> simp
 unfold doR at h
 split at h
 ·split at h
  ·split at h
   ·exact g1 _ _ h
   ·split at h
    ·exact g3 _ h
    ·split at h
     ·exact g2 _ _ h
     ·exact g4 _ h
  ·cases h;simp
 ·cases h;simp
theorem Gq {x:Dat}{w:String}(h:doR s ms x=.error w):¬ decide (af w=af "")=true:=by
 rcases BE h with rfl | rfl | rfl | rfl <;> decide +kernel
theorem Fe (n:Nat):OkM ((qj 0 1 n).map some,none) n:=by
 refine ⟨fun x hx=>?_,fun x hx=>nomatch hx⟩
 obtain ⟨y,hy,e⟩:=br.mp hx
 injection e with e
 subst e
 unfold qj at hy
 obtain ⟨k,hk,e⟩:=br.mp hy
 rw [eF] at hk
 omega
noncomputable def fnP (vs:List V):List (Str × V):=[("place",vs.getD 0 .non),("word",vs.getD 1 .non)]
noncomputable abbrev yo:cw:=(qS (top 3) 0)
theorem xM:zu ["self","place","word"] ["self","place","word"] (zg yo):=⟨rfl,rfl,rfl,by decide +kernel,rfl,by decide +kernel,by decide +kernel⟩
theorem X8 {C a t0:au}{us:List V}{H:Hp}{Q:VK}(S1:yC K C "place")(S2:yC K C "word")(hl:us.length=2)(ha:H a=some (kq a C t0 none))(hq:∀ dx,H dx=none->dx ≠ a->Q .non (upd (upd H a (kq a C t0 (some dx))) dx (XdE dx (fnP us)))) :
  Aa (Jw K (wY 0) (wY 1) "place") (Jw K (wY 0) (wY 2) "word") { nx:=fun _ H'=>Q .non H',rt:=Q } (qJ ["self","place","word"] (.ref a :: us)) H:=by
 match us,hl with
 | [v,u],_=>
  show Jw _ _ _ _ _ _ _
  refine ⟨v,rfl,.ref a,rfl,a,C,t0,rfl,S1,.inl ⟨ha,fun dx hd hne=>?_⟩⟩
  refine ⟨u,rfl,.ref a,rfl,a,C,t0,rfl,S2,.inr ⟨dx,[("place",v)],by rw [zk (Ne.symm hne),zm],zm,bK rfl,?_⟩⟩
  rw [xN]
  have e:jD (af "word") u [(af "place",v)]=fnP [v,u]:=by
   unfold jD;rw [if_neg (by decide +kernel)];rfl
  show Q .non (upd _ dx (XdE dx (jD (af "word") u [(af "place",v)])))
  rw [e]
  exact hq dx hd hne
variable {fd:cV}
theorem Hs {C f:au} (F:Fun K "__init__" "BadPlan.__init__" yo f fd)(q:jR K C wH "ValueError.__new__" f=true)(hf:cZ K (.ref f)=true)(S1:yC K C "place")(S2:yC K C "word"):MkX P w K mg base C 1 2 fnP:=by
 refine AQ (k:=0) F xM (fun _ _ _ _ _ _=>Pn3_ fun _ _ _=>rfl) q hf rfl (fun cdv A outer s H E=>?_)
 have sc:=xM
 refine ⟨_,(zc (yG (pv 0) (pv 1) rfl) (zi (yG (pv 0) (pv 2) rfl))),?_⟩
 intro a t0 us Q hl ha hq
 exact X8 S1 S2 hl ha hq
theorem FZ {C f:au} (F:Fun K "__init__" "BadPlan.__init__" yo f fd)(q:jR K C wH "ValueError.__new__" f=true)(hf:cZ K (.ref f)=true)(S1:yC K C "place")(S2:yC K C "word"):Qc P w K mg base C 1 2 fnP:=by
 refine Fw F xM (fun _ _ _ _ _ _=>Pn3_ fun _ _ _=>rfl) q hf rfl (fun cdv A outer s H E x=>?_)
 have sc:=xM
 refine ⟨_,(zc (yG (pv 0) (pv 1) rfl) (zi (yG (pv 0) (pv 2) rfl))),?_⟩
 intro a t0 us Q hl ha hq
 exact X8 S1 S2 hl ha hq
def ZP (n:Nat)(s:ES):Prop:=s.1.length=n/\∀ x:Int,s.1.count (some x)+(if s.2=some x then 1 else 0)=if 0<=x/\x<(n:Int) then 1 else 0
theorem xW {l:List (Option Int)}{i:Nat}{c:Option Int}(h:l[i]?=some c)(a b:Option Int):(l.set i a).count b+(if c=b then 1 else 0)=l.count b+(if a=b then 1 else 0):=by
 induction l generalizing i with
 | nil=>cases h
 | cons e l ih=>
  cases i with
  | zero=>
   cases h
   rw [List.set_cons_zero,fm,fm]
   simp only [beq_iff_eq]
   omega
  | succ i=>
   have h:l[i]?=some c:=h
   rw [List.set_cons_succ,fm,fm]
   have:=ih h
   omega
theorem E7 {d:De}{s t:ES}{n:Nat}(h:DoE d s t)(c:ZP n s):ZP n t:=by
 refine ⟨by rw [h.len];exact c.1,fun x=>?_⟩
 have cx:=c.2 x
 cases h with
 | @swap a b row hd u v ne h1 h2=>
  have e1:=xW h1 (some v) (some x)
  have e2:=xW (l:=row.set a (some v)) (i:=b) (c:=some v) (by rw [dg ne];exact h2) (some u) (some x)
  dsimp only at cx ⊢
  omega
 | @take p row u h1=>
  have e1:=xW h1 none (some x)
  rw [if_neg (show ¬ (none:Option Int)=some x from fun z=>nomatch z)] at e1
  dsimp only at cx ⊢
  rw [if_neg (show ¬ (none:Option Int)=some x from fun z=>nomatch z)] at cx
  omega
 | @move p g row hd u h1 h2=>
  have ne:p ≠ g:=fun z=>by rw [z,h2] at h1;cases h1
  have e1:=xW h1 none (some x)
  have e2:=xW (l:=row.set p none) (i:=g) (c:=none) (by rw [dg ne];exact h2) (some u) (some x)
  rw [if_neg (show ¬ (none:Option Int)=some x from fun z=>nomatch z)] at e1 e2
  dsimp only at cx ⊢
  omega
 | @lay g row u h1=>
  have e1:=xW h1 (some u) (some x)
  rw [if_neg (show ¬ (none:Option Int)=some x from fun z=>nomatch z)] at e1
  dsimp only at cx ⊢
  rw [if_neg (show ¬ (none:Option Int)=some x from fun z=>nomatch z)]
  omega
theorem Bv {α:Type}[BEq α][LawfulBEq α][DecidableEq α]{l:List α}(h:l.Nodup)(a:α):l.count a=if a ∈ l then 1 else 0:=by
 induction l with
 | nil=>rfl
 | cons b l ih=>
  have:=b7.mp h
  rw [fm,ih this.2]
  by_cases c:b=a
  ·subst c;simp [this.1]
  ·have:(b == a)=false:=by simpa using c
   simp [this,Ne.symm c,c]
theorem Xu (n:Nat):((qj 0 1 n).map some).Nodup:=by
 unfold qj
 rw [aY]
 unfold List.Nodup
 rw [lR]
 refine mr.imp fun {a b} h z=>h ?_
 have z:some ((0:Int)+(a:Int) * 1)=some (0+(b:Int) * 1):=z
 injection z with z
 omega
theorem vS {x:Int}:some x ∈ (qj 0 1 n).map some ↔ 0<=x/\x<(n:Int):=by
 unfold qj
 simp only [br,eF,Option.some.injEq]
 constructor
 ·rintro ⟨a,⟨k,hk,rfl⟩,rfl⟩;omega
 ·rintro ⟨h1,h2⟩;exact ⟨x,⟨x.toNat,by omega,by omega⟩,rfl⟩
theorem wt (n:Nat):ZP n ((qj 0 1 n).map some,none):=by
 refine ⟨by show ((qj 0 1 n).map some).length=n;rw [aq,je],fun x=>?_⟩
 show ((qj 0 1 n).map some).count (some x)+0=_
 rw [Bv (Xu n)]
 by_cases c:0<=x/\x<(n:Int)
 ·rw [if_pos c,if_pos (vS.mpr c)]
 ·rw [if_neg c,if_neg (fun z=>c (vS.mp z))]
theorem wo {α:Type}[DecidableEq α]:∀ {l r:List α},l.Nodup->(∀ x ∈ l,x ∈ r)->r.length<=l.length->l.Perm r
 | [],r,_,_,h=>by
  have:r=[]:=hV.mp (by simpa using h)
  rw [this]
 | a :: l,r,nd,hs,h=>by
  have nd':=b7.mp nd
  have ha:=hs a bD
  have ih:=wo (l:=l) (r:=r.erase a) nd'.2 (fun x hx=>(List.mem_erase_of_ne (fun z=>nd'.1 (by rw [<- z];exact hx))).mpr (hs x (aX _ hx))) (by rw [List.length_erase_of_mem ha];rw [aT] at h;omega)
  exact (ih.cons a).trans (List.perm_cons_erase ha).symm
theorem Bz (c:ZP n (row,none)):∃ os,row=os.map some/\vp n os:=by
 have hl:row.length=n:=c.1
 have hp:((qj 0 1 n).map some).Perm row:=wo (Xu n) (fun x hx=>by
  obtain ⟨i,hi,rfl⟩:=br.mp hx
  have h:=c.2 i
  rw [if_pos (vS.mp hx)] at h
  have h:row.count (some i)+0=1:=h
  exact lC.mp (by omega)) (by rw [aq,je];omega)
 have hm:∀ x ∈ row,∃ i,x=some i/\0<=i/\i<(n:Int):=fun x hx=>by
  have:=hp.mem_iff.mpr hx
  obtain ⟨i,hi,rfl⟩:=br.mp this
  exact ⟨i,rfl,vS.mp this⟩
 have e:row=(row.map (·.getD 0)).map some:=by
  rw [aY]
  conv=>lhs;rw [<- List.map_id row]
  exact du fun x hx=>by obtain ⟨i,rfl,_⟩:=hm x hx;rfl
 refine ⟨row.map (·.getD 0),e,by rw [aq];exact hl,?_,fun x hx=>?_⟩
 ·have:row.Nodup:=hp.nodup_iff.mp (Xu n)
  rw [e] at this
  exact (lR.mp this).imp fun h z=>h (by rw [z])
 ·obtain ⟨y,hy,rfl⟩:=br.mp hx
  obtain ⟨i,rfl,h⟩:=hm y hy
  exact h
noncomputable def bL (row:List (Option Int)):List Int:=(bW row.length).map fun k:Nat=>(row.idxOf (some (k:Int)):Int)
variable {os:List Int}
theorem Yl (ho:vp n os){k:Nat}(hk:k<n):(k:Int) ∈ os:=by
 have hp:os.Perm (qj 0 1 n):=by
  refine wo ho.2.1 (fun x hx=>?_) (by rw [je,ho.1];exact aJ _)
  have:=ho.2.2 x hx
  unfold qj
  exact br.mpr ⟨x.toNat,eF.mpr (by omega),by omega⟩
 exact hp.mem_iff.mpr (by unfold qj;exact br.mpr ⟨k,eF.mpr hk,by omega⟩)
theorem XN (os:List Int)(x:Int):(os.map some).idxOf (some x)=os.idxOf x:=by
 induction os with
 | nil=>rfl
 | cons a l ih=>
  rw [aV,List.idxOf_cons,List.idxOf_cons,ih]
  rfl
theorem FJ {os bs:List Int}(ho:vp n os)(hb:D5 os bs):bs=bL (os.map some):=by
 have h1:=ho.1
 unfold bL
 rw [aq]
 refine fR (by rw [aq,fL];exact hb.1) fun k k1 k2=>?_
 rw [List.getElem_map,List.getElem_range,XN]
 have kn:k<n:=by rw [<- h1,<- hb.1];exact k1
 have hm:=Yl ho kn
 have hi:os.idxOf (k:Int)<os.length:=gv hm
 have:=hb.2 (os.idxOf (k:Int)) hi
 have e:os.getD (os.idxOf (k:Int)) 0=(k:Int):=by
  rw [ay,am hi]
  exact lD hi
 rw [e,bz,ay,am k1] at this
 exact this
noncomputable def HR:Dat->Option (List Dat)
 | .lst l=>some l
 | .tup l=>some l
 | _=>none
theorem HG {d:Dat}{l:List Dat}(h:HR d=some l)(M:MH):qO (.d d) M=some (l.map .d):=by
 cases d with
 | lst m=>cases h;rfl
 | tup m=>cases h;rfl
 | _=>cases h
theorem Qt {d:Dat} (h:HR d=some (os.map .int))(M:MH):qO (.d d) M=some (os.map fun i=>.d (.int i)):=by rw [HG h,YH]
noncomputable def As:ASp:=fun xs M Q=>∃ (dx:Dat) (n:Nat) (os:List Int),xs=[.d dx]/\HR dx=some (os.map .int)/\vp n os/\n<=2000/\∀ bs p,D5 os bs->M p=none->Q (.ref p) (mup M p (.lst (bs.map fun i=>AV.d (.int i))))
noncomputable abbrev Z2:cw:=top 6
theorem Jr:zu ["order","back","place","goal"] ["order"] (zg Z2):=⟨rfl,rfl,rfl,by decide +kernel,rfl,by decide +kernel,by decide +kernel⟩
theorem DH (a:At K mg "back_of" Z2)(B:Blt mg):Df P w K mg base "back_of" ["order"] 1 (cSp As):=by
 refine dfA (k:=0) a Jr (fun _ _ _ _ _ _=>Pn1_ fun _=>rfl) (fun xs M Q h=>?_) (fun f cdv A outer s H E hr=>?_)
 ·obtain ⟨_,_,_,rfl,_⟩:=h;rfl
 have sc:=Jr
 have hsl:=hsl
 refine ⟨_,(zc (zG (i:=1) sc.nd rfl (by first | exact bh rfl | exact bj rfl) (jq (zE wR (zU (za zf zb)) (zn zt rfl B.len ql (za (pv 0) zb)))))
  (zc (xK dO rfl (yW rfl B.enumerate (za (pv 0) zb)) (ji (K:=K) 2 rfl rfl (zP (zR (i:=2) sc.nd rfl (by first | exact bh rfl | exact bj rfl)) (zP (zR (i:=3) sc.nd rfl (by first | exact bh rfl | exact bj rfl)) jl))) (zi (qW (pv 2) (qB (pv 1) (pv 3) zJ))))
  (zi (zC (pv 1))))),?_⟩
 refine ex2 (by walk_at "sim") ?_
 rintro xs M Q ⟨dx,n,os,rfl,hx,ho,hn,q⟩
 rw [show zN ["order","back","place","goal"] [.d dx]=[some (.d dx),none,none,none] from rfl]
 have h1:=ho.1
 refine zh fun r hr0=>?_
 walk_at "ra"
 refine ⟨by omega,_,Qt hx M,by rw [aq];omega,by rw [aq];omega,by rw [aq];omega,fun p hp _=>?_⟩
 rw [aq,h1,bz,Az]
 have hp1:=ze (M:=M) (a:=p) (o:=.lst (aF n (AV.d (.int 0))))
 have f1:=(Fr.refl (M:=M)).mup hp (.lst (aF n (AV.d (.int 0))))
 subst hr0
 refine zh fun r hr0=>?_
 walk_at "ra"
 refine ⟨_,Qt hx _,_,qw _,?_⟩
 refine ⟨fun i ρ M'=>∃ u v bs,ρ=[some (.d dx),some (.ref p),u,v]/\M'=mup M p (.lst (bs.map fun i=>AV.d (.int i)))/\bs.length=n/\∀ j,j<i->bs.getD (os.getD j 0).toNat 0=(j:Int),⟨none,none,aF n 0,rfl,by rw [gH],by simp,fun j hj=>nomatch hj⟩,?_,?_⟩
 ·rintro i y ρ M' hy ⟨u,v,bs,rfl,rfl,lb,hj⟩
  refine ⟨Qt hx _,?_⟩
  obtain ⟨d,hd,rfl⟩:=xR hy
  rw [aE] at hd
  cases e:os[i]? with
  | none=>rw [e] at hd;cases hd
  | some k=>
   rw [e] at hd
   cases hd
   have hi:=(aD.mp e).1
   have hk:os.getD i 0=k:=by rw [ay,e];rfl
   have kb:=ho.2.2 k (aR e)
   walk_at "ra"
   refine ⟨_,ze,k.toNat,by rw [aq,qQ kb.1 (by omega)],bs.set k.toNat (i:Int),?_,by rw [bN];exact lb,fun j hj'=>?_⟩
   ·rw [ej]
   ·rw [DQ (by omega)]
    by_cases c:j=i
    ·subst c;rw [hk,if_pos rfl]
    ·rw [if_neg,hj j (by omega)]
     intro z
     have gj:=ho.getD (i:=j) (by omega)
     exact c (ho.inj (by omega) (by omega) (by rw [hk];omega))
 ·rintro ρ M' ⟨u,v,bs,rfl,rfl,lb,hj⟩
  refine ⟨Qt hx _,?_⟩
  subst hr0
  walk_at "ra"
  refine ⟨_,_,Yp (Fr.refl.mup hp _) hp ze (qw _),q bs p ⟨by omega,fun i hi=>hj i ?_⟩ hp⟩
  simp only [kC,aq]
  exact hi
noncomputable def jI:Nat->RS->List Dat->Except (Nat × String) RS
 | _,t,[]=>.ok t
 | i,t,x :: l=>match doR t.1 t.2 x with
  | .error w=>.error (i,w)
  | .ok t'=>jI (i+1) t' l
noncomputable def wz (n:Nat):RS:=(((qj 0 1 n).map some,none),aF n 0)
structure XB (K:ax)(cB:au):Prop where
 x:IZ K cB
 i:eO K (.ref cB) (.ref cB)=some true
 hd:dQ K cB=true
 fw:bt K (.ref cB) "word"=some none
theorem jZ (n1:rw_ ≠ mv)(n2:rw_ ≠ p)(n3:mv ≠ p):qi C (rmP C M p rw_ mv s ms) p rw_ mv s ms:=by
 unfold rmP
 exact ⟨by rw [zd (Ne.symm n3),zd (Ne.symm n2),ze],by rw [zd n1,ze],ze,n1⟩
theorem E8 (s' s2:ES)(ms' ms2:List Int):rmP C (rmP C M p rw_ mv s' ms') p rw_ mv s2 ms2=rmP C M p rw_ mv s2 ms2:=by
 funext b
 unfold rmP mup
 by_cases c1:b=mv <;> by_cases c2:b=rw_ <;> by_cases c3:b=p <;> simp [c1,c2,c3]
theorem Zl (t:qi C (rmP C M p rw_ mv s ms) p rw_ mv s ms):yd M (rmP C M p rw_ mv s ms) (.ref p) (.ref p) (rmP C M p rw_ mv s ms):=by
 have f:=QZ t .non
 exact ⟨f.1,f.2,.inl ⟨rfl,fun q z=>by cases z;rw [t.ins];exact fun z=>nomatch z⟩⟩
noncomputable def D8 (C:au):xX:=fun xs M Q E=>∃ (n:Nat) (z:au) (l:List Dat) (t:RS),xs=[.d (.int n),.ref z]/\n<=1000/\M z=some (.lst (l.map AV.d))/\l.length<=1000/\(∀ d ∈ l,OkX d)/\jI 0 (wz n) l=.ok t /\
 ∀ p rw_ mv,M p=none->M rw_=none->M mv=none->rw_ ≠ mv->rw_ ≠ p->mv ≠ p->Q (.ref p) (rmP C M p rw_ mv t.1 t.2)
noncomputable abbrev Kv:cw:=top 12
theorem YM:zu ["n","plan","room","at","deed","refusal"] ["n","plan"] (zg Kv):=⟨rfl,rfl,rfl,by decide +kernel,rfl,by decide +kernel,by decide +kernel⟩
theorem Ge {C cBadDeed cBadPlan:au}(a:At K mg "room_behind" Kv)(B:Blt mg)(CL:Cls K C)(XG_BadDeed:mg "BadDeed"=some (.ref cBadDeed))(XG_BadPlan:mg "BadPlan"=some (.ref cBadPlan))(MX_BadPlan:MkX P w K mg base cBadPlan 5 2 fnP)(MXH_BadPlan:Qc P w K mg base cBadPlan 5 2 fnP)(X2:XB K cBadDeed)
  (M_Room:Mkr P w K mg base "Room" C ["self","n"] 5 (cSp (Jn C))) (DM_do:DmX P w K mg base C "do" ["self","thing"] 6 (jr (aDo C cBadDeed))):DfX P w K mg base "room_behind" ["n","plan"] 7 (jr (D8 C)):=by
 refine Mo (k:=6) a YM (fun _ _ _ _ _ _=>Pn2_ fun _ _=>rfl) (fun xs M Q E h=>?_) (fun f cdv A outer s H HX OX MX E1 hr hD=>?_)
 ·obtain ⟨_,_,_,_,rfl,_⟩:=h;rfl
 have sc:=YM
 have hsl:=hsl
 refine ⟨_,(zc (zL (jG (jd (zn Zb rfl B.isinstance zw (za (pv 1) (za (zB (za (zY (v:=.ty "list") rfl B.list qT rfl) (za (zY (v:=.ty "tuple") rfl B.tuple qC rfl) zb))) zb))) (fun _=>rfl))) (zi (qD hD rfl MX_BadPlan hr rfl XG_BadPlan (za zf (za zj zb)))) zx)
  (zc (zG (i:=2) sc.nd rfl (by first | exact bh rfl | exact bj rfl) (DD M_Room hr rfl (za (pv 0) zb)))
  (zc (xK hD.po rfl (yW rfl B.enumerate (za (pv 1) zb)) (ji (K:=K) 2 rfl rfl (zP (zR (i:=3) sc.nd rfl (by first | exact bh rfl | exact bj rfl)) (zP (zR (i:=4) sc.nd rfl (by first | exact bh rfl | exact bj rfl)) jl))) (zi (WV (K:=K) (i:=5) rfl hD sc.nd rfl rfl rfl XG_BadDeed MXH_BadPlan hr rfl XG_BadPlan (fun _=>aJ 2) (fun pins xe Eh hP=>(zi (qR (xm CL DM_do hr hP (pv 2) (za (pv 4) zb))))) (fun x=>(za (pv 3) (za (Vu (K:=K) rfl (pv 5) rfl) zb))))))
  (zi (zC (pv 2)))))),?_⟩
 refine exX (by walk_at "sim") ?_
 rintro xs Q E0 rfl ⟨n,z,l,tt,rfl,hn,hz,ll,lo,hw,q⟩
 rw [show zN ["n","plan","room","at","deed","refusal"] [.d (.int n),.ref z]=[some (.d (.int n)),some (.ref z),none,none,none,none] from rfl]
 refine zh fun r1 hr1=>?_
 walk_at "ra"
 have tz:tyA (.ref z) MX=some "list":=by unfold tyA;dsimp only;rw [hz]
 refine ⟨by omega,_,tz,true,by decide +kernel,?_⟩
 rw [if_neg (by decide)]
 subst hr1
 refine zh fun r1 hr1=>?_
 walk_at "ra"
 intro p hp
 refine ⟨p,n,rfl,ze,hn,fun rw_ mv hrw hmv n1 n2 n3=>⟨rfl,?_⟩⟩
 rw [zd n2] at hrw
 rw [zd n3] at hmv
 have em:∀ t ms,rmP C (mup MX p (.ins C [])) p rw_ mv t ms=rmP C MX p rw_ mv t ms:=fun t ms=>by unfold rmP;rw [vW]
 rw [em]
 have fr:∀ t ms,Fr MX (rmP C MX p rw_ mv t ms):=fun t ms=>((Fr.refl.mup hp _).mup hrw _).mup hmv _
 have hsq:∀ t ms,qO (.ref z) (rmP C MX p rw_ mv t ms)=some (l.map AV.d):=fun t ms=>zz (by rw [fr t ms z (zW hz)];exact hz)
 subst hr1
 refine zh fun r1 hr1=>?_
 walk_at "ra"
 refine ⟨_,hsq _ _,_,qc _,?_⟩
 refine ⟨fun i ρ M'=>∃ (t:RS),M'=rmP C MX p rw_ mv t.1 t.2/\jI i t (l.drop i)=jI 0 (wz n) l/\OkM t.1 t.2.length/\t.1.1.length=n/\t.2.length=n/\∃ u v,ρ=[some (.d (.int n)),some (.ref z),some (.ref p),u,v,none],⟨wz n,rfl,rfl,by show OkM _ (aF n (0:Int)).length;rw [cC];exact Fe n,by show ((qj 0 1 n).map some).length=n;rw [aq,je],cC,_,_,rfl⟩,?_,?_⟩
 ·rintro i y ρ M' hy ⟨t,rfl,ht,okt,l1,l2,u,v,rfl⟩
  refine ⟨hsq _ _,?_⟩
  obtain ⟨d,hd,rfl⟩:=xR hy
  have r:=jZ (C:=C) (M:=MX) (s:=t.1) (ms:=t.2) n1 n2 n3
  have hi:=(aD.mp hd).1
  have dm:=lo d (aR hd)
  rw [List.drop_eq_getElem_cons hi,show l[i]=d from (aD.mp hd).2] at ht
  walk_at "ra"
  refine ⟨_,r.ins,rfl,p,rw_,mv,t.1,t.2,d,rfl,r,okt,dm.1,dm.2,fun wd hw'=>?_,fun t' ht'=>?_⟩
  ·rw [hw] at ht
   unfold jI at ht
   rw [hw'] at ht
   cases ht
  ·obtain ⟨dd,rfl,hdo⟩:=ZR ht'
   have e2:=KR hdo t.2
   rw [ht'] at e2
   have e2:t'.2=(j7 t.1 dd).foldl jQ t.2:=by injection e2 with e2;rw [e2]
   have lm:t'.2.length=t.2.length:=by rw [e2,yX]
   refine ⟨t',by rw [E8],?_,by rw [lm];exact hdo.okM okt,by rw [hdo.len];exact l1,by rw [lm];exact l2,_,rfl⟩
   rw [<- ht]
   conv=>rhs;unfold jI
   rw [ht']
 ·rintro ρ M' ⟨t,rfl,ht,okt,l1,l2,u,v,rfl⟩
  refine ⟨hsq _ _,?_⟩
  subst hr1
  walk_at "ra"
  rw [iq (by rw [kC];exact aJ _),hw] at ht
  obtain rfl:t=tt:=by unfold jI at ht;injection ht
  exact ⟨_,_,Zl (jZ n1 n2 n3),q p rw_ mv hp hrw hmv n1 n2 n3⟩
noncomputable def GD (t:RS)(h:Int):Dat:=.tup [.str (af "open"),.tup (t.1.1.map oD),.int h,.tup (t.2.map .int)]
noncomputable def XH (t:RS)(p:au):List (Dat ⊕ au):=[.inl (.str (af "done")),.inr p,.inl (.tup (t.2.map .int))]
noncomputable abbrev V9 (t:RS):List AV:=(bL t.1.1).map fun i=>.d (.int i)
theorem yg {n:Nat}:∀ {l:List Dat} {i:Nat} {t t':RS},jI i t l=.ok t'->ZP n t.1->t.2.length=n->ZP n t'.1/\t'.2.length=n
 | [],_,t,t',h,c,e=>by cases h;exact ⟨c,e⟩
 | x :: l,i,t,t',h,c,e=>by
  unfold jI at h
  cases hd:doR t.1 t.2 x with
  | error w=>rw [hd] at h;cases h
  | ok u=>
   rw [hd] at h
   obtain ⟨d,rfl,hdo⟩:=ZR hd
   have e2:=KR hdo t.2
   rw [hd] at e2
   have e2:u.2=(j7 t.1 d).foldl jQ t.2:=by injection e2 with e2;rw [e2]
   exact yg h (E7 hdo c) (by rw [e2,yX];exact e)
noncomputable def GM:xX:=fun xs M Q E=>∃ (n:Nat) (z:au) (l:List Dat) (t:RS),xs=[.d (.int n),.ref z]/\n<=1000/\M z=some (.lst (l.map AV.d))/\l.length<=1000/\(∀ d ∈ l,OkX d)/\jI 0 (wz n) l=.ok t /\
 (∀ h,t.1.2=some h->Q (.d (GD t h)) M)/\(t.1.2=none->∀ p,M p=none->Q (.tp (XH t p)) (mup M p (.lst (V9 t))))
noncomputable abbrev Bc:cw:=top 13
theorem DE:zu ["n","plan","room","row","hand","moved"] ["n","plan"] (zg Bc):=⟨rfl,rfl,rfl,by decide +kernel,rfl,by decide +kernel,by decide +kernel⟩
theorem Hk {C:au}(a:At K mg "walked" Bc)(B:Blt mg)(CL:Cls K C)(DX_room_behind:DfX P w K mg base "room_behind" ["n","plan"] 7 (jr (D8 C)))(D_back_of:Df P w K mg base "back_of" ["order"] 7 (cSp As))
  (M_row_now:Dm P w K mg base C "row_now" ["self"] 7 (cSp (YB C))) (M_hand_now:Dm P w K mg base C "hand_now" ["self"] 7 (cSp (Wm C))) (M_moved_now:Dm P w K mg base C "moved_now" ["self"] 7 (cSp (XY C))):DfX P w K mg base "walked" ["n","plan"] 8 (jr GM):=by
 refine Mo (k:=7) a DE (fun _ _ _ _ _ _=>Pn2_ fun _ _=>rfl) (fun xs M Q E h=>?_) (fun f cdv A outer s H HX OX MX E1 hr hD=>?_)
 ·obtain ⟨_,_,_,_,rfl,_⟩:=h;rfl
 have sc:=DE
 have hsl:=hsl
 refine ⟨_,(zc (zG (i:=2) sc.nd rfl (by first | exact bh rfl | exact bj rfl) (GC DX_room_behind hr rfl hD.passX (za (pv 0) (za (pv 1) zb))))
  (zc (zG (i:=3) sc.nd rfl (by first | exact bh rfl | exact bj rfl) (jV CL M_row_now hr (pv 2)))
  (zc (zG (i:=4) sc.nd rfl (by first | exact bh rfl | exact bj rfl) (jV CL M_hand_now hr (pv 2)))
  (zc (zG (i:=5) sc.nd rfl (by first | exact bh rfl | exact bj rfl) (jV CL M_moved_now hr (pv 2)))
  (zc (zL (zp jJ (pv 4) zS (zr _)) (zi (zC (zB (za zj (za (pv 3) (za (pv 4) (za (pv 5) zb))))))) zx)
  (zi (zC (E5 (zB (za zj (za (zX D_back_of hr rfl (za (pv 3) zb)) (za (pv 5) zb)))))))))))),?_⟩
 refine exX (by walk_at "sim") ?_
 rintro xs Q E0 rfl ⟨n,z,l,t,rfl,hn,hz,ll,lo,hw,q⟩
 rw [show zN ["n","plan","room","row","hand","moved"] [.d (.int n),.ref z]=[some (.d (.int n)),some (.ref z),none,none,none,none] from rfl]
 refine zh fun r1 hr1=>?_
 walk_at "ra"
 refine ⟨n,z,l,t,rfl,hn,hz,ll,lo,hw,fun p rw_ mv hp hrw hmv n1 n2 n3=>?_⟩
 have fr:Fr MX (rmP C MX p rw_ mv t.1 t.2):=((Fr.refl.mup hp _).mup hrw _).mup hmv _
 have r:=jZ (C:=C) (M:=MX) (s:=t.1) (ms:=t.2) n1 n2 n3
 generalize rmP C MX p rw_ mv t.1 t.2=M1 at fr r
 obtain ⟨cs,l2⟩:=yg hw (wt n) cC
 have l1:=cs.1
 subst hr1
 refine zh fun r1 hr1=>?_
 walk_at "ra"
 refine ⟨_,r.ins,rfl,p,rw_,mv,t.1,t.2,rfl,r,by omega,?_⟩
 subst hr1
 refine zh fun r1 hr1=>?_
 walk_at "ra"
 refine ⟨_,r.ins,rfl,p,rw_,mv,t.1,t.2,rfl,r,?_⟩
 subst hr1
 refine zh fun r1 hr1=>?_
 walk_at "ra"
 refine ⟨_,r.ins,rfl,p,rw_,mv,t.1,t.2,rfl,r,by omega,?_⟩
 subst hr1
 obtain ⟨⟨row,hd⟩,ms⟩:=t
 cases hd with
 | some h=>
  rw [show oD (some h)=.int h from rfl]
  walk_at "ra"
  exact ⟨by omega,VY fr (q.1 h rfl)⟩
 | none=>
  rw [show oD none=.non from rfl]
  have q:=q.2 rfl
  obtain ⟨os,rfl,ho⟩:=Bz cs
  walk_at "ra"
  refine ⟨_,n,os,rfl,?_,ho,by omega,fun bs z hb hz=>?_⟩
  ·show some ((os.map some).map oD)=_
   rw [aY];rfl
  ·have z0:=fr.non hz
   have e:=FJ ho hb
   refine ⟨by omega,XH ((os.map some,none),ms) z,rfl,_,_,IV (fr.mup z0 _) z0 ze (qw _) (fun r h=>?_),?_⟩
   ·simp only [XH,aA,aK,or_false,reduceCtorEq,false_or,bG.injEq] at h
    exact h
   ·have q:=q z z0
    rw [e]
    exact q
noncomputable def Hb (C:au):ASp:=fun xs M Q=>∃ (p rw_ mv:au) (s:ES) (ms:List Int),xs=[.ref p]/\qi C M p rw_ mv s ms/\s.1.length<=1000/\ms.length<=1000 /\
 ∀ p' rw' mv',M p'=none->M rw'=none->M mv'=none->rw' ≠ mv'->rw' ≠ p'->mv' ≠ p'->Q (.ref p') (rmP C M p' rw' mv' s ms)
noncomputable abbrev Xl:cw:=(qS (top 10) 10)
theorem Xx:zu ["self","room"] ["self"] (zg Xl):=⟨rfl,rfl,rfl,by decide +kernel,rfl,by decide +kernel,by decide +kernel⟩
theorem Le {a b c y:AV}:jF (af "row") y [(af "row",a),(af "hand",b),(af "moved",c)]=[(af "row",y),(af "hand",b),(af "moved",c)]:=by
 unfold jF;rw [if_pos (by decide +kernel)]
theorem FM {a b c y:AV}:jF (af "hand") y [(af "row",a),(af "hand",b),(af "moved",c)]=[(af "row",a),(af "hand",y),(af "moved",c)]:=by
 unfold jF;rw [if_neg (by decide +kernel)];unfold jF;rw [if_pos (by decide +kernel)]
theorem IU {a b c y:AV}:jF (af "moved") y [(af "row",a),(af "hand",b),(af "moved",c)]=[(af "row",a),(af "hand",b),(af "moved",y)]:=by
 unfold jF;rw [if_neg (by decide +kernel)];unfold jF;rw [if_neg (by decide +kernel)];unfold jF;rw [if_pos (by decide +kernel)]
theorem Gi (a:AtM K C "twin" "Room.twin" Xl)(R:RTx K C)(B:Blt mg)(M_Room:Mkr P w K mg base "Room" C ["self","n"] 5 (cSp (Jn C))):Dm P w K mg base C "twin" ["self"] 7 (cSp (Hb C)):=by
 refine dmA (k:=6) a Xx (fun _ _ _ _ _ _=>Pn1_ fun _=>rfl) (fun xs M Q h=>?_) (fun f cdv A outer s H E hr=>?_)
 ·obtain ⟨_,_,_,_,_,rfl,_⟩:=h;rfl
 have sc:=Xx
 have hsl:=hsl
 have CL:=R.cl
 refine ⟨_,(zc (zG (i:=1) sc.nd rfl (by first | exact bh rfl | exact bj rfl) (DD M_Room hr rfl (za (zn zt rfl B.len ql (za (qh (pv 0) rfl) zb)) zb)))
  (zc (xJ (pv 1) (jq (zK qA rfl B.list qT (za (qh (pv 0) rfl) zb))) rfl)
  (zc (xJ (pv 1) (qh (pv 0) rfl) rfl)
  (zc (xJ (pv 1) (jq (zK qA rfl B.list qT (za (qh (pv 0) rfl) zb))) rfl)
  (zi (zC (pv 1))))))),?_⟩
 refine ex2 (by walk_at "sim") ?_
 rintro xs M Q ⟨p,rw_,mv,⟨row,hd⟩,ms,rfl,r,hl,hm,q⟩
 rw [show zN ["self","room"] [.ref p]=[some (.ref p),none] from rfl]
 refine zh fun r1 hr1=>?_
 walk_at "ra"
 refine ⟨_,_,r.ins,R.cl,R.nr,_,rfl,_,zz r.row,fun p' hp'=>?_⟩
 have hl:row.length<=1000:=hl
 refine ⟨p',row.length,by rw [aq],ze,hl,fun w0 m0 hw0 hm0 n1 n2 n3=>⟨rfl,?_⟩⟩
 rw [zd n2] at hw0
 rw [zd n3] at hm0
 have fr:Fr M (rmP C (mup M p' (.ins C [])) p' w0 m0 ((qj 0 1 row.length).map some,none) (aF row.length 0)):=(((Fr.refl.mup hp' _).mup hp' _).mup hw0 _).mup hm0 _
 have t:=jZ (C:=C) (M:=mup M p' (.ins C [])) (s:=((qj 0 1 row.length).map some,none)) (ms:=aF row.length 0) n1 n2 n3
 have fr2:Fr M (mup M p' (.ins C [])):=Fr.refl.mup hp' _
 have r':qi C (rmP C (mup M p' (.ins C [])) p' w0 m0 ((qj 0 1 row.length).map some,none) (aF row.length 0)) p rw_ mv (row,hd) ms:=⟨by rw [fr p (zW r.ins)];exact r.ins,by rw [fr rw_ (zW r.row)];exact r.row,by rw [fr mv (zW r.mvd)];exact r.mvd,r.ne⟩
 have hw0':=hw0
 have e1:∀ q,q ≠ p'->q ≠ w0->q ≠ m0->rmP C (mup M p' (.ins C [])) p' w0 m0 ((qj 0 1 row.length).map some,none) (aF row.length 0) q=M q:=fun q a b c=>by
  unfold rmP;rw [zd c,zd b,zd a,zd a]
 generalize rmP C (mup M p' (.ins C [])) p' w0 m0 ((qj 0 1 row.length).map some,none) (aF row.length 0)=M1 at *
 subst hr1
 refine zh fun r1 hr1=>?_
 walk_at "ra"
 refine ⟨_,_,r'.ins,R.cl,R.nr,_,rfl,_,zz r'.row,fun w1 hw1 _=>?_⟩
 have pw1:p' ≠ w1:=fun z=>by rw [<- z,t.ins] at hw1;cases hw1
 refine ⟨_,_,by rw [zd pw1];exact t.ins,R.cl,R.nr,by show 3<1000;decide,?_⟩
 rw [Le]
 have e2:∀ q o o',q ≠ p'->q ≠ w1->mup (mup M1 w1 o) p' o' q=M1 q:=fun q o o' a b=>by rw [zd a,zd b]
 have ne1:∀ {q o},M q=some o->q ≠ p'/\q ≠ w1:=fun {q o} h=>⟨(fun z=>by rw [z,hp'] at h;cases h),(fun z=>by rw [<- z,fr q (zW h),h] at hw1;cases hw1)⟩
 subst hr1
 refine zh fun r1 hr1=>?_
 walk_at "ra"
 refine ⟨_,_,by rw [zd (ne1 r.ins).1,zd (ne1 r.ins).2];exact r'.ins,R.cl,R.nh,_,rfl,_,_,ze,R.cl,R.nh,by show 3<1000;decide,?_⟩
 rw [FM]
 subst hr1
 refine zh fun r1 hr1=>?_
 walk_at "ra"
 refine ⟨_,_,by rw [zd (ne1 r.ins).1,zd (ne1 r.ins).2];exact r'.ins,R.cl,R.nm,_,rfl,_,by rw [zz (by rw [zd (ne1 r.mvd).1,zd (ne1 r.mvd).2];exact r'.mvd)],fun m1 hm1 _=>?_⟩
 have pm1:p' ≠ m1:=fun z=>by rw [<- z,ze] at hm1;cases hm1
 have wm1:w1 ≠ m1:=fun z=>by rw [<- z,zd (Ne.symm pw1),ze] at hm1;cases hm1
 refine ⟨_,_,by rw [zd pm1,ze],R.cl,R.nm,by show 3<1000;decide,?_⟩
 rw [IU]
 subst hr1
 walk_at "ra"
 have hm1':M m1=none:=by rw [zd (Ne.symm pm1),zd (Ne.symm wm1)] at hm1;exact fr.non hm1
 have hw1':M w1=none:=fr.non hw1
 have F:=Zl (C:=C) (M:=M) (s:=(row,hd)) (ms:=ms) (jZ wm1 (Ne.symm pw1) (Ne.symm pm1))
 refine ⟨_,_,⟨fun z=>?_,F.cl,.inl ⟨rfl,fun z hz=>by obtain rfl:p'=z:=hz;unfold rmP;rw [zd pm1,zd pw1,ze];exact fun z=>nomatch z⟩⟩,q p' w1 m1 hp' hw1' hm1' wm1 (Ne.symm pw1) (Ne.symm pm1)⟩
 by_cases c1:z=m1
 ·rw [c1];unfold rmP;rw [ze,zd (Ne.symm pm1),ze];exact .inl rfl
 ·by_cases c2:z=w1
  ·rw [c2];unfold rmP;rw [zd wm1,ze,zd (Ne.symm pw1),zd wm1,zd (Ne.symm pw1),ze];exact .inl rfl
  ·by_cases c3:z=p'
   ·rw [c3];unfold rmP;rw [zd pm1,zd pw1,ze,ze];exact .inl rfl
   ·have e3:rmP C M p' w1 m1 (row,hd) ms z=M z:=by unfold rmP;rw [zd c1,zd c2,zd c3]
    rw [e3,zd c3,zd c1,zd c3,zd c2]
    cases e:M z with
    | some o=>exact .inl (by rw [fr z (zW e),e])
    | none=>exact .inr ⟨rfl,rfl⟩
noncomputable def YF (C:au):ASp:=fun xs M Q=>∃ (p rw_ mv m:au) (s:ES) (ms:List Int),xs=[.ref p,.d (.lst (s.1.map oD)),.d (oD s.2),.ref m]/\qi C M p rw_ mv s ms/\M m=some (msA ms)/\s.1.length<=1000/\ms.length<=1000/\Q (.d (.bl true)) M
noncomputable abbrev yZ:cw:=top 22
theorem wG:zu ["_law_room","_law_row","_law_hand","_law_moved","_law_told"] ["_law_room","_law_row","_law_hand","_law_moved"] (zg yZ):=⟨rfl,rfl,rfl,by decide +kernel,rfl,by decide +kernel,by decide +kernel⟩
theorem KF (a:At K mg "_law_stands" yZ)(B:Blt mg)(D_law_same:Df P w K mg base "_law_same" ["_law_found","_law_due"] 6 (cSp (we 3))) (CL:Cls K C)(M_row_now:Dm P w K mg base C "row_now" ["self"] 6 (cSp (YB C)))(M_hand_now:Dm P w K mg base C "hand_now" ["self"] 6 (cSp (Wm C)))(M_moved_now:Dm P w K mg base C "moved_now" ["self"] 6 (cSp (XY C))):Df P w K mg base "_law_stands" ["_law_room","_law_row","_law_hand","_law_moved"] 7 (cSp (YF C)):=by
 refine dfA (k:=6) a wG (fun _ _ _ _ _ _=>Pn4_ fun _ _ _ _=>rfl) (fun xs M Q h=>?_) (fun f cdv A outer s H E hr=>?_)
 ·obtain ⟨_,_,_,_,_,_,rfl,_⟩:=h;rfl
 have sc:=wG
 have hsl:=hsl
 refine ⟨_,(zc (zG (i:=4) sc.nd rfl (by first | exact bh rfl | exact bj rfl) (zU (za (jV CL M_row_now hr (pv 0)) (za (jV CL M_hand_now hr (pv 0)) (za (jV CL M_moved_now hr (pv 0)) zb)))))
  (zi (zC (zX D_law_same hr rfl (za (pv 4) (za (zU (za (zK qE rfl B.tuple qC (za (pv 1) zb)) (za (pv 2) (za (zK qE rfl B.tuple qC (za (pv 3) zb)) zb)))) zb)))))),?_⟩
 refine ex2 (by walk_at "sim") ?_
 rintro xs M Q ⟨p,rw_,mv,m,⟨row,hd⟩,ms,rfl,r,hm,h1,h2,q⟩
 rw [show zN ["_law_room","_law_row","_law_hand","_law_moved","_law_told"] [.ref p,.d (.lst (row.map oD)),.d (oD hd),.ref m]=[some (.ref p),some (.d (.lst (row.map oD))),some (.d (oD hd)),some (.ref m),none] from rfl]
 refine zh fun r1 hr1=>?_
 walk_at "ra"
 refine ⟨_,r.ins,rfl,p,rw_,mv,(row,hd),ms,rfl,r,h1,_,r.ins,rfl,p,rw_,mv,(row,hd),ms,rfl,r,_,r.ins,rfl,p,rw_,mv,(row,hd),ms,rfl,r,h2,by omega,_,rfl,?_⟩
 subst hr1
 walk_at "ra"
 refine ⟨_,zz hm,_,qw _,by omega,_,_,_,rfl,rfl,rfl,?_,by omega,⟨_,_,qH Fr.refl _,q⟩⟩
 have h1:row.length<=1000:=h1
 have fo:∀ (c:Option Int) n,jL n (oD c):=fun c n=>by cases c;exact BC n;exact QO n _
 refine WP (by simp) fun x hx=>?_
 simp only [aA,aK,or_false] at hx
 rcases hx with rfl | rfl | rfl
 ·exact (Q9 (n:=1) (by rw [aq];omega) fun x hx=>by obtain ⟨c,_,rfl⟩:=br.mp hx;exact fo c 1)
 ·exact fo hd 2
 ·exact (Xj (ns:=ms) (by omega)).mono (by omega)
structure Rc where
 (D p r v m l:au) (s:ES) (ms:List Int) (ds:List Dat)
noncomputable abbrev Rc.fp (x:Rc):List au:=[x.D,x.p,x.r,x.v,x.m,x.l]
noncomputable def Rc.to (x:Rc)(s:ES)(ms:List Int)(ds:List Dat):Rc:=⟨x.D,x.p,x.r,x.v,x.m,x.l,s,ms,ds⟩
noncomputable abbrev kR:Key:=.inr (af "room")
noncomputable abbrev kW:Key:=.inr (af "row")
noncomputable abbrev kH:Key:=.inr (af "hand")
noncomputable abbrev kM:Key:=.inr (af "moved")
noncomputable abbrev kP:Key:=.inr (af "plan")
noncomputable def qY (p m l:au)(s:ES):List (Key × AV):=[(kR,.ref p),(kW,.d (.lst (s.1.map oD))),(kH,.d (oD s.2)),(kM,.ref m),(kP,.ref l)]
theorem kT (p m l:au)(s:ES):jH (qY p m l s) kR=some (.ref p):=rfl
theorem kne:(af "room"=af "row")=False/\(af "room"=af "hand")=False/\(af "room"=af "moved")=False/\(af "room"=af "plan")=False/\(af "row"=af "room")=False/\(af "row"=af "hand")=False/\(af "row"=af "moved")=False/\(af "row"=af "plan")=False/\(af "hand"=af "room")=False/\(af "hand"=af "row")=False/\(af "hand"=af "moved")=False/\(af "hand"=af "plan")=False/\(af "moved"=af "room")=False/\(af "moved"=af "row")=False/\(af "moved"=af "hand")=False/\(af "moved"=af "plan")=False/\(af "plan"=af "room")=False/\(af "plan"=af "row")=False/\(af "plan"=af "hand")=False/\(af "plan"=af "moved")=False:=by
 refine ⟨?_,?_,?_,?_,?_,?_,?_,?_,?_,?_,?_,?_,?_,?_,?_,?_,?_,?_,?_,?_⟩ <;> exact eq_false (by decide +kernel)
theorem kN (p m l:au)(s:ES):jH (qY p m l s) kW=some (.d (.lst (s.1.map oD))):=by simp [jH,qY,bV,kne]
theorem jK (p m l:au)(s:ES):jH (qY p m l s) kH=some (.d (oD s.2)):=by simp [jH,qY,bV,kne]
theorem Qu (p m l:au)(s:ES):jH (qY p m l s) kM=some (.ref m):=by simp [jH,qY,bV,kne]
theorem ZW (p m l:au)(s:ES):jH (qY p m l s) kP=some (.ref l):=by simp [jH,qY,bV,kne]
theorem Fa (p m l:au)(s:ES)(y:AV):(Q5 (qY p m l s) kW y).length<1000000:=by simp [Q5,qY,kne]
theorem Lf (p m l:au)(s s':ES):Q5 (Q5 (qY p m l s) kW (.d (.lst (s'.1.map oD)))) kH (.d (oD s'.2))=qY p m l s':=by simp [Q5,qY,kne]
structure jp (C:au)(n:Nat)(M:MH)(x:Rc):Prop where
 dict:M x.D=some (.dK (qY x.p x.m x.l x.s))
 room:qi C M x.p x.r x.v x.s x.ms
 mvd:M x.m=some (msA x.ms)
 plan:M x.l=some (.lst (x.ds.map .d))
 nd:x.fp.Nodup
 wk:jI 0 (wz n) x.ds=.ok (x.s,x.ms)
 ok:∀ d ∈ x.ds,OkX d
theorem jp.is {x:Rc}(h:jp C n M x) (ha:a ∈ x.fp):M a ≠ none:=by
 simp only [Rc.fp,aA,aK,or_false] at ha
 rcases ha with rfl | rfl | rfl | rfl | rfl | rfl
 ·exact zW h.dict
 ·exact zW h.room.ins
 ·exact zW h.room.row
 ·exact zW h.room.mvd
 ·exact zW h.mvd
 ·exact zW h.plan
theorem jp.keep {x:Rc}(h:jp C n M x)(k:∀ a ∈ x.fp,M' a=M a):jp C n M' x:=
 ⟨(k _ (by simp)).trans h.dict,⟨(k _ (by simp)).trans h.room.ins,(k _ (by simp)).trans h.room.row,(k _ (by simp)).trans h.room.mvd,h.room.ne⟩,(k _ (by simp)).trans h.mvd,(k _ (by simp)).trans h.plan,h.nd,h.wk,h.ok⟩
theorem Dw (c:ZP n s):OkM s n:=by
 refine ⟨fun x hx=>?_,fun x hx=>?_⟩
 ·have h:=c.2 x
  have:0<s.1.count (some x):=lC.mpr hx
  by_cases z:0<=x/\x<(n:Int)
  ·exact z
  ·rw [if_neg z] at h;omega
 ·have h:=c.2 x
  rw [if_pos hx] at h
  by_cases z:0<=x/\x<(n:Int)
  ·exact z
  ·rw [if_neg z] at h;omega
theorem jp.cons {x:Rc}(h:jp C n M x):ZP n x.s/\x.ms.length=n:=yg h.wk (wt n) cC
theorem wA {x:Dat}{t' t'':RS}(hd:doR t'.1 t'.2 x=.ok t''):∀ {l:List Dat} {i:Nat} {t:RS},jI i t l=.ok t'->jI i t (l ++ [x])=.ok t''
 | [],i,t,h=>by
  unfold jI at h
  injection h with h
  subst h
  rw [List.nil_append]
  unfold jI
  rw [hd];rfl
 | y :: l,i,t,h=>by
  rw [fU]
  unfold jI at h ⊢
  cases e:doR t.1 t.2 y with
  | error w=>rw [e] at h;cases h
  | ok u=>rw [e] at h;exact wA hd h
theorem jp.fin {x:Rc}(h:jp C n M' x)(k:∀ a,a ∉ x.fp->M' a=M a)(d:Dat):yd M M' (.d d) (.d d) M':=by
 refine ⟨fun q=>.inl rfl,fun q o e=>?_,.inl ⟨rfl,fun p z=>nomatch z⟩⟩
 by_cases hq:q ∈ x.fp
 ·refine .inr fun z hz=>?_
  simp only [Rc.fp,aA,aK,or_false] at hq
  rcases hq with rfl | rfl | rfl | rfl | rfl | rfl
  ·rw [h.dict] at e
   cases e
   obtain ⟨y,hy,hz⟩:=(show ∃ y ∈ (qY x.p x.m x.l x.s).map (·.2),y.Has z from hz)
   simp only [qY,aV,im,aA,aK,or_false] at hy
   rcases hy with rfl | rfl | rfl | rfl | rfl
   ·obtain rfl:x.p=z:=hz
    exact h.is (by simp)
   ·exact (show False from hz).elim
   ·exact (show False from hz).elim
   ·obtain rfl:x.m=z:=hz
    exact h.is (by simp)
   ·obtain rfl:x.l=z:=hz
    exact h.is (by simp)
  ·rw [h.room.ins] at e
   cases e
   obtain ⟨y,hy,hz⟩:=(show ∃ y ∈ [AV.ref x.r,cA x.s.2,AV.ref x.v],y.Has z from hz)
   simp only [aA,aK,or_false] at hy
   rcases hy with rfl | rfl | rfl
   ·obtain rfl:x.r=z:=hz
    exact h.is (by simp)
   ·cases g:x.s.2 <;> rw [g] at hz <;> exact (show False from hz).elim
   ·obtain rfl:x.v=z:=hz
    exact h.is (by simp)
  ·rw [h.room.row] at e
   cases e
   obtain ⟨y,hy,hz⟩:=(show ∃ y ∈ x.s.1.map cA,y.Has z from hz)
   obtain ⟨c,_,rfl⟩:=br.mp hy
   cases c <;> exact (show False from hz).elim
  ·rw [h.room.mvd] at e
   cases e
   exact absurd hz (j8 (ds:=x.ms.map .int) (qw _) z)
  ·rw [h.mvd] at e
   cases e
   exact absurd hz (j8 (ds:=x.ms.map .int) (qw _) z)
  ·rw [h.plan] at e
   cases e
   exact absurd hz (j8 (ds:=x.ds) (qc _) z)
 ·exact .inl ((k q hq).symm.trans e)
theorem jp.ret {M M2:MH}{x:Rc}(h:jp C n M2 x)(f:Fr M M2):∃ M',jp C n M' x/\(∀ a,a ∉ x.fp->M' a=M a)/\yd M M2 (.ref x.D) (.ref x.D) M':=by
 have k1:∀ a ∈ x.fp,(if a ∈ x.fp then M2 a else M a)=M2 a:=fun a ha=>if_pos ha
 have k2:∀ a,a ∉ x.fp->(if a ∈ x.fp then M2 a else M a)=M a:=fun a ha=>if_neg ha
 have h2:jp C n (fun a=>if a ∈ x.fp then M2 a else M a) x:=h.keep k1
 refine ⟨_,h2,k2,fun q=>?_,(h2.fin k2 .non).cl,.inl ⟨rfl,fun p z=>?_⟩⟩
 ·by_cases hq:q ∈ x.fp
  ·exact .inl (k1 q hq)
  ·by_cases h0:M q=none
   ·exact .inr ⟨h0,(k2 q hq).trans h0⟩
   ·exact .inl ((k2 q hq).trans (f q h0).symm)
 ·cases z
  exact h2.is (by simp)
noncomputable def WH (C:au):ASp:=fun xs M Q=>∃ (n:Nat) (x:Rc) (d:Dat),xs=[.ref x.D,.d d]/\n<=1000/\jp C n M x/\OkX d/\x.ds.length<=900 /\
 ∀ M' s ms ds,ds.length<=x.ds.length+1->(∀ a,a ∉ x.fp->M' a=M a)->jp C n M' (x.to s ms ds)->Q (.d (.bl true)) M'
noncomputable abbrev Z5:cw:=top 26
theorem JX:zu ["_law_own","_law_deed_here","_law_refused","_law_word"] ["_law_own","_law_deed_here"] (zg Z5):=⟨rfl,rfl,rfl,by decide +kernel,rfl,by decide +kernel,by decide +kernel⟩
theorem BQ {C cBadDeed:au}(a:At K mg "_law_tried" Z5)(B:Blt mg)(CL:Cls K C)(XG_BadDeed:mg "BadDeed"=some (.ref cBadDeed))(X2:XB K cBadDeed)(DM_do:DmX P w K mg base C "do" ["self","thing"] 7 (jr (aDo C cBadDeed)))(D_law_why:Df P w K mg base "_law_why" ["_law_row","_law_hand","_law_thing"] 7 (cSp L4))(D_law_counted:Df P w K mg base "_law_counted" ["_law_moved","_law_row","_law_hand","_law_deed_here"] 7 (cSp Ji))(D_law_done:Df P w K mg base "_law_done" ["_law_row","_law_hand","_law_deed_here"] 7 (cSp GA)):Df P w K mg base "_law_tried" ["_law_own","_law_deed_here"] 8 (cSp (WH C)):=by
 refine dfA (k:=7) a JX (fun _ _ _ _ _ _=>Pn2_ fun _ _=>rfl) (fun xs M Q h=>?_) (fun f cdv A outer s H E hr=>?_)
 ·obtain ⟨_,_,_,rfl,_⟩:=h;rfl
 have sc:=JX
 have hsl:=hsl
 refine ⟨_,(zc (zG (i:=2) sc.nd rfl (by first | exact bh rfl | exact bj rfl) j9)
  (zc (W5 (K:=K) rfl rfl rfl rfl rfl XG_BadDeed (fun pins xe Eh hP=>(zi (qR (xm CL DM_do hr hP (zI (qm hr) (pv 0) zj (fun _ _=>rfl)) (za (pv 1) zb))))) (fun x=>(zi (zG (i:=2) sc.nd rfl (by first | exact bh rfl | exact bj rfl) j9))))
  (zc (zG (i:=3) sc.nd rfl (by first | exact bh rfl | exact bj rfl) (zX D_law_why hr rfl (za (zI (qm hr) (pv 0) zj (fun _ _=>rfl)) (za (zI (qm hr) (pv 0) zj (fun _ _=>rfl)) (za (pv 1) zb)))))
  (zc (zL (zp (zV hr.units) (pv 3) zj (zr _)) (zc (qR (zX D_law_counted hr rfl (za (zI (qm hr) (pv 0) zj (fun _ _=>rfl)) (za (zI (qm hr) (pv 0) zj (fun _ _=>rfl)) (za (zI (qm hr) (pv 0) zj (fun _ _=>rfl)) (za (pv 1) zb))))))
  (zc (qW (zX D_law_done hr rfl (za (zI (qm hr) (pv 0) zj (fun _ _=>rfl)) (za (zI (qm hr) (pv 0) zj (fun _ _=>rfl)) (za (pv 1) zb)))) (ji (K:=K) 2 rfl rfl (zP (qB (pv 0) zj (Jj (qm hr))) (zP (qB (pv 0) zj (Jj (qm hr))) jl))))
  (zi (qR (vZ cM db de kE (zI (qm hr) (pv 0) zj (fun _ _=>rfl)) (za (pv 1) zb)))))) zx)
  (zi (zC (qU (zV hr.units) (pv 2) (qU (jB hr.units) (pv 3) zj (zr _)) (zr _)))))))),?_⟩
 refine ex2 (by walk_at "sim") ?_
 rintro xs M Q ⟨n,x,d,rfl,hn,hx,hd,hl,q⟩
 rw [show zN ["_law_own","_law_deed_here","_law_refused","_law_word"] [.ref x.D,.d d]=[some (.ref x.D),some (.d d),none,none] from rfl]
 refine zh fun r1 hr1=>?_
 walk_at "ra"
 subst hr1
 refine zh fun r1 hr1=>?_
 walk_at "ra"
 obtain ⟨cs,lm⟩:=hx.cons
 have l1:=cs.1
 have okm:OkM x.s x.ms.length:=by rw [lm];exact Dw cs
 refine ⟨_,hx.dict,_,kT _ _ _ _,x.p,rfl,_,hx.room.ins,rfl,x.p,x.r,x.v,x.s,x.ms,d,rfl,hx.room,okm,hd.1,hd.2,fun wd hw=>⟨X2.i,fun e he=>?_⟩,fun t ht=>?_⟩
 ·have f1:Fr M (mup M e (.exc cBadDeed (wrd wd))):=Fr.refl.mup he _
  have hx1:jp C n (mup M e (.exc cBadDeed (wrd wd))) x:=hx.keep fun a ha=>f1 a (hx.is ha)
  generalize mup M e (.exc cBadDeed (wrd wd))=M1 at *
  subst hr1
  refine zh fun r1 hr1=>?_
  walk_at "ra"
  refine ⟨_,hx1.dict,_,kN _ _ _ _,_,hx1.dict,_,jK _ _ _ _,x.s,d,rfl,hd.1,hd.2,by omega,?_⟩
  rw [Wa hw]
  have wn:¬ af wd=af "":=by have:=Gq hw;simpa using this
  subst hr1
  refine zh fun r1 hr1=>?_
  walk_at "ra"
  rw [if_neg wn]
  subst hr1
  walk_at "ra"
  rw [decide_eq_false wn]
  exact VY f1 (q M x.s x.ms x.ds (iO _) (fun _ _=>rfl) hx)
 ·show r1 _ _ _ _
  obtain ⟨dd,rfl,hdo⟩:=ZR ht
  have e2:=KR hdo x.ms
  rw [ht] at e2
  have e2:t.2=(j7 x.s dd).foldl jQ x.ms:=by injection e2 with e2;rw [e2]
  have nd:=hx.nd
  simp only [Rc.fp,b7,aA,aK,or_false,not_or,not_false_eq_true,and_true,iX] at nd
  obtain ⟨⟨n1,n2,n3,n4,n5⟩,⟨n6,n7,n8,n9⟩,⟨n10,n11,n12⟩,⟨n13,n14⟩,n15⟩:=nd
  have hr:=hx.room.to t.1 t.2
  have hD:rmP C M x.p x.r x.v t.1 t.2 x.D=some (.dK (qY x.p x.m x.l x.s)):=by unfold rmP;rw [zd n3,zd n2,zd n1];exact hx.dict
  have hm:rmP C M x.p x.r x.v t.1 t.2 x.m=some (msA x.ms):=by unfold rmP;rw [zd (Ne.symm n13),zd (Ne.symm n11),zd (Ne.symm n8)];exact hx.mvd
  have hp:rmP C M x.p x.r x.v t.1 t.2 x.l=some (.lst (x.ds.map .d)):=by unfold rmP;rw [zd (Ne.symm n14),zd (Ne.symm n12),zd (Ne.symm n9)];exact hx.plan
  have hk:∀ a,a ∉ x.fp->rmP C M x.p x.r x.v t.1 t.2 a=M a:=fun a ha=>by
   simp only [Rc.fp,aA,aK,or_false,not_or] at ha
   unfold rmP;rw [zd ha.2.2.2.1,zd ha.2.2.1,zd ha.2.1]
  generalize rmP C M x.p x.r x.v t.1 t.2=M1 at *
  subst hr1
  refine zh fun r1 hr1=>?_
  walk_at "ra"
  refine ⟨_,hD,_,kN _ _ _ _,_,hD,_,jK _ _ _ _,x.s,dD dd,rfl,hd.1,hd.2,by omega,?_⟩
  rw [Fj ht]
  subst hr1
  refine zh fun r1 hr1=>?_
  walk_at "ra"
  refine ⟨_,hD,_,Qu _ _ _ _,_,hD,_,kN _ _ _ _,_,hD,_,jK _ _ _ _,x.m,dd,x.s,t.1,x.ms,rfl,hm,hdo,okm,by omega,?_⟩
  rw [<- e2]
  have hD2:mup M1 x.m (msA t.2) x.D=some (.dK (qY x.p x.m x.l x.s)):=by rw [zd n4];exact hD
  refine ⟨_,hD2,_,kN _ _ _ _,_,hD2,_,jK _ _ _ _,dd,x.s,t.1,rfl,hdo,by omega,_,rfl,rfl,_,_,rfl,?_⟩
  refine ⟨_,hD2,by show 5<1000000;decide,_,_,rfl,_,ze,Fa _ _ _ _ _,rfl,?_⟩
  rw [Lf]
  have hP:mup (mup M1 x.m (msA t.2)) x.D (.dK (qY x.p x.m x.l t.1)) x.l=some (.lst (x.ds.map .d)):=by rw [zd (Ne.symm n5),zd (Ne.symm n15)];exact hp
  refine ⟨_,ze,_,ZW _ _ _ _,⟨_,jx hP⟩,x.l,rfl,_,hP,by rw [aq];omega,?_⟩
  have e6:x.ds.map AV.d ++ [AV.d (dD dd)]=(x.ds ++ [dD dd]).map AV.d:=by rw [bB];rfl
  rw [e6]
  have h5:jp C n (mup (mup (mup M1 x.m (msA t.2)) x.D (.dK (qY x.p x.m x.l t.1))) x.l (.lst ((x.ds ++ [dD dd]).map .d))) (x.to t.1 t.2 (x.ds ++ [dD dd])):=by
   have g:∀ a,a ≠ x.l->a ≠ x.D->a ≠ x.m->mup (mup (mup M1 x.m (msA t.2)) x.D (.dK (qY x.p x.m x.l t.1))) x.l (.lst ((x.ds ++ [dD dd]).map .d)) a=M1 a:=fun a h1 h2 h3=>by rw [zd h1,zd h2,zd h3]
   refine ⟨?_,⟨?_,?_,?_,hr.ne⟩,?_,ze,hx.nd,wA ht hx.wk,fun d hd'=>?_⟩
   ·show mup _ _ _ x.D=_;rw [zd n5,ze];rfl
   ·exact (g x.p n9 (Ne.symm n1) n8).trans hr.ins
   ·exact (g x.r n12 (Ne.symm n2) n11).trans hr.row
   ·exact (g x.v n14 (Ne.symm n3) n13).trans hr.mvd
   ·show mup _ _ _ x.m=_;rw [zd n15,zd (Ne.symm n4),ze];rfl
   ·rcases cq.mp hd' with z | z
    ·exact hx.ok d z
    ·rw [cI.mp z];exact hd
  have k5:∀ a,a ∉ x.fp->mup (mup (mup M1 x.m (msA t.2)) x.D (.dK (qY x.p x.m x.l t.1))) x.l (.lst ((x.ds ++ [dD dd]).map .d)) a=M a:=fun a ha=>by
   have hb:=ha
   simp only [Rc.fp,aA,aK,or_false,not_or] at hb
   rw [zd hb.2.2.2.2.2,zd hb.1,zd hb.2.2.2.2.1]
   exact hk a ha
  generalize mup (mup (mup M1 x.m (msA t.2)) x.D (.dK (qY x.p x.m x.l t.1))) x.l (.lst ((x.ds ++ [dD dd]).map .d))=M5 at *
  subst hr1
  walk_at "ra"
  exact ⟨_,_,h5.fin k5 _,q M5 t.1 t.2 _ (by rw [bE];exact aJ _) k5 h5⟩
noncomputable def BN (C:au):ASp:=fun xs M Q=>∃ (n:Nat),xs=[.d (.int n)]/\n<=1000/\∀ (x:Rc) M',x.ds=[]->(∀ a ∈ x.fp,M a=none)->(∀ a,a ∉ x.fp->M' a=M a)->jp C n M' x->Q (.ref x.D) M'
noncomputable abbrev QC:cw:=top 27
theorem JC:zu ["_law_n"] ["_law_n"] (zg QC):=⟨rfl,rfl,rfl,by decide +kernel,rfl,by decide +kernel,by decide +kernel⟩
theorem BY (a:At K mg "_law_begun" QC)(B:Blt mg)(CL:Cls K C)(M_Room:Mkr P w K mg base "Room" C ["self","n"] 5 (cSp (Jn C))):Df P w K mg base "_law_begun" ["_law_n"] 7 (cSp (BN C)):=by
 refine dfA (k:=6) a JC (fun _ _ _ _ _ _=>Pn1_ fun _=>rfl) (fun xs M Q h=>?_) (fun f cdv A outer s H E hr=>?_)
 ·obtain ⟨_,rfl,_⟩:=h;rfl
 have sc:=JC
 have hsl:=hsl
 refine ⟨_,(zi (zC (ZN (ja zj (DD M_Room hr rfl (za (pv 0) zb)) (ja zj (zK (xZ rfl) rfl B.list qT (za (zK vk rfl B.range Q2 (za (pv 0) zb)) zb)) (ja zj zS (ja zj (jq (zE wR (zU (za zf zb)) (pv 0))) (ja zj (jq (zU zb)) Qf))))) rfl rfl (fun z=>nomatch z) (by decide)))),?_⟩
 refine ex2 (by walk_at "sim") ?_
 rintro xs M Q ⟨n,rfl,hn,q⟩
 rw [show zN ["_law_n"] [.d (.int n)]=[some (.d (.int n))] from rfl]
 walk_at "ra"
 intro D hD p hp
 have nn:∀ {M:MH} {a b:au} {o:MO},M a=some o->M b=none->a ≠ b:=fun h h' z=>by rw [z,h'] at h;cases h
 refine ⟨p,n,rfl,ze,hn,fun r v hr hv n1 n2 n3=>⟨rfl,?_⟩⟩
 rw [zd n2] at hr
 rw [zd n3] at hv
 have em:∀ t ms,rmP C (mup (mup M D (.dK [])) p (.ins C [])) p r v t ms=rmP C (mup M D (.dK [])) p r v t ms:=fun t ms=>by unfold rmP;rw [vW]
 rw [em]
 have t:=jZ (C:=C) (M:=mup M D (.dK [])) (s:=((qj 0 1 n).map some,none)) (ms:=aF n 0) n1 n2 n3
 have Dp:D ≠ p:=nn ze hp
 have Dr:D ≠ r:=nn ze hr
 have Dv:D ≠ v:=nn ze hv
 have f0:Fr M (mup M D (.dK [])):=Fr.refl.mup hD _
 have fr:Fr M (rmP C (mup M D (.dK [])) p r v ((qj 0 1 n).map some,none) (aF n 0)):=((f0.mup (f0.non hp) _).mup (f0.non hr) _).mup (f0.non hv) _
 have hD2:rmP C (mup M D (.dK [])) p r v ((qj 0 1 n).map some,none) (aF n 0) D=some (.dK []):=by unfold rmP;rw [zd Dv,zd Dr,zd Dp,ze]
 have p0:=f0.non hp
 have r0:=f0.non hr
 have v0:=f0.non hv
 generalize rmP C (mup M D (.dK [])) p r v ((qj 0 1 n).map some,none) (aF n 0)=M2 at *
 refine ⟨_,_,_,rfl,small_one (by omega) (by omega) (by omega) (by omega),n,by rw [i9];split <;> omega,by omega,by omega,by omega,by omega,by omega,fun m hm _=>?_⟩
 rw [Az,bz]
 have e2:MO.lst (aF n (AV.d (.int 0)))=msA (aF n 0):=by show MO.lst _=MO.lst _;rw [gH]
 rw [e2]
 intro l hl _
 have ml:m ≠ l:=nn ze hl
 have hl2:M2 l=none:=by rw [zd (Ne.symm ml)] at hl;exact hl
 have Dm:=nn hD2 hm
 have Dl:=nn hD2 hl2
 have pm:=nn t.ins hm
 have pl:=nn t.ins hl2
 have rm:=nn t.row hm
 have rl:=nn t.row hl2
 have vm:=nn t.mvd hm
 have vl:=nn t.mvd hl2
 refine ⟨[(af "room",.ref p),(af "row",.d (.lst ((qj 0 1 n).map .int))),(af "hand",.d .non),(af "moved",.ref m),(af "plan",.ref l)],rfl,by show 5<=15;decide,by simp [kne],by rw [zd Dl,zd Dm];exact hD2,?_⟩
 have ek:(cf (fun kv:Str × AV=>((bG kv.1:Key),kv.2)) [(af "room",.ref p),(af "row",.d (.lst ((qj 0 1 n).map .int))),(af "hand",.d .non),(af "moved",.ref m),(af "plan",.ref l)])=qY p m l ((qj 0 1 n).map some,none):=by
  show _=[_,(_,AV.d (.lst (((qj 0 1 n).map some).map oD))),_,_,_]
  rw [aY];rfl
 rw [ek]
 have g:∀ a,a ≠ D->a ≠ l->a ≠ m->mup (mup (mup M2 m (msA (aF n 0))) l (.lst [])) D (.dK (qY p m l ((qj 0 1 n).map some,none))) a=M2 a:=fun a h1 h2 h3=>by rw [zd h1,zd h2,zd h3]
 have h:jp C n (mup (mup (mup M2 m (msA (aF n 0))) l (.lst [])) D (.dK (qY p m l ((qj 0 1 n).map some,none)))) ⟨D,p,r,v,m,l,((qj 0 1 n).map some,none),aF n 0,[]⟩:=by
  refine ⟨ze,⟨(g p (Ne.symm Dp) pl pm).trans t.ins,(g r (Ne.symm Dr) rl rm).trans t.row,(g v (Ne.symm Dv) vl vm).trans t.mvd,n1⟩,?_,?_,?_,rfl,fun d hd=>nomatch hd⟩
  ·show mup _ _ _ m=_;rw [zd (Ne.symm Dm),zd ml,ze]
  ·show mup _ _ _ l=_;rw [zd (Ne.symm Dl),ze];rfl
  ·show [D,p,r,v,m,l].Nodup
   simp only [b7,aA,aK,or_false,not_or,not_false_eq_true,and_true,iX]
   exact ⟨⟨Dp,Dr,Dv,Dm,Dl⟩,⟨Ne.symm n2,Ne.symm n3,pm,pl⟩,⟨n1,rm,rl⟩,⟨vm,vl⟩,ml⟩
 have F:=((fr.mup (fr.non hm) (msA (aF n 0))).mup (fr.non hl2) (.lst [])).mup hD (.dK (qY p m l ((qj 0 1 n).map some,none)))
 obtain ⟨M',h',k',fi⟩:=h.ret F
 refine ⟨_,_,fi,q _ M' rfl (fun a ha=>?_) k' h'⟩
 simp only [Rc.fp,aA,aK,or_false] at ha
 rcases ha with rfl | rfl | rfl | rfl | rfl | rfl
 ·exact hD
 ·exact p0
 ·exact r0
 ·exact v0
 ·exact fr.non hm
 ·exact fr.non hl2
noncomputable def Yh (C:au):ASp:=fun xs M Q=>∃ (n:Nat) (x:Rc),xs=[.ref x.D]/\n<=1000/\jp C n M x/\x.ds.length<=900/\∀ (y:Rc) M',y.ds.length=x.ds.length->(∀ a ∈ y.fp,M a=none)->(∀ a,a ∉ y.fp->M' a=M a)->jp C n M' y->Q (.ref y.D) M'
noncomputable abbrev yY:cw:=top 28
theorem wm:zu ["_law_own","_law_some"] ["_law_own"] (zg yY):=⟨rfl,rfl,rfl,by decide +kernel,rfl,by decide +kernel,by decide +kernel⟩
theorem Xo (a:At K mg "_law_twin_of" yY)(B:Blt mg)(CL:Cls K C)(M_twin:Dm P w K mg base C "twin" ["self"] 7 (cSp (Hb C))):Df P w K mg base "_law_twin_of" ["_law_own"] 8 (cSp (Yh C)):=by
 refine dfA (k:=7) a wm (fun _ _ _ _ _ _=>Pn1_ fun _=>rfl) (fun xs M Q h=>?_) (fun f cdv A outer s H E hr=>?_)
 ·obtain ⟨_,_,rfl,_⟩:=h;rfl
 have sc:=wm
 have hsl:=hsl
 refine ⟨_,(zc (zG (i:=1) sc.nd rfl (by first | exact bh rfl | exact bj rfl) (ZN (ja zj (jV CL M_twin hr (zI (qm hr) (pv 0) zj (fun _ _=>rfl))) (ja zj (zK qA rfl B.list qT (za (zI (qm hr) (pv 0) zj (fun _ _=>rfl)) zb)) (ja zj (zI (qm hr) (pv 0) zj (fun _ _=>rfl)) Qf))) rfl rfl (fun z=>nomatch z) (by decide)))
  (zc (qR (vZ hU PySem.F.slot_dict_update PySem.F.type_dict_update FR (pv 1) (za (ZN (ja zj (jq (zK qA rfl B.list qT (za (zI (qm hr) (pv 0) zj (fun _ _=>rfl)) zb))) (ja zj (jq (zK qA rfl B.list qT (za (zI (qm hr) (pv 0) zj (fun _ _=>rfl)) zb))) Qf)) rfl rfl (fun z=>nomatch z) (by decide)) zb)))
  (zi (zC (pv 1))))),?_⟩
 refine ex2 (by walk_at "sim") ?_
 rintro xs M Q ⟨n,x,rfl,hn,hx,hl,q⟩
 rw [show zN ["_law_own","_law_some"] [.ref x.D]=[some (.ref x.D),none] from rfl]
 refine zh fun r1 hr1=>?_
 walk_at "ra"
 obtain ⟨cs,lm⟩:=hx.cons
 have l1:=cs.1
 intro D hD
 have nn:∀ {M:MH} {a b:au} {o:MO},M a=some o->M b=none->a ≠ b:=fun h h' z=>by rw [z,h'] at h;cases h
 have f0:Fr M (mup M D (.dK [])):=Fr.refl.mup hD _
 have hx0:=hx.keep fun a ha=>f0 a (hx.is ha)
 refine ⟨_,hx0.dict,_,kT _ _ _ _,x.p,rfl,_,hx0.room.ins,rfl,x.p,x.r,x.v,x.s,x.ms,rfl,hx0.room,by omega,by omega,fun p r v hp hr hv n1 n2 n3=>?_⟩
 have t:=jZ (C:=C) (M:=mup M D (.dK [])) (s:=x.s) (ms:=x.ms) n1 n2 n3
 have Dp:D ≠ p:=nn ze hp
 have Dr:D ≠ r:=nn ze hr
 have Dv:D ≠ v:=nn ze hv
 have fr:Fr M (rmP C (mup M D (.dK [])) p r v x.s x.ms):=((f0.mup (f0.non hp) _).mup (f0.non hr) _).mup (f0.non hv) _
 have hD2:rmP C (mup M D (.dK [])) p r v x.s x.ms D=some (.dK []):=by unfold rmP;rw [zd Dv,zd Dr,zd Dp,ze]
 have p0:=f0.non hp
 have r0:=f0.non hr
 have v0:=f0.non hv
 generalize rmP C (mup M D (.dK [])) p r v x.s x.ms=M2 at *
 have hx2:=hx.keep fun a ha=>fr a (hx.is ha)
 refine ⟨_,hx2.dict,_,kN _ _ _ _,_,K5 _ _,_,qc _,_,hx2.dict,_,jK _ _ _ _,[(af "room",.ref p),(af "row",.d (.lst (x.s.1.map oD))),(af "hand",.d (oD x.s.2))],rfl,by show 3<=15;decide,by simp [kne],hD2,?_⟩
 have f3:=fr.mup hD (.dK [(kR,.ref p),(kW,.d (.lst (x.s.1.map oD))),(kH,.d (oD x.s.2))])
 have hD3:mup M2 D (.dK [(kR,.ref p),(kW,.d (.lst (x.s.1.map oD))),(kH,.d (oD x.s.2))]) D=some (.dK [(kR,.ref p),(kW,.d (.lst (x.s.1.map oD))),(kH,.d (oD x.s.2))]):=ze
 have t3:qi C (mup M2 D (.dK [(kR,.ref p),(kW,.d (.lst (x.s.1.map oD))),(kH,.d (oD x.s.2))])) p r v x.s x.ms:=⟨(zd (Ne.symm Dp)).trans t.ins,(zd (Ne.symm Dr)).trans t.row,(zd (Ne.symm Dv)).trans t.mvd,n1⟩
 show r1 _ _ _ (mup M2 D (.dK [(kR,.ref p),(kW,.d (.lst (x.s.1.map oD))),(kH,.d (oD x.s.2))]))
 generalize mup M2 D (.dK [(kR,.ref p),(kW,.d (.lst (x.s.1.map oD))),(kH,.d (oD x.s.2))])=M3 at *
 have hx3:=hx.keep fun a ha=>f3 a (hx.is ha)
 subst hr1
 refine zh fun r1 hr1=>?_
 walk_at "ra"
 refine ⟨⟨_,hD3⟩,fun e he=>?_⟩
 have De:=nn hD3 he
 have f4:=f3.mup (f3.non he) (.dK [])
 have hx4:=hx.keep fun a ha=>f4 a (hx.is ha)
 refine ⟨_,hx4.dict,_,Qu _ _ _ _,_,zz hx4.mvd,fun m hm _=>?_⟩
 have em:=nn ze hm
 have hm3:M3 m=none:=by rw [zd (Ne.symm em)] at hm;exact hm
 have f5:=f4.mup (f4.non hm) (msA x.ms)
 have hx5:=hx.keep fun a ha=>f5 a (hx.is ha)
 refine ⟨_,hx5.dict,_,ZW _ _ _ _,_,zz hx5.plan,fun l hl _=>?_⟩
 have ml:=nn ze hl
 have hl4:mup M3 e (.dK []) l=none:=by rw [zd (Ne.symm ml)] at hl;exact hl
 have el:=nn ze hl4
 have hl3:M3 l=none:=by rw [zd (Ne.symm el)] at hl4;exact hl4
 have f6:=f5.mup (f5.non hl) (.lst (x.ds.map .d))
 have f7:=f6.mup (f3.non he) (.dK [(kM,.ref m),(kP,.ref l)])
 have f8:=f7.mup hD (.dK (qY p m l x.s))
 have Dm:=nn hD3 hm3
 have Dl:=nn hD3 hl3
 refine ⟨[(af "moved",.ref m),(af "plan",.ref l)],rfl,by show 2<=15;decide,by simp [kne],by rw [zd el,zd em,ze],De,_,by rw [zd De,zd Dl,zd Dm,zd De];exact hD3,_,ze,by show 3+2<=1000;decide,by simp [kne],by simp [kne],?_⟩
 show r1 _ _ _ (mup (mup (mup (mup (mup M3 e (.dK [])) m (msA x.ms)) l (.lst (x.ds.map .d))) e (.dK [(kM,.ref m),(kP,.ref l)])) D (.dK (qY p m l x.s)))
 have g:∀ a,a ≠ D->a ≠ e->a ≠ m->a ≠ l->mup (mup (mup (mup (mup M3 e (.dK [])) m (msA x.ms)) l (.lst (x.ds.map .d))) e (.dK [(kM,.ref m),(kP,.ref l)])) D (.dK (qY p m l x.s)) a=M3 a:=fun a h1 h2 h3 h4=>by rw [zd h1,zd h2,zd h4,zd h3,zd h2]
 have h:jp C n (mup (mup (mup (mup (mup M3 e (.dK [])) m (msA x.ms)) l (.lst (x.ds.map .d))) e (.dK [(kM,.ref m),(kP,.ref l)])) D (.dK (qY p m l x.s))) ⟨D,p,r,v,m,l,x.s,x.ms,x.ds⟩:=by
  refine ⟨ze,⟨(g p (Ne.symm Dp) (nn t3.ins he) (nn t3.ins hm3) (nn t3.ins hl3)).trans t3.ins,(g r (Ne.symm Dr) (nn t3.row he) (nn t3.row hm3) (nn t3.row hl3)).trans t3.row,(g v (Ne.symm Dv) (nn t3.mvd he) (nn t3.mvd hm3) (nn t3.mvd hl3)).trans t3.mvd,n1⟩,?_,?_,?_,hx.wk,hx.ok⟩
  ·show mup _ _ _ m=_;rw [zd (Ne.symm Dm),zd (Ne.symm em),zd ml,ze]
  ·show mup _ _ _ l=_;rw [zd (Ne.symm Dl),zd (Ne.symm el),ze]
  ·show [D,p,r,v,m,l].Nodup
   simp only [b7,aA,aK,or_false,not_or,not_false_eq_true,and_true,iX]
   exact ⟨⟨Dp,Dr,Dv,Dm,Dl⟩,⟨Ne.symm n2,Ne.symm n3,nn t3.ins hm3,nn t3.ins hl3⟩,⟨n1,nn t3.row hm3,nn t3.row hl3⟩,⟨nn t3.mvd hm3,nn t3.mvd hl3⟩,ml⟩
 generalize mup (mup (mup (mup (mup M3 e (.dK [])) m (msA x.ms)) l (.lst (x.ds.map .d))) e (.dK [(kM,.ref m),(kP,.ref l)])) D (.dK (qY p m l x.s))=M8 at *
 obtain ⟨M',h',k',fi⟩:=h.ret f8
 subst hr1
 walk_at "ra"
 refine ⟨_,_,fi,q _ M' rfl (fun a ha=>?_) k' h'⟩
 simp only [Rc.fp,aA,aK,or_false] at ha
 rcases ha with rfl | rfl | rfl | rfl | rfl | rfl
 ·exact hD
 ·exact p0
 ·exact r0
 ·exact v0
 ·exact f3.non hm3
 ·exact f3.non hl3
noncomputable def Av (C:au):ASp:=fun xs M Q=>∃ (n:Nat) (x:Rc),xs=[.ref x.D,.d (.int n)]/\n<=1000/\jp C n M x/\x.ds.length<=1000/\Q (.d (.bl true)) M
noncomputable abbrev ZO:cw:=top 29
theorem Jx:zu ["_law_own","_law_n","_law_told","_law_thing"] ["_law_own","_law_n"] (zg ZO):=⟨rfl,rfl,rfl,by decide +kernel,rfl,by decide +kernel,by decide +kernel⟩
theorem IM (row:List (Option Int)):dps (row.map oD)<=0:=jY fun d hd=>by
 obtain ⟨c,_,rfl⟩:=br.mp hd
 cases c <;> simp [oD,dp]
theorem HV (l:List Int):dps (l.map Dat.int)<=0:=jY fun d hd=>by
 obtain ⟨c,_,rfl⟩:=br.mp hd
 simp [dp]
theorem MD (s:ES)(ms:List Int):dp (.tup [.str (af "open"),.tup (s.1.map oD),oD s.2,.tup (ms.map .int)])<=40:=by
 rw [dp]
 refine bb (b9 (jY (n:=1) fun d hd=>?_)) (by decide)
 simp only [aA,aK,or_false] at hd
 rcases hd with rfl | rfl | rfl | rfl
 ·simp [dp]
 ·rw [dp];exact b9 (IM _)
 ·cases s.2 <;> simp [oD,dp]
 ·rw [dp];exact b9 (HV _)
theorem F4 (os:List Int):qo (.d (.lst (os.map (oD ∘ some)))) M=some (os.map fun i=>AV.d (.int i)):=by
 show some ((os.map (oD ∘ some)).map AV.d)=_
 rw [aY];rfl
theorem BK (a:At K mg "_law_end_right" ZO)(B:Blt mg)(DX_walked:DfX P w K mg base "walked" ["n","plan"] 9 (jr GM)):Df P w K mg base "_law_end_right" ["_law_own","_law_n"] 10 (cSp (Av C)):=by
  refine dfA (k:=9) a Jx (fun _ _ _ _ _ _=>Pn2_ fun _ _=>rfl) (fun xs M Q h=>?_) (fun f cdv A outer s H E hr=>?_)
  · obtain ⟨_,_,rfl,_⟩:=h;rfl
  have sc:=Jx
  have hsl:=hsl
  refine ⟨_,(zc (zG (i:=2) sc.nd rfl (by first | exact bh rfl | exact bj rfl) (GC DX_walked hr rfl Hm (za (pv 1) (za (zI (qm hr) (pv 0) zj (fun _ _=>rfl)) zb))))
    (zc (zL (zp (zV hr.units) (zv Kj (pv 2) zf (fun _ _=>rfl)) zj (zr _)) (zi (zC (v7 (qU ka (zI (qm hr) (pv 0) zj (fun _ _=>rfl)) zS (zr _)) (Qq (qU (zV hr.units) (zv Kj (pv 2) zf (fun _ _=>rfl)) (yM (ts:=[3]) rfl rfl (kI rfl B.range (za (pv 1) zb)) (fun _ _ _ _=>(zR (i:=3) sc.nd rfl (by first | exact bh rfl | exact bj rfl))) (fun _ _ _ _=>kU) (fun _ _ _ _=>(IT (K:=K) rfl cM PySem.F.slot_list_index PySem.F.type_list_index Wd (zI (qm hr) (pv 0) zj (fun _ _=>rfl)) (za (pv 3) zb)))) (zr _)))))) zx)
    (zi (zC (qU (zV hr.units) (pv 2) (zB (za zj (za (zK qE rfl B.tuple qC (za (zI (qm hr) (pv 0) zj (fun _ _=>rfl)) zb)) (za (zI (qm hr) (pv 0) zj (fun _ _=>rfl)) (za (zK qE rfl B.tuple qC (za (zI (qm hr) (pv 0) zj (fun _ _=>rfl)) zb)) zb))))) (zr _)))))),?_⟩
  refine ex2 (by walk_at "sim") ?_
  rintro xs M Q ⟨n,x,rfl,hn,hx,hl,q⟩
  rw [show zN ["_law_own","_law_n","_law_told","_law_thing"] [.ref x.D,.d (.int n)]=[some (.ref x.D),some (.d (.int n)),none,none] from rfl]
  obtain ⟨cs,lm⟩:=hx.cons
  have l1:=cs.1
  refine zh fun r1 hr1=>?_
  walk_at "ra"
  refine ⟨_,hx.dict,_,ZW _ _ _ _,n,x.l,x.ds,(x.s,x.ms),rfl,hn,hx.plan,hl,hx.ok,hx.wk,fun h hh=>?_,fun hh p hp=>?_⟩
  · subst hr1
    refine zh fun r1 hr1=>?_
    walk_at "ra"
    refine ⟨_,rfl,_,rfl,_,rfl,by rw [ju];omega,?_⟩
    rw [if_neg (by rw [xa];decide +kernel)]
    subst hr1
    walk_at "ra"
    refine ⟨_,hx.dict,_,kN _ _ _ _,_,K5 _ _,_,qc _,_,hx.dict,_,jK _ _ _ _,_,hx.dict,_,Qu _ _ _ _,_,zz hx.mvd,_,qw _,?_⟩
    have hh:x.s.2=some h:=hh
    have ew:GD (x.s,x.ms) h=.tup [.str (af "open"),.tup (x.s.1.map oD),oD x.s.2,.tup (x.ms.map .int)]:=by rw [hh];rfl
    have dw:=MD x.s x.ms
    rw [ew]
    refine ⟨by omega,_,rfl,dw,dw,?_⟩
    rw [yp (dG dw (by decide))]
    exact VY Fr.refl q
  · subst hr1
    refine zh fun r1 hr1=>?_
    walk_at "ra"
    have hpM:mup M p (.lst (V9 (x.s,x.ms))) p=some (.lst (V9 (x.s,x.ms))):=ze
    have f1:Fr M (mup M p (.lst (V9 (x.s,x.ms)))):=Fr.refl.mup hp _
    have hx1:=hx.keep fun a ha=>f1 a (hx.is ha)
    generalize mup M p (.lst (V9 (x.s,x.ms)))=M1 at *
    refine ⟨_,rfl,_,rfl,_,rfl,by rw [ju];omega,?_⟩
    rw [if_pos (by rw [xa];decide +kernel)]
    have hh:x.s.2=none:=hh
    have cs:ZP n (x.s.1,none):=by rw [<- hh];exact cs
    obtain ⟨os,e1,ho⟩:=Bz cs
    have h1:=ho.1
    refine ⟨_,hx1.dict,_,jK _ _ _ _,?_⟩
    rw [hh,if_pos (by rfl)]
    refine ⟨_,rfl,_,rfl,by omega,by omega,?_⟩
    rw [bz]
    refine Fl (fun (o:Option AV)=>[some (.ref x.D),some (.d (.int n)),some (.tp (XH (x.s,x.ms) p)),o]) (fun i=>.d (.int (os.idxOf (i:Int):Nat))) ⟨_,rfl⟩ trivial (by rw [jU];omega) (fun o i y Q hy q=>?_) fun o=>?_
    · obtain ⟨hi,rfl⟩:=xq hy
      walk_at "ra"
      have hm:=Yl ho hi
      have hlt:os.idxOf (i:Int)<os.length:=gv hm
      have hg:os.getD (os.idxOf (i:Int)) 0=(i:Int):=by
        rw [ay,am hlt]
        exact lD hlt
      refine ⟨_,hx1.dict,_,kN _ _ _ _,⟨_,rfl⟩,os,?_,os.idxOf (i:Int),hlt,by rw [hg];omega,fun m hmm z=>?_,q _⟩
      · rw [e1,aY];exact F4 os
      · have:=ho.inj (i:=m) (j:=os.idxOf (i:Int)) (by omega) (by omega) (by rw [z,hg];omega)
        omega
    · have dpl:dp (.lst ((bL x.s.1).map .int))<=40:=bb (ET _) (by decide)
      refine ⟨(bL x.s.1).map .int,?_,.lst ((bL x.s.1).map .int),WX hpM (qw _),dpl,dpl,?_⟩
      · have e : (bW (w8 0 1 n).length).map (fun i : Nat => AV.d (.int (os.idxOf (i : Int) : Nat))) = ((bL x.s.1).map Dat.int).map AV.d := by
          rw [e1]
          unfold bL
          rw [jU,aq,h1,aY,aY]
          exact du fun k _=>by show AV.d (.int (os.idxOf (k:Int):Nat))=AV.d (.int ((os.map some).idxOf (some (k:Int)):Nat));rw [XN]
        rw [e];exact qc _
      · rw [yp (dG dpl (by decide))]
        exact VY f1 q
theorem Ju {t:AS}{ag:AG}{x:AV} (h:∀ D',D'=D->ag x ρ M fun ρ' M'=>t B D' ρ' M'):ag x ρ M fun ρ' M'=>t B D ρ' M':=h D rfl
structure Sx (C:au)(n:Nat)(M0 M:MH)(b:au)(N:Nat)(xs:List Rc):Prop where
 fr:Fr M0 M
 bx:BxM M b N
 rc:∀ x ∈ xs,jp C n M x
 nd:(b :: xs.flatMap Rc.fp).Nodup
 z:∀ a ∈ b :: xs.flatMap Rc.fp,M0 a=none
variable {C:au}{n N:Nat}{M0 M M':MH}{b:au}{xs:List Rc}{x:Rc}
theorem Sx.mem (h:Sx C n M0 M b N xs) (hx:x ∈ xs)(ha:a ∈ x.fp):a ∈ xs.flatMap Rc.fp:=fV.mpr ⟨x,hx,ha⟩
theorem Sx.nb (h:Sx C n M0 M b N xs) (ha:a ∈ xs.flatMap Rc.fp):a ≠ b:=fun z=>(b7.mp h.nd).1 (by rw [<- z];exact ha)
theorem Sx.is (h:Sx C n M0 M b N xs) (ha:a ∈ b :: xs.flatMap Rc.fp):M a ≠ none:=by
 rcases aA.mp ha with rfl | ha
 ·exact h.bx.ne
 ·obtain ⟨x,hx,hb⟩:=fV.mp ha
  exact (h.rc x hx).is hb
theorem wg (h:BxM M b N)(e:M' b=M b):BxM M' b N:=by
 obtain ⟨x,y,z,h1,h2⟩:=h
 exact ⟨x,y,z,e.trans h1,h2⟩
theorem Sx.oth (h:Sx C n M0 M b N xs)(f:Fr M0 M')(k:∀ a ∈ b :: xs.flatMap Rc.fp,M' a=M a):Sx C n M0 M' b N xs:=
 ⟨f,wg h.bx (k b (by simp)),fun x hx=>(h.rc x hx).keep fun a ha=>k a (aX _ (h.mem hx ha)),h.nd,h.z⟩
variable {N':Nat}
theorem Sx.box (h:Sx C n M0 M b N xs) (s:BxS M M' b N'):Sx C n M0 M' b N' xs:=
 ⟨h.fr.bx s (h.z b (by simp)),s.1,fun x hx=>(h.rc x hx).keep fun a ha=>s.at (h.nb (h.mem hx ha)),h.nd,h.z⟩
theorem Sx.mono (h:Sx C n M0 M b N xs) (l:N<=N'):Sx C n M0 M b N' xs:=⟨h.fr,h.bx.mono l,h.rc,h.nd,h.z⟩
theorem Sx.add (h:Sx C n M0 M b N xs)(y:Rc)(hy:jp C n M' y)(h0:∀ a ∈ y.fp,M a=none)(k:∀ a,a ∉ y.fp->M' a=M a):Sx C n M0 M' b N (xs ++ [y]):=by
 have out:∀ a,M a ≠ none->a ∉ y.fp:=fun a ha hm=>ha (h0 a hm)
 have e:(xs ++ [y]).flatMap Rc.fp=xs.flatMap Rc.fp ++ y.fp:=by rw [i7,gT,my,bQ]
 refine ⟨fun a ha=>?_,wg h.bx (k b (out b h.bx.ne)),fun x hx=>?_,?_,fun a ha=>?_⟩
 ·rw [k a (out a (by rw [h.fr a ha];exact ha)),h.fr a ha]
 ·rcases cq.mp hx with z | z
  ·exact (h.rc x z).keep fun a ha=>k a (out a ((h.rc x z).is ha))
  ·rw [cI.mp z];exact hy
 ·rw [e,<- fU]
  refine lS.mpr ⟨h.nd,hy.nd,fun a ha c hc z=>h.is ha (by rw [z];exact h0 c hc)⟩
 ·rw [e,<- fU] at ha
  rcases cq.mp ha with z | z
  ·exact h.z a z
  ·exact h.fr.non (h0 a z)
theorem WQ:∀ {xs:List Rc},(xs.flatMap Rc.fp).Nodup->∀ {i j:Nat} {x y:Rc},xs[i]?=some x->xs[j]?=some y->i ≠ j->∀ a ∈ y.fp,a ∉ x.fp
 | [],_,i,j,x,y,hi,_,_=>by cases hi
 | u :: xs,h,i,j,x,y,hi,hj,ne=>by
  rw [gT] at h
  obtain ⟨h1,h2,h3⟩:=lS.mp h
  match i,j with
  | 0,0=>exact absurd rfl ne
  | 0,j+1=>
   cases hi
   exact fun a ha hb=>h3 a hb a (fV.mpr ⟨y,aR hj,ha⟩) rfl
  | i+1,0=>
   cases hj
   exact fun a ha hb=>h3 a ha a (fV.mpr ⟨x,aR hi,hb⟩) rfl
  | i+1,j+1=>exact WQ (xs:=xs) h2 (i:=i) (j:=j) hi hj (fun z=>ne (by rw [z]))
theorem Sx.upd (h:Sx C n M0 M b N xs){i:Nat}(hi:xs[i]?=some x) {ds:List Dat}(hy:jp C n M' (x.to s ms ds))(k:∀ a,a ∉ x.fp->M' a=M a):Sx C n M0 M' b N (xs.set i (x.to s ms ds)):=by
 have hm:=aR hi
 have e:(xs.set i (x.to s ms ds)).flatMap Rc.fp=xs.flatMap Rc.fp:=by
  rw [fW,fW,ej]
  congr 1
  refine lU fun j=>?_
  rw [cb]
  by_cases c:i=j
  ·subst c
   have hl:=(aD.mp hi).1
   rw [if_pos rfl,if_pos (by rw [aq];exact hl),aE,hi];rfl
  ·rw [if_neg c]
 refine ⟨fun a ha=>?_,wg h.bx (k b fun z=>h.nb (h.mem hm z) rfl),fun y hy'=>?_,by rw [e];exact h.nd,by rw [e];exact h.z⟩
 ·rw [k a fun z=>ha (h.z a (aX _ (h.mem hm z))),h.fr a ha]
 ·obtain ⟨j,hj⟩:=bA hy'
  rw [cb] at hj
  by_cases c:i=j
  ·subst c
   rw [if_pos rfl,if_pos (aD.mp hi).1] at hj
   cases hj
   exact hy
  ·rw [if_neg c] at hj
   exact (h.rc y (aR hj)).keep fun a ha=>k a (WQ (b7.mp h.nd).2 hi hj c a ha)
structure Sq (C:au)(n:Nat)(M0 M:MH)(b:au)(N:Nat)(q:au)(xs:List Rc):Prop where
 sx:Sx C n M0 M b N xs
 own:M q=some (.lst (xs.map fun x=>AV.ref x.D))
 q0:M0 q=none
 qn:q ∉ b :: xs.flatMap Rc.fp
variable {q:au}
theorem Sq.box (h:Sq C n M0 M b N q xs) (s:BxS M M' b N'):Sq C n M0 M' b N' q xs:=
 ⟨h.sx.box s,(s.at fun z=>h.qn (by rw [z];simp)).trans h.own,h.q0,h.qn⟩
theorem Sq.mono (h:Sq C n M0 M b N q xs) (l:N<=N'):Sq C n M0 M b N' q xs:=⟨h.sx.mono l,h.own,h.q0,h.qn⟩
theorem Sq.upd (h:Sq C n M0 M b N q xs){i:Nat}(hi:xs[i]?=some x) {ds:List Dat}(hy:jp C n M' (x.to s ms ds))(k:∀ a,a ∉ x.fp->M' a=M a):Sq C n M0 M' b N q (xs.set i (x.to s ms ds)):=by
 have hm:=aR hi
 have e:∀ {β:Type} (f:Rc->β),f (x.to s ms ds)=f x->(xs.set i (x.to s ms ds)).map f=xs.map f:=fun f hf=>by
  rw [ej]
  refine lU fun j=>?_
  rw [cb]
  by_cases c:i=j
  ·subst c
   have hl:=(aD.mp hi).1
   rw [if_pos rfl,if_pos (by rw [aq];exact hl),aE,hi,hf];rfl
  ·rw [if_neg c]
 refine ⟨h.sx.upd hi hy k,?_,h.q0,?_⟩
 ·rw [k q fun z=>h.qn (aX _ (h.sx.mem hm z)),h.own,e (fun x=>AV.ref x.D) rfl]
 ·rw [fW,e Rc.fp rfl,<- fW];exact h.qn
theorem Sx.lst (h:Sx C n M0 M b N xs)(hq:M q=none):Sq C n M0 (mup M q (.lst (xs.map fun x=>AV.ref x.D))) b N q xs:=by
 have qn:q ∉ b :: xs.flatMap Rc.fp:=fun z=>h.is z hq
 exact ⟨h.oth (h.fr.mup (h.fr.non hq) _) fun a ha=>zd fun z=>qn (by rw [<- z];exact ha),ze,h.fr.non hq,qn⟩
theorem Sq.add (h:Sq C n M0 M b N q xs)(y:Rc)(hy:jp C n M' y)(h0:∀ a ∈ y.fp,M a=none)(k:∀ a,a ∉ y.fp->M' a=M a) :
  M' q=some (.lst (xs.map fun x=>AV.ref x.D))/\Sq C n M0 (mup M' q (.lst ((xs ++ [y]).map fun x=>AV.ref x.D))) b N q (xs ++ [y]):=by
 have qy:q ∉ y.fp:=fun z=>zW h.own (h0 q z)
 have hs:=h.sx.add y hy h0 k
 have qn:q ∉ b :: (xs ++ [y]).flatMap Rc.fp:=fun z=>by
  rw [i7,gT,my,bQ,<- fU] at z
  rcases cq.mp z with z | z
  ·exact h.qn z
  ·exact qy z
 exact ⟨(k q qy).trans h.own,hs.oth (hs.fr.mup h.q0 _) fun a ha=>zd fun z=>qn (by rw [<- z];exact ha),ze,h.q0,qn⟩
theorem wu (f:Rc->AV) {k:Nat}{x:Rc}(h:xs[k]?=some x):atI (xs.map f) (k:Int)=some (f x):=by
 have hk:=(aD.mp h).1
 unfold atI
 rw [qQ (by omega) (by rw [aq];omega)]
 show (xs.map f)[(k:Int).toNat]?=_
 rw [bz,aE,h];rfl
theorem Ln (d:De):OkX (dD d):=by
 cases d <;> exact ⟨by simp [dD,dp,dps],fun l e=>by cases e;exact bK rfl⟩
noncomputable def tlD (x:Rc):Dat:=.tup [.tup (x.s.1.map oD),.tup (x.ms.map .int)]
theorem Lq (x:Rc):dp (tlD x)<=40:=by
 unfold tlD
 rw [dp]
 refine bb (b9 (jY (n:=1) fun d hd=>?_)) (by decide)
 simp only [aA,aK,or_false] at hd
 rcases hd with rfl | rfl
 ·rw [dp]
  refine b9 (jY fun d hd=>?_)
  obtain ⟨c,_,rfl⟩:=br.mp hd
  cases c <;> simp [oD,dp]
 ·rw [dp]
  refine b9 (jY fun d hd=>?_)
  obtain ⟨c,_,rfl⟩:=br.mp hd
  simp [dp]
noncomputable abbrev Bm:cw:=top 30
theorem Aq:zu ["_law_script","_law_k","_law_box_here","_law_n","_law_owns","_law_turn","_law_at","_law_deed_here","_law_told","_law_j","_law_own"] ["_law_script"] (zg Bm):=⟨rfl,rfl,rfl,by decide +kernel,rfl,by decide +kernel,by decide +kernel⟩
noncomputable def X9 (K:ax):Sp:=fun vs H Q _=>∃ (a:au) (ns:List Int),vs=[.ref a]/\SqL K H a (ns.map V.int)/\ns.length<=63/\∀ H',Q (.bl true) H'
noncomputable def Mq (K:ax):ASp:=fun xs M Q=>∃ ns:List Int,xs=[.d (.scr K ns)]/\ns.length<=63/\Q (.d (.bl true)) M
theorem sp_law (vs:List V)(H:Hp)(Q:VK)(E:XK)(h:X9 K vs H Q E):cSp (Mq K) vs H Q E:=by
 obtain ⟨a,ns,rfl,ha,hn,q⟩:=h
 refine ⟨[.d (.scr K ns)],fun _=>none,fun _=>False,fun x _=>x=.d (.bl true),⟨(fun a o e=>nomatch e),(fun a h=>h rfl),fun a h=>h.elim⟩,.cons (EF (fun _ z=>z) ha) .nil,⟨ns,rfl,hn,rfl⟩,fun x M' v H' O' hx _ _ r=>?_⟩
 subst hx
 rw [xo r]
 exact q H'
theorem Ip (a:At K mg "law" Bm)(B:Blt mg)(Ball:mg "all"=none)(D_law_box:Df P w K mg base "_law_box" ["_law_script","_law_k"] 19 (cSp Md))(D_law_folded:Df P w K mg base "_law_folded" ["_law_script","_law_many"] 19 (cSp (Yv K)))(D_law_length:Df P w K mg base "_law_length" ["_law_box_here","_law_most"] 19 (cSp XS))(D_law_take:Df P w K mg base "_law_take" ["_law_box_here","_law_many"] 19 (cSp Ja))(D_law_deed:Df P w K mg base "_law_deed" ["_law_box_here","_law_row","_law_hand"] 19 (cSp GN))(D_law_odd:Df P w K mg base "_law_odd" ["_law_box_here","_law_n"] 19 (cSp IN))(D_law_stands:Df P w K mg base "_law_stands" ["_law_room","_law_row","_law_hand","_law_moved"] 19 (cSp (YF C)))(D_law_tried:Df P w K mg base "_law_tried" ["_law_own","_law_deed_here"] 19 (cSp (WH C)))(D_law_begun:Df P w K mg base "_law_begun" ["_law_n"] 19 (cSp (BN C)))(D_law_twin_of:Df P w K mg base "_law_twin_of" ["_law_own"] 19 (cSp (Yh C)))(D_law_end_right:Df P w K mg base "_law_end_right" ["_law_own","_law_n"] 19 (cSp (Av C)))(CL:Cls K C)(M_row_now:Dm P w K mg base C "row_now" ["self"] 19 (cSp (YB C)))(M_moved_now:Dm P w K mg base C "moved_now" ["self"] 19 (cSp (XY C))):Df P w K mg base "law" ["_law_script"] 20 (cSp (Mq K)):=by
 refine dfA (k:=19) a Aq (fun _ _ _ _ _ _=>Pn1_ fun _=>rfl) (fun xs M Q h=>?_) (fun f cdv A outer s H E hr=>?_)
 ·obtain ⟨_,rfl,_⟩:=h;rfl
 have sc:=Aq
 have hsl:=hsl
 refine ⟨_,(zc (zG (i:=0) sc.nd rfl (by first | exact bh rfl | exact bj rfl) (zX D_law_folded hr rfl (za (pv 0) (za zf zb))))
  (zc (xK dO rfl (kI rfl B.range (za (zn (Zy rfl) rfl B.max DS (za zf (za (zn zt rfl B.len ql (za (pv 0) zb)) zb))) zb)) (zR (i:=1) sc.nd rfl (by first | exact bh rfl | exact bj rfl)) (zc (zG (i:=2) sc.nd rfl (by first | exact bh rfl | exact bj rfl) (zX D_law_box hr rfl (za (pv 0) (za (pv 1) zb))))
  (zc (zG (i:=3) sc.nd rfl (by first | exact bh rfl | exact bj rfl) (zX D_law_length hr rfl (za (pv 2) (za zf zb))))
  (zc (zG (i:=4) sc.nd rfl (by first | exact bh rfl | exact bj rfl) (jq (zU (za (zX D_law_begun hr rfl (za (pv 3) zb)) (za (zX D_law_begun hr rfl (za (pv 3) zb)) zb)))))
  (zc (xK dO rfl (kI rfl B.range (za zf zb)) (zR (i:=5) sc.nd rfl (by first | exact bh rfl | exact bj rfl)) (zc (zL (zp (zV hr.units) (pv 5) zf (zr _)) (zi (qR (vZ cM db de kE (pv 4) (za (zX D_law_twin_of hr rfl (za (zv zD (pv 4) (zX D_law_take hr rfl (za (pv 2) (za zf zb))) (fun _ _=>rfl)) zb)) zb)))) zx)
  (zc (zG (i:=6) sc.nd rfl (by first | exact bh rfl | exact bj rfl) (zX D_law_take hr rfl (za (pv 2) (za (zn zt rfl B.len ql (za (pv 4) zb)) zb))))
  (zc (zG (i:=7) sc.nd rfl (by first | exact bh rfl | exact bj rfl) (zX D_law_deed hr rfl (za (pv 2) (za (zI (qm hr) (zv zD (pv 4) (pv 6) (fun _ _=>rfl)) zj (fun _ _=>rfl)) (za (zI (qm hr) (zv zD (pv 4) (pv 6) (fun _ _=>rfl)) zj (fun _ _=>rfl)) zb)))))
  (zc (zL (PW.pt (kA (zp ka (pv 7) zS (zr _)) (jW (zp (zV hr.units) (zX D_law_take hr rfl (za (pv 2) (za zf zb))) zf (zr _))))) (zi (zG (i:=7) sc.nd rfl (by first | exact bh rfl | exact bj rfl) (zX D_law_odd hr rfl (za (pv 2) (za (pv 3) zb))))) zx)
  (zc (vM (j:=8) rfl sc.nd rfl (by first | exact bh rfl | exact bj rfl) (ts:=[10]) rfl (wL (pv 4)) (fun _ _ _ _=>(zR (i:=10) sc.nd rfl (by first | exact bh rfl | exact bj rfl))) (fun _ _ _ _=>kU) (fun _ _ _ _=>(zB (za (jV CL M_row_now hr (zI (qm hr) (pv 10) zj (fun _ _=>rfl))) (za (jV CL M_moved_now hr (zI (qm hr) (pv 10) zj (fun _ _=>rfl))) zb)))))
  (zc (zL (jG (jd (zX D_law_tried hr rfl (za (zv zD (pv 4) (pv 6) (fun _ _=>rfl)) (za (pv 7) zb))) (fun _=>rfl))) (zi (zC j9)) zx)
  (zi (xK dO rfl (BX (yW rfl B.enumerate (za (pv 4) zb))) (Gc (ji (K:=K) 2 rfl rfl (zP (zR (i:=9) sc.nd rfl (by first | exact bh rfl | exact bj rfl)) (zP (zR (i:=10) sc.nd rfl (by first | exact bh rfl | exact bj rfl)) jl)))) (zc (zL (jG (jd (zX D_law_stands hr rfl (za (zI (qm hr) (pv 10) zj (fun _ _=>rfl)) (za (zI (qm hr) (pv 10) zj (fun _ _=>rfl)) (za (zI (qm hr) (pv 10) zj (fun _ _=>rfl)) (za (zI (qm hr) (pv 10) zj (fun _ _=>rfl)) zb))))) (fun _=>rfl))) (zi (zC j9)) zx)
  (zi (zL (PW.pt (ye (zp (jB hr.units) (pv 9) (pv 6) (zr _)) (kS (zp (jB hr.units) (zB (za (jV CL M_row_now hr (zI (qm hr) (pv 10) zj (fun _ _=>rfl))) (za (jV CL M_moved_now hr (zI (qm hr) (pv 10) zj (fun _ _=>rfl))) zb))) (zv zD (pv 8) (pv 9) (fun _ _=>rfl)) (zr _))))) (zi (zC j9)) zx))))))))))))
  (zi (zL (jG (jd (zn (va rfl) rfl Ball KG (za (yM (ts:=[10]) rfl rfl (wL (pv 4)) (fun _ _ _ _=>(zR (i:=10) sc.nd rfl (by first | exact bh rfl | exact bj rfl))) (fun _ _ _ _=>kU) (fun _ _ _ _=>(zX D_law_end_right hr rfl (za (pv 10) (za (pv 3) zb))))) zb)) (fun _=>rfl))) (zi (zC j9)) zx)))))))
  (zi (zC j9)))),?_⟩
 refine ex2 (by walk_at "sim") ?_
 rintro xs M Q ⟨ns,rfl,hn,q⟩
 rw [show zN ["_law_script","_law_k","_law_box_here","_law_n","_law_owns","_law_turn","_law_at","_law_deed_here","_law_told","_law_j","_law_own"] [.d (.scr K ns)]=[some (.d (.scr K ns)),none,none,none,none,none,none,none,none,none,none] from rfl]
 refine zh fun r hr0=>?_
 walk_at "ra"
 refine ⟨4,ns,rfl,by omega,by omega,hn,fun cs lc=>?_⟩
 subst hr0
 refine zh fun r hr0=>?_
 walk_at "ra"
 have e2:(if (cs.length:Int) > 2 then (cs.length:Int) else 2)=((max 2 cs.length:Nat):Int):=by split <;> omega
 rw [e2,bz]
 refine ⟨by omega,by omega,?_⟩
 refine ⟨fun i ρ M'=>(∃ x1 x2 x3 x4 x5 x6 x7 x8 x9 x10,ρ=[some (.d (ilD cs)),x1,x2,x3,x4,x5,x6,x7,x8,x9,x10])/\Fr M M',⟨⟨_,_,_,_,_,_,_,_,_,_,rfl⟩,Fr.refl⟩,?_,?_⟩
 ·rintro i y ρ M1 hy ⟨⟨x1,x2,x3,x4,x5,x6,x7,x8,x9,x10,rfl⟩,f1⟩
  obtain ⟨hi,rfl⟩:=xq hy
  refine ⟨trivial,?_⟩
  rw [Int.zero_add,iJ]
  show yN _ _ _ _ _ _
  refine zh fun r2 hr2=>?_
  walk_at "ra"
  refine ⟨_,i,cs,rfl,F3 _ _,by omega,by omega,by omega,fun b o hb bx=>?_⟩
  have b0:=f1.non hb
  have f2:=f1.mup b0 o
  generalize mup M1 b o=M2 at *
  subst hr2
  refine zh fun r2 hr2=>?_
  walk_at "ra"
  refine ⟨b,24,0,rfl,bx,by omega,by omega,by omega,fun n M3 s3 n0 n1=>?_⟩
  obtain ⟨n,rfl⟩:∃ k:Nat,n=k:=⟨n.toNat,by omega⟩
  have sx:Sx C n M M3 b (0+10) []:=⟨f2.bx s3 b0,s3.1,(fun x hx=>nomatch hx),by simp,fun a ha=>by rw [cI.mp ha];exact b0⟩
  clear f2 s3 bx hb
  subst hr2
  refine zh fun r2 hr2=>?_
  walk_at "ra"
  refine ⟨n,rfl,by omega,fun y1 M4 d1 z1 k1 h1=>⟨n,rfl,by omega,fun y2 M5 d2 z2 k2 h2=>⟨by omega,fun q _ hq=>?_⟩⟩⟩
  have sx2:Sx C n M M5 b (0+10) [y1,y2]:=(sx.add y1 h1 z1 k1).add y2 h2 z2 k2
  clear sx k1 k2 z1 z2 h1 h2
  have sq:=sx2.lst hq
  have hq2:(mup M5 q (.lst [.ref y1.D,.ref y2.D]))=mup M5 q (.lst ([y1,y2].map fun x=>AV.ref x.D)):=rfl
  rw [hq2]
  clear hq2 sx2
  generalize mup M5 q (.lst ([y1,y2].map fun x=>AV.ref x.D))=M6 at *
  subst hr2
  refine zh fun r2 hr2=>?_
  walk_at "ra"
  refine ⟨by omega,by omega,?_⟩
  refine ⟨fun t ρ M'=>∃ xs x5 x6 x7 x8 x9 x10,ρ=[some (.d (ilD cs)),some (.d (.int i)),some (.ref b),some (.d (.int n)),some (.ref q),x5,x6,x7,x8,x9,x10]/\Sq C n M M' b (100+100 * t) q xs/\2<=xs.length/\xs.length<=2+t/\∀ x ∈ xs,x.ds.length<=t,⟨_,_,_,_,_,_,_,rfl,sq.mono (by omega),aJ _,aJ _,fun x hx=>by
   simp only [aA,aK,or_false] at hx
   rcases hx with rfl | rfl
   ·rw [d1];exact aJ _
   ·rw [d2];exact aJ _⟩,?_,?_⟩
  ·rintro t y ρ M7 hy ⟨xs,x5,x6,x7,x8,x9,x10,rfl,sq,hl2,hlt,hds⟩
   obtain ⟨ht,rfl⟩:=xq hy
   refine ⟨trivial,?_⟩
   rw [Int.zero_add,iJ]
   have ht:t<40:=ht
   refine Ju fun D1 hD1=>?_
   refine zh fun r3 hr3=>?_
   have cont:∀ xs M',Sq C n M M' b (140+100 * t) q xs->2<=xs.length->xs.length<=3+t->(∀ x ∈ xs,x.ds.length<=t)->r3 M6 D1 [some (.d (ilD cs)),some (.d (.int i)),some (.ref b),some (.d (.int n)),some (.ref q),some (.d (.int t)),x6,x7,x8,x9,x10] M':=by
    intro xs M8 sq hl2 hlt hds
    subst hr3
    refine zh fun r3 hr3=>?_
    walk_at "ra"
    refine ⟨_,zz sq.own,b,_,_,rfl,sq.sx.bx,by omega,by rw [aq];omega,by rw [aq];omega,fun at_ M9 s9 a0 a1=>?_⟩
    rw [aq] at a1
    have sq:=sq.box s9
    obtain ⟨at_,rfl⟩:∃ j:Nat,at_=j:=⟨at_.toNat,by omega⟩
    have ha:at_<xs.length:=by omega
    clear a0 a1 s9
    obtain ⟨x,hx⟩:∃ x,xs[at_]?=some x:=⟨_,am ha⟩
    have hm:=aR hx
    have hxl:=hds x hm
    have hc:=(sq.sx.rc x hm).cons.1
    have hc1:=hc.1
    subst hr3
    refine zh fun r3 hr3=>?_
    walk_at "ra"
    refine ⟨_,zz sq.own,_,wu (fun x=>AV.ref x.D) hx,_,rfl,_,(sq.sx.rc x hm).dict,_,kN _ _ _ _,_,zz sq.own,_,wu (fun x=>AV.ref x.D) hx,_,rfl,_,(sq.sx.rc x hm).dict,_,jK _ _ _ _,b,x.s.1,x.s.2,_,rfl,sq.sx.bx,by omega,by omega,fun M10 s10=>?_⟩
    have sq:=sq.box s10
    clear s10
    have step:∀ x0:Dat,(x0=.non \/ ∃ d:De,x0=dD d)->r3 M6 D1 [some (.d (ilD cs)),some (.d (.int i)),some (.ref b),some (.d (.int n)),some (.ref q),some (.d (.int t)),some (.d (.int at_)),some (.d x0),x8,x9,x10] M10:=by
     intro x0 hx0
     subst hr3
     refine zh fun r3 hr3=>?_
     have main:∀ d M',OkX d->Sq C n M M' b (180+100 * t) q xs->r3 M6 D1 [some (.d (ilD cs)),some (.d (.int i)),some (.ref b),some (.d (.int n)),some (.ref q),some (.d (.int t)),some (.d (.int at_)),some (.d d),x8,x9,x10] M':=by
      intro d M11 hd sq
      subst hr3
      refine zh fun r3 hr3=>?_
      walk_at "ra"
      refine ⟨_,zz sq.own,?_⟩
      refine Yg (fun o=>[some (.d (ilD cs)),some (.d (.int i)),some (.ref b),some (.d (.int n)),some (.ref q),some (.d (.int t)),some (.d (.int at_)),some (.d d),x8,x9,o]) (fun x:Rc=>AV.ref x.D) (fun x=>.d (tlD x)) xs ⟨_,rfl⟩ (zz sq.own) (by omega) (fun o x Q hx q=>?_) fun o=>?_
      ·have q:=q (some (.ref x.D))
       have rx:=sq.sx.rc x hx
       have cx:=rx.cons
       have l1:=cx.1.1
       have l2:=cx.2
       show kh 10 (AV.ref x.D) _ _ _
       walk_at "ra"
       exact ⟨_,rx.dict,_,kT _ _ _ _,x.p,rfl,_,rx.room.ins,rfl,x.p,x.r,x.v,x.s,x.ms,rfl,rx.room,by omega,_,rx.dict,_,kT _ _ _ _,x.p,rfl,_,rx.room.ins,rfl,x.p,x.r,x.v,x.s,x.ms,rfl,rx.room,by omega,by omega,_,rfl,q⟩
      refine ⟨xs.map tlD,Jv _ _,?_⟩
      subst hr3
      refine zh fun r3 hr3=>?_
      walk_at "ra"
      refine ⟨_,zz sq.own,_,wu (fun x=>AV.ref x.D) hx,n,x,d,rfl,by omega,sq.sx.rc x hm,hd,by omega,fun M12 s ms ds hl12 k12 h12=>⟨true,rfl,?_⟩⟩
      rw [if_neg (by decide)]
      have sq2:=sq.upd hx h12 k12
      have ds2:∀ y ∈ xs.set at_ (x.to s ms ds),y.ds.length<=t+1:=fun y hy=>by
       rcases bZ hy with z | rfl
       ·exact Nat.le_succ_of_le (hds y z)
       ·exact bb hl12 (b9 hxl)
      have len2:(xs.set at_ (x.to s ms ds)).length=xs.length:=bN
      have oth2:∀ j:Nat,j ≠ at_->(xs.set at_ (x.to s ms ds))[j]?=xs[j]?:=fun j hj=>by rw [cb,if_neg (Ne.symm hj)]
      generalize xs.set at_ (x.to s ms ds)=xs2 at *
      subst hr3
      walk_at "ra"
      have eo:qo (.ref q) M12=some ((xs2.map Rc.D).map AV.ref):=by rw [aY];exact jx sq2.own
      refine ⟨xs2.map Rc.D,eo,?_⟩
      refine ⟨fun j ρ M'=>M'=M12/\∃ u9 u10,ρ=[some (.d (ilD cs)),some (.d (.int i)),some (.ref b),some (.d (.int n)),some (.ref q),some (.d (.int t)),some (.d (.int at_)),some (.d d),some (.d (.lst (xs.map tlD))),u9,u10],⟨rfl,_,_,rfl⟩,?_,?_⟩
      ·rintro j y ρ M13 hy ⟨rfl,u9,u10,rfl⟩
       obtain ⟨a,ha2,rfl⟩:=ZC hy
       rw [aE] at ha2
       obtain ⟨z,hz,rfl⟩:=dA.mp ha2
       refine ⟨eo,?_⟩
       have rz:=sq2.sx.rc z (aR hz)
       have cz:=rz.cons
       have l1:=cz.1.1
       have l2:=cz.2
       refine Ju fun D2 hD2=>?_
       walk_at "ra"
       refine ⟨_,rfl,rfl,_,_,rfl,_,_,rfl,rfl,_,rfl,_,rz.dict,_,kT _ _ _ _,_,rfl,_,rz.dict,_,kN _ _ _ _,_,rfl,_,rz.dict,_,jK _ _ _ _,_,rfl,_,rz.dict,_,Qu _ _ _ _,z.p,z.r,z.v,z.m,z.s,z.ms,rfl,rz.room,rz.mvd,by omega,by omega,?_⟩
       refine ⟨true,rfl,?_⟩
       rw [if_neg (by decide)]
       refine ⟨.int (j:Int),rfl,by rw [jc];omega,?_⟩
       rw [xB]
       by_cases cj:j=at_
       ·rw [if_neg (by subst cj;simp)]
        subst hD2
        exact ⟨rfl,_,_,rfl⟩
       ·rw [if_pos (decide_eq_false (by omega))]
        refine ⟨_,rfl,_,rz.dict,_,kT _ _ _ _,z.p,rfl,_,rz.room.ins,rfl,z.p,z.r,z.v,z.s,z.ms,rfl,rz.room,by omega,_,rfl,_,rz.dict,_,kT _ _ _ _,z.p,rfl,_,rz.room.ins,rfl,z.p,z.r,z.v,z.s,z.ms,rfl,rz.room,by omega,by omega,_,rfl,?_⟩
        have hz1:xs[j]?=some z:=(oth2 j cj).symm.trans hz
        have dz:=Lq z
        refine ⟨(j:Int),rfl,.d (tlD z),by rw [aY];exact wu (fun x=>AV.d (tlD x)) hz1,tlD z,rfl,dz,dz,?_⟩
        rw [show Dat.tup [Dat.tup (cf oD z.s.fst),Dat.tup (cf Dat.int z.ms)]=tlD z from rfl,yp (dG dz (by decide)),if_neg (by decide)]
        subst hD2
        exact ⟨rfl,_,_,rfl⟩
      ·rintro ρ M13 ⟨rfl,u9,u10,rfl⟩
       refine ⟨eo,?_⟩
       subst hD1
       exact ⟨xs2,_,_,_,_,_,_,rfl,sq2.mono (by omega),by omega,by omega,ds2⟩
     have odd:∀ M' N,Sq C n M M' b N q xs->N<=170+100 * t->IN [.ref b,.d (.int n)] M' fun y M2=>r3 M6 D1 [some (.d (ilD cs)),some (.d (.int i)),some (.ref b),some (.d (.int n)),some (.ref q),some (.d (.int t)),some (.d (.int at_)),some y,x8,x9,x10] M2:=fun M' N sq hN=>
      ⟨b,_,n,rfl,sq.sx.bx,by omega,by omega,fun d M11 s11 ok _=>main d M11 ok ((sq.box s11).mono (by omega))⟩
     rcases hx0 with rfl | ⟨dd,rfl⟩
     ·walk_at "ra"
      exact odd _ _ sq (by omega)
     ·have okd:=Ln dd
      have nn:jP (AV.d (dD dd))=false:=by cases dd <;> rfl
      walk_at "ra"
      rw [nn,if_neg (by decide)]
      refine ⟨b,4,_,rfl,sq.sx.bx,by omega,by omega,by omega,fun v M11 s11 _ _=>⟨_,rfl,by rw [jc];omega,?_⟩⟩
      have sq:=sq.box s11
      split
      ·exact odd _ _ sq (by omega)
      ·exact main _ _ okd (sq.mono (by omega))
    exact ⟨step .non (.inl rfl),fun d _ _=>step (dD d) (.inr ⟨d,rfl⟩)⟩
   walk_at "ra"
   by_cases c:(t:Int)=12
   ·rw [if_pos c]
    refine ⟨⟨_,jx sq.own⟩,b,2,_,rfl,sq.sx.bx,by omega,by omega,by omega,fun k M8 s8 k0 k1=>?_⟩
    have sq8:=sq.box s8
    obtain ⟨k,rfl⟩:∃ j:Nat,k=j:=⟨k.toNat,by omega⟩
    obtain ⟨x,hx⟩:∃ x,xs[k]?=some x:=⟨_,am (by omega)⟩
    have hm:=aR hx
    have hxl:=hds x hm
    refine ⟨_,zz sq8.own,_,rfl,_,wu _ hx,n,x,rfl,by omega,sq8.sx.rc x hm,by omega,fun y M9 e9 z9 k9 h9=>?_⟩
    obtain ⟨o9,sq9⟩:=sq8.add y h9 z9 k9
    refine ⟨_,o9,by rw [aq];omega,?_⟩
    rw [show (xs.map fun x=>AV.ref x.D) ++ [.ref y.D]=(xs ++ [y]).map fun x=>AV.ref x.D by rw [bB];rfl]
    refine cont (xs ++ [y]) _ (sq9.mono (by omega)) (by rw [bE,fN];omega) (by rw [bE,fN];omega) fun z hz=>?_
    rcases cq.mp hz with hz | hz
    ·exact hds z hz
    ·rw [cI.mp hz,e9];exact hxl
   ·rw [if_neg c]
    exact cont xs _ (sq.mono (by omega)) hl2 (by omega) hds
  ·rintro ρ M7 ⟨xs,x5,x6,x7,x8,x9,x10,rfl,sq,hl2,hlt,hds⟩
   refine ⟨trivial,?_⟩
   subst hr2
   walk_at "ra"
   refine ⟨_,zz sq.own,?_⟩
   refine Yg (fun o=>[some (.d (ilD cs)),some (.d (.int i)),some (.ref b),some (.d (.int n)),some (.ref q),x5,x6,x7,x8,x9,o]) (fun x:Rc=>AV.ref x.D) (fun _=>.d (.bl true)) xs ⟨_,rfl⟩ (zz sq.own) (by rw [jU] at hlt;omega) (fun o x Q hx q=>?_) fun o=>?_
   ·have q:=q (some (.ref x.D))
    have:=hds x hx
    show kh 10 (AV.ref x.D) _ _ _
    walk_at "ra"
    exact ⟨n,x,rfl,by omega,sq.sx.rc x hx,by rw [jU] at this;omega,q⟩
   refine ⟨xs.map fun _=>.bl true,Jv _ _,xs.map fun _=>true,by rw [aY,aY];rfl,?_⟩
   rw [if_neg (by rw [lO];simp)]
   exact ⟨⟨_,rfl⟩,sq.sx.fr⟩
 ·rintro ρ M1 ⟨⟨x1,x2,x3,x4,x5,x6,x7,x8,x9,x10,rfl⟩,f1⟩
  refine ⟨trivial,?_⟩
  subst hr0
  walk_at "ra"
  exact VY f1 q
end
variable {l:PySem.W.OpenLaw}
theorem all_mk {w:bo}{K:ax}{h:Heap}{mg:Str->Option aj}{fa C pa cBadDeed cBadPlan fBadDeed fBadPlan:au}{cdd:ClassData}(X:K.In h)(G:h.Ns bc mg)(hfa:mg "law"=some (.ref fa))(a:At K mg "law" Bm)(B:Blt mg)(Ball:mg "all"=none)
  (a__law_take:At K mg "_law_take" K1) (a__law_box:At K mg "_law_box" Be) (a__law_folded:At K mg "_law_folded" wD) (a__law_length:At K mg "_law_length" wC) (a__law_deed:At K mg "_law_deed" Xb) (a__law_done:At K mg "_law_done" Kg) (a__law_same:At K mg "_law_same" wy) (a__law_stands:At K mg "_law_stands" yZ) (a__law_counted:At K mg "_law_counted" yc) (a__law_why:At K mg "_law_why" Kl) (a__law_odd:At K mg "_law_odd" Wp) (a__law_tried:At K mg "_law_tried" Z5) (a__law_begun:At K mg "_law_begun" QC) (a__law_twin_of:At K mg "_law_twin_of" yY) (a__law_end_right:At K mg "_law_end_right" ZO) (a_is_place:At K mg "is_place" yi) (a_is_deed:At K mg "is_deed" v8) (a_back_of:At K mg "back_of" Z2) (a_room_behind:At K mg "room_behind" Kv) (a_walked:At K mg "walked" Bc)
  (ag_BadDeed:bF K bc "BadDeed"=some (some (.ref cBadDeed)))
  (ag_BadPlan:bF K bc "BadPlan"=some (some (.ref cBadPlan)))
  (xgs:fD K (.builtin "object.__class__") "__get__"=some (some (.builtin "getset_descriptor.__get__")))
  (xtk:iD K (.builtin "object.__class__")=some true)
  (dbx:PySem.W.subIn K (.ref cBadDeed) (.type "BaseException")=some true)
  (dga:bt K (.ref cBadDeed) "__getattribute__"=some (some (.builtin "BaseException.__getattribute__")))
  (dgt:bt K (.ref cBadDeed) "__getattr__"=some none)
  (dcl:bt K (.ref cBadDeed) "__class__"=some (some (.builtin "object.__class__")))
  (dmo:PySem.W.mroIn K cBadDeed (.type "object")=some true)
  (dis:PySem.W.clsIn K cBadDeed=some cdd)
  (dhd:dQ K cBadDeed=true)
  (dfw:bt K (.ref cBadDeed) "word"=some none)
  (di:eO K (.ref cBadDeed) (.ref cBadDeed)=some true)
  (xa_BadDeed:bt K (.ref cBadDeed) "__init__"=some (some (.ref fBadDeed))) (xd_BadDeed:∃ fd,Fun K "__init__" "BadDeed.__init__" wl fBadDeed fd) (xn_BadDeed:cZ K (.ref fBadDeed)=true) (xq_BadDeed:jR K cBadDeed wH "ValueError.__new__" fBadDeed=true) (xs_BadDeed_word:yC K cBadDeed "word")
  (xa_BadPlan:bt K (.ref cBadPlan) "__init__"=some (some (.ref fBadPlan))) (xd_BadPlan:∃ fd,Fun K "__init__" "BadPlan.__init__" yo fBadPlan fd) (xn_BadPlan:cZ K (.ref fBadPlan)=true) (xq_BadPlan:jR K cBadPlan wH "ValueError.__new__" fBadPlan=true) (xs_BadPlan_place:yC K cBadPlan "place") (xs_BadPlan_word:yC K cBadPlan "word")
  (aP:bF K bc "PLACES_OF"=some (some (.ref pa))) {t1 t2 t3 t4 u1 u2 u3 u4:Tok} {ep:Nat}
  (lP:K.lookup pa=some ⟨.type "dict",none,.dict #[⟨gL w "swap",.str "swap" t1,.int 2 u1⟩,⟨gL w "take",.str "take" t2,.int 1 u2⟩,⟨gL w "move",.str "move" t3,.int 2 u3⟩,⟨gL w "lay",.str "lay" t4,.int 1 u4⟩] ep,#[]⟩) (nP:(pa == dq)=false)
  (aC:bF K bc "Room"=some (some (.ref C))) (pg:eP K C Str.empty=true) (hd:dQ K C=true) (po:gO K C=true) (sa:bt K (.ref C) "__setattr__"=some (some (.builtin "object.__setattr__"))) (mk:iC K C=true) (kc:cR K (.ref C)=true)
  (nr:bt K (.ref C) "row"=some none) (nh:bt K (.ref C) "hand"=some none) (nm:bt K (.ref C) "moved"=some none)
  (am___init__:AtM K C "__init__" "Room.__init__" Qd) (am_do:AtM K C "do" "Room.do" Li) (am_swap:AtM K C "swap" "Room.swap" Xa) (am_take:AtM K C "take" "Room.take" Qx) (am_move:AtM K C "move" "Room.move" Ku) (am_lay:AtM K C "lay" "Room.lay" BB) (am_lift:AtM K C "lift" "Room.lift" KI) (am_row_now:AtM K C "row_now" "Room.row_now" Xp) (am_hand_now:AtM K C "hand_now" "Room.hand_now" KQ) (am_moved_now:AtM K C "moved_now" "Room.moved_now" J0) (am_twin:AtM K C "twin" "Room.twin" Xl)
 :∃ fd:cV,(∀ (s:aw) (v:aj),ib s fd ⟨[v],[]⟩ [("_law_script",v)])/\∀ base:Heap,K.In base->base.Ns bc mg->jA l.prog w K mg base CX0 20 fa fd ["_law_script"] (X9 K):=by
 obtain ⟨f,fd,F,m⟩:=id a
 obtain rfl:fa=f:=by rw [hfa] at m;cases m;rfl
 obtain ⟨oc,od,kV,doc,pm,an,cdv,ct,osl,e,lk,hcd⟩:=F.ex
 refine ⟨fd,fun s v=>?_,fun base _ _=>?_⟩
 ·subst e;exact .of_eq rfl
 ·have T:=Eo (P:=l.prog) (w:=w) (base:=base) a__law_take B
  have XG_BadDeed:=fX X G ag_BadDeed
  have XG_BadPlan:=fX X G ag_BadPlan
  have R:RTx K C:=⟨⟨pg,hd,po,sa⟩,nr,nh,nm⟩
  have KP:KD K w pa Fy:=Vx lP nP
  have MP:=fX X G aP
  have MC:=fX X G aC
  have XD:XB K cBadDeed:=⟨⟨dbx,dga,dgt,dcl,xgs,xtk,dmo,by rw [dis];rfl⟩,di,dhd,dfw⟩
  obtain ⟨fdB,FB⟩:=xd_BadDeed
  obtain ⟨fdP,FP⟩:=xd_BadPlan
  have MX:MkX l.prog w K mg base cBadDeed 1 1 fnW:=ID FB xq_BadDeed xn_BadDeed xs_BadDeed_word
  have MP1:MkX l.prog w K mg base cBadPlan 1 2 fnP:=Hs FP xq_BadPlan xn_BadPlan xs_BadPlan_place xs_BadPlan_word
  have MP2:Qc l.prog w K mg base cBadPlan 1 2 fnP:=FZ FP xq_BadPlan xn_BadPlan xs_BadPlan_place xs_BadPlan_word
  have d1:=Vt (P:=l.prog) (w:=w) (base:=base) a_is_deed B Ball (Js a_is_place B) KP MP
  have ml:=DF am_lift R B MX XG_BadDeed
  have md:=IA am_do R B (MkX.mono MX (by decide)) XG_BadDeed (d1.mono (by decide)) ((A0 am_swap R B MX XG_BadDeed).mono (by decide)) (Vq am_take R B (MkX.mono MX (by decide)) XG_BadDeed ml) (Bb am_move R B (MkX.mono MX (by decide)) XG_BadDeed ml) ((F9 am_lay R B MX XG_BadDeed).mono (by decide))
  obtain ⟨fi,fdi,Fi,bi,mi⟩:=(Ba (P:=l.prog) (w:=w) (base:=base) am___init__ R B).mono (show 1<=5 by decide)
  have MR:Mkr l.prog w K mg base "Room" C ["self","n"] 5 (cSp (Jn C)):=⟨fi,fdi,Fi,bi,⟨mk,mi.at_,mi.fn,kc⟩,MC⟩
  have rn:=Eg (P:=l.prog) (w:=w) (base:=base) am_row_now R B
  have hn:=Gg (P:=l.prog) (w:=w) (base:=base) am_hand_now R B
  have mn:=F1 (P:=l.prog) (w:=w) (base:=base) am_moved_now R B
  have rb:=Ge (P:=l.prog) (w:=w) (base:=base) a_room_behind B R.cl XG_BadDeed XG_BadPlan (MkX.mono MP1 (by decide)) (MP2.mono (by decide)) XD MR (md.mono (by decide))
  have wk:=Hk (P:=l.prog) (w:=w) (base:=base) a_walked B R.cl rb ((DH a_back_of B).mono (by decide)) (rn.mono (by decide)) (hn.mono (by decide)) (mn.mono (by decide))
  have tk:=T.imp' FH
  have tr:=BQ (P:=l.prog) (w:=w) (base:=base) a__law_tried B R.cl XG_BadDeed XD (md.mono (by decide)) ((F2 a__law_why B).mono (by decide)) ((Q8 a__law_counted B).mono (by decide)) ((EN a__law_done B).mono (by decide))
  have bg:=BY (P:=l.prog) (w:=w) (base:=base) a__law_begun B R.cl MR
  have tw:=Xo (P:=l.prog) (w:=w) (base:=base) a__law_twin_of B R.cl (Gi am_twin R B MR)
  have st:=KF (P:=l.prog) (w:=w) (base:=base) a__law_stands B ((JR a__law_same B Ball 3).mono (by decide)) R.cl (rn.mono (by decide)) (hn.mono (by decide)) (mn.mono (by decide))
  have en:=BK (P:=l.prog) (w:=w) (base:=base) (C:=C) a__law_end_right B (wk.mono (by decide))
  have L:=Ip (P:=l.prog) (w:=w) (base:=base) (C:=C) a B Ball (((HC a__law_box B).imp' IK).mono (by decide)) (((Vk a__law_folded B).imp' Y5).mono (by decide)) (((V2 a__law_length B T).imp' YX).mono (by decide)) (tk.mono (by decide)) ((Fp a__law_deed B tk).mono (by decide)) ((Hl a__law_odd B tk).mono (by decide)) (st.mono (by decide)) (tr.mono (by decide)) (bg.mono (by decide)) (tw.mono (by decide)) (en.mono (by decide)) R.cl (rn.mono (by decide)) (mn.mono (by decide))
  exact (L.imp' (sp_law (K:=K))).fn m lk
theorem walk {q:aS}{loose:List Str}{XP:(Str->Option aj)->Heap->Prop}{YP:bo->Heap->Prop}{d:DefRec}{K:Params->ax}(hn:l.most=some 63)(hdf:d.params.defaults=[])
  (hY:∀ (w:bo) (h:Heap),YP w h->(K w.params).In h)
  (F:∀ (w:bo) (mg:Str->Option aj) (fa:au) (h:Heap),(K w.params).In h->h.Ns bc mg->mg d.name=some (.ref fa) ->
   ∃ fd:cV,(∀ (s:aw) (u:aj),ib s fd ⟨[u],[]⟩ [("_law_script",u)])/\∀ base:Heap,(K w.params).In base->base.Ns bc mg->jA l.prog w (K w.params) mg base CX0 20 fa fd ["_law_script"] (X9 (K w.params))) :
  PySem.W.WalkO q loose XP YP l.row.toRowW d [] (fun f vs=>mK f vs):=
 L2.walk_of (n:=63) (k:=20) (x:="_law_script") (CX:=fun _=>CX0) (sp:=fun w=>X9 (K w.params)) hn (by decide) hdf ⟨rfl,rfl,by decide,by decide⟩ hY F (fun _ _ a ns hl _ hS=>⟨a,ns,rfl,hS,hl,fun _=>rfl⟩) fun _ _ _ _ _ z=>z
end Ot
theorem PySem.W.Fast.te5147156227824668111:True:=trivial
theorem PySem.W.Fast.te6987080269122462380:True:=trivial
theorem PySem.W.Fast.te645252168797216374:True:=trivial
namespace PySem.W.Fast
def tw12814027037874374718:=()
def tw4255271249508600575:=()
def tw2338201957390801433:=()
def tw6593953701403746040:=()
def tw4523105160646522854:=()
def tw10026592693159859008:=()
def tw14050689765135261576:=()
def tw15289807513180790654:=()
def tw3040498115869199185:=()
def tw8560248636684078716:=()
def tw3678427745825868076:=()
def tw8212195927614233833:=()
def tw1060518263706932596:=()
def tw1991795944720469045:=()
def tw7958797000884435553:=()
def tw17153912327367421254:=()
def tw14592896060999715087:=()
def tw16355572227082038619:=()
def tw13904291520162099545:=()
def tw8547510901786228042:=()
def tw8694388731552261986:=()
def tw13155328225616868351:=()
def tw11100912582751699607:=()
def tw16295958115335949282:=()
def tw9559887003848150482:=()
def tw11338465877178651979:=()
def tw17352987920106832044:=()
def tw1753445524863679571:=()
def tw7232681146500425629:=()
def tw10771241851043449991:=()
def tw16656718910309919386:=()
def tw7076475070019213210:=()
def tw17276416555107271928:=()
def tw18033316559641674741:=()
def tw15121311831751176188:=()
def tw6094203978491993976:=()
def tw17583297600656257165:=()
def tw2826884780672070146:=()
def tw7914047074830378305:=()
def tw9223369599767703414:=()
def tw4297063235593113934:=()
def tw1505286073440546397:=()
def tw18128091240245027387:=()
def tw11598501221943487985:=()
def tw10183048809507555127:=()
def tw16141698897275524897:=()
def tw13858100705382836801:=()
def tw1026119049922216739:=()
def tw1696668231142699619:=()
def tw10169460323052717159:=()
def tw6820614021500325568:=()
def tw15788353938742022640:=()
def tw12959369587395828001:=()
def tw8493236525611407735:=()
def tw7475030435697248056:=()
def tw10693482781094071365:=()
def tw4942953185558366940:=()
def tw4756053664221981708:=()
def tw8015721654243395009:=()
def tw15573700800965678948:=()
def tw4891749098653350782:=()
def tw11833684086711053474:=()
def tw4054108819113728863:=()
def tw1204373400582617085:=()
def tw11366941728373830361:=()
def tw14402785490103140510:=()
def tw11254180817862934157:=()
def tw17392226411544861625:=()
def tw11435252187877531023:=()
def tw14899875863699794610:=()
def tw954324907056299748:=()
def tw2765203967777585148:=()
def tw6988901005090202732:=()
def tw15779631967248130012:=()
def tw15891002526248005257:=()
def tw8291423465711238407:=()
def tw2623979089851354146:=()
def tw2282484754318651217:=()
def tw7414365187535470753:=()
def tw7630942039373734972:=()
def tw14148931912850424889:=()
def tw17911290685767304111:=()
def tw15621727125253299392:=()
def tw15723749901625700101:=()
def tw673590717990403082:=()
def tw12191442998849811289:=()
def tw4395705734832348641:=()
def tw11574483534141126452:=()
def tw4102171102033586568:=()
def tw13406336679972330920:=()
def tw13598168008392489888:=()
def tw5150711741672968131:=()
def tw12519403666186278195:=()
def tw11491601961372660855:=()
def tw17795400254778081674:=()
def tw8909157790381385154:=()
def tw5525925832695245763:=()
def tw12667752089568080469:=()
def tw15574305785346227335:=()
def tw14413411639934360327:=()
def tw14969938113764783487:=()
def tw8930808000389634864:=()
def tw4142891737882917023:=()
def tw3596617888272073619:=()
def tw15356694033736125872:=()
def tw8074436675872823580:=()
def tw8003954922658840411:=()
def tw8741069392905189064:=()
def tw18074715570949800772:=()
def tw350105170643279081:=()
def tw3174390169059165164:=()
def tw15911655803554137697:=()
def tw3594006333334465630:=()
def tw12503055900560353197:=()
def tw8749463711641733233:=()
def tw3774375991571729485:=()
def tw10987493488275335313:=()
def tw7129785087252945333:=()
def tw15395849176492438744:=()
def tw12296916293921624147:=()
def tw15718126411222555181:=()
def tw16251748598462658013:=()
def tw3142375124855031328:=()
def tw12795075684214418984:=()
def tw3650163875432782567:=()
def tw15800428650235704309:=()
def tw2797592280911766150:=()
def tw1184373105166139795:=()
def tw9755314147153781665:=()
def tw8184161303118048652:=()
def tw13572613293202668550:=()
def tw3862480146178012771:=()
def tw16697187038469980869:=()
def tw15021857870333469613:=()
def tw9061496393867388703:=()
def tw9203089966094961900:=()
def tw12093197193430961331:=()
def tw10512321858056822724:=()
def tw16393045750302963800:=()
def tw12328322103430843037:=()
def tw4785864654987540551:=()
def tw7792300968107641446:=()
def tw13799272731939436532:=()
def tw2716806185794405281:=()
def tw84645665053782672:=()
def tw10106005463241827909:=()
def tw17958142879889669112:=()
def tw3516201865763100428:=()
def tw8609030719027294123:=()
def tw4619092538411015546:=()
def tw5483490537932286817:=()
def tw3155658828682394406:=()
def tw13642369214908744409:=()
def tw14810870867475797954:=()
def tw2049347721024855396:=()
def tw14345727765345455136:=()
def tw8861413870941815830:=()
def tw9092937077583791533:=()
def tw17337798614448930408:=()
def tw1753036026013925014:=()
def tw13887839598564264333:=()
def tw14746735001461566482:=()
def tw2066058121472044043:=()
def tw15088631309576862637:=()
def tw5272612207160982884:=()
def tw17624701402030425647:=()
def tw16641298340540546555:=()
def tw6225817791465315260:=()
def tw729472530882049537:=()
def tw11771572334338687858:=()
def tw8432669781102780142:=()
def tw311564153248809243:=()
def tw7266276014953455431:=()
def tw4854362516272180674:=()
def tw6087588030962093018:=()
def tw5074621944424063296:=()
def tw7429390790826422073:=()
def tw15497017651809793194:=()
def tw3144796032648241741:=()
def tw2200998534226426851:=()
def tw4052256798056161453:=()
def tw8623602074838383192:=()
def tw13848079702739865435:=()
def tw5610445111144648752:=()
def tw16990566301069921264:=()
def tw15743679296658229488:=()
def tw1696426311673381404:=()
def tw15813882076570091906:=()
def tw10453719591591419417:=()
def tw5543911200707505001:=()
def tw3870602060244431140:=()
def tw2367074955016246420:=()
def tw11909331978059223367:=()
def tw5216290138856684310:=()
def tw10278254877666058336:=()
def tw5521662913446843840:=()
def tw4148375660237412371:=()
def tw4277346380349229720:=()
def tw349300306417126582:=()
def tw878567702080251262:=()
def tw14923899285426806135:=()
def tw16125149236083249862:=()
def tw9020050908844312144:=()
def tw9029758976681387999:=()
def tw10203010281803355234:=()
def tw3619365018397203264:=()
def tw14122942725448121750:=()
def tw16707644121372358507:=()
def tw12250110926075318920:=()
def tw12605024777477298625:=()
def tw15631470315835572215:=()
def tw5933538367867544274:=()
def tw11353085741711852507:=()
def tw8769721621772597198:=()
def tw6096801487562174407:=()
def tw4808473309194280513:=()
def tw8619615818053448692:=()
def tw18360395983500247793:=()
def tw14052874376783864908:=()
def tw2257676522701160540:=()
def tw15505831736469111008:=()
def tw1519383094815295365:=()
def tw5219196555556926188:=()
def tw2461069742745917865:=()
def tw12369725277616859196:=()
def tw2530556138248356327:=()
def tw7692948326144085703:=()
def tw7338916734081372716:=()
def tw9508031168104934331:=()
def tw2577265337961446539:=()
def tw15817345233798280599:=()
def tw5546497423453969465:=()
def tw14111682851308442269:=()
def tw858342329593919297:=()
def tw13608421452410459641:=()
def tw15548212340001230111:=()
def tw5156615889644268880:=()
def tw11186866969904055362:=()
def tw1929067555655569133:=()
def tw13067661382844704800:=()
def tw16293066125449841761:=()
def tw5714443085910105626:=()
def tw14282218498864447191:=()
def tw8566199817868176067:=()
def tw76267478831804015:=()
def tw16606222380346406394:=()
def tw12772461488586248526:=()
def tw10440380325747839459:=()
def tw5490567642471031022:=()
def tw3563992899151495307:=()
def tw9082266360606263881:=()
def tw8193890169735872793:=()
def tw2744057652669715944:=()
def tw9415680983892487746:=()
def tw12135391953320598288:=()
def tw3781446765592575296:=()
def tw1171427338839551802:=()
def tw1827081531816830195:=()
def tw18343395723266594876:=()
def tw2956322726224177726:=()
def tw11511265591956711896:=()
def tw3749664206921210970:=()
def tw1446508556031164907:=()
def tw425536818741811866:=()
def tw7115387396077976899:=()
def tw11370154553726003601:=()
def tw14575534332004637076:=()
def tw15028072970888445231:=()
def tw2107078846319367146:=()
def tw9595511252703756016:=()
def tw2233864139167608709:=()
end PySem.W.Fast
open PySem PySem.W PyProof.Rows
set_option maxRecDepth 100000 in
set_option maxHeartbeats 0 in
theorem PySem.Challenge.cw_ownturn_k13_whole_rooms_apart_holds : PySem.Challenge.rw_ownturn_k13_whole_rooms_apart.Holds := by
 w_on; o_law; k_head; (case hw => w_witness2)
 k_fill
 refine Ot.walk (l := PySem.Challenge.rw_ownturn_k13_whole_rooms_apart) rfl rfl (fun w h Y => PySem.W.kIn_of Y) ?F
 case F =>
  intro w mg fa h KX G hmg
  refine' Ot.all_mk KX G hmg (L2.at_mk KX G ?a0 ?l0 ?c0 ?k0) (L2.blt_mk KX G ?z1 ?z2 ?z3 ?z4 ?z5 ?z6 ?z7 ?z8 ?z9 ?z10 ?z11 ?z12 ?z13 ?z14 ?z15 ?z16) (PySem.W.mg_none_of KX G ?zall) (L2.at_mk KX G ?a1 ?l1 ?c1 ?k1) (L2.at_mk KX G ?a2 ?l2 ?c2 ?k2) (L2.at_mk KX G ?a3 ?l3 ?c3 ?k3) (L2.at_mk KX G ?a4 ?l4 ?c4 ?k4) (L2.at_mk KX G ?a5 ?l5 ?c5 ?k5) (L2.at_mk KX G ?a6 ?l6 ?c6 ?k6) (L2.at_mk KX G ?a7 ?l7 ?c7 ?k7) (L2.at_mk KX G ?a8 ?l8 ?c8 ?k8) (L2.at_mk KX G ?a9 ?l9 ?c9 ?k9) (L2.at_mk KX G ?a10 ?l10 ?c10 ?k10) (L2.at_mk KX G ?a11 ?l11 ?c11 ?k11) (L2.at_mk KX G ?a12 ?l12 ?c12 ?k12) (L2.at_mk KX G ?a13 ?l13 ?c13 ?k13) (L2.at_mk KX G ?a14 ?l14 ?c14 ?k14) (L2.at_mk KX G ?a15 ?l15 ?c15 ?k15) (L2.at_mk KX G ?a16 ?l16 ?c16 ?k16) (L2.at_mk KX G ?a17 ?l17 ?c17 ?k17) (L2.at_mk KX G ?a18 ?l18 ?c18 ?k18) (L2.at_mk KX G ?a19 ?l19 ?c19 ?k19) (L2.at_mk KX G ?a20 ?l20 ?c20 ?k20) ?xgD ?xgP ?xfxgs ?xfxtk ?xfdbx ?xfdga ?xfdgt ?xfdcl ?xfdmo ?xfdis ?xfdhd ?xfdfw ?xfdi ?xaD ⟨_, L2.fun_mk ?xlD ?xcD ?xkD⟩ ?xnD ?xqD ⟨?xsDword, ?xtDword, ?xhDword, ?xmDword, ?xvDword⟩ ?xaP ⟨_, L2.fun_mk ?xlP ?xcP ?xkP⟩ ?xnP ?xqP ⟨?xsPplace, ?xtPplace, ?xhPplace, ?xmPplace, ?xvPplace⟩ ⟨?xsPword, ?xtPword, ?xhPword, ?xmPword, ?xvPword⟩ ?aP ?lP ?nP ?aC ?pg ?hd ?po ?sa ?mk ?kc ?nr ?nh ?nm (L2.atm_mk ?ma0 ?mi0 ?ml0 ?mc0 ?mk0) (L2.atm_mk ?ma1 ?mi1 ?ml1 ?mc1 ?mk1) (L2.atm_mk ?ma2 ?mi2 ?ml2 ?mc2 ?mk2) (L2.atm_mk ?ma3 ?mi3 ?ml3 ?mc3 ?mk3) (L2.atm_mk ?ma4 ?mi4 ?ml4 ?mc4 ?mk4) (L2.atm_mk ?ma5 ?mi5 ?ml5 ?mc5 ?mk5) (L2.atm_mk ?ma6 ?mi6 ?ml6 ?mc6 ?mk6) (L2.atm_mk ?ma7 ?mi7 ?ml7 ?mc7 ?mk7) (L2.atm_mk ?ma8 ?mi8 ?ml8 ?mc8 ?mk8) (L2.atm_mk ?ma9 ?mi9 ?ml9 ?mc9 ?mk9) (L2.atm_mk ?ma10 ?mi10 ?ml10 ?mc10 ?mk10)
  (case xgD | xgP => k_is)
  (case xfxgs | xfxtk | xfdbx | xfdga | xfdgt | xfdcl | xfdmo | xfdis | xfdhd | xfdfw | xfdi => first | k_is | kit_is | kts_exm)
  (case xaD | xlD | xcD | xkD | xnD => k_is)
  (case xqD => first | rfl | with_unfolding_all rfl | exact Eq.refl true)
  (case xsDword | xtDword | xhDword | xmDword => k_is)
  (case xvDword => first | rfl | with_unfolding_all rfl | exact Eq.refl true)
  (case xaP | xlP | xcP | xkP | xnP => k_is)
  (case xqP => first | rfl | with_unfolding_all rfl | exact Eq.refl true)
  (case xsPplace | xtPplace | xhPplace | xmPplace => k_is)
  (case xvPplace => first | rfl | with_unfolding_all rfl | exact Eq.refl true)
  (case xsPword | xtPword | xhPword | xmPword => k_is)
  (case xvPword => first | rfl | with_unfolding_all rfl | exact Eq.refl true)
  (case aP | lP => k_is)
  (case nP => first | rfl | decide | k_is)
  (case aC | a0 | l0 | c0 | k0 | a1 | l1 | c1 | k1 | a2 | l2 | c2 | k2 | a3 | l3 | c3 | k3 | a4 | l4 | c4 | k4 | a5 | l5 | c5 | k5 | a6 | l6 | c6 | k6 | a7 | l7 | c7 | k7 | a8 | l8 | c8 | k8 | a9 | l9 | c9 | k9 | a10 | l10 | c10 | k10 | a11 | l11 | c11 | k11 | a12 | l12 | c12 | k12 | a13 | l13 | c13 | k13 | a14 | l14 | c14 | k14 | a15 | l15 | c15 | k15 | a16 | l16 | c16 | k16 | a17 | l17 | c17 | k17 | a18 | l18 | c18 | k18 | a19 | l19 | c19 | k19 | a20 | l20 | c20 | k20 | zall | z1 | z2 | z3 | z4 | z5 | z6 | z7 | z8 | z9 | z10 | z11 | z12 | z13 | z14 | z15 | z16 | pg | hd | po | sa | mk | kc | nr | nh | nm | ma0 | mi0 | ml0 | mc0 | mk0 | ma1 | mi1 | ml1 | mc1 | mk1 | ma2 | mi2 | ml2 | mc2 | mk2 | ma3 | mi3 | ml3 | mc3 | mk3 | ma4 | mi4 | ml4 | mc4 | mk4 | ma5 | mi5 | ml5 | mc5 | mk5 | ma6 | mi6 | ml6 | mc6 | mk6 | ma7 | mi7 | ml7 | mc7 | mk7 | ma8 | mi8 | ml8 | mc8 | mk8 | ma9 | mi9 | ml9 | mc9 | mk9 | ma10 | mi10 | ml10 | mc10 | mk10 => k_is)
